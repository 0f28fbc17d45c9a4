/- The array of one value; a value that may not be; at, Spread. -/
import Derived.Test.YtfgddhabepllfaaDoorG
namespace Go.Proofs.YtfgddhabepllfaaDoor
open Go.RowKit

/-- an array that is handed back -/
def ArOut (w : World) (a : Ar) (e : Ending) (w' : World) : Prop := ∃ v, e = .returned (arV a.r a.c v) ∧ ValAt w'.heap.size w' v a.l ∧ Below w.heap.size w w'
theorem val_one {w : World} {g t : Nat} {x : Vl} (h : w.heap[g]? = some (.cells #[.int .i64 x.k, .int .i64 x.m, .int .i64 x.e, .string x.t, .bool x.b, .int .i64 x.f] t (0, 0))) : ValAt w.heap.size w (.slice (some ⟨g, 0, none⟩) 1 1) [x] := by
  refine ⟨_, _, rfl, Nat.le_refl _, fun k y hk => ⟨g, 0, rfl, (Array.getElem?_eq_some_iff.1 h).1, ?_⟩⟩
  match k, hk with
  | 0, hk =>
    simp at hk
    subst hk
    obtain ⟨c0, c1, c2, c3, c4, c5, _⟩ := box6 h
    unfold CellV
    simp only [Nat.zero_mul, Nat.add_zero, Nat.zero_add]
    exact ⟨c0, c1, c2, c3, c4, c5⟩
  | k + 1, hk => simp at hk
theorem only3 {w : World} {g : Nat} (x y z : Value) : Only (fun b => b = g) w (((w.setCell ⟨g, 0, none⟩ x).setCell ⟨g, 1, none⟩ y).setCell ⟨g, 2, none⟩ z) :=
  (Only.set (a := ⟨g, 0, none⟩) x).trans ((Only.set (a := ⟨g, 1, none⟩) y).trans (Only.set (a := ⟨g, 2, none⟩) z) (fun _ h1 _ => h1)) (fun _ h1 _ => h1)
theorem CellV.kept {w w' : World} {g o k : Nat} {x : Vl} (h : CellV w g o k x) (hb : w'.heap[g]? = w.heap[g]?) : CellV w' g o k x := by
  have hc : ∀ p, w'.cell? ⟨g, p, none⟩ = w.cell? ⟨g, p, none⟩ := fun p => World.cell?_of_block (a := ⟨g, p, none⟩) hb
  obtain ⟨h0, h1, h2, h3, h4, h5⟩ := h
  exact ⟨(hc _).trans h0, (hc _).trans h1, (hc _).trans h2, (hc _).trans h3, (hc _).trans h4, (hc _).trans h5⟩
theorem CellV.not_box {w : World} {g o k t : Nat} {x : Vl} {a b c : Value} (h : CellV w g o k x) (hz : w.heap[g]? = some (.cells #[a, b, c] t (0, 0))) : False := by
  have h5 := h.2.2.2.2.2
  unfold World.cell? at h5
  rw [hz] at h5
  have h6 : ¬ o + k * 6 + 5 < 3 := by omega
  simp [h6] at h5
/-- a box of three cells is none of the values' blocks -/
theorem ValAt.set3 {n g t : Nat} {w : World} {v a b c : Value} {l : List Vl} (h : ValAt n w v l) (hz : w.heap[g]? = some (.cells #[a, b, c] t (0, 0))) (x y z : Value) : ValAt n (((w.setCell ⟨g, 0, none⟩ x).setCell ⟨g, 1, none⟩ y).setCell ⟨g, 2, none⟩ z) v l := by
  obtain ⟨A, cp, hv, hc, hI⟩ := h
  refine ⟨A, cp, hv, hc, fun k u hk => ?_⟩
  obtain ⟨g', o, hA, hg, hC⟩ := hI k u hk
  have hne : g' ≠ g := fun e => hC.not_box (by rw [e]; exact hz)
  have hlt : g' < w.heap.size := cell_lt hC.1
  exact ⟨g', o, hA, hg, hC.kept ((only3 x y z).block g' hlt hne)⟩
/-- what came back is stored into the box of the result -/
theorem ArOut.store {w w1 : World} {g t : Nat} {a : Ar} {v x y z : Value} (h : ValAt w1.heap.size w1 v a.l) (hb : Below w.heap.size w w1) (hz : w1.heap[g]? = some (.cells #[x, y, z] t (0, 0))) (hg : w.heap.size ≤ g) :
    ArOut w a (.returned (arV a.r a.c v)) (((w1.setCell ⟨g, 0, none⟩ (.int .i64 a.r)).setCell ⟨g, 1, none⟩ (.int .i64 a.c)).setCell ⟨g, 2, none⟩ v) :=
  ⟨v, rfl, (h.set3 hz _ _ _).mono (only3 (g := g) _ _ _).size, below3 _ _ _ hb hg⟩
set_option maxRecDepth 100000 in
set_option maxHeartbeats 1000000 in
theorem one_right (x : Vl) (hw : WfV x) (hr : rightV x = true) (w : World) (he : Env w) : Calls Tryd.prog 18 #[vV x] w (ArOut w ⟨1, 1, [x]⟩) := by
  have HR := Lib.hid (fun W hW => right_any x hw W hW)
  rw [hr] at HR
  obtain ⟨xk, xm, xe, xt, xb, xf⟩ := x
  obtain ⟨Q, hQ⟩ : ∃ Q, ArOut w ⟨1, 1, [⟨xk, xm, xe, xt, xb, xf⟩]⟩ = Q := ⟨_, rfl⟩
  rw [hQ]
  have HQ := Lib.hid hQ
  have hb0 : Below w.heap.size w ((w.alloc (.cells #[.int .i64 xk, .int .i64 xm, .int .i64 xe, .string xt, .bool xb, .int .i64 xf] 34)).alloc (.cells #[.int .i64 0, .int .i64 0, .slice none 0 0] 25)) := ((Below.refl _ _).alloc (Nat.le_refl _) _).alloc (by simp) _
  have hx0 : ((w.alloc (.cells #[.int .i64 xk, .int .i64 xm, .int .i64 xe, .string xt, .bool xb, .int .i64 xf] 34)).alloc (.cells #[.int .i64 0, .int .i64 0, .slice none 0 0] 25)).heap[w.heap.size]? = some (.cells #[.int .i64 xk, .int .i64 xm, .int .i64 xe, .string xt, .bool xb, .int .i64 xf] 34 (0, 0)) := (Below.heap_alloc _ _ _ (by simp)).trans (heap_alloc_new w _)
  have hx1 : ((w.alloc (.cells #[.int .i64 xk, .int .i64 xm, .int .i64 xe, .string xt, .bool xb, .int .i64 xf] 34)).alloc (.cells #[.int .i64 0, .int .i64 0, .slice none 0 0] 25)).heap[w.heap.size + 1]? = some (.cells #[.int .i64 0, .int .i64 0, .slice none 0 0] 25 (0, 0)) := by
    have := heap_alloc_new (w.alloc (.cells #[.int .i64 xk, .int .i64 xm, .int .i64 xe, .string xt, .bool xb, .int .i64 xf] 34)) (.cells #[.int .i64 0, .int .i64 0, .slice none 0 0] 25)
    rwa [World.size_alloc] at this
  have HE := Lib.hid (he.below hb0)
  have HB0 := Lib.hid hb0
  have HX0 := Lib.hid hx0
  have HX1 := Lib.hid hx1
  clear hQ hr hw he hb0 hx0 hx1
  unfold vV at *
  simp only at HR ⊢
  go_enter Tryd.func18, Tryd.ntmps18
  go_wp2_with fail
  refine (HR.out _ HE.out).mono ?_
  rintro e w1 ⟨rfl, hb1⟩
  have hx := (hb1.block w.heap.size (Array.getElem?_eq_some_iff.1 HX0.out).1).trans HX0.out
  have hy := (hb1.block (w.heap.size + 1) (Array.getElem?_eq_some_iff.1 HX1.out).1).trans HX1.out
  have HB1 := Lib.hid (HB0.out.trans (hb1.mono HB0.out.size))
  have HY := Lib.hid hy
  have HZ := Lib.hid (show w.heap.size + 1 < w1.heap.size from (Array.getElem?_eq_some_iff.1 hy).1)
  obtain ⟨c0, c1, c2, c3, c4, c5, _⟩ := box6 hx
  obtain ⟨d0, d1, d2, f0, f1, f2⟩ := box3 hy
  clear hx hy hb1
  have hy2 : (w1.alloc (.cells #[.int .i64 xk, .int .i64 xm, .int .i64 xe, .string xt, .bool xb, .int .i64 xf] 34)).heap[w.heap.size + 1]? = some (.cells #[.int .i64 0, .int .i64 0, .slice none 0 0] 25 (0, 0)) := (Below.heap_alloc _ _ _ HZ.out).trans HY.out
  obtain ⟨e0, e1, e2, g0, g1, g2⟩ := box3 hy2
  have HY2 := Lib.hid hy2
  clear hy2
  go_wp2
  have hs2 := set3 (.int .i64 1) (.int .i64 1) (.slice (some ⟨w1.heap.size, 0, none⟩) 1 1) HY2.out
  obtain ⟨r0, r1, r2, _⟩ := box3 hs2
  have hv : ValAt (w1.alloc (.cells #[.int .i64 xk, .int .i64 xm, .int .i64 xe, .string xt, .bool xb, .int .i64 xf] 34)).heap.size (w1.alloc (.cells #[.int .i64 xk, .int .i64 xm, .int .i64 xe, .string xt, .bool xb, .int .i64 xf] 34)) (.slice (some ⟨w1.heap.size, 0, none⟩) 1 1) [⟨xk, xm, xe, xt, xb, xf⟩] := val_one (x := ⟨xk, xm, xe, xt, xb, xf⟩) (heap_alloc_new w1 _)
  have hfin := ArOut.store (w := w) (a := ⟨1, 1, [⟨xk, xm, xe, xt, xb, xf⟩]⟩) hv (HB1.out.alloc HB1.out.size _) HY2.out (by omega)
  rw [HQ.out] at hfin
  exact bodyPost_ret (v := arV 1 1 (.slice (some ⟨w1.heap.size, 0, none⟩) 1 1)) (by simp [results, Tryd.f18, go_sem, arV, r0, r1, r2]) rfl hfin
theorem wf_bad (f : Int) : WfV (badV f) := by
  have : badV f = fV f ∧ 1 ≤ f ∧ f ≤ 9 ∨ badV f = fV 9 := by
    by_cases h : 1 ≤ f ∧ f ≤ 9
    · exact .inl ⟨fault_yes h, h⟩
    · exact .inr (fault_no h)
  rcases this with ⟨h, h1, h2⟩ | h
  · rw [h]; unfold WfV fV; simp only; omega
  · rw [h]; unfold WfV fV; simp only; omega
theorem right_bad (f : Int) : rightV (badV f) = true := by
  have : badV f = fV f ∧ 1 ≤ f ∧ f ≤ 9 ∨ badV f = fV 9 := by
    by_cases h : 1 ≤ f ∧ f ≤ 9
    · exact .inl ⟨fault_yes h, h⟩
    · exact .inr (fault_no h)
  rcases this with ⟨h, h1, h2⟩ | h
  · rw [h]; unfold fV; rw [rk4]; exact decide_eq_true ⟨rfl, rfl, rfl, rfl, h1, h2⟩
  · rw [h]; unfold fV; rw [rk4]; exact decide_eq_true ⟨rfl, rfl, rfl, rfl, by omega, by omega⟩
/-- the array of a fault -/
def badA (f : Int) : Ar := ⟨1, 1, [fV f]⟩
def box3W (w : World) : World := w.alloc (.cells #[.int .i64 0, .int .i64 0, .slice none 0 0] 25)

set_option maxRecDepth 100000 in
set_option maxHeartbeats 1000000 in
theorem broken_any (w : World) (he : Env w) : Calls Tryd.prog 51 #[] w (ArOut w (badA 9)) := by
  obtain ⟨Q, hQ⟩ : ∃ Q, ArOut w (badA 9) = Q := ⟨_, rfl⟩
  rw [hQ]
  have HQ := Lib.hid hQ
  have HBD := Lib.hid (fun W hW => bad_any 9 W hW)
  rw [fault_yes ⟨by decide, by decide⟩] at HBD
  have HON := Lib.hid (fun W hW => one_right (badV 9) (wf_bad 9) (right_bad 9) W hW)
  rw [fault_yes ⟨by decide, by decide⟩] at HON
  have hb0 := Nm.alloc_below w (.cells #[.int .i64 0, .int .i64 0, .slice none 0 0] 25)
  have HX0 := Lib.hid (heap_alloc_new w (.cells #[.int .i64 0, .int .i64 0, .slice none 0 0] 25))
  have HB0 := Lib.hid hb0
  have HE := Lib.hid (he.below hb0)
  clear hQ hb0 he
  unfold vV fV at HBD HON
  simp only at HBD HON
  go_enter Tryd.func51, Tryd.ntmps51
  go_wp2_with fail
  refine (HBD.out _ HE.out).mono ?_
  rintro e w1 ⟨rfl, hb1⟩
  have HB1 := Lib.hid (HB0.out.trans (hb1.mono HB0.out.size))
  have HX1 := Lib.hid ((hb1.block w.heap.size (Array.getElem?_eq_some_iff.1 HX0.out).1).trans HX0.out)
  have HE1 := Lib.hid (HE.out.below hb1)
  clear hb1
  go_wp2_with fail
  refine (HON.out _ HE1.out).mono ?_
  rintro e w2 ⟨v, rfl, hv2, hb2⟩
  have HB2 := Lib.hid (HB1.out.trans (hb2.mono HB1.out.size))
  have hx2 := (hb2.block w.heap.size (Array.getElem?_eq_some_iff.1 HX1.out).1).trans HX1.out
  have HX2 := Lib.hid hx2
  obtain ⟨d0, d1, d2, f0, f1, f2⟩ := box3 hx2
  have HV := Lib.hid hv2
  obtain ⟨A, cp, rfl, _⟩ := id hv2
  clear hb2 hx2 hv2
  unfold arV
  go_wp2
  obtain ⟨r0, r1, r2, _⟩ := box3 (set3 (.int .i64 1) (.int .i64 1) (.slice A 1 cp) HX2.out)
  have hfin := ArOut.store (w := w) (a := badA 9) HV.out HB2.out HX2.out (Nat.le_refl _)
  rw [HQ.out] at hfin
  exact bodyPost_ret (v := arV 1 1 (.slice A 1 cp)) (by simp [results, Tryd.f51, go_sem, arV, r0, r1, r2]) rfl hfin
set_option maxRecDepth 100000 in
set_option maxHeartbeats 1000000 in
theorem great_any (w : World) (he : Env w) : Calls Tryd.prog 63 #[] w (ArOut w (badA 5)) := by
  obtain ⟨Q, hQ⟩ : ∃ Q, ArOut w (badA 5) = Q := ⟨_, rfl⟩
  rw [hQ]
  have HQ := Lib.hid hQ
  have HBD := Lib.hid (fun W hW => bad_any 5 W hW)
  rw [fault_yes ⟨by decide, by decide⟩] at HBD
  have HON := Lib.hid (fun W hW => one_right (badV 5) (wf_bad 5) (right_bad 5) W hW)
  rw [fault_yes ⟨by decide, by decide⟩] at HON
  have hb0 := Nm.alloc_below w (.cells #[.int .i64 0, .int .i64 0, .slice none 0 0] 25)
  have HX0 := Lib.hid (heap_alloc_new w (.cells #[.int .i64 0, .int .i64 0, .slice none 0 0] 25))
  have HB0 := Lib.hid hb0
  have HE := Lib.hid (he.below hb0)
  clear hQ hb0 he
  unfold vV fV at HBD HON
  simp only at HBD HON
  go_enter Tryd.func63, Tryd.ntmps63
  go_wp2_with fail
  refine (HBD.out _ HE.out).mono ?_
  rintro e w1 ⟨rfl, hb1⟩
  have HB1 := Lib.hid (HB0.out.trans (hb1.mono HB0.out.size))
  have HX1 := Lib.hid ((hb1.block w.heap.size (Array.getElem?_eq_some_iff.1 HX0.out).1).trans HX0.out)
  have HE1 := Lib.hid (HE.out.below hb1)
  clear hb1
  go_wp2_with fail
  refine (HON.out _ HE1.out).mono ?_
  rintro e w2 ⟨v, rfl, hv2, hb2⟩
  have HB2 := Lib.hid (HB1.out.trans (hb2.mono HB1.out.size))
  have hx2 := (hb2.block w.heap.size (Array.getElem?_eq_some_iff.1 HX1.out).1).trans HX1.out
  have HX2 := Lib.hid hx2
  obtain ⟨d0, d1, d2, f0, f1, f2⟩ := box3 hx2
  have HV := Lib.hid hv2
  obtain ⟨A, cp, rfl, _⟩ := id hv2
  clear hb2 hx2 hv2
  unfold arV
  go_wp2
  obtain ⟨r0, r1, r2, _⟩ := box3 (set3 (.int .i64 1) (.int .i64 1) (.slice A 1 cp) HX2.out)
  have hfin := ArOut.store (w := w) (a := badA 5) HV.out HB2.out HX2.out (Nat.le_refl _)
  rw [HQ.out] at hfin
  exact bodyPost_ret (v := arV 1 1 (.slice A 1 cp)) (by simp [results, Tryd.f63, go_sem, arV, r0, r1, r2]) rfl hfin
end Go.Proofs.YtfgddhabepllfaaDoor
