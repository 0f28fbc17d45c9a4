/- The array of one value, of every value: the program, the document; Make of what may not be. -/
import Derived.Test.YtfgddhabepllfaaDoorY
namespace Go.Proofs.YtfgddhabepllfaaDoor
open Go.RowKit

def oneA (x : Vl) : Ar := if rightV x then ⟨1, 1, [x]⟩ else badA 9
set_option maxRecDepth 100000 in
set_option maxHeartbeats 1000000 in
theorem one_wrong (x : Vl) (hw : WfV x) (hr : rightV x = false) (w : World) (he : Env w) : Calls Tryd.prog 18 #[vV x] w (ArOut w (badA 9)) := by
  have HR := Lib.hid (fun W hW => right_any x hw W hW)
  rw [hr] at HR
  obtain ⟨xk, xm, xe, xt, xb, xf⟩ := x
  obtain ⟨Q, hQ⟩ : ∃ Q, ArOut w (badA 9) = Q := ⟨_, rfl⟩
  rw [hQ]
  have HQ := Lib.hid hQ
  obtain ⟨W0, hW0⟩ : ∃ W0, (w.alloc (.cells #[.int .i64 xk, .int .i64 xm, .int .i64 xe, .string xt, .bool xb, .int .i64 xf] 34)).alloc (.cells #[.int .i64 0, .int .i64 0, .slice none 0 0] 25) = W0 := ⟨_, rfl⟩
  have HB0 : Hid (Below w.heap.size w W0) := Lib.hid (by rw [← hW0]; exact two_below)
  have HX1 : Hid (W0.heap[w.heap.size + 1]? = some (.cells #[.int .i64 0, .int .i64 0, .slice none 0 0] 25 (0, 0))) := Lib.hid (by rw [← hW0]; exact two_new)
  have HW0 := Lib.hid hW0
  have HE := Lib.hid (he.below HB0.out)
  have HBR := Lib.hid (fun W hW => broken_any W hW)
  clear hQ hr hw he hW0
  unfold vV at *
  unfold badA fV at HBR
  simp only at HR ⊢
  go_enter Tryd.func18, Tryd.ntmps18
  go_wp2_with fail
  rw [HW0.out]
  refine (HR.out _ HE.out).mono ?_
  rintro e w1 ⟨rfl, hb1⟩
  have HY := Lib.hid (box_kept HX1.out hb1 (Nat.le_refl _))
  have HB1 := Lib.hid (HB0.out.trans (hb1.mono HB0.out.size))
  have HE1 := Lib.hid (HE.out.below hb1)
  clear hb1
  go_wp2_with fail
  refine (HBR.out _ HE1.out).mono ?_
  rintro e w2 ⟨v, rfl, hv2, hb2⟩
  have HB2 := Lib.hid (HB1.out.trans (hb2.mono HB1.out.size))
  have hx2 := box_kept HY.out hb2 (Nat.le_refl _)
  have HX2 := Lib.hid hx2
  obtain ⟨d0, d1, d2, f0, f1, f2⟩ := box3 hx2
  have HV := Lib.hid hv2
  obtain ⟨A, cp, rfl, _⟩ := id hv2
  clear hb2 hx2 hv2
  unfold arV
  go_wp2
  obtain ⟨r0, r1, r2, _⟩ := box3 (set3 (.int .i64 1) (.int .i64 1) (.slice A 1 cp) HX2.out)
  have hfin := ArOut.store (w := w) (a := badA 9) HV.out HB2.out HX2.out (by omega)
  rw [HQ.out] at hfin
  exact bodyPost_ret (v := arV 1 1 (.slice A 1 cp)) (by simp [results, Tryd.f18, go_sem, arV, r0, r1, r2]) rfl hfin
theorem one_any (x : Vl) (hw : WfV x) (w : World) (he : Env w) : Calls Tryd.prog 18 #[vV x] w (ArOut w (oneA x)) := by
  unfold oneA
  cases hr : rightV x with
  | true => exact one_right x hw hr w he
  | false => exact one_wrong x hw hr w he
set_option maxRecDepth 100000 in
set_option maxHeartbeats 1000000 in
theorem rbad_any (f : Int) (w : World) : Calls Tryd.prog 25 #[.int .i64 f] w (ArOut w (badA f)) := by
  obtain ⟨Q, hQ⟩ : ∃ Q, ArOut w (badA f) = Q := ⟨_, rfl⟩
  rw [hQ]
  have hfin : ArOut w (badA f) (.returned (arV 1 1 (.slice (some ⟨w.heap.size + 1, 0, none⟩) 1 1))) ((w.alloc (.cells #[.int .i64 1, .int .i64 1, .slice (some ⟨w.heap.size + 1, 0, none⟩) 1 1] 25)).alloc (.cells #[.int .i64 4, .int .i64 0, .int .i64 0, .string ⟨#[]⟩, .bool false, .int .i64 f] 34)) :=
    ⟨_, rfl, val_one (x := fV f) two_new, two_below⟩
  rw [hQ] at hfin
  have HF := Lib.hid hfin
  clear hQ hfin
  go_enter Tryd.func25, Tryd.ntmps25
  go_wp2
  exact bodyPost_ret (v := arV 1 1 (.slice (some ⟨w.heap.size + 1, 0, none⟩) 1 1)) (by simp [results, Tryd.f25, go_sem, arV]) rfl HF.out
set_option maxRecDepth 100000 in
set_option maxHeartbeats 1000000 in
theorem rone_right (x : Vl) (hr : rightV x = true) (w : World) : Calls Tryd.prog 19 #[vV x] w (ArOut w ⟨1, 1, [x]⟩) := by
  have HR := Lib.hid (fun W => rr_any x W)
  rw [hr] at HR
  obtain ⟨xk, xm, xe, xt, xb, xf⟩ := x
  obtain ⟨Q, hQ⟩ : ∃ Q, ArOut w ⟨1, 1, [⟨xk, xm, xe, xt, xb, xf⟩]⟩ = Q := ⟨_, rfl⟩
  rw [hQ]
  have HQ := Lib.hid hQ
  obtain ⟨W0, hW0⟩ : ∃ W0, (w.alloc (.cells #[.int .i64 xk, .int .i64 xm, .int .i64 xe, .string xt, .bool xb, .int .i64 xf] 34)).alloc (.cells #[.int .i64 0, .int .i64 0, .slice none 0 0] 25) = W0 := ⟨_, rfl⟩
  have HB0 : Hid (Below w.heap.size w W0) := Lib.hid (by rw [← hW0]; exact two_below)
  have HX0 : Hid (W0.heap[w.heap.size]? = some (.cells #[.int .i64 xk, .int .i64 xm, .int .i64 xe, .string xt, .bool xb, .int .i64 xf] 34 (0, 0))) := Lib.hid (by rw [← hW0]; exact two_old)
  have HX1 : Hid (W0.heap[w.heap.size + 1]? = some (.cells #[.int .i64 0, .int .i64 0, .slice none 0 0] 25 (0, 0))) := Lib.hid (by rw [← hW0]; exact two_new)
  have HW0 := Lib.hid hW0
  clear hQ hr hW0
  unfold vV at *
  simp only at HR ⊢
  go_enter Tryd.func19, Tryd.ntmps19
  go_wp2_with fail
  rw [HW0.out]
  refine (HR.out _).mono ?_
  rintro e w1 ⟨rfl, hb1⟩
  have hx := box_kept HX0.out hb1 (Nat.le_refl _)
  have hy := box_kept HX1.out hb1 (Nat.le_refl _)
  have HB1 := Lib.hid (HB0.out.trans (hb1.mono HB0.out.size))
  have HZ := Lib.hid (show w.heap.size + 1 < w1.heap.size from (Array.getElem?_eq_some_iff.1 hy).1)
  obtain ⟨c0, c1, c2, c3, c4, c5, _⟩ := box6 hx
  obtain ⟨d0, d1, d2, f0, f1, f2⟩ := box3 hy
  have hy2 : (w1.alloc (.cells #[.int .i64 xk, .int .i64 xm, .int .i64 xe, .string xt, .bool xb, .int .i64 xf] 34)).heap[w.heap.size + 1]? = some (.cells #[.int .i64 0, .int .i64 0, .slice none 0 0] 25 (0, 0)) := (Below.heap_alloc _ _ _ HZ.out).trans hy
  obtain ⟨e0, e1, e2, g0, g1, g2⟩ := box3 hy2
  have HY2 := Lib.hid hy2
  clear hx hy hb1 hy2
  go_wp2
  have hs2 := set3 (.int .i64 1) (.int .i64 1) (.slice (some ⟨w1.heap.size, 0, none⟩) 1 1) HY2.out
  obtain ⟨r0, r1, r2, _⟩ := box3 hs2
  have hv : ValAt (w1.alloc (.cells #[.int .i64 xk, .int .i64 xm, .int .i64 xe, .string xt, .bool xb, .int .i64 xf] 34)).heap.size (w1.alloc (.cells #[.int .i64 xk, .int .i64 xm, .int .i64 xe, .string xt, .bool xb, .int .i64 xf] 34)) (.slice (some ⟨w1.heap.size, 0, none⟩) 1 1) [⟨xk, xm, xe, xt, xb, xf⟩] := val_one (x := ⟨xk, xm, xe, xt, xb, xf⟩) (heap_alloc_new w1 _)
  have hfin := ArOut.store (w := w) (a := ⟨1, 1, [⟨xk, xm, xe, xt, xb, xf⟩]⟩) hv (HB1.out.alloc HB1.out.size _) HY2.out (by omega)
  rw [HQ.out] at hfin
  exact bodyPost_ret (v := arV 1 1 (.slice (some ⟨w1.heap.size, 0, none⟩) 1 1)) (by simp [results, Tryd.f19, go_sem, arV, r0, r1, r2]) rfl hfin
set_option maxRecDepth 100000 in
set_option maxHeartbeats 1000000 in
theorem rone_wrong (x : Vl) (hr : rightV x = false) (w : World) : Calls Tryd.prog 19 #[vV x] w (ArOut w (badA 9)) := by
  have HR := Lib.hid (fun W => rr_any x W)
  rw [hr] at HR
  obtain ⟨xk, xm, xe, xt, xb, xf⟩ := x
  obtain ⟨Q, hQ⟩ : ∃ Q, ArOut w (badA 9) = Q := ⟨_, rfl⟩
  rw [hQ]
  have HQ := Lib.hid hQ
  obtain ⟨W0, hW0⟩ : ∃ W0, (w.alloc (.cells #[.int .i64 xk, .int .i64 xm, .int .i64 xe, .string xt, .bool xb, .int .i64 xf] 34)).alloc (.cells #[.int .i64 0, .int .i64 0, .slice none 0 0] 25) = W0 := ⟨_, rfl⟩
  have HB0 : Hid (Below w.heap.size w W0) := Lib.hid (by rw [← hW0]; exact two_below)
  have HX1 : Hid (W0.heap[w.heap.size + 1]? = some (.cells #[.int .i64 0, .int .i64 0, .slice none 0 0] 25 (0, 0))) := Lib.hid (by rw [← hW0]; exact two_new)
  have HW0 := Lib.hid hW0
  have HBR := Lib.hid (fun W => rbad_any 9 W)
  clear hQ hr hW0
  unfold vV at *
  unfold badA fV at HBR
  simp only at HR ⊢
  go_enter Tryd.func19, Tryd.ntmps19
  go_wp2_with fail
  rw [HW0.out]
  refine (HR.out _).mono ?_
  rintro e w1 ⟨rfl, hb1⟩
  have HY := Lib.hid (box_kept HX1.out hb1 (Nat.le_refl _))
  have HB1 := Lib.hid (HB0.out.trans (hb1.mono HB0.out.size))
  clear hb1
  go_wp2_with fail
  refine (HBR.out _).mono ?_
  rintro e w2 ⟨v, rfl, hv2, hb2⟩
  have HB2 := Lib.hid (HB1.out.trans (hb2.mono HB1.out.size))
  have hx2 := box_kept HY.out hb2 (Nat.le_refl _)
  have HX2 := Lib.hid hx2
  obtain ⟨d0, d1, d2, f0, f1, f2⟩ := box3 hx2
  have HV := Lib.hid hv2
  obtain ⟨A, cp, rfl, _⟩ := id hv2
  clear hb2 hx2 hv2
  unfold arV
  go_wp2
  obtain ⟨r0, r1, r2, _⟩ := box3 (set3 (.int .i64 1) (.int .i64 1) (.slice A 1 cp) HX2.out)
  have hfin := ArOut.store (w := w) (a := badA 9) HV.out HB2.out HX2.out (by omega)
  rw [HQ.out] at hfin
  exact bodyPost_ret (v := arV 1 1 (.slice A 1 cp)) (by simp [results, Tryd.f19, go_sem, arV, r0, r1, r2]) rfl hfin
theorem rone_any (x : Vl) (w : World) : Calls Tryd.prog 19 #[vV x] w (ArOut w (oneA x)) := by
  unfold oneA
  cases hr : rightV x with
  | true => exact rone_right x hr w
  | false => exact rone_wrong x hr w
set_option maxRecDepth 100000 in
set_option maxHeartbeats 2000000 in
theorem make_no (n : Nat) (r c : Int) (v : Value) (l : List Vl) (hl : l.length ≤ 100000) (hr : rightA ⟨r, c, l⟩ = false) (hwf : WfL l) (w : World) (he : Env w) (hn : n ≤ w.heap.size) (h : ValAt n w v l) :
    Calls Tryd.prog 14 #[.int .i64 r, .int .i64 c, v] w (ArOut2 w zA false) := by
  obtain ⟨Q, hQ⟩ : ∃ Q, ArOut2 w zA false = Q := ⟨_, rfl⟩
  rw [hQ]
  have HQ := Lib.hid hQ
  obtain ⟨W0, hW0⟩ : ∃ W0, (w.alloc (.cells #[.int .i64 0, .int .i64 0, .slice none 0 0] 25)).alloc (.cells #[.int .i64 r, .int .i64 c, v] 25) = W0 := ⟨_, rfl⟩
  have HB0 : Hid (Below w.heap.size w W0) := Lib.hid (by rw [← hW0]; exact two_below)
  have HX0 : Hid (W0.heap[w.heap.size]? = some (.cells #[.int .i64 0, .int .i64 0, .slice none 0 0] 25 (0, 0))) := Lib.hid (by rw [← hW0]; exact two_old)
  have HW0 := Lib.hid hW0
  have HR := Lib.hid (fun W (hW : Below w.heap.size w W) => righta_any n r c v l hl hwf W (Nat.le_trans hn hW.size) (h.below (hW.mono hn)) (he.below hW))
  rw [hr] at HR
  obtain ⟨A, cp, rfl, _⟩ := id h
  clear hQ hr hwf hl he hn h hW0
  unfold arV at *
  go_enter Tryd.func14, Tryd.ntmps14
  go_wp2_with fail
  rw [HW0.out]
  refine (HR.out _ HB0.out).mono ?_
  rintro e w1 ⟨rfl, hb1⟩
  have hy := box_kept HX0.out hb1 (Nat.le_refl _)
  have HY0 := Lib.hid hy
  have HB1 := Lib.hid (HB0.out.trans (hb1.mono HB0.out.size))
  obtain ⟨d0, d1, d2, f0, f1, f2⟩ := box3 hy
  clear hb1 hy
  go_wp2
  obtain ⟨r0, r1, r2, _⟩ := box3 (set3 (.int .i64 0) (.int .i64 0) (.slice none 0 0) HY0.out)
  have hfin := ArOut2.store (w := w) (a := zA) (b := false) (.nil _ _) HB1.out HY0.out (by omega)
  rw [HQ.out] at hfin
  exact bodyPost_ret (v := .tuple #[arV 0 0 (.slice none 0 0), .bool false]) (by simp [results, Tryd.f14, go_sem, arV, r0, r1, r2]) rfl hfin
end Go.Proofs.YtfgddhabepllfaaDoor
