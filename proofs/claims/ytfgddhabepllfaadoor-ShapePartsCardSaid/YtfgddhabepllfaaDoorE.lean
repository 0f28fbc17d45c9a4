/- Arrays as the program holds them; whether an array may be. -/
import Derived.Test.YtfgddhabepllfaaDoorD
namespace Go.Proofs.YtfgddhabepllfaaDoor
open Go.RowKit

/-- six cells that hold a value -/
def CellV (w : World) (g o k : Nat) (v : Vl) : Prop :=
  w.cell? ⟨g, o + k * 6, none⟩ = some (.int .i64 v.k) ∧ w.cell? ⟨g, o + k * 6 + 1, none⟩ = some (.int .i64 v.m) ∧ w.cell? ⟨g, o + k * 6 + 2, none⟩ = some (.int .i64 v.e) ∧ w.cell? ⟨g, o + k * 6 + 3, none⟩ = some (.string v.t) ∧ w.cell? ⟨g, o + k * 6 + 4, none⟩ = some (.bool v.b) ∧ w.cell? ⟨g, o + k * 6 + 5, none⟩ = some (.int .i64 v.f)
theorem CellV.below {w w' : World} {g o k n : Nat} {v : Vl} (h : CellV w g o k v) (hb : Below n w w') (hg : g < n) : CellV w' g o k v :=
  ⟨(hb.cell (p := ⟨g, _, none⟩) hg).trans h.1, (hb.cell (p := ⟨g, _, none⟩) hg).trans h.2.1, (hb.cell (p := ⟨g, _, none⟩) hg).trans h.2.2.1, (hb.cell (p := ⟨g, _, none⟩) hg).trans h.2.2.2.1, (hb.cell (p := ⟨g, _, none⟩) hg).trans h.2.2.2.2.1, (hb.cell (p := ⟨g, _, none⟩) hg).trans h.2.2.2.2.2⟩
/-- a slice that reads as these values; its cells lie below n -/
def ValAt (n : Nat) (w : World) (v : Value) (l : List Vl) : Prop := ∃ A c, v = .slice A l.length c ∧ l.length ≤ c ∧ ∀ (k : Nat) x, l[k]? = some x → ∃ g o, A = some ⟨g, o, none⟩ ∧ g < n ∧ CellV w g o k x
theorem ValAt.below {n : Nat} {w w' : World} {v : Value} {l : List Vl} (h : ValAt n w v l) (hb : Below n w w') : ValAt n w' v l := by
  obtain ⟨A, c, hv, hc, h⟩ := h
  exact ⟨A, c, hv, hc, fun k x hk => by obtain ⟨g, o, hA, hg, h1⟩ := h k x hk; exact ⟨g, o, hA, hg, h1.below hb hg⟩⟩
theorem ValAt.mono {n m : Nat} {w : World} {v : Value} {l : List Vl} (h : ValAt n w v l) (hn : n ≤ m) : ValAt m w v l := by
  obtain ⟨A, c, hv, hc, h⟩ := h
  exact ⟨A, c, hv, hc, fun k x hk => by obtain ⟨g, o, hA, hg, h1⟩ := h k x hk; exact ⟨g, o, hA, by omega, h1⟩⟩
theorem ValAt.nil (n : Nat) (w : World) : ValAt n w (.slice none 0 0) [] := ⟨none, 0, rfl, Nat.le_refl _, fun k x h => by simp at h⟩
def arV (r c : Int) (v : Value) : Value := .agg #[.int .i64 r, .int .i64 c, v]
def rightA (a : Ar) : Bool := fitsB a.r a.c && (decide ((a.l.length : Int) = a.r * a.c) && a.l.all rightV)
theorem fits_wrap {r c : Int} (h1 : 1 ≤ r) (h2 : 1 ≤ c) (h3 : r ≤ 4096) (h4 : c ≤ 4096) : IntKind.i64.wrap (r * c) = r * c ∧ 1 ≤ r * c ∧ r * c ≤ 16777216 := by
  have a1 : 1 * 1 ≤ r * c := Int.mul_le_mul h1 h2 (by omega) (by omega)
  have a2 : r * c ≤ 4096 * 4096 := Int.mul_le_mul h3 h4 (by omega) (by omega)
  refine ⟨?_, by omega, by omega⟩
  rw [IntKind.wrap_i64]; omega
theorem fitsB_iff {r c : Int} : fitsB r c = true ↔ 1 ≤ r ∧ 1 ≤ c ∧ r ≤ 4096 ∧ c ≤ 4096 ∧ r * c ≤ 4096 := by unfold fitsB; rw [decide_eq_true_eq]
set_option maxRecDepth 100000 in
theorem fits_any (r c : Int) (w : World) : Calls Tryd.prog 49 #[.int .i64 r, .int .i64 c] w fun e w' => e = .returned (.bool (fitsB r c)) ∧ w = w' := by
  have no : ¬ (1 ≤ r ∧ 1 ≤ c ∧ r ≤ 4096 ∧ c ≤ 4096 ∧ r * c ≤ 4096) → fitsB r c = false := fun h => by unfold fitsB; exact decide_eq_false h
  by_cases h1 : 1 ≤ r
  rotate_left
  · rw [no (fun h => h1 h.1)]
    clear no
    go_enter Tryd.func49, Tryd.ntmps49
    go_wp2
    go_ret
    exact ⟨rfl, rfl⟩
  by_cases h2 : 1 ≤ c
  rotate_left
  · rw [no (fun h => h2 h.2.1)]
    clear no
    go_enter Tryd.func49, Tryd.ntmps49
    go_wp2
    go_ret
    exact ⟨rfl, rfl⟩
  by_cases h3 : r ≤ 4096
  rotate_left
  · rw [no (fun h => h3 h.2.2.1)]
    clear no
    go_enter Tryd.func49, Tryd.ntmps49
    go_wp2
    go_ret
    exact ⟨rfl, rfl⟩
  by_cases h4 : c ≤ 4096
  rotate_left
  · rw [no (fun h => h4 h.2.2.2.1)]
    clear no
    go_enter Tryd.func49, Tryd.ntmps49
    go_wp2
    go_ret
    exact ⟨rfl, rfl⟩
  obtain ⟨hw, _, _⟩ := fits_wrap h1 h2 h3 h4
  have hz : fitsB r c = decide (r * c ≤ 4096) := by
    unfold fitsB
    by_cases h5 : r * c ≤ 4096
    · rw [decide_eq_true h5]; exact decide_eq_true ⟨h1, h2, h3, h4, h5⟩
    · rw [decide_eq_false h5]; exact decide_eq_false (fun h => h5 h.2.2.2.2)
  rw [hz]
  clear no hz
  go_enter Tryd.func49, Tryd.ntmps49
  go_wp2
  go_ret
  exact ⟨rfl, rfl⟩
theorem all_take {l : List Vl} {k : Nat} {x : Vl} (h : (l.take k).all rightV = true) (hx : l[k]? = some x) (hr : rightV x = true) : (l.take (k + 1)).all rightV = true := by
  have hlt := (List.getElem?_eq_some_iff.1 hx).1
  have : l.take (k + 1) = l.take k ++ [x] := by
    rw [← (List.getElem?_eq_some_iff.1 hx).2]
    exact (List.take_append_getElem hlt).symm
  rw [this, List.all_append, h]
  simp [hr]
theorem all_no {l : List Vl} {k : Nat} {x : Vl} (hx : l[k]? = some x) (hr : rightV x = false) : l.all rightV = false := by
  rw [List.all_eq_false]
  exact ⟨x, List.mem_of_getElem? hx, by rw [hr]; decide⟩
def WfL (l : List Vl) : Prop := ∀ x ∈ l, WfV x
set_option maxRecDepth 100000 in
set_option maxHeartbeats 1000000 in
/-- whether an array may be: the program -/
theorem righta_any (n : Nat) (r c : Int) (v : Value) (l : List Vl) (hl : l.length ≤ 100000) (hwf : WfL l) (w : World) (hn : n ≤ w.heap.size) (h : ValAt n w v l) (he : Env w) :
    Calls Tryd.prog 16 #[arV r c v] w fun e w' => e = .returned (.bool (rightA ⟨r, c, l⟩)) ∧ Below w.heap.size w w' := by
  obtain ⟨A, cp, rfl, hcp, hI⟩ := h
  obtain ⟨z, hz⟩ : ∃ z, rightA ⟨r, c, l⟩ = z := ⟨_, rfl⟩
  rw [hz]
  have hb0 : Below w.heap.size w (w.alloc (.cells #[.int .i64 r, .int .i64 c, .slice A l.length cp] 25)) := Nm.alloc_below _ _
  have HB0 := Lib.hid hb0
  have HE := Lib.hid he
  have HZ := Lib.hid hz
  clear hz he hb0
  unfold arV
  cases hf : fitsB r c with
  | false =>
    have hzf : z = false := by rw [← HZ.out]; unfold rightA; simp only [hf, Bool.false_and]
    subst hzf
    have HF := Lib.hid (fun W => fits_any r c W)
    rw [hf] at HF
    clear hf
    go_enter Tryd.func16, Tryd.ntmps16
    go_wp2_with fail
    refine (HF.out _).mono ?_
    rintro e w1 ⟨rfl, rfl⟩
    go_wp2
    go_ret
    exact ⟨rfl, HB0.out⟩
  | true =>
    have HF := Lib.hid (fun W => fits_any r c W)
    rw [hf] at HF
    obtain ⟨g1, g2, g3, g4, g5⟩ := fitsB_iff.1 hf
    obtain ⟨hw, _, _⟩ := fits_wrap g1 g2 g3 g4
    clear g1 g2 g3 g4 g5
    by_cases hlen : (l.length : Int) = r * c
    rotate_left
    · have hzf : z = false := by rw [← HZ.out]; unfold rightA; simp only [hf, hlen, decide_false, Bool.false_and, Bool.true_and]
      subst hzf
      have hne : ((l.length : Int) != r * c) = true := by simpa using hlen
      clear hf
      go_enter Tryd.func16, Tryd.ntmps16
      go_wp2_with fail
      refine (HF.out _).mono ?_
      rintro e w1 ⟨rfl, rfl⟩
      go_wp2
      go_ret
      exact ⟨rfl, HB0.out⟩
    have hza : l.all rightV = z := by rw [← HZ.out]; unfold rightA; simp only [hf, hlen, decide_true, Bool.true_and]
    have hne : ((l.length : Int) != r * c) = false := by simp [hlen]
    have HZA := Lib.hid hza
    have HW := Lib.hid hw
    have HNE := Lib.hid hne
    have HWF := Lib.hid hwf
    have HI : Hid (∀ (k : Nat) x, l[k]? = some x → ∀ W, Below w.heap.size w W → ∃ g o, A = some ⟨g, o, none⟩ ∧ CellV W g o k x) := Lib.hid (fun k x hk W hW => by
      obtain ⟨g, o, hA, hg, hc⟩ := hI k x hk
      exact ⟨g, o, hA, hc.below hW (by omega)⟩)
    clear hf hlen hza hw hne HZ hwf hI
    go_enter Tryd.func16, Tryd.ntmps16
    go_wp2_with fail
    refine (HF.out _).mono ?_
    rintro e w1 ⟨rfl, rfl⟩
    have hw := HW.out
    have hne := HNE.out
    go_wp2_with fail
    clear hw hne
    go_loopw [25] (fun i wr => ∃ k : Nat, k ≤ l.length ∧ i = .int .i64 (k : Int) ∧ Hid ((l.take k).all rightV = true) ∧ Below w.heap.size w wr) (fun i _ => l.length - (intOf i).toNat)
    case atStart => exact ⟨0, by omega, rfl, Lib.hid (by simp), HB0.out⟩
    case round =>
      obtain ⟨k, hk, rfl, HA, hB⟩ := hrel
      have HB := Lib.hid hB
      clear hB
      by_cases hlt : k < l.length
      · have hx : l[k]? = some l[k] := List.getElem?_eq_getElem hlt
        obtain ⟨x, hxx⟩ : ∃ x, l[k] = x := ⟨_, rfl⟩
        rw [hxx] at hx
        obtain ⟨g, o, rfl, k0, k1, k2, k3, k4, k5⟩ := HI.out k x hx wr HB.out
        have hwx : WfV x := HWF.out x (List.mem_of_getElem? hx)
        obtain ⟨y, hy⟩ : ∃ y, rightV x = y := ⟨_, rfl⟩
        have HR := Lib.hid (fun W hW => right_any x hwx W hW)
        rw [hy] at HR
        have HY := Lib.hid hy
        have HX := Lib.hid hx
        obtain ⟨xk, xm, xe, xt, xb, xf⟩ := x
        unfold vV at HR
        simp only at k0 k1 k2 k3 k4 k5 HR
        have hi : (k : Int) < (l.length : Int) := by omega
        have hi0 : (0 : Int) ≤ (k : Int) := by omega
        have hba : Below w.heap.size w (wr.alloc (.cells #[.int .i64 xk, .int .i64 xm, .int .i64 xe, .string xt, .bool xb, .int .i64 xf] 34)) := HB.out.alloc HB.out.size _
        have HBA := Lib.hid hba
        have HEA := Lib.hid (HE.out.below hba)
        clear hxx hx hwx hy hba
        go_wp2_with fail
        refine (HR.out _ HEA.out).mono ?_
        rintro e w2 ⟨rfl, hb2⟩
        have HB2 := Lib.hid (HBA.out.trans (hb2.mono HBA.out.size))
        clear hb2 k0 k1 k2 k3 k4 k5
        cases y with
        | true =>
          have HA2 : Hid ((l.take (k + 1)).all rightV = true) := Lib.hid (all_take HA.out HX.out HY.out)
          go_wp2
          go_roundw
          case rel => exact ⟨k + 1, by omega, by simp, HA2, HB2.out⟩
          case measure => simp [intOf]; omega
        | false =>
          have hzf : z = false := by rw [← HZA.out]; exact all_no HX.out HY.out
          subst hzf
          go_wp2
          go_ret
          exact ⟨rfl, HB2.out⟩
      · obtain rfl : k = l.length := by omega
        have hi : ¬ (l.length : Int) < (l.length : Int) := by omega
        have hzt : z = true := by
          have := HA.out
          rw [List.take_length] at this
          rw [← HZA.out, this]
        subst hzt
        go_wp2
        go_ret
        exact ⟨rfl, HB.out⟩
end Go.Proofs.YtfgddhabepllfaaDoor
