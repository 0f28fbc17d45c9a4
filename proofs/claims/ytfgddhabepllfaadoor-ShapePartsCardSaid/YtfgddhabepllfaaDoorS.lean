/- The document's Right and Same of arrays; Small; a small number. -/
import Derived.Test.YtfgddhabepllfaaDoorR
namespace Go.Proofs.YtfgddhabepllfaaDoor
open Go.RowKit

set_option maxRecDepth 100000 in
theorem num_any (k : Int) (w : World) : Calls Tryd.prog 46 #[.int .i64 k] w fun r w' => r = .returned (vV ⟨1, k, 0, bs0, false, 0⟩) ∧ Below w.heap.size w w' := by
  show Calls Tryd.prog 46 _ w fun r w' => r = .returned (.agg #[.int .i64 1, .int .i64 k, .int .i64 0, .string ⟨#[]⟩, .bool false, .int .i64 0]) ∧ _
  by_cases h : k = 0
  · subst h
    go_enter Tryd.func46, Tryd.ntmps46
    go_wp2
    exact bodyPost_ret (v := .agg #[.int .i64 1, .int .i64 0, .int .i64 0, .string ⟨#[]⟩, .bool false, .int .i64 0]) (by simp [results, Tryd.f46, go_sem]) rfl ⟨rfl, Nm.alloc_below _ _⟩
  · have h1 : (k == 0) = false := by simpa using h
    clear h
    go_enter Tryd.func46, Tryd.ntmps46
    go_wp2
    exact bodyPost_ret (v := .agg #[.int .i64 1, .int .i64 k, .int .i64 0, .string ⟨#[]⟩, .bool false, .int .i64 0]) (by simp [results, Tryd.f46, go_sem]) rfl ⟨rfl, Nm.alloc_below _ _⟩
/-- no more than is looked at -/
def smallB (l : List Vl) : Bool := decide (l.length ≤ 300) && l.all fun v => decide (v.t.size ≤ 300)
theorem small_take {l : List Vl} {k : Nat} {x : Vl} (h : (l.take k).all (fun v => decide (v.t.size ≤ 300)) = true) (hx : l[k]? = some x) (hr : x.t.size ≤ 300) : (l.take (k + 1)).all (fun v => decide (v.t.size ≤ 300)) = true := by
  have hlt := (List.getElem?_eq_some_iff.1 hx).1
  have : l.take (k + 1) = l.take k ++ [x] := by
    rw [← (List.getElem?_eq_some_iff.1 hx).2]
    exact (List.take_append_getElem hlt).symm
  rw [this, List.all_append, h]
  simp [hr]
set_option maxRecDepth 100000 in
set_option maxHeartbeats 1000000 in
theorem small_any (n : Nat) (r c : Int) (v : Value) (l : List Vl) (w : World) (hn : n ≤ w.heap.size) (h : ValAt n w v l) :
    Calls Tryd.prog 13 #[arV r c v] w fun e w' => e = .returned (.int .i64 (if smallB l then 1 else 0)) ∧ Below w.heap.size w w' := by
  obtain ⟨A, cp, rfl, hcp, hI⟩ := h
  obtain ⟨z, hz⟩ : ∃ z : Int, (if smallB l then (1 : Int) else 0) = z := ⟨_, rfl⟩
  rw [hz]
  have HB0 := Lib.hid (Nm.alloc_below w (.cells #[.int .i64 r, .int .i64 c, .slice A l.length cp] 25))
  have HZ := Lib.hid hz
  clear hz
  unfold arV
  by_cases hs : l.length ≤ 300
  rotate_left
  · have hzf : z = 0 := by rw [← HZ.out]; unfold smallB; rw [decide_eq_false hs]; rfl
    subst hzf
    have hi : (300 : Int) < (l.length : Int) := by omega
    go_enter Tryd.func13, Tryd.ntmps13
    go_wp2
    go_ret
    exact ⟨rfl, HB0.out⟩
  have hza : (if l.all (fun v => decide (v.t.size ≤ 300)) then (1 : Int) else 0) = z := by rw [← HZ.out]; unfold smallB; rw [decide_eq_true hs, Bool.true_and]
  have HZA := Lib.hid hza
  have hi : ¬ (300 : Int) < (l.length : Int) := by omega
  have HI : Hid (∀ (k : Nat) x, l[k]? = some x → ∀ W, Below w.heap.size w W → ∃ g o, A = some ⟨g, o, none⟩ ∧ CellV W g o k x) := Lib.hid (fun k x hk W hW => by
    obtain ⟨g, o, hA, hg, hc⟩ := hI k x hk
    exact ⟨g, o, hA, hc.below hW (by omega)⟩)
  clear hza HZ hI
  go_enter Tryd.func13, Tryd.ntmps13
  go_wp2_with fail
  clear hi
  go_loopw [12] (fun i wr => ∃ k : Nat, k ≤ l.length ∧ i = .int .i64 (k : Int) ∧ Hid ((l.take k).all (fun v => decide (v.t.size ≤ 300)) = true) ∧ Below w.heap.size w wr) (fun i _ => l.length - (intOf i).toNat)
  case atStart => exact ⟨0, by omega, rfl, Lib.hid (by simp), HB0.out⟩
  case round =>
    obtain ⟨k, hk, rfl, HA, hB⟩ := hrel
    have HB := Lib.hid hB
    clear hB
    by_cases hlt : k < l.length
    · have hx : l[k]? = some l[k] := List.getElem?_eq_getElem hlt
      obtain ⟨x, hxx⟩ : ∃ x, l[k] = x := ⟨_, rfl⟩
      rw [hxx] at hx
      obtain ⟨g, o, rfl, k0, k1, k2, k3, k4, k5⟩ := HI.out k x hx wr HB.out
      have HX := Lib.hid hx
      obtain ⟨xk, xm, xe, xt, xb, xf⟩ := x
      simp only at k0 k1 k2 k3 k4 k5
      have hi : (k : Int) < (l.length : Int) := by omega
      have hi0 : (0 : Int) ≤ (k : Int) := by omega
      have HB2 := Lib.hid (HB.out.alloc HB.out.size (.cells #[.int .i64 xk, .int .i64 xm, .int .i64 xe, .string xt, .bool xb, .int .i64 xf] 34))
      clear hxx hx
      by_cases hy : xt.size ≤ 300
      · have hyi : ¬ (300 : Int) < (xt.size : Int) := by omega
        have HA2 : Hid ((l.take (k + 1)).all (fun v => decide (v.t.size ≤ 300)) = true) := Lib.hid (small_take HA.out HX.out hy)
        clear hy
        go_wp2
        go_roundw
        case rel => exact ⟨k + 1, by omega, by simp, HA2, HB2.out⟩
        case measure => simp [intOf]; omega
      · have hyi : (300 : Int) < (xt.size : Int) := by omega
        have hzf : z = 0 := by
          rw [← HZA.out]
          have hno : ¬ (l.all fun v => decide (v.t.size ≤ 300)) = true := fun hall => hy (of_decide_eq_true (List.all_eq_true.1 hall ⟨xk, xm, xe, xt, xb, xf⟩ (List.mem_of_getElem? HX.out)))
          exact if_neg hno
        subst hzf
        clear hy
        go_wp2
        go_ret
        exact ⟨rfl, HB2.out⟩
    · obtain rfl : k = l.length := by omega
      have hi : ¬ (l.length : Int) < (l.length : Int) := by omega
      have hzt : z = 1 := by
        have := HA.out
        rw [List.take_length] at this
        rw [← HZA.out, if_pos this]
      subst hzt
      go_wp2
      go_ret
      exact ⟨rfl, HB.out⟩
set_option maxRecDepth 100000 in
set_option maxHeartbeats 1000000 in
/-- whether an array may be: the document -/
theorem rrighta_any (n : Nat) (r c : Int) (v : Value) (l : List Vl) (hl : l.length ≤ 100000) (w : World) (hn : n ≤ w.heap.size) (h : ValAt n w v l) :
    Calls Tryd.prog 15 #[arV r c v] w fun e w' => e = .returned (.bool (rightA ⟨r, c, l⟩)) ∧ Below w.heap.size w w' := by
  obtain ⟨A, cp, rfl, hcp, hI⟩ := h
  obtain ⟨z, hz⟩ : ∃ z, rightA ⟨r, c, l⟩ = z := ⟨_, rfl⟩
  rw [hz]
  obtain ⟨W0, hW0⟩ : ∃ W0, w.alloc (.cells #[.int .i64 r, .int .i64 c, .slice A l.length cp] 25) = W0 := ⟨_, rfl⟩
  have hb0 : Below w.heap.size w W0 := by rw [← hW0]; exact Nm.alloc_below _ _
  have hx0 : W0.heap[w.heap.size]? = some (.cells #[.int .i64 r, .int .i64 c, .slice A l.length cp] 25 (0, 0)) := by rw [← hW0]; exact heap_alloc_new w _
  have HB0 := Lib.hid hb0
  have HX0 := Lib.hid hx0
  have HW0 := Lib.hid hW0
  have HZ := Lib.hid hz
  obtain ⟨c0, c1, c2, _⟩ := box3 hx0
  rw [← hW0] at c0 c1 c2
  clear hz hb0 hx0 hW0
  unfold arV
  have no : ¬ (1 ≤ r ∧ 1 ≤ c ∧ r ≤ 4096 ∧ c ≤ 4096 ∧ r * c ≤ 4096) → z = false := fun h => by
    rw [← HZ.out]; unfold rightA fitsB; simp only [decide_eq_false h, Bool.false_and]
  have fin0 : Below w.heap.size w (w.alloc (.cells #[.int .i64 r, .int .i64 c, .slice A l.length cp] 25)) := Nm.alloc_below _ _
  have HF0 := Lib.hid fin0
  clear fin0
  by_cases h1 : 1 ≤ r
  rotate_left
  · obtain rfl := no (fun h => h1 h.1)
    have g1 : r < 1 := by omega
    clear no h1
    go_enter Tryd.func15, Tryd.ntmps15
    go_wp2
    go_ret
    exact ⟨rfl, HF0.out⟩
  by_cases h2 : 1 ≤ c
  rotate_left
  · obtain rfl := no (fun h => h2 h.2.1)
    have g1 : ¬ r < 1 := by omega
    have g2 : c < 1 := by omega
    clear no h1 h2
    go_enter Tryd.func15, Tryd.ntmps15
    go_wp2
    go_ret
    exact ⟨rfl, HF0.out⟩
  by_cases h3 : r ≤ 4096
  rotate_left
  · obtain rfl := no (fun h => h3 h.2.2.1)
    have g1 : ¬ r < 1 := by omega
    have g2 : ¬ c < 1 := by omega
    have g3 : 4096 < r := by omega
    clear no h1 h2 h3
    go_enter Tryd.func15, Tryd.ntmps15
    go_wp2
    go_ret
    exact ⟨rfl, HF0.out⟩
  by_cases h4 : c ≤ 4096
  rotate_left
  · obtain rfl := no (fun h => h4 h.2.2.2.1)
    have g1 : ¬ r < 1 := by omega
    have g2 : ¬ c < 1 := by omega
    have g3 : ¬ 4096 < r := by omega
    have g4 : 4096 < c := by omega
    clear no h1 h2 h3 h4
    go_enter Tryd.func15, Tryd.ntmps15
    go_wp2
    go_ret
    exact ⟨rfl, HF0.out⟩
  obtain ⟨hw, _, _⟩ := fits_wrap h1 h2 h3 h4
  have g1 : ¬ r < 1 := by omega
  have g2 : ¬ c < 1 := by omega
  have g3 : ¬ 4096 < r := by omega
  have g4 : ¬ 4096 < c := by omega
  by_cases h5 : r * c ≤ 4096
  rotate_left
  · obtain rfl := no (fun h => h5 h.2.2.2.2)
    have g5 : 4096 < r * c := by omega
    clear no h1 h2 h3 h4 h5
    go_enter Tryd.func15, Tryd.ntmps15
    go_wp2
    go_ret
    exact ⟨rfl, HF0.out⟩
  have g5 : ¬ 4096 < r * c := by omega
  have hf : fitsB r c = true := fitsB_iff.2 ⟨h1, h2, h3, h4, h5⟩
  by_cases hlen : (l.length : Int) = r * c
  rotate_left
  · have hzf : z = false := by rw [← HZ.out]; unfold rightA; simp only [hf, hlen, decide_false, Bool.false_and, Bool.true_and]
    subst hzf
    have hne : ((l.length : Int) != r * c) = true := by simpa using hlen
    clear no h1 h2 h3 h4 h5 hf hlen
    go_enter Tryd.func15, Tryd.ntmps15
    go_wp2
    go_ret
    exact ⟨rfl, HF0.out⟩
  have hza : l.all rightV = z := by rw [← HZ.out]; unfold rightA; simp only [hf, hlen, decide_true, Bool.true_and]
  have hne : ((l.length : Int) != r * c) = false := by simp [hlen]
  have HZA := Lib.hid hza
  have HI : Hid (∀ (k : Nat) x, l[k]? = some x → ∀ W, Below w.heap.size w W → ∃ g o, A = some ⟨g, o, none⟩ ∧ CellV W g o k x) := Lib.hid (fun k x hk W hW => by
    obtain ⟨g, o, hA, hg, hc⟩ := hI k x hk
    exact ⟨g, o, hA, hc.below hW (by omega)⟩)
  clear no h1 h2 h3 h4 h5 hf hlen hza hI HZ
  go_enter Tryd.func15, Tryd.ntmps15
  go_wp2_with fail
  rw [HW0.out]
  clear hw hne g1 g2 g3 g4 g5 c0 c1 c2
  go_loopw [3] (fun i wr => ∃ k : Nat, k ≤ l.length ∧ i = .int .i64 (k : Int) ∧ Hid ((l.take k).all rightV = true) ∧ Below W0.heap.size W0 wr) (fun i _ => l.length - (intOf i).toNat)
  case atStart => exact ⟨0, by omega, rfl, Lib.hid (by simp), Below.refl _ _⟩
  case round =>
    obtain ⟨k, hk, rfl, HA, hB⟩ := hrel
    have HB := Lib.hid hB
    obtain ⟨c0, c1, c2, _⟩ := box3 (box_kept HX0.out hB (Nat.le_refl _))
    have HBW := Lib.hid (HB0.out.trans (hB.mono HB0.out.size))
    clear hB
    by_cases hlt : k < l.length
    · have hx : l[k]? = some l[k] := List.getElem?_eq_getElem hlt
      obtain ⟨x, hxx⟩ : ∃ x, l[k] = x := ⟨_, rfl⟩
      rw [hxx] at hx
      obtain ⟨g, o, rfl, k0, k1, k2, k3, k4, k5⟩ := HI.out k x hx wr HBW.out
      obtain ⟨y, hy⟩ : ∃ y, rightV x = y := ⟨_, rfl⟩
      have HR := Lib.hid (fun W => rr_any x W)
      rw [hy] at HR
      have HY := Lib.hid hy
      have HX := Lib.hid hx
      obtain ⟨xk, xm, xe, xt, xb, xf⟩ := x
      unfold vV at HR
      simp only at k0 k1 k2 k3 k4 k5 HR
      have hi : (k : Int) < (l.length : Int) := by omega
      have hi0 : (0 : Int) ≤ (k : Int) := by omega
      clear hxx hx hy
      go_wp2_with fail
      refine (HR.out _).mono ?_
      rintro e w2 ⟨rfl, hb2⟩
      have HB2 := Lib.hid (HB.out.trans (hb2.mono HB.out.size))
      have HBW2 := Lib.hid (HBW.out.trans (hb2.mono HBW.out.size))
      clear hb2 k0 k1 k2 k3 k4 k5 c0 c1 c2
      cases y with
      | true =>
        have HA2 : Hid ((l.take (k + 1)).all rightV = true) := Lib.hid (all_take HA.out HX.out HY.out)
        go_wp2
        go_roundw
        case rel => exact ⟨k + 1, by omega, by simp, HA2, HB2.out⟩
        case measure => simp [intOf]; omega
      | false =>
        have hzf : z = false := by rw [← HZA.out]; exact all_no HX.out HY.out
        subst hzf
        go_wp2
        go_ret
        exact ⟨rfl, HBW2.out⟩
    · obtain rfl : k = l.length := by omega
      have hi : ¬ (l.length : Int) < (l.length : Int) := by omega
      have hzt : z = true := by
        have := HA.out
        rw [List.take_length] at this
        rw [← HZA.out, this]
      subst hzt
      go_wp2
      go_ret
      exact ⟨rfl, HBW.out⟩
end Go.Proofs.YtfgddhabepllfaaDoor
