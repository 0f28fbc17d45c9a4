/- The document's Same of arrays. -/
import Derived.Test.YtfgddhabepllfaaDoorS
namespace Go.Proofs.YtfgddhabepllfaaDoor
open Go.RowKit

theorem sameA_no {a b : Ar} (h : a ≠ b) : sameA a b = false := by
  cases hc : sameA a b with
  | false => rfl
  | true => exact absurd ((sameA_iff a b).1 hc) h
theorem list_ext {la lb : List Vl} (hl : la.length = lb.length) (h : la.take la.length = lb.take la.length) : la = lb := by
  rwa [List.take_length, hl, List.take_length] at h
theorem take_next {la lb : List Vl} {k : Nat} {x : Vl} (h : la.take k = lb.take k) (hx : la[k]? = some x) (hy : lb[k]? = some x) : la.take (k + 1) = lb.take (k + 1) := by
  rw [List.take_add_one, List.take_add_one, h, hx, hy]
set_option maxRecDepth 100000 in
set_option maxHeartbeats 2000000 in
theorem rsame_any (n : Nat) (ra ca rb cb : Int) (va vb : Value) (la lb : List Vl) (hla : la.length ≤ 100000) (w : World) (hn : n ≤ w.heap.size) (hva : ValAt n w va la) (hvb : ValAt n w vb lb) :
    Calls Tryd.prog 17 #[arV ra ca va, arV rb cb vb] w fun e w' => e = .returned (.bool (sameA ⟨ra, ca, la⟩ ⟨rb, cb, lb⟩)) ∧ Below w.heap.size w w' := by
  obtain ⟨A, cp, rfl, hcp, hI⟩ := hva
  obtain ⟨A2, cp2, rfl, hcp2, hI2⟩ := hvb
  obtain ⟨z, hz⟩ : ∃ z, sameA ⟨ra, ca, la⟩ ⟨rb, cb, lb⟩ = z := ⟨_, rfl⟩
  rw [hz]
  have no : ¬ (⟨ra, ca, la⟩ : Ar) = ⟨rb, cb, lb⟩ → z = false := fun h => by rw [← hz]; exact sameA_no h
  have HZ := Lib.hid hz
  obtain ⟨W0, hW0⟩ : ∃ W0, (w.alloc (.cells #[.int .i64 ra, .int .i64 ca, .slice A la.length cp] 25)).alloc (.cells #[.int .i64 rb, .int .i64 cb, .slice A2 lb.length cp2] 25) = W0 := ⟨_, rfl⟩
  have hb0 : Below w.heap.size w W0 := by rw [← hW0]; exact two_below
  have HF0 : Hid (Below w.heap.size w ((w.alloc (.cells #[.int .i64 ra, .int .i64 ca, .slice A la.length cp] 25)).alloc (.cells #[.int .i64 rb, .int .i64 cb, .slice A2 lb.length cp2] 25))) := Lib.hid two_below
  have HX0 : Hid (W0.heap[w.heap.size]? = some (.cells #[.int .i64 ra, .int .i64 ca, .slice A la.length cp] 25 (0, 0))) := Lib.hid (by rw [← hW0]; exact two_old)
  have HX1 : Hid (W0.heap[w.heap.size + 1]? = some (.cells #[.int .i64 rb, .int .i64 cb, .slice A2 lb.length cp2] 25 (0, 0))) := Lib.hid (by rw [← hW0]; exact two_new)
  have HB0 := Lib.hid hb0
  have HW0 := Lib.hid hW0
  clear hz hb0 hW0
  unfold arV
  by_cases h1 : ra = rb
  rotate_left
  · obtain rfl := no (fun h => h1 (congrArg Ar.r h))
    have g1 : (ra != rb) = true := by simpa using h1
    clear no h1
    go_enter Tryd.func17, Tryd.ntmps17
    go_wp2
    go_ret
    exact ⟨rfl, HF0.out⟩
  by_cases h2 : ca = cb
  rotate_left
  · obtain rfl := no (fun h => h2 (congrArg Ar.c h))
    have g1 : (ra != rb) = false := by simpa using h1
    have g2 : (ca != cb) = true := by simpa using h2
    clear no h1 h2
    go_enter Tryd.func17, Tryd.ntmps17
    go_wp2
    go_ret
    exact ⟨rfl, HF0.out⟩
  by_cases h3 : la.length = lb.length
  rotate_left
  · obtain rfl := no (fun h => h3 (congrArg (fun a : Ar => a.l.length) h))
    have g1 : (ra != rb) = false := by simpa using h1
    have g2 : (ca != cb) = false := by simpa using h2
    have g3 : ((la.length : Int) != (lb.length : Int)) = true := by rw [bne_iff_ne]; omega
    clear no h1 h2 h3
    go_enter Tryd.func17, Tryd.ntmps17
    go_wp2
    go_ret
    exact ⟨rfl, HF0.out⟩
  have HLL := Lib.hid h3
  have hcp3 : la.length ≤ cp2 := by omega
  rw [← h3] at HX1 HW0 HF0
  have g1 : (ra != rb) = false := by simpa using h1
  have g2 : (ca != cb) = false := by simpa using h2
  have g3 : ((la.length : Int) != (la.length : Int)) = false := by simp
  have HZL : Hid (la = lb → z = true) := Lib.hid (fun h => by rw [← HZ.out, h1, h2, h]; exact sameA_refl _)
  have HNL : Hid (la ≠ lb → z = false) := Lib.hid (fun h => by rw [← HZ.out]; exact sameA_no (fun e => h (congrArg Ar.l e)))
  have HI : Hid (∀ (k : Nat) x, la[k]? = some x → ∀ W, Below w.heap.size w W → ∃ g o, A = some ⟨g, o, none⟩ ∧ CellV W g o k x) := Lib.hid (fun k x hk W hW => by
    obtain ⟨g, o, hA, hg, hc⟩ := hI k x hk
    exact ⟨g, o, hA, hc.below hW (by omega)⟩)
  have HI2 : Hid (∀ (k : Nat) x, lb[k]? = some x → ∀ W, Below w.heap.size w W → ∃ g o, A2 = some ⟨g, o, none⟩ ∧ CellV W g o k x) := Lib.hid (fun k x hk W hW => by
    obtain ⟨g, o, hA, hg, hc⟩ := hI2 k x hk
    exact ⟨g, o, hA, hc.below hW (by omega)⟩)
  clear no h1 h2 hI hI2 HZ hcp2
  rw [show lb.length = la.length from h3.symm]
  clear h3
  go_enter Tryd.func17, Tryd.ntmps17
  go_wp2_with fail
  rw [HW0.out]
  clear g1 g2 g3
  go_loopw [5] (fun i wr => ∃ k : Nat, k ≤ la.length ∧ i = .int .i64 (k : Int) ∧ Hid (la.take k = lb.take k) ∧ Below W0.heap.size W0 wr) (fun i _ => la.length - (intOf i).toNat)
  case atStart => exact ⟨0, by omega, rfl, Lib.hid (by simp), Below.refl _ _⟩
  case round =>
    obtain ⟨k, hk, rfl, HA, hB⟩ := hrel
    have HB := Lib.hid hB
    obtain ⟨c0, c1, c2, _⟩ := box3 (w := wr.drew) (box_kept HX0.out hB.drew (Nat.le_refl _))
    obtain ⟨d0, d1, d2, _⟩ := box3 (w := wr.drew) (box_kept HX1.out hB.drew (Nat.le_refl _))
    obtain ⟨c0', c1', c2', _⟩ := box3 (box_kept HX0.out hB (Nat.le_refl _))
    have HBW := Lib.hid (HB0.out.trans (hB.mono HB0.out.size))
    clear hB
    by_cases hlt : k < la.length
    · have hx : la[k]? = some la[k] := List.getElem?_eq_getElem hlt
      obtain ⟨x, hxx⟩ : ∃ x, la[k] = x := ⟨_, rfl⟩
      rw [hxx] at hx
      have hlt2 : k < lb.length := by have := HLL.out; omega
      have hy : lb[k]? = some lb[k] := List.getElem?_eq_getElem hlt2
      obtain ⟨y, hyy⟩ : ∃ y, lb[k] = y := ⟨_, rfl⟩
      rw [hyy] at hy
      obtain ⟨g, o, rfl, k0, k1, k2, k3, k4, k5⟩ := HI.out k x hx wr.drew HBW.out.drew
      obtain ⟨g', o', rfl, j0, j1, j2, j3, j4, j5⟩ := HI2.out k y hy wr.drew HBW.out.drew
      have HX := Lib.hid hx
      have HY := Lib.hid hy
      have hi : (k : Int) < (la.length : Int) := by omega
      have hi0 : (0 : Int) ≤ (k : Int) := by omega
      clear hxx hx hyy hy hlt2
      obtain ⟨q, hq⟩ : ∃ q, eqV x y = q := ⟨_, rfl⟩
      obtain ⟨xk, xm, xe, xt, xb, xf⟩ := x
      obtain ⟨yk, ym, ye, yt, yb, yf⟩ := y
      simp only at k0 k1 k2 k3 k4 k5 j0 j1 j2 j3 j4 j5
      cases q with
      | true =>
        obtain ⟨rfl, rfl, rfl, rfl, rfl, rfl⟩ := yes_v hq
        clear hq
        have HA2 : Hid (la.take (k + 1) = lb.take (k + 1)) := Lib.hid (take_next HA.out HX.out HY.out)
        go_wp2_with fail
        refine wp_region_held_drew (S := fun X => X = wr.drew) (by kernel_rfl) rfl (fun hS => ?_)
        refine wpAnyH_take (i := 0) (v := ?v0t) rfl (by kernel_rfl) (by kernel_rfl) (by kernel_rfl) (fun _ _ _ h => h) (Or.inl ⟨by kernel_rfl, ?h0t⟩) hS ?_
        case h0t => (rintro w2 rfl; go_simp; try with_reducible rfl)
        refine wpAnyH_take (i := 1) (v := ?v1t) rfl (by kernel_rfl) (by kernel_rfl) (by kernel_rfl) (fun _ _ _ h => h) (Or.inl ⟨by kernel_rfl, ?h1t⟩) hS ?_
        case h1t => (rintro w2 rfl; go_simp; try with_reducible rfl)
        refine wpAnyH_take (i := 2) (v := ?v2t) rfl (by kernel_rfl) (by kernel_rfl) (by kernel_rfl) (fun _ _ _ h => h) (Or.inl ⟨by kernel_rfl, ?h2t⟩) hS ?_
        case h2t => (rintro w2 rfl; go_simp; try with_reducible rfl)
        refine wpAnyH_take (i := 3) (v := ?v3t) rfl (by kernel_rfl) (by kernel_rfl) (by kernel_rfl) (fun _ _ _ h => h) (Or.inl ⟨by kernel_rfl, ?h3t⟩) hS ?_
        case h3t => (rintro w2 rfl; go_simp; try with_reducible rfl)
        refine wpAnyH_take (i := 4) (v := ?v4t) rfl (by kernel_rfl) (by kernel_rfl) (by kernel_rfl) (fun _ _ _ h => h) (Or.inl ⟨by kernel_rfl, ?h4t⟩) hS ?_
        case h4t => (rintro w2 rfl; go_simp; try with_reducible rfl)
        refine wpAnyH_take (i := 5) (v := ?v5t) rfl (by kernel_rfl) (by kernel_rfl) (by kernel_rfl) (fun _ _ _ h => h) (Or.inl ⟨by kernel_rfl, ?h5t⟩) hS ?_
        case h5t => (rintro w2 rfl; go_simp; try with_reducible rfl)
        refine wpAnyH_take (i := 6) (v := ?v6t) rfl (by kernel_rfl) (by kernel_rfl) (by kernel_rfl) (fun _ _ _ h => h) (Or.inl ⟨by kernel_rfl, ?h6t⟩) hS ?_
        case h6t => (rintro w2 rfl; go_simp; try with_reducible rfl)
        refine wpAnyH_take (i := 7) (v := ?v7t) rfl (by kernel_rfl) (by kernel_rfl) (by kernel_rfl) (fun _ _ _ h => h) (Or.inl ⟨by kernel_rfl, ?h7t⟩) hS ?_
        case h7t => (rintro w2 rfl; go_simp; try with_reducible rfl)
        refine wpAnyH_take (i := 8) (v := ?v8t) rfl (by kernel_rfl) (by kernel_rfl) (by kernel_rfl) (fun _ _ _ h => h) (Or.inl ⟨by kernel_rfl, ?h8t⟩) hS ?_
        case h8t => (rintro w2 rfl; go_simp; try with_reducible rfl)
        refine wpAnyH_take (i := 9) (v := ?v9t) rfl (by kernel_rfl) (by kernel_rfl) (by kernel_rfl) (fun _ _ _ h => h) (Or.inl ⟨by kernel_rfl, ?h9t⟩) hS ?_
        case h9t => (rintro w2 rfl; go_simp; try with_reducible rfl)
        refine wpAnyH_take (i := 10) (v := .bool false) rfl (by kernel_rfl) (by kernel_rfl) (by kernel_rfl) (fun _ _ _ h => h) (Or.inl ⟨by kernel_rfl, ?h10t⟩) hS ?_
        case h10t => (rintro w2 rfl; go_simp; try with_reducible rfl)
        refine wpAnyH_done (by kernel_rfl) ?_ _
        go_simp
        go_wp2
        go_roundw
        case rel => exact ⟨k + 1, by omega, by simp, HA2, HB.out.drew⟩
        case measure => simp [intOf]; omega
      | false =>
        have HNE := Lib.hid (ne_v hq)
        have hne : la ≠ lb := fun e => by
          have h2 := HX.out
          rw [e] at h2
          rw [Option.some.inj (h2.symm.trans HY.out), eqV_refl] at hq
          cases hq
        obtain rfl := HNL.out hne
        clear hq hne
        go_wp2_with fail
        refine wp_region_held_drew (S := fun X => X = wr.drew) (by kernel_rfl) rfl (fun hS => ?_)
        refine wpAnyH_take (i := 0) (v := ?v0f) rfl (by kernel_rfl) (by kernel_rfl) (by kernel_rfl) (fun _ _ _ h => h) (Or.inl ⟨by kernel_rfl, ?h0f⟩) hS ?_
        case h0f => (rintro w2 rfl; go_simp; try with_reducible rfl)
        refine wpAnyH_take (i := 1) (v := ?v1f) rfl (by kernel_rfl) (by kernel_rfl) (by kernel_rfl) (fun _ _ _ h => h) (Or.inl ⟨by kernel_rfl, ?h1f⟩) hS ?_
        case h1f => (rintro w2 rfl; go_simp; try with_reducible rfl)
        refine wpAnyH_take (i := 2) (v := ?v2f) rfl (by kernel_rfl) (by kernel_rfl) (by kernel_rfl) (fun _ _ _ h => h) (Or.inl ⟨by kernel_rfl, ?h2f⟩) hS ?_
        case h2f => (rintro w2 rfl; go_simp; try with_reducible rfl)
        refine wpAnyH_take (i := 3) (v := ?v3f) rfl (by kernel_rfl) (by kernel_rfl) (by kernel_rfl) (fun _ _ _ h => h) (Or.inl ⟨by kernel_rfl, ?h3f⟩) hS ?_
        case h3f => (rintro w2 rfl; go_simp; try with_reducible rfl)
        refine wpAnyH_take (i := 4) (v := ?v4f) rfl (by kernel_rfl) (by kernel_rfl) (by kernel_rfl) (fun _ _ _ h => h) (Or.inl ⟨by kernel_rfl, ?h4f⟩) hS ?_
        case h4f => (rintro w2 rfl; go_simp; try with_reducible rfl)
        refine wpAnyH_take (i := 5) (v := ?v5f) rfl (by kernel_rfl) (by kernel_rfl) (by kernel_rfl) (fun _ _ _ h => h) (Or.inl ⟨by kernel_rfl, ?h5f⟩) hS ?_
        case h5f => (rintro w2 rfl; go_simp; try with_reducible rfl)
        refine wpAnyH_take (i := 6) (v := ?v6f) rfl (by kernel_rfl) (by kernel_rfl) (by kernel_rfl) (fun _ _ _ h => h) (Or.inl ⟨by kernel_rfl, ?h6f⟩) hS ?_
        case h6f => (rintro w2 rfl; go_simp; try with_reducible rfl)
        refine wpAnyH_take (i := 7) (v := ?v7f) rfl (by kernel_rfl) (by kernel_rfl) (by kernel_rfl) (fun _ _ _ h => h) (Or.inl ⟨by kernel_rfl, ?h7f⟩) hS ?_
        case h7f => (rintro w2 rfl; go_simp; try with_reducible rfl)
        refine wpAnyH_take (i := 8) (v := ?v8f) rfl (by kernel_rfl) (by kernel_rfl) (by kernel_rfl) (fun _ _ _ h => h) (Or.inl ⟨by kernel_rfl, ?h8f⟩) hS ?_
        case h8f => (rintro w2 rfl; go_simp; try with_reducible rfl)
        refine wpAnyH_take (i := 9) (v := ?v9f) rfl (by kernel_rfl) (by kernel_rfl) (by kernel_rfl) (fun _ _ _ h => h) (Or.inl ⟨by kernel_rfl, ?h9f⟩) hS ?_
        case h9f => (rintro w2 rfl; go_simp; try with_reducible rfl)
        refine wpAnyH_take (i := 10) (v := .bool true) rfl (by kernel_rfl) (by kernel_rfl) (by kernel_rfl) (fun _ _ _ h => h) (Or.inl ⟨by kernel_rfl, ?h10f⟩) hS ?_
        case h10f => (rintro w2 rfl; go_simp; exact HNE.out)
        refine wpAnyH_done (by kernel_rfl) ?_ _
        go_simp
        go_wp2
        go_ret
        exact ⟨rfl, HBW.out.drew⟩
    · obtain rfl : k = la.length := by omega
      have hi : ¬ (la.length : Int) < (la.length : Int) := by omega
      obtain rfl := HZL.out (list_ext HLL.out HA.out)
      go_wp2
      go_ret
      exact ⟨rfl, HBW.out⟩
end Go.Proofs.YtfgddhabepllfaaDoor
