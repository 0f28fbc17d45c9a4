/- The program's Same, At, Make. -/
import Derived.Test.YtfgddhabepllfaaDoorT
namespace Go.Proofs.YtfgddhabepllfaaDoor
open Go.RowKit

set_option maxRecDepth 100000 in
set_option maxHeartbeats 2000000 in
theorem equalf_any (n : Nat) (va vb : Value) (la lb : List Vl) (hla : la.length ≤ 100000) (w : World) (hn : n ≤ w.heap.size) (hva : ValAt n w va la) (hvb : ValAt n w vb lb) :
    Calls Tryd.prog 52 #[va, vb, .func (.func 53) #[] #[]] w fun e w' => e = .returned (.bool (eqL la lb)) ∧ Below w.heap.size w w' := by
  obtain ⟨A, cp, rfl, hcp, hI⟩ := hva
  obtain ⟨A2, cp2, rfl, hcp2, hI2⟩ := hvb
  obtain ⟨z, hz⟩ : ∃ z, eqL la lb = z := ⟨_, rfl⟩
  rw [hz]
  have no : la ≠ lb → z = false := fun h => by
    rw [← hz]
    cases hc : eqL la lb with
    | false => rfl
    | true => exact absurd ((eqL_iff la lb).1 hc) h
  have HZL : Hid (la = lb → z = true) := Lib.hid (fun h => by rw [← hz]; exact (eqL_iff la lb).2 h)
  have HNL := Lib.hid no
  clear hz
  have hE := enters_of Tryd.func53 (by kernel_rfl) rfl
  by_cases h3 : la.length = lb.length
  rotate_left
  · obtain rfl := no (fun h => h3 (congrArg List.length h))
    have g3 : ((la.length : Int) != (lb.length : Int)) = true := by rw [bne_iff_ne]; omega
    clear no h3
    go_enter Tryd.func52, Tryd.ntmps52
    go_wp2
    go_ret
    exact ⟨rfl, Below.refl _ _⟩
  have HLL := Lib.hid h3
  have hcp3 : la.length ≤ cp2 := by omega
  have g3 : ((la.length : Int) != (la.length : Int)) = false := by simp
  have HI : Hid (∀ (k : Nat) x, la[k]? = some x → ∀ W, Below w.heap.size w W → ∃ g o, A = some ⟨g, o, none⟩ ∧ CellV W g o k x) := Lib.hid (fun k x hk W hW => by
    obtain ⟨g, o, hA, hg, hc⟩ := hI k x hk
    exact ⟨g, o, hA, hc.below hW (by omega)⟩)
  have HI2 : Hid (∀ (k : Nat) x, lb[k]? = some x → ∀ W, Below w.heap.size w W → ∃ g o, A2 = some ⟨g, o, none⟩ ∧ CellV W g o k x) := Lib.hid (fun k x hk W hW => by
    obtain ⟨g, o, hA, hg, hc⟩ := hI2 k x hk
    exact ⟨g, o, hA, hc.below hW (by omega)⟩)
  clear no hI hI2 hcp2
  rw [show lb.length = la.length from h3.symm]
  clear h3
  go_enter Tryd.func52, Tryd.ntmps52
  go_wp2_with fail
  clear g3
  go_loopw [17] (fun i wr => ∃ k : Nat, k ≤ la.length ∧ i = .int .i64 (k : Int) ∧ Hid (la.take k = lb.take k) ∧ Below w.heap.size w wr) (fun i _ => la.length - (intOf i).toNat)
  case atStart => exact ⟨0, by omega, rfl, Lib.hid (by simp), Below.refl _ _⟩
  case round =>
    obtain ⟨k, hk, rfl, HA, hB⟩ := hrel
    have HB := Lib.hid hB
    clear hB
    by_cases hlt : k < la.length
    · have hx : la[k]? = some la[k] := List.getElem?_eq_getElem hlt
      obtain ⟨x, hxx⟩ : ∃ x, la[k] = x := ⟨_, rfl⟩
      rw [hxx] at hx
      have hlt2 : k < lb.length := by have := HLL.out; omega
      have hy : lb[k]? = some lb[k] := List.getElem?_eq_getElem hlt2
      obtain ⟨y, hyy⟩ : ∃ y, lb[k] = y := ⟨_, rfl⟩
      rw [hyy] at hy
      have HX := Lib.hid hx
      have HY := Lib.hid hy
      obtain ⟨q, hq⟩ : ∃ q, eqV x y = q := ⟨_, rfl⟩
      have HQ := Lib.hid hq
      have HS := Lib.hid (fun W => same_any x y W)
      rw [hq] at HS
      obtain ⟨xk, xm, xe, xt, xb, xf⟩ := x
      obtain ⟨yk, ym, ye, yt, yb, yf⟩ := y
      have hb1 := HB.out.alloc HB.out.size (.cells #[.int .i64 xk, .int .i64 xm, .int .i64 xe, .string xt, .bool xb, .int .i64 xf] 34)
      obtain ⟨g, o, rfl, k0, k1, k2, k3, k4, k5⟩ := HI.out k _ hx wr HB.out
      obtain ⟨g', o', rfl, j0, j1, j2, j3, j4, j5⟩ := HI2.out k _ hy _ hb1
      have HB2 := Lib.hid (hb1.alloc hb1.size (.cells #[.int .i64 yk, .int .i64 ym, .int .i64 ye, .string yt, .bool yb, .int .i64 yf] 34))
      unfold vV at HS
      simp only at k0 k1 k2 k3 k4 k5 j0 j1 j2 j3 j4 j5 HS
      have hi : (k : Int) < (la.length : Int) := by omega
      have hi0 : (0 : Int) ≤ (k : Int) := by omega
      clear hxx hx hyy hy hlt2 hq hb1
      go_wp2_with fail
      refine (HS.out _).mono ?_
      rintro e w2 ⟨rfl, hb2⟩
      have HB3 := Lib.hid (HB2.out.trans (hb2.mono HB2.out.size))
      clear hb2 k0 k1 k2 k3 k4 k5 j0 j1 j2 j3 j4 j5
      cases q with
      | true =>
        have HA2 : Hid (la.take (k + 1) = lb.take (k + 1)) := Lib.hid (take_next HA.out HX.out (by rw [(eqV_iff _ _).1 HQ.out]; exact HY.out))
        go_wp2
        go_roundw
        case rel => exact ⟨k + 1, by omega, by simp, HA2, HB3.out⟩
        case measure => simp [intOf]; omega
      | false =>
        have hne : la ≠ lb := fun e => by
          have h2 := HX.out
          have hq := HQ.out
          rw [e] at h2
          rw [Option.some.inj (h2.symm.trans HY.out), eqV_refl] at hq
          cases hq
        obtain rfl := HNL.out hne
        clear hne
        go_wp2
        go_ret
        exact ⟨rfl, HB3.out⟩
    · obtain rfl : k = la.length := by omega
      have hi : ¬ (la.length : Int) < (la.length : Int) := by omega
      obtain rfl := HZL.out (list_ext HLL.out HA.out)
      go_wp2
      go_ret
      exact ⟨rfl, HB.out⟩
set_option maxRecDepth 100000 in
set_option maxHeartbeats 2000000 in
theorem psame_any (n : Nat) (ra ca rb cb : Int) (va vb : Value) (la lb : List Vl) (hla : la.length ≤ 100000) (w : World) (hn : n ≤ w.heap.size) (hva : ValAt n w va la) (hvb : ValAt n w vb lb) :
    Calls Tryd.prog 20 #[arV ra ca va, arV rb cb vb] w fun e w' => e = .returned (.bool (sameA ⟨ra, ca, la⟩ ⟨rb, cb, lb⟩)) ∧ Below w.heap.size w w' := by
  obtain ⟨z, hz⟩ : ∃ z, sameA ⟨ra, ca, la⟩ ⟨rb, cb, lb⟩ = z := ⟨_, rfl⟩
  rw [hz]
  have HF0 : Hid (Below w.heap.size w ((w.alloc (.cells #[.int .i64 ra, .int .i64 ca, va] 25)).alloc (.cells #[.int .i64 rb, .int .i64 cb, vb] 25))) := Lib.hid two_below
  have HEQ := Lib.hid (fun W (hW : Below w.heap.size w W) => equalf_any n va vb la lb hla W (Nat.le_trans hn hW.size) (hva.below (hW.mono hn)) (hvb.below (hW.mono hn)))
  obtain ⟨A, cp, rfl, _⟩ := id hva
  obtain ⟨A2, cp2, rfl, _⟩ := id hvb
  unfold arV
  clear hn hva hvb hla
  by_cases h1 : ra = rb
  rotate_left
  · obtain rfl : z = false := by rw [← hz]; exact sameA_no (fun h => h1 (congrArg Ar.r h))
    have g1 : (ra == rb) = false := by simpa using h1
    clear h1 hz
    go_enter Tryd.func20, Tryd.ntmps20
    go_wp2
    go_ret
    exact ⟨rfl, HF0.out⟩
  by_cases h2 : ca = cb
  rotate_left
  · obtain rfl : z = false := by rw [← hz]; exact sameA_no (fun h => h2 (congrArg Ar.c h))
    have g1 : (ra == rb) = true := by simpa using h1
    have g2 : (ca == cb) = false := by simpa using h2
    clear h1 h2 hz
    go_enter Tryd.func20, Tryd.ntmps20
    go_wp2
    go_ret
    exact ⟨rfl, HF0.out⟩
  have hz2 : eqL la lb = z := by rw [← hz, h1, h2]; unfold sameA; simp
  have g1 : (ra == rb) = true := by simpa using h1
  have g2 : (ca == cb) = true := by simpa using h2
  rw [hz2] at HEQ
  clear h1 h2 hz hz2
  go_enter Tryd.func20, Tryd.ntmps20
  go_wp2_with fail
  refine (HEQ.out _ HF0.out).mono ?_
  rintro e w1 ⟨rfl, hb1⟩
  have HB1 := Lib.hid (HF0.out.trans (hb1.mono HF0.out.size))
  clear hb1
  go_wp2
  go_ret
  exact ⟨rfl, HB1.out⟩
end Go.Proofs.YtfgddhabepllfaaDoor
