/- Walk over num.Floor. -/
import Derived.Test.YtkdjdoncmihkfaaDoorFb
namespace Go.Proofs.YtkdjdoncmihkfaaDoor
open Go.RowKit

set_option maxHeartbeats 2000000 in
theorem floor_no (m e : Int) (hw : Wf m e) (hr : rightB m e = false) (w : World) : Calls Tryd.prog 37 #[numV m e] w fun r w' => r = .returned (numV 0 0) ∧ Below w.heap.size w w' := by
  have R1 : Hid (∀ w1, Calls Tryd.prog 17 #[.agg #[.int .i64 m, .int .i64 e]] w1 fun r w' => r = .returned (.bool false) ∧ Below w1.heap.size w1 w') := by
    intro w1; have := right_any m e hw.1.1 hw.1.2 hw.2.2 w1; rw [hr] at this; exact this
  clear hr hw
  unfold numV
  go_enter Tryd.func37, Tryd.ntmps37
  go_wp2_with fail
  refine (R1.out _).mono ?_
  rintro e w1 ⟨rfl, hb1⟩
  have hT0 := Duo.new w m e 0 0
  have hB0 := below2 w (.cells #[.int .i64 m, .int .i64 e] 24) (.cells #[.int .i64 0, .int .i64 0] 24)
  obtain ⟨hT1, hZ1⟩ := hT0.below hb1 (by simp)
  have hW1 := hB0.trans (hb1.mono hB0.size)
  clear hT0 hB0 hb1
  obtain ⟨⟨p0, p1, p2, p3⟩, p4, p5, p6, p7⟩ := hT1
  go_wp2
  refine bodyPost_ret (v := .agg #[.int .i64 0, .int .i64 0]) (by simp [results, Tryd.results37, go_sem, p4, p5]) rfl ⟨rfl, ?_⟩
  first | exact hW1 | exact slot_set2 hW1 (by omega) _ _
set_option maxHeartbeats 2000000 in
theorem floor_hi (m e : Int) (hr : rightB m e = true) (he : 0 ≤ e) (w : World) : Calls Tryd.prog 37 #[numV m e] w fun r w' => r = .returned (numV m e) ∧ Below w.heap.size w w' := by
  obtain ⟨ba, bb1, bb2⟩ := right_bounds hr
  have R1 : Hid (∀ w1, Calls Tryd.prog 17 #[.agg #[.int .i64 m, .int .i64 e]] w1 fun r w' => r = .returned (.bool true) ∧ Below w1.heap.size w1 w') := by
    intro w1; have := right_any m e (by omega) (by omega) (by omega) w1; rw [hr] at this; exact this
  clear hr
  unfold numV
  go_enter Tryd.func37, Tryd.ntmps37
  go_wp2_with fail
  refine (R1.out _).mono ?_
  rintro e w1 ⟨rfl, hb1⟩
  have hT0 := Duo.new w m e 0 0
  have hB0 := below2 w (.cells #[.int .i64 m, .int .i64 e] 24) (.cells #[.int .i64 0, .int .i64 0] 24)
  obtain ⟨hT1, hZ1⟩ := hT0.below hb1 (by simp)
  have hW1 := hB0.trans (hb1.mono hB0.size)
  clear hT0 hB0 hb1
  obtain ⟨⟨p0, p1, p2, p3⟩, p4, p5, p6, p7⟩ := hT1
  go_wp2
  refine bodyPost_ret (v := .agg #[.int .i64 m, .int .i64 e]) (by simp [results, Tryd.results37, go_sem, p4, p5]) rfl ⟨rfl, ?_⟩
  exact slot_set2 hW1 (by omega) _ _
theorem tdiv_step (m : Int) (P : Nat) : (m.tdiv (P : Int)).tdiv 10 = m.tdiv ((P * 10 : Nat) : Int) := by
  cases m with
  | ofNat a => show ((a / P / 10 : Nat) : Int) = ((a / (P * 10) : Nat) : Int); rw [Nat.div_div_eq_div_mul]
  | negSucc a =>
    show Int.tdiv (-((a.succ / P : Nat) : Int)) ((10 : Nat) : Int) = -(((a.succ / (P * 10) : Nat)) : Int)
    rw [Int.neg_tdiv]
    show -(((a.succ / P / 10 : Nat)) : Int) = _
    rw [Nat.div_div_eq_div_mul]
set_option maxRecDepth 1000000 in
set_option maxHeartbeats 4000000 in
theorem floor_low (m e : Int) (k : Nat) (hk : e = -(k : Int)) (hk0 : 0 < k) (hr : rightB m e = true) (W M E : Int) (ok : Bool) (hW : W = whole m e) (hR : makeL W 0 = (M, E, ok)) (w : World) (ht : Tab w) : Calls Tryd.prog 37 #[numV m e] w fun r w' => r = .returned (numV M E) ∧ Below w.heap.size w w' := by
  obtain ⟨ba, bb1, bb2⟩ := right_bounds hr
  have hwa := whole_abs (m := m) (e := e)
  have R1 : Hid (∀ w1, Calls Tryd.prog 17 #[.agg #[.int .i64 m, .int .i64 e]] w1 fun r w' => r = .returned (.bool true) ∧ Below w1.heap.size w1 w') := by
    intro w1; have := right_any m e (by omega) (by omega) (by omega) w1; rw [hr] at this; exact this
  have MK : Hid (∀ w1, Tab w1 → Calls Tryd.prog 15 #[.int .i64 W, .int .i64 0] w1 fun e w' => e = .returned (.tuple #[.agg #[.int .i64 M, .int .i64 E], .bool ok]) ∧ Below w1.heap.size w1 w') := fun w1 h => by
    have := make_any W 0 (by omega) (by omega) w1 h
    rw [hR] at this; exact this
  have HW : Hid (m.tdiv ((10 ^ k : Nat) : Int) - (if m < 0 then 1 else 0) = W) := by
    show _ = _
    rw [hW, whole, hk, Int.neg_neg, Int.toNat_natCast]
  have HT := Lib.hid ht
  clear hr hR hW hwa ht
  subst hk
  unfold numV
  go_enter Tryd.func37, Tryd.ntmps37
  go_wp2_with fail
  refine (R1.out _).mono ?_
  rintro e w1 ⟨rfl, hb1⟩
  have hT0 := Duo.new w m (-(k : Int)) 0 0
  have hB0 := below2 w (.cells #[.int .i64 m, .int .i64 (-(k : Int))] 24) (.cells #[.int .i64 0, .int .i64 0] 24)
  obtain ⟨hT1, hZ1⟩ := hT0.below hb1 (by simp)
  have hW1 := hB0.trans (hb1.mono hB0.size)
  clear hT0 hB0 hb1
  obtain ⟨⟨p0, p1, p2, p3⟩, p4, p5, p6, p7⟩ := id hT1
  have hneg : ¬ (0 : Int) ≤ -(k : Int) := by omega
  have hneg2 : -(k : Int) < 0 := by omega
  go_wp2_with fail
  go_loopw [3, 4] (fun o i wr => ∃ (j : Nat), j ≤ k ∧ i = .int .i64 ((j : Int) - k) ∧ o = .int .i64 (m.tdiv ((10 ^ j : Nat) : Int)) ∧ Below w.heap.size w wr ∧ Duo wr w.heap.size m (-(k : Int)) 0 0 ∧ w.heap.size + 2 ≤ wr.heap.size) (fun _ i _ => (-intOf i).toNat)
  case atStart => exact ⟨0, Nat.zero_le _, by simp, by simp, hW1, hT1, hZ1⟩
  case round =>
    obtain ⟨j, hj, rfl, rfl, hbw, hS, hZ⟩ := hrel
    clear hW1 hT1 hZ1 R1
    obtain ⟨⟨p0, p1, p2, p3⟩, p4, p5, p6, p7⟩ := id hS
    have hab : (m.tdiv ((10 ^ j : Nat) : Int)).natAbs ≤ m.natAbs := by
      have : (m.tdiv ((10 ^ j : Nat) : Int)).natAbs = m.natAbs / 10 ^ j := Int.natAbs_tdiv m ((10 ^ j : Nat) : Int)
      have := Nat.div_le_self m.natAbs (10 ^ j)
      omega
    by_cases hjk : j < k
    · have hstep : (m.tdiv ((10 ^ j : Nat) : Int)).tdiv 10 = m.tdiv ((10 ^ (j + 1) : Nat) : Int) := tdiv_step m (10 ^ j)
      have hab2 : (m.tdiv ((10 ^ (j + 1) : Nat) : Int)).natAbs ≤ m.natAbs := by
        have : (m.tdiv ((10 ^ (j + 1) : Nat) : Int)).natAbs = m.natAbs / 10 ^ (j + 1) := Int.natAbs_tdiv m ((10 ^ (j + 1) : Nat) : Int)
        have := Nat.div_le_self m.natAbs (10 ^ (j + 1))
        omega
      have hlt : (j : Int) - k < 0 := by omega
      have hw1 : IntKind.i64.wrap ((j : Int) - k + 1) = ((j + 1 : Nat) : Int) - k := by rw [IntKind.wrap_i64]; omega
      obtain ⟨v, hv⟩ : ∃ v, v = m.tdiv ((10 ^ j : Nat) : Int) := ⟨_, rfl⟩
      obtain ⟨v2, hv2⟩ : ∃ v, v = m.tdiv ((10 ^ (j + 1) : Nat) : Int) := ⟨_, rfl⟩
      rw [← hv, ← hv2] at hstep
      rw [← hv2] at hab2
      rw [← hv] at hab ⊢
      have hw2 : wrap64 (v.tdiv 10) = v2 := by rw [hstep]; exact IntWalk.wrap64_in _ ⟨by omega, by omega⟩
      have HV := Lib.hid hv2
      have HS := Lib.hid hstep
      clear hv hv2 hstep
      go_wp2
      go_roundw
      case rel => exact ⟨j + 1, by omega, rfl, by rw [HS.out, HV.out], hbw, hS, hZ⟩
      case measure => simp [intOf]; omega
    · obtain rfl : j = k := by omega
      obtain ⟨v, hv⟩ : ∃ v, v = m.tdiv ((10 ^ j : Nat) : Int) := ⟨_, rfl⟩
      have hb := HW.out
      rw [← hv] at hab hb ⊢
      have hnl : ¬ (j : Int) - j < 0 := by omega
      have HTw := Lib.hid (HT.out.below hbw)
      clear hv HW HT
      by_cases hm : m < 0
      · rw [if_pos hm] at hb
        have hw2 : IntKind.i64.wrap (v - 1) = W := by rw [IntKind.wrap_i64]; omega
        clear hb
        go_wp2_with fail
        refine (MK.out _ HTw.out).mono ?_
        rintro e w2 ⟨rfl, hb2⟩
        obtain ⟨hT2, hZ2⟩ := hS.below hb2 hZ
        have hb3 := alloc_below w2 (.cells #[.int .i64 M, .int .i64 E] 24)
        obtain ⟨hT3, hZ3⟩ := hT2.below hb3 hZ2
        have hW2 := (hbw.trans (hb2.mono hbw.size)).trans (hb3.mono (Nat.le_trans hbw.size hb2.size))
        obtain ⟨q0, q1, q2, q3⟩ := Slot.new w2 M E
        clear hS hb2 hbw p0 p1 p2 p3 p4 p5 p6 p7 MK hT2 hb3
        obtain ⟨⟨p0, p1, p2, p3⟩, p4, p5, p6, p7⟩ := id hT3
        go_wp2
        refine bodyPost_ret (v := .agg #[.int .i64 M, .int .i64 E]) (by simp [results, Tryd.results37, go_sem, p4, p5]) rfl ⟨rfl, ?_⟩
        exact slot_set2 hW2 (by omega) _ _
      · rw [if_neg hm] at hb
        obtain rfl : v = W := by omega
        clear hb
        go_wp2_with fail
        refine (MK.out _ HTw.out).mono ?_
        rintro e w2 ⟨rfl, hb2⟩
        obtain ⟨hT2, hZ2⟩ := hS.below hb2 hZ
        have hb3 := alloc_below w2 (.cells #[.int .i64 M, .int .i64 E] 24)
        obtain ⟨hT3, hZ3⟩ := hT2.below hb3 hZ2
        have hW2 := (hbw.trans (hb2.mono hbw.size)).trans (hb3.mono (Nat.le_trans hbw.size hb2.size))
        obtain ⟨q0, q1, q2, q3⟩ := Slot.new w2 M E
        clear hS hb2 hbw p0 p1 p2 p3 p4 p5 p6 p7 MK hT2 hb3
        obtain ⟨⟨p0, p1, p2, p3⟩, p4, p5, p6, p7⟩ := id hT3
        go_wp2
        refine bodyPost_ret (v := .agg #[.int .i64 M, .int .i64 E]) (by simp [results, Tryd.results37, go_sem, p4, p5]) rfl ⟨rfl, ?_⟩
        exact slot_set2 hW2 (by omega) _ _
/-- Floor, of every number -/
theorem floor_any (m e : Int) (hw : Wf m e) (w : World) (ht : Tab w) : Calls Tryd.prog 37 #[numV m e] w fun r w' => r = .returned (numV (floorP m e).1 (floorP m e).2) ∧ Below w.heap.size w w' := by
  unfold floorP
  cases hr : rightB m e
  · exact floor_no m e hw hr w
  · by_cases he : 0 ≤ e
    · rw [if_pos rfl, if_pos he]; exact floor_hi m e hr he w
    · rw [if_pos rfl, if_neg he]
      exact floor_low m e (-e).toNat (by omega) (by omega) hr _ _ _ _ rfl rfl w ht
end Go.Proofs.YtkdjdoncmihkfaaDoor
