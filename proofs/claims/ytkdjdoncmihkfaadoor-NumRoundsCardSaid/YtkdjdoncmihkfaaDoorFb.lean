/- Walks over num.Int and num.Floor. -/
import Derived.Test.YtkdjdoncmihkfaaDoorFa
namespace Go.Proofs.YtkdjdoncmihkfaaDoor
open Go.RowKit

set_option maxHeartbeats 2000000 in
theorem int_no1 (m e : Int) (hw : Wf m e) (hr : rightB m e = false) (w : World) : Calls Tryd.prog 33 #[numV m e] w fun r w' => r = .returned (.tuple #[.int .i64 0, .bool false]) ∧ Below w.heap.size w w' := by
  have R1 : Hid (∀ w1, Calls Tryd.prog 17 #[.agg #[.int .i64 m, .int .i64 e]] w1 fun r w' => r = .returned (.bool false) ∧ Below w1.heap.size w1 w') := by
    intro w1; have := right_any m e hw.1.1 hw.1.2 hw.2.2 w1; rw [hr] at this; exact this
  clear hr hw
  unfold numV
  go_enter Tryd.func33, Tryd.ntmps33
  go_wp2_with fail
  refine (R1.out _).mono ?_
  rintro e w1 ⟨rfl, hb1⟩
  have S1 := (Slot.new w m e).below hb1 (by simp)
  have hB := (alloc_below w (.cells #[.int .i64 m, .int .i64 e] 24)).trans (hb1.mono (by simp))
  obtain ⟨p0, p1, p2, p3⟩ := S1
  go_wp2
  exact bodyPost_ret (v := .tuple #[.int .i64 0, .bool false]) (by simp [results, Tryd.results33, go_sem]) rfl ⟨rfl, hB⟩
set_option maxHeartbeats 2000000 in
theorem int_no2 (m e : Int) (hr : rightB m e = true) (he : e < 0) (w : World) : Calls Tryd.prog 33 #[numV m e] w fun r w' => r = .returned (.tuple #[.int .i64 0, .bool false]) ∧ Below w.heap.size w w' := by
  obtain ⟨ba, bb1, bb2⟩ := right_bounds hr
  have R1 : Hid (∀ w1, Calls Tryd.prog 17 #[.agg #[.int .i64 m, .int .i64 e]] w1 fun r w' => r = .returned (.bool true) ∧ Below w1.heap.size w1 w') := by
    intro w1; have := right_any m e (by omega) (by omega) (by omega) w1; rw [hr] at this; exact this
  clear hr
  unfold numV
  go_enter Tryd.func33, Tryd.ntmps33
  go_wp2_with fail
  refine (R1.out _).mono ?_
  rintro e w1 ⟨rfl, hb1⟩
  have S1 := (Slot.new w m e).below hb1 (by simp)
  have hB := (alloc_below w (.cells #[.int .i64 m, .int .i64 e] 24)).trans (hb1.mono (by simp))
  obtain ⟨p0, p1, p2, p3⟩ := S1
  go_wp2
  exact bodyPost_ret (v := .tuple #[.int .i64 0, .bool false]) (by simp [results, Tryd.results33, go_sem]) rfl ⟨rfl, hB⟩
set_option maxHeartbeats 4000000 in
theorem int_main (m e : Int) (k : Nat) (hk : e = (k : Int)) (hr : rightB m e = true) (R : Int) (ok : Bool) (hR : intGo k m = (R, ok)) (w : World) : Calls Tryd.prog 33 #[numV m e] w fun r w' => r = .returned (.tuple #[.int .i64 R, .bool ok]) ∧ Below w.heap.size w w' := by
  subst hk
  obtain ⟨ba, bb1, bb2⟩ := right_bounds hr
  have R1 : Hid (∀ w1, Calls Tryd.prog 17 #[.agg #[.int .i64 m, .int .i64 (k : Int)]] w1 fun r w' => r = .returned (.bool true) ∧ Below w1.heap.size w1 w') := by
    intro w1; have := right_any m k (by omega) (by omega) (by omega) w1; rw [hr] at this; exact this
  have HR := Lib.hid hR
  clear hr hR
  unfold numV
  go_enter Tryd.func33, Tryd.ntmps33
  go_wp2_with fail
  refine (R1.out _).mono ?_
  rintro e w1 ⟨rfl, hb1⟩
  have S1 := (Slot.new w m (k : Int)).below hb1 (by simp)
  have hB := (alloc_below w (.cells #[.int .i64 m, .int .i64 (k : Int)] 24)).trans (hb1.mono (by simp))
  obtain ⟨p0, p1, p2, p3⟩ := id S1
  go_wp2_with fail
  go_loopw [4, 17] (fun o i wr => ∃ (j : Nat) (v : Int), j ≤ k ∧ i = .int .i64 (j : Int) ∧ o = .int .i64 v ∧ Hid (intGo (k - j) v = (R, ok)) ∧ -9223372036854775808 ≤ v ∧ v ≤ 9223372036854775807 ∧ Below w.heap.size w wr ∧ Slot wr w.heap.size m (k : Int)) (fun _ i _ => k - (intOf i).toNat)
  case atStart => exact ⟨0, m, Nat.zero_le _, rfl, rfl, HR, by omega, by omega, hB, S1⟩
  case round =>
    obtain ⟨j, v, hj, rfl, rfl, HL, v0, v1, hbw, hS⟩ := hrel
    clear hB S1 HR R1
    obtain ⟨p0, p1, p2, p3⟩ := id hS
    by_cases hjk : j < k
    · have hl := HL.out
      rw [show k - j = (k - (j + 1)) + 1 by omega, intGo] at hl
      have hjk2 : (j : Int) < (k : Int) := by omega
      by_cases hbig : 922337203685477580 < v ∨ v < -922337203685477580
      · rw [if_pos hbig] at hl
        obtain ⟨rfl, rfl⟩ : 0 = R ∧ false = ok := by simpa using hl
        clear hl HL
        rcases hbig with h1 | h1
        · go_wp2
          refine bodyPost_ret (v := .tuple #[.int .i64 0, .bool false]) (by simp [results, Tryd.results33, go_sem]) rfl ⟨rfl, hbw⟩
        · have h2 : ¬ 922337203685477580 < v := by omega
          go_wp2
          refine bodyPost_ret (v := .tuple #[.int .i64 0, .bool false]) (by simp [results, Tryd.results33, go_sem]) rfl ⟨rfl, hbw⟩
      · rw [if_neg hbig] at hl
        have h1 : ¬ 922337203685477580 < v := fun h => hbig (.inl h)
        have h2 : ¬ v < -922337203685477580 := fun h => hbig (.inr h)
        have hwr : IntKind.i64.wrap (v * 10) = 10 * v := by rw [IntKind.wrap_i64]; omega
        have HL2 := Lib.hid hl
        clear hl HL hbig
        go_wp2
        go_roundw
        case rel => exact ⟨j + 1, 10 * v, by omega, by go_num, rfl, HL2, by omega, by omega, hbw, hS⟩
        case measure => simp [intOf]; omega
    · have hl := HL.out
      obtain rfl : j = k := by omega
      rw [Nat.sub_self, intGo] at hl
      obtain ⟨rfl, rfl⟩ : v = R ∧ true = ok := by simpa using hl
      clear hl HL
      go_wp2
      refine bodyPost_ret (v := .tuple #[.int .i64 v, .bool true]) (by simp [results, Tryd.results33, go_sem]) rfl ⟨rfl, hbw⟩
set_option maxHeartbeats 2000000 in
theorem rint_no1 (m e : Int) (hr : rightB m e = false) (w : World) : Calls Tryd.prog 34 #[numV m e] w fun r w' => r = .returned (.tuple #[.int .i64 0, .bool false]) ∧ Below w.heap.size w w' := by
  have R1 : Hid (∀ w1, Calls Tryd.prog 18 #[.agg #[.int .i64 m, .int .i64 e]] w1 fun r w' => r = .returned (.bool false) ∧ Below w1.heap.size w1 w') := by
    intro w1; have := rright_any m e w1; rw [hr] at this; exact this
  clear hr
  unfold numV
  go_enter Tryd.func34, Tryd.ntmps34
  go_wp2_with fail
  refine (R1.out _).mono ?_
  rintro e w1 ⟨rfl, hb1⟩
  have S1 := (Slot.new w m e).below hb1 (by simp)
  have hB := (alloc_below w (.cells #[.int .i64 m, .int .i64 e] 24)).trans (hb1.mono (by simp))
  obtain ⟨p0, p1, p2, p3⟩ := S1
  go_wp2
  exact bodyPost_ret (v := .tuple #[.int .i64 0, .bool false]) (by simp [results, Tryd.results34, go_sem]) rfl ⟨rfl, hB⟩
set_option maxHeartbeats 2000000 in
theorem rint_no2 (m e : Int) (hr : rightB m e = true) (he : e < 0) (w : World) : Calls Tryd.prog 34 #[numV m e] w fun r w' => r = .returned (.tuple #[.int .i64 0, .bool false]) ∧ Below w.heap.size w w' := by
  obtain ⟨ba, bb1, bb2⟩ := right_bounds hr
  have R1 : Hid (∀ w1, Calls Tryd.prog 18 #[.agg #[.int .i64 m, .int .i64 e]] w1 fun r w' => r = .returned (.bool true) ∧ Below w1.heap.size w1 w') := by
    intro w1; have := rright_any m e w1; rw [hr] at this; exact this
  clear hr
  unfold numV
  go_enter Tryd.func34, Tryd.ntmps34
  go_wp2_with fail
  refine (R1.out _).mono ?_
  rintro e w1 ⟨rfl, hb1⟩
  have S1 := (Slot.new w m e).below hb1 (by simp)
  have hB := (alloc_below w (.cells #[.int .i64 m, .int .i64 e] 24)).trans (hb1.mono (by simp))
  obtain ⟨p0, p1, p2, p3⟩ := S1
  go_wp2
  exact bodyPost_ret (v := .tuple #[.int .i64 0, .bool false]) (by simp [results, Tryd.results34, go_sem]) rfl ⟨rfl, hB⟩
set_option maxHeartbeats 4000000 in
theorem rint_main (m e : Int) (k : Nat) (hk : e = (k : Int)) (hr : rightB m e = true) (R : Int) (ok : Bool) (hR : intGo k m = (R, ok)) (w : World) : Calls Tryd.prog 34 #[numV m e] w fun r w' => r = .returned (.tuple #[.int .i64 R, .bool ok]) ∧ Below w.heap.size w w' := by
  subst hk
  obtain ⟨ba, bb1, bb2⟩ := right_bounds hr
  have R1 : Hid (∀ w1, Calls Tryd.prog 18 #[.agg #[.int .i64 m, .int .i64 (k : Int)]] w1 fun r w' => r = .returned (.bool true) ∧ Below w1.heap.size w1 w') := by
    intro w1; have := rright_any m k w1; rw [hr] at this; exact this
  have HR := Lib.hid hR
  clear hr hR
  unfold numV
  go_enter Tryd.func34, Tryd.ntmps34
  go_wp2_with fail
  refine (R1.out _).mono ?_
  rintro e w1 ⟨rfl, hb1⟩
  have S1 := (Slot.new w m (k : Int)).below hb1 (by simp)
  have hB := (alloc_below w (.cells #[.int .i64 m, .int .i64 (k : Int)] 24)).trans (hb1.mono (by simp))
  obtain ⟨p0, p1, p2, p3⟩ := id S1
  go_wp2_with fail
  go_loopw [4, 5] (fun o i wr => ∃ (j : Nat) (v : Int), j ≤ k ∧ i = .int .i64 (j : Int) ∧ o = .int .i64 v ∧ Hid (intGo (k - j) v = (R, ok)) ∧ -9223372036854775808 ≤ v ∧ v ≤ 9223372036854775807 ∧ Below w.heap.size w wr ∧ Slot wr w.heap.size m (k : Int)) (fun _ i _ => k - (intOf i).toNat)
  case atStart => exact ⟨0, m, Nat.zero_le _, rfl, rfl, HR, by omega, by omega, hB, S1⟩
  case round =>
    obtain ⟨j, v, hj, rfl, rfl, HL, v0, v1, hbw, hS⟩ := hrel
    clear hB S1 HR R1
    obtain ⟨p0, p1, p2, p3⟩ := id hS
    by_cases hjk : j < k
    · have hl := HL.out
      rw [show k - j = (k - (j + 1)) + 1 by omega, intGo] at hl
      have hjk2 : (j : Int) < (k : Int) := by omega
      by_cases hbig : 922337203685477580 < v ∨ v < -922337203685477580
      · rw [if_pos hbig] at hl
        obtain ⟨rfl, rfl⟩ : 0 = R ∧ false = ok := by simpa using hl
        clear hl HL
        rcases hbig with h1 | h1
        · go_wp2
          refine bodyPost_ret (v := .tuple #[.int .i64 0, .bool false]) (by simp [results, Tryd.results34, go_sem]) rfl ⟨rfl, hbw⟩
        · have h2 : ¬ 922337203685477580 < v := by omega
          go_wp2
          refine bodyPost_ret (v := .tuple #[.int .i64 0, .bool false]) (by simp [results, Tryd.results34, go_sem]) rfl ⟨rfl, hbw⟩
      · rw [if_neg hbig] at hl
        have h1 : ¬ 922337203685477580 < v := fun h => hbig (.inl h)
        have h2 : ¬ v < -922337203685477580 := fun h => hbig (.inr h)
        have hwr : IntKind.i64.wrap (10 * v) = 10 * v := by rw [IntKind.wrap_i64]; omega
        have HL2 := Lib.hid hl
        clear hl HL hbig
        go_wp2
        go_roundw
        case rel => exact ⟨j + 1, 10 * v, by omega, by go_num, rfl, HL2, by omega, by omega, hbw, hS⟩
        case measure => simp [intOf]; omega
    · have hl := HL.out
      obtain rfl : j = k := by omega
      rw [Nat.sub_self, intGo] at hl
      obtain ⟨rfl, rfl⟩ : v = R ∧ true = ok := by simpa using hl
      clear hl HL
      go_wp2
      refine bodyPost_ret (v := .tuple #[.int .i64 v, .bool true]) (by simp [results, Tryd.results34, go_sem]) rfl ⟨rfl, hbw⟩
theorem int_any (m e : Int) (hw : Wf m e) (w : World) : Calls Tryd.prog 33 #[numV m e] w fun r w' => r = .returned (.tuple #[.int .i64 (intP m e).1, .bool (intP m e).2]) ∧ Below w.heap.size w w' := by
  unfold intP
  cases hr : rightB m e
  · exact int_no1 m e hw hr w
  · by_cases he : 0 ≤ e
    · rw [if_pos ⟨rfl, he⟩]
      exact int_main m e e.toNat (by omega) hr _ _ rfl w
    · rw [if_neg (fun h => he h.2)]
      exact int_no2 m e hr (by omega) w
theorem rint_any (m e : Int) (w : World) : Calls Tryd.prog 34 #[numV m e] w fun r w' => r = .returned (.tuple #[.int .i64 (intP m e).1, .bool (intP m e).2]) ∧ Below w.heap.size w w' := by
  unfold intP
  cases hr : rightB m e
  · exact rint_no1 m e hr w
  · by_cases he : 0 ≤ e
    · rw [if_pos ⟨rfl, he⟩]
      exact rint_main m e e.toNat (by omega) hr _ _ rfl w
    · rw [if_neg (fun h => he h.2)]
      exact rint_no2 m e hr (by omega) w
end Go.Proofs.YtkdjdoncmihkfaaDoor
