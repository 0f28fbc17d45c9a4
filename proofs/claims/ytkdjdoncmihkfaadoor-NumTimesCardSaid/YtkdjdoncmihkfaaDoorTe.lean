/- The law NumTimes, of every two numbers. -/
import Derived.Test.YtkdjdoncmihkfaaDoorTd
import Derived.Test.YtkdjdoncmihkfaaDoorLaw
namespace Go.Proofs.YtkdjdoncmihkfaaDoor
open Go.RowKit

set_option maxRecDepth 1000000 in
set_option maxHeartbeats 8000000 in
/-- the law NumTimes -/
theorem times_law (a b c d : Int) (hw1 : Wf a b) (hw2 : Wf c d) (w : World) (ht : Tab w) :
    Calls Tryd.prog 5 #[numV a b, numV c d] w fun r w' => r = .returned (.bool true) ∧ Below w.heap.size w w' := by
  have A1 : Hid (∀ w1, Tab w1 → Calls Tryd.prog 27 #[.agg #[.int .i64 a, .int .i64 b], .agg #[.int .i64 c, .int .i64 d]] w1 fun e w' => e = .returned (numR (mulX a b c d)) ∧ Below w1.heap.size w1 w') := fun w1 h => mulX_any a b c d hw1 hw2 w1 h
  have A2 : Hid (∀ w1, Tab w1 → Calls Tryd.prog 28 #[.agg #[.int .i64 a, .int .i64 b], .agg #[.int .i64 c, .int .i64 d]] w1 fun e w' => e = .returned (numR (mulX a b c d)) ∧ Below w1.heap.size w1 w') := fun w1 h => rmulX_any a b c d hw1 hw2 w1 h
  have S1 : Hid (∀ w1, Tab w1 → Calls Tryd.prog 29 #[.agg #[.int .i64 a, .int .i64 b], .agg #[.int .i64 c, .int .i64 d]] w1 fun e w' => e = .returned (numR (divX a b c d)) ∧ Below w1.heap.size w1 w') := fun w1 h => divX_any a b c d hw1 hw2 w1 h
  have S2 : Hid (∀ w1, Tab w1 → Calls Tryd.prog 30 #[.agg #[.int .i64 a, .int .i64 b], .agg #[.int .i64 c, .int .i64 d]] w1 fun e w' => e = .returned (numR (divX a b c d)) ∧ Below w1.heap.size w1 w') := fun w1 h => rdivX_any a b c d hw1 hw2 w1 h
  obtain ⟨⟨p, q, u⟩, hM⟩ : ∃ M, M = mulX a b c d := ⟨_, rfl⟩
  obtain ⟨⟨s, t, v⟩, hN⟩ : ∃ M, M = divX a b c d := ⟨_, rfl⟩
  rw [← hM] at A1 A2
  rw [← hN] at S1 S2
  simp only [numR, numV] at A1 A2 S1 S2
  have HAW : Hid (∀ w1, Tab w1 → Calls Tryd.prog 14 #[] w1 fun r w' => r = .returned (.bool true) ∧ Below w1.heap.size w1 w') := fun w1 h => awake_any w1 h
  have H0 := Lib.hid (Kp.first w a b c d ht)
  clear hM hN ht hw1 hw2
  unfold numV
  go_enter Tryd.func5, Tryd.ntmps5
  go_wp2_with fail
  refine (HAW.out _ H0.out.2.2.2.2.2.1).mono ?_
  rintro e w1 ⟨rfl, hb1⟩
  have K := H0.out.later hb1
  clear hb1 HAW H0
  obtain ⟨p0, p1, p2, p3, _⟩ := id K
  go_wp2_with fail
  refine (A1.out _ K.2.2.2.2.2.1).mono ?_
  rintro e w2 ⟨rfl, hb⟩
  have al := alloc_below w2 (.cells #[.int .i64 p, .int .i64 q] 24)
  have K2 := (K.later hb).later al
  have x2 := C2.new w2 p q
  clear hb al K A1 p0 p1 p2 p3 
  have K := K2
  have sw2 := x2
  clear K2 x2
  obtain ⟨p0, p1, p2, p3, _⟩ := id K
  go_wp2_with fail
  refine (A2.out _ K.2.2.2.2.2.1).mono ?_
  rintro e w3 ⟨rfl, hb⟩
  have al := alloc_below w3 (.cells #[.int .i64 p, .int .i64 q] 24)
  have K2 := (K.later hb).later al
  have x2 := (sw2.later hb).later al
  have x3 := C2.new w3 p q
  clear hb al K A2 p0 p1 p2 p3 sw2
  have K := K2
  have sw2 := x2
  have sw3 := x3
  clear K2 x2 x3
  obtain ⟨p0, p1, p2, p3, _⟩ := id K
  go_wp2_with fail
  refine (S1.out _ K.2.2.2.2.2.1).mono ?_
  rintro e w4 ⟨rfl, hb⟩
  have al := alloc_below w4 (.cells #[.int .i64 s, .int .i64 t] 24)
  have K2 := (K.later hb).later al
  have x2 := (sw2.later hb).later al
  have x3 := (sw3.later hb).later al
  have x4 := C2.new w4 s t
  clear hb al K S1 p0 p1 p2 p3 sw2 sw3
  have K := K2
  have sw2 := x2
  have sw3 := x3
  have sw4 := x4
  clear K2 x2 x3 x4
  obtain ⟨p0, p1, p2, p3, _⟩ := id K
  go_wp2_with fail
  refine (S2.out _ K.2.2.2.2.2.1).mono ?_
  rintro e w5 ⟨rfl, hb⟩
  have al := alloc_below w5 (.cells #[.int .i64 s, .int .i64 t] 24)
  have K2 := (K.later hb).later al
  have x2 := (sw2.later hb).later al
  have x3 := (sw3.later hb).later al
  have x4 := (sw4.later hb).later al
  have x5 := C2.new w5 s t
  clear hb al K S2 p0 p1 p2 p3 sw2 sw3 sw4
  have K := K2
  have sw2 := x2
  have sw3 := x3
  have sw4 := x4
  have sw5 := x5
  clear K2 x2 x3 x4 x5
  obtain ⟨p0, p1, p2, p3, _⟩ := id K
  obtain ⟨m4, m5, _⟩ := sw2
  obtain ⟨m6, m7, _⟩ := sw3
  obtain ⟨m8, m9, _⟩ := sw4
  obtain ⟨m10, m11, _⟩ := sw5
  have hfin := K.2.2.2.2.2.2
  clear K
  go_wp2
  go_ret
  exact ⟨rfl, hfin⟩
end Go.Proofs.YtkdjdoncmihkfaaDoor
