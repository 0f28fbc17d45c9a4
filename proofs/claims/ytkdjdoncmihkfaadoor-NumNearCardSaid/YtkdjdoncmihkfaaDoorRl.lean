/- The document's Add, Sub, Neg and Cmp, of every two numbers; the program's, of those that aren't right. -/
import Derived.Test.YtkdjdoncmihkfaaDoorRk
import Derived.Test.YtkdjdoncmihkfaaDoorRc
import Derived.Test.YtkdjdoncmihkfaaDoorSi
namespace Go.Proofs.YtkdjdoncmihkfaaDoor
open Go.RowKit

/-- what holds a number's bounds as an int -/
def Wf (a b : Int) : Prop := (-9223372036854775808 ≤ a ∧ a ≤ 9223372036854775807) ∧ (-9223372036854775808 ≤ b ∧ b ≤ 9223372036854775807)
def addX (a b c d : Int) : Int × Int × Bool := if (rightB a b && rightB c d) = true then addN a b c d else (0, 0, false)
def subX (a b c d : Int) : Int × Int × Bool := if rightB c d = true then addX a b (-c) d else (0, 0, false)
def cmpX (a b c d : Int) : Int := if (rightB a b && rightB c d) = true then cmpV a b c d else 0

set_option maxHeartbeats 2000000 in
theorem add_no1 (a b c d : Int) (hw1 : Wf a b) (_hw2 : Wf c d) (ha : rightB a b = false) (w : World) : Calls Tryd.prog 19 #[numV a b, numV c d] w fun e w' => e = .returned (numR (0, 0, false)) ∧ Below w.heap.size w w' := by
  have R1 : Hid (∀ w1, Calls Tryd.prog 17 #[.agg #[.int .i64 a, .int .i64 b]] w1 fun r w' => r = .returned (.bool false) ∧ Below w1.heap.size w1 w') := by
    intro w1; have := right_any a b hw1.1.1 hw1.1.2 hw1.2.2 w1; rw [ha] at this; exact this
  clear hw1 _hw2 ha
  unfold numV
  go_enter Tryd.func19, Tryd.ntmps19
  go_wp2_with fail
  refine (R1.out _).mono ?_
  rintro e w1 ⟨rfl, hb1⟩
  have hT0 := Trio.new w a b c d
  have hB0 := below3 w (.cells #[.int .i64 a, .int .i64 b] 24) (.cells #[.int .i64 c, .int .i64 d] 24) (.cells #[.int .i64 0, .int .i64 0] 24)
  obtain ⟨hT1, hZ1⟩ := hT0.below hb1 (by simp)
  have hW1 := hB0.trans (hb1.mono hB0.size)
  clear hT0 hB0 hb1
  obtain ⟨⟨p0, p1, p2, p3⟩, ⟨p4, p5, p6, p7⟩, p8, p9, p10, p11⟩ := id hT1
  go_wp2
  refine bodyPost_ret (v := numR (0, 0, false)) (by simp [numR, numV, results, Tryd.results19, go_sem, p8, p9]) rfl ⟨rfl, ?_⟩
  first | exact hW1 | exact slot_set2 hW1 (by omega) _ _

set_option maxHeartbeats 2000000 in
theorem add_no2 (a b c d : Int) (hw1 : Wf a b) (hw2 : Wf c d) (ha : rightB a b = true) (hc : rightB c d = false) (w : World) : Calls Tryd.prog 19 #[numV a b, numV c d] w fun e w' => e = .returned (numR (0, 0, false)) ∧ Below w.heap.size w w' := by
  have R1 : Hid (∀ w1, Calls Tryd.prog 17 #[.agg #[.int .i64 a, .int .i64 b]] w1 fun r w' => r = .returned (.bool true) ∧ Below w1.heap.size w1 w') := by
    intro w1; have := right_any a b hw1.1.1 hw1.1.2 hw1.2.2 w1; rw [ha] at this; exact this
  have R2 : Hid (∀ w1, Calls Tryd.prog 17 #[.agg #[.int .i64 c, .int .i64 d]] w1 fun r w' => r = .returned (.bool false) ∧ Below w1.heap.size w1 w') := by
    intro w1; have := right_any c d hw2.1.1 hw2.1.2 hw2.2.2 w1; rw [hc] at this; exact this
  clear hw1 hw2 ha hc
  unfold numV
  go_enter Tryd.func19, Tryd.ntmps19
  go_wp2_with fail
  refine (R1.out _).mono ?_
  rintro e w1 ⟨rfl, hb1⟩
  have hT0 := Trio.new w a b c d
  have hB0 := below3 w (.cells #[.int .i64 a, .int .i64 b] 24) (.cells #[.int .i64 c, .int .i64 d] 24) (.cells #[.int .i64 0, .int .i64 0] 24)
  obtain ⟨hT1, hZ1⟩ := hT0.below hb1 (by simp)
  have hW1 := hB0.trans (hb1.mono hB0.size)
  clear hT0 hB0 hb1
  obtain ⟨⟨p0, p1, p2, p3⟩, ⟨p4, p5, p6, p7⟩, p8, p9, p10, p11⟩ := id hT1
  go_wp2_with fail
  refine (R2.out _).mono ?_
  rintro e w2 ⟨rfl, hb2⟩
  obtain ⟨hT2, hZ2⟩ := hT1.below hb2 hZ1
  have hW2 := hW1.trans (hb2.mono hW1.size)
  clear hT1 hZ1 hW1 hb2 p0 p1 p2 p3 p4 p5 p6 p7 p8 p9 p10 p11
  obtain ⟨⟨p0, p1, p2, p3⟩, ⟨p4, p5, p6, p7⟩, p8, p9, p10, p11⟩ := id hT2
  go_wp2
  refine bodyPost_ret (v := numR (0, 0, false)) (by simp [numR, numV, results, Tryd.results19, go_sem, p8, p9]) rfl ⟨rfl, ?_⟩
  first | exact hW2 | exact slot_set2 hW2 (by omega) _ _

set_option maxHeartbeats 2000000 in
theorem radd_no1 (a b c d : Int) (_hw1 : Wf a b) (_hw2 : Wf c d) (ha : rightB a b = false) (w : World) : Calls Tryd.prog 20 #[numV a b, numV c d] w fun e w' => e = .returned (numR (0, 0, false)) ∧ Below w.heap.size w w' := by
  have R1 : Hid (∀ w1, Calls Tryd.prog 18 #[.agg #[.int .i64 a, .int .i64 b]] w1 fun r w' => r = .returned (.bool false) ∧ Below w1.heap.size w1 w') := by
    intro w1; have := rright_any a b w1; rw [ha] at this; exact this
  clear _hw1 _hw2 ha
  unfold numV
  go_enter Tryd.func20, Tryd.ntmps20
  go_wp2_with fail
  refine (R1.out _).mono ?_
  rintro e w1 ⟨rfl, hb1⟩
  have hT0 := Trio.new w a b c d
  have hB0 := below3 w (.cells #[.int .i64 a, .int .i64 b] 24) (.cells #[.int .i64 c, .int .i64 d] 24) (.cells #[.int .i64 0, .int .i64 0] 24)
  obtain ⟨hT1, hZ1⟩ := hT0.below hb1 (by simp)
  have hW1 := hB0.trans (hb1.mono hB0.size)
  clear hT0 hB0 hb1
  obtain ⟨⟨p0, p1, p2, p3⟩, ⟨p4, p5, p6, p7⟩, p8, p9, p10, p11⟩ := id hT1
  go_wp2
  refine bodyPost_ret (v := numR (0, 0, false)) (by simp [numR, numV, results, Tryd.results20, go_sem, p8, p9]) rfl ⟨rfl, ?_⟩
  first | exact hW1 | exact slot_set2 hW1 (by omega) _ _

set_option maxHeartbeats 2000000 in
theorem radd_no2 (a b c d : Int) (_hw1 : Wf a b) (_hw2 : Wf c d) (ha : rightB a b = true) (hc : rightB c d = false) (w : World) : Calls Tryd.prog 20 #[numV a b, numV c d] w fun e w' => e = .returned (numR (0, 0, false)) ∧ Below w.heap.size w w' := by
  have R1 : Hid (∀ w1, Calls Tryd.prog 18 #[.agg #[.int .i64 a, .int .i64 b]] w1 fun r w' => r = .returned (.bool true) ∧ Below w1.heap.size w1 w') := by
    intro w1; have := rright_any a b w1; rw [ha] at this; exact this
  have R2 : Hid (∀ w1, Calls Tryd.prog 18 #[.agg #[.int .i64 c, .int .i64 d]] w1 fun r w' => r = .returned (.bool false) ∧ Below w1.heap.size w1 w') := by
    intro w1; have := rright_any c d w1; rw [hc] at this; exact this
  clear _hw1 _hw2 ha hc
  unfold numV
  go_enter Tryd.func20, Tryd.ntmps20
  go_wp2_with fail
  refine (R1.out _).mono ?_
  rintro e w1 ⟨rfl, hb1⟩
  have hT0 := Trio.new w a b c d
  have hB0 := below3 w (.cells #[.int .i64 a, .int .i64 b] 24) (.cells #[.int .i64 c, .int .i64 d] 24) (.cells #[.int .i64 0, .int .i64 0] 24)
  obtain ⟨hT1, hZ1⟩ := hT0.below hb1 (by simp)
  have hW1 := hB0.trans (hb1.mono hB0.size)
  clear hT0 hB0 hb1
  obtain ⟨⟨p0, p1, p2, p3⟩, ⟨p4, p5, p6, p7⟩, p8, p9, p10, p11⟩ := id hT1
  go_wp2_with fail
  refine (R2.out _).mono ?_
  rintro e w2 ⟨rfl, hb2⟩
  obtain ⟨hT2, hZ2⟩ := hT1.below hb2 hZ1
  have hW2 := hW1.trans (hb2.mono hW1.size)
  clear hT1 hZ1 hW1 hb2 p0 p1 p2 p3 p4 p5 p6 p7 p8 p9 p10 p11
  obtain ⟨⟨p0, p1, p2, p3⟩, ⟨p4, p5, p6, p7⟩, p8, p9, p10, p11⟩ := id hT2
  go_wp2
  refine bodyPost_ret (v := numR (0, 0, false)) (by simp [numR, numV, results, Tryd.results20, go_sem, p8, p9]) rfl ⟨rfl, ?_⟩
  first | exact hW2 | exact slot_set2 hW2 (by omega) _ _

set_option maxHeartbeats 2000000 in
theorem sub_no (a b c d : Int) (_hw1 : Wf a b) (hw2 : Wf c d) (hc : rightB c d = false) (w : World) : Calls Tryd.prog 21 #[numV a b, numV c d] w fun e w' => e = .returned (numR (0, 0, false)) ∧ Below w.heap.size w w' := by
  have R2 : Hid (∀ w1, Calls Tryd.prog 17 #[.agg #[.int .i64 c, .int .i64 d]] w1 fun r w' => r = .returned (.bool false) ∧ Below w1.heap.size w1 w') := by
    intro w1; have := right_any c d hw2.1.1 hw2.1.2 hw2.2.2 w1; rw [hc] at this; exact this
  clear _hw1 hw2 hc
  unfold numV
  go_enter Tryd.func21, Tryd.ntmps21
  go_wp2_with fail
  refine (R2.out _).mono ?_
  rintro e w1 ⟨rfl, hb1⟩
  have hT0 := Trio.new w a b c d
  have hB0 := below3 w (.cells #[.int .i64 a, .int .i64 b] 24) (.cells #[.int .i64 c, .int .i64 d] 24) (.cells #[.int .i64 0, .int .i64 0] 24)
  obtain ⟨hT1, hZ1⟩ := hT0.below hb1 (by simp)
  have hW1 := hB0.trans (hb1.mono hB0.size)
  clear hT0 hB0 hb1
  obtain ⟨⟨p0, p1, p2, p3⟩, ⟨p4, p5, p6, p7⟩, p8, p9, p10, p11⟩ := id hT1
  go_wp2
  refine bodyPost_ret (v := numR (0, 0, false)) (by simp [numR, numV, results, Tryd.results21, go_sem, p8, p9]) rfl ⟨rfl, ?_⟩
  first | exact hW1 | exact slot_set2 hW1 (by omega) _ _

set_option maxHeartbeats 2000000 in
theorem rsub_no1 (a b c d : Int) (_hw1 : Wf a b) (_hw2 : Wf c d) (ha : rightB a b = false) (w : World) : Calls Tryd.prog 22 #[numV a b, numV c d] w fun e w' => e = .returned (numR (0, 0, false)) ∧ Below w.heap.size w w' := by
  have R1 : Hid (∀ w1, Calls Tryd.prog 18 #[.agg #[.int .i64 a, .int .i64 b]] w1 fun r w' => r = .returned (.bool false) ∧ Below w1.heap.size w1 w') := by
    intro w1; have := rright_any a b w1; rw [ha] at this; exact this
  clear _hw1 _hw2 ha
  unfold numV
  go_enter Tryd.func22, Tryd.ntmps22
  go_wp2_with fail
  refine (R1.out _).mono ?_
  rintro e w1 ⟨rfl, hb1⟩
  have hT0 := Trio.new w a b c d
  have hB0 := below3 w (.cells #[.int .i64 a, .int .i64 b] 24) (.cells #[.int .i64 c, .int .i64 d] 24) (.cells #[.int .i64 0, .int .i64 0] 24)
  obtain ⟨hT1, hZ1⟩ := hT0.below hb1 (by simp)
  have hW1 := hB0.trans (hb1.mono hB0.size)
  clear hT0 hB0 hb1
  obtain ⟨⟨p0, p1, p2, p3⟩, ⟨p4, p5, p6, p7⟩, p8, p9, p10, p11⟩ := id hT1
  go_wp2
  refine bodyPost_ret (v := numR (0, 0, false)) (by simp [numR, numV, results, Tryd.results22, go_sem, p8, p9]) rfl ⟨rfl, ?_⟩
  first | exact hW1 | exact slot_set2 hW1 (by omega) _ _

set_option maxHeartbeats 2000000 in
theorem rsub_no2 (a b c d : Int) (_hw1 : Wf a b) (_hw2 : Wf c d) (ha : rightB a b = true) (hc : rightB c d = false) (w : World) : Calls Tryd.prog 22 #[numV a b, numV c d] w fun e w' => e = .returned (numR (0, 0, false)) ∧ Below w.heap.size w w' := by
  have R1 : Hid (∀ w1, Calls Tryd.prog 18 #[.agg #[.int .i64 a, .int .i64 b]] w1 fun r w' => r = .returned (.bool true) ∧ Below w1.heap.size w1 w') := by
    intro w1; have := rright_any a b w1; rw [ha] at this; exact this
  have R2 : Hid (∀ w1, Calls Tryd.prog 18 #[.agg #[.int .i64 c, .int .i64 d]] w1 fun r w' => r = .returned (.bool false) ∧ Below w1.heap.size w1 w') := by
    intro w1; have := rright_any c d w1; rw [hc] at this; exact this
  clear _hw1 _hw2 ha hc
  unfold numV
  go_enter Tryd.func22, Tryd.ntmps22
  go_wp2_with fail
  refine (R1.out _).mono ?_
  rintro e w1 ⟨rfl, hb1⟩
  have hT0 := Trio.new w a b c d
  have hB0 := below3 w (.cells #[.int .i64 a, .int .i64 b] 24) (.cells #[.int .i64 c, .int .i64 d] 24) (.cells #[.int .i64 0, .int .i64 0] 24)
  obtain ⟨hT1, hZ1⟩ := hT0.below hb1 (by simp)
  have hW1 := hB0.trans (hb1.mono hB0.size)
  clear hT0 hB0 hb1
  obtain ⟨⟨p0, p1, p2, p3⟩, ⟨p4, p5, p6, p7⟩, p8, p9, p10, p11⟩ := id hT1
  go_wp2_with fail
  refine (R2.out _).mono ?_
  rintro e w2 ⟨rfl, hb2⟩
  obtain ⟨hT2, hZ2⟩ := hT1.below hb2 hZ1
  have hW2 := hW1.trans (hb2.mono hW1.size)
  clear hT1 hZ1 hW1 hb2 p0 p1 p2 p3 p4 p5 p6 p7 p8 p9 p10 p11
  obtain ⟨⟨p0, p1, p2, p3⟩, ⟨p4, p5, p6, p7⟩, p8, p9, p10, p11⟩ := id hT2
  go_wp2
  refine bodyPost_ret (v := numR (0, 0, false)) (by simp [numR, numV, results, Tryd.results22, go_sem, p8, p9]) rfl ⟨rfl, ?_⟩
  first | exact hW2 | exact slot_set2 hW2 (by omega) _ _

set_option maxHeartbeats 2000000 in
theorem cmp_no1 (a b c d : Int) (hw1 : Wf a b) (_hw2 : Wf c d) (ha : rightB a b = false) (w : World) : Calls Tryd.prog 25 #[numV a b, numV c d] w fun e w' => e = .returned (.int .i64 0) ∧ Below w.heap.size w w' := by
  have R1 : Hid (∀ w1, Calls Tryd.prog 17 #[.agg #[.int .i64 a, .int .i64 b]] w1 fun r w' => r = .returned (.bool false) ∧ Below w1.heap.size w1 w') := by
    intro w1; have := right_any a b hw1.1.1 hw1.1.2 hw1.2.2 w1; rw [ha] at this; exact this
  clear hw1 _hw2 ha
  unfold numV
  go_enter Tryd.func25, Tryd.ntmps25
  go_wp2_with fail
  refine (R1.out _).mono ?_
  rintro e w1 ⟨rfl, hb1⟩
  have hT0 := Duo.new w a b c d
  have hB0 := below2 w (.cells #[.int .i64 a, .int .i64 b] 24) (.cells #[.int .i64 c, .int .i64 d] 24)
  obtain ⟨hT1, hZ1⟩ := hT0.below hb1 (by simp)
  have hW1 := hB0.trans (hb1.mono hB0.size)
  clear hT0 hB0 hb1
  obtain ⟨⟨p0, p1, p2, p3⟩, p4, p5, p6, p7⟩ := id hT1
  go_wp2
  go_ret
  exact ⟨rfl, hW1⟩

set_option maxHeartbeats 2000000 in
theorem cmp_no2 (a b c d : Int) (hw1 : Wf a b) (hw2 : Wf c d) (ha : rightB a b = true) (hc : rightB c d = false) (w : World) : Calls Tryd.prog 25 #[numV a b, numV c d] w fun e w' => e = .returned (.int .i64 0) ∧ Below w.heap.size w w' := by
  have R1 : Hid (∀ w1, Calls Tryd.prog 17 #[.agg #[.int .i64 a, .int .i64 b]] w1 fun r w' => r = .returned (.bool true) ∧ Below w1.heap.size w1 w') := by
    intro w1; have := right_any a b hw1.1.1 hw1.1.2 hw1.2.2 w1; rw [ha] at this; exact this
  have R2 : Hid (∀ w1, Calls Tryd.prog 17 #[.agg #[.int .i64 c, .int .i64 d]] w1 fun r w' => r = .returned (.bool false) ∧ Below w1.heap.size w1 w') := by
    intro w1; have := right_any c d hw2.1.1 hw2.1.2 hw2.2.2 w1; rw [hc] at this; exact this
  clear hw1 hw2 ha hc
  unfold numV
  go_enter Tryd.func25, Tryd.ntmps25
  go_wp2_with fail
  refine (R1.out _).mono ?_
  rintro e w1 ⟨rfl, hb1⟩
  have hT0 := Duo.new w a b c d
  have hB0 := below2 w (.cells #[.int .i64 a, .int .i64 b] 24) (.cells #[.int .i64 c, .int .i64 d] 24)
  obtain ⟨hT1, hZ1⟩ := hT0.below hb1 (by simp)
  have hW1 := hB0.trans (hb1.mono hB0.size)
  clear hT0 hB0 hb1
  obtain ⟨⟨p0, p1, p2, p3⟩, p4, p5, p6, p7⟩ := id hT1
  go_wp2_with fail
  refine (R2.out _).mono ?_
  rintro e w2 ⟨rfl, hb2⟩
  obtain ⟨hT2, hZ2⟩ := hT1.below hb2 hZ1
  have hW2 := hW1.trans (hb2.mono hW1.size)
  clear hT1 hZ1 hW1 hb2 p0 p1 p2 p3 p4 p5 p6 p7
  obtain ⟨⟨p0, p1, p2, p3⟩, p4, p5, p6, p7⟩ := id hT2
  go_wp2
  go_ret
  exact ⟨rfl, hW2⟩

set_option maxHeartbeats 2000000 in
theorem rcmp_no1 (a b c d : Int) (_hw1 : Wf a b) (_hw2 : Wf c d) (ha : rightB a b = false) (w : World) : Calls Tryd.prog 26 #[numV a b, numV c d] w fun e w' => e = .returned (.int .i64 0) ∧ Below w.heap.size w w' := by
  have R1 : Hid (∀ w1, Calls Tryd.prog 18 #[.agg #[.int .i64 a, .int .i64 b]] w1 fun r w' => r = .returned (.bool false) ∧ Below w1.heap.size w1 w') := by
    intro w1; have := rright_any a b w1; rw [ha] at this; exact this
  clear _hw1 _hw2 ha
  unfold numV
  go_enter Tryd.func26, Tryd.ntmps26
  go_wp2_with fail
  refine (R1.out _).mono ?_
  rintro e w1 ⟨rfl, hb1⟩
  have hT0 := Duo.new w a b c d
  have hB0 := below2 w (.cells #[.int .i64 a, .int .i64 b] 24) (.cells #[.int .i64 c, .int .i64 d] 24)
  obtain ⟨hT1, hZ1⟩ := hT0.below hb1 (by simp)
  have hW1 := hB0.trans (hb1.mono hB0.size)
  clear hT0 hB0 hb1
  obtain ⟨⟨p0, p1, p2, p3⟩, p4, p5, p6, p7⟩ := id hT1
  go_wp2
  go_ret
  exact ⟨rfl, hW1⟩

set_option maxHeartbeats 2000000 in
theorem rcmp_no2 (a b c d : Int) (_hw1 : Wf a b) (_hw2 : Wf c d) (ha : rightB a b = true) (hc : rightB c d = false) (w : World) : Calls Tryd.prog 26 #[numV a b, numV c d] w fun e w' => e = .returned (.int .i64 0) ∧ Below w.heap.size w w' := by
  have R1 : Hid (∀ w1, Calls Tryd.prog 18 #[.agg #[.int .i64 a, .int .i64 b]] w1 fun r w' => r = .returned (.bool true) ∧ Below w1.heap.size w1 w') := by
    intro w1; have := rright_any a b w1; rw [ha] at this; exact this
  have R2 : Hid (∀ w1, Calls Tryd.prog 18 #[.agg #[.int .i64 c, .int .i64 d]] w1 fun r w' => r = .returned (.bool false) ∧ Below w1.heap.size w1 w') := by
    intro w1; have := rright_any c d w1; rw [hc] at this; exact this
  clear _hw1 _hw2 ha hc
  unfold numV
  go_enter Tryd.func26, Tryd.ntmps26
  go_wp2_with fail
  refine (R1.out _).mono ?_
  rintro e w1 ⟨rfl, hb1⟩
  have hT0 := Duo.new w a b c d
  have hB0 := below2 w (.cells #[.int .i64 a, .int .i64 b] 24) (.cells #[.int .i64 c, .int .i64 d] 24)
  obtain ⟨hT1, hZ1⟩ := hT0.below hb1 (by simp)
  have hW1 := hB0.trans (hb1.mono hB0.size)
  clear hT0 hB0 hb1
  obtain ⟨⟨p0, p1, p2, p3⟩, p4, p5, p6, p7⟩ := id hT1
  go_wp2_with fail
  refine (R2.out _).mono ?_
  rintro e w2 ⟨rfl, hb2⟩
  obtain ⟨hT2, hZ2⟩ := hT1.below hb2 hZ1
  have hW2 := hW1.trans (hb2.mono hW1.size)
  clear hT1 hZ1 hW1 hb2 p0 p1 p2 p3 p4 p5 p6 p7
  obtain ⟨⟨p0, p1, p2, p3⟩, p4, p5, p6, p7⟩ := id hT2
  go_wp2
  go_ret
  exact ⟨rfl, hW2⟩

/-- the document's Neg, of every number -/
theorem rneg_any (m e : Int) (w : World) :
    Calls Tryd.prog 24 #[numV m e] w fun r w' => r = .returned (numV (negP m e).1 (negP m e).2) ∧ Below w.heap.size w w' := by
  have R1 : Hid (∀ w1, Calls Tryd.prog 18 #[.agg #[.int .i64 m, .int .i64 e]] w1 fun r w' => r = .returned (.bool (rightB m e)) ∧ Below w1.heap.size w1 w') :=
    fun w1 => rright_any m e w1
  unfold negP
  by_cases hr : rightB m e = true
  · have hb := right_bounds hr
    rw [if_pos hr]
    rw [hr] at R1
    clear hr
    unfold numV
    go_enter Tryd.func24, Tryd.ntmps24
    go_wp2_with fail
    refine (R1.out _).mono ?_
    rintro e w1 ⟨rfl, hb1⟩
    have hT0 := Duo.new w m e 0 0
    have hB0 := below2 w (.cells #[.int .i64 m, .int .i64 e] 24) (.cells #[.int .i64 0, .int .i64 0] 24)
    obtain ⟨hT1, hZ1⟩ := hT0.below hb1 (by simp)
    have hW1 := hB0.trans (hb1.mono hB0.size)
    clear hT0 hB0 hb1
    obtain ⟨⟨p0, p1, p2, p3⟩, p4, p5, p6, p7⟩ := hT1
    go_wp2
    refine bodyPost_ret (v := .agg #[.int .i64 (-m), .int .i64 e]) (by simp [results, Tryd.results24, go_sem, p4, p5]) rfl ⟨rfl, ?_⟩
    exact slot_set2 hW1 (by omega) _ _
  · rw [if_neg hr]
    rw [show rightB m e = false by simpa using hr] at R1
    clear hr
    unfold numV
    go_enter Tryd.func24, Tryd.ntmps24
    go_wp2_with fail
    refine (R1.out _).mono ?_
    rintro e w1 ⟨rfl, hb1⟩
    have hT0 := Duo.new w m e 0 0
    have hB0 := below2 w (.cells #[.int .i64 m, .int .i64 e] 24) (.cells #[.int .i64 0, .int .i64 0] 24)
    obtain ⟨hT1, hZ1⟩ := hT0.below hb1 (by simp)
    have hW1 := hB0.trans (hb1.mono hB0.size)
    clear hT0 hB0 hb1
    obtain ⟨⟨p0, p1, p2, p3⟩, p4, p5, p6, p7⟩ := hT1
    go_wp2
    refine bodyPost_ret (v := .agg #[.int .i64 0, .int .i64 0]) (by simp [results, Tryd.results24, go_sem, p4, p5]) rfl ⟨rfl, ?_⟩
    exact slot_set2 hW1 (by omega) _ _

end Go.Proofs.YtkdjdoncmihkfaaDoor
