/- Pow and the document's Pow, of every number. -/
import Derived.Test.YtkdjdoncmihkfaaDoorPa
namespace Go.Proofs.YtkdjdoncmihkfaaDoor
open Go.RowKit

set_option maxHeartbeats 2000000 in
theorem pow_no1 (a b n : Int) (hw : Wf a b) (ha : rightB a b = false) (w : World) : Calls Tryd.prog 31 #[numV a b, .int .i64 n] w fun e w' => e = .returned (numR (0, 0, false)) ∧ Below w.heap.size w w' := by
  have R1 : Hid (∀ w1, Calls Tryd.prog 17 #[.agg #[.int .i64 a, .int .i64 b]] w1 fun r w' => r = .returned (.bool false) ∧ Below w1.heap.size w1 w') := by
    intro w1; have := right_any a b hw.1.1 hw.1.2 hw.2.2 w1; rw [ha] at this; exact this
  clear ha hw
  unfold numV
  go_enter Tryd.func31, Tryd.ntmps31
  go_wp2_with fail
  refine (R1.out _).mono ?_
  rintro e w1 ⟨rfl, hb1⟩
  have hT0 := Duo.new w a b 0 0
  have hB0 := below2 w (.cells #[.int .i64 a, .int .i64 b] 24) (.cells #[.int .i64 0, .int .i64 0] 24)
  obtain ⟨hT1, hZ1⟩ := hT0.below hb1 (by simp)
  have hW1 := hB0.trans (hb1.mono hB0.size)
  clear hT0 hB0 hb1
  obtain ⟨⟨p0, p1, p2, p3⟩, p4, p5, p6, p7⟩ := id hT1
  go_wp2
  refine bodyPost_ret (v := numR (0, 0, false)) (by simp [numR, numV, results, Tryd.results31, go_sem, p4, p5]) rfl ⟨rfl, ?_⟩
  first | exact hW1 | exact slot_set2 hW1 (by omega) _ _
set_option maxHeartbeats 2000000 in
theorem pow_no2 (a b n : Int) (hw : Wf a b) (ha : rightB a b = true) (hn : n < -1000) (w : World) : Calls Tryd.prog 31 #[numV a b, .int .i64 n] w fun e w' => e = .returned (numR (0, 0, false)) ∧ Below w.heap.size w w' := by
  have R1 : Hid (∀ w1, Calls Tryd.prog 17 #[.agg #[.int .i64 a, .int .i64 b]] w1 fun r w' => r = .returned (.bool true) ∧ Below w1.heap.size w1 w') := by
    intro w1; have := right_any a b hw.1.1 hw.1.2 hw.2.2 w1; rw [ha] at this; exact this
  clear ha hw
  unfold numV
  go_enter Tryd.func31, Tryd.ntmps31
  go_wp2_with fail
  refine (R1.out _).mono ?_
  rintro e w1 ⟨rfl, hb1⟩
  have hT0 := Duo.new w a b 0 0
  have hB0 := below2 w (.cells #[.int .i64 a, .int .i64 b] 24) (.cells #[.int .i64 0, .int .i64 0] 24)
  obtain ⟨hT1, hZ1⟩ := hT0.below hb1 (by simp)
  have hW1 := hB0.trans (hb1.mono hB0.size)
  clear hT0 hB0 hb1
  obtain ⟨⟨p0, p1, p2, p3⟩, p4, p5, p6, p7⟩ := id hT1
  go_wp2
  refine bodyPost_ret (v := numR (0, 0, false)) (by simp [numR, numV, results, Tryd.results31, go_sem, p4, p5]) rfl ⟨rfl, ?_⟩
  first | exact hW1 | exact slot_set2 hW1 (by omega) _ _
set_option maxHeartbeats 2000000 in
theorem pow_no3 (a b n : Int) (hw : Wf a b) (ha : rightB a b = true) (hn0 : ¬ n < -1000) (hn : 1000 < n) (w : World) : Calls Tryd.prog 31 #[numV a b, .int .i64 n] w fun e w' => e = .returned (numR (0, 0, false)) ∧ Below w.heap.size w w' := by
  have R1 : Hid (∀ w1, Calls Tryd.prog 17 #[.agg #[.int .i64 a, .int .i64 b]] w1 fun r w' => r = .returned (.bool true) ∧ Below w1.heap.size w1 w') := by
    intro w1; have := right_any a b hw.1.1 hw.1.2 hw.2.2 w1; rw [ha] at this; exact this
  clear ha hw
  unfold numV
  go_enter Tryd.func31, Tryd.ntmps31
  go_wp2_with fail
  refine (R1.out _).mono ?_
  rintro e w1 ⟨rfl, hb1⟩
  have hT0 := Duo.new w a b 0 0
  have hB0 := below2 w (.cells #[.int .i64 a, .int .i64 b] 24) (.cells #[.int .i64 0, .int .i64 0] 24)
  obtain ⟨hT1, hZ1⟩ := hT0.below hb1 (by simp)
  have hW1 := hB0.trans (hb1.mono hB0.size)
  clear hT0 hB0 hb1
  obtain ⟨⟨p0, p1, p2, p3⟩, p4, p5, p6, p7⟩ := id hT1
  go_wp2
  refine bodyPost_ret (v := numR (0, 0, false)) (by simp [numR, numV, results, Tryd.results31, go_sem, p4, p5]) rfl ⟨rfl, ?_⟩
  first | exact hW1 | exact slot_set2 hW1 (by omega) _ _
set_option maxHeartbeats 2000000 in
theorem rpow_no1 (a b n : Int) (ha : rightB a b = false) (w : World) : Calls Tryd.prog 32 #[numV a b, .int .i64 n] w fun e w' => e = .returned (numR (0, 0, false)) ∧ Below w.heap.size w w' := by
  have R1 : Hid (∀ w1, Calls Tryd.prog 18 #[.agg #[.int .i64 a, .int .i64 b]] w1 fun r w' => r = .returned (.bool false) ∧ Below w1.heap.size w1 w') := by
    intro w1; have := rright_any a b w1; rw [ha] at this; exact this
  clear ha 
  unfold numV
  go_enter Tryd.func32, Tryd.ntmps32
  go_wp2_with fail
  refine (R1.out _).mono ?_
  rintro e w1 ⟨rfl, hb1⟩
  have hT0 := Duo.new w a b 0 0
  have hB0 := below2 w (.cells #[.int .i64 a, .int .i64 b] 24) (.cells #[.int .i64 0, .int .i64 0] 24)
  obtain ⟨hT1, hZ1⟩ := hT0.below hb1 (by simp)
  have hW1 := hB0.trans (hb1.mono hB0.size)
  clear hT0 hB0 hb1
  obtain ⟨⟨p0, p1, p2, p3⟩, p4, p5, p6, p7⟩ := id hT1
  go_wp2
  refine bodyPost_ret (v := numR (0, 0, false)) (by simp [numR, numV, results, Tryd.results32, go_sem, p4, p5]) rfl ⟨rfl, ?_⟩
  first | exact hW1 | exact slot_set2 hW1 (by omega) _ _
set_option maxHeartbeats 2000000 in
theorem rpow_no2 (a b n : Int) (ha : rightB a b = true) (hn : n < -1000) (w : World) : Calls Tryd.prog 32 #[numV a b, .int .i64 n] w fun e w' => e = .returned (numR (0, 0, false)) ∧ Below w.heap.size w w' := by
  have R1 : Hid (∀ w1, Calls Tryd.prog 18 #[.agg #[.int .i64 a, .int .i64 b]] w1 fun r w' => r = .returned (.bool true) ∧ Below w1.heap.size w1 w') := by
    intro w1; have := rright_any a b w1; rw [ha] at this; exact this
  clear ha 
  unfold numV
  go_enter Tryd.func32, Tryd.ntmps32
  go_wp2_with fail
  refine (R1.out _).mono ?_
  rintro e w1 ⟨rfl, hb1⟩
  have hT0 := Duo.new w a b 0 0
  have hB0 := below2 w (.cells #[.int .i64 a, .int .i64 b] 24) (.cells #[.int .i64 0, .int .i64 0] 24)
  obtain ⟨hT1, hZ1⟩ := hT0.below hb1 (by simp)
  have hW1 := hB0.trans (hb1.mono hB0.size)
  clear hT0 hB0 hb1
  obtain ⟨⟨p0, p1, p2, p3⟩, p4, p5, p6, p7⟩ := id hT1
  go_wp2
  refine bodyPost_ret (v := numR (0, 0, false)) (by simp [numR, numV, results, Tryd.results32, go_sem, p4, p5]) rfl ⟨rfl, ?_⟩
  first | exact hW1 | exact slot_set2 hW1 (by omega) _ _
set_option maxHeartbeats 2000000 in
theorem rpow_no3 (a b n : Int) (ha : rightB a b = true) (hn0 : ¬ n < -1000) (hn : 1000 < n) (w : World) : Calls Tryd.prog 32 #[numV a b, .int .i64 n] w fun e w' => e = .returned (numR (0, 0, false)) ∧ Below w.heap.size w w' := by
  have R1 : Hid (∀ w1, Calls Tryd.prog 18 #[.agg #[.int .i64 a, .int .i64 b]] w1 fun r w' => r = .returned (.bool true) ∧ Below w1.heap.size w1 w') := by
    intro w1; have := rright_any a b w1; rw [ha] at this; exact this
  clear ha 
  unfold numV
  go_enter Tryd.func32, Tryd.ntmps32
  go_wp2_with fail
  refine (R1.out _).mono ?_
  rintro e w1 ⟨rfl, hb1⟩
  have hT0 := Duo.new w a b 0 0
  have hB0 := below2 w (.cells #[.int .i64 a, .int .i64 b] 24) (.cells #[.int .i64 0, .int .i64 0] 24)
  obtain ⟨hT1, hZ1⟩ := hT0.below hb1 (by simp)
  have hW1 := hB0.trans (hb1.mono hB0.size)
  clear hT0 hB0 hb1
  obtain ⟨⟨p0, p1, p2, p3⟩, p4, p5, p6, p7⟩ := id hT1
  go_wp2
  refine bodyPost_ret (v := numR (0, 0, false)) (by simp [numR, numV, results, Tryd.results32, go_sem, p4, p5]) rfl ⟨rfl, ?_⟩
  first | exact hW1 | exact slot_set2 hW1 (by omega) _ _
set_option maxRecDepth 1000000 in
set_option maxHeartbeats 4000000 in
theorem pow_neg (a b n : Int) (k : Nat) (hk : n = -(k : Int)) (hk0 : 0 < k) (hk1 : k ≤ 1000) (ha : rightB a b = true) (M E : Int) (ok : Bool) (x y : Int) (ok1 : Bool) (hp : powG a b k = (x, y, ok1)) (hM : (if ok1 = true then divF 1 0 x y else (0, 0, false)) = (M, E, ok)) (w : World) (ht : Tab w) :
    Calls Tryd.prog 31 #[numV a b, .int .i64 n] w fun e w' => e = .returned (numR (M, E, ok)) ∧ Below w.heap.size w w' := by
  obtain ⟨ba, bb1, bb2⟩ := right_bounds ha
  have R1 : Hid (∀ w1, Calls Tryd.prog 17 #[.agg #[.int .i64 a, .int .i64 b]] w1 fun r w' => r = .returned (.bool true) ∧ Below w1.heap.size w1 w') := by
    intro w1; have := right_any a b (by omega) (by omega) (by omega) w1; rw [ha] at this; exact this
  have PW : Hid (∀ w1, Tab w1 → Calls Tryd.prog 31 #[.agg #[.int .i64 a, .int .i64 b], .int .i64 (k : Int)] w1 fun e w' => e = .returned (.tuple #[.agg #[.int .i64 x, .int .i64 y], .bool ok1]) ∧ Below w1.heap.size w1 w') := fun w1 h => by
    have := pow_nn a b k ha hk1 w1 h; rw [hp] at this; exact this
  have hpr := powG_right a b k
  rw [hp] at hpr
  have DV : Hid (∀ w1, Tab w1 → Calls Tryd.prog 29 #[.agg #[.int .i64 1, .int .i64 0], .agg #[.int .i64 x, .int .i64 y]] w1 fun e w' => e = .returned (numR (divF 1 0 x y)) ∧ Below w1.heap.size w1 w') := fun w1 h => div_any 1 0 x y right_one hpr w1 h
  have HT := Lib.hid ht
  have hneg : n < 0 := by omega
  have hn1 : ¬ n < -1000 := by omega
  have hn2 : ¬ 1000 < n := by omega
  have hwr : IntKind.i64.wrap (-n) = (k : Int) := by rw [IntKind.wrap_i64]; omega
  have hT1w : 1 < w.heap.size := var_lt gPow ht
  clear ha ba bb1 bb2 hp hpr ht hk
  unfold numR numV
  simp only
  go_enter Tryd.func31, Tryd.ntmps31
  go_wp2_with fail
  refine (R1.out _).mono ?_
  rintro e w1 ⟨rfl, hb1⟩
  have hT0 := Duo.new w a b 0 0
  have hB0 := below2 w (.cells #[.int .i64 a, .int .i64 b] 24) (.cells #[.int .i64 0, .int .i64 0] 24)
  obtain ⟨hT1, hZ1⟩ := hT0.below hb1 (by simp)
  have hW1 := hB0.trans (hb1.mono hB0.size)
  have al1 := alloc_below w1 (.cells #[.int .i64 1, .int .i64 0] 24)
  obtain ⟨hT2, hZ2⟩ := hT1.below al1 hZ1
  have hW2 := hW1.trans (al1.mono hW1.size)
  have KW : Kpw w (w1.alloc (.cells #[.int .i64 1, .int .i64 0] 24)) a b w1.heap.size 1 0 := ⟨hT2, Slot.new w1 1 0, hZ1, by simp, HT.out.below hW2, hW2⟩
  clear hT0 hB0 hb1 hT1 hZ1 hW1 al1 hT2 hZ2 hW2
  obtain ⟨⟨⟨p0, p1, p2, p3⟩, p4, p5, p6, p7⟩, ⟨v0, v1, v2, v3⟩, _, hlt, _, _⟩ := id KW
  go_wp2_with fail
  refine (PW.out _ KW.tab).mono ?_
  rintro e w2 ⟨rfl, hb2⟩
  have al2 := alloc_below w2 (.cells #[.int .i64 x, .int .i64 y] 24)
  have K2 := (KW.later hb2).later al2
  obtain ⟨s0, s1, s2, s3⟩ := Slot.new w2 x y
  clear PW KW hb2 al2 p0 p1 p2 p3 p4 p5 p6 p7 v0 v1 v2 v3 hlt R1
  obtain ⟨⟨⟨p0, p1, p2, p3⟩, p4, p5, p6, p7⟩, ⟨v0, v1, v2, v3⟩, hz9, hlt, _, _⟩ := id K2
  cases ok1 with
  | false =>
    rw [if_neg (by decide)] at hM
    simp only [Prod.mk.injEq] at hM
    obtain ⟨rfl, rfl, rfl⟩ := hM
    have hbw := K2.bw
    clear K2 DV
    go_wp2
    refine bodyPost_ret (v := .tuple #[.agg #[.int .i64 0, .int .i64 0], .bool false]) (by simp [results, Tryd.results31, go_sem, p4, p5]) rfl ⟨rfl, ?_⟩
    first | exact hbw | exact slot_set2 hbw (by omega) _ _
  | true =>
    rw [if_pos rfl] at hM
    rw [hM] at DV
    simp only [numR, numV] at DV
    clear hM
    go_wp2_with fail
    refine (DV.out _ K2.tab).mono ?_
    rintro e w3 ⟨rfl, hb3⟩
    have K3 := K2.later hb3
    have hbw := K3.bw
    clear K2 DV hb3 p0 p1 p2 p3 p4 p5 p6 p7 v0 v1 v2 v3 hlt s0 s1 s2 s3 hz9
    obtain ⟨⟨⟨p0, p1, p2, p3⟩, p4, p5, p6, p7⟩, ⟨v0, v1, v2, v3⟩, hz9, hlt, _, _⟩ := id K3
    clear K3 hneg hn1 hn2 hwr
    go_wp2
    refine bodyPost_ret (v := .tuple #[.agg #[.int .i64 M, .int .i64 E], .bool ok]) (by simp [results, Tryd.results31, go_sem, p4, p5]) rfl ⟨rfl, ?_⟩
    exact slot_set2 hbw (by omega) _ _
/-- Pow, of every number and every exponent -/
theorem powX_any (a b n : Int) (hw : Wf a b) (w : World) (ht : Tab w) : Calls Tryd.prog 31 #[numV a b, .int .i64 n] w fun e w' => e = .returned (numR (powP a b n)) ∧ Below w.heap.size w w' := by
  unfold powP
  cases ha : rightB a b
  · exact pow_no1 a b n hw ha w
  by_cases h1 : n < -1000
  · rw [if_neg (fun h => by omega)]; exact pow_no2 a b n hw ha h1 w
  by_cases h2 : 1000 < n
  · rw [if_neg (fun h => by omega)]; exact pow_no3 a b n hw ha h1 h2 w
  rw [if_pos ⟨rfl, by omega, by omega⟩]
  by_cases h3 : 0 ≤ n
  · rw [if_pos h3]
    have := pow_nn a b n.toNat ha (by omega) w ht
    rw [show ((n.toNat : Nat) : Int) = n by omega] at this
    exact this
  · rw [if_neg h3]
    exact pow_neg a b n (-n).toNat (by omega) (by omega) (by omega) ha _ _ _ _ _ _ rfl rfl w ht
end Go.Proofs.YtkdjdoncmihkfaaDoor
