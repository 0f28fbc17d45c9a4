/- The law NumAdds, of every two numbers. -/
import Derived.Test.YtkdjdoncmihkfaaDoorRm
import Derived.Test.YtkdjdoncmihkfaaDoorLaw
namespace Go.Proofs.YtkdjdoncmihkfaaDoor
open Go.RowKit

/-- six numbers' cells, and the table -/
def Ky (w : World) (l1 l2 l3 l4 l5 l6 : Nat × Int × Int) (w' : World) : Prop :=
  C2 w' l1.1 l1.2.1 l1.2.2 ∧ C2 w' l2.1 l2.2.1 l2.2.2 ∧ C2 w' l3.1 l3.2.1 l3.2.2 ∧ C2 w' l4.1 l4.2.1 l4.2.2 ∧ C2 w' l5.1 l5.2.1 l5.2.2 ∧ C2 w' l6.1 l6.2.1 l6.2.2 ∧ Tab w' ∧ Below w.heap.size w w'
theorem Ky.later {w : World} {l1 l2 l3 l4 l5 l6 : Nat × Int × Int} {w1 w2 : World} (h : Ky w l1 l2 l3 l4 l5 l6 w1) (hb : Below w1.heap.size w1 w2) : Ky w l1 l2 l3 l4 l5 l6 w2 := by
  obtain ⟨h1, h2, h3, h4, h5, h6, h8, h7⟩ := h
  exact ⟨h1.later hb, h2.later hb, h3.later hb, h4.later hb, h5.later hb, h6.later hb, h8.below hb, h7.trans (hb.mono h7.size)⟩
set_option maxRecDepth 1000000 in
set_option maxHeartbeats 8000000 in
/-- the law NumAdds -/
theorem adds_any (a b c d : Int) (hw1 : Wf a b) (hw2 : Wf c d) (w : World) (ht : Tab w) :
    Calls Tryd.prog 4 #[numV a b, numV c d] w fun r w' => r = .returned (.bool true) ∧ Below w.heap.size w w' := by
  have A1 : Hid (∀ w1, Tab w1 → Calls Tryd.prog 19 #[.agg #[.int .i64 a, .int .i64 b], .agg #[.int .i64 c, .int .i64 d]] w1 fun e w' => e = .returned (numR (addX a b c d)) ∧ Below w1.heap.size w1 w') := fun w1 h => addX_any a b c d hw1 hw2 w1 h
  have A2 : Hid (∀ w1, Tab w1 → Calls Tryd.prog 20 #[.agg #[.int .i64 a, .int .i64 b], .agg #[.int .i64 c, .int .i64 d]] w1 fun e w' => e = .returned (numR (addX a b c d)) ∧ Below w1.heap.size w1 w') := fun w1 h => raddX_any a b c d hw1 hw2 w1 h
  have S1 : Hid (∀ w1, Tab w1 → Calls Tryd.prog 21 #[.agg #[.int .i64 a, .int .i64 b], .agg #[.int .i64 c, .int .i64 d]] w1 fun e w' => e = .returned (numR (subX a b c d)) ∧ Below w1.heap.size w1 w') := fun w1 h => subX_any a b c d hw1 hw2 w1 h
  have S2 : Hid (∀ w1, Tab w1 → Calls Tryd.prog 22 #[.agg #[.int .i64 a, .int .i64 b], .agg #[.int .i64 c, .int .i64 d]] w1 fun e w' => e = .returned (numR (subX a b c d)) ∧ Below w1.heap.size w1 w') := fun w1 h => rsubX_any a b c d hw1 hw2 w1 h
  obtain ⟨cv, hcv⟩ : ∃ cv, cv = cmpX a b c d := ⟨_, rfl⟩
  have CC1 : Hid (∀ w1, Tab w1 → Calls Tryd.prog 25 #[.agg #[.int .i64 a, .int .i64 b], .agg #[.int .i64 c, .int .i64 d]] w1 fun e w' => e = .returned (.int .i64 cv) ∧ Below w1.heap.size w1 w') := fun w1 h => by rw [hcv]; exact cmpX_any a b c d hw1 hw2 w1 h
  have CC2 : Hid (∀ w1, Tab w1 → Calls Tryd.prog 26 #[.agg #[.int .i64 a, .int .i64 b], .agg #[.int .i64 c, .int .i64 d]] w1 fun e w' => e = .returned (.int .i64 cv) ∧ Below w1.heap.size w1 w') := fun w1 h => by rw [hcv]; exact rcmpX_any a b c d hw1 hw2 w1 h
  obtain ⟨⟨n1, n2⟩, hn⟩ : ∃ n, n = negP a b := ⟨_, rfl⟩
  have N1 : Hid (∀ w1, Calls Tryd.prog 23 #[.agg #[.int .i64 a, .int .i64 b]] w1 fun r w' => r = .returned (.agg #[.int .i64 n1, .int .i64 n2]) ∧ Below w1.heap.size w1 w') := fun w1 => by
    have := neg_any a b hw1.1.1 hw1.1.2 hw1.2.2 w1; rw [← hn] at this; exact this
  have N2 : Hid (∀ w1, Calls Tryd.prog 24 #[.agg #[.int .i64 a, .int .i64 b]] w1 fun r w' => r = .returned (.agg #[.int .i64 n1, .int .i64 n2]) ∧ Below w1.heap.size w1 w') := fun w1 => by
    have := rneg_any a b w1; rw [← hn] at this; exact this
  obtain ⟨⟨p, q, u⟩, hM⟩ : ∃ M, M = addX a b c d := ⟨_, rfl⟩
  obtain ⟨⟨s, t, v⟩, hN⟩ : ∃ M, M = subX a b c d := ⟨_, rfl⟩
  rw [← hM] at A1 A2
  rw [← hN] at S1 S2
  simp only [numR, numV] at A1 A2 S1 S2
  have HAW : Hid (∀ w1, Tab w1 → Calls Tryd.prog 14 #[] w1 fun r w' => r = .returned (.bool true) ∧ Below w1.heap.size w1 w') := fun w1 h => awake_any w1 h
  have H0 := Lib.hid (Kp.first w a b c d ht)
  clear hcv hn hM hN ht hw1 hw2
  unfold numV
  go_enter Tryd.func4, Tryd.ntmps4
  go_wp2_with fail
  refine (HAW.out _ H0.out.2.2.2.2.2.1).mono ?_
  rintro e w1 ⟨rfl, hb1⟩
  have K := H0.out.later hb1
  clear hb1 HAW H0
  obtain ⟨p0, p1, p2, p3, _⟩ := id K
  go_wp2_with fail
  refine (A1.out _ K.2.2.2.2.2.1).mono ?_
  rintro e w2 ⟨rfl, hb⟩
  have al := alloc_below w2 (.cells #[.int .i64 p, .int .i64 q] 24)
  have K2 := (K.later hb).later al
  have x2 := C2.new w2 p q
  clear hb al K A1 p0 p1 p2 p3 
  have K := K2
  have sw2 := x2
  clear K2 x2
  obtain ⟨p0, p1, p2, p3, _⟩ := id K
  go_wp2_with fail
  refine (A2.out _ K.2.2.2.2.2.1).mono ?_
  rintro e w3 ⟨rfl, hb⟩
  have al := alloc_below w3 (.cells #[.int .i64 p, .int .i64 q] 24)
  have K2 := (K.later hb).later al
  have x2 := (sw2.later hb).later al
  have x3 := C2.new w3 p q
  clear hb al K A2 p0 p1 p2 p3 sw2
  have K := K2
  have sw2 := x2
  have sw3 := x3
  clear K2 x2 x3
  obtain ⟨p0, p1, p2, p3, _⟩ := id K
  go_wp2_with fail
  refine (S1.out _ K.2.2.2.2.2.1).mono ?_
  rintro e w4 ⟨rfl, hb⟩
  have al := alloc_below w4 (.cells #[.int .i64 s, .int .i64 t] 24)
  have K2 := (K.later hb).later al
  have x2 := (sw2.later hb).later al
  have x3 := (sw3.later hb).later al
  have x4 := C2.new w4 s t
  clear hb al K S1 p0 p1 p2 p3 sw2 sw3
  have K := K2
  have sw2 := x2
  have sw3 := x3
  have sw4 := x4
  clear K2 x2 x3 x4
  obtain ⟨p0, p1, p2, p3, _⟩ := id K
  go_wp2_with fail
  refine (S2.out _ K.2.2.2.2.2.1).mono ?_
  rintro e w5 ⟨rfl, hb⟩
  have al := alloc_below w5 (.cells #[.int .i64 s, .int .i64 t] 24)
  have K2 := (K.later hb).later al
  have x2 := (sw2.later hb).later al
  have x3 := (sw3.later hb).later al
  have x4 := (sw4.later hb).later al
  have x5 := C2.new w5 s t
  clear hb al K S2 p0 p1 p2 p3 sw2 sw3 sw4
  have K := K2
  have sw2 := x2
  have sw3 := x3
  have sw4 := x4
  have sw5 := x5
  clear K2 x2 x3 x4 x5
  obtain ⟨p0, p1, p2, p3, _⟩ := id K
  have X0 : Ky w (w.heap.size, a, b) (w.heap.size + 1, c, d) (w2.heap.size, p, q) (w3.heap.size, p, q) (w4.heap.size, s, t) (w5.heap.size, s, t) (w5.alloc (.cells #[.int .i64 s, .int .i64 t] 24)) := ⟨⟨p0, p1, by have := K.2.2.2.2.1; omega⟩, ⟨p2, p3, by have := K.2.2.2.2.1; omega⟩, sw2, sw3, sw4, sw5, K.2.2.2.2.2.1, K.2.2.2.2.2.2⟩
  clear K sw2 sw3 sw4 sw5 p0 p1 p2 p3
  obtain ⟨⟨m0, m1, _⟩, ⟨m2, m3, _⟩, ⟨m4, m5, _⟩, ⟨m6, m7, _⟩, ⟨m8, m9, _⟩, ⟨m10, m11, _⟩, _, _⟩ := id X0
  go_wp2_with fail
  go_region_held3 (fun w' => (w'.cell? ⟨w.heap.size, 0, none⟩ = some (.int .i64 a) ∧ w'.cell? ⟨w.heap.size, 1, none⟩ = some (.int .i64 b) ∧ w.heap.size < w'.heap.size) ∧ (w'.cell? ⟨w.heap.size + 1, 0, none⟩ = some (.int .i64 c) ∧ w'.cell? ⟨w.heap.size + 1, 1, none⟩ = some (.int .i64 d) ∧ w.heap.size + 1 < w'.heap.size) ∧ (w'.cell? ⟨w2.heap.size, 0, none⟩ = some (.int .i64 p) ∧ w'.cell? ⟨w2.heap.size, 1, none⟩ = some (.int .i64 q) ∧ w2.heap.size < w'.heap.size) ∧ (w'.cell? ⟨w3.heap.size, 0, none⟩ = some (.int .i64 p) ∧ w'.cell? ⟨w3.heap.size, 1, none⟩ = some (.int .i64 q) ∧ w3.heap.size < w'.heap.size) ∧ (w'.cell? ⟨w4.heap.size, 0, none⟩ = some (.int .i64 s) ∧ w'.cell? ⟨w4.heap.size, 1, none⟩ = some (.int .i64 t) ∧ w4.heap.size < w'.heap.size) ∧ (w'.cell? ⟨w5.heap.size, 0, none⟩ = some (.int .i64 s) ∧ w'.cell? ⟨w5.heap.size, 1, none⟩ = some (.int .i64 t) ∧ w5.heap.size < w'.heap.size) ∧ Tab w' ∧ Below w.heap.size w w')
    ((show Ky w (w.heap.size, a, b) (w.heap.size + 1, c, d) (w2.heap.size, p, q) (w3.heap.size, p, q) (w4.heap.size, s, t) (w5.heap.size, s, t) _; with_reducible first | exact X0.later (below_dr _) | exact X5.out))
    (first
      | (go_at_call 23; refine (N1.out _).mono ?_; rintro e w12 ⟨rfl, hb12⟩; have X5 := Lib.hid (Ky.later (show Ky w (w.heap.size, a, b) (w.heap.size + 1, c, d) (w2.heap.size, p, q) (w3.heap.size, p, q) (w4.heap.size, s, t) (w5.heap.size, s, t) _ by assumption) hb12))
      | (go_at_call 24; refine (N2.out _).mono ?_; rintro e w12 ⟨rfl, hb12⟩; have X5 := Lib.hid (Ky.later (show Ky w (w.heap.size, a, b) (w.heap.size + 1, c, d) (w2.heap.size, p, q) (w3.heap.size, p, q) (w4.heap.size, s, t) (w5.heap.size, s, t) _ by assumption) hb12))
      | (go_at_call 25; refine (CC1.out _ (show Ky w (w.heap.size, a, b) (w.heap.size + 1, c, d) (w2.heap.size, p, q) (w3.heap.size, p, q) (w4.heap.size, s, t) (w5.heap.size, s, t) _ by assumption).2.2.2.2.2.2.1).mono ?_; rintro e w12 ⟨rfl, hb12⟩; have X5 := Lib.hid (Ky.later (show Ky w (w.heap.size, a, b) (w.heap.size + 1, c, d) (w2.heap.size, p, q) (w3.heap.size, p, q) (w4.heap.size, s, t) (w5.heap.size, s, t) _ by assumption) hb12))
      | (go_at_call 26; refine (CC2.out _ (show Ky w (w.heap.size, a, b) (w.heap.size + 1, c, d) (w2.heap.size, p, q) (w3.heap.size, p, q) (w4.heap.size, s, t) (w5.heap.size, s, t) _ by assumption).2.2.2.2.2.2.1).mono ?_; rintro e w12 ⟨rfl, hb12⟩; have X5 := Lib.hid (Ky.later (show Ky w (w.heap.size, a, b) (w.heap.size + 1, c, d) (w2.heap.size, p, q) (w3.heap.size, p, q) (w4.heap.size, s, t) (w5.heap.size, s, t) _ by assumption) hb12)))
  have hfin : Below w.heap.size w w12 := X5.out.2.2.2.2.2.2.2
  clear hb12 X5 X0 m0 m1 m2 m3 m4 m5 m6 m7 m8 m9 m10 m11
  go_wp2
  go_ret
  exact ⟨rfl, hfin⟩
end Go.Proofs.YtkdjdoncmihkfaaDoor
