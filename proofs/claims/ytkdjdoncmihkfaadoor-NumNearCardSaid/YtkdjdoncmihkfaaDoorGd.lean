/- The law NumNear, of every two numbers. -/
import Derived.Test.YtkdjdoncmihkfaaDoorGb
import Derived.Test.YtkdjdoncmihkfaaDoorLaw
namespace Go.Proofs.YtkdjdoncmihkfaaDoor
open Go.RowKit

theorem round_self {a b : Int} (h : rightB a b = true) : roundN (decide (a < 0)) a.natAbs b = (a, b, true) := by
  by_cases ha : a = 0
  · subst ha
    have := rightB_zero h
    subst this
    unfold roundN; rw [if_pos (.inl rfl)]
  · obtain ⟨m1, m2, m3, m4⟩ := right_mod h ha
    have hn : nd a.natAbs - 15 = 0 := by omega
    unfold roundN
    rw [if_neg (by omega), if_neg (by omega)]
    unfold mainN
    rw [hn, evenN_zero, show (-40 - (b + ((0 : Nat) : Int))).toNat = 0 by omega, evenN_zero]
    have htz : tz a.natAbs = (a.natAbs, 0) := by rw [tz, dif_neg (fun h => m1 h.2)]
    unfold endN
    rw [htz]
    simp only
    rw [if_neg (by omega), if_neg (by omega)]
    simp only [Prod.mk.injEq, and_true]
    refine ⟨?_, by omega⟩
    by_cases hn : a < 0
    · rw [if_pos (by simpa using hn)]; omega
    · rw [if_neg (by simpa using hn)]; omega
theorem round_zero0 (s : Bool) (x : Int) : roundN s 0 x = (0, 0, true) := by unfold roundN; rw [if_pos (.inl rfl)]
theorem add_zero' {a b : Int} (h : rightB a b = true) : addN a b 0 0 = (a, b, true) := by
  obtain ⟨hb1, hb2, hb3⟩ := right_bounds h
  rw [addN_plus a b 0 0 _ _ rfl rfl]
  have hd : decide ((0 : Int) < 0) = false := by decide
  have hz : (0 : Int).natAbs * 10 ^ (0 - min b 0).toNat = 0 := by simp
  rw [hd, hz]
  obtain ⟨U, hU⟩ : ∃ U, U = a.natAbs * 10 ^ (b - min b 0).toNat := ⟨_, rfl⟩
  rw [← hU]
  have hr : roundN (decide (a < 0)) U (min b 0) = (a, b, true) := by
    have := round_scale (decide (a < 0)) a.natAbs b (b - min b 0).toNat (by omega) (by omega)
    rw [show b - (((b - min b 0).toNat : Nat) : Int) = min b 0 by omega, ← hU] at this
    rw [this]; exact round_self h
  have hN : plusN (decide (a < 0)) false U 0 = U := by unfold plusN; split <;> simp
  rw [hN]
  by_cases hU0 : U = 0
  · rw [hU0] at hr ⊢
    rw [round_zero0] at hr ⊢
    exact hr
  · have hS : plusS (decide (a < 0)) false U 0 = decide (a < 0) := by
      unfold plusS; split
      · rfl
      · rw [if_neg (by omega)]
    rw [hS]; exact hr
theorem mul_one' {a b : Int} (h : rightB a b = true) : mulN a b 1 0 = (a, b, true) := by
  unfold mulN
  rw [show decide ((1 : Int) < 0) = false by decide, Bool.bne_false, show a.natAbs * (1 : Int).natAbs = a.natAbs from Nat.mul_one _, Int.add_zero]
  exact round_self h
theorem div_one' {a b : Int} (h : rightB a b = true) : divF a b 1 0 = (a, b, true) := by
  obtain ⟨hb1, hb2, hb3⟩ := right_bounds h
  unfold divF
  rw [if_neg (by decide), ← div_near a b 1 0 (by decide) (by decide) ⟨hb2, hb3⟩ ⟨by omega, by omega⟩]
  rw [show decide ((1 : Int) < 0) = false by decide, Bool.bne_false, show (1 : Int).natAbs = 1 from rfl, Nat.div_one, Nat.mod_one, show decide ((0 : Nat) ≠ 0) = false from rfl, near_roundN _ _ _ (by omega) (by omega)]
  have := round_scale (decide (a < 0)) a.natAbs b 40 (by omega) (by omega)
  rw [show b - ((40 : Nat) : Int) = b - 0 - 40 by omega] at this
  rw [this]; exact round_self h
theorem sub_self' (a b : Int) (h : rightB a b = true) : subX a b a b = (0, 0, true) := by
  unfold subX addX
  rw [if_pos h, h, right_neg h, if_pos (show (true && true) = true from rfl), addN_plus a b (-a) b _ _ rfl rfl, Int.natAbs_neg]
  obtain ⟨U, hU⟩ : ∃ U, U = a.natAbs * 10 ^ (b - min b b).toNat := ⟨_, rfl⟩
  rw [← hU]
  have hN : plusN (decide (a < 0)) (decide (-a < 0)) U U = 0 := by
    unfold plusN
    by_cases ha : a = 0
    · rw [hU, ha]; simp
    · rw [if_neg, if_neg (by omega), Nat.sub_self]
      by_cases hn : a < 0
      · rw [decide_eq_true hn, decide_eq_false (by omega)]; decide
      · rw [decide_eq_false hn, decide_eq_true (by omega)]; decide
  rw [hN, round_zero0]
theorem add_comm' (a b c d : Int) : addN a b c d = addN c d a b := by
  rw [addN_plus a b c d _ _ rfl rfl, addN_plus c d a b _ _ rfl rfl, show min d b = min b d by omega]
  obtain ⟨U, hU⟩ : ∃ U, U = a.natAbs * 10 ^ (b - min b d).toNat := ⟨_, rfl⟩
  obtain ⟨V, hV⟩ : ∃ U, U = c.natAbs * 10 ^ (d - min b d).toNat := ⟨_, rfl⟩
  rw [← hU, ← hV]
  generalize decide (a < 0) = sa
  generalize decide (c < 0) = sc
  have hN : plusN sa sc U V = plusN sc sa V U := by
    unfold plusN
    cases sa <;> cases sc <;> simp <;> (repeat' split) <;> omega
  rw [hN]
  by_cases h0 : plusN sc sa V U = 0
  · rw [h0, round_zero0, round_zero0]
  · have hS : plusS sa sc U V = plusS sc sa V U := by
      rcases Nat.lt_trichotomy U V with h1 | h1 | h1
      · unfold plusS; cases sa <;> cases sc <;> simp [h1, Nat.lt_asymm h1]
      · subst h1; unfold plusN at h0; unfold plusS; cases sa <;> cases sc <;> simp at h0 ⊢
      · unfold plusS; cases sa <;> cases sc <;> simp [h1, Nat.lt_asymm h1]
    rw [hS]
theorem mul_comm' (a b c d : Int) : mulN a b c d = mulN c d a b := by
  unfold mulN
  rw [Nat.mul_comm, Int.add_comm, show (decide (a < 0) != decide (c < 0)) = (decide (c < 0) != decide (a < 0)) by cases decide (a < 0) <;> cases decide (c < 0) <;> rfl]
theorem wf_right1 {x y : Int} (h : rightB x y = true) : Wf x y := by
  obtain ⟨b1, b2, b3⟩ := right_bounds h
  exact ⟨⟨by omega, by omega⟩, by omega, by omega⟩
theorem right_unit1 (s e : Int) (hs : s = 1 ∨ s = -1) (h0 : -40 ≤ e) (h1 : e ≤ 39) : rightB s e = true := by
  have hn : nd s.natAbs ≤ 1 := nd_le 1 _ (by omega)
  unfold rightB
  rw [if_neg (by omega), if_neg (by rcases hs with rfl | rfl <;> simp <;> omega), decide_eq_true_eq]
  omega
theorem vd_rd {w : World} {A : Option Addr} {n k : Nat} {l : List UInt8} (h : Vd w (.slice A n k) l) : RdD w A l := by
  rcases h with ⟨_, rfl⟩ | ⟨b, off, c, e, h1, h2, h3, h4⟩
  · exact RdD.nil _ _
  · simp only [Value.slice.injEq] at e
    obtain ⟨rfl, _, _⟩ := e
    exact fun _ => ⟨b, off, rfl, h3, h4⟩
/-- what the walk holds: two numbers' cells, and two results', not frozen -/
def Kn (w : World) (a b c d : Int) (B C : Nat) (x y : Int) (z t : Int) (w' : World) : Prop :=
  (w'.cell? ⟨w.heap.size, 0, none⟩ = some (.int .i64 a) ∧ w'.cell? ⟨w.heap.size, 1, none⟩ = some (.int .i64 b) ∧ w.heap.size < w'.heap.size) ∧ (w'.cell? ⟨w.heap.size + 1, 0, none⟩ = some (.int .i64 c) ∧ w'.cell? ⟨w.heap.size + 1, 1, none⟩ = some (.int .i64 d) ∧ w.heap.size + 1 < w'.heap.size) ∧
  (w'.cell? ⟨B, 0, none⟩ = some (.int .i64 x) ∧ w'.cell? ⟨B, 1, none⟩ = some (.int .i64 y) ∧ B < w'.heap.size) ∧ (w'.cell? ⟨C, 0, none⟩ = some (.int .i64 z) ∧ w'.cell? ⟨C, 1, none⟩ = some (.int .i64 t) ∧ C < w'.heap.size) ∧
  w'.frozen? ⟨B, 0, none⟩ = false ∧ w'.frozen? ⟨B, 1, none⟩ = false ∧ w'.frozen? ⟨C, 0, none⟩ = false ∧ w'.frozen? ⟨C, 1, none⟩ = false ∧ Tab w' ∧ Below w.heap.size w w'
theorem Kn.later {w : World} {a b c d : Int} {B C : Nat} {x y z t : Int} {w1 w2 : World} (h : Kn w a b c d B C x y z t w1) (hb : Below w1.heap.size w1 w2) : Kn w a b c d B C x y z t w2 := by
  obtain ⟨h1, h2, h3, h4, f1, f2, f3, f4, h5, h6⟩ := h
  exact ⟨C2.later h1 hb, C2.later h2 hb, C2.later h3 hb, C2.later h4 hb, (hb.frozen (p := ⟨B, 0, none⟩) h3.2.2).trans f1, (hb.frozen (p := ⟨B, 1, none⟩) h3.2.2).trans f2, (hb.frozen (p := ⟨C, 0, none⟩) h4.2.2).trans f3, (hb.frozen (p := ⟨C, 1, none⟩) h4.2.2).trans f4, h5.below hb, h6.trans (hb.mono h6.size)⟩
theorem C2.past {w1 : World} {B D : Nat} {u v : Int} (h : C2 w1 B u v) (hD : B ≠ D) (p q : Value) : C2 ((w1.setCell ⟨D, 0, none⟩ p).setCell ⟨D, 1, none⟩ q) B u v := by
  refine ⟨?_, ?_, Nat.lt_of_lt_of_le h.2.2 (by simp)⟩
  · rw [World.cell?_setCell_other _ _ _ _ (by simp <;> omega), World.cell?_setCell_other _ _ _ _ (by simp <;> omega)]; exact h.1
  · rw [World.cell?_setCell_other _ _ _ _ (by simp <;> omega), World.cell?_setCell_other _ _ _ _ (by simp <;> omega)]; exact h.2.1
theorem C2.here {w1 : World} {B : Nat} {u v : Int} (h : C2 w1 B u v) (p q : Int) : C2 ((w1.setCell ⟨B, 0, none⟩ (.int .i64 p)).setCell ⟨B, 1, none⟩ (.int .i64 q)) B p q := by
  refine ⟨?_, ?_, Nat.lt_of_lt_of_le h.2.2 (by simp)⟩
  · rw [World.cell?_setCell_other _ _ _ _ (by simp), World.cell?_setCell_same' _ _ _ (is_got h.1)]
  · rw [World.cell?_setCell_same' _ _ _ (some_set (is_got h.2.1) _ _)]
theorem Kn.put1 {w : World} {a b c d : Int} {B C : Nat} {x y z t : Int} {w1 : World} (h : Kn w a b c d B C x y z t w1) (hT : 1 < w.heap.size) (hB : w.heap.size + 2 ≤ B) (hBC : B ≠ C) (p q : Int) : Kn w a b c d B C p q z t ((w1.setCell ⟨B, 0, none⟩ (.int .i64 p)).setCell ⟨B, 1, none⟩ (.int .i64 q)) := by
  obtain ⟨h1, h2, h3, h4, f1, f2, f3, f4, h5, h6⟩ := h
  have hb : Below B w1 ((w1.setCell ⟨B, 0, none⟩ (.int .i64 p)).setCell ⟨B, 1, none⟩ (.int .i64 q)) := slot_set2 (Below.refl _ _) (Nat.le_refl _) _ _
  refine ⟨C2.past h1 (by omega) _ _, C2.past h2 (by omega) _ _, C2.here h3 p q, C2.past h4 (fun e => hBC e.symm) _ _, ?_, ?_, ?_, ?_, var?_below hb gPow (by omega) h5, h6.trans (hb.mono (by omega))⟩
  · simpa [World.frozen?_setCell] using f1
  · simpa [World.frozen?_setCell] using f2
  · simpa [World.frozen?_setCell] using f3
  · simpa [World.frozen?_setCell] using f4
theorem Kn.put2 {w : World} {a b c d : Int} {B C : Nat} {x y z t : Int} {w1 : World} (h : Kn w a b c d B C x y z t w1) (hT : 1 < w.heap.size) (hC : w.heap.size + 2 ≤ C) (hBC : B ≠ C) (p q : Int) : Kn w a b c d B C x y p q ((w1.setCell ⟨C, 0, none⟩ (.int .i64 p)).setCell ⟨C, 1, none⟩ (.int .i64 q)) := by
  obtain ⟨h1, h2, h3, h4, f1, f2, f3, f4, h5, h6⟩ := h
  have hb : Below C w1 ((w1.setCell ⟨C, 0, none⟩ (.int .i64 p)).setCell ⟨C, 1, none⟩ (.int .i64 q)) := slot_set2 (Below.refl _ _) (Nat.le_refl _) _ _
  refine ⟨C2.past h1 (by omega) _ _, C2.past h2 (by omega) _ _, C2.past h3 hBC _ _, C2.here h4 p q, ?_, ?_, ?_, ?_, var?_below hb gPow (by omega) h5, h6.trans (hb.mono (by omega))⟩
  · simpa [World.frozen?_setCell] using f1
  · simpa [World.frozen?_setCell] using f2
  · simpa [World.frozen?_setCell] using f3
  · simpa [World.frozen?_setCell] using f4
set_option maxRecDepth 1000000 in
set_option maxHeartbeats 16000000 in
theorem near_law_tt (a b c d : Int) (ha : rightB a b = true) (hc : rightB c d = true) (P Q M N : Int) (hA : addN a b c d = (P, Q, true)) (hM : mulN a b c d = (M, N, true)) (w : World) (ht : Tab w) :
    Calls Tryd.prog 10 #[numV a b, numV c d] w fun r w' => r = .returned (.bool true) ∧ Below w.heap.size w w' := by
  obtain ⟨ba, bb1, bb2⟩ := right_bounds ha
  obtain ⟨bc, bd1, bd2⟩ := right_bounds hc
  have HAW : Hid (∀ w1, Tab w1 → Calls Tryd.prog 14 #[] w1 fun r w' => r = .returned (.bool true) ∧ Below w1.heap.size w1 w') := fun w1 h => awake_any w1 h
  have Q1 : Hid (∀ w1, Calls Tryd.prog 18 #[.agg #[.int .i64 a, .int .i64 b]] w1 fun r w' => r = .returned (.bool true) ∧ Below w1.heap.size w1 w') := by
    intro w1; have := rright_any a b w1; rw [ha] at this; exact this
  have Q2 : Hid (∀ w1, Calls Tryd.prog 18 #[.agg #[.int .i64 c, .int .i64 d]] w1 fun r w' => r = .returned (.bool true) ∧ Below w1.heap.size w1 w') := by
    intro w1; have := rright_any c d w1; rw [hc] at this; exact this
  have r10 : rightB 1 0 = true := right_unit1 1 0 (.inl rfl) (by omega) (by omega)
  have r00 : rightB 0 0 = true := by decide
  have wa : Wf a b := wf_right1 ha
  have hA2 : addN c d a b = (P, Q, true) := by rw [add_comm' c d a b]; exact hA
  have hM2 : mulN c d a b = (M, N, true) := by rw [mul_comm' c d a b]; exact hM
  have A0 : Hid (∀ w1, Tab w1 → Calls Tryd.prog 19 #[.agg #[.int .i64 a, .int .i64 b], .agg #[.int .i64 0, .int .i64 0]] w1 fun e w' => e = .returned (.tuple #[.agg #[.int .i64 a, .int .i64 b], .bool true]) ∧ Below w1.heap.size w1 w') := fun w1 h => by
    have := add_any a b 0 0 ha r00 w1 h
    rw [add_zero' ha] at this; exact this
  have M0 : Hid (∀ w1, Tab w1 → Calls Tryd.prog 27 #[.agg #[.int .i64 a, .int .i64 b], .agg #[.int .i64 1, .int .i64 0]] w1 fun e w' => e = .returned (.tuple #[.agg #[.int .i64 a, .int .i64 b], .bool true]) ∧ Below w1.heap.size w1 w') := fun w1 h => by
    have := mul_any a b 1 0 ha r10 w1 h
    rw [mul_one' ha] at this; exact this
  have D0 : Hid (∀ w1, Tab w1 → Calls Tryd.prog 29 #[.agg #[.int .i64 a, .int .i64 b], .agg #[.int .i64 1, .int .i64 0]] w1 fun e w' => e = .returned (.tuple #[.agg #[.int .i64 a, .int .i64 b], .bool true]) ∧ Below w1.heap.size w1 w') := fun w1 h => by
    have := div_any a b 1 0 ha r10 w1 h
    rw [div_one' ha] at this; exact this
  have S0 : Hid (∀ w1, Tab w1 → Calls Tryd.prog 21 #[.agg #[.int .i64 a, .int .i64 b], .agg #[.int .i64 a, .int .i64 b]] w1 fun e w' => e = .returned (.tuple #[.agg #[.int .i64 0, .int .i64 0], .bool true]) ∧ Below w1.heap.size w1 w') := fun w1 h => by
    have := subX_any a b a b wa wa w1 h
    rw [sub_self' a b ha] at this; exact this
  have A1 : Hid (∀ w1, Tab w1 → Calls Tryd.prog 19 #[.agg #[.int .i64 a, .int .i64 b], .agg #[.int .i64 c, .int .i64 d]] w1 fun e w' => e = .returned (.tuple #[.agg #[.int .i64 P, .int .i64 Q], .bool true]) ∧ Below w1.heap.size w1 w') := fun w1 h => by
    have := add_any a b c d ha hc w1 h
    rw [hA] at this; exact this
  have A2 : Hid (∀ w1, Tab w1 → Calls Tryd.prog 19 #[.agg #[.int .i64 c, .int .i64 d], .agg #[.int .i64 a, .int .i64 b]] w1 fun e w' => e = .returned (.tuple #[.agg #[.int .i64 P, .int .i64 Q], .bool true]) ∧ Below w1.heap.size w1 w') := fun w1 h => by
    have := add_any c d a b hc ha w1 h
    rw [hA2] at this; exact this
  have M1 : Hid (∀ w1, Tab w1 → Calls Tryd.prog 27 #[.agg #[.int .i64 a, .int .i64 b], .agg #[.int .i64 c, .int .i64 d]] w1 fun e w' => e = .returned (.tuple #[.agg #[.int .i64 M, .int .i64 N], .bool true]) ∧ Below w1.heap.size w1 w') := fun w1 h => by
    have := mul_any a b c d ha hc w1 h
    rw [hM] at this; exact this
  have M2 : Hid (∀ w1, Tab w1 → Calls Tryd.prog 27 #[.agg #[.int .i64 c, .int .i64 d], .agg #[.int .i64 a, .int .i64 b]] w1 fun e w' => e = .returned (.tuple #[.agg #[.int .i64 M, .int .i64 N], .bool true]) ∧ Below w1.heap.size w1 w') := fun w1 h => by
    have := mul_any c d a b hc ha w1 h
    rw [hM2] at this; exact this
  obtain ⟨n1a, n1b, n1c⟩ := digs_val a
  obtain ⟨n2a, n2b, n2c⟩ := digs_val c
  have la : (digs a).length ≤ 15 := by
    rw [digs_len]; exact nd_le 15 _ (by have e15 : (10 : Nat) ^ 15 = 1000000000000000 := by decide
                                        omega)
  have lc : (digs c).length ≤ 15 := by
    rw [digs_len]; exact nd_le 15 _ (by have e15 : (10 : Nat) ^ 15 = 1000000000000000 := by decide
                                        omega)
  obtain ⟨sa, hsa⟩ : ∃ s, s = decide (a < 0) := ⟨_, rfl⟩
  obtain ⟨sc, hsc⟩ : ∃ s, s = decide (c < 0) := ⟨_, rfl⟩
  obtain ⟨na, hna⟩ : ∃ n, n = (digs a).length := ⟨_, rfl⟩
  obtain ⟨nc, hnc⟩ : ∃ n, n = (digs c).length := ⟨_, rfl⟩
  have OF1 : Hid (∀ w1, Calls Tryd.prog 45 #[.agg #[.int .i64 a, .int .i64 b]] w1 fun r w' => ∃ A k, r = .returned (.agg #[.bool sa, .slice A na k, .int .i64 b]) ∧ Vd w' (.slice A na k) (digs a) ∧ Below w1.heap.size w1 w') := by
    intro w1
    refine (of_any a b (by omega) (by omega) w1).mono ?_
    rintro e w' ⟨v, rfl, hv, hb⟩
    obtain ⟨A, k, rfl, hr⟩ := hv.open
    exact ⟨A, k, by rw [hsa, hna], by rw [hna]; exact hv, hb⟩
  have OF2 : Hid (∀ w1, Calls Tryd.prog 45 #[.agg #[.int .i64 c, .int .i64 d]] w1 fun r w' => ∃ A k, r = .returned (.agg #[.bool sc, .slice A nc k, .int .i64 d]) ∧ Vd w' (.slice A nc k) (digs c) ∧ Below w1.heap.size w1 w') := by
    intro w1
    refine (of_any c d (by omega) (by omega) w1).mono ?_
    rintro e w' ⟨v, rfl, hv, hb⟩
    obtain ⟨A, k, rfl, hr⟩ := hv.open
    exact ⟨A, k, by rw [hsc, hnc], by rw [hnc]; exact hv, hb⟩
  obtain ⟨LS, ls1, ls2, ls3, PL0⟩ := plus_len (decide (a < 0)) (decide (c < 0)) b d (digs a) (digs c) (by omega) (by omega) (by omega) (by omega) (by omega) (by omega) n1b n2b (min b d) rfl _ _ rfl rfl
  have hAr := hA
  rw [addN_plus a b c d _ _ rfl rfl] at hAr
  rw [n1a, n2a] at ls3 PL0
  rw [← ls3] at hAr
  obtain ⟨sS, hsS⟩ : ∃ s, s = plusS (decide (a < 0)) (decide (c < 0)) (a.natAbs * 10 ^ (b - min b d).toNat) (c.natAbs * 10 ^ (d - min b d).toNat) := ⟨_, rfl⟩
  rw [← hsS] at hAr PL0
  rw [← hsa, ← hsc] at PL0
  obtain ⟨eS, heS⟩ : ∃ e, e = min b d := ⟨_, rfl⟩
  rw [← heS] at hAr PL0
  obtain ⟨nS, hnS⟩ : ∃ n, n = LS.length := ⟨_, rfl⟩
  have hlS : nS ≤ 100 := by rw [hnS, ls1]; omega
  rw [← hnS] at PL0
  have PL := Lib.hid PL0
  have NS : Hid (∀ (B g k : Nat) (w1 : World), OwnD w1 B (.slice (some ⟨g, 0, none⟩) nS k) LS → Calls Tryd.prog 43 #[.agg #[.int .i64 P, .int .i64 Q], .agg #[.bool sS, .slice (some ⟨g, 0, none⟩) nS k, .int .i64 eS]] w1 fun r w' => r = .returned (.bool true) ∧ Below w1.heap.size w1 w') := fun B g k w1 ho => near_true P Q sS eS LS nS hnS.symm ls2 hlS (by omega) (by omega) hAr B g k w1 ho
  clear PL0 ls1 ls2 ls3 hAr hsS heS hnS
  obtain ⟨g1, g2, g3⟩ := prodL_val (digs a) (digs c) n1b n2b
  obtain ⟨LT, hLT⟩ : ∃ L, L = 0 :: prodL (digs a) (digs c) := ⟨_, rfl⟩
  have hLl : LT.length = na + nc + 1 := by rw [hLT, List.length_cons, g1, hna, hnc]
  have hLd : Dig LT := by rw [hLT]; exact zero_dig g2
  have hLv : valN LT = a.natAbs * c.natAbs := by rw [hLT, valN_cons, g3, n1a, n2a]; simp
  obtain ⟨sT, hsT⟩ : ∃ s, s = (decide (a < 0) != decide (c < 0)) := ⟨_, rfl⟩
  have hMr : roundN sT (valN LT) (b + d) = (M, N, true) := by rw [hLv, hsT]; exact hM
  have TM : Hid (∀ (A1 A2 : Option Addr) (k1 k2 : Nat) (w1 : World), RdD w1 A1 (digs a) → RdD w1 A2 (digs c) → Calls Tryd.prog 46 #[.agg #[.bool sa, .slice A1 na k1, .int .i64 b], .agg #[.bool sc, .slice A2 nc k2, .int .i64 d]] w1 fun e w' => ∃ g k, e = .returned (.agg #[.bool sT, .slice (some ⟨g, 0, none⟩) (na + nc + 1) k, .int .i64 (b + d)]) ∧ OwnD w' w1.heap.size (.slice (some ⟨g, 0, none⟩) (na + nc + 1) k) LT ∧ Below w1.heap.size w1 w') := fun A1 A2 k1 k2 w1 r1 r2 => by
    rw [hLT]
    exact times_any sa sc sT (by rw [hsT, hsa, hsc]) A1 A2 k1 k2 b d (digs a) (digs c) na nc w1 hna.symm hnc.symm n1b n2b (by omega) (by omega) (by omega) (by omega) (by omega) (by omega) r1 r2
  have NT : Hid (∀ (B g k : Nat) (w1 : World), OwnD w1 B (.slice (some ⟨g, 0, none⟩) (na + nc + 1) k) LT → Calls Tryd.prog 43 #[.agg #[.int .i64 M, .int .i64 N], .agg #[.bool sT, .slice (some ⟨g, 0, none⟩) (na + nc + 1) k, .int .i64 (b + d)]] w1 fun r w' => r = .returned (.bool true) ∧ Below w1.heap.size w1 w') := fun B g k w1 ho => near_true M N sT (b + d) LT (na + nc + 1) hLl hLd (by omega) (by omega) (by omega) hMr B g k w1 ho
  clear g1 g2 g3 hLT hLl hLd hLv hsT hMr
  have H0 := Lib.hid (Kp.first w a b c d ht)
  have hT1 : 1 < w.heap.size := var_lt gPow ht
  clear ha hc ba bb1 bb2 bc bd1 bd2 r10 r00 wa hA hA2 hM hM2 ht n1a n1b n1c n2a n2b n2c la lc hsa hsc hna hnc
  unfold numV
  go_enter Tryd.func10, Tryd.ntmps10
  go_wp2_with fail
  refine (HAW.out _ H0.out.2.2.2.2.2.1).mono ?_
  rintro e w1 ⟨rfl, hb1⟩
  have K := H0.out.later hb1
  clear hb1 HAW H0
  obtain ⟨p0, p1, p2, p3, _⟩ := id K
  go_wp2_with fail
  refine (Q1.out _).mono ?_
  rintro e w2 ⟨rfl, hb⟩
  have K2 := K.later hb
  clear K hb Q1 p0 p1 p2 p3
  have K := K2
  clear K2
  obtain ⟨p0, p1, p2, p3, _⟩ := id K
  go_wp2_with fail
  refine (Q2.out _).mono ?_
  rintro e w3 ⟨rfl, hb⟩
  have al := alloc_below w3 (.cells #[.int .i64 1, .int .i64 0] 24)
  have K2 := (K.later hb).later al
  have sw3 := C2.new w3 1 0
  clear K hb Q2 al p0 p1 p2 p3
  have K := K2
  clear K2
  obtain ⟨p0, p1, p2, p3, _⟩ := id K
  obtain ⟨m30, m31, _⟩ := id sw3
  go_wp2_with fail
  refine (A0.out _ K.2.2.2.2.2.1).mono ?_
  rintro e w4 ⟨rfl, hb⟩
  have al := alloc_below w4 (.cells #[.int .i64 a, .int .i64 b] 24)
  have K2 := (K.later hb).later al
  have x3 := (sw3.later hb).later al
  have x4 := C2.new w4 a b
  clear hb al K A0 p0 p1 p2 p3 sw3 m30 m31
  have K := K2
  have sw3 := x3
  have sw4 := x4
  clear K2 x3 x4
  obtain ⟨p0, p1, p2, p3, _⟩ := id K
  obtain ⟨m30, m31, _⟩ := id sw3
  obtain ⟨m40, m41, _⟩ := id sw4
  go_wp2_with fail
  refine (M0.out _ K.2.2.2.2.2.1).mono ?_
  rintro e w5 ⟨rfl, hb⟩
  have al := alloc_below w5 (.cells #[.int .i64 a, .int .i64 b] 24)
  have K2 := (K.later hb).later al
  have x3 := (sw3.later hb).later al
  have x4 := (sw4.later hb).later al
  have x5 := C2.new w5 a b
  clear hb al K M0 p0 p1 p2 p3 sw3 sw4 m30 m31 m40 m41
  have K := K2
  have sw3 := x3
  have sw4 := x4
  have sw5 := x5
  clear K2 x3 x4 x5
  obtain ⟨p0, p1, p2, p3, _⟩ := id K
  obtain ⟨m30, m31, _⟩ := id sw3
  obtain ⟨m40, m41, _⟩ := id sw4
  obtain ⟨m50, m51, _⟩ := id sw5
  go_wp2_with fail
  refine (D0.out _ K.2.2.2.2.2.1).mono ?_
  rintro e w6 ⟨rfl, hb⟩
  have al := alloc_below w6 (.cells #[.int .i64 a, .int .i64 b] 24)
  have K2 := (K.later hb).later al
  have x3 := (sw3.later hb).later al
  have x4 := (sw4.later hb).later al
  have x5 := (sw5.later hb).later al
  have x6 := C2.new w6 a b
  clear hb al K D0 p0 p1 p2 p3 sw3 sw4 sw5 m30 m31 m40 m41 m50 m51
  have K := K2
  have sw3 := x3
  have sw4 := x4
  have sw5 := x5
  have sw6 := x6
  clear K2 x3 x4 x5 x6
  obtain ⟨p0, p1, p2, p3, _⟩ := id K
  obtain ⟨m30, m31, _⟩ := id sw3
  obtain ⟨m40, m41, _⟩ := id sw4
  obtain ⟨m50, m51, _⟩ := id sw5
  obtain ⟨m60, m61, _⟩ := id sw6
  go_wp2_with fail
  refine (S0.out _ K.2.2.2.2.2.1).mono ?_
  rintro e w7 ⟨rfl, hb⟩
  have al := alloc_below w7 (.cells #[.int .i64 0, .int .i64 0] 24)
  have K2 := (K.later hb).later al
  have x3 := (sw3.later hb).later al
  have x4 := (sw4.later hb).later al
  have x5 := (sw5.later hb).later al
  have x6 := (sw6.later hb).later al
  have x7 := C2.new w7 0 0
  clear hb al K S0 p0 p1 p2 p3 sw3 sw4 sw5 sw6 m30 m31 m40 m41 m50 m51 m60 m61
  have K := K2
  have sw3 := x3
  have sw4 := x4
  have sw5 := x5
  have sw6 := x6
  have sw7 := x7
  clear K2 x3 x4 x5 x6 x7
  obtain ⟨p0, p1, p2, p3, _⟩ := id K
  obtain ⟨m30, m31, _⟩ := id sw3
  obtain ⟨m40, m41, _⟩ := id sw4
  obtain ⟨m50, m51, _⟩ := id sw5
  obtain ⟨m60, m61, _⟩ := id sw6
  obtain ⟨m70, m71, _⟩ := id sw7
  go_wp2_with fail
  refine (A1.out _ K.2.2.2.2.2.1).mono ?_
  rintro e w8 ⟨rfl, hb⟩
  have al := alloc_below w8 (.cells #[.int .i64 P, .int .i64 Q] 24)
  have K2 := (K.later hb).later al
  have x3 := (sw3.later hb).later al
  have x4 := (sw4.later hb).later al
  have x5 := (sw5.later hb).later al
  have x6 := (sw6.later hb).later al
  have x7 := (sw7.later hb).later al
  have x8 := C2.new w8 P Q
  have sl8 := Slot.new w8 P Q
  have hz8 : w.heap.size + 2 ≤ w8.heap.size := by have := (K.later hb).2.2.2.2.1; omega
  clear hb al K A1 p0 p1 p2 p3 sw3 sw4 sw5 sw6 sw7 m30 m31 m40 m41 m50 m51 m60 m61 m70 m71
  have K := K2
  have sw3 := x3
  have sw4 := x4
  have sw5 := x5
  have sw6 := x6
  have sw7 := x7
  have sw8 := x8
  clear K2 x3 x4 x5 x6 x7 x8
  obtain ⟨p0, p1, p2, p3, _⟩ := id K
  obtain ⟨m30, m31, _⟩ := id sw3
  obtain ⟨m40, m41, _⟩ := id sw4
  obtain ⟨m50, m51, _⟩ := id sw5
  obtain ⟨m60, m61, _⟩ := id sw6
  obtain ⟨m70, m71, _⟩ := id sw7
  obtain ⟨m80, m81, _⟩ := id sw8
  go_wp2_with fail
  refine (A2.out _ K.2.2.2.2.2.1).mono ?_
  rintro e w9 ⟨rfl, hb⟩
  have al := alloc_below w9 (.cells #[.int .i64 P, .int .i64 Q] 24)
  have K2 := (K.later hb).later al
  have x3 := (sw3.later hb).later al
  have x4 := (sw4.later hb).later al
  have x5 := (sw5.later hb).later al
  have x6 := (sw6.later hb).later al
  have x7 := (sw7.later hb).later al
  have x8 := (sw8.later hb).later al
  have x9 := C2.new w9 P Q
  have sl9 := (sl8.below hb sw8.2.2).below al (sw8.later hb).2.2
  have hz9 : w8.heap.size < w9.heap.size := (sw8.later hb).2.2
  clear sl8
  have sl8 := sl9
  clear sl9
  clear hb al K A2 p0 p1 p2 p3 sw3 sw4 sw5 sw6 sw7 sw8 m30 m31 m40 m41 m50 m51 m60 m61 m70 m71 m80 m81
  have K := K2
  have sw3 := x3
  have sw4 := x4
  have sw5 := x5
  have sw6 := x6
  have sw7 := x7
  have sw8 := x8
  have sw9 := x9
  clear K2 x3 x4 x5 x6 x7 x8 x9
  obtain ⟨p0, p1, p2, p3, _⟩ := id K
  obtain ⟨m30, m31, _⟩ := id sw3
  obtain ⟨m40, m41, _⟩ := id sw4
  obtain ⟨m50, m51, _⟩ := id sw5
  obtain ⟨m60, m61, _⟩ := id sw6
  obtain ⟨m70, m71, _⟩ := id sw7
  obtain ⟨m80, m81, _⟩ := id sw8
  obtain ⟨m90, m91, _⟩ := id sw9
  go_wp2_with fail
  have X0 : Kn w a b c d w8.heap.size w9.heap.size P Q P Q (w9.alloc (.cells #[.int .i64 P, .int .i64 Q] 24)) := by
    have z8 := alloc_below w9 (.cells #[.int .i64 P, .int .i64 Q] 24)
    refine ⟨⟨p0, p1, by have := K.2.2.2.2.1; omega⟩, ⟨p2, p3, by have := K.2.2.2.2.1; omega⟩, sw8, sw9, ?_, ?_, ?_, ?_, K.2.2.2.2.2.1, K.2.2.2.2.2.2⟩
    · exact sl8.f0
    · exact sl8.f1
    · exact (Slot.new w9 P Q).f0
    · exact (Slot.new w9 P Q).f1
  have hB8 : w.heap.size + 2 ≤ w8.heap.size := hz8
  have hB9 : w8.heap.size < w9.heap.size := hz9
  have X0h := Lib.hid X0
  clear K sw3 sw4 sw5 sw6 sw7 sw8 sw9 sl8 X0 m30 m31 m40 m41 m50 m51 m60 m61 m70 m71
  go_region_held3 (fun w' => (w'.cell? ⟨w.heap.size, 0, none⟩ = some (.int .i64 a) ∧ w'.cell? ⟨w.heap.size, 1, none⟩ = some (.int .i64 b) ∧ w.heap.size < w'.heap.size) ∧ (w'.cell? ⟨w.heap.size + 1, 0, none⟩ = some (.int .i64 c) ∧ w'.cell? ⟨w.heap.size + 1, 1, none⟩ = some (.int .i64 d) ∧ w.heap.size + 1 < w'.heap.size) ∧ (w'.cell? ⟨w8.heap.size, 0, none⟩ = some (.int .i64 P) ∧ w'.cell? ⟨w8.heap.size, 1, none⟩ = some (.int .i64 Q) ∧ w8.heap.size < w'.heap.size) ∧ (w'.cell? ⟨w9.heap.size, 0, none⟩ = some (.int .i64 P) ∧ w'.cell? ⟨w9.heap.size, 1, none⟩ = some (.int .i64 Q) ∧ w9.heap.size < w'.heap.size) ∧ w'.frozen? ⟨w8.heap.size, 0, none⟩ = false ∧ w'.frozen? ⟨w8.heap.size, 1, none⟩ = false ∧ w'.frozen? ⟨w9.heap.size, 0, none⟩ = false ∧ w'.frozen? ⟨w9.heap.size, 1, none⟩ = false ∧ Tab w' ∧ Below w.heap.size w w')
    ((show Kn w a b c d w8.heap.size w9.heap.size P Q P Q _; with_reducible first | exact X0h.out.later (below_dr _) | exact X5.out))
    (first
      | (go_at_call_of 45 (Value.agg #[.int .i64 a, .int .i64 b]); refine (OF1.out _).mono ?_; rintro e w10 ⟨A10, k10, rfl, hV10, hb10⟩; have X5 := Lib.hid (Kn.later (show Kn w a b c d w8.heap.size w9.heap.size P Q P Q _ by assumption) hb10))
      | (go_at_call_of 45 (Value.agg #[.int .i64 c, .int .i64 d]); refine (OF2.out _).mono ?_; rintro e w11 ⟨A11, k11, rfl, hV11, hb11⟩; have X5 := Lib.hid (Kn.later (show Kn w a b c d w8.heap.size w9.heap.size P Q P Q _ by assumption) hb11))
      | (go_at_call 44; refine (PL.out _ _ _ (hV10.below hb11) hV11).mono ?_; rintro e w12 ⟨g12, k12, rfl, ho12, hb12⟩; have X5 := Lib.hid (Kn.later (show Kn w a b c d w8.heap.size w9.heap.size P Q P Q _ by assumption) hb12))
      | (go_at_call 43; refine (NS.out _ _ _ _ ho12).mono ?_; rintro e w13 ⟨rfl, hb13⟩; have X5 := Lib.hid (Kn.later (show Kn w a b c d w8.heap.size w9.heap.size P Q P Q _ by assumption) hb13)))
  have X6 : Kn w a b c d w8.heap.size w9.heap.size P Q P Q w13 := X5.out
  clear hb10 hb11 hb12 hb13 hV10 hV11 ho12 X5 NS PL
  clear X0h p0 p1 p2 p3 m80 m81 m90 m91
  obtain ⟨⟨p0, p1, _⟩, ⟨p2, p3, _⟩, ⟨p4, p5, _⟩, ⟨p6, p7, _⟩, p8, p9, pa, pb, _, _⟩ := id X6
  go_wp2_with fail
  refine (M1.out _ X6.2.2.2.2.2.2.2.2.1).mono ?_
  rintro e w14 ⟨rfl, hb⟩
  have X7 := X6.later hb
  have X7p := X7.put1 hT1 hB8 (by omega) M N
  clear hb X6 M1 p0 p1 p2 p3 p4 p5 p6 p7 p8 p9 pa pb
  obtain ⟨⟨p0, p1, _⟩, ⟨p2, p3, _⟩, ⟨p4, p5, _⟩, ⟨p6, p7, _⟩, p8, p9, pa, pb, _, _⟩ := id X7
  obtain ⟨⟨q0, q1, _⟩, ⟨q2, q3, _⟩, ⟨q4, q5, _⟩, ⟨q6, q7, _⟩, q8, q9, qa, qb, _, _⟩ := id X7p
  go_wp2_with fail
  refine (M2.out _ X7p.2.2.2.2.2.2.2.2.1).mono ?_
  rintro e w15 ⟨rfl, hb⟩
  have X8 := X7p.later hb
  have X8p := X8.put2 hT1 (by omega) (by omega) M N
  clear hb X7 X7p M2 p0 p1 p2 p3 p4 p5 p6 p7 p8 p9 pa pb q0 q1 q2 q3 q4 q5 q6 q7 q8 q9 qa qb
  obtain ⟨⟨p0, p1, _⟩, ⟨p2, p3, _⟩, ⟨p4, p5, _⟩, ⟨p6, p7, _⟩, p8, p9, pa, pb, _, _⟩ := id X8
  obtain ⟨⟨q0, q1, _⟩, ⟨q2, q3, _⟩, ⟨q4, q5, _⟩, ⟨q6, q7, _⟩, q8, q9, qa, qb, _, _⟩ := id X8p
  have X8h := Lib.hid X8p
  clear X8 X8p
  go_wp2_with fail
  go_region_held3 (fun w' => (w'.cell? ⟨w.heap.size, 0, none⟩ = some (.int .i64 a) ∧ w'.cell? ⟨w.heap.size, 1, none⟩ = some (.int .i64 b) ∧ w.heap.size < w'.heap.size) ∧ (w'.cell? ⟨w.heap.size + 1, 0, none⟩ = some (.int .i64 c) ∧ w'.cell? ⟨w.heap.size + 1, 1, none⟩ = some (.int .i64 d) ∧ w.heap.size + 1 < w'.heap.size) ∧ (w'.cell? ⟨w8.heap.size, 0, none⟩ = some (.int .i64 M) ∧ w'.cell? ⟨w8.heap.size, 1, none⟩ = some (.int .i64 N) ∧ w8.heap.size < w'.heap.size) ∧ (w'.cell? ⟨w9.heap.size, 0, none⟩ = some (.int .i64 M) ∧ w'.cell? ⟨w9.heap.size, 1, none⟩ = some (.int .i64 N) ∧ w9.heap.size < w'.heap.size) ∧ w'.frozen? ⟨w8.heap.size, 0, none⟩ = false ∧ w'.frozen? ⟨w8.heap.size, 1, none⟩ = false ∧ w'.frozen? ⟨w9.heap.size, 0, none⟩ = false ∧ w'.frozen? ⟨w9.heap.size, 1, none⟩ = false ∧ Tab w' ∧ Below w.heap.size w w')
    ((show Kn w a b c d w8.heap.size w9.heap.size M N M N _; with_reducible first | exact X8h.out.later (below_dr _) | exact X5.out))
    (first
      | (go_at_call_of 45 (Value.agg #[.int .i64 a, .int .i64 b]); refine (OF1.out _).mono ?_; rintro e w10 ⟨A10, k10, rfl, hV10, hb10⟩; have hR10 := vd_rd hV10; have X5 := Lib.hid (Kn.later (show Kn w a b c d w8.heap.size w9.heap.size M N M N _ by assumption) hb10))
      | (go_at_call_of 45 (Value.agg #[.int .i64 c, .int .i64 d]); refine (OF2.out _).mono ?_; rintro e w11 ⟨A11, k11, rfl, hV11, hb11⟩; have hR11 := vd_rd hV11; have X5 := Lib.hid (Kn.later (show Kn w a b c d w8.heap.size w9.heap.size M N M N _ by assumption) hb11))
      | (go_at_call 46; refine (TM.out _ _ _ _ _ (hR10.below hb11) hR11).mono ?_; rintro e w12 ⟨g12, k12, rfl, ho12, hb12⟩; have X5 := Lib.hid (Kn.later (show Kn w a b c d w8.heap.size w9.heap.size M N M N _ by assumption) hb12))
      | (go_at_call 43; refine (NT.out _ _ _ _ ho12).mono ?_; rintro e w13 ⟨rfl, hb13⟩; have X5 := Lib.hid (Kn.later (show Kn w a b c d w8.heap.size w9.heap.size M N M N _ by assumption) hb13)))
  have X6 : Kn w a b c d w8.heap.size w9.heap.size M N M N w13 := X5.out
  have hfin : Below w.heap.size w _ := X6.2.2.2.2.2.2.2.2.2
  clear X6 X8h p0 p1 p2 p3 p4 p5 p6 p7 p8 p9 pa pb q0 q1 q2 q3 q4 q5 q6 q7 q8 q9 qa qb
  go_wp2
  go_ret
  exact ⟨rfl, hfin⟩
set_option maxRecDepth 1000000 in
set_option maxHeartbeats 16000000 in
theorem near_law_tf (a b c d : Int) (ha : rightB a b = true) (hc : rightB c d = true) (P Q M N : Int) (hA : addN a b c d = (P, Q, true)) (hM : mulN a b c d = (M, N, false)) (w : World) (ht : Tab w) :
    Calls Tryd.prog 10 #[numV a b, numV c d] w fun r w' => r = .returned (.bool true) ∧ Below w.heap.size w w' := by
  obtain ⟨ba, bb1, bb2⟩ := right_bounds ha
  obtain ⟨bc, bd1, bd2⟩ := right_bounds hc
  have HAW : Hid (∀ w1, Tab w1 → Calls Tryd.prog 14 #[] w1 fun r w' => r = .returned (.bool true) ∧ Below w1.heap.size w1 w') := fun w1 h => awake_any w1 h
  have Q1 : Hid (∀ w1, Calls Tryd.prog 18 #[.agg #[.int .i64 a, .int .i64 b]] w1 fun r w' => r = .returned (.bool true) ∧ Below w1.heap.size w1 w') := by
    intro w1; have := rright_any a b w1; rw [ha] at this; exact this
  have Q2 : Hid (∀ w1, Calls Tryd.prog 18 #[.agg #[.int .i64 c, .int .i64 d]] w1 fun r w' => r = .returned (.bool true) ∧ Below w1.heap.size w1 w') := by
    intro w1; have := rright_any c d w1; rw [hc] at this; exact this
  have r10 : rightB 1 0 = true := right_unit1 1 0 (.inl rfl) (by omega) (by omega)
  have r00 : rightB 0 0 = true := by decide
  have wa : Wf a b := wf_right1 ha
  have hA2 : addN c d a b = (P, Q, true) := by rw [add_comm' c d a b]; exact hA
  have hM2 : mulN c d a b = (M, N, false) := by rw [mul_comm' c d a b]; exact hM
  have A0 : Hid (∀ w1, Tab w1 → Calls Tryd.prog 19 #[.agg #[.int .i64 a, .int .i64 b], .agg #[.int .i64 0, .int .i64 0]] w1 fun e w' => e = .returned (.tuple #[.agg #[.int .i64 a, .int .i64 b], .bool true]) ∧ Below w1.heap.size w1 w') := fun w1 h => by
    have := add_any a b 0 0 ha r00 w1 h
    rw [add_zero' ha] at this; exact this
  have M0 : Hid (∀ w1, Tab w1 → Calls Tryd.prog 27 #[.agg #[.int .i64 a, .int .i64 b], .agg #[.int .i64 1, .int .i64 0]] w1 fun e w' => e = .returned (.tuple #[.agg #[.int .i64 a, .int .i64 b], .bool true]) ∧ Below w1.heap.size w1 w') := fun w1 h => by
    have := mul_any a b 1 0 ha r10 w1 h
    rw [mul_one' ha] at this; exact this
  have D0 : Hid (∀ w1, Tab w1 → Calls Tryd.prog 29 #[.agg #[.int .i64 a, .int .i64 b], .agg #[.int .i64 1, .int .i64 0]] w1 fun e w' => e = .returned (.tuple #[.agg #[.int .i64 a, .int .i64 b], .bool true]) ∧ Below w1.heap.size w1 w') := fun w1 h => by
    have := div_any a b 1 0 ha r10 w1 h
    rw [div_one' ha] at this; exact this
  have S0 : Hid (∀ w1, Tab w1 → Calls Tryd.prog 21 #[.agg #[.int .i64 a, .int .i64 b], .agg #[.int .i64 a, .int .i64 b]] w1 fun e w' => e = .returned (.tuple #[.agg #[.int .i64 0, .int .i64 0], .bool true]) ∧ Below w1.heap.size w1 w') := fun w1 h => by
    have := subX_any a b a b wa wa w1 h
    rw [sub_self' a b ha] at this; exact this
  have A1 : Hid (∀ w1, Tab w1 → Calls Tryd.prog 19 #[.agg #[.int .i64 a, .int .i64 b], .agg #[.int .i64 c, .int .i64 d]] w1 fun e w' => e = .returned (.tuple #[.agg #[.int .i64 P, .int .i64 Q], .bool true]) ∧ Below w1.heap.size w1 w') := fun w1 h => by
    have := add_any a b c d ha hc w1 h
    rw [hA] at this; exact this
  have A2 : Hid (∀ w1, Tab w1 → Calls Tryd.prog 19 #[.agg #[.int .i64 c, .int .i64 d], .agg #[.int .i64 a, .int .i64 b]] w1 fun e w' => e = .returned (.tuple #[.agg #[.int .i64 P, .int .i64 Q], .bool true]) ∧ Below w1.heap.size w1 w') := fun w1 h => by
    have := add_any c d a b hc ha w1 h
    rw [hA2] at this; exact this
  have M1 : Hid (∀ w1, Tab w1 → Calls Tryd.prog 27 #[.agg #[.int .i64 a, .int .i64 b], .agg #[.int .i64 c, .int .i64 d]] w1 fun e w' => e = .returned (.tuple #[.agg #[.int .i64 M, .int .i64 N], .bool false]) ∧ Below w1.heap.size w1 w') := fun w1 h => by
    have := mul_any a b c d ha hc w1 h
    rw [hM] at this; exact this
  have M2 : Hid (∀ w1, Tab w1 → Calls Tryd.prog 27 #[.agg #[.int .i64 c, .int .i64 d], .agg #[.int .i64 a, .int .i64 b]] w1 fun e w' => e = .returned (.tuple #[.agg #[.int .i64 M, .int .i64 N], .bool false]) ∧ Below w1.heap.size w1 w') := fun w1 h => by
    have := mul_any c d a b hc ha w1 h
    rw [hM2] at this; exact this
  obtain ⟨n1a, n1b, n1c⟩ := digs_val a
  obtain ⟨n2a, n2b, n2c⟩ := digs_val c
  have la : (digs a).length ≤ 15 := by
    rw [digs_len]; exact nd_le 15 _ (by have e15 : (10 : Nat) ^ 15 = 1000000000000000 := by decide
                                        omega)
  have lc : (digs c).length ≤ 15 := by
    rw [digs_len]; exact nd_le 15 _ (by have e15 : (10 : Nat) ^ 15 = 1000000000000000 := by decide
                                        omega)
  obtain ⟨sa, hsa⟩ : ∃ s, s = decide (a < 0) := ⟨_, rfl⟩
  obtain ⟨sc, hsc⟩ : ∃ s, s = decide (c < 0) := ⟨_, rfl⟩
  obtain ⟨na, hna⟩ : ∃ n, n = (digs a).length := ⟨_, rfl⟩
  obtain ⟨nc, hnc⟩ : ∃ n, n = (digs c).length := ⟨_, rfl⟩
  have OF1 : Hid (∀ w1, Calls Tryd.prog 45 #[.agg #[.int .i64 a, .int .i64 b]] w1 fun r w' => ∃ A k, r = .returned (.agg #[.bool sa, .slice A na k, .int .i64 b]) ∧ Vd w' (.slice A na k) (digs a) ∧ Below w1.heap.size w1 w') := by
    intro w1
    refine (of_any a b (by omega) (by omega) w1).mono ?_
    rintro e w' ⟨v, rfl, hv, hb⟩
    obtain ⟨A, k, rfl, hr⟩ := hv.open
    exact ⟨A, k, by rw [hsa, hna], by rw [hna]; exact hv, hb⟩
  have OF2 : Hid (∀ w1, Calls Tryd.prog 45 #[.agg #[.int .i64 c, .int .i64 d]] w1 fun r w' => ∃ A k, r = .returned (.agg #[.bool sc, .slice A nc k, .int .i64 d]) ∧ Vd w' (.slice A nc k) (digs c) ∧ Below w1.heap.size w1 w') := by
    intro w1
    refine (of_any c d (by omega) (by omega) w1).mono ?_
    rintro e w' ⟨v, rfl, hv, hb⟩
    obtain ⟨A, k, rfl, hr⟩ := hv.open
    exact ⟨A, k, by rw [hsc, hnc], by rw [hnc]; exact hv, hb⟩
  obtain ⟨LS, ls1, ls2, ls3, PL0⟩ := plus_len (decide (a < 0)) (decide (c < 0)) b d (digs a) (digs c) (by omega) (by omega) (by omega) (by omega) (by omega) (by omega) n1b n2b (min b d) rfl _ _ rfl rfl
  have hAr := hA
  rw [addN_plus a b c d _ _ rfl rfl] at hAr
  rw [n1a, n2a] at ls3 PL0
  rw [← ls3] at hAr
  obtain ⟨sS, hsS⟩ : ∃ s, s = plusS (decide (a < 0)) (decide (c < 0)) (a.natAbs * 10 ^ (b - min b d).toNat) (c.natAbs * 10 ^ (d - min b d).toNat) := ⟨_, rfl⟩
  rw [← hsS] at hAr PL0
  rw [← hsa, ← hsc] at PL0
  obtain ⟨eS, heS⟩ : ∃ e, e = min b d := ⟨_, rfl⟩
  rw [← heS] at hAr PL0
  obtain ⟨nS, hnS⟩ : ∃ n, n = LS.length := ⟨_, rfl⟩
  have hlS : nS ≤ 100 := by rw [hnS, ls1]; omega
  rw [← hnS] at PL0
  have PL := Lib.hid PL0
  have NS : Hid (∀ (B g k : Nat) (w1 : World), OwnD w1 B (.slice (some ⟨g, 0, none⟩) nS k) LS → Calls Tryd.prog 43 #[.agg #[.int .i64 P, .int .i64 Q], .agg #[.bool sS, .slice (some ⟨g, 0, none⟩) nS k, .int .i64 eS]] w1 fun r w' => r = .returned (.bool true) ∧ Below w1.heap.size w1 w') := fun B g k w1 ho => near_true P Q sS eS LS nS hnS.symm ls2 hlS (by omega) (by omega) hAr B g k w1 ho
  clear PL0 ls1 ls2 ls3 hAr hsS heS hnS
  have H0 := Lib.hid (Kp.first w a b c d ht)
  have hT1 : 1 < w.heap.size := var_lt gPow ht
  clear ha hc ba bb1 bb2 bc bd1 bd2 r10 r00 wa hA hA2 hM hM2 ht n1a n1b n1c n2a n2b n2c la lc hsa hsc hna hnc
  unfold numV
  go_enter Tryd.func10, Tryd.ntmps10
  go_wp2_with fail
  refine (HAW.out _ H0.out.2.2.2.2.2.1).mono ?_
  rintro e w1 ⟨rfl, hb1⟩
  have K := H0.out.later hb1
  clear hb1 HAW H0
  obtain ⟨p0, p1, p2, p3, _⟩ := id K
  go_wp2_with fail
  refine (Q1.out _).mono ?_
  rintro e w2 ⟨rfl, hb⟩
  have K2 := K.later hb
  clear K hb Q1 p0 p1 p2 p3
  have K := K2
  clear K2
  obtain ⟨p0, p1, p2, p3, _⟩ := id K
  go_wp2_with fail
  refine (Q2.out _).mono ?_
  rintro e w3 ⟨rfl, hb⟩
  have al := alloc_below w3 (.cells #[.int .i64 1, .int .i64 0] 24)
  have K2 := (K.later hb).later al
  have sw3 := C2.new w3 1 0
  clear K hb Q2 al p0 p1 p2 p3
  have K := K2
  clear K2
  obtain ⟨p0, p1, p2, p3, _⟩ := id K
  obtain ⟨m30, m31, _⟩ := id sw3
  go_wp2_with fail
  refine (A0.out _ K.2.2.2.2.2.1).mono ?_
  rintro e w4 ⟨rfl, hb⟩
  have al := alloc_below w4 (.cells #[.int .i64 a, .int .i64 b] 24)
  have K2 := (K.later hb).later al
  have x3 := (sw3.later hb).later al
  have x4 := C2.new w4 a b
  clear hb al K A0 p0 p1 p2 p3 sw3 m30 m31
  have K := K2
  have sw3 := x3
  have sw4 := x4
  clear K2 x3 x4
  obtain ⟨p0, p1, p2, p3, _⟩ := id K
  obtain ⟨m30, m31, _⟩ := id sw3
  obtain ⟨m40, m41, _⟩ := id sw4
  go_wp2_with fail
  refine (M0.out _ K.2.2.2.2.2.1).mono ?_
  rintro e w5 ⟨rfl, hb⟩
  have al := alloc_below w5 (.cells #[.int .i64 a, .int .i64 b] 24)
  have K2 := (K.later hb).later al
  have x3 := (sw3.later hb).later al
  have x4 := (sw4.later hb).later al
  have x5 := C2.new w5 a b
  clear hb al K M0 p0 p1 p2 p3 sw3 sw4 m30 m31 m40 m41
  have K := K2
  have sw3 := x3
  have sw4 := x4
  have sw5 := x5
  clear K2 x3 x4 x5
  obtain ⟨p0, p1, p2, p3, _⟩ := id K
  obtain ⟨m30, m31, _⟩ := id sw3
  obtain ⟨m40, m41, _⟩ := id sw4
  obtain ⟨m50, m51, _⟩ := id sw5
  go_wp2_with fail
  refine (D0.out _ K.2.2.2.2.2.1).mono ?_
  rintro e w6 ⟨rfl, hb⟩
  have al := alloc_below w6 (.cells #[.int .i64 a, .int .i64 b] 24)
  have K2 := (K.later hb).later al
  have x3 := (sw3.later hb).later al
  have x4 := (sw4.later hb).later al
  have x5 := (sw5.later hb).later al
  have x6 := C2.new w6 a b
  clear hb al K D0 p0 p1 p2 p3 sw3 sw4 sw5 m30 m31 m40 m41 m50 m51
  have K := K2
  have sw3 := x3
  have sw4 := x4
  have sw5 := x5
  have sw6 := x6
  clear K2 x3 x4 x5 x6
  obtain ⟨p0, p1, p2, p3, _⟩ := id K
  obtain ⟨m30, m31, _⟩ := id sw3
  obtain ⟨m40, m41, _⟩ := id sw4
  obtain ⟨m50, m51, _⟩ := id sw5
  obtain ⟨m60, m61, _⟩ := id sw6
  go_wp2_with fail
  refine (S0.out _ K.2.2.2.2.2.1).mono ?_
  rintro e w7 ⟨rfl, hb⟩
  have al := alloc_below w7 (.cells #[.int .i64 0, .int .i64 0] 24)
  have K2 := (K.later hb).later al
  have x3 := (sw3.later hb).later al
  have x4 := (sw4.later hb).later al
  have x5 := (sw5.later hb).later al
  have x6 := (sw6.later hb).later al
  have x7 := C2.new w7 0 0
  clear hb al K S0 p0 p1 p2 p3 sw3 sw4 sw5 sw6 m30 m31 m40 m41 m50 m51 m60 m61
  have K := K2
  have sw3 := x3
  have sw4 := x4
  have sw5 := x5
  have sw6 := x6
  have sw7 := x7
  clear K2 x3 x4 x5 x6 x7
  obtain ⟨p0, p1, p2, p3, _⟩ := id K
  obtain ⟨m30, m31, _⟩ := id sw3
  obtain ⟨m40, m41, _⟩ := id sw4
  obtain ⟨m50, m51, _⟩ := id sw5
  obtain ⟨m60, m61, _⟩ := id sw6
  obtain ⟨m70, m71, _⟩ := id sw7
  go_wp2_with fail
  refine (A1.out _ K.2.2.2.2.2.1).mono ?_
  rintro e w8 ⟨rfl, hb⟩
  have al := alloc_below w8 (.cells #[.int .i64 P, .int .i64 Q] 24)
  have K2 := (K.later hb).later al
  have x3 := (sw3.later hb).later al
  have x4 := (sw4.later hb).later al
  have x5 := (sw5.later hb).later al
  have x6 := (sw6.later hb).later al
  have x7 := (sw7.later hb).later al
  have x8 := C2.new w8 P Q
  have sl8 := Slot.new w8 P Q
  have hz8 : w.heap.size + 2 ≤ w8.heap.size := by have := (K.later hb).2.2.2.2.1; omega
  clear hb al K A1 p0 p1 p2 p3 sw3 sw4 sw5 sw6 sw7 m30 m31 m40 m41 m50 m51 m60 m61 m70 m71
  have K := K2
  have sw3 := x3
  have sw4 := x4
  have sw5 := x5
  have sw6 := x6
  have sw7 := x7
  have sw8 := x8
  clear K2 x3 x4 x5 x6 x7 x8
  obtain ⟨p0, p1, p2, p3, _⟩ := id K
  obtain ⟨m30, m31, _⟩ := id sw3
  obtain ⟨m40, m41, _⟩ := id sw4
  obtain ⟨m50, m51, _⟩ := id sw5
  obtain ⟨m60, m61, _⟩ := id sw6
  obtain ⟨m70, m71, _⟩ := id sw7
  obtain ⟨m80, m81, _⟩ := id sw8
  go_wp2_with fail
  refine (A2.out _ K.2.2.2.2.2.1).mono ?_
  rintro e w9 ⟨rfl, hb⟩
  have al := alloc_below w9 (.cells #[.int .i64 P, .int .i64 Q] 24)
  have K2 := (K.later hb).later al
  have x3 := (sw3.later hb).later al
  have x4 := (sw4.later hb).later al
  have x5 := (sw5.later hb).later al
  have x6 := (sw6.later hb).later al
  have x7 := (sw7.later hb).later al
  have x8 := (sw8.later hb).later al
  have x9 := C2.new w9 P Q
  have sl9 := (sl8.below hb sw8.2.2).below al (sw8.later hb).2.2
  have hz9 : w8.heap.size < w9.heap.size := (sw8.later hb).2.2
  clear sl8
  have sl8 := sl9
  clear sl9
  clear hb al K A2 p0 p1 p2 p3 sw3 sw4 sw5 sw6 sw7 sw8 m30 m31 m40 m41 m50 m51 m60 m61 m70 m71 m80 m81
  have K := K2
  have sw3 := x3
  have sw4 := x4
  have sw5 := x5
  have sw6 := x6
  have sw7 := x7
  have sw8 := x8
  have sw9 := x9
  clear K2 x3 x4 x5 x6 x7 x8 x9
  obtain ⟨p0, p1, p2, p3, _⟩ := id K
  obtain ⟨m30, m31, _⟩ := id sw3
  obtain ⟨m40, m41, _⟩ := id sw4
  obtain ⟨m50, m51, _⟩ := id sw5
  obtain ⟨m60, m61, _⟩ := id sw6
  obtain ⟨m70, m71, _⟩ := id sw7
  obtain ⟨m80, m81, _⟩ := id sw8
  obtain ⟨m90, m91, _⟩ := id sw9
  go_wp2_with fail
  have X0 : Kn w a b c d w8.heap.size w9.heap.size P Q P Q (w9.alloc (.cells #[.int .i64 P, .int .i64 Q] 24)) := by
    have z8 := alloc_below w9 (.cells #[.int .i64 P, .int .i64 Q] 24)
    refine ⟨⟨p0, p1, by have := K.2.2.2.2.1; omega⟩, ⟨p2, p3, by have := K.2.2.2.2.1; omega⟩, sw8, sw9, ?_, ?_, ?_, ?_, K.2.2.2.2.2.1, K.2.2.2.2.2.2⟩
    · exact sl8.f0
    · exact sl8.f1
    · exact (Slot.new w9 P Q).f0
    · exact (Slot.new w9 P Q).f1
  have hB8 : w.heap.size + 2 ≤ w8.heap.size := hz8
  have hB9 : w8.heap.size < w9.heap.size := hz9
  have X0h := Lib.hid X0
  clear K sw3 sw4 sw5 sw6 sw7 sw8 sw9 sl8 X0 m30 m31 m40 m41 m50 m51 m60 m61 m70 m71
  go_region_held3 (fun w' => (w'.cell? ⟨w.heap.size, 0, none⟩ = some (.int .i64 a) ∧ w'.cell? ⟨w.heap.size, 1, none⟩ = some (.int .i64 b) ∧ w.heap.size < w'.heap.size) ∧ (w'.cell? ⟨w.heap.size + 1, 0, none⟩ = some (.int .i64 c) ∧ w'.cell? ⟨w.heap.size + 1, 1, none⟩ = some (.int .i64 d) ∧ w.heap.size + 1 < w'.heap.size) ∧ (w'.cell? ⟨w8.heap.size, 0, none⟩ = some (.int .i64 P) ∧ w'.cell? ⟨w8.heap.size, 1, none⟩ = some (.int .i64 Q) ∧ w8.heap.size < w'.heap.size) ∧ (w'.cell? ⟨w9.heap.size, 0, none⟩ = some (.int .i64 P) ∧ w'.cell? ⟨w9.heap.size, 1, none⟩ = some (.int .i64 Q) ∧ w9.heap.size < w'.heap.size) ∧ w'.frozen? ⟨w8.heap.size, 0, none⟩ = false ∧ w'.frozen? ⟨w8.heap.size, 1, none⟩ = false ∧ w'.frozen? ⟨w9.heap.size, 0, none⟩ = false ∧ w'.frozen? ⟨w9.heap.size, 1, none⟩ = false ∧ Tab w' ∧ Below w.heap.size w w')
    ((show Kn w a b c d w8.heap.size w9.heap.size P Q P Q _; with_reducible first | exact X0h.out.later (below_dr _) | exact X5.out))
    (first
      | (go_at_call_of 45 (Value.agg #[.int .i64 a, .int .i64 b]); refine (OF1.out _).mono ?_; rintro e w10 ⟨A10, k10, rfl, hV10, hb10⟩; have X5 := Lib.hid (Kn.later (show Kn w a b c d w8.heap.size w9.heap.size P Q P Q _ by assumption) hb10))
      | (go_at_call_of 45 (Value.agg #[.int .i64 c, .int .i64 d]); refine (OF2.out _).mono ?_; rintro e w11 ⟨A11, k11, rfl, hV11, hb11⟩; have X5 := Lib.hid (Kn.later (show Kn w a b c d w8.heap.size w9.heap.size P Q P Q _ by assumption) hb11))
      | (go_at_call 44; refine (PL.out _ _ _ (hV10.below hb11) hV11).mono ?_; rintro e w12 ⟨g12, k12, rfl, ho12, hb12⟩; have X5 := Lib.hid (Kn.later (show Kn w a b c d w8.heap.size w9.heap.size P Q P Q _ by assumption) hb12))
      | (go_at_call 43; refine (NS.out _ _ _ _ ho12).mono ?_; rintro e w13 ⟨rfl, hb13⟩; have X5 := Lib.hid (Kn.later (show Kn w a b c d w8.heap.size w9.heap.size P Q P Q _ by assumption) hb13)))
  have X6 : Kn w a b c d w8.heap.size w9.heap.size P Q P Q w13 := X5.out
  clear hb10 hb11 hb12 hb13 hV10 hV11 ho12 X5 NS PL
  clear X0h p0 p1 p2 p3 m80 m81 m90 m91
  obtain ⟨⟨p0, p1, _⟩, ⟨p2, p3, _⟩, ⟨p4, p5, _⟩, ⟨p6, p7, _⟩, p8, p9, pa, pb, _, _⟩ := id X6
  go_wp2_with fail
  refine (M1.out _ X6.2.2.2.2.2.2.2.2.1).mono ?_
  rintro e w14 ⟨rfl, hb⟩
  have X7 := X6.later hb
  have X7p := X7.put1 hT1 hB8 (by omega) M N
  clear hb X6 M1 p0 p1 p2 p3 p4 p5 p6 p7 p8 p9 pa pb
  obtain ⟨⟨p0, p1, _⟩, ⟨p2, p3, _⟩, ⟨p4, p5, _⟩, ⟨p6, p7, _⟩, p8, p9, pa, pb, _, _⟩ := id X7
  obtain ⟨⟨q0, q1, _⟩, ⟨q2, q3, _⟩, ⟨q4, q5, _⟩, ⟨q6, q7, _⟩, q8, q9, qa, qb, _, _⟩ := id X7p
  go_wp2_with fail
  refine (M2.out _ X7p.2.2.2.2.2.2.2.2.1).mono ?_
  rintro e w15 ⟨rfl, hb⟩
  have X8 := X7p.later hb
  have X8p := X8.put2 hT1 (by omega) (by omega) M N
  clear hb X7 X7p M2 p0 p1 p2 p3 p4 p5 p6 p7 p8 p9 pa pb q0 q1 q2 q3 q4 q5 q6 q7 q8 q9 qa qb
  obtain ⟨⟨p0, p1, _⟩, ⟨p2, p3, _⟩, ⟨p4, p5, _⟩, ⟨p6, p7, _⟩, p8, p9, pa, pb, _, _⟩ := id X8
  obtain ⟨⟨q0, q1, _⟩, ⟨q2, q3, _⟩, ⟨q4, q5, _⟩, ⟨q6, q7, _⟩, q8, q9, qa, qb, _, _⟩ := id X8p
  have X8h := Lib.hid X8p
  clear X8 X8p
  go_wp2_with fail
  go_quiet (fail)
  have X6 := X8h.out.later (below_drewN (Below.refl _ _) nq)
  have hfin : Below w.heap.size w _ := X6.2.2.2.2.2.2.2.2.2
  clear X6 X8h p0 p1 p2 p3 p4 p5 p6 p7 p8 p9 pa pb q0 q1 q2 q3 q4 q5 q6 q7 q8 q9 qa qb
  go_wp2
  go_ret
  exact ⟨rfl, hfin⟩
set_option maxRecDepth 1000000 in
set_option maxHeartbeats 16000000 in
theorem near_law_ft (a b c d : Int) (ha : rightB a b = true) (hc : rightB c d = true) (P Q M N : Int) (hA : addN a b c d = (P, Q, false)) (hM : mulN a b c d = (M, N, true)) (w : World) (ht : Tab w) :
    Calls Tryd.prog 10 #[numV a b, numV c d] w fun r w' => r = .returned (.bool true) ∧ Below w.heap.size w w' := by
  obtain ⟨ba, bb1, bb2⟩ := right_bounds ha
  obtain ⟨bc, bd1, bd2⟩ := right_bounds hc
  have HAW : Hid (∀ w1, Tab w1 → Calls Tryd.prog 14 #[] w1 fun r w' => r = .returned (.bool true) ∧ Below w1.heap.size w1 w') := fun w1 h => awake_any w1 h
  have Q1 : Hid (∀ w1, Calls Tryd.prog 18 #[.agg #[.int .i64 a, .int .i64 b]] w1 fun r w' => r = .returned (.bool true) ∧ Below w1.heap.size w1 w') := by
    intro w1; have := rright_any a b w1; rw [ha] at this; exact this
  have Q2 : Hid (∀ w1, Calls Tryd.prog 18 #[.agg #[.int .i64 c, .int .i64 d]] w1 fun r w' => r = .returned (.bool true) ∧ Below w1.heap.size w1 w') := by
    intro w1; have := rright_any c d w1; rw [hc] at this; exact this
  have r10 : rightB 1 0 = true := right_unit1 1 0 (.inl rfl) (by omega) (by omega)
  have r00 : rightB 0 0 = true := by decide
  have wa : Wf a b := wf_right1 ha
  have hA2 : addN c d a b = (P, Q, false) := by rw [add_comm' c d a b]; exact hA
  have hM2 : mulN c d a b = (M, N, true) := by rw [mul_comm' c d a b]; exact hM
  have A0 : Hid (∀ w1, Tab w1 → Calls Tryd.prog 19 #[.agg #[.int .i64 a, .int .i64 b], .agg #[.int .i64 0, .int .i64 0]] w1 fun e w' => e = .returned (.tuple #[.agg #[.int .i64 a, .int .i64 b], .bool true]) ∧ Below w1.heap.size w1 w') := fun w1 h => by
    have := add_any a b 0 0 ha r00 w1 h
    rw [add_zero' ha] at this; exact this
  have M0 : Hid (∀ w1, Tab w1 → Calls Tryd.prog 27 #[.agg #[.int .i64 a, .int .i64 b], .agg #[.int .i64 1, .int .i64 0]] w1 fun e w' => e = .returned (.tuple #[.agg #[.int .i64 a, .int .i64 b], .bool true]) ∧ Below w1.heap.size w1 w') := fun w1 h => by
    have := mul_any a b 1 0 ha r10 w1 h
    rw [mul_one' ha] at this; exact this
  have D0 : Hid (∀ w1, Tab w1 → Calls Tryd.prog 29 #[.agg #[.int .i64 a, .int .i64 b], .agg #[.int .i64 1, .int .i64 0]] w1 fun e w' => e = .returned (.tuple #[.agg #[.int .i64 a, .int .i64 b], .bool true]) ∧ Below w1.heap.size w1 w') := fun w1 h => by
    have := div_any a b 1 0 ha r10 w1 h
    rw [div_one' ha] at this; exact this
  have S0 : Hid (∀ w1, Tab w1 → Calls Tryd.prog 21 #[.agg #[.int .i64 a, .int .i64 b], .agg #[.int .i64 a, .int .i64 b]] w1 fun e w' => e = .returned (.tuple #[.agg #[.int .i64 0, .int .i64 0], .bool true]) ∧ Below w1.heap.size w1 w') := fun w1 h => by
    have := subX_any a b a b wa wa w1 h
    rw [sub_self' a b ha] at this; exact this
  have A1 : Hid (∀ w1, Tab w1 → Calls Tryd.prog 19 #[.agg #[.int .i64 a, .int .i64 b], .agg #[.int .i64 c, .int .i64 d]] w1 fun e w' => e = .returned (.tuple #[.agg #[.int .i64 P, .int .i64 Q], .bool false]) ∧ Below w1.heap.size w1 w') := fun w1 h => by
    have := add_any a b c d ha hc w1 h
    rw [hA] at this; exact this
  have A2 : Hid (∀ w1, Tab w1 → Calls Tryd.prog 19 #[.agg #[.int .i64 c, .int .i64 d], .agg #[.int .i64 a, .int .i64 b]] w1 fun e w' => e = .returned (.tuple #[.agg #[.int .i64 P, .int .i64 Q], .bool false]) ∧ Below w1.heap.size w1 w') := fun w1 h => by
    have := add_any c d a b hc ha w1 h
    rw [hA2] at this; exact this
  have M1 : Hid (∀ w1, Tab w1 → Calls Tryd.prog 27 #[.agg #[.int .i64 a, .int .i64 b], .agg #[.int .i64 c, .int .i64 d]] w1 fun e w' => e = .returned (.tuple #[.agg #[.int .i64 M, .int .i64 N], .bool true]) ∧ Below w1.heap.size w1 w') := fun w1 h => by
    have := mul_any a b c d ha hc w1 h
    rw [hM] at this; exact this
  have M2 : Hid (∀ w1, Tab w1 → Calls Tryd.prog 27 #[.agg #[.int .i64 c, .int .i64 d], .agg #[.int .i64 a, .int .i64 b]] w1 fun e w' => e = .returned (.tuple #[.agg #[.int .i64 M, .int .i64 N], .bool true]) ∧ Below w1.heap.size w1 w') := fun w1 h => by
    have := mul_any c d a b hc ha w1 h
    rw [hM2] at this; exact this
  obtain ⟨n1a, n1b, n1c⟩ := digs_val a
  obtain ⟨n2a, n2b, n2c⟩ := digs_val c
  have la : (digs a).length ≤ 15 := by
    rw [digs_len]; exact nd_le 15 _ (by have e15 : (10 : Nat) ^ 15 = 1000000000000000 := by decide
                                        omega)
  have lc : (digs c).length ≤ 15 := by
    rw [digs_len]; exact nd_le 15 _ (by have e15 : (10 : Nat) ^ 15 = 1000000000000000 := by decide
                                        omega)
  obtain ⟨sa, hsa⟩ : ∃ s, s = decide (a < 0) := ⟨_, rfl⟩
  obtain ⟨sc, hsc⟩ : ∃ s, s = decide (c < 0) := ⟨_, rfl⟩
  obtain ⟨na, hna⟩ : ∃ n, n = (digs a).length := ⟨_, rfl⟩
  obtain ⟨nc, hnc⟩ : ∃ n, n = (digs c).length := ⟨_, rfl⟩
  have OF1 : Hid (∀ w1, Calls Tryd.prog 45 #[.agg #[.int .i64 a, .int .i64 b]] w1 fun r w' => ∃ A k, r = .returned (.agg #[.bool sa, .slice A na k, .int .i64 b]) ∧ Vd w' (.slice A na k) (digs a) ∧ Below w1.heap.size w1 w') := by
    intro w1
    refine (of_any a b (by omega) (by omega) w1).mono ?_
    rintro e w' ⟨v, rfl, hv, hb⟩
    obtain ⟨A, k, rfl, hr⟩ := hv.open
    exact ⟨A, k, by rw [hsa, hna], by rw [hna]; exact hv, hb⟩
  have OF2 : Hid (∀ w1, Calls Tryd.prog 45 #[.agg #[.int .i64 c, .int .i64 d]] w1 fun r w' => ∃ A k, r = .returned (.agg #[.bool sc, .slice A nc k, .int .i64 d]) ∧ Vd w' (.slice A nc k) (digs c) ∧ Below w1.heap.size w1 w') := by
    intro w1
    refine (of_any c d (by omega) (by omega) w1).mono ?_
    rintro e w' ⟨v, rfl, hv, hb⟩
    obtain ⟨A, k, rfl, hr⟩ := hv.open
    exact ⟨A, k, by rw [hsc, hnc], by rw [hnc]; exact hv, hb⟩
  obtain ⟨g1, g2, g3⟩ := prodL_val (digs a) (digs c) n1b n2b
  obtain ⟨LT, hLT⟩ : ∃ L, L = 0 :: prodL (digs a) (digs c) := ⟨_, rfl⟩
  have hLl : LT.length = na + nc + 1 := by rw [hLT, List.length_cons, g1, hna, hnc]
  have hLd : Dig LT := by rw [hLT]; exact zero_dig g2
  have hLv : valN LT = a.natAbs * c.natAbs := by rw [hLT, valN_cons, g3, n1a, n2a]; simp
  obtain ⟨sT, hsT⟩ : ∃ s, s = (decide (a < 0) != decide (c < 0)) := ⟨_, rfl⟩
  have hMr : roundN sT (valN LT) (b + d) = (M, N, true) := by rw [hLv, hsT]; exact hM
  have TM : Hid (∀ (A1 A2 : Option Addr) (k1 k2 : Nat) (w1 : World), RdD w1 A1 (digs a) → RdD w1 A2 (digs c) → Calls Tryd.prog 46 #[.agg #[.bool sa, .slice A1 na k1, .int .i64 b], .agg #[.bool sc, .slice A2 nc k2, .int .i64 d]] w1 fun e w' => ∃ g k, e = .returned (.agg #[.bool sT, .slice (some ⟨g, 0, none⟩) (na + nc + 1) k, .int .i64 (b + d)]) ∧ OwnD w' w1.heap.size (.slice (some ⟨g, 0, none⟩) (na + nc + 1) k) LT ∧ Below w1.heap.size w1 w') := fun A1 A2 k1 k2 w1 r1 r2 => by
    rw [hLT]
    exact times_any sa sc sT (by rw [hsT, hsa, hsc]) A1 A2 k1 k2 b d (digs a) (digs c) na nc w1 hna.symm hnc.symm n1b n2b (by omega) (by omega) (by omega) (by omega) (by omega) (by omega) r1 r2
  have NT : Hid (∀ (B g k : Nat) (w1 : World), OwnD w1 B (.slice (some ⟨g, 0, none⟩) (na + nc + 1) k) LT → Calls Tryd.prog 43 #[.agg #[.int .i64 M, .int .i64 N], .agg #[.bool sT, .slice (some ⟨g, 0, none⟩) (na + nc + 1) k, .int .i64 (b + d)]] w1 fun r w' => r = .returned (.bool true) ∧ Below w1.heap.size w1 w') := fun B g k w1 ho => near_true M N sT (b + d) LT (na + nc + 1) hLl hLd (by omega) (by omega) (by omega) hMr B g k w1 ho
  clear g1 g2 g3 hLT hLl hLd hLv hsT hMr
  have H0 := Lib.hid (Kp.first w a b c d ht)
  have hT1 : 1 < w.heap.size := var_lt gPow ht
  clear ha hc ba bb1 bb2 bc bd1 bd2 r10 r00 wa hA hA2 hM hM2 ht n1a n1b n1c n2a n2b n2c la lc hsa hsc hna hnc
  unfold numV
  go_enter Tryd.func10, Tryd.ntmps10
  go_wp2_with fail
  refine (HAW.out _ H0.out.2.2.2.2.2.1).mono ?_
  rintro e w1 ⟨rfl, hb1⟩
  have K := H0.out.later hb1
  clear hb1 HAW H0
  obtain ⟨p0, p1, p2, p3, _⟩ := id K
  go_wp2_with fail
  refine (Q1.out _).mono ?_
  rintro e w2 ⟨rfl, hb⟩
  have K2 := K.later hb
  clear K hb Q1 p0 p1 p2 p3
  have K := K2
  clear K2
  obtain ⟨p0, p1, p2, p3, _⟩ := id K
  go_wp2_with fail
  refine (Q2.out _).mono ?_
  rintro e w3 ⟨rfl, hb⟩
  have al := alloc_below w3 (.cells #[.int .i64 1, .int .i64 0] 24)
  have K2 := (K.later hb).later al
  have sw3 := C2.new w3 1 0
  clear K hb Q2 al p0 p1 p2 p3
  have K := K2
  clear K2
  obtain ⟨p0, p1, p2, p3, _⟩ := id K
  obtain ⟨m30, m31, _⟩ := id sw3
  go_wp2_with fail
  refine (A0.out _ K.2.2.2.2.2.1).mono ?_
  rintro e w4 ⟨rfl, hb⟩
  have al := alloc_below w4 (.cells #[.int .i64 a, .int .i64 b] 24)
  have K2 := (K.later hb).later al
  have x3 := (sw3.later hb).later al
  have x4 := C2.new w4 a b
  clear hb al K A0 p0 p1 p2 p3 sw3 m30 m31
  have K := K2
  have sw3 := x3
  have sw4 := x4
  clear K2 x3 x4
  obtain ⟨p0, p1, p2, p3, _⟩ := id K
  obtain ⟨m30, m31, _⟩ := id sw3
  obtain ⟨m40, m41, _⟩ := id sw4
  go_wp2_with fail
  refine (M0.out _ K.2.2.2.2.2.1).mono ?_
  rintro e w5 ⟨rfl, hb⟩
  have al := alloc_below w5 (.cells #[.int .i64 a, .int .i64 b] 24)
  have K2 := (K.later hb).later al
  have x3 := (sw3.later hb).later al
  have x4 := (sw4.later hb).later al
  have x5 := C2.new w5 a b
  clear hb al K M0 p0 p1 p2 p3 sw3 sw4 m30 m31 m40 m41
  have K := K2
  have sw3 := x3
  have sw4 := x4
  have sw5 := x5
  clear K2 x3 x4 x5
  obtain ⟨p0, p1, p2, p3, _⟩ := id K
  obtain ⟨m30, m31, _⟩ := id sw3
  obtain ⟨m40, m41, _⟩ := id sw4
  obtain ⟨m50, m51, _⟩ := id sw5
  go_wp2_with fail
  refine (D0.out _ K.2.2.2.2.2.1).mono ?_
  rintro e w6 ⟨rfl, hb⟩
  have al := alloc_below w6 (.cells #[.int .i64 a, .int .i64 b] 24)
  have K2 := (K.later hb).later al
  have x3 := (sw3.later hb).later al
  have x4 := (sw4.later hb).later al
  have x5 := (sw5.later hb).later al
  have x6 := C2.new w6 a b
  clear hb al K D0 p0 p1 p2 p3 sw3 sw4 sw5 m30 m31 m40 m41 m50 m51
  have K := K2
  have sw3 := x3
  have sw4 := x4
  have sw5 := x5
  have sw6 := x6
  clear K2 x3 x4 x5 x6
  obtain ⟨p0, p1, p2, p3, _⟩ := id K
  obtain ⟨m30, m31, _⟩ := id sw3
  obtain ⟨m40, m41, _⟩ := id sw4
  obtain ⟨m50, m51, _⟩ := id sw5
  obtain ⟨m60, m61, _⟩ := id sw6
  go_wp2_with fail
  refine (S0.out _ K.2.2.2.2.2.1).mono ?_
  rintro e w7 ⟨rfl, hb⟩
  have al := alloc_below w7 (.cells #[.int .i64 0, .int .i64 0] 24)
  have K2 := (K.later hb).later al
  have x3 := (sw3.later hb).later al
  have x4 := (sw4.later hb).later al
  have x5 := (sw5.later hb).later al
  have x6 := (sw6.later hb).later al
  have x7 := C2.new w7 0 0
  clear hb al K S0 p0 p1 p2 p3 sw3 sw4 sw5 sw6 m30 m31 m40 m41 m50 m51 m60 m61
  have K := K2
  have sw3 := x3
  have sw4 := x4
  have sw5 := x5
  have sw6 := x6
  have sw7 := x7
  clear K2 x3 x4 x5 x6 x7
  obtain ⟨p0, p1, p2, p3, _⟩ := id K
  obtain ⟨m30, m31, _⟩ := id sw3
  obtain ⟨m40, m41, _⟩ := id sw4
  obtain ⟨m50, m51, _⟩ := id sw5
  obtain ⟨m60, m61, _⟩ := id sw6
  obtain ⟨m70, m71, _⟩ := id sw7
  go_wp2_with fail
  refine (A1.out _ K.2.2.2.2.2.1).mono ?_
  rintro e w8 ⟨rfl, hb⟩
  have al := alloc_below w8 (.cells #[.int .i64 P, .int .i64 Q] 24)
  have K2 := (K.later hb).later al
  have x3 := (sw3.later hb).later al
  have x4 := (sw4.later hb).later al
  have x5 := (sw5.later hb).later al
  have x6 := (sw6.later hb).later al
  have x7 := (sw7.later hb).later al
  have x8 := C2.new w8 P Q
  have sl8 := Slot.new w8 P Q
  have hz8 : w.heap.size + 2 ≤ w8.heap.size := by have := (K.later hb).2.2.2.2.1; omega
  clear hb al K A1 p0 p1 p2 p3 sw3 sw4 sw5 sw6 sw7 m30 m31 m40 m41 m50 m51 m60 m61 m70 m71
  have K := K2
  have sw3 := x3
  have sw4 := x4
  have sw5 := x5
  have sw6 := x6
  have sw7 := x7
  have sw8 := x8
  clear K2 x3 x4 x5 x6 x7 x8
  obtain ⟨p0, p1, p2, p3, _⟩ := id K
  obtain ⟨m30, m31, _⟩ := id sw3
  obtain ⟨m40, m41, _⟩ := id sw4
  obtain ⟨m50, m51, _⟩ := id sw5
  obtain ⟨m60, m61, _⟩ := id sw6
  obtain ⟨m70, m71, _⟩ := id sw7
  obtain ⟨m80, m81, _⟩ := id sw8
  go_wp2_with fail
  refine (A2.out _ K.2.2.2.2.2.1).mono ?_
  rintro e w9 ⟨rfl, hb⟩
  have al := alloc_below w9 (.cells #[.int .i64 P, .int .i64 Q] 24)
  have K2 := (K.later hb).later al
  have x3 := (sw3.later hb).later al
  have x4 := (sw4.later hb).later al
  have x5 := (sw5.later hb).later al
  have x6 := (sw6.later hb).later al
  have x7 := (sw7.later hb).later al
  have x8 := (sw8.later hb).later al
  have x9 := C2.new w9 P Q
  have sl9 := (sl8.below hb sw8.2.2).below al (sw8.later hb).2.2
  have hz9 : w8.heap.size < w9.heap.size := (sw8.later hb).2.2
  clear sl8
  have sl8 := sl9
  clear sl9
  clear hb al K A2 p0 p1 p2 p3 sw3 sw4 sw5 sw6 sw7 sw8 m30 m31 m40 m41 m50 m51 m60 m61 m70 m71 m80 m81
  have K := K2
  have sw3 := x3
  have sw4 := x4
  have sw5 := x5
  have sw6 := x6
  have sw7 := x7
  have sw8 := x8
  have sw9 := x9
  clear K2 x3 x4 x5 x6 x7 x8 x9
  obtain ⟨p0, p1, p2, p3, _⟩ := id K
  obtain ⟨m30, m31, _⟩ := id sw3
  obtain ⟨m40, m41, _⟩ := id sw4
  obtain ⟨m50, m51, _⟩ := id sw5
  obtain ⟨m60, m61, _⟩ := id sw6
  obtain ⟨m70, m71, _⟩ := id sw7
  obtain ⟨m80, m81, _⟩ := id sw8
  obtain ⟨m90, m91, _⟩ := id sw9
  go_wp2_with fail
  have X0 : Kn w a b c d w8.heap.size w9.heap.size P Q P Q (w9.alloc (.cells #[.int .i64 P, .int .i64 Q] 24)) := by
    have z8 := alloc_below w9 (.cells #[.int .i64 P, .int .i64 Q] 24)
    refine ⟨⟨p0, p1, by have := K.2.2.2.2.1; omega⟩, ⟨p2, p3, by have := K.2.2.2.2.1; omega⟩, sw8, sw9, ?_, ?_, ?_, ?_, K.2.2.2.2.2.1, K.2.2.2.2.2.2⟩
    · exact sl8.f0
    · exact sl8.f1
    · exact (Slot.new w9 P Q).f0
    · exact (Slot.new w9 P Q).f1
  have hB8 : w.heap.size + 2 ≤ w8.heap.size := hz8
  have hB9 : w8.heap.size < w9.heap.size := hz9
  have X0h := Lib.hid X0
  clear K sw3 sw4 sw5 sw6 sw7 sw8 sw9 sl8 X0 m30 m31 m40 m41 m50 m51 m60 m61 m70 m71
  go_quiet (fail)
  have X6 := X0h.out.later (below_drewN (Below.refl _ _) nq)
  clear X0h p0 p1 p2 p3 m80 m81 m90 m91
  obtain ⟨⟨p0, p1, _⟩, ⟨p2, p3, _⟩, ⟨p4, p5, _⟩, ⟨p6, p7, _⟩, p8, p9, pa, pb, _, _⟩ := id X6
  go_wp2_with fail
  refine (M1.out _ X6.2.2.2.2.2.2.2.2.1).mono ?_
  rintro e w14 ⟨rfl, hb⟩
  have X7 := X6.later hb
  have X7p := X7.put1 hT1 hB8 (by omega) M N
  clear hb X6 M1 p0 p1 p2 p3 p4 p5 p6 p7 p8 p9 pa pb
  obtain ⟨⟨p0, p1, _⟩, ⟨p2, p3, _⟩, ⟨p4, p5, _⟩, ⟨p6, p7, _⟩, p8, p9, pa, pb, _, _⟩ := id X7
  obtain ⟨⟨q0, q1, _⟩, ⟨q2, q3, _⟩, ⟨q4, q5, _⟩, ⟨q6, q7, _⟩, q8, q9, qa, qb, _, _⟩ := id X7p
  go_wp2_with fail
  refine (M2.out _ X7p.2.2.2.2.2.2.2.2.1).mono ?_
  rintro e w15 ⟨rfl, hb⟩
  have X8 := X7p.later hb
  have X8p := X8.put2 hT1 (by omega) (by omega) M N
  clear hb X7 X7p M2 p0 p1 p2 p3 p4 p5 p6 p7 p8 p9 pa pb q0 q1 q2 q3 q4 q5 q6 q7 q8 q9 qa qb
  obtain ⟨⟨p0, p1, _⟩, ⟨p2, p3, _⟩, ⟨p4, p5, _⟩, ⟨p6, p7, _⟩, p8, p9, pa, pb, _, _⟩ := id X8
  obtain ⟨⟨q0, q1, _⟩, ⟨q2, q3, _⟩, ⟨q4, q5, _⟩, ⟨q6, q7, _⟩, q8, q9, qa, qb, _, _⟩ := id X8p
  have X8h := Lib.hid X8p
  clear X8 X8p
  go_wp2_with fail
  go_region_held3 (fun w' => (w'.cell? ⟨w.heap.size, 0, none⟩ = some (.int .i64 a) ∧ w'.cell? ⟨w.heap.size, 1, none⟩ = some (.int .i64 b) ∧ w.heap.size < w'.heap.size) ∧ (w'.cell? ⟨w.heap.size + 1, 0, none⟩ = some (.int .i64 c) ∧ w'.cell? ⟨w.heap.size + 1, 1, none⟩ = some (.int .i64 d) ∧ w.heap.size + 1 < w'.heap.size) ∧ (w'.cell? ⟨w8.heap.size, 0, none⟩ = some (.int .i64 M) ∧ w'.cell? ⟨w8.heap.size, 1, none⟩ = some (.int .i64 N) ∧ w8.heap.size < w'.heap.size) ∧ (w'.cell? ⟨w9.heap.size, 0, none⟩ = some (.int .i64 M) ∧ w'.cell? ⟨w9.heap.size, 1, none⟩ = some (.int .i64 N) ∧ w9.heap.size < w'.heap.size) ∧ w'.frozen? ⟨w8.heap.size, 0, none⟩ = false ∧ w'.frozen? ⟨w8.heap.size, 1, none⟩ = false ∧ w'.frozen? ⟨w9.heap.size, 0, none⟩ = false ∧ w'.frozen? ⟨w9.heap.size, 1, none⟩ = false ∧ Tab w' ∧ Below w.heap.size w w')
    ((show Kn w a b c d w8.heap.size w9.heap.size M N M N _; with_reducible first | exact X8h.out.later (below_dr _) | exact X5.out))
    (first
      | (go_at_call_of 45 (Value.agg #[.int .i64 a, .int .i64 b]); refine (OF1.out _).mono ?_; rintro e w10 ⟨A10, k10, rfl, hV10, hb10⟩; have hR10 := vd_rd hV10; have X5 := Lib.hid (Kn.later (show Kn w a b c d w8.heap.size w9.heap.size M N M N _ by assumption) hb10))
      | (go_at_call_of 45 (Value.agg #[.int .i64 c, .int .i64 d]); refine (OF2.out _).mono ?_; rintro e w11 ⟨A11, k11, rfl, hV11, hb11⟩; have hR11 := vd_rd hV11; have X5 := Lib.hid (Kn.later (show Kn w a b c d w8.heap.size w9.heap.size M N M N _ by assumption) hb11))
      | (go_at_call 46; refine (TM.out _ _ _ _ _ (hR10.below hb11) hR11).mono ?_; rintro e w12 ⟨g12, k12, rfl, ho12, hb12⟩; have X5 := Lib.hid (Kn.later (show Kn w a b c d w8.heap.size w9.heap.size M N M N _ by assumption) hb12))
      | (go_at_call 43; refine (NT.out _ _ _ _ ho12).mono ?_; rintro e w13 ⟨rfl, hb13⟩; have X5 := Lib.hid (Kn.later (show Kn w a b c d w8.heap.size w9.heap.size M N M N _ by assumption) hb13)))
  have X6 : Kn w a b c d w8.heap.size w9.heap.size M N M N w13 := X5.out
  have hfin : Below w.heap.size w _ := X6.2.2.2.2.2.2.2.2.2
  clear X6 X8h p0 p1 p2 p3 p4 p5 p6 p7 p8 p9 pa pb q0 q1 q2 q3 q4 q5 q6 q7 q8 q9 qa qb
  go_wp2
  go_ret
  exact ⟨rfl, hfin⟩
set_option maxRecDepth 1000000 in
set_option maxHeartbeats 16000000 in
theorem near_law_ff (a b c d : Int) (ha : rightB a b = true) (hc : rightB c d = true) (P Q M N : Int) (hA : addN a b c d = (P, Q, false)) (hM : mulN a b c d = (M, N, false)) (w : World) (ht : Tab w) :
    Calls Tryd.prog 10 #[numV a b, numV c d] w fun r w' => r = .returned (.bool true) ∧ Below w.heap.size w w' := by
  obtain ⟨ba, bb1, bb2⟩ := right_bounds ha
  obtain ⟨bc, bd1, bd2⟩ := right_bounds hc
  have HAW : Hid (∀ w1, Tab w1 → Calls Tryd.prog 14 #[] w1 fun r w' => r = .returned (.bool true) ∧ Below w1.heap.size w1 w') := fun w1 h => awake_any w1 h
  have Q1 : Hid (∀ w1, Calls Tryd.prog 18 #[.agg #[.int .i64 a, .int .i64 b]] w1 fun r w' => r = .returned (.bool true) ∧ Below w1.heap.size w1 w') := by
    intro w1; have := rright_any a b w1; rw [ha] at this; exact this
  have Q2 : Hid (∀ w1, Calls Tryd.prog 18 #[.agg #[.int .i64 c, .int .i64 d]] w1 fun r w' => r = .returned (.bool true) ∧ Below w1.heap.size w1 w') := by
    intro w1; have := rright_any c d w1; rw [hc] at this; exact this
  have r10 : rightB 1 0 = true := right_unit1 1 0 (.inl rfl) (by omega) (by omega)
  have r00 : rightB 0 0 = true := by decide
  have wa : Wf a b := wf_right1 ha
  have hA2 : addN c d a b = (P, Q, false) := by rw [add_comm' c d a b]; exact hA
  have hM2 : mulN c d a b = (M, N, false) := by rw [mul_comm' c d a b]; exact hM
  have A0 : Hid (∀ w1, Tab w1 → Calls Tryd.prog 19 #[.agg #[.int .i64 a, .int .i64 b], .agg #[.int .i64 0, .int .i64 0]] w1 fun e w' => e = .returned (.tuple #[.agg #[.int .i64 a, .int .i64 b], .bool true]) ∧ Below w1.heap.size w1 w') := fun w1 h => by
    have := add_any a b 0 0 ha r00 w1 h
    rw [add_zero' ha] at this; exact this
  have M0 : Hid (∀ w1, Tab w1 → Calls Tryd.prog 27 #[.agg #[.int .i64 a, .int .i64 b], .agg #[.int .i64 1, .int .i64 0]] w1 fun e w' => e = .returned (.tuple #[.agg #[.int .i64 a, .int .i64 b], .bool true]) ∧ Below w1.heap.size w1 w') := fun w1 h => by
    have := mul_any a b 1 0 ha r10 w1 h
    rw [mul_one' ha] at this; exact this
  have D0 : Hid (∀ w1, Tab w1 → Calls Tryd.prog 29 #[.agg #[.int .i64 a, .int .i64 b], .agg #[.int .i64 1, .int .i64 0]] w1 fun e w' => e = .returned (.tuple #[.agg #[.int .i64 a, .int .i64 b], .bool true]) ∧ Below w1.heap.size w1 w') := fun w1 h => by
    have := div_any a b 1 0 ha r10 w1 h
    rw [div_one' ha] at this; exact this
  have S0 : Hid (∀ w1, Tab w1 → Calls Tryd.prog 21 #[.agg #[.int .i64 a, .int .i64 b], .agg #[.int .i64 a, .int .i64 b]] w1 fun e w' => e = .returned (.tuple #[.agg #[.int .i64 0, .int .i64 0], .bool true]) ∧ Below w1.heap.size w1 w') := fun w1 h => by
    have := subX_any a b a b wa wa w1 h
    rw [sub_self' a b ha] at this; exact this
  have A1 : Hid (∀ w1, Tab w1 → Calls Tryd.prog 19 #[.agg #[.int .i64 a, .int .i64 b], .agg #[.int .i64 c, .int .i64 d]] w1 fun e w' => e = .returned (.tuple #[.agg #[.int .i64 P, .int .i64 Q], .bool false]) ∧ Below w1.heap.size w1 w') := fun w1 h => by
    have := add_any a b c d ha hc w1 h
    rw [hA] at this; exact this
  have A2 : Hid (∀ w1, Tab w1 → Calls Tryd.prog 19 #[.agg #[.int .i64 c, .int .i64 d], .agg #[.int .i64 a, .int .i64 b]] w1 fun e w' => e = .returned (.tuple #[.agg #[.int .i64 P, .int .i64 Q], .bool false]) ∧ Below w1.heap.size w1 w') := fun w1 h => by
    have := add_any c d a b hc ha w1 h
    rw [hA2] at this; exact this
  have M1 : Hid (∀ w1, Tab w1 → Calls Tryd.prog 27 #[.agg #[.int .i64 a, .int .i64 b], .agg #[.int .i64 c, .int .i64 d]] w1 fun e w' => e = .returned (.tuple #[.agg #[.int .i64 M, .int .i64 N], .bool false]) ∧ Below w1.heap.size w1 w') := fun w1 h => by
    have := mul_any a b c d ha hc w1 h
    rw [hM] at this; exact this
  have M2 : Hid (∀ w1, Tab w1 → Calls Tryd.prog 27 #[.agg #[.int .i64 c, .int .i64 d], .agg #[.int .i64 a, .int .i64 b]] w1 fun e w' => e = .returned (.tuple #[.agg #[.int .i64 M, .int .i64 N], .bool false]) ∧ Below w1.heap.size w1 w') := fun w1 h => by
    have := mul_any c d a b hc ha w1 h
    rw [hM2] at this; exact this
  have H0 := Lib.hid (Kp.first w a b c d ht)
  have hT1 : 1 < w.heap.size := var_lt gPow ht
  clear ha hc ba bb1 bb2 bc bd1 bd2 r10 r00 wa hA hA2 hM hM2 ht 
  unfold numV
  go_enter Tryd.func10, Tryd.ntmps10
  go_wp2_with fail
  refine (HAW.out _ H0.out.2.2.2.2.2.1).mono ?_
  rintro e w1 ⟨rfl, hb1⟩
  have K := H0.out.later hb1
  clear hb1 HAW H0
  obtain ⟨p0, p1, p2, p3, _⟩ := id K
  go_wp2_with fail
  refine (Q1.out _).mono ?_
  rintro e w2 ⟨rfl, hb⟩
  have K2 := K.later hb
  clear K hb Q1 p0 p1 p2 p3
  have K := K2
  clear K2
  obtain ⟨p0, p1, p2, p3, _⟩ := id K
  go_wp2_with fail
  refine (Q2.out _).mono ?_
  rintro e w3 ⟨rfl, hb⟩
  have al := alloc_below w3 (.cells #[.int .i64 1, .int .i64 0] 24)
  have K2 := (K.later hb).later al
  have sw3 := C2.new w3 1 0
  clear K hb Q2 al p0 p1 p2 p3
  have K := K2
  clear K2
  obtain ⟨p0, p1, p2, p3, _⟩ := id K
  obtain ⟨m30, m31, _⟩ := id sw3
  go_wp2_with fail
  refine (A0.out _ K.2.2.2.2.2.1).mono ?_
  rintro e w4 ⟨rfl, hb⟩
  have al := alloc_below w4 (.cells #[.int .i64 a, .int .i64 b] 24)
  have K2 := (K.later hb).later al
  have x3 := (sw3.later hb).later al
  have x4 := C2.new w4 a b
  clear hb al K A0 p0 p1 p2 p3 sw3 m30 m31
  have K := K2
  have sw3 := x3
  have sw4 := x4
  clear K2 x3 x4
  obtain ⟨p0, p1, p2, p3, _⟩ := id K
  obtain ⟨m30, m31, _⟩ := id sw3
  obtain ⟨m40, m41, _⟩ := id sw4
  go_wp2_with fail
  refine (M0.out _ K.2.2.2.2.2.1).mono ?_
  rintro e w5 ⟨rfl, hb⟩
  have al := alloc_below w5 (.cells #[.int .i64 a, .int .i64 b] 24)
  have K2 := (K.later hb).later al
  have x3 := (sw3.later hb).later al
  have x4 := (sw4.later hb).later al
  have x5 := C2.new w5 a b
  clear hb al K M0 p0 p1 p2 p3 sw3 sw4 m30 m31 m40 m41
  have K := K2
  have sw3 := x3
  have sw4 := x4
  have sw5 := x5
  clear K2 x3 x4 x5
  obtain ⟨p0, p1, p2, p3, _⟩ := id K
  obtain ⟨m30, m31, _⟩ := id sw3
  obtain ⟨m40, m41, _⟩ := id sw4
  obtain ⟨m50, m51, _⟩ := id sw5
  go_wp2_with fail
  refine (D0.out _ K.2.2.2.2.2.1).mono ?_
  rintro e w6 ⟨rfl, hb⟩
  have al := alloc_below w6 (.cells #[.int .i64 a, .int .i64 b] 24)
  have K2 := (K.later hb).later al
  have x3 := (sw3.later hb).later al
  have x4 := (sw4.later hb).later al
  have x5 := (sw5.later hb).later al
  have x6 := C2.new w6 a b
  clear hb al K D0 p0 p1 p2 p3 sw3 sw4 sw5 m30 m31 m40 m41 m50 m51
  have K := K2
  have sw3 := x3
  have sw4 := x4
  have sw5 := x5
  have sw6 := x6
  clear K2 x3 x4 x5 x6
  obtain ⟨p0, p1, p2, p3, _⟩ := id K
  obtain ⟨m30, m31, _⟩ := id sw3
  obtain ⟨m40, m41, _⟩ := id sw4
  obtain ⟨m50, m51, _⟩ := id sw5
  obtain ⟨m60, m61, _⟩ := id sw6
  go_wp2_with fail
  refine (S0.out _ K.2.2.2.2.2.1).mono ?_
  rintro e w7 ⟨rfl, hb⟩
  have al := alloc_below w7 (.cells #[.int .i64 0, .int .i64 0] 24)
  have K2 := (K.later hb).later al
  have x3 := (sw3.later hb).later al
  have x4 := (sw4.later hb).later al
  have x5 := (sw5.later hb).later al
  have x6 := (sw6.later hb).later al
  have x7 := C2.new w7 0 0
  clear hb al K S0 p0 p1 p2 p3 sw3 sw4 sw5 sw6 m30 m31 m40 m41 m50 m51 m60 m61
  have K := K2
  have sw3 := x3
  have sw4 := x4
  have sw5 := x5
  have sw6 := x6
  have sw7 := x7
  clear K2 x3 x4 x5 x6 x7
  obtain ⟨p0, p1, p2, p3, _⟩ := id K
  obtain ⟨m30, m31, _⟩ := id sw3
  obtain ⟨m40, m41, _⟩ := id sw4
  obtain ⟨m50, m51, _⟩ := id sw5
  obtain ⟨m60, m61, _⟩ := id sw6
  obtain ⟨m70, m71, _⟩ := id sw7
  go_wp2_with fail
  refine (A1.out _ K.2.2.2.2.2.1).mono ?_
  rintro e w8 ⟨rfl, hb⟩
  have al := alloc_below w8 (.cells #[.int .i64 P, .int .i64 Q] 24)
  have K2 := (K.later hb).later al
  have x3 := (sw3.later hb).later al
  have x4 := (sw4.later hb).later al
  have x5 := (sw5.later hb).later al
  have x6 := (sw6.later hb).later al
  have x7 := (sw7.later hb).later al
  have x8 := C2.new w8 P Q
  have sl8 := Slot.new w8 P Q
  have hz8 : w.heap.size + 2 ≤ w8.heap.size := by have := (K.later hb).2.2.2.2.1; omega
  clear hb al K A1 p0 p1 p2 p3 sw3 sw4 sw5 sw6 sw7 m30 m31 m40 m41 m50 m51 m60 m61 m70 m71
  have K := K2
  have sw3 := x3
  have sw4 := x4
  have sw5 := x5
  have sw6 := x6
  have sw7 := x7
  have sw8 := x8
  clear K2 x3 x4 x5 x6 x7 x8
  obtain ⟨p0, p1, p2, p3, _⟩ := id K
  obtain ⟨m30, m31, _⟩ := id sw3
  obtain ⟨m40, m41, _⟩ := id sw4
  obtain ⟨m50, m51, _⟩ := id sw5
  obtain ⟨m60, m61, _⟩ := id sw6
  obtain ⟨m70, m71, _⟩ := id sw7
  obtain ⟨m80, m81, _⟩ := id sw8
  go_wp2_with fail
  refine (A2.out _ K.2.2.2.2.2.1).mono ?_
  rintro e w9 ⟨rfl, hb⟩
  have al := alloc_below w9 (.cells #[.int .i64 P, .int .i64 Q] 24)
  have K2 := (K.later hb).later al
  have x3 := (sw3.later hb).later al
  have x4 := (sw4.later hb).later al
  have x5 := (sw5.later hb).later al
  have x6 := (sw6.later hb).later al
  have x7 := (sw7.later hb).later al
  have x8 := (sw8.later hb).later al
  have x9 := C2.new w9 P Q
  have sl9 := (sl8.below hb sw8.2.2).below al (sw8.later hb).2.2
  have hz9 : w8.heap.size < w9.heap.size := (sw8.later hb).2.2
  clear sl8
  have sl8 := sl9
  clear sl9
  clear hb al K A2 p0 p1 p2 p3 sw3 sw4 sw5 sw6 sw7 sw8 m30 m31 m40 m41 m50 m51 m60 m61 m70 m71 m80 m81
  have K := K2
  have sw3 := x3
  have sw4 := x4
  have sw5 := x5
  have sw6 := x6
  have sw7 := x7
  have sw8 := x8
  have sw9 := x9
  clear K2 x3 x4 x5 x6 x7 x8 x9
  obtain ⟨p0, p1, p2, p3, _⟩ := id K
  obtain ⟨m30, m31, _⟩ := id sw3
  obtain ⟨m40, m41, _⟩ := id sw4
  obtain ⟨m50, m51, _⟩ := id sw5
  obtain ⟨m60, m61, _⟩ := id sw6
  obtain ⟨m70, m71, _⟩ := id sw7
  obtain ⟨m80, m81, _⟩ := id sw8
  obtain ⟨m90, m91, _⟩ := id sw9
  go_wp2_with fail
  have X0 : Kn w a b c d w8.heap.size w9.heap.size P Q P Q (w9.alloc (.cells #[.int .i64 P, .int .i64 Q] 24)) := by
    have z8 := alloc_below w9 (.cells #[.int .i64 P, .int .i64 Q] 24)
    refine ⟨⟨p0, p1, by have := K.2.2.2.2.1; omega⟩, ⟨p2, p3, by have := K.2.2.2.2.1; omega⟩, sw8, sw9, ?_, ?_, ?_, ?_, K.2.2.2.2.2.1, K.2.2.2.2.2.2⟩
    · exact sl8.f0
    · exact sl8.f1
    · exact (Slot.new w9 P Q).f0
    · exact (Slot.new w9 P Q).f1
  have hB8 : w.heap.size + 2 ≤ w8.heap.size := hz8
  have hB9 : w8.heap.size < w9.heap.size := hz9
  have X0h := Lib.hid X0
  clear K sw3 sw4 sw5 sw6 sw7 sw8 sw9 sl8 X0 m30 m31 m40 m41 m50 m51 m60 m61 m70 m71
  go_quiet (fail)
  have X6 := X0h.out.later (below_drewN (Below.refl _ _) nq)
  clear X0h p0 p1 p2 p3 m80 m81 m90 m91
  obtain ⟨⟨p0, p1, _⟩, ⟨p2, p3, _⟩, ⟨p4, p5, _⟩, ⟨p6, p7, _⟩, p8, p9, pa, pb, _, _⟩ := id X6
  go_wp2_with fail
  refine (M1.out _ X6.2.2.2.2.2.2.2.2.1).mono ?_
  rintro e w14 ⟨rfl, hb⟩
  have X7 := X6.later hb
  have X7p := X7.put1 hT1 hB8 (by omega) M N
  clear hb X6 M1 p0 p1 p2 p3 p4 p5 p6 p7 p8 p9 pa pb
  obtain ⟨⟨p0, p1, _⟩, ⟨p2, p3, _⟩, ⟨p4, p5, _⟩, ⟨p6, p7, _⟩, p8, p9, pa, pb, _, _⟩ := id X7
  obtain ⟨⟨q0, q1, _⟩, ⟨q2, q3, _⟩, ⟨q4, q5, _⟩, ⟨q6, q7, _⟩, q8, q9, qa, qb, _, _⟩ := id X7p
  go_wp2_with fail
  refine (M2.out _ X7p.2.2.2.2.2.2.2.2.1).mono ?_
  rintro e w15 ⟨rfl, hb⟩
  have X8 := X7p.later hb
  have X8p := X8.put2 hT1 (by omega) (by omega) M N
  clear hb X7 X7p M2 p0 p1 p2 p3 p4 p5 p6 p7 p8 p9 pa pb q0 q1 q2 q3 q4 q5 q6 q7 q8 q9 qa qb
  obtain ⟨⟨p0, p1, _⟩, ⟨p2, p3, _⟩, ⟨p4, p5, _⟩, ⟨p6, p7, _⟩, p8, p9, pa, pb, _, _⟩ := id X8
  obtain ⟨⟨q0, q1, _⟩, ⟨q2, q3, _⟩, ⟨q4, q5, _⟩, ⟨q6, q7, _⟩, q8, q9, qa, qb, _, _⟩ := id X8p
  have X8h := Lib.hid X8p
  clear X8 X8p
  go_wp2_with fail
  go_quiet (fail)
  have X6 := X8h.out.later (below_drewN (Below.refl _ _) nq)
  have hfin : Below w.heap.size w _ := X6.2.2.2.2.2.2.2.2.2
  clear X6 X8h p0 p1 p2 p3 p4 p5 p6 p7 p8 p9 pa pb q0 q1 q2 q3 q4 q5 q6 q7 q8 q9 qa qb
  go_wp2
  go_ret
  exact ⟨rfl, hfin⟩
set_option maxHeartbeats 2000000 in
theorem near_no1 (a b c d : Int) (ha : rightB a b = false) (w : World) (ht : Tab w) :
    Calls Tryd.prog 10 #[numV a b, numV c d] w fun r w' => r = .returned (.bool true) ∧ Below w.heap.size w w' := by
  have HAW : Hid (∀ w1, Tab w1 → Calls Tryd.prog 14 #[] w1 fun r w' => r = .returned (.bool true) ∧ Below w1.heap.size w1 w') := fun w1 h => awake_any w1 h
  have Q1 : Hid (∀ w1, Calls Tryd.prog 18 #[.agg #[.int .i64 a, .int .i64 b]] w1 fun r w' => r = .returned (.bool false) ∧ Below w1.heap.size w1 w') := by
    intro w1; have := rright_any a b w1; rw [ha] at this; exact this
  have K0 := Kp.first w a b c d ht
  clear ha ht
  unfold numV
  go_enter Tryd.func10, Tryd.ntmps10
  go_wp2_with fail
  refine (HAW.out _ K0.2.2.2.2.2.1).mono ?_
  rintro e w1 ⟨rfl, hb1⟩
  have K1 := K0.later hb1
  clear hb1 HAW K0
  obtain ⟨p0, p1, p2, p3, _⟩ := id K1
  go_wp2_with fail
  refine (Q1.out _).mono ?_
  rintro e w2 ⟨rfl, hb1⟩
  have K2 := K1.later hb1
  have hfin := K2.2.2.2.2.2.2
  clear hb1 Q1 K1 p0 p1 p2 p3 K2
  go_wp2
  go_ret
  exact ⟨rfl, hfin⟩
set_option maxHeartbeats 2000000 in
theorem near_no2 (a b c d : Int) (ha : rightB a b = true) (hc : rightB c d = false) (w : World) (ht : Tab w) :
    Calls Tryd.prog 10 #[numV a b, numV c d] w fun r w' => r = .returned (.bool true) ∧ Below w.heap.size w w' := by
  have HAW : Hid (∀ w1, Tab w1 → Calls Tryd.prog 14 #[] w1 fun r w' => r = .returned (.bool true) ∧ Below w1.heap.size w1 w') := fun w1 h => awake_any w1 h
  have Q1 : Hid (∀ w1, Calls Tryd.prog 18 #[.agg #[.int .i64 a, .int .i64 b]] w1 fun r w' => r = .returned (.bool true) ∧ Below w1.heap.size w1 w') := by
    intro w1; have := rright_any a b w1; rw [ha] at this; exact this
  have Q2 : Hid (∀ w1, Calls Tryd.prog 18 #[.agg #[.int .i64 c, .int .i64 d]] w1 fun r w' => r = .returned (.bool false) ∧ Below w1.heap.size w1 w') := by
    intro w1; have := rright_any c d w1; rw [hc] at this; exact this
  have K0 := Kp.first w a b c d ht
  clear ha hc ht
  unfold numV
  go_enter Tryd.func10, Tryd.ntmps10
  go_wp2_with fail
  refine (HAW.out _ K0.2.2.2.2.2.1).mono ?_
  rintro e w1 ⟨rfl, hb1⟩
  have K1 := K0.later hb1
  clear hb1 HAW K0
  obtain ⟨p0, p1, p2, p3, _⟩ := id K1
  go_wp2_with fail
  refine (Q1.out _).mono ?_
  rintro e w2 ⟨rfl, hb1⟩
  have K2 := K1.later hb1
  clear hb1 Q1 K1 p0 p1 p2 p3
  obtain ⟨p0, p1, p2, p3, _⟩ := id K2
  go_wp2_with fail
  refine (Q2.out _).mono ?_
  rintro e w3 ⟨rfl, hb1⟩
  have K3 := K2.later hb1
  have hfin := K3.2.2.2.2.2.2
  clear hb1 Q2 K2 p0 p1 p2 p3 K3
  go_wp2
  go_ret
  exact ⟨rfl, hfin⟩
/-- the law NumNear -/
theorem near_law (a b c d : Int) (w : World) (ht : Tab w) :
    Calls Tryd.prog 10 #[numV a b, numV c d] w fun r w' => r = .returned (.bool true) ∧ Below w.heap.size w w' := by
  cases ha : rightB a b
  · exact near_no1 a b c d ha w ht
  · cases hc : rightB c d
    · exact near_no2 a b c d ha hc w ht
    · obtain ⟨⟨P, Q, ok1⟩, hA⟩ : ∃ r, addN a b c d = r := ⟨_, rfl⟩
      obtain ⟨⟨M, N, ok2⟩, hM⟩ : ∃ r, mulN a b c d = r := ⟨_, rfl⟩
      cases ok1 <;> cases ok2
      · exact near_law_ff a b c d ha hc P Q M N hA hM w ht
      · exact near_law_ft a b c d ha hc P Q M N hA hM w ht
      · exact near_law_tf a b c d ha hc P Q M N hA hM w ht
      · exact near_law_tt a b c d ha hc P Q M N hA hM w ht
end Go.Proofs.YtkdjdoncmihkfaaDoor
