/- Walk over the law NumSigns; signs turned about, in plain words. -/
import Derived.Test.YtkdjdoncmihkfaaDoorNz
import Derived.Test.YtkdjdoncmihkfaaDoorNm
import Derived.Test.YtkdjdoncmihkfaaDoorNp
namespace Go.Proofs.YtkdjdoncmihkfaaDoor
open Go.RowKit

set_option maxHeartbeats 1000000 in
/-- Div by 0 -/
theorem div_zero (a b d : Int) (ha : rightB a b = true) (hc : rightB 0 d = true) (w : World) :
    Calls Tryd.prog 29 #[numV a b, numV 0 d] w fun e w' => e = .returned (numR (0, 0, false)) ∧ Below w.heap.size w w' := by
  obtain ⟨ba, bb1, bb2⟩ := right_bounds ha
  have hd := rightB_zero hc
  have R1 : Hid (∀ w1, Calls Tryd.prog 17 #[.agg #[.int .i64 a, .int .i64 b]] w1 fun r w' => r = .returned (.bool true) ∧ Below w1.heap.size w1 w') := by
    intro w1; have := right_any a b (by omega) (by omega) (by omega) w1; rw [ha] at this; exact this
  have R2 : Hid (∀ w1, Calls Tryd.prog 17 #[.agg #[.int .i64 0, .int .i64 d]] w1 fun r w' => r = .returned (.bool true) ∧ Below w1.heap.size w1 w') := by
    intro w1; have := right_any 0 d (by omega) (by omega) (by omega) w1; rw [hc] at this; exact this
  clear ha hc ba bb1 bb2 hd
  unfold numV
  go_enter Tryd.func29, Tryd.ntmps29
  go_wp2_with fail
  refine (R1.out _).mono ?_
  rintro e w1 ⟨rfl, hb1⟩
  have hT0 := Trio.new w a b 0 d
  have hB0 := below3 w (.cells #[.int .i64 a, .int .i64 b] 24) (.cells #[.int .i64 0, .int .i64 d] 24) (.cells #[.int .i64 0, .int .i64 0] 24)
  obtain ⟨hT1, hZ1⟩ := hT0.below hb1 (by simp)
  have hW1 := hB0.trans (hb1.mono hB0.size)
  clear hT0 hB0 hb1
  obtain ⟨⟨p0, p1, p2, p3⟩, ⟨p4, p5, p6, p7⟩, p8, p9, p10, p11⟩ := id hT1
  go_wp2_with fail
  refine (R2.out _).mono ?_
  rintro e w2 ⟨rfl, hb2⟩
  obtain ⟨hT2, hZ2⟩ := hT1.below hb2 hZ1
  have hW2 := hW1.trans (hb2.mono hW1.size)
  clear hT1 hZ1 hW1 hb2 p0 p1 p2 p3 p4 p5 p6 p7 p8 p9 p10 p11
  obtain ⟨⟨p0, p1, p2, p3⟩, ⟨p4, p5, p6, p7⟩, m0, m1, f0, f1⟩ := hT2
  go_wp2
  refine bodyPost_ret (v := .tuple #[.agg #[.int .i64 0, .int .i64 0], .bool false]) (by simp [results, Tryd.results29, go_sem, m0, m1]) rfl ⟨rfl, ?_⟩
  exact slot_set2 hW2 (by omega) _ _

/-- the quotient, as the program tells it -/
def divF (a b c d : Int) : Int × Int × Bool := if c = 0 then (0, 0, false) else divL a b c d
theorem div_any (a b c d : Int) (ha : rightB a b = true) (hc : rightB c d = true) (w : World) (ht : Tab w) :
    Calls Tryd.prog 29 #[numV a b, numV c d] w fun e w' => e = .returned (numR (divF a b c d)) ∧ Below w.heap.size w w' := by
  unfold divF
  by_cases h : c = 0
  · subst h; rw [if_pos rfl]; exact div_zero a b d ha hc w
  · rw [if_neg h]; exact div_yes a b c d ha hc h w ht

/-- turned about -/
def turn (r : Int × Int × Bool) : Int × Int × Bool := (-r.1, r.2.1, r.2.2)
theorem turn_zero (b : Bool) : turn (0, 0, b) = (0, 0, b) := rfl
theorem end_turn (s : Bool) (V : Nat) (x : Int) : endN (!s) V x = turn (endN s V x) := by
  unfold endN
  by_cases h : (tz V).1 = 0
  · rw [if_pos h, if_pos h]; rfl
  · rw [if_neg h, if_neg h]
    by_cases h1 : 40 < (nd (tz V).1 : Int) + (x + (tz V).2)
    · rw [if_pos h1, if_pos h1]; rfl
    · rw [if_neg h1, if_neg h1]
      cases s <;> simp [turn]
theorem round_turn (s : Bool) (V : Nat) (x : Int) : roundN (!s) V x = turn (roundN s V x) := by
  unfold roundN
  split
  · rfl
  · split
    · rfl
    · exact end_turn s _ _
theorem finish_turn (s : Bool) (l : List UInt8) (x : Int) : finish (!s) l x = turn (finish s l x) := by
  unfold finish
  split
  · rfl
  · split
    · rfl
    · cases s <;> simp [turn]
theorem roundL_turn (s : Bool) (l : List UInt8) (x : Int) : roundL (!s) l x = turn (roundL s l x) := by
  unfold roundL
  split
  · rfl
  · split
    · rfl
    · exact finish_turn s _ _
theorem round_zeroV (s t : Bool) (x : Int) : roundN s 0 x = turn (roundN t 0 x) := by
  unfold roundN; rw [if_pos (.inl rfl), if_pos (.inl rfl)]; rfl
theorem dec_neg {a : Int} (h : a ≠ 0) : decide (-a < 0) = !decide (a < 0) := by
  by_cases h1 : a < 0 <;> simp [h1] <;> omega
theorem mul_turn (a b c d : Int) : mulN (-a) b c d = turn (mulN a b c d) := by
  unfold mulN
  rw [Int.natAbs_neg]
  by_cases h : a = 0
  · subst h; simp only [Int.natAbs_zero, Nat.zero_mul]; exact round_zeroV _ _ _
  · rw [dec_neg h, show ((!decide (a < 0)) != decide (c < 0)) = !(decide (a < 0) != decide (c < 0)) by cases decide (a < 0) <;> cases decide (c < 0) <;> rfl]
    exact round_turn _ _ _
theorem div_turn (a b c d : Int) : divF (-a) b c d = turn (divF a b c d) := by
  unfold divF
  by_cases hc : c = 0
  · rw [if_pos hc, if_pos hc]; rfl
  · rw [if_neg hc, if_neg hc]
    unfold divL
    rw [Int.natAbs_neg]
    by_cases h : a = 0
    · subst h
      have e0 : (((0 : Int).natAbs / c.natAbs : Nat) : Int) = 0 := by simp
      have e1 : (0 : Int).natAbs % c.natAbs = 0 := by simp
      rw [e0, e1, digs_0]
      have e2 : ∀ x, divEnd (divGo c.natAbs 32 0 [] x) = ([], x) := fun x => by rw [divGo_stop (.inl rfl)]; rfl
      rw [e2]
      have e3 : ∀ s x, roundL s [] x = (0, 0, true) := fun s x => by unfold roundL; rw [if_pos (.inl rfl)]
      rw [e3, e3]; rfl
    · rw [dec_neg h, show ((!decide (a < 0)) != decide (c < 0)) = !(decide (a < 0) != decide (c < 0)) by cases decide (a < 0) <;> cases decide (c < 0) <;> rfl]
      exact roundL_turn _ _ _
theorem sub_turn (a b c d : Int) : addN a b (-c) d = turn (addN c d (-a) b) := by
  unfold addN
  rw [Int.natAbs_neg, Int.natAbs_neg, Int.min_comm d b]
  obtain ⟨x, hx⟩ : ∃ x, x = min b d := ⟨_, rfl⟩
  rw [← hx]
  obtain ⟨A, hA⟩ : ∃ A, A = a.natAbs * 10 ^ (b - x).toNat := ⟨_, rfl⟩
  obtain ⟨C, hC⟩ : ∃ C, C = c.natAbs * 10 ^ (d - x).toNat := ⟨_, rfl⟩
  rw [← hA, ← hC]
  have hA0 : a = 0 → A = 0 := fun h => by rw [hA, h]; simp
  have hC0 : c = 0 → C = 0 := fun h => by rw [hC, h]; simp
  have zz : ∀ s t, roundN s 0 x = turn (roundN t 0 x) := fun s t => round_zeroV s t x
  have tt : ∀ s V, roundN (!s) V x = turn (roundN s V x) := fun s V => round_turn s V x
  have t1 : ∀ V, roundN true V x = turn (roundN false V x) := fun V => tt false V
  have t2 : ∀ V, roundN false V x = turn (roundN true V x) := fun V => tt true V
  clear hA hC hx
  by_cases a0 : a = 0
  · have := hA0 a0
    subst a0; subst this
    by_cases c0 : c = 0
    · have := hC0 c0
      subst c0; subst this
      simp only [Int.neg_zero, if_true, Nat.add_zero]
      exact zz _ _
    · by_cases cn : c < 0
      · simp only [Int.neg_zero, show decide ((0 : Int) < 0) = false from rfl, show decide (-c < 0) = false by simp; omega, show decide (c < 0) = true by simp [cn], if_true, Nat.zero_add]
        rw [if_neg (by decide), if_neg (by omega), Nat.sub_zero]; exact t2 _
      · simp only [Int.neg_zero, show decide ((0 : Int) < 0) = false from rfl, show decide (-c < 0) = true by simp; omega, show decide (c < 0) = false by simp; omega, if_true, Nat.add_zero]
        rw [if_neg (by decide)]
        by_cases hc : 0 < C
        · rw [if_pos hc, Nat.sub_zero]; exact t1 _
        · have : C = 0 := by omega
          rw [if_neg hc, this]; exact zz _ _
  · by_cases c0 : c = 0
    · have := hC0 c0
      subst c0; subst this
      by_cases an : a < 0
      · simp only [Int.neg_zero, show decide ((0 : Int) < 0) = false from rfl, show decide (-a < 0) = false by simp; omega, show decide (a < 0) = true by simp [an], if_true, Nat.zero_add]
        rw [if_neg (by decide), if_neg (by omega), Nat.sub_zero]; exact t1 _
      · simp only [Int.neg_zero, show decide ((0 : Int) < 0) = false from rfl, show decide (-a < 0) = true by simp; omega, show decide (a < 0) = false by simp; omega, if_true, Nat.add_zero]
        rw [if_neg (by decide)]
        by_cases hc : 0 < A
        · rw [if_pos hc, Nat.sub_zero]; exact t2 _
        · have : A = 0 := by omega
          rw [if_neg hc, this]; exact zz _ _
    · rw [dec_neg a0, dec_neg c0]
      by_cases an : a < 0 <;> by_cases cn : c < 0
      all_goals simp only [an, cn, decide_true, decide_false, Bool.not_true, Bool.not_false, if_true]
      · rw [if_neg (show ¬ (true = false) by decide), if_neg (show ¬ (true = false) by decide)]
        by_cases h1 : A < C
        · rw [if_pos h1, if_neg (by omega)]; exact t2 _
        · rw [if_neg h1]
          by_cases h2 : C < A
          · rw [if_pos h2]; exact t1 _
          · rw [if_neg h2, show A - C = 0 by omega, show C - A = 0 by omega]; exact zz _ _
      · rw [Nat.add_comm]; exact t1 _
      · rw [Nat.add_comm]; exact t2 _
      · rw [if_neg (show ¬ (false = true) by decide), if_neg (show ¬ (false = true) by decide)]
        by_cases h1 : A < C
        · rw [if_pos h1, if_neg (by omega)]; exact t1 _
        · rw [if_neg h1]
          by_cases h2 : C < A
          · rw [if_pos h2]; exact t2 _
          · rw [if_neg h2, show A - C = 0 by omega, show C - A = 0 by omega]; exact zz _ _
theorem addN_right (a b c d : Int) : rightB (addN a b c d).1 (addN a b c d).2.1 = true := by
  unfold addN
  split
  · exact roundN_right _ _ _
  · split
    · exact roundN_right _ _ _
    · exact roundN_right _ _ _
theorem mulN_right (a b c d : Int) : rightB (mulN a b c d).1 (mulN a b c d).2.1 = true := roundN_right _ _ _

theorem divGo_dig {Y : Nat} (hY : 0 < Y) : ∀ (n r : Nat) (l : List UInt8) (e : Int), r < Y → Dig l → Dig (divGo Y n r l e).2.1
  | 0, r, l, e, _, hl => hl
  | n + 1, r, l, e, hr, hl => by
    unfold divGo
    split
    · refine divGo_dig hY n _ _ _ (Nat.mod_lt _ hY) ?_
      split
      · refine hl.append (fun x hx => ?_)
        have hq : r * 10 / Y < 10 := (Nat.div_lt_iff_lt_mul hY).2 (by omega)
        simp at hx
        obtain ⟨z, hz⟩ : ∃ z, z = r * 10 / Y := ⟨_, rfl⟩
        rw [← hz] at hq hx
        rw [hx, UInt8.toNat_ofNat']; omega
      · exact hl
    · exact hl
theorem divF_right (a b c d : Int) : rightB (divF a b c d).1 (divF a b c d).2.1 = true := by
  unfold divF
  by_cases hc : c = 0
  · rw [if_pos hc]; rfl
  · rw [if_neg hc]
    unfold divL
    have hY : 0 < c.natAbs := by omega
    have h1 := divGo_dig hY 32 (a.natAbs % c.natAbs) (digs ((a.natAbs / c.natAbs : Nat) : Int)) (b - d) (Nat.mod_lt _ hY) (digs_val _).2.1
    obtain ⟨t, ht⟩ : ∃ t, t = divGo c.natAbs 32 (a.natAbs % c.natAbs) (digs ((a.natAbs / c.natAbs : Nat) : Int)) (b - d) := ⟨_, rfl⟩
    rw [← ht] at h1 ⊢
    have h2 : Dig (divEnd t).1 := by
      unfold divEnd
      split
      · exact h1.append (fun x hx => by simp at hx; rw [hx]; decide)
      · exact h1
    rw [round_val _ _ h2]
    exact roundN_right _ _ _
theorem cmpI_turn (u v : Int) : cmpI v u = -cmpI u v := by
  unfold cmpI
  by_cases h1 : u < v
  · rw [if_pos h1, if_neg (by omega), if_neg (by omega)]; rfl
  · rw [if_neg h1]
    by_cases h2 : u = v
    · rw [if_pos h2, if_neg (by omega), if_pos h2.symm]; rfl
    · rw [if_neg h2, if_pos (by omega)]
theorem cmpI_bound (u v : Int) : -1 ≤ cmpI u v ∧ cmpI u v ≤ 1 := by
  unfold cmpI
  split
  · omega
  · split <;> omega

/-- how two numbers' values stand -/
def cmpV (a b c d : Int) : Int := cmpI (vI a b) (vI c d)
/-- a number's cells -/
def C2 (w' : World) (B : Nat) (u v : Int) : Prop := w'.cell? ⟨B, 0, none⟩ = some (.int .i64 u) ∧ w'.cell? ⟨B, 1, none⟩ = some (.int .i64 v) ∧ B < w'.heap.size
theorem C2.later {w1 w2 : World} {B : Nat} {u v : Int} (h : C2 w1 B u v) (hb : Below w1.heap.size w1 w2) : C2 w2 B u v :=
  ⟨(hb.cell (p := ⟨B, 0, none⟩) h.2.2).trans h.1, (hb.cell (p := ⟨B, 1, none⟩) h.2.2).trans h.2.1, Nat.lt_of_lt_of_le h.2.2 hb.size⟩
theorem C2.new (w1 : World) (u v : Int) : C2 (w1.alloc (.cells #[.int .i64 u, .int .i64 v] 24)) w1.heap.size u v := ⟨(Slot.new w1 u v).c0, (Slot.new w1 u v).c1, by simp⟩
/-- what the walk holds, ahead of the differences -/
def Kr (w : World) (a b c d : Int) (B : Nat) (x y : Int) (w' : World) : Prop :=
  (w'.cell? ⟨B, 0, none⟩ = some (.int .i64 x) ∧ w'.cell? ⟨B, 1, none⟩ = some (.int .i64 y) ∧ B < w'.heap.size) ∧
  w'.cell? ⟨w.heap.size, 0, none⟩ = some (.int .i64 a) ∧ w'.cell? ⟨w.heap.size, 1, none⟩ = some (.int .i64 b) ∧ w'.cell? ⟨w.heap.size + 1, 0, none⟩ = some (.int .i64 c) ∧ w'.cell? ⟨w.heap.size + 1, 1, none⟩ = some (.int .i64 d) ∧ w.heap.size + 2 ≤ w'.heap.size ∧ Tab w' ∧ Below w.heap.size w w'
theorem Kr.later {w : World} {a b c d : Int} {B : Nat} {x y : Int} {w1 w2 : World} (h : Kr w a b c d B x y w1) (hb : Below w1.heap.size w1 w2) : Kr w a b c d B x y w2 :=
  ⟨C2.later h.1 hb, Kp.later h.2 hb⟩
/-- the six results -/
def Kx (w : World) (l1 l2 l3 l4 l5 l6 : Nat × Int × Int) (w' : World) : Prop :=
  C2 w' l1.1 l1.2.1 l1.2.2 ∧ C2 w' l2.1 l2.2.1 l2.2.2 ∧ C2 w' l3.1 l3.2.1 l3.2.2 ∧ C2 w' l4.1 l4.2.1 l4.2.2 ∧ C2 w' l5.1 l5.2.1 l5.2.2 ∧ C2 w' l6.1 l6.2.1 l6.2.2 ∧ Below w.heap.size w w'
theorem Kx.later {w : World} {l1 l2 l3 l4 l5 l6 : Nat × Int × Int} {w1 w2 : World} (h : Kx w l1 l2 l3 l4 l5 l6 w1) (hb : Below w1.heap.size w1 w2) : Kx w l1 l2 l3 l4 l5 l6 w2 := by
  obtain ⟨h1, h2, h3, h4, h5, h6, h7⟩ := h
  exact ⟨h1.later hb, h2.later hb, h3.later hb, h4.later hb, h5.later hb, h6.later hb, h7.trans (hb.mono h7.size)⟩

set_option maxRecDepth 1000000 in
set_option maxHeartbeats 16000000 in
theorem signs_yes (a b c d : Int) (ha : rightB a b = true) (hc : rightB c d = true) (w : World) (ht : Tab w) :
    Calls Tryd.prog 11 #[numV a b, numV c d] w fun r w' => r = .returned (.bool true) ∧ Below w.heap.size w w' := by
  obtain ⟨ba, bb1, bb2⟩ := right_bounds ha
  obtain ⟨bc, bd1, bd2⟩ := right_bounds hc
  have AW : Hid (∀ w1, Tab w1 → Calls Tryd.prog 14 #[] w1 fun r w' => r = .returned (.bool true) ∧ Below w1.heap.size w1 w') := fun w1 h => awake_any w1 h
  have Q1 : Hid (∀ w1, Calls Tryd.prog 18 #[.agg #[.int .i64 a, .int .i64 b]] w1 fun r w' => r = .returned (.bool true) ∧ Below w1.heap.size w1 w') := by
    intro w1; have := rright_any a b w1; rw [ha] at this; exact this
  have Q2 : Hid (∀ w1, Calls Tryd.prog 18 #[.agg #[.int .i64 c, .int .i64 d]] w1 fun r w' => r = .returned (.bool true) ∧ Below w1.heap.size w1 w') := by
    intro w1; have := rright_any c d w1; rw [hc] at this; exact this
  have NG : ∀ m e, rightB m e = true → ∀ w1, Calls Tryd.prog 23 #[.agg #[.int .i64 m, .int .i64 e]] w1 fun r w' => r = .returned (.agg #[.int .i64 (-m), .int .i64 e]) ∧ Below w1.heap.size w1 w' := by
    intro m e h w1
    obtain ⟨g1, g2, g3⟩ := right_bounds h
    have := neg_any m e (by omega) (by omega) (by omega) w1; rw [show negP m e = (-m, e) from if_pos h] at this; exact this
  have N1 : Hid (∀ w1, Calls Tryd.prog 23 #[.agg #[.int .i64 a, .int .i64 b]] w1 fun r w' => r = .returned (.agg #[.int .i64 (-a), .int .i64 b]) ∧ Below w1.heap.size w1 w') := NG a b ha
  have N2 : Hid (∀ w1, Calls Tryd.prog 23 #[.agg #[.int .i64 c, .int .i64 d]] w1 fun r w' => r = .returned (.agg #[.int .i64 (-c), .int .i64 d]) ∧ Below w1.heap.size w1 w') := NG c d hc
  have N3 : Hid (∀ w1, Calls Tryd.prog 23 #[.agg #[.int .i64 (-a), .int .i64 b]] w1 fun r w' => r = .returned (.agg #[.int .i64 a, .int .i64 b]) ∧ Below w1.heap.size w1 w') := by
    intro w1; have := NG (-a) b (right_neg ha) w1; rw [Int.neg_neg] at this; exact this
  obtain ⟨k, hk⟩ : ∃ k, k = cmpV a b c d := ⟨_, rfl⟩
  have hkb : -1 ≤ cmpV a b c d ∧ cmpV a b c d ≤ 1 := cmpI_bound (vI a b) (vI c d)
  have e1 : cmpV a b c d = k := hk.symm
  have e2 : cmpV c d a b = -k := by rw [hk]; exact cmpI_turn _ _
  have e3 : cmpV (-a) b (-c) d = -k := by rw [hk]; unfold cmpV; rw [vI_neg, vI_neg, cmpI_neg, cmpI_turn]
  have CM : Hid (∀ x y z t w1, rightB x y = true → rightB z t = true → Tab w1 → Calls Tryd.prog 25 #[.agg #[.int .i64 x, .int .i64 y], .agg #[.int .i64 z, .int .i64 t]] w1 fun r w' => r = .returned (.int .i64 (cmpV x y z t)) ∧ Below w1.heap.size w1 w') :=
    fun x y z t w1 h1 h2 h3 => cmp_any x y z t h1 h2 w1 h3
  have HA := Lib.hid ha
  have HC := Lib.hid hc
  have HNA := Lib.hid (right_neg ha)
  have HNC := Lib.hid (right_neg hc)
  rw [e1] at hkb
  obtain ⟨kb0, kb1⟩ := hkb
  have hnk : IntKind.i64.wrap (-k) = -k := by rw [IntKind.wrap_i64]; omega
  obtain ⟨⟨E0, E1, q⟩, hE⟩ : ∃ R, R = addN c d (-a) b := ⟨_, rfl⟩
  obtain ⟨⟨F0, F1, rr⟩, hF⟩ : ∃ R, R = mulN a b c d := ⟨_, rfl⟩
  obtain ⟨⟨J0, J1, t⟩, hH⟩ : ∃ R, R = divF a b c d := ⟨_, rfl⟩
  have P6 : Hid (∀ w1, Tab w1 → Calls Tryd.prog 21 #[.agg #[.int .i64 a, .int .i64 b], .agg #[.int .i64 c, .int .i64 d]] w1 fun r w' => r = .returned (.tuple #[.agg #[.int .i64 (-E0), .int .i64 E1], .bool q]) ∧ Below w1.heap.size w1 w') := by
    intro w1 h; have := sub_any a b c d ha hc w1 h; rw [sub_turn, ← hE] at this; exact this
  have P8 : Hid (∀ w1, Tab w1 → Calls Tryd.prog 21 #[.agg #[.int .i64 c, .int .i64 d], .agg #[.int .i64 a, .int .i64 b]] w1 fun r w' => r = .returned (.tuple #[.agg #[.int .i64 E0, .int .i64 E1], .bool q]) ∧ Below w1.heap.size w1 w') := by
    intro w1 h; have := sub_any c d a b hc ha w1 h; rw [← hE] at this; exact this
  have P10 : Hid (∀ w1, Tab w1 → Calls Tryd.prog 27 #[.agg #[.int .i64 a, .int .i64 b], .agg #[.int .i64 c, .int .i64 d]] w1 fun r w' => r = .returned (.tuple #[.agg #[.int .i64 F0, .int .i64 F1], .bool rr]) ∧ Below w1.heap.size w1 w') := by
    intro w1 h; have := mul_any a b c d ha hc w1 h; rw [← hF] at this; exact this
  have P12 : Hid (∀ w1, Tab w1 → Calls Tryd.prog 27 #[.agg #[.int .i64 (-a), .int .i64 b], .agg #[.int .i64 c, .int .i64 d]] w1 fun r w' => r = .returned (.tuple #[.agg #[.int .i64 (-F0), .int .i64 F1], .bool rr]) ∧ Below w1.heap.size w1 w') := by
    intro w1 h; have := mul_any (-a) b c d (right_neg ha) hc w1 h; rw [mul_turn, ← hF] at this; exact this
  have P14 : Hid (∀ w1, Tab w1 → Calls Tryd.prog 29 #[.agg #[.int .i64 a, .int .i64 b], .agg #[.int .i64 c, .int .i64 d]] w1 fun r w' => r = .returned (.tuple #[.agg #[.int .i64 J0, .int .i64 J1], .bool t]) ∧ Below w1.heap.size w1 w') := by
    intro w1 h; have := div_any a b c d ha hc w1 h; rw [← hH] at this; exact this
  have P16 : Hid (∀ w1, Tab w1 → Calls Tryd.prog 29 #[.agg #[.int .i64 (-a), .int .i64 b], .agg #[.int .i64 c, .int .i64 d]] w1 fun r w' => r = .returned (.tuple #[.agg #[.int .i64 (-J0), .int .i64 J1], .bool t]) ∧ Below w1.heap.size w1 w') := by
    intro w1 h; have := div_any (-a) b c d (right_neg ha) hc w1 h; rw [div_turn, ← hH] at this; exact this
  have GE : Hid (∀ w1, Calls Tryd.prog 23 #[.agg #[.int .i64 E0, .int .i64 E1]] w1 fun r w' => r = .returned (.agg #[.int .i64 (-E0), .int .i64 E1]) ∧ Below w1.heap.size w1 w') := NG E0 E1 (by have := addN_right c d (-a) b; rw [← hE] at this; exact this)
  have GF : Hid (∀ w1, Calls Tryd.prog 23 #[.agg #[.int .i64 F0, .int .i64 F1]] w1 fun r w' => r = .returned (.agg #[.int .i64 (-F0), .int .i64 F1]) ∧ Below w1.heap.size w1 w') := NG F0 F1 (by have := mulN_right a b c d; rw [← hF] at this; exact this)
  have GH : Hid (∀ w1, Calls Tryd.prog 23 #[.agg #[.int .i64 J0, .int .i64 J1]] w1 fun r w' => r = .returned (.agg #[.int .i64 (-J0), .int .i64 J1]) ∧ Below w1.heap.size w1 w') := NG J0 J1 (by have := divF_right a b c d; rw [← hH] at this; exact this)
  have H0 := Lib.hid (Kp.first w a b c d ht)
  clear ha hc ba bb1 bb2 bc bd1 bd2 ht NG hk hE hF hH
  unfold numV
  go_enter Tryd.func11, Tryd.ntmps11
  go_wp2_with fail
  refine (AW.out _ H0.out.2.2.2.2.2.1).mono ?_
  rintro e w1 ⟨rfl, hb1⟩
  have K1 := H0.out.later hb1
  clear hb1 AW
  obtain ⟨p0, p1, p2, p3, _⟩ := id K1
  go_wp2_with fail
  refine (Q1.out _).mono ?_
  rintro e w2 ⟨rfl, hb2⟩
  have K2 := K1.later hb2
  clear hb2 p0 p1 p2 p3 K1 Q1
  obtain ⟨p0, p1, p2, p3, _⟩ := id K2
  go_wp2_with fail
  refine (Q2.out _).mono ?_
  rintro e w3 ⟨rfl, hb3⟩
  have K3 := K2.later hb3
  clear hb3 p0 p1 p2 p3 K2 Q2
  obtain ⟨p0, p1, p2, p3, _⟩ := id K3
  go_wp2_with fail
  refine (N1.out _).mono ?_
  rintro e w4 ⟨rfl, hb4⟩
  have K4 := (K3.later hb4).later (alloc_below w4 (.cells #[.int .i64 (-a), .int .i64 b] 24))
  have c5 := C2.new w4 (-a) b
  have R4 : Kr w a b c d w4.heap.size (-a) b (w4.alloc (.cells #[.int .i64 (-a), .int .i64 b] 24)) := ⟨c5, K4⟩
  clear hb4 p0 p1 p2 p3 K3 K4 c5
  obtain ⟨⟨m0, m1, _⟩, p0, p1, p2, p3, _⟩ := id R4
  go_wp2_with fail
  go_region_held3 (fun w' => (w'.cell? ⟨w4.heap.size, 0, none⟩ = some (.int .i64 (-a)) ∧ w'.cell? ⟨w4.heap.size, 1, none⟩ = some (.int .i64 b) ∧ w4.heap.size < w'.heap.size) ∧ w'.cell? ⟨w.heap.size, 0, none⟩ = some (.int .i64 a) ∧ w'.cell? ⟨w.heap.size, 1, none⟩ = some (.int .i64 b) ∧ w'.cell? ⟨w.heap.size + 1, 0, none⟩ = some (.int .i64 c) ∧ w'.cell? ⟨w.heap.size + 1, 1, none⟩ = some (.int .i64 d) ∧ w.heap.size + 2 ≤ w'.heap.size ∧ Tab w' ∧ Below w.heap.size w w')
    ((show Kr w a b c d w4.heap.size (-a) b _; with_reducible first | exact R4.later (below_dr _) | exact R5.out))
    (first
      | (go_at_call_of 23 (Value.agg #[.int .i64 (-a), .int .i64 b]); refine (N3.out _).mono ?_; rintro e w5 ⟨rfl, hb5⟩; have R5 := Lib.hid (Kr.later (show Kr w a b c d w4.heap.size (-a) b _ by assumption) hb5))
      | (go_at_call_of 23 (Value.agg #[.int .i64 c, .int .i64 d]); refine (N2.out _).mono ?_; rintro e w5 ⟨rfl, hb5⟩; have R5 := Lib.hid (Kr.later (show Kr w a b c d w4.heap.size (-a) b _ by assumption) hb5))
      | (go_at_call 25; refine (CM.out _ _ _ _ _ (by first | exact HA.out | exact HC.out | exact HNA.out | exact HNC.out) (by first | exact HA.out | exact HC.out | exact HNA.out | exact HNC.out) (show Kr w a b c d w4.heap.size (-a) b _ by assumption).2.2.2.2.2.2.1).mono ?_; rintro e w5 ⟨rfl, hb5⟩; have R5 := Lib.hid (Kr.later (show Kr w a b c d w4.heap.size (-a) b _ by assumption) hb5)))
  have RR : Kr w a b c d w4.heap.size (-a) b w5 := R5.out
  clear hb5 R4 R5 m0 m1 p0 p1 p2 p3 N1 N2 N3 CM HA HC HNA HNC e1 e2 e3 hnk kb0 kb1
  obtain ⟨⟨m0, m1, _⟩, p0, p1, p2, p3, _⟩ := id RR
  go_wp2_with fail
  refine (P6.out _ RR.2.2.2.2.2.2.1).mono ?_
  rintro e w6 ⟨rfl, hb⟩
  have RR2 := (RR.later hb).later (alloc_below w6 (.cells #[.int .i64 (-E0), .int .i64 E1] 24))
  have xw6 := C2.new w6 (-E0) E1
  clear hb RR m0 m1 p0 p1 p2 p3 P6 
  have RR := RR2
  have sw6 := xw6
  clear RR2 xw6
  obtain ⟨⟨m0, m1, _⟩, p0, p1, p2, p3, _⟩ := id RR
  go_wp2_with fail
  refine (P8.out _ RR.2.2.2.2.2.2.1).mono ?_
  rintro e w7 ⟨rfl, hb⟩
  have RR2 := (RR.later hb).later (alloc_below w7 (.cells #[.int .i64 E0, .int .i64 E1] 24))
  have xw6 := (sw6.later hb).later (alloc_below w7 (.cells #[.int .i64 E0, .int .i64 E1] 24))
  have xw7 := C2.new w7 E0 E1
  clear hb RR m0 m1 p0 p1 p2 p3 P8 sw6
  have RR := RR2
  have sw6 := xw6
  have sw7 := xw7
  clear RR2 xw6 xw7
  obtain ⟨⟨m0, m1, _⟩, p0, p1, p2, p3, _⟩ := id RR
  go_wp2_with fail
  refine (P10.out _ RR.2.2.2.2.2.2.1).mono ?_
  rintro e w8 ⟨rfl, hb⟩
  have RR2 := (RR.later hb).later (alloc_below w8 (.cells #[.int .i64 F0, .int .i64 F1] 24))
  have xw6 := (sw6.later hb).later (alloc_below w8 (.cells #[.int .i64 F0, .int .i64 F1] 24))
  have xw7 := (sw7.later hb).later (alloc_below w8 (.cells #[.int .i64 F0, .int .i64 F1] 24))
  have xw8 := C2.new w8 F0 F1
  clear hb RR m0 m1 p0 p1 p2 p3 P10 sw6 sw7
  have RR := RR2
  have sw6 := xw6
  have sw7 := xw7
  have sw8 := xw8
  clear RR2 xw6 xw7 xw8
  obtain ⟨⟨m0, m1, _⟩, p0, p1, p2, p3, _⟩ := id RR
  go_wp2_with fail
  refine (P12.out _ RR.2.2.2.2.2.2.1).mono ?_
  rintro e w9 ⟨rfl, hb⟩
  have RR2 := (RR.later hb).later (alloc_below w9 (.cells #[.int .i64 (-F0), .int .i64 F1] 24))
  have xw6 := (sw6.later hb).later (alloc_below w9 (.cells #[.int .i64 (-F0), .int .i64 F1] 24))
  have xw7 := (sw7.later hb).later (alloc_below w9 (.cells #[.int .i64 (-F0), .int .i64 F1] 24))
  have xw8 := (sw8.later hb).later (alloc_below w9 (.cells #[.int .i64 (-F0), .int .i64 F1] 24))
  have xw9 := C2.new w9 (-F0) F1
  clear hb RR m0 m1 p0 p1 p2 p3 P12 sw6 sw7 sw8
  have RR := RR2
  have sw6 := xw6
  have sw7 := xw7
  have sw8 := xw8
  have sw9 := xw9
  clear RR2 xw6 xw7 xw8 xw9
  obtain ⟨⟨m0, m1, _⟩, p0, p1, p2, p3, _⟩ := id RR
  go_wp2_with fail
  refine (P14.out _ RR.2.2.2.2.2.2.1).mono ?_
  rintro e w10 ⟨rfl, hb⟩
  have RR2 := (RR.later hb).later (alloc_below w10 (.cells #[.int .i64 J0, .int .i64 J1] 24))
  have xw6 := (sw6.later hb).later (alloc_below w10 (.cells #[.int .i64 J0, .int .i64 J1] 24))
  have xw7 := (sw7.later hb).later (alloc_below w10 (.cells #[.int .i64 J0, .int .i64 J1] 24))
  have xw8 := (sw8.later hb).later (alloc_below w10 (.cells #[.int .i64 J0, .int .i64 J1] 24))
  have xw9 := (sw9.later hb).later (alloc_below w10 (.cells #[.int .i64 J0, .int .i64 J1] 24))
  have xw10 := C2.new w10 J0 J1
  clear hb RR m0 m1 p0 p1 p2 p3 P14 sw6 sw7 sw8 sw9
  have RR := RR2
  have sw6 := xw6
  have sw7 := xw7
  have sw8 := xw8
  have sw9 := xw9
  have sw10 := xw10
  clear RR2 xw6 xw7 xw8 xw9 xw10
  obtain ⟨⟨m0, m1, _⟩, p0, p1, p2, p3, _⟩ := id RR
  go_wp2_with fail
  refine (P16.out _ RR.2.2.2.2.2.2.1).mono ?_
  rintro e w11 ⟨rfl, hb⟩
  have RR2 := (RR.later hb).later (alloc_below w11 (.cells #[.int .i64 (-J0), .int .i64 J1] 24))
  have xw6 := (sw6.later hb).later (alloc_below w11 (.cells #[.int .i64 (-J0), .int .i64 J1] 24))
  have xw7 := (sw7.later hb).later (alloc_below w11 (.cells #[.int .i64 (-J0), .int .i64 J1] 24))
  have xw8 := (sw8.later hb).later (alloc_below w11 (.cells #[.int .i64 (-J0), .int .i64 J1] 24))
  have xw9 := (sw9.later hb).later (alloc_below w11 (.cells #[.int .i64 (-J0), .int .i64 J1] 24))
  have xw10 := (sw10.later hb).later (alloc_below w11 (.cells #[.int .i64 (-J0), .int .i64 J1] 24))
  have xw11 := C2.new w11 (-J0) J1
  clear hb RR m0 m1 p0 p1 p2 p3 P16 sw6 sw7 sw8 sw9 sw10
  have RR := RR2
  have sw6 := xw6
  have sw7 := xw7
  have sw8 := xw8
  have sw9 := xw9
  have sw10 := xw10
  have sw11 := xw11
  clear RR2 xw6 xw7 xw8 xw9 xw10 xw11
  have X0 : Kx w (w6.heap.size, (-E0), E1) (w7.heap.size, E0, E1) (w8.heap.size, F0, F1) (w9.heap.size, (-F0), F1) (w10.heap.size, J0, J1) (w11.heap.size, (-J0), J1) (w11.alloc (.cells #[  .int .i64 (-J0), .int .i64 J1] 24)) := ⟨sw6, sw7, sw8, sw9, sw10, sw11, RR.2.2.2.2.2.2.2⟩
  clear RR sw6 sw7 sw8 sw9 sw10 sw11
  obtain ⟨⟨m0, m1, _⟩, ⟨m2, m3, _⟩, ⟨m4, m5, _⟩, ⟨m6, m7, _⟩, ⟨m8, m9, _⟩, ⟨m10, m11, _⟩, _⟩ := id X0
  go_wp2_with fail
  go_region_held3 (fun w' => (w'.cell? ⟨w6.heap.size, 0, none⟩ = some (.int .i64 (-E0)) ∧ w'.cell? ⟨w6.heap.size, 1, none⟩ = some (.int .i64 E1) ∧ w6.heap.size < w'.heap.size) ∧ (w'.cell? ⟨w7.heap.size, 0, none⟩ = some (.int .i64 E0) ∧ w'.cell? ⟨w7.heap.size, 1, none⟩ = some (.int .i64 E1) ∧ w7.heap.size < w'.heap.size) ∧ (w'.cell? ⟨w8.heap.size, 0, none⟩ = some (.int .i64 F0) ∧ w'.cell? ⟨w8.heap.size, 1, none⟩ = some (.int .i64 F1) ∧ w8.heap.size < w'.heap.size) ∧ (w'.cell? ⟨w9.heap.size, 0, none⟩ = some (.int .i64 (-F0)) ∧ w'.cell? ⟨w9.heap.size, 1, none⟩ = some (.int .i64 F1) ∧ w9.heap.size < w'.heap.size) ∧ (w'.cell? ⟨w10.heap.size, 0, none⟩ = some (.int .i64 J0) ∧ w'.cell? ⟨w10.heap.size, 1, none⟩ = some (.int .i64 J1) ∧ w10.heap.size < w'.heap.size) ∧ (w'.cell? ⟨w11.heap.size, 0, none⟩ = some (.int .i64 (-J0)) ∧ w'.cell? ⟨w11.heap.size, 1, none⟩ = some (.int .i64 J1) ∧ w11.heap.size < w'.heap.size) ∧ Below w.heap.size w w')
    ((show Kx w (w6.heap.size, (-E0), E1) (w7.heap.size, E0, E1) (w8.heap.size, F0, F1) (w9.heap.size, (-F0), F1) (w10.heap.size, J0, J1) (w11.heap.size, (-J0), J1) _; with_reducible first | exact X0.later (below_dr _) | exact X5.out))
    (first
      | (go_at_call_of 23 (Value.agg #[.int .i64 E0, .int .i64 E1]); refine (GE.out _).mono ?_; rintro e w12 ⟨rfl, hb12⟩; have X5 := Lib.hid (Kx.later (show Kx w (w6.heap.size, (-E0), E1) (w7.heap.size, E0, E1) (w8.heap.size, F0, F1) (w9.heap.size, (-F0), F1) (w10.heap.size, J0, J1) (w11.heap.size, (-J0), J1) _ by assumption) hb12))
      | (go_at_call_of 23 (Value.agg #[.int .i64 F0, .int .i64 F1]); refine (GF.out _).mono ?_; rintro e w12 ⟨rfl, hb12⟩; have X5 := Lib.hid (Kx.later (show Kx w (w6.heap.size, (-E0), E1) (w7.heap.size, E0, E1) (w8.heap.size, F0, F1) (w9.heap.size, (-F0), F1) (w10.heap.size, J0, J1) (w11.heap.size, (-J0), J1) _ by assumption) hb12))
      | (go_at_call_of 23 (Value.agg #[.int .i64 J0, .int .i64 J1]); refine (GH.out _).mono ?_; rintro e w12 ⟨rfl, hb12⟩; have X5 := Lib.hid (Kx.later (show Kx w (w6.heap.size, (-E0), E1) (w7.heap.size, E0, E1) (w8.heap.size, F0, F1) (w9.heap.size, (-F0), F1) (w10.heap.size, J0, J1) (w11.heap.size, (-J0), J1) _ by assumption) hb12)))
  have hfin : Below w.heap.size w w12 := X5.out.2.2.2.2.2.2
  clear hb12 X5 X0 m0 m1 m2 m3 m4 m5 m6 m7 m8 m9 m10 m11
  go_wp2
  go_ret
  exact ⟨rfl, hfin⟩
set_option maxHeartbeats 1000000 in
theorem signs_no1 (a b c d : Int) (ha : rightB a b = false) (w : World) (ht : Tab w) :
    Calls Tryd.prog 11 #[numV a b, numV c d] w fun r w' => r = .returned (.bool true) ∧ Below w.heap.size w w' := by
  have AW : Hid (∀ w1, Tab w1 → Calls Tryd.prog 14 #[] w1 fun r w' => r = .returned (.bool true) ∧ Below w1.heap.size w1 w') := fun w1 h => awake_any w1 h
  have Q1 : Hid (∀ w1, Calls Tryd.prog 18 #[.agg #[.int .i64 a, .int .i64 b]] w1 fun r w' => r = .returned (.bool false) ∧ Below w1.heap.size w1 w') := by
    intro w1; have := rright_any a b w1; rw [ha] at this; exact this
  have H0 := Lib.hid (Kp.first w a b c d ht)
  clear ha ht
  unfold numV
  go_enter Tryd.func11, Tryd.ntmps11
  go_wp2_with fail
  refine (AW.out _ H0.out.2.2.2.2.2.1).mono ?_
  rintro e w1 ⟨rfl, hb1⟩
  have K1 := H0.out.later hb1
  clear hb1 AW
  obtain ⟨p0, p1, p2, p3, _⟩ := id K1
  go_wp2_with fail
  refine (Q1.out _).mono ?_
  rintro e w2 ⟨rfl, hb2⟩
  have K2 := K1.later hb2
  clear hb2 p0 p1 p2 p3 K1 Q1
  go_wp2
  go_ret
  exact ⟨rfl, K2.2.2.2.2.2.2⟩
set_option maxHeartbeats 1000000 in
theorem signs_no2 (a b c d : Int) (ha : rightB a b = true) (hc : rightB c d = false) (w : World) (ht : Tab w) :
    Calls Tryd.prog 11 #[numV a b, numV c d] w fun r w' => r = .returned (.bool true) ∧ Below w.heap.size w w' := by
  have AW : Hid (∀ w1, Tab w1 → Calls Tryd.prog 14 #[] w1 fun r w' => r = .returned (.bool true) ∧ Below w1.heap.size w1 w') := fun w1 h => awake_any w1 h
  have Q1 : Hid (∀ w1, Calls Tryd.prog 18 #[.agg #[.int .i64 a, .int .i64 b]] w1 fun r w' => r = .returned (.bool true) ∧ Below w1.heap.size w1 w') := by
    intro w1; have := rright_any a b w1; rw [ha] at this; exact this
  have Q2 : Hid (∀ w1, Calls Tryd.prog 18 #[.agg #[.int .i64 c, .int .i64 d]] w1 fun r w' => r = .returned (.bool false) ∧ Below w1.heap.size w1 w') := by
    intro w1; have := rright_any c d w1; rw [hc] at this; exact this
  have H0 := Lib.hid (Kp.first w a b c d ht)
  clear ha ht hc
  unfold numV
  go_enter Tryd.func11, Tryd.ntmps11
  go_wp2_with fail
  refine (AW.out _ H0.out.2.2.2.2.2.1).mono ?_
  rintro e w1 ⟨rfl, hb1⟩
  have K1 := H0.out.later hb1
  clear hb1 AW
  obtain ⟨p0, p1, p2, p3, _⟩ := id K1
  go_wp2_with fail
  refine (Q1.out _).mono ?_
  rintro e w2 ⟨rfl, hb2⟩
  have K2 := K1.later hb2
  clear hb2 p0 p1 p2 p3 K1 Q1
  obtain ⟨p0, p1, p2, p3, _⟩ := id K2
  go_wp2_with fail
  refine (Q2.out _).mono ?_
  rintro e w3 ⟨rfl, hb3⟩
  have K3 := K2.later hb3
  clear hb3 p0 p1 p2 p3 K2 Q2
  go_wp2
  go_ret
  exact ⟨rfl, K3.2.2.2.2.2.2⟩
/-- the law, of every two numbers -/
theorem signs_any (a b c d : Int) (w : World) (ht : Tab w) :
    Calls Tryd.prog 11 #[numV a b, numV c d] w fun r w' => r = .returned (.bool true) ∧ Below w.heap.size w w' := by
  cases ha : rightB a b with
  | false => exact signs_no1 a b c d ha w ht
  | true =>
    cases hc : rightB c d with
    | false => exact signs_no2 a b c d ha hc w ht
    | true => exact signs_yes a b c d ha hc w ht
end Go.Proofs.YtkdjdoncmihkfaaDoor
