/- Walk over the law AddrOrder: of two columns the lesser one's letters are fewer, or as many, and come first. -/
import Derived.Test.YtkggooemnahgpaaDoorWe
namespace Go.Proofs.YtkggooemnahgpaaDoor
open Go.RowKit

theorem letB_lt (m n : Int) (h0 : 0 ≤ m) (h1 : m < 26) (h2 : 0 ≤ n) (h3 : n < 26) : letB m < letB n ↔ m < n := by
  have e1 := letB_nat m h0 h1
  have e2 := letB_nat n h2 h3
  rw [UInt8.lt_iff_toNat_lt]; omega
theorem letB_eq (m n : Int) (h0 : 0 ≤ m) (h1 : m < 26) (h2 : 0 ≤ n) (h3 : n < 26) : letB m = letB n ↔ m = n := by
  have e1 := letB_nat m h0 h1
  have e2 := letB_nat n h2 h3
  rw [← UInt8.toNat_inj]; omega

theorem let_order (a b : Int) (a0 : 0 ≤ a) (a1 : a ≤ 18277) (b0 : 0 ≤ b) (b1 : b ≤ 18277) :
    a < b ↔ ((letL a).length < (letL b).length ∨ (letL a).length = (letL b).length ∧ letL a < letL b) := by
  unfold letL
  have q1 := letB_lt (a % 26) (b % 26) (by omega) (by omega) (by omega) (by omega)
  have q2 := letB_lt ((a / 26 - 1) % 26) ((b / 26 - 1) % 26) (by omega) (by omega) (by omega) (by omega)
  have q3 := letB_lt (((a / 26 - 1) / 26 - 1) % 26) (((b / 26 - 1) / 26 - 1) % 26) (by omega) (by omega) (by omega) (by omega)
  have p1 := letB_eq (a % 26) (b % 26) (by omega) (by omega) (by omega) (by omega)
  have p2 := letB_eq ((a / 26 - 1) % 26) ((b / 26 - 1) % 26) (by omega) (by omega) (by omega) (by omega)
  have p3 := letB_eq (((a / 26 - 1) / 26 - 1) % 26) (((b / 26 - 1) / 26 - 1) % 26) (by omega) (by omega) (by omega) (by omega)
  by_cases c1 : a < 26 <;> by_cases c2 : b < 26 <;> by_cases c3 : a < 702 <;> by_cases c4 : b < 702
  all_goals try (exfalso; omega)
  all_goals simp only [c1, c2, c3, c4, if_true, if_false, List.length_cons, List.length_nil, List.cons_lt_cons_iff, q1, q2, q3, p1, p2, p3, List.lt_irrefl, and_false, or_false]
  all_goals clear q1 q2 q3 p1 p2 p3
  all_goals try (clear a0 b0; omega)
  · have e1 : a % 26 = a := by omega
    have e2 : b % 26 = b := by omega
    rw [e1, e2]; simp
  · have e1 : (a / 26 - 1) % 26 = a / 26 - 1 := by omega
    have e2 : (b / 26 - 1) % 26 = b / 26 - 1 := by omega
    rw [e1, e2]
    clear e1 e2
    simp only [Nat.lt_irrefl, false_or, true_and]
    constructor
    · intro h; omega
    · rintro (h | ⟨h1, h2⟩) <;> omega
  · have e1 : ((a / 26 - 1) / 26 - 1) % 26 = (a / 26 - 1) / 26 - 1 := by omega
    have e2 : ((b / 26 - 1) / 26 - 1) % 26 = (b / 26 - 1) / 26 - 1 := by omega
    rw [e1, e2]
    clear e1 e2
    simp only [Nat.lt_irrefl, false_or, true_and]
    have x1 : a = 26 * (26 * ((a / 26 - 1) / 26) + (a / 26 - 1) % 26 + 1) + a % 26 := by omega
    have x2 : b = 26 * (26 * ((b / 26 - 1) / 26) + (b / 26 - 1) % 26 + 1) + b % 26 := by omega
    have y1 : 0 ≤ (a / 26 - 1) % 26 ∧ (a / 26 - 1) % 26 < 26 ∧ 0 ≤ a % 26 ∧ a % 26 < 26 := by omega
    have y2 : 0 ≤ (b / 26 - 1) % 26 ∧ (b / 26 - 1) % 26 < 26 ∧ 0 ≤ b % 26 ∧ b % 26 < 26 := by omega
    generalize (a / 26 - 1) / 26 = p at *
    generalize (b / 26 - 1) / 26 = q at *
    generalize (a / 26 - 1) % 26 = r at *
    generalize (b / 26 - 1) % 26 = t at *
    generalize a % 26 = u at *
    generalize b % 26 = v at *
    constructor
    · intro h; omega
    · rintro (h | ⟨h1, h2 | ⟨h3, h4⟩⟩) <;> omega

theorem bl_eq : ∀ (x y : List UInt8), Op.bytesLess x y = decide (x < y)
  | [], [] => by simp [Op.bytesLess]
  | _ :: _, [] => by simp [Op.bytesLess]
  | [], _ :: _ => by simp [Op.bytesLess]
  | a :: x, b :: y => by
    rw [Op.bytesLess, bl_eq x y]
    simp only [List.cons_lt_cons_iff]
    by_cases h1 : a < b <;> by_cases h2 : a = b <;> by_cases h3 : x < y <;> simp [h1, h2, h3]

theorem order_none (a b : Int) (w : World) (ht : Tab w) (h : letS a = [] ∨ letS b = []) :
    Calls Tryd.prog 7 #[.int .i64 a, .int .i64 b] w fun e w' => e = .returned (.bool true) ∧ Below w.heap.size w w' := by
  obtain ⟨t, hT⟩ : ∃ t, letS a = t := ⟨_, rfl⟩
  obtain ⟨u, hU⟩ : ∃ t, letS b = t := ⟨_, rfl⟩
  rw [hT, hU] at h
  have HT := Lib.hid hT
  have HU := Lib.hid hU
  have HF := Lib.hid h
  clear hT hU h
  go_enter Tryd.func7, Tryd.ntmps7
  go_wp2_with fail
  refine (awake_any _ ht).mono ?_
  rintro e w1 ⟨rfl, hb1⟩
  go_wp2_with fail
  refine (letters_any _ _).mono ?_
  rw [HT.out]
  rintro e w2 ⟨rfl, hb2⟩
  have hb3 := hb1.trans (hb2.mono hb1.size)
  go_wp2_with fail
  refine (letters_any _ _).mono ?_
  rw [HU.out]
  rintro e w3 ⟨rfl, hb4⟩
  have hb5 := hb3.trans (hb4.mono hb3.size)
  clear hb1 hb2 hb3 hb4
  rcases HF.out with rfl | rfl
  · go_wp2_with fail
    go_ret
    exact ⟨rfl, hb5⟩
  · by_cases h0 : t = []
    · subst h0
      go_wp2_with fail
      go_ret
      exact ⟨rfl, hb5⟩
    · go_wp2_with fail
      go_ret
      exact ⟨rfl, hb5⟩

theorem order_some (a b : Int) (w : World) (ht : Tab w) (hF : a < b ↔ ((letS a).length < (letS b).length ∨ (letS a).length = (letS b).length ∧ letS a < letS b)) :
    Calls Tryd.prog 7 #[.int .i64 a, .int .i64 b] w fun e w' => e = .returned (.bool true) ∧ Below w.heap.size w w' := by
  obtain ⟨t, hT⟩ : ∃ t, letS a = t := ⟨_, rfl⟩
  obtain ⟨u, hU⟩ : ∃ t, letS b = t := ⟨_, rfl⟩
  rw [hT, hU] at hF
  have HT := Lib.hid hT
  have HU := Lib.hid hU
  have HF := Lib.hid hF
  clear hT hU hF
  go_enter Tryd.func7, Tryd.ntmps7
  go_wp2_with fail
  refine (awake_any _ ht).mono ?_
  rintro e w1 ⟨rfl, hb1⟩
  go_wp2_with fail
  refine (letters_any _ _).mono ?_
  rw [HT.out]
  rintro e w2 ⟨rfl, hb2⟩
  have hb3 := hb1.trans (hb2.mono hb1.size)
  go_wp2_with fail
  refine (letters_any _ _).mono ?_
  rw [HU.out]
  rintro e w3 ⟨rfl, hb4⟩
  have hb5 := hb3.trans (hb4.mono hb3.size)
  clear hb1 hb2 hb3 hb4
  by_cases c1 : t.length < u.length
  · have c2 : a < b := HF.out.2 (.inl c1)
    go_wp2_with fail
    all_goals (go_ret; exact ⟨rfl, hb5⟩)
  · by_cases c2 : t.length = u.length
    · have c3 := Lib.hid c2
      have c4 := bl_eq t u
      by_cases c5 : t < u
      · have c6 : a < b := HF.out.2 (.inr ⟨c2, c5⟩)
        go_wp2_with fail
        all_goals (go_ret; exact ⟨rfl, hb5⟩)
      · have c6 : ¬ a < b := fun h => by
          rcases HF.out.1 h with h | h
          · exact c1 h
          · exact c5 h.2
        go_wp2_with fail
        all_goals (go_ret; exact ⟨by first | rfl | (simp; omega), hb5⟩)
    · have c6 : ¬ a < b := fun h => by
        rcases HF.out.1 h with h | h
        · exact c1 h
        · exact c2 h.1
      have c7 : ((t.length : Int) == (u.length : Int)) = false := by rw [beq_eq_false_iff_ne]; omega
      have c8 : u.length < t.length := by omega
      go_wp2_with fail
      all_goals (go_ret; exact ⟨by first | rfl | (simp; omega), hb5⟩)

/-- AddrOrder, at every input -/
theorem order_any (a b : Int) (w : World) (ht : Tab w) :
    Calls Tryd.prog 7 #[.int .i64 a, .int .i64 b] w fun e w' => e = .returned (.bool true) ∧ Below w.heap.size w w' := by
  by_cases ha : rightB 0 a = true
  · by_cases hb : rightB 0 b = true
    · refine order_some a b w ht ?_
      have ha' : 0 ≤ a ∧ a ≤ 18277 := by simpa [rightB] using ha
      have hb' : 0 ≤ b ∧ b ≤ 18277 := by simpa [rightB] using hb
      unfold letS; rw [if_pos ha, if_pos hb]
      exact let_order a b ha'.1 ha'.2 hb'.1 hb'.2
    · exact order_none a b w ht (.inr (by unfold letS; rw [if_neg hb]))
  · exact order_none a b w ht (.inl (by unfold letS; rw [if_neg ha]))
end Go.Proofs.YtkggooemnahgpaaDoor
