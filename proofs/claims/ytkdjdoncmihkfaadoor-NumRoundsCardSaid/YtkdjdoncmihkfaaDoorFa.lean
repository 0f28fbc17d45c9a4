/- Int and Floor: values and walks. -/
import Derived.Test.YtkdjdoncmihkfaaDoorRm
namespace Go.Proofs.YtkdjdoncmihkfaaDoor
open Go.RowKit

def intGo : Nat → Int → Int × Bool
  | 0, v => (v, true)
  | k + 1, v => if 922337203685477580 < v ∨ v < -922337203685477580 then (0, false) else intGo k (10 * v)
def intP (m e : Int) : Int × Bool := if rightB m e = true ∧ 0 ≤ e then intGo e.toNat m else (0, false)
theorem intGo_val : ∀ (k : Nat) (v : Int), v.natAbs * 10 ^ k ≤ 9223372036854775800 → intGo k v = (v * ((10 ^ k : Nat) : Int), true)
  | 0, v, _ => by simp [intGo]
  | k + 1, v, h => by
    rw [Nat.pow_succ, ← Nat.mul_assoc] at h
    have hp := pow_pos10 k
    have h1 : v.natAbs * 1 ≤ v.natAbs * 10 ^ k := Nat.mul_le_mul_left _ hp
    rw [intGo, if_neg (by omega), intGo_val k (10 * v) (by rw [Int.natAbs_mul, show (10 : Int).natAbs = 10 from rfl, Nat.mul_assoc, Nat.mul_comm 10, ← Nat.mul_assoc] at *; omega), Nat.pow_succ]
    rw [Int.natCast_mul, ← Int.mul_assoc, Int.mul_comm 10 v, Int.mul_assoc v 10, Int.mul_assoc]
    congr 2
    exact Int.mul_comm _ _
/-- the whole number beneath, of a number with digits behind the point -/
def whole (m e : Int) : Int := m.tdiv ((10 ^ (-e).toNat : Nat) : Int) - (if m < 0 then 1 else 0)
def floorP (m e : Int) : Int × Int := if rightB m e = true then (if 0 ≤ e then (m, e) else ((makeL (whole m e) 0).1, (makeL (whole m e) 0).2.1)) else (0, 0)
theorem whole_abs {m e : Int} : (whole m e).natAbs ≤ m.natAbs + 1 := by
  unfold whole
  have h1 : (m.tdiv ((10 ^ (-e).toNat : Nat) : Int)).natAbs = m.natAbs / (10 ^ (-e).toNat) := Int.natAbs_tdiv m ((10 ^ (-e).toNat : Nat) : Int)
  have h2 : m.natAbs / (10 ^ (-e).toNat) ≤ m.natAbs := Nat.div_le_self _ _
  split <;> omega
/-- what is made of a whole number below 10 to the 15 is that -/
theorem whole_made (neg : Bool) (V : Nat) (hV : V < 10 ^ 15) : (roundN neg V 0).2.2 = true ∧ 0 ≤ (roundN neg V 0).2.1 ∧ vI (roundN neg V 0).1 (roundN neg V 0).2.1 = (if neg then -(V : Int) else (V : Int)) * ((10 ^ 40 : Nat) : Int) := by
  by_cases h0 : V = 0
  · subst h0
    unfold roundN; rw [if_pos (.inl rfl)]
    cases neg <;> simp [vI]
  · have hr : roundN neg V 0 = endN neg V 0 := by
      unfold roundN
      rw [if_neg (fun hh => hh.elim h0 (fun hh => by omega)), if_neg (by omega)]
      have hn : nd V - 15 = 0 := by have := (nd_le_iff V 15).2 hV; omega
      unfold mainN
      rw [hn, evenN_zero, show (-40 - ((0 : Int) + ((0 : Nat) : Int))).toNat = 0 by omega, evenN_zero, show ((0 : Int) + ((0 : Nat) : Int) + ((0 : Nat) : Int)) = 0 by omega]
    rw [hr]
    obtain ⟨e1, e2⟩ := end_val neg V 0 (by omega)
    have e40 : ((0 : Int) + 40).toNat = 40 := by omega
    rw [e40] at e1 e2
    have hlt : V * 10 ^ 40 < 10 ^ 80 := by
      have h1 : V * 10 ^ 40 < 10 ^ 15 * 10 ^ 40 := Nat.mul_lt_mul_of_pos_right hV (pow_pos10 _)
      rw [← Nat.pow_add] at h1
      have := pow_le10 (show 15 + 40 ≤ 80 by omega)
      omega
    refine ⟨by rw [e1]; simpa using hlt, ?_, ?_⟩
    · unfold endN
      split
      · exact Int.le_refl _
      · split
        · exact Int.le_refl _
        · show 0 ≤ (0 : Int) + ((tz V).2 : Int); omega
    · rw [e2 hlt]
      cases neg <;> simp [Int.neg_mul]
theorem makeL_whole (W : Int) (h : W.natAbs < 10 ^ 15) : (makeL W 0).2.2 = true ∧ 0 ≤ (makeL W 0).2.1 ∧ vI (makeL W 0).1 (makeL W 0).2.1 = W * ((10 ^ 40 : Nat) : Int) := by
  obtain ⟨h1, h2, h3⟩ := whole_made (decide (W < 0)) W.natAbs h
  rw [makeL_val]
  refine ⟨h1, h2, ?_⟩
  rw [h3]
  congr 1
  by_cases hw : W < 0
  · rw [if_pos (by simpa using hw)]; omega
  · rw [if_neg (by simpa using hw)]; omega
theorem floorP_right (m e : Int) : rightB (floorP m e).1 (floorP m e).2 = true := by
  unfold floorP
  split
  · split
    · assumption
    · rw [makeL_val]; exact roundN_right _ _ _
  · rfl
/-- what Floor comes to: a whole number, not above, and 1 more is -/
theorem floor_val {m e : Int} (h : rightB m e = true) (hv : (vI m e).natAbs < 10 ^ 14 * 10 ^ 40) : ∃ W : Int, -100000000000000 ≤ W ∧ W < 100000000000000 ∧ 0 ≤ (floorP m e).2 ∧ vI (floorP m e).1 (floorP m e).2 = W * ((10 ^ 40 : Nat) : Int) ∧ W * ((10 ^ 40 : Nat) : Int) ≤ vI m e ∧ vI m e < (W + 1) * ((10 ^ 40 : Nat) : Int) := by
  obtain ⟨T, hT⟩ : ∃ T : Nat, T = 10 ^ 40 := ⟨_, rfl⟩
  have hTp : 0 < T := by rw [hT]; exact pow_pos10 40
  have hTi : (0 : Int) < (T : Int) := by omega
  have e14 : 10 ^ 14 = 100000000000000 := by decide
  rw [← hT, e14] at hv
  obtain ⟨hb1, hb2, hb3⟩ := right_bounds h
  unfold floorP
  rw [if_pos h]
  by_cases he : 0 ≤ e
  · rw [if_pos he]
    have hv2 : vI m e = (m * ((10 ^ e.toNat : Nat) : Int)) * (T : Int) := by
      unfold vI
      rw [Int.mul_assoc, show (e + 40).toNat = e.toNat + 40 by omega, Int.pow_add, hT]
      simp
    obtain ⟨W, hW⟩ : ∃ W : Int, W = m * ((10 ^ e.toNat : Nat) : Int) := ⟨_, rfl⟩
    rw [← hW] at hv2
    have hWb : W.natAbs < 100000000000000 := by
      rw [hv2, Int.natAbs_mul] at hv
      exact Nat.lt_of_mul_lt_mul_right hv
    refine ⟨W, by omega, by omega, he, by rw [← hT]; exact hv2, by rw [← hT, hv2]; exact Int.le_refl _, ?_⟩
    rw [← hT, hv2, Int.add_mul]; omega
  · rw [if_neg he]
    obtain ⟨k, hk⟩ : ∃ k, k = (-e).toNat := ⟨_, rfl⟩
    obtain ⟨P, hP⟩ : ∃ P : Nat, P = 10 ^ k := ⟨_, rfl⟩
    obtain ⟨Q, hQ⟩ : ∃ Q : Nat, Q = 10 ^ (e + 40).toNat := ⟨_, rfl⟩
    have hPQ : T = P * Q := by rw [hT, hP, hQ, ← Nat.pow_add]; congr 1; omega
    have hPp : 0 < P := by rw [hP]; exact pow_pos10 _
    have hQp : 0 < Q := by rw [hQ]; exact pow_pos10 _
    have hvm : vI m e = m * (Q : Int) := by unfold vI; rw [hQ]; simp
    have hwd : whole m e = m.tdiv (P : Int) - (if m < 0 then 1 else 0) := by unfold whole; rw [← hk, ← hP]
    have hab : (m.tdiv (P : Int)).natAbs = m.natAbs / P := Int.natAbs_tdiv m (P : Int)
    -- the digits behind the point are not all 0
    have hrest : m < 0 → m.natAbs % P ≠ 0 := by
      intro hm hz
      have := right_mod h (by omega)
      have hd : P ∣ m.natAbs := Nat.dvd_of_mod_eq_zero hz
      have h10 : 10 ∣ P := by
        rw [hP, show k = (k - 1) + 1 by omega, Nat.pow_succ]; exact Nat.dvd_mul_left _ _
      exact this.1 (Nat.mod_eq_zero_of_dvd (Nat.dvd_trans h10 hd))
    have hdm := Nat.div_add_mod m.natAbs P
    have hml := Nat.mod_lt m.natAbs hPp
    obtain ⟨q, hq⟩ : ∃ q, q = m.natAbs / P := ⟨_, rfl⟩
    obtain ⟨r, hr⟩ : ∃ r, r = m.natAbs % P := ⟨_, rfl⟩
    rw [← hq] at hab hdm
    rw [← hr] at hrest hdm hml
    have hqm : q ≤ m.natAbs := by rw [hq]; exact Nat.div_le_self _ _
    have hqP : ((P * q : Nat) : Int) = (P : Int) * (q : Int) := Int.natCast_mul _ _
    -- W·P ≤ m < (W+1)·P
    have hsgn : (0 ≤ m → m.tdiv (P : Int) = (q : Int)) ∧ (m < 0 → m.tdiv (P : Int) = -(q : Int)) := by
      constructor
      · intro h0
        have := Int.tdiv_nonneg h0 (show (0 : Int) ≤ (P : Int) by omega)
        omega
      · intro h0
        have := Int.tdiv_nonneg (show 0 ≤ -m by omega) (show (0 : Int) ≤ (P : Int) by omega)
        rw [Int.neg_tdiv] at this
        omega
    obtain ⟨W, hW⟩ : ∃ W, W = whole m e := ⟨_, rfl⟩
    have hWP : W * (P : Int) ≤ m ∧ m < (W + 1) * (P : Int) := by
      rw [hW, hwd]
      by_cases hm : m < 0
      · rw [if_pos hm, hsgn.2 hm, Int.add_mul, Int.sub_mul, Int.neg_mul, Int.mul_comm (q : Int)]
        have := hrest hm
        omega
      · rw [if_neg hm, hsgn.1 (by omega), Int.add_mul, Int.sub_mul, Int.mul_comm (q : Int)]
        omega
    have e1 : W * (T : Int) = (W * (P : Int)) * (Q : Int) := by rw [hPQ, Int.natCast_mul, Int.mul_assoc]
    have e2 : (W + 1) * (T : Int) = ((W + 1) * (P : Int)) * (Q : Int) := by rw [hPQ, Int.natCast_mul, Int.mul_assoc]
    have lo : W * (T : Int) ≤ vI m e := by rw [e1, hvm]; exact Int.mul_le_mul_of_nonneg_right hWP.1 (by omega)
    have hi : vI m e < (W + 1) * (T : Int) := by rw [e2, hvm]; exact Int.mul_lt_mul_of_pos_right hWP.2 (by omega)
    have b1 : -100000000000000 ≤ W := by
      by_cases hc : -100000000000000 ≤ W
      · exact hc
      · have : (W + 1) * (T : Int) ≤ (-100000000000000) * (T : Int) := Int.mul_le_mul_of_nonneg_right (by omega) (by omega)
        omega
    have b2 : W < 100000000000000 := by
      by_cases hc : W < 100000000000000
      · exact hc
      · have : 100000000000000 * (T : Int) ≤ W * (T : Int) := Int.mul_le_mul_of_nonneg_right (by omega) (by omega)
        omega
    have e15 : 10 ^ 15 = 1000000000000000 := by decide
    obtain ⟨g1, g2, g3⟩ := makeL_whole W (by omega)
    rw [← hW, ← hT]
    rw [← hT] at g3
    exact ⟨W, b1, b2, g2, g3, lo, hi⟩
end Go.Proofs.YtkdjdoncmihkfaaDoor
