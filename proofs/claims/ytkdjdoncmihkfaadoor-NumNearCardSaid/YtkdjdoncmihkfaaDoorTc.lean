/- The quotient: long division, and what is rounded. -/
import Derived.Test.YtkdjdoncmihkfaaDoorRm
import Derived.Test.YtkdjdoncmihkfaaDoorOm
namespace Go.Proofs.YtkdjdoncmihkfaaDoor
open Go.RowKit

/-- what stands farther behind counts as something more -/
theorem evenM_tail {V k i t : Nat} {M : Bool} (hk : 1 ≤ k) (ht : t < 10 ^ i) (hm : t ≠ 0 ∨ M = true) : evenM (V * 10 ^ i + t) (k + i) M = evenM V k true := by
  have hI := pow_pos10 i
  have hP := pow_pos10 k
  obtain ⟨I, hIe⟩ : ∃ I, I = 10 ^ i := ⟨_, rfl⟩
  obtain ⟨P, hPe⟩ : ∃ P, P = 10 ^ k := ⟨_, rfl⟩
  have h10 : P % 2 = 0 := by
    rw [hPe, show k = (k - 1) + 1 by omega, Nat.pow_succ]; omega
  have hpow : 10 ^ (k + i) = P * I := by rw [Nat.pow_add, hPe, hIe]
  have hdm := Nat.div_add_mod V P
  have hml := Nat.mod_lt V (show 0 < P by omega)
  obtain ⟨A, hA⟩ : ∃ A, A = V / P := ⟨_, rfl⟩
  obtain ⟨B, hB⟩ : ∃ B, B = V % P := ⟨_, rfl⟩
  rw [← hA, ← hB] at hdm
  rw [← hB] at hml
  rw [← hIe] at ht hI
  have hBI : B * I + t < P * I := by
    have : (B + 1) * I ≤ P * I := Nat.mul_le_mul_right _ hml
    rw [Nat.add_mul, Nat.one_mul] at this
    omega
  have hV : V * I + t = P * I * A + (B * I + t) := by
    rw [← hdm, Nat.add_mul, Nat.mul_right_comm]; omega
  have hd : (V * I + t) / (P * I) = A := by
    rw [hV, Nat.mul_add_div (Nat.mul_pos (by omega) hI), Nat.div_eq_of_lt hBI, Nat.add_zero]
  have hr : (V * I + t) % (P * I) = B * I + t := by
    rw [hV, Nat.mul_add_mod, Nat.mod_eq_of_lt hBI]
  unfold evenM
  rw [hpow, ← hIe, hd, hr, ← hPe, ← hA, ← hB]
  by_cases h : P ≤ 2 * B
  · have h1 : P * I ≤ 2 * B * I := Nat.mul_le_mul_right _ h
    rw [Nat.mul_assoc] at h1
    rw [if_pos, if_pos]
    · by_cases hlt : P < 2 * B
      · exact .inl hlt
      · exact .inr ⟨by omega, .inl rfl⟩
    · by_cases ht0 : t = 0
      · by_cases hlt : P * I < 2 * (B * I + t)
        · exact .inl hlt
        · exact .inr ⟨by omega, .inl (hm.resolve_left (fun h => h ht0))⟩
      · exact .inl (by omega)
  · have h1 : (2 * B + 2) * I ≤ P * I := Nat.mul_le_mul_right _ (by omega)
    rw [Nat.add_mul, Nat.mul_assoc] at h1
    rw [if_neg (by omega), if_neg (by omega)]
theorem nd_tail {V i t : Nat} (hV : V ≠ 0) (ht : t < 10 ^ i) : nd (V * 10 ^ i + t) = nd V + i := by
  have h1 := nd_scale hV i
  have h2 : nd (V * 10 ^ i) ≤ nd (V * 10 ^ i + t) := nd_mono (Nat.le_add_right _ _)
  have h3 : nd (V * 10 ^ i + t) ≤ nd V + i := by
    rw [nd_le_iff, Nat.pow_add]
    have : (V + 1) * 10 ^ i ≤ 10 ^ nd V * 10 ^ i := Nat.mul_le_mul_right _ (lt_pow_nd V)
    rw [Nat.add_mul, Nat.one_mul] at this
    omega
  omega
/-- a value with more behind is rounded as its first digits with one more -/
theorem nearM_tail (s : Bool) {V i t : Nat} {M : Bool} (x : Int) (hV : 16 ≤ nd V) (ht : t < 10 ^ i) (hm : t ≠ 0 ∨ M = true) : nearM s (V * 10 ^ i + t) (x - i) M = nearM s (V * 10 + 1) (x - 1) false := by
  have hV0 : V ≠ 0 := by intro h; rw [h, nd_zero] at hV; omega
  have n1 := nd_tail hV0 ht
  have n2 : nd (V * 10 + 1) = nd V + 1 := by
    have := nd_tail (i := 1) (t := 1) hV0 (by decide)
    simpa using this
  have e1 : evenM (V * 10 ^ i + t) (nd V + i - 15) M = evenM V (nd V - 15) true := by
    rw [show nd V + i - 15 = (nd V - 15) + i by omega]
    exact evenM_tail (by omega) ht hm
  have e2 : evenM (V * 10 + 1) (nd V + 1 - 15) false = evenM V (nd V - 15) true := by
    rw [show nd V + 1 - 15 = (nd V - 15) + 1 by omega]
    have := evenM_tail (V := V) (k := nd V - 15) (i := 1) (t := 1) (M := false) (by omega) (by decide) (.inl (by decide))
    simpa using this
  unfold nearM
  rw [n1, n2, if_pos (show 15 < nd V + i by omega), if_pos (show 15 < nd V + 1 by omega), e1, e2]
  rw [show x - (i : Int) + ((nd V + i - 15 : Nat) : Int) = x - 1 + ((nd V + 1 - 15 : Nat) : Int) by omega]

/-- what the program's long division holds -/
theorem divGo_val {Y : Nat} (hY : 0 < Y) (X : Nat) : ∀ (n r : Nat) (l : List UInt8) (e : Int) (j : Nat), r < Y → Dig l → NZ l → valN l * Y + r = X * 10 ^ j → Enough Y n r l →
    ∃ i, (divGo Y n r l e).1 < Y ∧ Dig (divGo Y n r l e).2.1 ∧ NZ (divGo Y n r l e).2.1 ∧ i ≤ n ∧ (divGo Y n r l e).2.2 = e - i ∧ valN (divGo Y n r l e).2.1 * Y + (divGo Y n r l e).1 = X * 10 ^ (j + i) ∧ ((divGo Y n r l e).1 = 0 ∨ 17 ≤ (divGo Y n r l e).2.1.length)
  | n, r, l, e, j, hr, hd, hz, hv, he => by
    by_cases hs : r = 0 ∨ ¬ l.length < 17
    · rw [divGo_stop hs]
      exact ⟨0, hr, hd, hz, Nat.zero_le _, by simp, by simpa using hv, hs.elim .inl (fun h => .inr (show 17 ≤ l.length by omega))⟩
    · have hr0 : r ≠ 0 := fun h => hs (.inl h)
      have hl : l.length < 17 := Classical.byContradiction fun h => hs (.inr h)
      obtain ⟨m, rfl⟩ := enough_pos he hr0 hl
      rw [divGo_go hr0 hl]
      have hq : r * 10 / Y < 10 := (Nat.div_lt_iff_lt_mul hY).2 (by omega)
      have hdm := Nat.div_add_mod (r * 10) Y
      have hml := Nat.mod_lt (r * 10) hY
      obtain ⟨q, hqe⟩ : ∃ q, q = r * 10 / Y := ⟨_, rfl⟩
      obtain ⟨r', hre⟩ : ∃ q, q = r * 10 % Y := ⟨_, rfl⟩
      rw [← hqe] at hq hdm ⊢
      rw [← hre] at hml hdm ⊢
      have hof : (UInt8.ofNat q).toNat = q := by rw [UInt8.toNat_ofNat']; omega
      have hv2 : (valN l * 10 + q) * Y + r' = X * 10 ^ (j + 1) := by
        rw [Nat.add_mul, Nat.pow_succ, ← Nat.mul_assoc, ← hv, Nat.add_mul, Nat.mul_right_comm, Nat.mul_comm q Y]
        omega
      by_cases hc : q ≠ 0 ∨ 0 < l.length
      · rw [if_pos hc]
        have hd2 : Dig (l ++ [UInt8.ofNat q]) := hd.append (fun x hx => by simp at hx; rw [hx, hof]; omega)
        have hz2 : NZ (l ++ [UInt8.ofNat q]) := by
          intro s e
          cases l with
          | nil =>
            rcases hc with h | h
            · simp at e
              apply h
              rw [← hof, e.1]; rfl
            · simp at h
          | cons y t =>
            simp at e
            exact hz t (by rw [e.1])
        obtain ⟨i, g1, g2, g3, g4, g5, g6, g7⟩ := divGo_val hY X m r' (l ++ [UInt8.ofNat q]) (e - 1) (j + 1) hml hd2 hz2 (by rw [valN_snoc, hof]; exact hv2) (enough_push _ he hr0)
        exact ⟨i + 1, g1, g2, g3, by omega, by rw [g5]; omega, by rw [g6]; congr 2; omega, g7⟩
      · rw [if_neg hc]
        have hl0 : l.length = 0 := by omega
        have hq0 : q = 0 := Classical.byContradiction fun h => hc (.inl h)
        subst hq0
        have hlt : r * 10 < Y := by omega
        have hr' : r' = r * 10 := by omega
        have hln : l = [] := List.eq_nil_of_length_eq_zero hl0
        obtain ⟨i, g1, g2, g3, g4, g5, g6, g7⟩ := divGo_val hY X m r' l (e - 1) (j + 1) hml hd hz (by rw [← hv2, hln]; simp [valN]) (by rw [hr']; exact enough_on he hr0 hl0 hlt)
        exact ⟨i + 1, g1, g2, g3, by omega, by rw [g5]; omega, by rw [g6]; congr 2; omega, g7⟩
  termination_by n => n
theorem div_near (a b c d : Int) (hc0 : c ≠ 0) (hc : c.natAbs < 1000000000000000) (hb : -40 ≤ b ∧ b ≤ 40) (hd : -40 ≤ d ∧ d ≤ 40) :
    nearM (decide (a < 0) != decide (c < 0)) (a.natAbs * 10 ^ 40 / c.natAbs) (b - d - 40) (decide (a.natAbs * 10 ^ 40 % c.natAbs ≠ 0)) = divL a b c d := by
  obtain ⟨s, hs⟩ : ∃ s, s = (decide (a < 0) != decide (c < 0)) := ⟨_, rfl⟩
  obtain ⟨Y, hYe⟩ : ∃ Y, Y = c.natAbs := ⟨_, rfl⟩
  obtain ⟨X, hXe⟩ : ∃ X, X = a.natAbs := ⟨_, rfl⟩
  have hY : 0 < Y := by omega
  unfold divL
  rw [← hs, ← hYe, ← hXe]
  rw [← hYe] at hc
  obtain ⟨q1, q2, q3⟩ := digs_val ((X / Y : Nat) : Int)
  rw [Int.natAbs_natCast] at q1
  obtain ⟨i, g1, g2, g3, g4, g5, g6, g7⟩ := divGo_val hY X 32 (X % Y) (digs ((X / Y : Nat) : Int)) (b - d) 0 (Nat.mod_lt _ hY) q2 q3 (by rw [q1, Nat.mul_comm]; simpa using Nat.div_add_mod X Y) (enough_start _ hc)
  obtain ⟨⟨r, l, e⟩, ht⟩ : ∃ t, t = divGo Y 32 (X % Y) (digs ((X / Y : Nat) : Int)) (b - d) := ⟨_, rfl⟩
  rw [← ht] at g1 g2 g3 g5 g6 g7 ⊢
  simp only at g1 g2 g3 g5 g6 g7
  rw [Nat.zero_add] at g6
  obtain ⟨V, hV⟩ : ∃ V, V = valN l := ⟨_, rfl⟩
  obtain ⟨k, hk⟩ : ∃ k, k = 40 - i := ⟨_, rfl⟩
  have hp40 : X * 10 ^ 40 = Y * (V * 10 ^ k) + r * 10 ^ k := by
    rw [show 40 = i + k by omega, Nat.pow_add, ← Nat.mul_assoc, ← g6, ← hV, Nat.add_mul, Nat.mul_right_comm, Nat.mul_comm _ Y]
  have hquo : X * 10 ^ 40 / Y = V * 10 ^ k + r * 10 ^ k / Y := by rw [hp40, Nat.mul_add_div hY]
  have hrem : X * 10 ^ 40 % Y = r * 10 ^ k % Y := by rw [hp40, Nat.mul_add_mod]
  rw [hquo, hrem]
  unfold divEnd
  by_cases hr : r = 0
  · subst hr
    rw [if_neg (by simp), round_val _ _ g2, ← hV, g5]
    rw [Nat.zero_mul, Nat.zero_div, Nat.zero_mod, Nat.add_zero, show decide ((0 : Nat) ≠ 0) = false from rfl, near_roundN _ _ _ (by omega) (by omega)]
    have := round_scale s V (b - d - i) k (by omega) (by omega)
    rw [show b - d - (i : Int) - (k : Int) = b - d - 40 by omega] at this
    exact this
  · have hlen : 17 ≤ l.length := g7.resolve_left hr
    have hnd : nd V = l.length := by rw [hV, nd_len g2 g3]
    rw [if_pos hr]
    have hd1 : Dig (l ++ [1]) := g2.append (fun x hx => by simp at hx; rw [hx]; decide)
    rw [round_val _ _ hd1, valN_snoc, ← hV, show ((1 : UInt8).toNat) = 1 from rfl, g5]
    have htl : r * 10 ^ k / Y < 10 ^ k := by
      rw [Nat.div_lt_iff_lt_mul hY, Nat.mul_comm]
      exact Nat.mul_lt_mul_of_pos_left g1 (pow_pos10 k)
    have hmore : r * 10 ^ k / Y ≠ 0 ∨ decide (r * 10 ^ k % Y ≠ 0) = true := by
      by_cases h1 : r * 10 ^ k / Y = 0
      · right
        rw [decide_eq_true_eq]
        intro h2
        have := Nat.div_add_mod (r * 10 ^ k) Y
        rw [h1, h2] at this
        have hp := Nat.mul_pos (show 0 < r by omega) (pow_pos10 k)
        omega
      · exact .inl h1
    have := nearM_tail s (V := V) (x := b - d - i) (by omega) htl hmore
    rw [show b - d - (i : Int) - (k : Int) = b - d - 40 by omega] at this
    rw [this, near_roundN _ _ _ (by omega) (by omega)]
end Go.Proofs.YtkdjdoncmihkfaaDoor
