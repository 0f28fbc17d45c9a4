/- Plain mathematics: numerals, letters and marks are read back from their texts; a mark's text is as long as the one it was read from. -/
import Derived.Test.YtkggooemnahgpaaDoorWl
namespace Go.Proofs.YtkggooemnahgpaaDoor
open Go.RowKit

theorem digL_dec : ∀ (u : Nat) (l : List UInt8) (n : Int), digL (Lib.decDigits u ++ l) n = digL l (n * 10 ^ Lib.nDigits u + u) := by
  intro u
  induction u using Nat.strongRecOn with
  | _ u ih =>
    intro l n
    by_cases h : u < 10
    · have hb : (UInt8.ofNat (48 + u)).toNat = 48 + u := by rw [UInt8.toNat_ofNat']; omega
      rw [Lib.decDigits, dif_pos h, Lib.nDigits_small h, List.singleton_append, digL, hb, if_pos (by omega)]
      congr 1
      omega
    · have hb : (UInt8.ofNat (48 + u % 10)).toNat = 48 + u % 10 := by rw [UInt8.toNat_ofNat']; omega
      rw [Lib.decDigits, dif_neg h, Lib.nDigits_big h, List.append_assoc, ih (u / 10) (by omega), List.singleton_append, digL, hb, if_pos (by omega)]
      congr 1
      rw [Int.pow_succ]
      generalize (10 : Int) ^ Lib.nDigits (u / 10) = q
      have : n * (q * 10) = n * q * 10 := by rw [Int.mul_assoc]
      rw [this]
      omega
theorem dec_head : ∀ (u : Nat), 1 ≤ u → ∃ c t, Lib.decDigits u = c :: t ∧ 49 ≤ c.toNat ∧ c.toNat ≤ 57 := by
  intro u
  induction u using Nat.strongRecOn with
  | _ u ih =>
    intro h1
    by_cases h : u < 10
    · have hb : (UInt8.ofNat (48 + u)).toNat = 48 + u := by rw [UInt8.toNat_ofNat']; omega
      exact ⟨UInt8.ofNat (48 + u), [], by rw [Lib.decDigits, dif_pos h], by omega, by omega⟩
    · obtain ⟨c, t, e, h2, h3⟩ := ih (u / 10) (by omega) (by omega)
      exact ⟨c, t ++ [UInt8.ofNat (48 + u % 10)], by rw [Lib.decDigits, dif_neg h, e]; rfl, h2, h3⟩
theorem nDig_le : ∀ (k u : Nat), u < 10 ^ (k + 1) → Lib.nDigits u ≤ k + 1
  | 0, u, h => by rw [Lib.nDigits_small (by simpa using h)]; exact Nat.le_refl _
  | k + 1, u, h => by
    by_cases h10 : u < 10
    · rw [Lib.nDigits_small h10]; omega
    · rw [Lib.nDigits_big h10]
      have := nDig_le k (u / 10) (by rw [Nat.pow_succ] at h; omega)
      omega

theorem itoa_nat (u : Nat) : Lib.itoa (u : Int) = Lib.decDigits u := by unfold Lib.itoa; rw [if_neg (by omega)]; simp
/-- a numeral is read as its number -/
theorem numL_itoa (n : Int) (h1 : 1 ≤ n) (h2 : n ≤ 9999999) : numL (Lib.itoa n) = some n := by
  obtain ⟨u, rfl⟩ := Int.eq_ofNat_of_zero_le (show 0 ≤ n by omega)
  rw [itoa_nat]
  have hl : (Lib.decDigits u).length ≤ 7 := by
    rw [Lib.decDigits_length]; exact nDig_le 6 u (by omega)
  obtain ⟨c, t, e, h3, h4⟩ := dec_head u (by omega)
  have hd := digL_dec u [] 0
  rw [List.append_nil] at hd
  unfold numL
  rw [if_neg, hd]
  · simp [digL]
  · rintro (h | h | h)
    · rw [e] at h; simp at h
    · omega
    · rw [e] at h; injection h with h; rw [h] at h3; exact absurd h3 (by decide)
theorem itoa_head (n : Int) (h1 : 1 ≤ n) : ∃ c t, Lib.itoa n = c :: t ∧ 49 ≤ c.toNat ∧ c.toNat ≤ 57 := by
  obtain ⟨u, rfl⟩ := Int.eq_ofNat_of_zero_le (show 0 ≤ n by omega)
  rw [itoa_nat]; exact dec_head u (by omega)
/-- a number's numeral is as long as the digits that it was read from -/
theorem numL_len (l : List UInt8) (m : Int) (h : numL l = some m) : (Lib.itoa m).length = l.length := by
  have hb := numL_bound l m h
  obtain ⟨u, rfl⟩ := Int.eq_ofNat_of_zero_le (show 0 ≤ m by omega)
  rw [itoa_nat, Lib.decDigits_length]
  unfold numL at h
  split at h
  · cases h
  · rename_i hc
    match l, hc with
    | [], hc => simp at hc
    | c :: t, hc =>
      simp only [List.length_cons, List.head?_cons, not_or] at hc
      obtain ⟨_, h7, hne⟩ := hc
      have h8 := digL_bound (c :: t) 0 u (by omega) h
      unfold digL at h
      split at h
      · rename_i hd
        have hc48 : c.toNat ≠ 48 := fun e => hne (by rw [show c = 48 from UInt8.toNat_inj.1 e])
        obtain ⟨h1, _⟩ := digL_bound t _ u (by omega) h
        have hp : (0 : Int) < 10 ^ t.length := Int.pow_pos (by decide)
        have h3 : 1 * (10 : Int) ^ t.length ≤ (0 * 10 + ((c.toNat : Int) - 48)) * 10 ^ t.length := Int.mul_le_mul_of_nonneg_right (by omega) (by omega)
        have e1 : ((10 : Int) ^ t.length) = ((10 ^ t.length : Nat) : Int) := by simp
        have e2 : ((10 : Int) ^ (c :: t).length) = ((10 ^ (t.length + 1) : Nat) : Int) := by simp
        rw [e1] at h3 h1
        rw [e2] at h8
        rw [List.length_cons]
        exact Lib.nDigits_unique t.length u (by omega) (by omega)
      · cases h
/-- a column's letters are as many as it was read from -/
theorem columnL_len (l : List UInt8) (c : Int) (h : columnL l = some c) : 0 ≤ c ∧ c ≤ 18277 ∧ (letL c).length = l.length := by
  unfold columnL at h
  split at h
  · cases h
  · rename_i hc
    match l, hc, h with
    | [], hc, _ => simp at hc
    | [a], _, h =>
      simp only [colL] at h
      cases ha : capN a.toNat with
      | none => rw [ha] at h; cases h
      | some d =>
        rw [ha] at h
        have hr := capN_range _ _ ha
        simp only [Option.some.injEq] at h
        refine ⟨by omega, by omega, ?_⟩
        unfold letL; rw [if_pos (by omega)]; rfl
    | [a, b], _, h =>
      simp only [colL] at h
      cases ha : capN a.toNat with
      | none => rw [ha] at h; cases h
      | some d =>
        rw [ha] at h
        simp only at h
        cases hb : capN b.toNat with
        | none => rw [hb] at h; cases h
        | some d' =>
          rw [hb] at h
          have hr := capN_range _ _ ha
          have hr' := capN_range _ _ hb
          simp only [Option.some.injEq] at h
          refine ⟨by omega, by omega, ?_⟩
          unfold letL; rw [if_neg (by omega), if_pos (by omega)]; rfl
    | [a, b, e], _, h =>
      simp only [colL] at h
      cases ha : capN a.toNat with
      | none => rw [ha] at h; cases h
      | some d =>
        rw [ha] at h
        simp only at h
        cases hb : capN b.toNat with
        | none => rw [hb] at h; cases h
        | some d' =>
          rw [hb] at h
          simp only at h
          cases he : capN e.toNat with
          | none => rw [he] at h; cases h
          | some d'' =>
            rw [he] at h
            have hr := capN_range _ _ ha
            have hr' := capN_range _ _ hb
            have hr'' := capN_range _ _ he
            simp only [Option.some.injEq] at h
            refine ⟨by omega, by omega, ?_⟩
            unfold letL; rw [if_neg (by omega), if_neg (by omega)]; rfl
    | a :: b :: e :: f :: t, hc, _ => simp at hc

theorem letL_all (c : Int) (h0 : 0 ≤ c) (h1 : c ≤ 18277) : ∀ b ∈ letL c, (capN b.toNat).isSome = true := columnL_all _ c (column_let c h0 h1)
theorem lets_app (a : List UInt8) (c : UInt8) (t : List UInt8) (ha : ∀ b ∈ a, (capN b.toNat).isSome = true) (hc : (capN c.toNat).isSome = false) : lets (a ++ c :: t) = a.length := by
  induction a with
  | nil => rw [List.nil_append, lets, if_neg (by rw [hc]; decide)]; rfl
  | cons x a ih =>
    rw [List.cons_append, lets, if_pos (ha x (by simp)), ih (fun b hb => ha b (by simp [hb])), List.length_cons]

theorem opened_uniq {l t t' : List UInt8} {b b' : Bool} (h : opened l t b) (h' : opened l t' b') : t = t' ∧ b = b' := by
  rcases h with ⟨rfl, e⟩ | ⟨rfl, e, hh⟩ <;> rcases h' with ⟨rfl, e'⟩ | ⟨rfl, e', hh'⟩
  · rw [e] at e'; injection e' with _ e'; exact ⟨e', rfl⟩
  · rw [e] at e'; rw [← e'] at hh'; exact absurd rfl hh'
  · rw [e'] at e; rw [← e] at hh; exact absurd rfl hh
  · exact ⟨e.symm.trans e', rfl⟩
theorem opened_dol (b : Bool) (t : List UInt8) (h : t.head? ≠ some 36) : opened (dol b ++ t) t b := by
  cases b
  · exact .inr ⟨rfl, rfl, h⟩
  · exact .inl ⟨rfl, rfl⟩
theorem trim_dol (b : Bool) (t : List UInt8) (h : t.head? ≠ some 36) : Lib.trimPrefix (dol b ++ t) [36] = t ∧ Lib.hasPrefix (dol b ++ t) [36] = b :=
  opened_uniq (opened_of _) (opened_dol b t h)
theorem dol_of {l t : List UInt8} {b : Bool} (h : opened l t b) : l = dol b ++ t := by
  rcases h with ⟨rfl, e⟩ | ⟨rfl, e, _⟩ <;> exact e

/-- a mark is read from its text -/
theorem parse_text (r c : Int) (fr fc : Bool) (h : rightB r c = true) : parseL (textL r c fr fc) = some (r, c, fr, fc) := by
  have g1 : 0 ≤ r ∧ r ≤ 9999998 ∧ 0 ≤ c ∧ c ≤ 18277 := by simpa [rightB] using h
  obtain ⟨a1, a2, a3, a4⟩ := g1
  rw [parse_eq, rparseL_comb]
  unfold textL
  rw [if_pos h]
  obtain ⟨d, v, hv, d1, d2⟩ := itoa_head (r + 1) (by omega)
  have hd36 : (Lib.itoa (r + 1)).head? ≠ some 36 := by
    rw [hv]; intro e; injection e with e; rw [e] at d1; exact absurd d1 (by decide)
  have hlet : ∀ x : List UInt8, (letL c ++ x).head? ≠ some 36 := by
    intro x e
    have hall := letL_all c a3 a4
    cases hl : letL c with
    | nil => have := (columnL_len _ _ (column_let c a3 a4)); rw [hl] at this; have h2 := column_let c a3 a4; rw [hl] at h2; simp [columnL] at h2
    | cons y z =>
      rw [hl] at e hall
      injection e with e
      have := hall y (by simp)
      rw [e] at this; exact absurd this (by decide)
  have e1 : dol fc ++ letL c ++ dol fr ++ Lib.itoa (r + 1) = dol fc ++ (letL c ++ (dol fr ++ Lib.itoa (r + 1))) := by simp
  rw [e1]
  obtain ⟨t1, t2⟩ := trim_dol fc (letL c ++ (dol fr ++ Lib.itoa (r + 1))) (hlet _)
  rw [t1, t2]
  have hx : ∃ x y, dol fr ++ Lib.itoa (r + 1) = x :: y ∧ (capN x.toNat).isSome = false := by
    cases fr
    · refine ⟨d, v, hv, ?_⟩
      unfold capN; rw [if_neg (by omega), if_neg (by omega)]; rfl
    · exact ⟨36, _, rfl, by decide⟩
  obtain ⟨x, y, hxy, hx⟩ := hx
  have e2 : lets (letL c ++ (dol fr ++ Lib.itoa (r + 1))) = (letL c).length := by
    rw [hxy]; exact lets_app _ x y (letL_all c a3 a4) hx
  rw [e2, List.take_left' rfl, List.drop_left' rfl]
  obtain ⟨t3, t4⟩ := trim_dol fr (Lib.itoa (r + 1)) hd36
  rw [t3, t4, column_let c a3 a4, numL_itoa (r + 1) (by omega) (by omega)]
  simp [comb]

/-- the text of what was read is as long -/
theorem parse_len (l : List UInt8) (r c : Int) (fr fc : Bool) (h : parseL l = some (r, c, fr, fc)) : rightB r c = true ∧ (textL r c fr fc).length = l.length := by
  rw [parse_eq, rparseL_comb] at h
  have o1 := opened_of l
  generalize Lib.trimPrefix l [36] = t at *
  generalize Lib.hasPrefix l [36] = b at *
  have o2 := opened_of (t.drop (lets t))
  generalize Lib.trimPrefix (t.drop (lets t)) [36] = v at *
  generalize Lib.hasPrefix (t.drop (lets t)) [36] = b' at *
  cases hc : columnL (t.take (lets t)) with
  | none => rw [hc] at h; cases h
  | some c' =>
    cases hm : numL v with
    | none => rw [hc, hm] at h; cases h
    | some m =>
      rw [hc, hm] at h
      simp only [comb, Option.some.injEq, Prod.mk.injEq] at h
      obtain ⟨rfl, rfl, rfl, rfl⟩ := h
      have h1 := columnL_len _ _ hc
      have h2 := numL_len _ _ hm
      have h3 := numL_bound _ _ hm
      have hr : rightB (m - 1) c' = true := by simp [rightB]; omega
      refine ⟨hr, ?_⟩
      have e1 := congrArg List.length (dol_of o1)
      have e2 := congrArg List.length (dol_of o2)
      unfold textL
      rw [if_pos hr, show m - 1 + 1 = m by omega]
      simp only [List.length_append, List.length_drop, List.length_take] at *
      have := lets_le t
      omega
end Go.Proofs.YtkggooemnahgpaaDoor
