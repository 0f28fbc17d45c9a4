/- Plain mathematics: what a mark is as seen from one place, read from another one. -/
import Derived.Test.YtkggooemnahgpaaDoorWq
namespace Go.Proofs.YtkggooemnahgpaaDoor
open Go.RowKit

theorem dec_all : ∀ (u : Nat), ∀ b ∈ Lib.decDigits u, 48 ≤ b.toNat ∧ b.toNat ≤ 57 := by
  intro u
  induction u using Nat.strongRecOn with
  | _ u ih =>
    intro b hb
    by_cases h : u < 10
    · have e : (UInt8.ofNat (48 + u)).toNat = 48 + u := by rw [UInt8.toNat_ofNat']; omega
      rw [Lib.decDigits, dif_pos h, List.mem_singleton] at hb
      rw [hb, e]; omega
    · have e : (UInt8.ofNat (48 + u % 10)).toNat = 48 + u % 10 := by rw [UInt8.toNat_ofNat']; omega
      rw [Lib.decDigits, dif_neg h] at hb
      rcases List.mem_append.1 hb with hb | hb
      · exact ih (u / 10) (by omega) b hb
      · rw [List.mem_singleton] at hb; rw [hb, e]; omega
theorem itoa_all (n : Int) : ∀ b ∈ Lib.itoa n, b = 45 ∨ 48 ≤ b.toNat ∧ b.toNat ≤ 57 := by
  intro b hb
  unfold Lib.itoa at hb
  split at hb
  · rcases List.mem_cons.1 hb with hb | hb
    · exact .inl hb
    · exact .inr (dec_all _ b hb)
  · exact .inr (dec_all _ b hb)
theorem seen_all (p f : Int) (fix : Bool) : ∀ b ∈ seenL p f fix, b ≠ 67 := by
  intro b hb
  unfold seenL at hb
  have key : ∀ n, b ∈ Lib.itoa n → b ≠ 67 := fun n h => by
    rcases itoa_all n b h with rfl | h
    · decide
    · intro e; rw [e] at h; exact absurd h.2 (by decide)
  split at hb
  · exact key _ hb
  · split at hb
    · simp at hb
    · rcases List.mem_cons.1 hb with rfl | hb
      · decide
      · rcases List.mem_append.1 hb with hb | hb
        · exact key _ hb
        · rw [List.mem_singleton] at hb; rw [hb]; decide

theorem head_ne (c d : UInt8) (t : List UInt8) (h : c ≠ d) : Lib.hasPrefix (c :: t) [d] = false ∧ Lib.trimPrefix (c :: t) [d] = c :: t := by
  have hb : (d == c) = false := by rw [beq_eq_false_iff_ne]; exact fun e => h e.symm
  have e : Lib.hasPrefix (c :: t) [d] = false := by rw [prefix_head, hb]
  exact ⟨e, by unfold Lib.trimPrefix; rw [e]; rfl⟩
theorem head_eq (d : UInt8) (t : List UInt8) : Lib.hasPrefix (d :: t) [d] = true ∧ Lib.trimPrefix (d :: t) [d] = t := by
  have e : Lib.hasPrefix (d :: t) [d] = true := by rw [prefix_head]; simp
  exact ⟨e, by unfold Lib.trimPrefix; rw [e]; simp⟩

/-- one half, read from another place -/
theorem half_seen (p f g : Int) (fix : Bool) (h0 : 0 ≤ p) (h1 : p ≤ 9999998) (h2 : 0 ≤ f) (h3 : f ≤ 9999998) : halfL (seenL p f fix) g = some (if fix then p else p + (g - f), fix) := by
  unfold seenL
  cases fix with
  | true =>
    simp only [if_true]
    obtain ⟨c, t, hv, d1, d2⟩ := itoa_head (p + 1) (by omega)
    have hn := numL_itoa (p + 1) (by omega) (by omega)
    rw [hv] at hn ⊢
    have hc : c ≠ 91 := by intro e; rw [e] at d2; exact absurd d2 (by decide)
    unfold halfL
    rw [if_neg (by simp), (head_ne c 91 t hc).1, if_neg (by decide), hn]
    simp
  | false =>
    simp only [Bool.false_eq_true, if_false]
    by_cases h : p = f
    · subst h
      rw [if_pos rfl]
      unfold halfL
      rw [if_pos rfl]
      congr 2; omega
    · rw [if_neg h]
      unfold halfL
      rw [if_neg (by simp), (head_eq 91 _).1, if_pos rfl, (head_eq 91 _).2, (suffix_last _ 93).1, if_pos (by decide), (suffix_last _ 93).2 rfl]
      by_cases hlt : p < f
      · have e : Lib.itoa (p - f) = 45 :: Lib.itoa (f - p) := by rw [← itoa_neg (f - p) (by omega)]; congr 1; omega
        rw [e, (head_eq 45 _).1, if_pos rfl, (head_eq 45 _).2, numL_itoa (f - p) (by omega) (by omega)]
        simp only [Option.map_some]
        congr 2; omega
      · obtain ⟨c, t, hv, d1, d2⟩ := itoa_head (p - f) (by omega)
        have hn := numL_itoa (p - f) (by omega) (by omega)
        have hc : c ≠ 45 := by intro e; rw [e] at d1; exact absurd d1 (by decide)
        rw [hv] at hn ⊢
        rw [(head_ne c 45 t hc).1, if_neg (by decide), (head_ne c 45 t hc).2, hn]
        simp only [Option.map_some]
        congr 2; omega

theorem splitC_app : ∀ (a b : List UInt8), (∀ x ∈ a, x ≠ 67) → splitC (a ++ 67 :: b) = some (a, b)
  | [], b, _ => rfl
  | c :: a, b, h => by
    rw [List.cons_append, splitC, if_neg (h c (by simp)), splitC_app a b (fun x hx => h x (by simp [hx]))]
    rfl

/-- a mark as seen from a place, read from another one -/
theorem abs_rel (r c : Int) (fr fc : Bool) (pr pc dn rt : Int) (h : rightB r c = true) (hp : rightB pr pc = true) (hd : rightB dn rt = true) :
    absL (relL r c fr fc pr pc) dn rt = if rightB (if fr then r else r + (dn - pr)) (if fc then c else c + (rt - pc)) then some (if fr then r else r + (dn - pr), if fc then c else c + (rt - pc), fr, fc) else none := by
  have g1 : 0 ≤ r ∧ r ≤ 9999998 ∧ 0 ≤ c ∧ c ≤ 18277 := by simpa [rightB] using h
  have g2 : 0 ≤ pr ∧ pr ≤ 9999998 ∧ 0 ≤ pc ∧ pc ≤ 18277 := by simpa [rightB] using hp
  unfold relL
  rw [h, hp]
  simp only [Bool.and_self, if_true]
  unfold absL
  rw [(head_eq 82 _).1, if_pos rfl, (head_eq 82 _).2, splitC_app _ _ (seen_all r pr fr)]
  simp only []
  rw [hd, if_pos rfl, half_seen r pr dn fr (by omega) (by omega) (by omega) (by omega)]
  simp only []
  rw [half_seen c pc rt fc (by omega) (by omega) (by omega) (by omega)]

theorem relL_ne (r c : Int) (fr fc : Bool) (pr pc : Int) (h : rightB r c = true) (hp : rightB pr pc = true) : (relL r c fr fc pr pc).isEmpty = false := by
  unfold relL; rw [h, hp]; rfl
theorem relL_none (r c : Int) (fr fc : Bool) (pr pc : Int) (h : (rightB r c && rightB pr pc) = false) : relL r c fr fc pr pc = [] := by
  unfold relL; rw [h]; rfl
theorem relL_len (r c : Int) (fr fc : Bool) (pr pc : Int) : (relL r c fr fc pr pc).length ≤ 1000 := by
  unfold relL
  split
  · rename_i h
    simp only [Bool.and_eq_true, rightB, decide_eq_true_eq] at h
    have e1 := seenL_len r pr fr (by omega) (by omega) (by omega) (by omega)
    have e2 := seenL_len c pc fc (by omega) (by omega) (by omega) (by omega)
    simp; omega
  · simp
end Go.Proofs.YtkggooemnahgpaaDoor
