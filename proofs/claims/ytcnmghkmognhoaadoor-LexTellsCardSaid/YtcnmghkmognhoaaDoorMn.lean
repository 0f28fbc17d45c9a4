/- The longest number with which a text begins: the document's, by trying each length, and the program's. -/
import Derived.Test.YtcnmghkmognhoaaDoorB
namespace Go.Proofs.YtcnmghkmognhoaaDoor

theorem run_take (p : UInt8 → Bool) : ∀ (l : List UInt8) (n : Nat), runF p (l.take n) = min (runF p l) n
  | [], n => by simp [runF]
  | x :: t, 0 => by simp [runF]
  | x :: t, n + 1 => by
    rw [List.take_succ_cons, runF, runF, run_take p t n]
    split <;> omega
theorem run_all (p : UInt8 → Bool) : ∀ (l : List UInt8) (k : Nat), k ≤ runF p l → ∀ x ∈ l.take k, p x = true
  | [], k, _, x, hx => by simp at hx
  | y :: t, 0, _, x, hx => by simp at hx
  | y :: t, k + 1, h, x, hx => by
    rw [runF] at h
    split at h
    · rename_i hy
      rw [List.take_succ_cons] at hx
      rcases List.mem_cons.1 hx with rfl | hx
      · exact hy
      · exact run_all p t k (by omega) x hx
    · omega
theorem head_take {p : UInt8 → Bool} (l : List UInt8) {n : Nat} (h : 0 < n) : headP p (l.take n) = headP p l := by
  cases l with
  | nil => simp
  | cons x t =>
    obtain ⟨m, rfl⟩ : ∃ m, n = m + 1 := ⟨n - 1, by omega⟩
    rfl
theorem drop_take' (l : List UInt8) (n k : Nat) : (l.take n).drop k = (l.drop k).take (n - k) := List.drop_take
/-- what stands behind the digits of a number: a point, digits -/
def dotF (l : List UInt8) : Bool := headP (setP [46]) (l.drop (runF digP l))
def frcF (l : List UInt8) : Nat := runF digP (l.drop (runF digP l + 1))
theorem numA_eq (l : List UInt8) : numA l = if dotF l = true ∧ 0 < frcF l then runF digP l + 1 + frcF l else runF digP l := by
  unfold numA afterF dotF frcF
  by_cases h : headP (setP [46]) (l.drop (runF digP l)) = true
  · simp only [h, if_true, true_and]
  · have : headP (setP [46]) (l.drop (runF digP l)) = false := by simpa using h
    simp only [this, Bool.false_eq_true, if_false, false_and, runF, Nat.lt_irrefl]
def expF (l : List UInt8) : Bool := headP (setP [69, 101]) (l.drop (numA l))
def sgnF (l : List UInt8) : Nat := runF (setP [43, 45]) ((l.drop (numA l + 1)).take 1)
def m2F (l : List UInt8) : Nat := runF digP ((l.drop (numA l + 1)).drop (sgnF l))
theorem numF_eq (l : List UInt8) : numF l = if numA l ≠ 0 ∧ expF l = true ∧ 0 < m2F l then numA l + 1 + sgnF l + m2F l else numA l := by
  unfold numF
  show (if numA l = 0 ∨ expF l = false then numA l else if 0 < m2F l then numA l + 1 + sgnF l + m2F l else numA l) = _
  by_cases h0 : numA l = 0
  · simp [h0]
  · by_cases he : expF l = true
    · by_cases hm : 0 < m2F l
      · simp [h0, he, hm]
      · simp [h0, he, hm]
    · have : expF l = false := by simpa using he
      simp [this]
theorem sgn_le (l : List UInt8) : sgnF l ≤ 1 := by
  unfold sgnF
  have := runF_le (setP [43, 45]) ((l.drop (numA l + 1)).take 1)
  have h2 : ((l.drop (numA l + 1)).take 1).length ≤ 1 := List.length_take_le _ _
  omega
/-- is all of a text a number? -/
def isNumF (w : List UInt8) : Bool :=
  (if dotF w = true then decide (0 < frcF w) else decide (runF digP w ≠ 0)) &&
    (if expF w = true then decide (0 < m2F w) && decide (numA w + 1 + sgnF w + m2F w = w.length) else decide (numA w = w.length))
theorem dot_lt {w : List UInt8} (h : dotF w = true) : runF digP w < w.length := by
  unfold dotF at h
  have : w.drop (runF digP w) ≠ [] := fun e => by rw [e] at h; simp [headP] at h
  have := List.length_pos_iff.2 this
  rw [List.length_drop] at this; omega
theorem exp_lt {w : List UInt8} (h : expF w = true) : numA w < w.length := by
  unfold expF at h
  have : w.drop (numA w) ≠ [] := fun e => by rw [e] at h; simp [headP] at h
  have := List.length_pos_iff.2 this
  rw [List.length_drop] at this; omega
theorem dot_exp {w : List UInt8} (hd : dotF w = true) (hf : frcF w = 0) : expF w = false ∧ numA w = runF digP w := by
  have hA : numA w = runF digP w := by rw [numA_eq]; simp [hf]
  refine ⟨?_, hA⟩
  unfold expF
  rw [hA]
  unfold dotF at hd
  cases hx : w.drop (runF digP w) with
  | nil => rw [hx] at hd; simp [headP] at hd
  | cons x t =>
    rw [hx] at hd
    have hx46 : x = 46 := by simpa [headP, setP] using hd
    subst hx46
    rfl
theorem isNum_iff (w : List UInt8) : isNumF w = true ↔ numF w = w.length ∧ 0 < w.length := by
  have hle := numA_le w
  rw [numF_eq]
  unfold isNumF
  by_cases hd : dotF w = true
  · have hlt := dot_lt hd
    by_cases hf : 0 < frcF w
    · have hA : numA w = runF digP w + 1 + frcF w := by rw [numA_eq]; simp [hd, hf]
      by_cases he : expF w = true
      · have := exp_lt he
        by_cases hm : 0 < m2F w
        · simp [hd, hf, he, hm, hA]; omega
        · simp [hd, hf, he, hm]; omega
      · have he' : expF w = false := by simpa using he
        simp [hd, hf, he', hA]; omega
    · obtain ⟨he, hA⟩ := dot_exp hd (by omega)
      simp [hd, hf, he]; omega
  · have hd' : dotF w = false := by simpa using hd
    have hA : numA w = runF digP w := by rw [numA_eq]; simp [hd']
    by_cases h0 : runF digP w = 0
    · simp only [hd', h0, hA, Bool.false_eq_true, if_false, ne_eq, not_true_eq_false, decide_false, Bool.false_and, false_and, false_iff, not_and]
      intro h1 h2
      omega
    · by_cases he : expF w = true
      · have := exp_lt he
        by_cases hm : 0 < m2F w
        · simp [hd', h0, he, hm, hA]; omega
        · simp [hd', h0, he, hm, hA]; omega
      · have he' : expF w = false := by simpa using he
        simp [hd', h0, he', hA]; omega
/-- the parts of a text's beginning -/
theorem take_n0 (l : List UInt8) (n : Nat) : runF digP (l.take n) = min (runF digP l) n := run_take _ _ _
theorem take_A {l : List UInt8} {n : Nat} (h : numA l < n) : numA (l.take n) = numA l := by
  have h0 : runF digP l ≤ numA l := by rw [numA_eq]; split <;> omega
  have hn0 : runF digP (l.take n) = runF digP l := by rw [take_n0]; omega
  have hd : dotF (l.take n) = dotF l := by
    unfold dotF
    rw [hn0, drop_take', head_take _ (by omega)]
  have hf : frcF (l.take n) = min (frcF l) (n - (runF digP l + 1)) := by
    unfold frcF
    rw [hn0, drop_take', run_take]
  rw [numA_eq, numA_eq, hn0, hd, hf]
  rw [numA_eq] at h
  by_cases hc : dotF l = true ∧ 0 < frcF l
  · rw [if_pos hc] at h ⊢
    rw [if_pos ⟨hc.1, by omega⟩]
    omega
  · rw [if_neg hc, if_neg]
    rintro ⟨h1, h2⟩
    exact hc ⟨h1, by omega⟩
theorem take_exp {l : List UInt8} {n : Nat} (h : numA l < n) : expF (l.take n) = expF l := by
  unfold expF
  rw [take_A h, drop_take', head_take _ (by omega)]
theorem take_sgn {l : List UInt8} {n : Nat} (h : numA l + 1 < n) : sgnF (l.take n) = sgnF l := by
  unfold sgnF
  rw [take_A (by omega), drop_take', List.take_take, Nat.min_eq_left (by omega)]
theorem take_m2 {l : List UInt8} {n : Nat} (h : numA l + 1 < n) : m2F (l.take n) = min (m2F l) (n - (numA l + 1) - sgnF l) := by
  unfold m2F
  rw [take_sgn h, take_A (by omega), drop_take', drop_take', run_take]
/-- what is a number at the beginning is no longer than the longest one -/
theorem num_max {l : List UInt8} {n : Nat} (hn : n ≤ l.length) (h : isNumF (l.take n) = true) : n ≤ numF l := by
  obtain ⟨h1, h2⟩ := (isNum_iff _).1 h
  rw [List.length_take, Nat.min_eq_left hn] at h1 h2
  rcases Nat.lt_or_ge (numF l) n with hlt | hge
  · exfalso
    have hA : numA l < n := by
      have : numA l ≤ numF l := by rw [numF_eq]; split <;> omega
      omega
    rw [numF_eq, take_A hA, take_exp hA] at h1
    by_cases hc : numA l ≠ 0 ∧ expF l = true ∧ 0 < m2F (l.take n)
    · rw [if_pos hc] at h1
      obtain ⟨c1, c2, c3⟩ := hc
      have hn1 : numA l + 1 < n := by omega
      rw [take_m2 hn1] at c3
      rw [take_m2 hn1, take_sgn hn1] at h1
      have : numF l = numA l + 1 + sgnF l + m2F l := by rw [numF_eq, if_pos ⟨c1, c2, by omega⟩]
      omega
    · rw [if_neg hc] at h1
      omega
  · exact hge
theorem num_is {l : List UInt8} (h : 0 < numF l) : isNumF (l.take (numF l)) = true := by
  rw [isNum_iff]
  have hle := num_le l
  rw [List.length_take, Nat.min_eq_left hle]
  refine ⟨?_, h⟩
  have hAle : numA l ≤ numF l := by rw [numF_eq]; split <;> omega
  by_cases hc : numA l ≠ 0 ∧ expF l = true ∧ 0 < m2F l
  · have hN : numF l = numA l + 1 + sgnF l + m2F l := by rw [numF_eq, if_pos hc]
    obtain ⟨c1, c2, c3⟩ := hc
    rw [hN, numF_eq, take_A (by omega), take_exp (by omega), take_sgn (by omega), take_m2 (by omega)]
    have : min (m2F l) (numA l + 1 + sgnF l + m2F l - (numA l + 1) - sgnF l) = m2F l := by omega
    rw [this, if_pos ⟨c1, c2, c3⟩]
  · have hN : numF l = numA l := by rw [numF_eq, if_neg hc]
    rw [hN]
    -- all of the beginning is the number without a power
    have h0 : runF digP l ≤ numA l := by rw [numA_eq]; split <;> omega
    have hn0 : runF digP (l.take (numA l)) = runF digP l := by rw [take_n0]; omega
    have hlen : (l.take (numA l)).length = numA l := by rw [List.length_take]; omega
    have hA : numA (l.take (numA l)) = numA l := by
      by_cases hd : dotF l = true ∧ 0 < frcF l
      · have hAe : numA l = runF digP l + 1 + frcF l := by rw [numA_eq, if_pos hd]
        have hdw : dotF (l.take (numA l)) = true := by
          unfold dotF
          rw [hn0, drop_take', head_take _ (by omega)]
          exact hd.1
        have hfw : frcF (l.take (numA l)) = frcF l := by
          unfold frcF
          rw [hn0, drop_take', run_take]
          show min (frcF l) _ = frcF l
          omega
        conv => lhs; rw [numA_eq]
        rw [hdw, hfw, hn0, if_pos ⟨rfl, hd.2⟩, hAe]
      · have hAe : numA l = runF digP l := by rw [numA_eq, if_neg hd]
        have hdw : dotF (l.take (numA l)) = false := by
          unfold dotF
          rw [hn0, drop_take', hAe, Nat.sub_self, List.take_zero]
          rfl
        conv => lhs; rw [numA_eq]
        rw [hdw, hn0, hAe]
        simp
    have hE : expF (l.take (numA l)) = false := by
      cases hb : expF (l.take (numA l)) with
      | false => rfl
      | true => have := exp_lt hb; rw [hA, hlen] at this; omega
    rw [numF_eq, hE, hA]
    simp
def okC (c : UInt8) : Bool := digP c || setP [46, 101, 69, 43, 45] c
theorem ok_dig {c : UInt8} (h : digP c = true) : okC c = true := by unfold okC; rw [h]; rfl
theorem mem_take_add {l : List UInt8} {a b : Nat} {x : UInt8} (h : x ∈ l.take (a + b)) : x ∈ l.take a ∨ x ∈ (l.drop a).take b := by
  rw [List.take_add] at h
  exact List.mem_append.1 h
theorem num_ok {l : List UInt8} : ∀ x ∈ l.take (numF l), okC x = true := by
  have hA : ∀ x ∈ l.take (numA l), okC x = true := by
    intro x hx
    rw [numA_eq] at hx
    split at hx
    · rename_i hd
      rw [Nat.add_assoc] at hx
      rcases mem_take_add hx with hx | hx
      · exact ok_dig (run_all digP l _ (Nat.le_refl _) x hx)
      · rcases mem_take_add hx with hx | hx
        · have h46 := hd.1
          unfold dotF at h46
          cases hq : l.drop (runF digP l) with
          | nil => rw [hq] at hx; simp at hx
          | cons y t =>
            rw [hq] at h46 hx
            have hy : y = 46 := by simpa [headP, setP] using h46
            simp at hx
            subst hx hy
            rfl
        · rw [List.drop_drop] at hx
          exact ok_dig (run_all digP _ _ (Nat.le_refl _) x hx)
    · exact ok_dig (run_all digP l _ (Nat.le_refl _) x hx)
  intro x hx
  rw [numF_eq] at hx
  split at hx
  · rename_i hc
    rw [Nat.add_assoc, Nat.add_assoc] at hx
    rcases mem_take_add hx with hx | hx
    · exact hA x hx
    · rcases mem_take_add hx with hx | hx
      · have he := hc.2.1
        unfold expF at he
        cases hq : l.drop (numA l) with
        | nil => rw [hq] at hx; simp at hx
        | cons y t =>
          rw [hq] at he hx
          simp at hx
          subst hx
          have : x = 69 ∨ x = 101 := by simpa [headP, setP] using he
          rcases this with rfl | rfl <;> rfl
      · rw [List.drop_drop] at hx
        rcases mem_take_add hx with hx | hx
        · have hs : x ∈ ((l.drop (numA l + 1)).take 1).take (sgnF l) := by
            rw [List.take_take, Nat.min_eq_left (sgn_le l)]; exact hx
          have := run_all (setP [43, 45]) _ _ (Nat.le_refl _) x hs
          have : x = 43 ∨ x = 45 := by simpa [setP] using this
          rcases this with rfl | rfl <;> rfl
        · exact ok_dig (run_all digP _ _ (Nat.le_refl _) x hx)
  · exact hA x hx
/-- the longest one among the first k lengths -/
def bestF (l : List UInt8) : Nat → Nat
  | 0 => 0
  | k + 1 => if isNumF (l.take (k + 1)) = true then k + 1 else bestF l k
theorem best_num {l : List UInt8} : ∀ k, k ≤ l.length → numF l ≤ k → bestF l k = numF l
  | 0, _, h => by simp [bestF]; omega
  | k + 1, hk, h => by
    rw [bestF]
    by_cases hb : isNumF (l.take (k + 1)) = true
    · rw [if_pos hb]
      have := num_max hk hb
      omega
    · rw [if_neg hb]
      by_cases he : numF l = k + 1
      · exact (hb (by rw [← he]; exact num_is (by omega))).elim
      · exact best_num k (by omega) (by omega)
theorem num_stop {l : List UInt8} {k : Nat} {c : UInt8} (hk : l[k]? = some c) (hc : okC c = false) : numF l ≤ k := by
  rcases Nat.lt_or_ge k (numF l) with h | h
  · exfalso
    have hm : c ∈ l.take (numF l) := by
      rw [List.mem_iff_getElem?]
      exact ⟨k, by rw [List.getElem?_take_of_lt h]; exact hk⟩
    rw [num_ok c hm] at hc
    cases hc
  · exact h
end Go.Proofs.YtcnmghkmognhoaaDoor
