/- Texts in quotes, and two texts with a blank between: mathematics of lists. -/
import Derived.Test.YtcnmghkmognhoaaDoorA
namespace Go.Proofs.YtcnmghkmognhoaaDoor

/-! ### quotes -/
def dblF : List UInt8 → List UInt8
  | [] => []
  | x :: t => if x = 34 then 34 :: 34 :: dblF t else x :: dblF t
theorem tsz_dbl : ∀ (b : List UInt8) (k : Nat), tszF (dblF b ++ [34]) k = k + (dblF b).length + 1
  | [], k => by simp [dblF, tszF]
  | x :: t, k => by
    rw [dblF]
    by_cases h : x = 34
    · rw [if_pos h]
      simp only [List.cons_append, List.length_cons]
      rw [tsz_two, tsz_dbl t]; omega
    · rw [if_neg h]
      simp only [List.cons_append, List.length_cons]
      rw [tsz_ne h, tsz_dbl t]; omega
theorem tsz_open : ∀ (b : List UInt8) (k : Nat), tszF (dblF b) k = 0
  | [], k => by simp [dblF, tszF]
  | x :: t, k => by
    rw [dblF]
    by_cases h : x = 34
    · rw [if_pos h, tsz_two]
      exact tsz_open t _
    · rw [if_neg h, tsz_ne h]
      exact tsz_open t _
theorem meant_dbl : ∀ b : List UInt8, meantF (dblF b) = b
  | [] => rfl
  | x :: t => by
    rw [dblF]
    by_cases h : x = 34
    · rw [if_pos h, meantF, if_pos ⟨rfl, rfl⟩, meant_dbl t, h]
    · rw [if_neg h]
      have ih := meant_dbl t
      cases hd : dblF t with
      | nil => rw [hd] at ih; rw [meantF, ← ih]; rfl
      | cons y u => rw [meantF, if_neg (fun hh => h hh.1), ← hd, ih]
theorem num_quote (t : List UInt8) : numF (34 :: t) = 0 := by
  have h1 : runF digP (34 :: t) = 0 := by rw [runF, if_neg (by decide)]
  have h2 : afterF (34 :: t) 0 (setP [46]) = [] := by unfold afterF; rw [if_neg]; show ¬ setP [46] 34 = true; decide
  have hA : numA (34 :: t) = 0 := by unfold numA; simp only [h1, h2]; rfl
  unfold numF; simp [hA]
theorem word_quote (t : List UInt8) : wordF (34 :: t) = 0 := by unfold wordF; rw [if_neg (show ¬ headP fstP (34 :: t) = true by show ¬ fstP 34 = true; decide)]
theorem first_quote (t : List UInt8) : firstF (34 :: t) = if textF (34 :: t) = 0 then (⟨0, [], 0⟩, 0) else (⟨2, meantF (((34 :: t).take (textF (34 :: t) - 1)).drop 1), 0⟩, textF (34 :: t)) := by
  unfold firstF
  simp only [num_quote, word_quote, Nat.lt_irrefl, if_false]
  rfl
theorem first_text (b : List UInt8) : firstF (34 :: (dblF b ++ [34])) = (⟨2, b, 0⟩, (dblF b).length + 2) := by
  have ht : textF (34 :: (dblF b ++ [34])) = (dblF b).length + 2 := by
    unfold textF
    show tszF (dblF b ++ [34]) 1 = _
    rw [tsz_dbl]; omega
  rw [first_quote, ht, if_neg (by omega)]
  have : ((34 :: (dblF b ++ [34])).take ((dblF b).length + 2 - 1)).drop 1 = dblF b := by
    simp
  rw [this, meant_dbl]
theorem first_open (b : List UInt8) : firstF (34 :: dblF b) = (⟨0, [], 0⟩, 0) := by
  rw [first_quote, show textF (34 :: dblF b) = 0 from tsz_open b 1, if_pos rfl]
theorem lex_step (s : List UInt8) (f k : Nat) {x : UInt8} {t : List UInt8} (h : s.drop k = x :: t) (hx : x ≠ 32) {tk : Tok} {n : Nat} (hf : firstF (x :: t) = (tk, n)) :
    lexF s (f + 1) k = if n = 0 then .inr k else match lexF s f (k + n) with | .inl l => .inl ({ tk with at' := k } :: l) | .inr b => .inr b := by
  rw [lexF, h]
  simp only [hx, if_false, hf]
  all_goals rfl
theorem lex_end (s : List UInt8) (f k : Nat) (h : s.length ≤ k) : lexF s f k = .inl [⟨0, [], k⟩] := by
  cases f with
  | zero => rfl
  | succ f => rw [lexF, List.drop_eq_nil_of_le h]
theorem lex_blank (s : List UInt8) (f k : Nat) {t : List UInt8} (h : s.drop k = 32 :: t) : lexF s (f + 1) k = lexF s f (k + 1) := by
  rw [lexF, h]; simp
/-- any bytes in quotes are one text -/
theorem lex_text (b : List UInt8) (f : Nat) : lexF (34 :: (dblF b ++ [34])) (f + 1) 0 = .inl [⟨2, b, 0⟩, ⟨0, [], ((dblF b).length + 2 : Nat)⟩] := by
  rw [lex_step _ f 0 (x := 34) rfl (by decide) (first_text b), if_neg (by omega), lex_end _ _ _ (by simp)]
  simp
theorem lex_open (b : List UInt8) (f : Nat) : lexF (34 :: dblF b) (f + 1) 0 = .inr 0 := by
  rw [lex_step _ f 0 (x := 34) rfl (by decide) (first_open b), if_pos rfl]

/-! ### a blank behind -/
theorem run_blank {p : UInt8 → Bool} (hp : p 32 = false) (t : List UInt8) : ∀ l, runF p (l ++ 32 :: t) = runF p l
  | [] => by simp [runF, hp]
  | x :: u => by rw [List.cons_append, runF, runF, run_blank hp t u]
theorem head_blank {p : UInt8 → Bool} (hp : p 32 = false) (t : List UInt8) : ∀ l, headP p (l ++ 32 :: t) = headP p l
  | [] => by simp [headP, hp]
  | x :: u => rfl
theorem drop_blank (t l : List UInt8) {k : Nat} (h : k ≤ l.length) : (l ++ 32 :: t).drop k = l.drop k ++ 32 :: t := List.drop_append_of_le_length h
theorem after_blank {p : UInt8 → Bool} (hp : p 32 = false) {q : UInt8 → Bool} (hq : q 32 = false) (t l : List UInt8) {k : Nat} (h : k ≤ l.length) : runF q (afterF (l ++ 32 :: t) k p) = runF q (afterF l k p) := by
  unfold afterF
  rw [drop_blank t l h, head_blank hp]
  split
  · rename_i hh
    have hk : k + 1 ≤ l.length := by
      have : l.drop k ≠ [] := fun e => by rw [e] at hh; simp [headP] at hh
      have := List.length_pos_iff.2 this
      simp at this; omega
    rw [drop_blank t l hk, run_blank hq]
  · rfl
theorem after_le (p q : UInt8 → Bool) (l : List UInt8) (k : Nat) (h : 0 < runF q (afterF l k p)) : k + 1 + runF q (afterF l k p) ≤ l.length := by
  unfold afterF at h ⊢
  split at h
  · rename_i hh
    rw [if_pos hh]
    have := runF_le q (l.drop (k + 1))
    have h2 : (l.drop (k + 1)).length = l.length - (k + 1) := List.length_drop
    omega
  · simp [runF] at h
theorem numA_le (l : List UInt8) : numA l ≤ l.length := by
  unfold numA
  have h1 := runF_le digP l
  have h2 := after_le (setP [46]) digP l (runF digP l)
  simp only
  split
  · rename_i h; exact h2 h
  · exact h1
theorem numA_blank (t l : List UInt8) : numA (l ++ 32 :: t) = numA l := by
  unfold numA
  simp only [run_blank (p := digP) (by decide) t l, after_blank (p := setP [46]) (by decide) (q := digP) (by decide) t l (runF_le digP l)]
theorem num_blank (t l : List UInt8) : numF (l ++ 32 :: t) = numF l := by
  unfold numF
  simp only [numA_blank, drop_blank t l (numA_le l), head_blank (p := setP [69, 101]) (by decide)]
  split
  · rfl
  · rename_i h
    have hh : headP (setP [69, 101]) (l.drop (numA l)) = true := by
      have := not_or.1 h
      simpa using this.2
    have hk : numA l + 1 ≤ l.length := by
      have : l.drop (numA l) ≠ [] := fun e => by rw [e] at hh; simp [headP] at hh
      have := List.length_pos_iff.2 this
      simp at this; omega
    rw [drop_blank t l hk]
    obtain ⟨r, hr⟩ : ∃ r, l.drop (numA l + 1) = r := ⟨_, rfl⟩
    rw [hr]
    have h1 : runF (setP [43, 45]) ((r ++ 32 :: t).take 1) = runF (setP [43, 45]) (r.take 1) := by
      cases r with
      | nil => simp [runF]; decide
      | cons x u => rfl
    have hle : runF (setP [43, 45]) (r.take 1) ≤ r.length := by
      have := runF_le (setP [43, 45]) (r.take 1)
      simp at this; omega
    rw [h1, drop_blank t r hle, run_blank (p := digP) (by decide)]
theorem word_blank (t l : List UInt8) : wordF (l ++ 32 :: t) = wordF l := by
  unfold wordF
  rw [head_blank (p := fstP) (by decide), run_blank (p := wrdP) (by decide)]
theorem word_le (l : List UInt8) : wordF l ≤ l.length := by
  unfold wordF
  split
  · exact runF_le _ _
  · exact Nat.zero_le _
theorem num_le (l : List UInt8) : numF l ≤ l.length := by
  unfold numF
  have h1 := numA_le l
  simp only
  split
  · exact h1
  · have h2 := runF_le (setP [43, 45]) ((l.drop (numA l + 1)).take 1)
    have h3 := runF_le digP ((l.drop (numA l + 1)).drop (runF (setP [43, 45]) ((l.drop (numA l + 1)).take 1)))
    simp only [List.length_drop, List.length_take] at h2 h3
    split
    · omega
    · exact h1
theorem tsz_blank (t : List UInt8) : ∀ (n : Nat) (l : List UInt8) (k : Nat), l.length ≤ n → tszF l k ≠ 0 → tszF (l ++ 32 :: t) k = tszF l k
  | 0, l, k, hn, h => by
    have : l = [] := List.eq_nil_of_length_eq_zero (by omega)
    subst this; simp [tszF] at h
  | n + 1, [], k, _, h => by simp [tszF] at h
  | n + 1, [x], k, _, h => by
    by_cases hx : x = 34
    · subst hx; simp [tszF]
    · simp [tszF, hx] at h
  | n + 1, x :: y :: u, k, hn, h => by
    simp only [List.length_cons] at hn
    by_cases hx : x = 34
    · subst hx
      by_cases hy : y = 34
      · subst hy
        simp only [List.cons_append, tsz_two] at h ⊢
        exact tsz_blank t n u _ (by omega) h
      · simp only [List.cons_append, tsz_one hy]
    · rw [List.cons_append, tsz_ne hx, tsz_ne hx]
      rw [tsz_ne hx] at h
      exact tsz_blank t n (y :: u) _ (by simp only [List.length_cons]; omega) h
theorem tsz_le : ∀ (n : Nat) (l : List UInt8) (k : Nat), l.length ≤ n → tszF l k ≤ k + l.length
  | 0, l, k, hn => by
    have : l = [] := List.eq_nil_of_length_eq_zero (by omega)
    subst this; simp [tszF]
  | n + 1, [], k, _ => by simp [tszF]
  | n + 1, [x], k, _ => by
    by_cases hx : x = 34
    · subst hx; simp [tszF]
    · simp [tszF, hx]
  | n + 1, x :: y :: u, k, hn => by
    simp only [List.length_cons] at hn ⊢
    by_cases hx : x = 34
    · subst hx
      by_cases hy : y = 34
      · subst hy
        rw [tsz_two]
        have := tsz_le n u (k + 2) (by omega); omega
      · rw [tsz_one hy]; omega
    · rw [tsz_ne hx]
      have := tsz_le n (y :: u) (k + 1) (by simp only [List.length_cons]; omega)
      simp only [List.length_cons] at this; omega
theorem faultT_len : ∀ k, k < 10 → 0 < k → 0 < (faultT k).length := by decide
theorem faultT_no : ∀ k, k < 10 → (32 : UInt8) ∉ faultT k := by decide
theorem faultOf_is {l : List UInt8} {k : Nat} (hk : 0 < k) (h : faultOfF l = k) : k < 10 ∧ l.map foldB = faultT k := by
  unfold faultOfF at h
  cases hf : (List.range 10).find? fun k => decide (0 < k) && (l.map foldB == faultT k) with
  | none => rw [hf] at h; simp at h; omega
  | some j =>
    rw [hf] at h
    simp at h
    subst h
    have h1 := List.mem_of_find?_eq_some hf
    have h2 := List.find?_some hf
    simp at h1 h2
    exact ⟨h1, h2.2⟩
theorem faultAt_blank (t l : List UInt8) {k : Nat} (hk : 0 < k) (hk2 : k < 10) : faultAt (l ++ 32 :: t) k = faultAt l k := by
  unfold faultAt
  by_cases hl : (faultT k).length ≤ l.length
  · rw [List.take_append_of_le_length hl]
    simp [hl]; omega
  · have h1 : decide ((faultT k).length ≤ l.length) = false := by simpa using hl
    rw [h1, Bool.false_and]
    have : (faultOfF ((l ++ 32 :: t).take (faultT k).length) == k) = false := by
      rw [beq_eq_false_iff_ne]
      intro he
      obtain ⟨_, h2⟩ := faultOf_is hk he
      have hm : (32 : UInt8) ∈ ((l ++ 32 :: t).take (faultT k).length) := by
        rw [List.mem_take_iff_getElem]
        exact ⟨l.length, by simp; omega, by simp⟩
      have h3 : foldB 32 ∈ ((l ++ 32 :: t).take (faultT k).length).map foldB := List.mem_map_of_mem hm
      rw [h2] at h3
      exact faultT_no k hk2 h3
    rw [this, Bool.and_false]
theorem find_congr {α : Type} {p q : α → Bool} : ∀ {l : List α}, (∀ x ∈ l, p x = q x) → l.find? p = l.find? q
  | [], _ => rfl
  | x :: l, h => by
    rw [List.find?_cons, List.find?_cons, h x (by simp), find_congr (fun y hy => h y (by simp [hy]))]
theorem fault_blank (t l : List UInt8) : faultF (l ++ 32 :: t) = faultF l := by
  unfold faultF
  rw [head_blank (p := setP [35]) (by decide), find_congr (p := faultAt (l ++ 32 :: t)) (q := faultAt l) (fun k hk => by
    simp [List.mem_range'_1] at hk
    exact faultAt_blank t l (by omega) (by omega))]
theorem sign_blank (t l : List UInt8) (h : l ≠ []) : signF (l ++ 32 :: t) = signF l := by
  match l, h with
  | [x], _ =>
    unfold signF
    simp [List.isPrefixOf]
  | x :: y :: u, _ =>
    unfold signF
    simp [List.isPrefixOf]
theorem sign_le (l : List UInt8) : signF l ≤ l.length := by
  unfold signF
  match l with
  | [] => simp [List.isPrefixOf, runF]
  | [x] =>
    simp only [List.isPrefixOf, Bool.and_false, Bool.or_self, Bool.false_eq_true, if_false]
    exact Nat.le_trans (runF_le _ _) (by simp)
  | x :: y :: u =>
    have := runF_le (setP signS) ((x :: y :: u).take 1)
    simp only [List.length_cons, List.take_succ_cons, List.take_zero, List.length_nil] at this ⊢
    split <;> omega
theorem fault_len (l : List UInt8) : (faultF l).length ≤ l.length := by
  unfold faultF
  split
  · cases hf : (List.range' 1 9).find? (faultAt l) with
    | none => simp
    | some k =>
      have := List.find?_some hf
      unfold faultAt at this
      simp at this
      simpa using this.1
  · simp
/-- the first token is the same with a blank behind -/
theorem first_blank (t l : List UInt8) (h : l ≠ []) (hn : (firstF l).2 ≠ 0) : firstF (l ++ 32 :: t) = firstF l := by
  unfold firstF at hn ⊢
  rw [num_blank, word_blank, head_blank (p := fun x => x == 34) (by decide), fault_blank, sign_blank t l h]
  rw [List.take_append_of_le_length (num_le l), List.take_append_of_le_length (word_le l), List.take_append_of_le_length (sign_le l)]
  by_cases h1 : 0 < numF l
  · rw [if_pos h1, if_pos h1]
  rw [if_neg h1, if_neg h1]
  rw [if_neg h1] at hn
  by_cases h2 : 0 < wordF l
  · rw [if_pos h2, if_pos h2]
  rw [if_neg h2, if_neg h2]
  rw [if_neg h2] at hn
  by_cases h3 : headP (fun x => x == 34) l = true
  · rw [if_pos h3, if_pos h3]
    rw [if_pos h3] at hn
    by_cases h4 : textF l = 0
    · rw [if_pos h4] at hn; simp at hn
    · have he : textF (l ++ 32 :: t) = textF l := by
        unfold textF at h4 ⊢
        match l, h with
        | x :: u, _ => exact tsz_blank t _ u 1 (Nat.le_refl _) h4
      have hle : textF l ≤ l.length := by
        unfold textF
        have := tsz_le _ (l.drop 1) 1 (Nat.le_refl _)
        have h5 := List.length_pos_iff.2 h
        rw [List.length_drop] at this; omega
      rw [he, if_neg h4, if_neg h4, List.take_append_of_le_length (by omega)]
  · rw [if_neg h3, if_neg h3]
theorem first_le (l : List UInt8) : (firstF l).2 ≤ l.length := by
  unfold firstF
  split
  · exact num_le l
  · split
    · have := word_le l
      simp only
      have hw : (l.take (wordF l)).length ≤ l.length := by rw [List.length_take]; omega
      split
      · exact hw
      · split
        · exact Nat.zero_le _
        · exact hw
    · split
      · have := tsz_le _ (l.drop 1) 1 (Nat.le_refl _)
        split
        · simp
        · rename_i hh _ 
          have hl : 0 < l.length := by
            cases l with
            | nil => simp [headP] at hh
            | cons x u => simp
          simp only [List.length_drop] at this
          unfold textF
          omega
      · split
        · exact fault_len l
        · exact sign_le l
/-- enough fuel is enough -/
theorem lex_fuel (s : List UInt8) : ∀ (f g k : Nat), s.length - k ≤ f → s.length - k ≤ g → lexF s f k = lexF s g k
  | 0, g, k, hf, hg => by rw [lex_end s 0 k (by omega), lex_end s g k (by omega)]
  | f + 1, 0, k, hf, hg => by rw [lex_end s 0 k (by omega), lex_end s (f + 1) k (by omega)]
  | f + 1, g + 1, k, hf, hg => by
    cases hd : s.drop k with
    | nil =>
      have : s.length ≤ k := List.drop_eq_nil_iff.1 hd
      rw [lex_end s _ k this, lex_end s _ k this]
    | cons x t =>
      by_cases hx : x = 32
      · subst hx
        rw [lex_blank s f k hd, lex_blank s g k hd]
        exact lex_fuel s f g _ (by omega) (by omega)
      · obtain ⟨tk, n, hfst⟩ : ∃ tk n, firstF (x :: t) = (tk, n) := ⟨_, _, rfl⟩
        rw [lex_step s f k hd hx hfst, lex_step s g k hd hx hfst]
        by_cases hn : n = 0
        · rw [if_pos hn, if_pos hn]
        · rw [if_neg hn, if_neg hn, lex_fuel s f g (k + n) (by omega) (by omega)]
def shiftT (d : Nat) (t : Tok) : Tok := { t with at' := t.at' + d }
theorem lex_shift (p t : List UInt8) : ∀ (f k : Nat), lexF (p ++ t) f (p.length + k) = match lexF t f k with | .inl l => .inl (l.map (shiftT p.length)) | .inr b => .inr (p.length + b)
  | 0, k => by simp [lexF, shiftT]; omega
  | f + 1, k => by
    have hdr : (p ++ t).drop (p.length + k) = t.drop k := by rw [List.drop_append]; simp
    cases hd : t.drop k with
    | nil =>
      have h1 : t.length ≤ k := List.drop_eq_nil_iff.1 hd
      rw [lex_end t _ k h1, lex_end (p ++ t) _ _ (by simp; omega)]
      simp [shiftT]; omega
    | cons x u =>
      rw [hd] at hdr
      by_cases hx : x = 32
      · subst hx
        rw [lex_blank t f k hd, lex_blank (p ++ t) f _ hdr, Nat.add_assoc]
        exact lex_shift p t f (k + 1)
      · obtain ⟨tk, n, hfst⟩ : ∃ tk n, firstF (x :: u) = (tk, n) := ⟨_, _, rfl⟩
        rw [lex_step t f k hd hx hfst, lex_step (p ++ t) f _ hdr hx hfst]
        by_cases hn : n = 0
        · rw [if_pos hn, if_pos hn]
        · rw [if_neg hn, if_neg hn, Nat.add_assoc, lex_shift p t f (k + n)]
          cases lexF t f (k + n) with
          | inl l => simp [shiftT]; omega
          | inr b => rfl
/-- two texts with a blank between have the tokens of both -/
theorem lex_beside (s t : List UInt8) (F : Nat) (hF : s.length + 1 + t.length ≤ F) : ∀ (f k : Nat), k ≤ s.length → s.length - k ≤ f → ∀ l, lexF s f k = .inl l →
    ∃ q, l = q ++ [⟨0, [], s.length⟩] ∧ lexF (s ++ 32 :: t) F k = match lexF (s ++ 32 :: t) F (s.length + 1) with | .inl m => .inl (q ++ m) | .inr b => .inr b := by
  have hlen : (s ++ 32 :: t).length = s.length + 1 + t.length := by simp; omega
  have hend : lexF (s ++ 32 :: t) F s.length = lexF (s ++ 32 :: t) F (s.length + 1) := by
    obtain ⟨G, rfl⟩ : ∃ G, F = G + 1 := ⟨F - 1, by omega⟩
    rw [lex_blank (s ++ 32 :: t) G s.length (t := t) (by simp)]
    exact lex_fuel _ _ _ _ (by omega) (by omega)
  have hbase : ∀ k, k = s.length → ∃ q, [(⟨0, [], s.length⟩ : Tok)] = q ++ [⟨0, [], s.length⟩] ∧ lexF (s ++ 32 :: t) F k = match lexF (s ++ 32 :: t) F (s.length + 1) with | .inl m => .inl (q ++ m) | .inr b => .inr b := by
    rintro k rfl
    refine ⟨[], rfl, ?_⟩
    rw [hend]
    cases lexF (s ++ 32 :: t) F (s.length + 1) <;> rfl
  intro f
  induction f with
  | zero =>
    intro k hk hf l hl
    have hks : k = s.length := by omega
    rw [lex_end s 0 k (by omega)] at hl
    injection hl with hl
    rw [← hl, hks]
    exact hbase _ rfl
  | succ f ih =>
    intro k hk hf l hl
    cases hd : s.drop k with
    | nil =>
      have h1 : s.length ≤ k := List.drop_eq_nil_iff.1 hd
      have hks : k = s.length := by omega
      rw [lex_end s _ k h1] at hl
      injection hl with hl
      rw [← hl, hks]
      exact hbase _ rfl
    | cons x u =>
      have hks : k < s.length := by
        have : (s.drop k).length = u.length + 1 := by rw [hd]; rfl
        rw [List.length_drop] at this; omega
      have hdr : (s ++ 32 :: t).drop k = (x :: u) ++ 32 :: t := by rw [drop_blank t s hk, hd]
      obtain ⟨G, hG⟩ : ∃ G, F = G + 1 := ⟨F - 1, by omega⟩
      by_cases hx : x = 32
      · subst hx
        rw [lex_blank s f k hd] at hl
        obtain ⟨q, hq, he⟩ := ih (k + 1) (by omega) (by omega) l hl
        refine ⟨q, hq, ?_⟩
        rw [← he]
        conv => lhs; rw [hG]
        rw [lex_blank (s ++ 32 :: t) G k hdr]
        exact lex_fuel _ _ _ _ (by omega) (by omega)
      · obtain ⟨tk, n, hfst⟩ : ∃ tk n, firstF (x :: u) = (tk, n) := ⟨_, _, rfl⟩
        rw [lex_step s f k hd hx hfst] at hl
        by_cases hn : n = 0
        · rw [if_pos hn] at hl; cases hl
        · rw [if_neg hn] at hl
          have hnl : n ≤ (x :: u).length := by have := first_le (x :: u); rw [hfst] at this; exact this
          have hkn : k + n ≤ s.length := by
            have : (s.drop k).length = (x :: u).length := by rw [hd]
            rw [List.length_drop] at this; omega
          have hfb : firstF ((x :: u) ++ 32 :: t) = (tk, n) := by rw [first_blank t (x :: u) (by simp) (by rw [hfst]; exact hn), hfst]
          cases hr : lexF s f (k + n) with
          | inr b => rw [hr] at hl; cases hl
          | inl m =>
            rw [hr] at hl
            injection hl with hl
            obtain ⟨q, hq, he⟩ := ih (k + n) hkn (by omega) m hr
            refine ⟨{ tk with at' := k } :: q, by rw [← hl, hq]; rfl, ?_⟩
            conv => lhs; rw [hG]
            rw [lex_step (s ++ 32 :: t) G k hdr hx hfb, if_neg hn, lex_fuel (s ++ 32 :: t) G F (k + n) (by omega) (by omega), he]
            cases lexF (s ++ 32 :: t) F (s.length + 1) <;> rfl
end Go.Proofs.YtcnmghkmognhoaaDoor
