/- A mark's text is one token, the mark. -/
import Derived.Test.YtcnmghkmognhoaaDoorKe
import Derived.Test.YtcnmghkmognhoaaDoorBs
namespace Go.Proofs.YtcnmghkmognhoaaDoor.Addr
open Go.RowKit Go.Shelf

theorem let_cap (x : UInt8) : letP x = (capN x.toNat).isSome := by
  unfold letP betP capN
  by_cases h1 : 97 ≤ x.toNat ∧ x.toNat ≤ 122
  · rw [if_pos h1, decide_eq_true h1]; rfl
  · rw [if_neg h1, decide_eq_false h1, Bool.false_or]
    by_cases h2 : 65 ≤ x.toNat ∧ x.toNat ≤ 90
    · rw [if_pos h2, decide_eq_true h2]; rfl
    · rw [if_neg h2, decide_eq_false h2]; rfl
theorem digL_all : ∀ (l : List UInt8) (n m : Int), digL l n = some m → ∀ b ∈ l, digP b = true
  | [], _, _, _, b, hb => by cases hb
  | x :: t, n, m, h, b, hb => by
    rw [digL] at h
    split at h
    · rename_i hx
      rcases List.mem_cons.1 hb with rfl | hb
      · unfold digP betP
        exact decide_eq_true hx
      · exact digL_all t _ m h b hb
    · cases h
theorem run_all (p : UInt8 → Bool) : ∀ l : List UInt8, (∀ b ∈ l, p b = true) → runF p l = l.length
  | [], _ => rfl
  | x :: t, h => by rw [runF, if_pos (h x (by simp)), run_all p t (fun b hb => h b (by simp [hb]))]; rfl
theorem run_app (p : UInt8 → Bool) : ∀ (a : List UInt8) (c : UInt8) (t : List UInt8), (∀ b ∈ a, p b = true) → p c = false → runF p (a ++ c :: t) = a.length
  | [], c, t, _, hc => by rw [List.nil_append, runF, if_neg (by rw [hc]; decide)]; rfl
  | x :: a, c, t, h, hc => by rw [List.cons_append, runF, if_pos (h x (by simp)), run_app p a c t (fun b hb => h b (by simp [hb])) hc]; rfl
theorem numL_row (l : List UInt8) (m : Int) (h : numL l = some m) : isRowF l = true := by
  unfold numL at h
  split at h
  · cases h
  · rename_i hn
    have h1 : l.length ≠ 0 := fun e => hn (.inl e)
    have h2 : ¬ 7 < l.length := fun e => hn (.inr (.inl e))
    have h3 : l.head? ≠ some 48 := fun e => hn (.inr (.inr e))
    unfold isRowF
    rw [run_all digP l (digL_all l 0 m h), decide_eq_true (show 1 ≤ l.length ∧ l.length ≤ 7 by omega), decide_eq_true rfl]
    cases l with
    | nil => simp at h1
    | cons x t =>
      have hx : x ≠ 48 := fun e => h3 (by rw [e]; rfl)
      simpa [headP] using hx
theorem let_ne (x : UInt8) (h : letP x = true) : x ≠ 36 ∧ x ≠ 32 ∧ digP x = false ∧ x ≠ 46 := by
  refine ⟨fun e => ?_, fun e => ?_, ?_, fun e => ?_⟩
  · subst e; cases h
  · subst e; cases h
  · unfold letP betP at h
    unfold digP betP
    rw [Bool.or_eq_true, decide_eq_true_eq, decide_eq_true_eq] at h
    rw [decide_eq_false_iff_not]
    omega
  · subst e; cases h
theorem cut_dol (b : Bool) (l : List UInt8) (h : headP (fun x => x == 36) l = false) : cutD (dol b ++ l) = l ∧ headP (fun x => x == 36) (dol b ++ l) = b := by
  cases b with
  | true => exact ⟨rfl, rfl⟩
  | false =>
    refine ⟨?_, h⟩
    show cutD l = l
    unfold cutD
    rw [if_neg (by rw [h]; decide)]
/-- what is to be known of a mark's text -/
theorem mark_facts (r c : Int) (fr fc : Bool) (h0 : 0 ≤ r) (h1 : r ≤ 9999998) (h2 : 0 ≤ c) (h3 : c ≤ 18277) :
    isMarkF (textL r c fr fc) = true ∧ (∀ b ∈ textL r c fr fc, wrdP b = true) ∧ ∃ x t, textL r c fr fc = x :: t ∧ fstP x = true ∧ digP x = false ∧ x ≠ 46 ∧ x ≠ 32 := by
  have hT : textL r c fr fc = dol fc ++ (letL c ++ (dol fr ++ Lib.itoa (r + 1))) := by
    unfold textL
    rw [if_pos (by simp [rightB, h0, h1, h2, h3])]
    simp
  have hnum := numL_itoa (r + 1) (by omega) (by omega)
  obtain ⟨d, u, hd, hd1, hd2⟩ := itoa_head (r + 1) (by omega)
  have hrow := numL_row _ _ hnum
  have hdig : ∀ b ∈ Lib.itoa (r + 1), digP b = true := by
    unfold numL at hnum
    split at hnum
    · cases hnum
    · exact digL_all _ _ _ hnum
  have hall := letL_all c h2 h3
  have hlet : ∀ b ∈ letL c, letP b = true := fun b hb => by rw [let_cap]; exact hall b hb
  have hlen := letL_len c
  have hne : 1 ≤ (letL c).length := by
    unfold letL
    split
    · simp
    · split <;> simp
  obtain ⟨x, t, hx⟩ : ∃ x t, letL c = x :: t := by
    cases h : letL c with
    | nil => rw [h] at hne; simp at hne
    | cons x t => exact ⟨x, t, rfl⟩
  have hxl : letP x = true := hlet x (by rw [hx]; simp)
  have hxn := let_ne x hxl
  have hd36 : d ≠ 36 := fun e => by subst e; simp at hd1
  have hdl : letP d = false := by
    unfold letP betP
    rw [Bool.or_eq_false_iff, decide_eq_false_iff_not, decide_eq_false_iff_not]
    omega
  have hhead1 : headP (fun x => x == 36) (letL c ++ (dol fr ++ Lib.itoa (r + 1))) = false := by
    rw [hx]
    simpa [headP] using hxn.1
  have hhead2 : headP (fun x => x == 36) (Lib.itoa (r + 1)) = false := by
    rw [hd]
    simpa [headP] using hd36
  have hrun : runF letP (letL c ++ (dol fr ++ Lib.itoa (r + 1))) = (letL c).length := by
    cases fr with
    | true => exact run_app letP _ 36 _ hlet (by decide)
    | false =>
      show runF letP (letL c ++ Lib.itoa (r + 1)) = _
      rw [hd]
      exact run_app letP _ d _ hlet hdl
  refine ⟨?_, ?_, ?_⟩
  · rw [hT]
    unfold isMarkF
    simp only [(cut_dol fc _ hhead1).1, (cut_dol fc _ hhead1).2, hrun]
    rw [if_neg (by omega), if_neg (by omega), List.drop_left, if_neg (by rw [hd]; cases fr <;> simp [dol]), (cut_dol fr _ hhead2).1]
    exact hrow
  · rw [hT]
    intro b hb
    unfold wrdP
    simp only [List.mem_append] at hb
    rcases hb with hb | hb | hb | hb
    · cases fc with
      | true =>
        have : b = 36 := by simpa [dol] using hb
        subst this; decide
      | false => simp [dol] at hb
    · rw [hlet b hb]; rfl
    · cases fr with
      | true =>
        have : b = 36 := by simpa [dol] using hb
        subst this; decide
      | false => simp [dol] at hb
    · rw [hdig b hb]; simp
  · rw [hT]
    cases fc with
    | true => exact ⟨36, _, rfl, by decide, by decide, by decide, by decide⟩
    | false =>
      refine ⟨x, t ++ (dol fr ++ Lib.itoa (r + 1)), by rw [hx]; rfl, ?_, hxn.2.2.1, hxn.2.2.2, hxn.2.1⟩
      unfold fstP
      rw [hxl]; rfl
theorem mark_lex {l : List UInt8} (hm : isMarkF l = true) (hw : ∀ b ∈ l, wrdP b = true) {x : UInt8} {t : List UInt8} (hl : l = x :: t) (hf : fstP x = true) (hd : digP x = false) (h46 : x ≠ 46) (h32 : x ≠ 32) :
    lexG l 0 = .inl [⟨4, l, 0⟩, ⟨0, [], l.length⟩] := by
  have hr : runF digP l = 0 := by rw [hl, runF, if_neg (by rw [hd]; decide)]
  have ha : numA l = 0 := by
    unfold numA afterF
    have hh : headP (setP [46]) l = false := by rw [hl]; simpa [headP, setP] using h46
    simp only [hr, List.drop_zero, hh]
    rfl
  have hn : numF l = 0 := by
    unfold numF
    simp only [ha]
    rw [if_pos (.inl trivial)]
  have hwd : wordF l = l.length := by
    unfold wordF
    rw [if_pos (by rw [hl]; exact hf), run_all wrdP l hw]
  have hpos : 0 < l.length := by rw [hl]; simp
  have hF : firstF l = (⟨4, l, 0⟩, l.length) := by
    unfold firstF
    rw [if_neg (by omega), hwd, if_pos hpos, List.take_length]
    simp only [hm, if_true]
  have hs := lexG_step (L := l) (k := 0) (x := x) (t := t) (by rw [List.drop_zero, hl]) h32 (tk := ⟨4, l, 0⟩) (n := l.length) (by rw [← hl]; exact hF)
  rw [hs, if_neg (by omega), Nat.zero_add, lexG_end (Nat.le_refl _)]
  rfl
end Go.Proofs.YtcnmghkmognhoaaDoor.Addr
