/- The plain mathematics of who has seen what: rows of pairs (author, number), rising by author. -/
import GoSem.Claim
namespace Go.Proofs.Ytggcnglnclpaeaa
abbrev Row := List (Int × Int)
/-- may an id be? -/
def mayB (a n : Int) : Bool := decide (1 ≤ a) && decide (a ≤ 1000) && decide (1 ≤ n)
/-- the author's number, 0: none -/
def look : Row → Int → Int
  | [], _ => 0
  | p :: l, a => if p.1 = a then p.2 else look l a
/-- is it seen? -/
def hasB (l : Row) (a n : Int) : Bool := mayB a n && decide (n ≤ look l a)
def ins (a n : Int) : Row → Row
  | [] => [(a, n)]
  | p :: l => if p.1 < a then p :: ins a n l else if p.1 = a then (a, n) :: l else (a, n) :: p :: l
def addB (l : Row) (a n : Int) : Bool := mayB a n && !hasB l a n
def addL (l : Row) (a n : Int) : Row := if addB l a n then ins a n l else l
/-- a row that may be -/
structure OkR (l : Row) : Prop where
  up : l.Pairwise (fun p q => p.1 < q.1)
  may : ∀ p ∈ l, mayB p.1 p.2 = true
  small : ∀ p ∈ l, p.2 ≤ 9223372036854775807

theorem mayB_iff (a n : Int) : mayB a n = true ↔ 1 ≤ a ∧ a ≤ 1000 ∧ 1 ≤ n := by simp [mayB, and_assoc]

theorem look_not_mem {l : Row} {a : Int} (h : ∀ p ∈ l, p.1 ≠ a) : look l a = 0 := by
  induction l with
  | nil => rfl
  | cons p l ih =>
    unfold look
    rw [if_neg (h p (by simp))]
    exact ih fun q hq => h q (by simp [hq])
theorem look_mem {l : Row} (ho : l.Pairwise (fun p q => p.1 < q.1)) {p : Int × Int} (hp : p ∈ l) : look l p.1 = p.2 := by
  induction l with
  | nil => cases hp
  | cons q l ih =>
    rw [List.pairwise_cons] at ho
    rcases List.mem_cons.1 hp with rfl | hp'
    · simp [look]
    · unfold look
      rw [if_neg (by have := ho.1 p hp'; omega)]
      exact ih ho.2 hp'
theorem look_cases (l : Row) (a : Int) : (look l a = 0 ∧ ∀ p ∈ l, p.1 ≠ a) ∨ (a, look l a) ∈ l := by
  induction l with
  | nil => left; simp [look]
  | cons p l ih =>
    unfold look
    by_cases h : p.1 = a
    · right; rw [if_pos h, ← h]; simp
    · rw [if_neg h]
      rcases ih with ⟨h1, h2⟩ | h1
      · left; refine ⟨h1, fun q hq => ?_⟩
        rcases List.mem_cons.1 hq with rfl | hq
        · exact h
        · exact h2 q hq
      · right; simp [h1]
theorem look_bd {l : Row} (ho : OkR l) (a : Int) : 0 ≤ look l a ∧ look l a ≤ 9223372036854775807 := by
  rcases look_cases l a with ⟨h, _⟩ | h
  · omega
  · have h1 := (mayB_iff _ _).1 (ho.may _ h)
    have h2 := ho.small _ h
    simp only at h1 h2; omega
theorem look_pos {l : Row} (ho : OkR l) {a : Int} (h : 0 < look l a) : 1 ≤ a ∧ a ≤ 1000 := by
  rcases look_cases l a with ⟨h', _⟩ | h'
  · omega
  · have h1 := (mayB_iff _ _).1 (ho.may _ h')
    simp only at h1; omega
theorem mem_ins {a n : Int} {l : Row} {q : Int × Int} (h : q ∈ ins a n l) : q = (a, n) ∨ q ∈ l := by
  induction l with
  | nil => simpa [ins] using h
  | cons p l ih =>
    unfold ins at h
    split at h
    · rcases List.mem_cons.1 h with rfl | h
      · simp
      · rcases ih h with h | h <;> simp [h]
    · split at h
      · rcases List.mem_cons.1 h with rfl | h <;> simp_all
      · rcases List.mem_cons.1 h with rfl | h <;> simp_all
theorem look_ins {a n : Int} {l : Row} (ho : l.Pairwise (fun p q => p.1 < q.1)) (b : Int) : look (ins a n l) b = if b = a then n else look l b := by
  induction l with
  | nil => simp [ins, look, eq_comm]
  | cons p l ih =>
    rw [List.pairwise_cons] at ho
    unfold ins
    by_cases h1 : p.1 < a
    · rw [if_pos h1]
      simp only [look]
      rw [ih ho.2]
      by_cases h2 : p.1 = b
      · rw [if_pos h2, if_pos h2, if_neg (by omega)]
      · rw [if_neg h2, if_neg h2]
    · rw [if_neg h1]
      by_cases h2 : p.1 = a
      · rw [if_pos h2]
        simp only [look]
        by_cases h3 : b = a
        · simp [h3]
        · rw [if_neg (by omega), if_neg h3, if_neg (by omega)]
      · rw [if_neg h2]
        simp only [look]
        by_cases h3 : b = a
        · simp [h3]
        · rw [if_neg (by omega), if_neg h3]
theorem ins_up {a n : Int} {l : Row} (ho : l.Pairwise (fun p q => p.1 < q.1)) : (ins a n l).Pairwise (fun p q => p.1 < q.1) := by
  induction l with
  | nil => simp [ins]
  | cons p l ih =>
    have ho' := List.pairwise_cons.1 ho
    unfold ins
    by_cases h1 : p.1 < a
    · rw [if_pos h1, List.pairwise_cons]
      refine ⟨fun q hq => ?_, ih ho'.2⟩
      rcases mem_ins hq with rfl | hq
      · exact h1
      · exact ho'.1 q hq
    · rw [if_neg h1]
      by_cases h2 : p.1 = a
      · rw [if_pos h2, List.pairwise_cons]
        exact ⟨fun q hq => by have := ho'.1 q hq; simp only; omega, ho'.2⟩
      · rw [if_neg h2, List.pairwise_cons]
        refine ⟨fun q hq => ?_, ho⟩
        rcases List.mem_cons.1 hq with rfl | hq
        · simp only; omega
        · have := ho'.1 q hq; simp only; omega
theorem ins_ok {l : Row} (ho : OkR l) {a n : Int} (hm : mayB a n = true) (hn : n ≤ 9223372036854775807) : OkR (ins a n l) :=
  ⟨ins_up ho.up, fun q hq => by rcases mem_ins hq with rfl | hq; exact hm; exact ho.may q hq, fun q hq => by rcases mem_ins hq with rfl | hq; exact hn; exact ho.small q hq⟩
theorem OkR.nil : OkR [] := ⟨List.Pairwise.nil, by simp, by simp⟩
theorem addB_may {l : Row} {a n : Int} (h : addB l a n = true) : mayB a n = true := by
  unfold addB at h; simp only [Bool.and_eq_true] at h; exact h.1
theorem addL_ok {l : Row} (ho : OkR l) {a n : Int} (hn : n ≤ 9223372036854775807) : OkR (addL l a n) := by
  unfold addL
  split
  · rename_i h; exact ins_ok ho (addB_may h) hn
  · exact ho
theorem look_addL {l : Row} (ho : OkR l) (a n b : Int) : look (addL l a n) b = if b = a ∧ mayB a n = true ∧ look l a < n then n else look l b := by
  unfold addL addB hasB
  by_cases h : mayB a n = true
  · by_cases h2 : n ≤ look l a
    · simp [h, h2]; intros; omega
    · simp only [h, h2, decide_false, Bool.and_false, Bool.not_false, Bool.and_true, if_true, look_ins ho.up]
      by_cases h3 : b = a
      · rw [if_pos h3, if_pos ⟨h3, trivial, by omega⟩]
      · rw [if_neg h3, if_neg (fun x => h3 x.1)]
  · simp [h]
theorem row_ext {l m : Row} (hl : OkR l) (hm : OkR m) (h : ∀ a, look l a = look m a) : l = m := by
  induction l generalizing m with
  | nil =>
    cases m with
    | nil => rfl
    | cons q m =>
      have h1 := h q.1
      have h2 := (mayB_iff _ _).1 (hm.may q (by simp))
      simp [look] at h1; omega
  | cons p l ih =>
    have hp := (mayB_iff _ _).1 (hl.may p (by simp))
    cases m with
    | nil => have h1 := h p.1; simp [look] at h1; omega
    | cons q m =>
      have hq := (mayB_iff _ _).1 (hm.may q (by simp))
      have hlp := List.pairwise_cons.1 hl.up
      have hmp := List.pairwise_cons.1 hm.up
      have no1 : ∀ x, x ≤ p.1 → look l x = 0 := fun x hx => look_not_mem fun r hr => by have := hlp.1 r hr; omega
      have no2 : ∀ x, x ≤ q.1 → look m x = 0 := fun x hx => look_not_mem fun r hr => by have := hmp.1 r hr; omega
      have e1 : p.1 = q.1 := by
        rcases Int.lt_trichotomy p.1 q.1 with h3 | h3 | h3
        · have h1 := h p.1
          simp only [look, if_true] at h1
          rw [if_neg (by omega), no2 _ (by omega)] at h1; omega
        · exact h3
        · have h1 := h q.1
          simp only [look, if_true] at h1
          rw [if_neg (by omega), no1 _ (by omega)] at h1; omega
      have e2 : p.2 = q.2 := by
        have h1 := h p.1
        simp only [look, if_true] at h1
        rwa [if_pos e1.symm] at h1
      have e3 : l = m := by
        refine ih ⟨hlp.2, fun r hr => hl.may r (by simp [hr]), fun r hr => hl.small r (by simp [hr])⟩ ⟨hmp.2, fun r hr => hm.may r (by simp [hr]), fun r hr => hm.small r (by simp [hr])⟩ fun a => ?_
        have h1 := h a
        simp only [look] at h1
        by_cases h3 : p.1 = a
        · rw [no1 a (by omega), no2 a (by omega)]
        · rwa [if_neg h3, if_neg (by omega)] at h1
      rw [e3, Prod.ext e1 e2]

/-- of all ids that come -/
def addsL (l : Row) (ids : Row) : Row := ids.foldl (fun l p => addL l p.1 p.2) l
theorem addsL_snoc (l ids : Row) (p : Int × Int) : addsL l (ids ++ [p]) = addL (addsL l ids) p.1 p.2 := by simp [addsL]
theorem addsL_ok {l ids : Row} (ho : OkR l) (hs : ∀ p ∈ ids, p.2 ≤ 9223372036854775807) : OkR (addsL l ids) := by
  induction ids generalizing l with
  | nil => exact ho
  | cons p ids ih => exact ih (addL_ok ho (hs p (by simp))) fun q hq => hs q (by simp [hq])
/-- the greatest number -/
def mostL (l : Row) : Int := l.foldl (fun m p => max m p.2) 0
theorem mostL_snoc (l : Row) (p : Int × Int) : mostL (l ++ [p]) = max (mostL l) p.2 := by simp [mostL]
theorem mostL_ge (l : Row) : 0 ≤ mostL l ∧ ∀ p ∈ l, p.2 ≤ mostL l := by
  have : ∀ (l : Row) (m : Int), m ≤ l.foldl (fun m p => max m p.2) m ∧ ∀ p ∈ l, p.2 ≤ l.foldl (fun m p => max m p.2) m := by
    intro l
    induction l with
    | nil => intro m; simp
    | cons q l ih =>
      intro m
      have := ih (max m q.2)
      simp only [List.foldl_cons]
      refine ⟨by omega, fun p hp => ?_⟩
      rcases List.mem_cons.1 hp with rfl | hp
      · omega
      · exact this.2 p hp
  exact this l 0
theorem mostL_mem (l : Row) : mostL l = 0 ∨ ∃ p ∈ l, p.2 = mostL l := by
  have : ∀ (l : Row) (m : Int), l.foldl (fun m p => max m p.2) m = m ∨ ∃ p ∈ l, p.2 = l.foldl (fun m p => max m p.2) m := by
    intro l
    induction l with
    | nil => intro m; simp
    | cons q l ih =>
      intro m
      simp only [List.foldl_cons]
      rcases ih (max m q.2) with h | ⟨p, hp, h⟩
      · rw [h]
        by_cases h2 : m ≤ q.2
        · right; exact ⟨q, by simp, by omega⟩
        · left; omega
      · right; exact ⟨p, by simp [hp], h⟩
  exact this l 0
theorem mostL_bd {l : Row} (ho : OkR l) : 0 ≤ mostL l ∧ mostL l ≤ 9223372036854775807 := by
  refine ⟨(mostL_ge l).1, ?_⟩
  rcases mostL_mem l with h | ⟨p, hp, h⟩
  · omega
  · rw [← h]; exact ho.small p hp
theorem look_most (l : Row) (a : Int) : look l a ≤ mostL l := by
  rcases look_cases l a with ⟨h, _⟩ | h
  · rw [h]; exact (mostL_ge l).1
  · exact (mostL_ge l).2 _ h
def nextL (l : Row) (a : Int) : Int × Int := if decide (1 ≤ a) && decide (a ≤ 1000) && !decide (mostL l = 9223372036854775807) then (a, mostL l + 1) else (0, 0)
/-- is all of m seen by l? -/
def covB (l m : Row) : Bool := m.all fun p => hasB l p.1 p.2
theorem covB_iff {l m : Row} (hl : OkR l) (hm : OkR m) : covB l m = true ↔ ∀ a, look m a ≤ look l a := by
  unfold covB
  rw [List.all_eq_true]
  constructor
  · intro h a
    rcases look_cases m a with ⟨h1, _⟩ | h1
    · rw [h1]; exact (look_bd hl a).1
    · have h2 := h _ h1
      simp [hasB] at h2
      exact h2.2
  · intro h p hp
    have h1 := h p.1
    rw [look_mem hm.up hp] at h1
    simp [hasB, hm.may p hp, h1]
def befB (a b : Int × Int) : Bool := decide (a.2 < b.2) || decide (a.2 = b.2) && decide (a.1 < b.1)
theorem look_addsL {l : Row} (ho : OkR l) {m : Row} (hm : OkR m) (a : Int) : look (addsL l m) a = max (look l a) (look m a) := by
  have : ∀ (m : Row) (l : Row), OkR l → OkR m → ∀ a, look (addsL l m) a = max (look l a) (look m a) := by
    intro m
    induction m with
    | nil => intro l ho _ a; have := (look_bd ho a).1; simp [addsL, look]; omega
    | cons p m ih =>
      intro l ho hm a
      have hp := List.pairwise_cons.1 hm.up
      have hm' : OkR m := ⟨hp.2, fun q hq => hm.may q (by simp [hq]), fun q hq => hm.small q (by simp [hq])⟩
      show look (addsL (addL l p.1 p.2) m) a = _
      rw [ih _ (addL_ok ho (hm.small p (by simp))) hm' a, look_addL ho]
      have hpm := hm.may p (by simp)
      simp only [look, hpm, true_and]
      by_cases h1 : a = p.1
      · subst h1
        have e : look m p.1 = 0 := look_not_mem fun r hr => by have := hp.1 r hr; omega
        have b := look_bd ho p.1
        have hp2 := (mayB_iff _ _).1 hpm
        rw [e, if_pos rfl]
        by_cases h2 : look l p.1 < p.2
        · rw [if_pos ⟨rfl, h2⟩]; omega
        · rw [if_neg (fun x => h2 x.2)]; omega
      · rw [if_neg (fun x => h1 x.1), if_neg (fun x => h1 x.symm)]
  exact this m l ho hm a
end Go.Proofs.Ytggcnglnclpaeaa
