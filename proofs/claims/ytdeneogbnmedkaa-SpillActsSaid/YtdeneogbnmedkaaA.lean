/- A board as a list of decisions: what the program's functions tell of it. -/
import Derived.Test.YtdeneogbnmedkaaProg
namespace Go.Proofs.Ytdeneogbnmedkaa

abbrev Pl := Int × Int
/-- a rect: row, column, rows, columns -/
abbrev R4 := Int × Int × Int × Int
def anc (r : R4) : Pl := (r.1, r.2.1)
structure Dc where
  r : R4
  st : Bool
  bl : Pl
  hb : Bool
structure Brd where
  rows : Int
  cols : Int
  con : Pl → Bool
  l : List Dc

def inR (r : R4) (p : Pl) : Bool := decide (r.1 ≤ p.1 ∧ p.1 < r.1 + r.2.2.1 ∧ r.2.1 ≤ p.2 ∧ p.2 < r.2.1 + r.2.2.2)
theorem inR_iff (r : R4) (p : Pl) : inR r p = true ↔ r.1 ≤ p.1 ∧ p.1 < r.1 + r.2.2.1 ∧ r.2.1 ≤ p.2 ∧ p.2 < r.2.1 + r.2.2.2 := by simp [inR]
def ownF (l : List Dc) (p : Pl) : Option R4 := (l.find? fun d => d.st && inR d.r p).map (·.r)
def decF (l : List Dc) (p : Pl) : Option Dc := l.find? fun d => anc d.r == p
def hasP (B : Brd) (p : Pl) : Bool := decide (0 ≤ p.1 ∧ 0 ≤ p.2 ∧ p.1 < B.rows ∧ p.2 < B.cols)
theorem hasP_iff (B : Brd) (p : Pl) : hasP B p = true ↔ 0 ≤ p.1 ∧ 0 ≤ p.2 ∧ p.1 < B.rows ∧ p.2 < B.cols := by simp [hasP]
def fillR (B : Brd) (p : Pl) : Bool := hasP B p && B.l.isEmpty
def conP (B : Brd) (p : Pl) : Brd := { B with con := fun q => q == p || B.con q }
def fillB (B : Brd) (p : Pl) : Brd := if fillR B p then conP B p else B
def fitsF (rows cols : Int) : Bool := decide (1 ≤ rows ∧ 1 ≤ cols ∧ rows ≤ 4096 ∧ cols ≤ 4096 ∧ rows * cols ≤ 4096)
theorem fitsF_iff (rows cols : Int) : fitsF rows cols = true ↔ 1 ≤ rows ∧ 1 ≤ cols ∧ rows ≤ 4096 ∧ cols ≤ 4096 ∧ rows * cols ≤ 4096 := by simp [fitsF]
def rowF (r : R4) (i n : Nat) : List Pl := (List.range n).map fun (j : Nat) => (r.1 + (i : Int), r.2.1 + (j : Int))
def rowsF (r : R4) (n : Nat) : List Pl := (List.range n).flatMap fun i => rowF r i r.2.2.2.toNat
def cellsF (r : R4) : List Pl := rowsF r r.2.2.1.toNat
def barF (B : Brd) (r : R4) (p : Pl) : Bool := (!(p == anc r) && B.con p) || (ownF B.l p).isSome
def beyF (B : Brd) (r : R4) : Bool := decide (B.rows - r.1 < r.2.2.1) || decide (B.cols - r.2.1 < r.2.2.2)
def judF (B : Brd) (r : R4) : Dc := if beyF B r then ⟨r, false, (0, 0), false⟩ else match (cellsF r).find? (barF B r) with | some p => ⟨r, false, p, true⟩ | none => ⟨r, true, (0, 0), false⟩
def decE (B : Brd) (r : R4) : Int := if !(hasP B (anc r) && fitsF r.2.2.1 r.2.2.2) then 2 else if !(B.con (anc r)) then 3 else if (decF B.l (anc r)).isSome then 4 else 0
def addD (B : Brd) (r : R4) : Brd := { B with l := B.l ++ [judF B r] }
def decB (B : Brd) (r : R4) : Brd := if decE B r = 0 then addD B r else B
def decR (B : Brd) (r : R4) : Bool := decide (decE B r = 0) && (judF B r).st
def clampF (n : Int) : Int := max 0 (min n 1000)
def newF (rows cols : Int) : Brd := { rows := clampF rows, cols := clampF cols, con := fun _ => false, l := [] }

theorem judF_r (B : Brd) (r : R4) : (judF B r).r = r := by
  unfold judF
  split
  · rfl
  · split <;> rfl
theorem mem_cells {r : R4} {p : Pl} : p ∈ cellsF r ↔ inR r p = true := by
  rw [inR_iff]
  unfold cellsF rowsF rowF
  simp only [List.mem_flatMap, List.mem_range, List.mem_map]
  constructor
  · rintro ⟨i, hi, j, hj, rfl⟩
    simp only
    omega
  · rintro ⟨h1, h2, h3, h4⟩
    refine ⟨(p.1 - r.1).toNat, by omega, (p.2 - r.2.1).toNat, by omega, ?_⟩
    refine Prod.ext ?_ ?_
    · simp only; omega
    · simp only; omega

/-- what every board of the program's keeps -/
structure Inv (B : Brd) : Prop where
  r0 : 0 ≤ B.rows ∧ B.rows ≤ 1000
  c0 : 0 ≤ B.cols ∧ B.cols ≤ 1000
  con : ∀ p, B.con p = true → hasP B p = true
  ats : ∀ d ∈ B.l, hasP B (anc d.r) = true ∧ fitsF d.r.2.2.1 d.r.2.2.2 = true
  jud : ∀ d ∈ B.l, (d.st = true → beyF B d.r = false ∧ d.hb = false) ∧ (d.st = false → d.hb = !(beyF B d.r)) ∧ (d.hb = false → d.bl = (0, 0)) ∧ (d.hb = true → inR d.r d.bl = true)
  ancs : B.l.Pairwise fun d e => anc d.r ≠ anc e.r
  dis : B.l.Pairwise fun d e => d.st = true → e.st = true → ∀ p, inR d.r p = true → inR e.r p = true → False
  free : ∀ d ∈ B.l, d.st = true → ∀ p, inR d.r p = true → p ≠ anc d.r → B.con p = false

theorem inv_new (rows cols : Int) : Inv (newF rows cols) where
  r0 := by unfold newF clampF; simp only; omega
  c0 := by unfold newF clampF; simp only; omega
  con := fun p h => by simp [newF] at h
  ats := fun d h => by simp [newF] at h
  jud := fun d h => by simp [newF] at h
  ancs := List.Pairwise.nil
  dis := List.Pairwise.nil
  free := fun d h => by simp [newF] at h
theorem inv_fill {B : Brd} (h : Inv B) (p : Pl) : Inv (fillB B p) := by
  unfold fillB
  split
  · rename_i hf
    unfold fillR at hf
    simp only [Bool.and_eq_true, List.isEmpty_iff] at hf
    obtain ⟨hp, hl⟩ := hf
    refine ⟨h.r0, h.c0, fun q hq => ?_, ?_, ?_, h.ancs, h.dis, ?_⟩
    · show hasP B q = true
      simp only [conP, Bool.or_eq_true, beq_iff_eq] at hq
      rcases hq with rfl | hq
      · exact hp
      · exact h.con q hq
    all_goals
      intro d hd
      rw [show (conP B p).l = B.l from rfl, hl] at hd
      simp at hd
  · exact h
theorem decE_zero {B : Brd} {r : R4} (h : decE B r = 0) : hasP B (anc r) = true ∧ fitsF r.2.2.1 r.2.2.2 = true ∧ B.con (anc r) = true ∧ decF B.l (anc r) = none := by
  unfold decE at h
  split at h
  · cases h
  · rename_i h1
    split at h
    · cases h
    · rename_i h2
      split at h
      · cases h
      · rename_i h3
        simp only [Bool.not_eq_true, Bool.not_eq_false', Bool.and_eq_true] at h1 h2
        exact ⟨h1.1, h1.2, h2, by simpa using h3⟩
theorem ownF_none {l : List Dc} {p : Pl} (h : ownF l p = none) : ∀ d ∈ l, d.st = true → inR d.r p = false := by
  unfold ownF at h
  simp only [Option.map_eq_none_iff, List.find?_eq_none] at h
  intro d hd hs
  have := h d hd
  simpa [hs] using this
theorem judF_st {B : Brd} {r : R4} (h : (judF B r).st = true) : beyF B r = false ∧ (judF B r).hb = false ∧ ∀ p, inR r p = true → barF B r p = false := by
  unfold judF at h ⊢
  cases hb : beyF B r with
  | true => rw [hb] at h; simp at h
  | false =>
    rw [hb] at h
    simp only [Bool.false_eq_true, if_false] at h ⊢
    cases hf : (cellsF r).find? (barF B r) with
    | some p => rw [hf] at h; simp at h
    | none =>
      refine ⟨trivial, rfl, fun p hp => ?_⟩
      have := List.find?_eq_none.1 hf p (mem_cells.2 hp)
      simpa using this
theorem judF_jud (B : Brd) (r : R4) : ((judF B r).st = true → beyF B r = false ∧ (judF B r).hb = false) ∧ ((judF B r).st = false → (judF B r).hb = !(beyF B r)) ∧ ((judF B r).hb = false → (judF B r).bl = (0, 0)) ∧ ((judF B r).hb = true → inR r (judF B r).bl = true) := by
  unfold judF
  cases hb : beyF B r with
  | true => simp
  | false =>
    simp only [Bool.false_eq_true, if_false]
    cases hf : (cellsF r).find? (barF B r) with
    | some p => simp [mem_cells.1 (List.mem_of_find?_eq_some hf)]
    | none => simp
theorem inv_dec {B : Brd} (h : Inv B) (r : R4) : Inv (decB B r) := by
  unfold decB
  split
  · rename_i he
    obtain ⟨h1, h2, h3, h4⟩ := decE_zero he
    have hr := judF_r B r
    have hj := judF_jud B r
    have hs := @judF_st B r
    obtain ⟨d0, hd0⟩ : ∃ d0, judF B r = d0 := ⟨_, rfl⟩
    unfold addD
    rw [hd0] at hr hj hs ⊢
    have hmem : ∀ d ∈ B.l ++ [d0], d ∈ B.l ∨ d = d0 := fun d hd => by simpa using hd
    refine ⟨h.r0, h.c0, h.con, fun d hd => ?_, fun d hd => ?_, ?_, ?_, fun d hd => ?_⟩
    · rcases hmem d hd with hd | rfl
      · exact h.ats d hd
      · rw [hr]; exact ⟨h1, h2⟩
    · rcases hmem d hd with hd | rfl
      · exact h.jud d hd
      · rw [hr]; exact hj
    · refine List.pairwise_append.2 ⟨h.ancs, List.pairwise_singleton _ _, fun d hd e he => ?_⟩
      simp only [List.mem_singleton] at he
      subst he
      rw [hr]
      have := List.find?_eq_none.1 h4 d hd
      simpa using this
    · refine List.pairwise_append.2 ⟨h.dis, List.pairwise_singleton _ _, fun d hd e he hds hes p hp hq => ?_⟩
      simp only [List.mem_singleton] at he
      subst he
      rw [hr] at hq
      obtain ⟨_, _, h7⟩ := hs hes
      have h8 := h7 p hq
      unfold barF at h8
      simp only [Bool.or_eq_false_iff, Option.isSome_eq_false_iff, Option.isNone_iff_eq_none] at h8
      have := ownF_none h8.2 d hd hds
      rw [hp] at this
      cases this
    · rcases hmem d hd with hd | rfl
      · exact h.free d hd
      · rw [hr]
        intro hds p hp hne
        obtain ⟨_, _, h7⟩ := hs hds
        have h8 := h7 p hp
        unfold barF at h8
        simp only [Bool.or_eq_false_iff] at h8
        have h9 := h8.1
        have hb : (p == anc r) = false := by simpa using hne
        simpa [hb] using h9
  · exact h
theorem dec_len (B : Brd) (r : R4) : (decB B r).l.length ≤ B.l.length + 1 := by
  unfold decB
  split
  · simp [addD]
  · omega
theorem ownF_snoc (l : List Dc) (d : Dc) (p : Pl) : ownF (l ++ [d]) p = (ownF l p).or (if d.st && inR d.r p then some d.r else none) := by
  unfold ownF
  rw [List.find?_append]
  cases h : List.find? (fun d => d.st && inR d.r p) l with
  | some e => simp
  | none =>
    simp only [Option.none_or, Option.map_none]
    by_cases hd : (d.st && inR d.r p) = true
    · simp [hd]
    · rw [Bool.not_eq_true] at hd
      simp [hd]
theorem decF_snoc (l : List Dc) (d : Dc) (p : Pl) : decF (l ++ [d]) p = (decF l p).or (if anc d.r == p then some d else none) := by
  unfold decF
  rw [List.find?_append]
  congr 1
  by_cases hd : (anc d.r == p) = true
  · simp [hd]
  · simp [hd]
/-- of boards that keep Inv: who owns, by the rect -/
theorem ownF_of {B : Brd} (h : Inv B) {d : Dc} (hd : d ∈ B.l) (hs : d.st = true) {p : Pl} (hp : inR d.r p = true) : ownF B.l p = some d.r := by
  have hdis := h.dis
  obtain ⟨l, hl⟩ : ∃ l, B.l = l := ⟨_, rfl⟩
  rw [hl] at hd hdis ⊢
  clear hl
  induction l with
  | nil => simp at hd
  | cons e l ih =>
    rw [List.pairwise_cons] at hdis
    unfold ownF
    rw [List.find?_cons]
    by_cases he : (e.st && inR e.r p) = true
    · rw [he]
      rcases List.mem_cons.1 hd with rfl | hd
      · rfl
      · simp only [Bool.and_eq_true] at he
        exact (hdis.1 d hd he.1 hs p he.2 hp).elim
    · rcases List.mem_cons.1 hd with rfl | hd
      · simp [hs, hp] at he
      · rw [Bool.not_eq_true] at he
        rw [he]
        exact ih hdis.2 hd
theorem ownF_some {l : List Dc} {p : Pl} {r : R4} (h : ownF l p = some r) : ∃ d ∈ l, d.st = true ∧ inR d.r p = true ∧ d.r = r := by
  unfold ownF at h
  obtain ⟨d, hd, rfl⟩ := Option.map_eq_some_iff.1 h
  have h1 := List.find?_some hd
  simp only [Bool.and_eq_true] at h1
  exact ⟨d, List.mem_of_find?_eq_some hd, h1.1, h1.2, rfl⟩
theorem decF_of {B : Brd} (h : Inv B) {d : Dc} (hd : d ∈ B.l) : decF B.l (anc d.r) = some d := by
  have hdis := h.ancs
  obtain ⟨l, hl⟩ : ∃ l, B.l = l := ⟨_, rfl⟩
  rw [hl] at hd hdis ⊢
  clear hl
  induction l with
  | nil => simp at hd
  | cons e l ih =>
    rw [List.pairwise_cons] at hdis
    unfold decF
    rw [List.find?_cons]
    rcases List.mem_cons.1 hd with rfl | hd
    · simp
    · have : (anc e.r == anc d.r) = false := by simpa using hdis.1 d hd
      rw [this]
      exact ih hdis.2 hd
/-- a rect apart changes nothing of another one's decision -/
theorem dec_apart (B : Brd) (a c : R4) (ha : 1 ≤ a.2.2.1 ∧ 1 ≤ a.2.2.2) (hc : 1 ≤ c.2.2.1 ∧ 1 ≤ c.2.2.2) (hd : ∀ p, inR a p = true → inR c p = true → False) : decE (decB B a) c = decE B c ∧ decR (decB B a) c = decR B c := by
  have hne : anc a ≠ anc c := fun he => by
    have h1 : a.1 = c.1 := congrArg (·.1) he
    have h2 : a.2.1 = c.2.1 := congrArg (·.2) he
    refine hd (anc a) ((inR_iff _ _).2 ?_) ((inR_iff _ _).2 ?_)
    · simp only [anc]; omega
    · simp only [anc]; omega
  have hE : decE (decB B a) c = decE B c := by
    unfold decB
    split
    · unfold decE
      have : decF (addD B a).l (anc c) = decF B.l (anc c) := by
        unfold addD
        rw [decF_snoc, judF_r]
        have hb : (anc a == anc c) = false := by simpa using hne
        simp [hb]
      rw [this]
      rfl
    · rfl
  have hJ : judF (decB B a) c = judF B c := by
    unfold decB
    split
    · have hb : ∀ p, inR c p = true → barF (addD B a) c p = barF B c p := fun p hp => by
        unfold barF
        have h0 : ownF (addD B a).l p = ownF B.l p := by
          unfold addD
          rw [ownF_snoc, judF_r]
          have hb : inR a p = false := by
            cases h : inR a p with
            | false => rfl
            | true => exact (hd p h hp).elim
          simp [hb]
        rw [h0]
        rfl
      have hf : (cellsF c).find? (barF (addD B a) c) = (cellsF c).find? (barF B c) := by
        have : ∀ L : List Pl, (∀ p ∈ L, barF (addD B a) c p = barF B c p) → L.find? (barF (addD B a) c) = L.find? (barF B c) := by
          intro L
          induction L with
          | nil => intro _; rfl
          | cons q L ih =>
            intro hL
            rw [List.find?_cons, List.find?_cons, hL q (by simp), ih (fun p hp => hL p (by simp [hp]))]
        exact this _ (fun p hp => hb p (mem_cells.1 hp))
      unfold judF
      rw [hf]
      rfl
    · rfl
  refine ⟨hE, ?_⟩
  unfold decR
  rw [hE, hJ]
end Go.Proofs.Ytdeneogbnmedkaa
