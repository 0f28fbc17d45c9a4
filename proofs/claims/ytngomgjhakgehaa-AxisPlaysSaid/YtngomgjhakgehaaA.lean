/- An axis as a list of entries: what the program's functions tell of it. -/
import Derived.Test.YtngomgjhakgehaaProg
namespace Go.Proofs.Ytngomgjhakgehaa

abbrev IdP := Int × Int
abbrev Ent := IdP × Bool

def hasE (l : List Ent) (p : IdP) : Bool := l.any fun e => e.1 == p
/-- one id more, where New takes it -/
def takesE (l : List Ent) (p : IdP) : Bool := !(p == (0, 0)) && !hasE l p && decide (l.length < 1000)
def newS (l : List Ent) (p : IdP) : List Ent := if takesE l p then l ++ [(p, true)] else l
def newE (ids : List IdP) : List Ent := ids.foldl newS []
theorem newE_snoc (ids : List IdP) (p : IdP) : newE (ids ++ [p]) = newS (newE ids) p := by simp [newE]
def idxE (l : List Ent) (p : IdP) : Option Nat := l.findIdx? fun e => e.1 == p
def findE (l : List Ent) (p : IdP) : Int := match idxE l p with | some i => i | none => -1
def placeF (p : IdP) : Int → List Ent → Int × Bool
  | _, [] => (0, false)
  | n, e :: l => if e.1 == p then (if e.2 then (n, true) else (0, false)) else placeF p (if e.2 then n + 1 else n) l
def atF (place : Int) : Int → List Ent → IdP × Bool
  | _, [] => ((0, 0), false)
  | n, e :: l => if e.2 && n == place then (e.1, true) else atF place (if e.2 then n + 1 else n) l
def liveE (l : List Ent) : List IdP := (l.filter (·.2)).map (·.1)

theorem hasE_iff (l : List Ent) (p : IdP) : hasE l p = true ↔ ∃ e ∈ l, e.1 = p := by simp [hasE]
theorem newS_len (l : List Ent) (p : IdP) : (newS l p).length ≤ l.length + 1 := by unfold newS; split <;> simp
theorem newE_len (ids : List IdP) : (newE ids).length ≤ ids.length := by
  have : ∀ (ids : List IdP) (l : List Ent), (ids.foldl newS l).length ≤ l.length + ids.length := by
    intro ids
    induction ids with
    | nil => intro l; simp
    | cons p ids ih =>
      intro l
      have h1 := ih (newS l p)
      have h2 := newS_len l p
      simp only [List.foldl_cons, List.length_cons]
      omega
  simpa [newE] using this ids []
/-- a list of New's: all are live, none comes twice -/
structure Fresh (l : List Ent) : Prop where
  live : ∀ e ∈ l, e.2 = true
  once : (l.map (·.1)).Pairwise (· ≠ ·)
theorem newE_fresh (ids : List IdP) : Fresh (newE ids) := by
  have : ∀ (ids : List IdP) (l : List Ent), Fresh l → Fresh (ids.foldl newS l) := by
    intro ids
    induction ids with
    | nil => intro l h; exact h
    | cons p ids ih =>
      intro l h
      refine ih _ ?_
      unfold newS
      split
      · rename_i ht
        unfold takesE at ht
        simp only [Bool.and_eq_true, Bool.not_eq_true'] at ht
        have hn : ∀ e ∈ l, e.1 ≠ p := fun e he hp => by
          have := (hasE_iff l p).2 ⟨e, he, hp⟩
          rw [this] at ht
          simp at ht
        refine ⟨fun e he => ?_, ?_⟩
        · rcases List.mem_append.1 he with he | he
          · exact h.live e he
          · simp only [List.mem_singleton] at he; rw [he]
        · rw [List.map_append, List.pairwise_append]
          refine ⟨h.once, by simp, fun a ha b hb => ?_⟩
          obtain ⟨e, he, rfl⟩ := List.mem_map.1 ha
          simp only [List.map_cons, List.map_nil, List.mem_singleton] at hb
          rw [hb]
          exact hn e he
      · exact h
  exact this ids [] ⟨by simp, by simp⟩
theorem live_all {l : List Ent} (h : ∀ e ∈ l, e.2 = true) : liveE l = l.map (·.1) := by
  unfold liveE
  rw [List.filter_eq_self.2 h]
/-- At: the live one at a place -/
theorem atF_live (l : List Ent) (n place : Int) : atF place n l = match (if n ≤ place then (liveE l)[(place - n).toNat]? else none) with | some p => (p, true) | none => ((0, 0), false) := by
  induction l generalizing n with
  | nil => simp [atF, liveE]
  | cons e l ih =>
    obtain ⟨p, b⟩ := e
    cases b with
    | false =>
      have h1 : liveE ((p, false) :: l) = liveE l := by simp [liveE]
      rw [h1]
      simpa [atF] using ih n
    | true =>
      have h1 : liveE ((p, true) :: l) = p :: liveE l := by simp [liveE]
      rw [h1]
      by_cases hn : n = place
      · subst hn
        simp [atF]
      · have h2 : (n == place) = false := by simpa using hn
        simp only [atF, h2, Bool.and_false, Bool.false_eq_true, if_false, if_true]
        rw [ih (n + 1)]
        by_cases h3 : n ≤ place
        · have h4 : n + 1 ≤ place := by omega
          rw [if_pos h3, if_pos h4]
          have h5 : (place - n).toNat = (place - (n + 1)).toNat + 1 := by omega
          rw [h5, List.getElem?_cons_succ]
        · have h4 : ¬ n + 1 ≤ place := by omega
          rw [if_neg h3, if_neg h4]
end Go.Proofs.Ytngomgjhakgehaa
