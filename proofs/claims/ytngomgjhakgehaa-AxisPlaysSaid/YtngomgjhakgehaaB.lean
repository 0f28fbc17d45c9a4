/- Deleted and revived: of a list of New's. -/
import Derived.Test.YtngomgjhakgehaaA
namespace Go.Proofs.Ytngomgjhakgehaa

theorem placeF_fresh (p : IdP) (l : List Ent) (hl : ∀ e ∈ l, e.2 = true) (n : Int) : placeF p n l = match idxE l p with | some i => (n + (i : Int), true) | none => (0, false) := by
  induction l generalizing n with
  | nil => rfl
  | cons e l ih =>
    have he := hl e (by simp)
    by_cases h : (e.1 == p) = true
    · simp [placeF, idxE, List.findIdx?_cons, h, he]
    · have h' : (e.1 == p) = false := by simpa using h
      have := ih (fun e he => hl e (by simp [he])) (n + 1)
      simp only [placeF, h', Bool.false_eq_true, if_false, he, if_true]
      rw [this]
      unfold idxE
      rw [List.findIdx?_cons, h']
      cases h2 : List.findIdx? (fun e => e.1 == p) l with
      | none => simp
      | some i => simp; omega
theorem idxE_some {l : List Ent} {p : IdP} {i : Nat} (h : idxE l p = some i) : ∃ b, l[i]? = some (p, b) := by
  unfold idxE at h
  obtain ⟨hi, hp, _⟩ := List.findIdx?_eq_some_iff_getElem.1 h
  refine ⟨l[i].2, ?_⟩
  rw [List.getElem?_eq_getElem hi]
  have : l[i].1 = p := by simpa using hp
  rw [← this]
theorem idxE_map {l m : List Ent} (h : l.map (·.1) = m.map (·.1)) (p : IdP) : idxE l p = idxE m p := by
  have e : ∀ l : List Ent, idxE l p = (l.map (·.1)).findIdx? (fun x => x == p) := fun l => by
    unfold idxE; rw [List.findIdx?_map]; rfl
  rw [e, e, h]
theorem set_map {l : List Ent} {i : Nat} {p : IdP} {b c : Bool} (h : l[i]? = some (p, b)) : (l.set i (p, c)).map (·.1) = l.map (·.1) := by
  obtain ⟨hi, he⟩ := List.getElem?_eq_some_iff.1 h
  have h2 : (l.map (·.1))[i]'(by simpa using hi) = p := by simp [he]
  rw [List.map_set]
  show (l.map (·.1)).set i p = _
  rw [← h2]
  exact List.set_getElem_self _
theorem live_set (l : List Ent) (i : Nat) (p : IdP) (hl : ∀ e ∈ l, e.2 = true) (hi : i < l.length) : liveE (l.set i (p, false)) = (liveE l).eraseIdx i := by
  induction l generalizing i with
  | nil => simp at hi
  | cons e l ih =>
    have he := hl e (by simp)
    have h1 : liveE (e :: l) = e.1 :: liveE l := by simp [liveE, he]
    cases i with
    | zero => rw [h1]; simp [liveE]
    | succ i =>
      have := ih i (fun e he => hl e (by simp [he])) (by simpa using hi)
      rw [h1, List.set_cons_succ, List.eraseIdx_cons_succ, ← this]
      simp [liveE, he]
theorem set_back {l : List Ent} {i : Nat} {p : IdP} (h : l[i]? = some (p, true)) : (l.set i (p, false)).set i (p, true) = l := by
  rw [List.set_set]
  obtain ⟨hi, he⟩ := List.getElem?_eq_some_iff.1 h
  rw [← he, List.set_getElem_self]
end Go.Proofs.Ytngomgjhakgehaa
