/- Rows of tokens; the tokens of a text, step by step. -/
import Derived.Test.YtcnmghkmognhoaaDoorNb
import Derived.OwnWalk
import Derived.Laws.AppendOwn
namespace Go.Proofs.YtcnmghkmognhoaaDoor
open Go.RowKit Go.Shelf

theorem info39 : (Tryd.prog.info? 39).map (fun i => (i.zero, i.size, i.bytes)) = some (some (.agg #[.int .i64 0, .string ⟨#[]⟩, .int .i64 0]), 3, 32) := by kernel_rfl
def flatT (l : List Tok) : List Value := l.flatMap fun t => [.int .i64 t.kind, .string ⟨t.text.toArray⟩, .int .i64 t.at']
theorem flatT_len (l : List Tok) : (flatT l).length = l.length * 3 := by
  induction l with
  | nil => rfl
  | cons p l ih => simp [flatT, List.flatMap_cons] at ih ⊢; omega
theorem flatT_app (l m : List Tok) : flatT (l ++ m) = flatT l ++ flatT m := by simp [flatT]
theorem flatT_cons (t : Tok) (l : List Tok) : flatT (t :: l) = .int .i64 t.kind :: .string ⟨t.text.toArray⟩ :: .int .i64 t.at' :: flatT l := by simp [flatT]
theorem flatT_at {l : List Tok} {k : Nat} {t : Tok} (h : l[k]? = some t) : (flatT l)[k * 3]? = some (.int .i64 t.kind) ∧ (flatT l)[k * 3 + 1]? = some (.string ⟨t.text.toArray⟩) ∧ (flatT l)[k * 3 + 2]? = some (.int .i64 t.at') := by
  induction l generalizing k with
  | nil => simp at h
  | cons q l ih =>
    rw [flatT_cons]
    cases k with
    | zero => simp at h; subst h; simp
    | succ k =>
      have := ih (k := k) (by simpa using h)
      rw [show (k + 1) * 3 = k * 3 + 1 + 1 + 1 by omega]
      simpa using this
theorem own_shape {w : World} {base e size n : Nat} {v : Value} {xs : List Value} (h : w.ownsRow base e size v n xs) : ∃ A c, v = .slice A n c := by
  rcases h.2 with ⟨h1, h2⟩ | ⟨g, cap, cur, h1, _⟩
  · exact ⟨none, 0, by rw [h1, h2]⟩
  · exact ⟨_, _, h1⟩
theorem rowG_lt {w : World} {v : Value} {n base e size : Nat} {xs : List Value} (h : w.ownsRow base e size v n xs) {g : Nat} (hg : v.ownBlock = some g) : g < w.heap.size ∧ base ≤ g := by
  rcases h.2 with ⟨rfl, _⟩ | ⟨g', cap, cur, rfl, hb, hc, _⟩
  · cases hg
  · injection hg with hg; subst hg; exact ⟨(Array.getElem?_eq_some_iff.1 hc).1, hb⟩
theorem rowG_kept {w w' : World} {v : Value} {n base e size : Nat} {xs : List Value} (h : w.ownsRow base e size v n xs) (hk : ∀ g, v.ownBlock = some g → w'.heap[g]? = w.heap[g]?) : w'.ownsRow base e size v n xs := by
  refine ⟨h.1, ?_⟩
  rcases h.2 with h5 | ⟨g, cap, cur, hv, h0, hg, h6⟩
  · exact .inl h5
  · exact .inr ⟨g, cap, cur, hv, h0, (hk g (by rw [hv]; rfl)).trans hg, h6⟩
theorem rowG_later {w w' : World} {v : Value} {n base e size : Nat} {xs : List Value} (h : w.ownsRow base e size v n xs) (hb : Below w.heap.size w w') : w'.ownsRow base e size v n xs := rowG_kept h (fun _ hg => hb.block _ (rowG_lt h hg).1)
theorem rowG_base {w : World} {v : Value} {n base base' e size : Nat} {xs : List Value} (h : w.ownsRow base e size v n xs) (hb : base' ≤ base) : w.ownsRow base' e size v n xs := by
  refine ⟨h.1, ?_⟩
  rcases h.2 with h5 | ⟨g, cap, cur, hv, h0, hg, h6⟩
  · exact .inl h5
  · exact .inr ⟨g, cap, cur, hv, Nat.le_trans hb h0, hg, h6⟩
theorem lit39 {w : World} {a b c : Value} {k t : Nat} (hk : k = w.heap.size) : ∀ (j : Nat) (u : Value), [a, b, c][j]? = some u → (w.alloc (.cells #[a, b, c] t)).cell? ((⟨k, 0, none⟩ : Addr).add j) = some u := by
  subst hk
  intro j u hj
  have hadd : ∀ j, (⟨w.heap.size, 0, none⟩ : Addr).add j = ⟨w.heap.size, j, none⟩ := fun j => by unfold Addr.add; split <;> simp_all
  rw [hadd]
  obtain ⟨c0, c1, c2, _⟩ := box3 (heap_alloc_new w (.cells #[a, b, c] t))
  match j, hj with
  | 0, hj => simp at hj; subst hj; exact c0
  | 1, hj => simp at hj; subst hj; exact c1
  | 2, hj => simp at hj; subst hj; exact c2
  | j + 3, hj => simp at hj
theorem one39 (k a : Int) (s : ByteArray) : ∀ u ∈ [Value.int .i64 k, .string s, .int .i64 a], u.oneCell' = true := by
  intro u hu
  simp only [List.mem_cons, List.not_mem_nil, or_false] at hu
  rcases hu with rfl | rfl | rfl <;> rfl
/-! ### steps -/
def lexG (L : List UInt8) (k : Nat) : List Tok ⊕ Nat := lexF L (L.length + 1) k
def joinG (l : List Tok) : List Tok ⊕ Nat → List Tok ⊕ Nat
  | .inl m => .inl (l ++ m)
  | .inr b => .inr b
theorem lexG_end {L : List UInt8} {k : Nat} (h : L.length ≤ k) : lexG L k = .inl [⟨0, [], k⟩] := lex_end L _ k h
theorem lexG_blank {L : List UInt8} {k : Nat} {t : List UInt8} (h : L.drop k = 32 :: t) : lexG L k = lexG L (k + 1) := by
  unfold lexG
  rw [lex_blank L L.length k h]
  have : (L.drop k).length = t.length + 1 := by rw [h]; rfl
  rw [List.length_drop] at this
  exact lex_fuel L _ _ _ (by omega) (by omega)
theorem lexG_step {L : List UInt8} {k : Nat} {x : UInt8} {t : List UInt8} (h : L.drop k = x :: t) (hx : x ≠ 32) {tk : Tok} {n : Nat} (hf : firstF (x :: t) = (tk, n)) : lexG L k = if n = 0 then .inr k else joinG [{ tk with at' := k }] (lexG L (k + n)) := by
  unfold lexG
  rw [lex_step L L.length k h hx hf]
  split
  · rfl
  · rename_i hn
    have : (L.drop k).length = t.length + 1 := by rw [h]; rfl
    rw [List.length_drop] at this
    rw [lex_fuel L L.length (L.length + 1) (k + n) (by omega) (by omega)]
    cases lexF L (L.length + 1) (k + n) <;> rfl
theorem joinG_app (l m : List Tok) (r : List Tok ⊕ Nat) : joinG l (joinG m r) = joinG (l ++ m) r := by
  cases r with
  | inl x => simp [joinG]
  | inr b => rfl
end Go.Proofs.YtcnmghkmognhoaaDoor
