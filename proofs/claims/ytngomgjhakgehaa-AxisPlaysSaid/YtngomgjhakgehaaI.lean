/- slices.Clone of a list of entries. -/
import Derived.Test.YtngomgjhakgehaaH
import Derived.Maps.AppendAt
import Derived.Laws.AppendOwnNone
namespace Go.Proofs.Ytngomgjhakgehaa
open Go.RowKit Go.Maps

/-- an axis that isn't there, or one at a block, with its own list -/
def AxO (w : World) (p : Option Addr) (l : List Ent) : Prop := (p = none ∧ l = []) ∨ ∃ s v, p = some ⟨s, 0, none⟩ ∧ Boxed w s 54 v ∧ w.ownsRow 0 68 3 v l.length (flat3 l)
theorem AxAt.o {w : World} {s : Nat} {S : Nat → Prop} {l : List Ent} (h : AxAt w s S l) : AxO w (some ⟨s, 0, none⟩) l := by
  obtain ⟨_, v, hb, hr, _⟩ := h
  exact .inr ⟨s, v, rfl, hb, hr⟩
theorem own_below {w w' : World} {v : Value} {n : Nat} {xs : List Value} (h : w.ownsRow 0 68 3 v n xs) (hb : Below w.heap.size w w') : w'.ownsRow 0 68 3 v n xs := by
  refine ⟨h.1, ?_⟩
  rcases h.2 with h5 | ⟨g, cap, cur, hv, h0, hg, h6⟩
  · exact .inl h5
  · exact .inr ⟨g, cap, cur, hv, h0, (hb.block g (Array.getElem?_eq_some_iff.1 hg).1).trans hg, h6⟩
theorem AxO.below {w w' : World} {p : Option Addr} {l : List Ent} (h : AxO w p l) (hb : Below w.heap.size w w') : AxO w' p l := by
  rcases h with h | ⟨s, v, hp, h1, h2⟩
  · exact .inl h
  · exact .inr ⟨s, v, hp, box_kept h1 (hb.block s (box_lt h1)), own_below h2 hb⟩
theorem own_nil (w : World) : w.ownsRow 0 68 3 (.slice none 0 0) 0 [] := ⟨rfl, .inl ⟨rfl, rfl⟩⟩
theorem entries_own (p : Option Addr) (l : List Ent) (w : World) (h : AxO w p l) : Calls Try.prog 32 #[.pointer p] w fun e w' => ∃ v, e = .returned v ∧ w.ownsRow 0 68 3 v l.length (flat3 l) ∧ w = w' := by
  rcases h with ⟨rfl, rfl⟩ | ⟨s, v, rfl, hb, hl⟩
  · go_enter Try.func32, Try.ntmps32
    go_wp2
    go_ret
    exact ⟨_, rfl, own_nil w, rfl⟩
  · have hc := hb.cell
    obtain ⟨A, c, rfl⟩ : ∃ A c, v = .slice A l.length c := by
      rcases hl.2 with ⟨h1, h2⟩ | ⟨g, cap, cur, h1, _⟩
      · exact ⟨none, 0, by rw [h1, h2]⟩
      · exact ⟨_, _, h1⟩
    have HL := Lib.hid hl
    clear hl hb
    go_enter Try.func32, Try.ntmps32
    go_wp2
    go_ret
    exact ⟨_, rfl, HL.out, rfl⟩

theorem own_cells {w : World} {ad : Addr} {m c n : Nat} {xs : List Value} (h : w.ownsRow 0 68 3 (.slice (some ad) m c) n xs) : ∀ j u, xs[j]? = some u → w.cell? (ad.add j) = some u := by
  rcases h.2 with ⟨h0, _⟩ | ⟨g, cap, cur, hv, _, hb, _, _, _, hcur⟩
  · cases h0
  · simp only [Value.slice.injEq, Option.some.injEq] at hv
    obtain ⟨rfl, _, _⟩ := hv
    intro j u hj
    have hlt : j < n * 3 := by have := (List.getElem?_eq_some_iff.1 hj).1; rw [h.1] at this; exact this
    rw [← hcur, List.getElem?_take_of_lt hlt] at hj
    rw [add_off]
    simp [World.cell?, hb]
    simpa using hj
theorem flat3_one (l : List Ent) : ∀ u ∈ flat3 l, u.oneCell' = true := by
  intro u hu
  unfold flat3 at hu
  obtain ⟨e, _, he⟩ := List.mem_flatMap.1 hu
  simp only [List.mem_cons, List.not_mem_nil, or_false] at he
  rcases he with rfl | rfl | rfl <;> rfl

theorem slice_eq (A : Option Addr) (n c : Nat) (w : World) : (binOp .eql 52 (.slice A n c) (.slice none 0 0)).run Try.prog w = .ok (.bool (decide (A = none))) w := by
  cases A <;> rfl

set_option maxHeartbeats 1600000 in
theorem clone_list (v : Value) (l : List Ent) (w : World) (h : w.ownsRow 0 68 3 v l.length (flat3 l)) (hlen : l.length ≤ 100000) :
    Calls Try.prog 36 #[v] w fun e w' => ∃ v', e = .returned v' ∧ w'.ownsRow w.heap.size 68 3 v' l.length (flat3 l) ∧ Below w.heap.size w w' := by
  obtain ⟨i0, hj, hj0, hj1, hj2⟩ := info_parts info68
  rcases id h.2 with ⟨rfl, h0⟩ | ⟨g, cap, cur, rfl, _, hb, _, _, _, _⟩
  · have hl : l = [] := List.eq_nil_of_length_eq_zero h0
    subst hl
    have hse := slice_eq none 0 0
    simp only [decide_true] at hse
    clear h
    go_enter Try.func36, Try.ntmps36
    go_wp2
    go_ret
    exact ⟨_, rfl, ⟨rfl, .inl ⟨rfl, rfl⟩⟩, Below.refl _ _⟩
  · have hb0 : Below w.heap.size w (w.alloc (.cells #[] 68)) := (Below.refl _ _).alloc (Nat.le_refl _) _
    have hrow0 : (w.alloc (.cells #[] 68)).ownsRow w.heap.size 68 3 (.slice (some ⟨w.heap.size, 0, none⟩) 0 0) 0 [] := ⟨rfl, .inr ⟨w.heap.size, 0, #[], rfl, Nat.le_refl _, World.alloc_heap_new w _, Nat.le_refl _, by unfold maxLen; omega, rfl, rfl⟩⟩
    have hcells := own_cells (own_below h hb0)
    have hse := slice_eq (some ⟨g, 0, none⟩) l.length cap
    simp only [reduceCtorEq, decide_false] at hse
    have HB0 := Lib.hid hb0
    have HR0 := Lib.hid hrow0
    have HCE := Lib.hid hcells
    clear hb0 hrow0 hcells hb h
    go_enter Try.func36, Try.ntmps36
    go_wp2_with (at_builtin; refine wpList_append_own _ rfl _ _ 52 rfl w.heap.size 68 i0 (.agg #[.int .i64 0, .int .i64 0, .bool false]) 3 24 Try.underlying52 hj hj0 hj1 hj2 rfl (by decide) _ _ _ rfl HR0.out ⟨g, 0, none⟩ l.length cap (flat3 l) rfl (flat3_len l) HCE.out (flat3_one l) (by unfold maxLen; omega) (by omega) (by simp) ?_; intro v1 w3 hown1 hgrow1 hnil1; have HO1 := Lib.hid hown1; have HG1 := Lib.hid hgrow1; clear hown1 hgrow1 hnil1)
    go_ret
    refine ⟨v1, rfl, ?_, HB0.out.grown HG1.out (by simp) (fun k e => by injection e with e; simp only at e; omega)⟩
    have h9 := HO1.out
    rw [Nat.zero_add, List.nil_append] at h9
    exact h9
end Go.Proofs.Ytngomgjhakgehaa
