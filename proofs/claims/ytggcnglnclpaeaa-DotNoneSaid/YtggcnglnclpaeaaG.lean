/- Next and Covers: loops over All. -/
import Derived.Test.YtggcnglnclpaeaaF
namespace Go.Proofs.Ytggcnglnclpaeaa
open Go.RowKit Go.Maps Go.Shelf
attribute [local go_sem] Oper.semAt_some

theorem below_own {w : World} {B : Nat} (hB : w.heap.size ≤ B) : OwnFrom B (fun (_ : List IdP) W => Below w.heap.size w W) := ownFrom_below (Nat.le_refl _) hB

/-- the result's two cells -/
def Two (W : World) (b : Nat) (x y : Value) : Prop := W.heap[b]? = some (.cells #[x, y] 24 (0, 0))
theorem two_own {β : Type} (b : Nat) (x y : Value) : Own (fun (_ : β) W => Two W b x y) := fun s X Y row hs hg hrow =>
  (hg.block b (Array.getElem?_eq_some_iff.1 hs).1 (fun e' => by obtain ⟨o, ho, hc⟩ := hrow b e'.symm; rw [show X.heap[b]? = _ from hs] at ho; cases ho; cases hc)).trans hs
theorem two_other {W : World} {b c : Nat} {x y : Value} (h : Two W b x y) (hne : b ≠ c) (u : Value) : Two (W.setCell ⟨c, 0, none⟩ u) b x y :=
  (Below.heap_setCell _ _ _ _ hne).trans h

theorem two_set {W : World} {b : Nat} {u v : Value} (h : Two W b u v) (x y : Value) : Two ((W.setCell ⟨b, 0, none⟩ x).setCell ⟨b, 1, none⟩ y) b x y := by
  unfold Two at h ⊢
  simp [World.setCell, Array.getElem?_modify, h]
theorem two_put {W : World} {b D : Nat} {x y : Value} (h : Two W b x y) (hD : b ≠ D) (o : Obj) : Two (W.putObj D o) b x y := (World.putObj_heap_other hD).trans h
theorem two_cells {W : World} {b : Nat} {x y : Value} (h : Two W b x y) : W.cell? ⟨b, 0, none⟩ = some x ∧ W.cell? ⟨b, 1, none⟩ = some y := by
  constructor <;> simp [World.cell?, show W.heap[b]? = _ from h]
/-- behind the loop's rounds: the block for their deferred calls is turned once more -/
theorem below_put {w W : World} {D : Nat} (h : Below w.heap.size w W) (hD : w.heap.size ≤ D) (o : Obj) : Below w.heap.size w (W.putObj D o) :=
  h.trans ((Below.refl _ W).grown (grownBy_putObj' W D o) h.size (fun k e => by cases e; exact hD))

set_option maxRecDepth 100000 in
set_option maxHeartbeats 4000000 in
theorem next_any (p : Option Addr) (S : Nat → Prop) (K : Nat) (l : Row) (a : Int) (w : World) (h : SeenP w p S K l) (hS : ∀ k, S k → k < w.heap.size) (hlen : l.length ≤ 100000) :
    Calls Try.prog 17 #[.pointer p, .int .i64 a] w fun e w' => e = .returned (idV (nextL l a).1 (nextL l a).2) ∧ Below w.heap.size w w' := by
  obtain ⟨L, rfl⟩ := row_ids h.ok
  refine (callsIn_wide (n := 6)).1 ?_
  refine callsIn_of_wp_marks Try.func17 rfl trivial ?_ rfl
  simp only [Try.ntmps17, List.size_toArray, List.length_cons, List.length_nil, Nat.reduceAdd, Nat.reduceSub, Array.replicate_succ, Array.replicate_zero, List.push_toArray, List.append_toArray, List.nil_append, List.cons_append]
  have hfA : Fence.wide.fn 30 := trivial
  gi_wp2_with (gi_at_call 30; refine (callsIn_wide.2 (all_call _ _)).mono ?_; rintro e w' ⟨rfl, rfl⟩)
  have hsz : (((w.alloc (Obj.cells #[Value.int IntKind.i64 0, Value.int IntKind.i64 0] 24)).alloc (Obj.cells #[Value.int IntKind.i64 0] 3)).alloc (Obj.cells #[Value.pointer p] 26)).heap.size = w.heap.size + 3 := by simp
  have hb0 : Below w.heap.size w (((w.alloc (Obj.cells #[Value.int IntKind.i64 0, Value.int IntKind.i64 0] 24)).alloc (Obj.cells #[Value.int IntKind.i64 0] 3)).alloc (Obj.cells #[Value.pointer p] 26)) :=
    (((Below.refl _ w).alloc (Nat.le_refl _) _).alloc (by simp) _).alloc (by simp; omega) _
  have h1 : Boxed (((w.alloc (Obj.cells #[Value.int IntKind.i64 0, Value.int IntKind.i64 0] 24)).alloc (Obj.cells #[Value.int IntKind.i64 0] 3)).alloc (Obj.cells #[Value.pointer p] 26)) (w.heap.size + 1) 3 (.int .i64 0) := by
    have := (Boxed.new (w.alloc (Obj.cells #[Value.int IntKind.i64 0, Value.int IntKind.i64 0] 24)) 3 (.int .i64 0)).alloc (Obj.cells #[Value.pointer p] 26)
    simpa using this
  have h2 : Boxed (((w.alloc (Obj.cells #[Value.int IntKind.i64 0, Value.int IntKind.i64 0] 24)).alloc (Obj.cells #[Value.int IntKind.i64 0] 3)).alloc (Obj.cells #[Value.pointer p] 26)) (w.heap.size + 1 + 1) 26 (.pointer p) := by
    have := Boxed.new ((w.alloc (Obj.cells #[Value.int IntKind.i64 0, Value.int IntKind.i64 0] 24)).alloc (Obj.cells #[Value.int IntKind.i64 0] 3)) 26 (.pointer p)
    simpa using this
  have h3 : Two (((w.alloc (Obj.cells #[Value.int IntKind.i64 0, Value.int IntKind.i64 0] 24)).alloc (Obj.cells #[Value.int IntKind.i64 0] 3)).alloc (Obj.cells #[Value.pointer p] 26)) w.heap.size (.int .i64 0) (.int .i64 0) :=
    (Below.heap_alloc _ _ _ (by simp; omega)).trans ((Below.heap_alloc _ _ _ (by simp)).trans (World.alloc_heap_new w _))
  obtain ⟨W0, hW0⟩ : ∃ W0, (((w.alloc (Obj.cells #[Value.int IntKind.i64 0, Value.int IntKind.i64 0] 24)).alloc (Obj.cells #[Value.int IntKind.i64 0] 3)).alloc (Obj.cells #[Value.pointer p] 26)) = W0 := ⟨_, rfl⟩
  rw [hW0] at hsz hb0 h1 h2 h3 ⊢
  clear hW0
  have h4 := h.below hb0
  refine wpIn_rangeFunc_ownG (F := Fence.wide) rfl (by omega) (gf := 32) (lb := #[.pointer (some ⟨w.heap.size + 1 + 1, 0, none⟩)]) rfl trivial (enters_of Try.func32 (by kernel_rfl) rfl)
    (all_stops 5 (by omega) (w.heap.size + 1 + 1) K p S (fun k => S k ∨ k = w.heap.size + 1 + 1) L W0 h2 h4 (by simpa using hlen) (.inr rfl) (fun k hk => .inl hk)) Keep.trans
    (keep_put (w := W0) (fun k hk => by rcases hk with hk | hk; have := hS k hk; omega; omega)) (Below.refl _ _) (fun _ => rfl)
    (fun pre W => (Boxed W (w.heap.size + 1) 3 (.int .i64 (mostL (pre.map (·.1)))) ∧ Two W w.heap.size (.int .i64 0) (.int .i64 0)) ∧ Below w.heap.size w W)
    (fun _ _ _ => False)
    (OwnFrom.and (OwnFrom.and (Own.from (boxed_own _ _ (fun pre : List IdP => .int .i64 (mostL (pre.map (·.1))))) _) (Own.from (two_own _ _ _) _)) (below_own (by omega)))
    (fun _ _ _ _ _ hs _ _ => hs)
    ⟨⟨h1, h3⟩, hb0⟩ ?a₁ ?assign ?body ?done ?stop
  case assign =>
    intro l x W K hK
    gi_wp2
    exact hK
  case body =>
    rintro l pre x W ⟨⟨hb, ht⟩, hB⟩ _
    have hc := hb.cell
    have hf := hb.frozen
    have HB := Lib.hid hb
    clear hb
    gi_wp2
    refine ⟨(KeepsOthers.setCell _ _ _).from _, Keep.set _ _ _ (fun hk => ?_) (by omega), ⟨⟨?_, two_other ht (by omega) _⟩, hB.setCell (p := ⟨w.heap.size + 1, 0, none⟩) (by simp) _⟩⟩
    · rcases hk with hk | hk
      · have := hS _ hk; omega
      · omega
    · have e : mostL ((pre ++ [x]).map (·.1)) = max (mostL (pre.map (·.1))) x.1.2 := by rw [List.map_append]; exact mostL_snoc _ _
      rw [e]
      exact HB.out.set _
  case done =>
    rintro D xs W hD rfl ⟨⟨hb, ht⟩, hB⟩ hK
    have hbd := mostL_bd h.ok
    obtain ⟨m, hm⟩ : ∃ m, mostL (xs.map (·.1)) = m := ⟨_, rfl⟩
    obtain ⟨q, hq⟩ : ∃ q, (decide (1 ≤ a) && decide (a ≤ 1000)) = q := ⟨_, rfl⟩
    rw [hm] at hbd hb
    obtain ⟨hm0, hm1⟩ := hbd
    have hc := hb.cell
    have t0 : W.cell? ⟨w.heap.size, 0, none⟩ = some (.int .i64 0) := by simp [World.cell?, show W.heap[w.heap.size]? = _ from ht]
    have t1 : W.cell? ⟨w.heap.size, 1, none⟩ = some (.int .i64 0) := by simp [World.cell?, show W.heap[w.heap.size]? = _ from ht]
    have f0 : W.frozen? ⟨w.heap.size, 0, none⟩ = false := by simp [World.frozen?, show W.heap[w.heap.size]? = _ from ht]
    have f1 : W.frozen? ⟨w.heap.size, 1, none⟩ = false := by simp [World.frozen?, show W.heap[w.heap.size]? = _ from ht]
    have HM := Lib.hid hm
    have HQ := Lib.hid hq
    have HT := Lib.hid ht
    have hfI : Fence.wide.fn 31 := trivial
    clear hm hq hb ht h1 h2 h3
    cases q
    · gi_wp2_with (gi_at_call 31; refine (callsIn_wide.2 (isAuthor_any _ _)).mono ?_; rw [HQ.out]; rintro e w' ⟨rfl, rfl⟩)
      have hK' : ((W.setCell ⟨w.heap.size, 0, none⟩ (.int .i64 0)).setCell ⟨w.heap.size, 1, none⟩ (.int .i64 0)).heap[D]? = some (.deferred (some [])) := ((KeepsOthers.setCell W _ _).trans (KeepsOthers.setCell _ _ _)).same D _ hK rfl
      refine ⟨by simp, .inl ⟨_, _, rfl, run_takeDeferred hK', ?_⟩⟩
      obtain ⟨r0, r1⟩ := two_cells (two_put (two_set HT.out (.int .i64 0) (.int .i64 0)) (show w.heap.size ≠ D by omega) (.deferred none))
      refine ⟨idV 0 0, by simp [results, Try.f17, go_sem, r0, r1, idV], ?_, below_put ((hB.setCell (p := ⟨w.heap.size, 0, none⟩) (Nat.le_refl _) _).setCell (p := ⟨w.heap.size, 1, none⟩) (Nat.le_refl _) _) (by omega) _⟩
      rw [show nextL (xs.map (·.1)) a = (0, 0) by unfold nextL; rw [HQ.out]; rfl]
    · by_cases hmx : m = 9223372036854775807
      · subst hmx
        gi_wp2_with (gi_at_call 31; refine (callsIn_wide.2 (isAuthor_any _ _)).mono ?_; rw [HQ.out]; rintro e w' ⟨rfl, rfl⟩)
        have hK' : ((W.setCell ⟨w.heap.size, 0, none⟩ (.int .i64 0)).setCell ⟨w.heap.size, 1, none⟩ (.int .i64 0)).heap[D]? = some (.deferred (some [])) := ((KeepsOthers.setCell W _ _).trans (KeepsOthers.setCell _ _ _)).same D _ hK rfl
        refine ⟨by simp, .inl ⟨_, _, rfl, run_takeDeferred hK', ?_⟩⟩
        obtain ⟨r0, r1⟩ := two_cells (two_put (two_set HT.out (.int .i64 0) (.int .i64 0)) (show w.heap.size ≠ D by omega) (.deferred none))
        refine ⟨idV 0 0, by simp [results, Try.f17, go_sem, r0, r1, idV], ?_, below_put ((hB.setCell (p := ⟨w.heap.size, 0, none⟩) (Nat.le_refl _) _).setCell (p := ⟨w.heap.size, 1, none⟩) (Nat.le_refl _) _) (by omega) _⟩
        rw [show nextL (xs.map (·.1)) a = (0, 0) by unfold nextL; rw [HQ.out, HM.out]; rfl]
      · have hb1 : (m == 9223372036854775807) = false := by simpa using hmx
        have hm2 : m + 1 ≤ 9223372036854775807 := by omega
        gi_wp2_with (gi_at_call 31; refine (callsIn_wide.2 (isAuthor_any _ _)).mono ?_; rw [HQ.out]; rintro e w' ⟨rfl, rfl⟩)
        have hK' : ((W.setCell ⟨w.heap.size, 0, none⟩ (.int .i64 a)).setCell ⟨w.heap.size, 1, none⟩ (.int .i64 (m + 1))).heap[D]? = some (.deferred (some [])) := ((KeepsOthers.setCell W _ _).trans (KeepsOthers.setCell _ _ _)).same D _ hK rfl
        refine ⟨by simp, .inl ⟨_, _, rfl, run_takeDeferred hK', ?_⟩⟩
        obtain ⟨r0, r1⟩ := two_cells (two_put (two_set HT.out (.int .i64 a) (.int .i64 (m + 1))) (show w.heap.size ≠ D by omega) (.deferred none))
        refine ⟨idV a (m + 1), by simp [results, Try.f17, go_sem, r0, r1, idV], ?_, below_put ((hB.setCell (p := ⟨w.heap.size, 0, none⟩) (Nat.le_refl _) _).setCell (p := ⟨w.heap.size, 1, none⟩) (Nat.le_refl _) _) (by omega) _⟩
        rw [show nextL (xs.map (·.1)) a = (a, m + 1) by unfold nextL; rw [HQ.out, HM.out]; simp [hmx]]
  case stop =>
    rintro D c pre W _ _ h _
    exact h.elim
end Go.Proofs.Ytggcnglnclpaeaa
