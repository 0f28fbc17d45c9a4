/- Covers. -/
import Derived.Test.YtggcnglnclpaeaaG
namespace Go.Proofs.Ytggcnglnclpaeaa
open Go.RowKit Go.Maps Go.Shelf
attribute [local go_sem] Oper.semAt_some

set_option maxRecDepth 100000 in
set_option maxHeartbeats 4000000 in
theorem covers_any (p q : Option Addr) (S T : Nat → Prop) (K K' : Nat) (l m : Row) (w : World) (hp : SeenP w p S K l) (h : SeenP w q T K' m) (hT : ∀ k, T k → k < w.heap.size) (hlen : m.length ≤ 100000) :
    Calls Try.prog 20 #[.pointer p, .pointer q] w fun e w' => e = .returned (.bool (covB l m)) ∧ Below w.heap.size w w' := by
  obtain ⟨L, rfl⟩ := row_ids h.ok
  refine (callsIn_wide (n := 6)).1 ?_
  refine callsIn_of_wp_marks Try.func20 rfl trivial ?_ rfl
  simp only [Try.ntmps20, List.size_toArray, List.length_cons, List.length_nil, Nat.reduceAdd, Nat.reduceSub, Array.replicate_succ, Array.replicate_zero, List.push_toArray, List.append_toArray, List.nil_append, List.cons_append]
  have hfA : Fence.wide.fn 30 := trivial
  gi_wp2_with (gi_at_call 30; refine (callsIn_wide.2 (all_call _ _)).mono ?_; rintro e w' ⟨rfl, rfl⟩)
  have hsz : (((w.alloc (Obj.cells #[Value.pointer p] 26)).alloc (Obj.cells #[Value.bool false] 4)).alloc (Obj.cells #[Value.pointer q] 26)).heap.size = w.heap.size + 3 := by simp
  have hb0 : Below w.heap.size w (((w.alloc (Obj.cells #[Value.pointer p] 26)).alloc (Obj.cells #[Value.bool false] 4)).alloc (Obj.cells #[Value.pointer q] 26)) :=
    (((Below.refl _ w).alloc (Nat.le_refl _) _).alloc (by simp) _).alloc (by simp; omega) _
  have h1 : Boxed (((w.alloc (Obj.cells #[Value.pointer p] 26)).alloc (Obj.cells #[Value.bool false] 4)).alloc (Obj.cells #[Value.pointer q] 26)) (w.heap.size + 1) 4 (.bool false) := by
    have := (Boxed.new (w.alloc (Obj.cells #[Value.pointer p] 26)) 4 (.bool false)).alloc (Obj.cells #[Value.pointer q] 26)
    simpa using this
  have h2 : Boxed (((w.alloc (Obj.cells #[Value.pointer p] 26)).alloc (Obj.cells #[Value.bool false] 4)).alloc (Obj.cells #[Value.pointer q] 26)) (w.heap.size + 1 + 1) 26 (.pointer q) := by
    have := Boxed.new ((w.alloc (Obj.cells #[Value.pointer p] 26)).alloc (Obj.cells #[Value.bool false] 4)) 26 (.pointer q)
    simpa using this
  have h3 : Boxed (((w.alloc (Obj.cells #[Value.pointer p] 26)).alloc (Obj.cells #[Value.bool false] 4)).alloc (Obj.cells #[Value.pointer q] 26)) w.heap.size 26 (.pointer p) :=
    ((Boxed.new w 26 (.pointer p)).alloc _).alloc _
  obtain ⟨W0, hW0⟩ : ∃ W0, (((w.alloc (Obj.cells #[Value.pointer p] 26)).alloc (Obj.cells #[Value.bool false] 4)).alloc (Obj.cells #[Value.pointer q] 26)) = W0 := ⟨_, rfl⟩
  rw [hW0] at hsz hb0 h1 h2 h3 ⊢
  clear hW0
  have h4 := h.below hb0
  refine wpIn_rangeFunc_ownG (F := Fence.wide) rfl (by omega) (gf := 32) (lb := #[.pointer (some ⟨w.heap.size + 1 + 1, 0, none⟩)]) rfl trivial (enters_of Try.func32 (by kernel_rfl) rfl)
    (all_stops 5 (by omega) (w.heap.size + 1 + 1) K' q T (fun k => T k ∨ k = w.heap.size + 1 + 1) L W0 h2 h4 (by simpa using hlen) (.inr rfl) (fun k hk => .inl hk)) Keep.trans
    (keep_put (w := W0) (fun k hk => by rcases hk with hk | hk; have := hT k hk; omega; omega)) (Below.refl _ _) (fun _ => rfl)
    (fun pre W => (((∀ x ∈ pre, hasB l x.1.1 x.1.2 = true) ∧ Boxed W (w.heap.size + 1) 4 (.bool false)) ∧ Boxed W w.heap.size 26 (.pointer p)) ∧ Below w.heap.size w W)
    (fun c pre W => ((c = .ret ∧ ∃ x ∈ pre, hasB l x.1.1 x.1.2 = false) ∧ Boxed W (w.heap.size + 1) 4 (.bool false)) ∧ Below w.heap.size w W)
    (OwnFrom.and (OwnFrom.and (OwnFrom.and (ownFrom_pure _ _) (Own.from (boxed_own _ _ (fun _ => .bool false)) _)) (Own.from (boxed_own _ _ (fun _ => .pointer p)) _)) (below_own (by omega)))
    (fun c => OwnFrom.and (OwnFrom.and (ownFrom_pure _ _) (Own.from (boxed_own _ _ (fun _ => .bool false)) _)) (below_own (by omega)))
    ⟨⟨⟨by simp, h1⟩, h3⟩, hb0⟩ ?a₁ ?assign ?body ?done ?stop
  case assign =>
    intro l x W K hK
    gi_wp2
    exact hK
  case body =>
    rintro lp pre x W ⟨⟨⟨hall, hb⟩, hb2⟩, hB⟩ _
    have hc := hb.cell
    have hf := hb.frozen
    have hc2 := hb2.cell
    have hxb := (mayB_iff _ _).1 x.2.1
    have HN := Lib.hid (number_any p S K l x.1.1 W (hp.below hB) (by omega) (by omega))
    obtain ⟨v, hv⟩ : ∃ v, look l x.1.1 = v := ⟨_, rfl⟩
    rw [hv] at HN
    have HV := Lib.hid hv
    have HB := Lib.hid hb
    have HB2 := Lib.hid hb2
    have HA := Lib.hid hall
    have hhas : hasB l x.1.1 x.1.2 = decide (x.1.2 ≤ v) := by unfold hasB; rw [x.2.1, hv]; rfl
    have HH := Lib.hid hhas
    clear hb hb2 hv hall hxb hhas
    have hfN : Fence.wide.fn 29 := trivial
    by_cases hl : x.1.2 ≤ v
    · gi_wp2_with (gi_at_call 29; refine (CallsIn.inRound lp (callsIn_wide.2 HN.out)).mono ?_; rintro e w' ⟨rfl, rfl⟩)
      refine ⟨KeepsFrom.refl _ _, Keep.refl, ⟨⟨fun y hy => ?_, HB.out⟩, HB2.out⟩, hB⟩
      rcases List.mem_append.1 hy with hy | hy
      · exact HA.out y hy
      · simp only [List.mem_singleton] at hy; subst hy; rw [HH.out]; simp [hl]
    · gi_wp2_with (gi_at_call 29; refine (CallsIn.inRound lp (callsIn_wide.2 HN.out)).mono ?_; rintro e w' ⟨rfl, rfl⟩)
      refine ⟨(KeepsOthers.setCell _ _ _).from _, ⟨⟨rfl, x, by simp, by rw [HH.out]; simpa using hl⟩, HB.out.set _⟩, hB.setCell (p := ⟨w.heap.size + 1, 0, none⟩) (by simp) _⟩
  case done =>
    rintro D xs W hD rfl ⟨⟨⟨hall, hb⟩, hb2⟩, hB⟩ hK
    have hc := hb.cell
    have hf := hb.frozen
    have HB := Lib.hid hb
    have HA := Lib.hid hall
    clear hb hb2 h1 h2 h3 hall
    gi_wp2
    have hK' : (W.setCell ⟨w.heap.size + 1, 0, none⟩ (.bool true)).heap[D]? = some (.deferred (some [])) := (KeepsOthers.setCell W _ _).same D _ hK rfl
    refine ⟨by simp, .inl ⟨_, _, rfl, run_takeDeferred hK', ?_⟩⟩
    have r0 := ((HB.out.set (.bool true)).kept (grownBy_putObj' _ D (.deferred none)) (fun e => by injection e with e; omega)).cell
    refine ⟨.bool true, by simp [results, Try.f20, go_sem, r0], ?_, below_put (hB.setCell (p := ⟨w.heap.size + 1, 0, none⟩) (by simp) _) (by omega) _⟩
    have : covB l (xs.map (·.1)) = true := by
      unfold covB
      rw [List.all_eq_true]
      intro y hy
      obtain ⟨x, hx, rfl⟩ := List.mem_map.1 hy
      exact HA.out x hx
    rw [this]
  case stop =>
    rintro D c pre W hD hpre ⟨⟨⟨rfl, x, hx, hxl⟩, hb⟩, hB⟩ hK
    have HB := Lib.hid hb
    have hc := hb.cell
    clear hb h1 h2 h3
    have hcov : covB l (L.map (·.1)) = false := by
      unfold covB
      rw [List.all_eq_false]
      exact ⟨x.1, List.mem_map.2 ⟨x, hpre.subset hx, rfl⟩, by rw [hxl]; simp⟩
    have HC := Lib.hid hcov
    clear hcov
    gi_wp2
    refine ⟨by simp, .inl ⟨_, _, rfl, run_takeDeferred hK, ?_⟩⟩
    have r0 := (HB.out.kept (grownBy_putObj' _ D (.deferred none)) (fun e => by injection e with e; omega)).cell
    refine ⟨.bool false, by simp [results, Try.f20, go_sem, r0], by rw [HC.out], below_put hB (by omega) _⟩
end Go.Proofs.Ytggcnglnclpaeaa
