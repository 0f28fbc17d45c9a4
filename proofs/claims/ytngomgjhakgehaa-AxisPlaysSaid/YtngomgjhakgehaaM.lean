/- Live and Len. -/
import Derived.Test.YtngomgjhakgehaaL
namespace Go.Proofs.Ytngomgjhakgehaa
open Go.RowKit Go.Maps Go.Shelf
attribute [local go_sem] Oper.semAt_some

def flat2 (l : List IdP) : List Value := l.flatMap fun p => [.int .i64 p.1, .int .i64 p.2]
theorem flat2_app (l m : List IdP) : flat2 (l ++ m) = flat2 l ++ flat2 m := by simp [flat2]
theorem info25 : (Try.prog.info? 25).map (fun i => (i.zero, i.size, i.bytes)) = some (some (.agg #[.int .i64 0, .int .i64 0]), 2, 16) := by kernel_rfl
theorem liveE_snoc (l : List Ent) (e : Ent) : liveE (l ++ [e]) = liveE l ++ (if e.2 then [e.1] else []) := by
  unfold liveE
  rw [List.filter_append, List.map_append]
  congr 1
  cases h : e.2 <;> simp [h]
theorem liveE_len (l : List Ent) : (liveE l).length ≤ l.length := by unfold liveE; rw [List.length_map]; exact List.length_filter_le _ _
theorem keep68_put {w : World} (W : World) (l : Nat) (o o' : Obj) (_ : w.heap.size ≤ l) (h : W.heap[l]? = some o) (ho : o.isCells = false) (_ : o.isWalk = false) : Keep68 W (W.putObj l o') := by
  refine ⟨(grownBy_putObj' W l o').size, fun k cur fr hk => ?_⟩
  have hkl : k ≠ l := by
    rintro rfl
    rw [hk] at h; injection h with h; subst h; cases ho
  exact ((grownBy_putObj' W l o').block k (Array.getElem?_eq_some_iff.1 hk).1 (fun e => hkl (by injection e))).trans hk

theorem below_put {w W : World} {D : Nat} (h : Below w.heap.size w W) (hD : w.heap.size ≤ D) (o : Obj) : Below w.heap.size w (W.putObj D o) :=
  h.trans ((Below.refl _ W).grown (grownBy_putObj' W D o) h.size (fun k e => by cases e; exact hD))
/-- what Live's walk holds -/
def LiveI (w : World) (pre : List Ent) (W : World) : Prop :=
  (∃ v, Boxed W w.heap.size 22 v ∧ W.ownsRow w.heap.size 25 2 v (liveE pre).length (flat2 (liveE pre))) ∧ Below w.heap.size w W
theorem liveI_rec {w : World} {B : Nat} (hB : w.heap.size ≤ B) : OwnRec B (LiveI w) := by
  rintro pre W W' row ⟨⟨v, hb, hr⟩, hbl⟩ hg hrow
  have hne : ∀ b o, W.heap[b]? = some o → isRec o = false → some b ≠ row := fun b o hb ho e => by
    obtain ⟨_, o', ho', hw⟩ := hrow b e.symm
    rw [hb] at ho'; injection ho' with ho'; subst ho'; rw [hw] at ho; cases ho
  refine ⟨⟨v, hb.kept hg (hne _ _ hb rfl), hr.kept hg ?_⟩, hbl.grown hg hbl.size (fun k e => by have := (hrow k e).1; omega)⟩
  rcases hr.2 with ⟨rfl, _⟩ | ⟨g, cap, cur, rfl, _, hgb, _⟩
  · exact .inl rfl
  · exact .inr (hne g _ hgb rfl)

theorem lit_cells (w : World) (x y : Value) : ∀ (j : Nat) (u : Value), [x, y][j]? = some u → (w.alloc (.cells #[x, y] 25)).cell? ((⟨w.heap.size, 0, none⟩ : Addr).add j) = some u := by
  intro j u hu
  match j, hu with
  | 0, hu => simp at hu; subst hu; exact (World.cell?_alloc_new _ _ _ _).trans rfl
  | 1, hu => simp at hu; subst hu; exact (World.cell?_alloc_new _ _ _ _).trans rfl
theorem one_lit (x y : Int) : ∀ u ∈ [Value.int .i64 x, Value.int .i64 y], u.oneCell' = true := by
  intro u hu
  simp only [List.mem_cons, List.not_mem_nil, or_false] at hu
  rcases hu with rfl | rfl <;> rfl
theorem own_shape {w : World} {base e size n : Nat} {v : Value} {xs : List Value} (h : w.ownsRow base e size v n xs) : ∃ A c, v = .slice A n c := by
  rcases h.2 with ⟨h1, h2⟩ | ⟨g, cap, cur, h1, _⟩
  · exact ⟨none, 0, by rw [h1, h2]⟩
  · exact ⟨_, _, h1⟩
theorem keep68_append {W w3 : World} {B base n : Nat} {v : Value} {xs : List Value} {o : Obj} (hb : Boxed W B 22 v) (hr : W.ownsRow base 25 2 v n xs) (hg : (W.alloc o).grownBy w3 v.ownBlock) (v' : Value) : Keep68 W (w3.setCell ⟨B, 0, none⟩ v') := by
  have hs1 := hg.size
  refine ⟨by simp at hs1; simp [World.setCell]; omega, fun k cur fr hk => ?_⟩
  have hkl := (Array.getElem?_eq_some_iff.1 hk).1
  have hkB : k ≠ B := by
    rintro rfl
    rw [show W.heap[k]? = _ from hb] at hk
    simp at hk
  have hko : some k ≠ v.ownBlock := by
    rcases hr.2 with ⟨rfl, _⟩ | ⟨g, cap, cur', rfl, _, hgb, _⟩
    · intro e; cases e
    · intro e
      injection e with e
      simp only at e
      subst e
      rw [hgb] at hk
      simp at hk
  refine (Below.heap_setCell w3 _ v' k hkB).trans ?_
  refine (hg.block k (by simp; omega) hko).trans ?_
  exact (Below.heap_alloc W o k hkl).trans hk

set_option maxRecDepth 100000 in
set_option maxHeartbeats 4000000 in
theorem live_any (p : Option Addr) (l : List Ent) (w : World) (h : AxO w p l) (hlen : l.length ≤ 100000) :
    Calls Try.prog 33 #[.pointer p] w fun e w' => (∃ A c, e = .returned (.slice A (liveE l).length c)) ∧ Below w.heap.size w w' := by
  obtain ⟨i0, hj, hj0, hj1, hj2⟩ := info_parts info25
  refine (callsIn_wide (n := 6)).1 ?_
  refine callsIn_of_wp_marks Try.func33 rfl trivial ?_ rfl
  simp only [Try.ntmps33, List.size_toArray, List.length_cons, List.length_nil, Nat.reduceAdd, Nat.reduceSub, Array.replicate_succ, Array.replicate_zero, List.push_toArray, List.append_toArray, List.nil_append, List.cons_append]
  have hfA : Fence.wide.fn 29 := trivial
  gi_wp2_with (gi_at_call 29; refine (callsIn_wide.2 (all_call _ _)).mono ?_; rintro e w' ⟨rfl, rfl⟩)
  have hb0 : Below w.heap.size w ((w.alloc (Obj.cells #[.slice none 0 0] 22)).alloc (Obj.cells #[Value.pointer p] 27)) := ((Below.refl _ w).alloc (Nat.le_refl _) _).alloc (by simp) _
  have h2 : Boxed ((w.alloc (Obj.cells #[.slice none 0 0] 22)).alloc (Obj.cells #[Value.pointer p] 27)) (w.heap.size + 1) 27 (.pointer p) := by
    have := Boxed.new (w.alloc (Obj.cells #[.slice none 0 0] 22)) 27 (.pointer p)
    simpa using this
  have h3 : Boxed ((w.alloc (Obj.cells #[.slice none 0 0] 22)).alloc (Obj.cells #[Value.pointer p] 27)) w.heap.size 22 (.slice none 0 0) := (Boxed.new w 22 (.slice none 0 0)).alloc _
  obtain ⟨W0, hW0⟩ : ∃ W0, ((w.alloc (Obj.cells #[.slice none 0 0] 22)).alloc (Obj.cells #[Value.pointer p] 27)) = W0 := ⟨_, rfl⟩
  rw [hW0] at hb0 h2 h3 ⊢
  clear hW0
  have h4 := h.below hb0
  refine range_boxes (F := Fence.wide) rfl (by omega) (gf := 38) (lb := #[.pointer (some ⟨w.heap.size + 1, 0, none⟩)]) rfl trivial (enters_of Try.func38 (by kernel_rfl) rfl)
    (all_runs 5 (by omega) (w.heap.size + 1) p l W0 h2 h4 hlen) Keep68.trans (keep68_put (w := W0)) (Below.refl _ _) (fun _ => rfl)
    (LiveI w) (liveI_rec hb0.size) ⟨⟨_, h3, rfl, .inl ⟨rfl, rfl⟩⟩, hb0⟩ (fun x => .cells #[.int .i64 x.1.1, .int .i64 x.1.2] 25) (fun x b => { tmps := #[.pointer p, undef, .slice none 0 0, .pointer (some ⟨w.heap.size, 0, none⟩), .pointer (some ⟨b, 0, none⟩), .bool x.2, .pointer p, .func (.func 38) #[] #[.pointer (some ⟨w.heap.size + 1, 0, none⟩)], .agg #[.int .i64 x.1.1, .int .i64 x.1.2], .bool x.2, undef, undef, undef, undef, undef, undef], defers := [] }) (fun W o => Keep68.below ((Below.refl _ _).alloc (Nat.le_refl _) o)) ?assign ?body ?done
  case assign =>
    intro lp x W K hK
    gi_wp2
    exact hK
  case body =>
    rintro lp pre x b W ⟨⟨v, hb, hr⟩, hB⟩ hlt hbge hbx
    have hc := hb.cell
    have hfz := hb.frozen
    have q0 : W.cell? ⟨b, 0, none⟩ = some (.int .i64 x.1.1) := by simp [World.cell?, hbx]
    have q1 : W.cell? ⟨b, 1, none⟩ = some (.int .i64 x.1.2) := by simp [World.cell?, hbx]
    have HBX := Lib.hid hb
    have HRW := Lib.hid hr
    have HBW := Lib.hid hB
    have hln := liveE_len pre
    obtain ⟨⟨x1, x2⟩, flag⟩ := x
    simp only at q0 q1
    clear hb hr hB hbx h2 h3 h4 hb0 h
    cases flag
    · gi_wp2
      exact ⟨⟨Nat.le_refl _, fun _ _ h _ => h⟩, Keep68.refl, ⟨v, HBX.out, by rw [liveE_snoc]; simpa using HRW.out⟩, HBW.out⟩
    · gi_wp2_with (gi_at_builtin; refine wpListIn_append_own _ rfl _ _ 22 rfl w.heap.size 25 i0 (.agg #[.int .i64 0, .int .i64 0]) 2 16 Try.underlying22 hj hj0 hj1 hj2 rfl (by decide) _ _ _ rfl (HRW.out.alloc _) ⟨W.heap.size, 0, none⟩ 1 1 [.int .i64 x1, .int .i64 x2] rfl rfl (lit_cells W _ _) (one_lit _ _) (by unfold maxLen; omega) (by omega) (by simp; have := HBW.out.size; omega) ?_; intro v1 w3 hown1 hgrow1 hnil1; obtain ⟨A1, c1, rfl⟩ := own_shape hown1; obtain ⟨hb1, hb2, hr2, hko, hbl⟩ := Boxed.appended HBX.out (by decide) HRW.out HBW.out.size (Nat.le_refl _) hown1 hgrow1; have hc1 := hb1.cell; have hf1 := hb1.frozen; have HK68 := Lib.hid (keep68_append HBX.out HRW.out hgrow1 (.slice A1 ((liveE pre).length + 1) c1)); have HB2 := Lib.hid hb2; have HR2 := Lib.hid hr2; have HKO := Lib.hid hko; have HBL := Lib.hid hbl; clear hb1 hb2 hr2 hko hbl hown1 hgrow1 hnil1)
      refine ⟨⟨HBL.out.size, fun k o hk ho => HKO.out.same k o hk (by cases o <;> first | rfl | cases ho)⟩, HK68.out, ⟨_, HB2.out, ?_⟩, HBW.out.trans HBL.out⟩
      rw [liveE_snoc]
      have h9 := HR2.out
      simp only [if_true, List.length_append, List.length_cons, List.length_nil, flat2_app]
      exact h9
  case done =>
    rintro D W hD ⟨⟨v, hb, hr⟩, hB⟩ hK'
    have hc := hb.cell
    have hv : ∃ A c, v = .slice A (liveE l).length c := by
      rcases hr.2 with ⟨h1, h2⟩ | ⟨g, cap, cur, h1, _⟩
      · exact ⟨none, 0, by rw [h1, h2]⟩
      · exact ⟨_, _, h1⟩
    obtain ⟨A, c, rfl⟩ := hv
    clear hb hr
    gi_wp2
    refine ⟨by simp, .inl ⟨_, _, rfl, run_takeDeferred hK', ?_⟩⟩
    exact ⟨.slice A (liveE l).length c, by simp [results, Try.f33, go_sem], ⟨A, c, rfl⟩, below_put hB (Nat.le_trans hb0.size hD) _⟩
end Go.Proofs.Ytngomgjhakgehaa
