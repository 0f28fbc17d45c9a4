/- Does an axis have just the ids that the document says? -/
import Derived.Test.YtngomgjhakgehaaSa
import Derived.Test.YtngomgjhakgehaaPu
namespace Go.Proofs.Ytngomgjhakgehaa
open Go.RowKit Go.Maps Go.Shelf
attribute [local go_sem] Oper.semAt_some

def SameI (w : World) (s : Nat) (pre : List Ent) (W : World) : Prop :=
  W.heap[w.heap.size]? = some (.cells #[.pointer (some ⟨s, 0, none⟩)] 29 (0, 0)) ∧ W.heap[w.heap.size + 1]? = some (.cells #[.bool false] 4 (0, 0)) ∧ W.heap[w.heap.size + 1 + 1]? = some (.cells #[.int .i64 pre.length] 3 (0, 0)) ∧ Below w.heap.size w W
theorem sameI_rec {w : World} {s B : Nat} (hB : w.heap.size ≤ B) : OwnRec B (SameI w s) := by
  rintro pre W W' row ⟨h1, h2, h3, hbl⟩ hg hrow
  have hne : ∀ b o, W.heap[b]? = some o → isRec o = false → some b ≠ row := fun b o hb ho e => by
    obtain ⟨_, o', ho', hw⟩ := hrow b e.symm
    rw [hb] at ho'; injection ho' with ho'; subst ho'; rw [hw] at ho; cases ho
  have e : ∀ b o, W.heap[b]? = some o → isRec o = false → W'.heap[b]? = some o := fun b o hb ho => (hg.block b (Array.getElem?_eq_some_iff.1 hb).1 (hne b o hb ho)).trans hb
  exact ⟨e _ _ h1 rfl, e _ _ h2 rfl, e _ _ h3 rfl, hbl.grown hg hbl.size (fun k e => by have := (hrow k e).1; omega)⟩
theorem keep68_step {W : World} {g : Nat} {x : Value} {v : Value} (h : W.heap[g]? = some (.cells #[v] 3 (0, 0))) (j : Nat) : Keep68 W ((W.drewN j).setCell ⟨g, 0, none⟩ x) := by
  refine ⟨by simp [World.setCell, World.drewN], fun k cur fr hk => ?_⟩
  have hne : k ≠ g := by
    rintro rfl
    rw [h] at hk
    simp at hk
  exact (Below.heap_setCell (W.drewN j) _ x k hne).trans hk

theorem sameI_step {w W : World} {s : Nat} {pre : List Ent} (x : Ent) (b1 : W.heap[w.heap.size]? = some (.cells #[.pointer (some ⟨s, 0, none⟩)] 29 (0, 0))) (b2 : W.heap[w.heap.size + 1]? = some (.cells #[.bool false] 4 (0, 0)))
    (b3 : W.heap[w.heap.size + 1 + 1]? = some (.cells #[.int .i64 pre.length] 3 (0, 0))) (hB : Below w.heap.size w W) (a : Act) :
    GoesOn Keep68 (SameI w s) (pre ++ [x]) W .normal a (W.setCell ⟨w.heap.size + 1 + 1, 0, none⟩ (.int .i64 (↑pre.length + 1))).drew := by
  have e : ∀ k, k ≠ w.heap.size + 1 + 1 → (W.setCell ⟨w.heap.size + 1 + 1, 0, none⟩ (.int .i64 (↑pre.length + 1))).heap[k]? = W.heap[k]? := fun k hk => Below.heap_setCell W _ _ k hk
  have hsz : (W.setCell ⟨w.heap.size + 1 + 1, 0, none⟩ (.int .i64 (↑pre.length + 1))).heap.size = W.heap.size := by simp [World.setCell]
  have hb : Boxed W (w.heap.size + 1 + 1) 3 (.int .i64 pre.length) := b3
  refine ⟨⟨Nat.le_of_eq hsz.symm, fun k o hk ho => (e k ?_).trans hk⟩, ?_, ?_⟩
  · rintro rfl
    rw [b3] at hk; injection hk with hk; subst hk; cases ho
  · exact keep68_step b3 1
  · refine ⟨(e _ (by omega)).trans b1, (e _ (by omega)).trans b2, ?_, ?_⟩
    · have := hb.set (.int .i64 (↑pre.length + 1))
      rw [List.length_append]
      exact this
    · exact hB.trans (((Below.refl _ W).setCell (by simp <;> omega) _).drew)

set_option maxRecDepth 100000 in
set_option maxHeartbeats 4000000 in
theorem same_eq (p : Option Addr) (s : Nat) (l : List Ent) (w : World) (h : AxO w p l) (hr : RefR w s l) (hlen : l.length ≤ 100000) :
    Calls Try.prog 18 #[.pointer p, .pointer (some ⟨s, 0, none⟩)] w fun e w' => e = .returned (.bool true) ∧ Below w.heap.size w w' := by
  refine (callsIn_wide (n := 6)).1 ?_
  refine callsIn_of_wp_marks Try.func18 rfl trivial ?_ rfl
  simp only [Try.ntmps18, List.size_toArray, List.length_cons, List.length_nil, Nat.reduceAdd, Nat.reduceSub, Array.replicate_succ, Array.replicate_zero, List.push_toArray, List.append_toArray, List.nil_append, List.cons_append]
  have hfA : Fence.wide.fn 29 := trivial
  have hfe : ∀ (b : Nat) (W : World), (binOp .eql 56 (.func (.func 38) #[] #[.pointer (some ⟨b, 0, none⟩)]) .nilFunc).run Try.prog W = .ok (.bool false) W := fun _ _ => rfl
  gi_wp2_with (gi_at_call 29; refine (callsIn_wide.2 (all_call _ _)).mono ?_; rintro e w' ⟨rfl, rfl⟩)
  have hb0 : Below w.heap.size w ((((w.alloc (Obj.cells #[Value.pointer (some ⟨s, 0, none⟩)] 29)).alloc (Obj.cells #[Value.bool false] 4)).alloc (Obj.cells #[Value.int IntKind.i64 0] 3)).alloc (Obj.cells #[Value.pointer p] 27)) := ((((Below.refl _ w).alloc (Nat.le_refl _) _).alloc (by simp) _).alloc (by simp; omega) _).alloc (by simp; omega) _
  have h2 : Boxed ((((w.alloc (Obj.cells #[Value.pointer (some ⟨s, 0, none⟩)] 29)).alloc (Obj.cells #[Value.bool false] 4)).alloc (Obj.cells #[Value.int IntKind.i64 0] 3)).alloc (Obj.cells #[Value.pointer p] 27)) (w.heap.size + 1 + 1 + 1) 27 (.pointer p) := by
    have := Boxed.new (((w.alloc (Obj.cells #[Value.pointer (some ⟨s, 0, none⟩)] 29)).alloc (Obj.cells #[Value.bool false] 4)).alloc (Obj.cells #[Value.int IntKind.i64 0] 3)) 27 (.pointer p)
    simpa using this
  have hI0 : SameI w s [] ((((w.alloc (Obj.cells #[Value.pointer (some ⟨s, 0, none⟩)] 29)).alloc (Obj.cells #[Value.bool false] 4)).alloc (Obj.cells #[Value.int IntKind.i64 0] 3)).alloc (Obj.cells #[Value.pointer p] 27)) := by
    have e1 := World.alloc_heap_new w (Obj.cells #[Value.pointer (some ⟨s, 0, none⟩)] 29)
    have e2 := World.alloc_heap_new (w.alloc (Obj.cells #[Value.pointer (some ⟨s, 0, none⟩)] 29)) (Obj.cells #[Value.bool false] 4)
    have e3 := World.alloc_heap_new ((w.alloc (Obj.cells #[Value.pointer (some ⟨s, 0, none⟩)] 29)).alloc (Obj.cells #[Value.bool false] 4)) (Obj.cells #[Value.int IntKind.i64 0] 3)
    have z2 : (w.alloc (Obj.cells #[Value.pointer (some ⟨s, 0, none⟩)] 29)).heap.size = w.heap.size + 1 := by simp
    have z3 : ((w.alloc (Obj.cells #[Value.pointer (some ⟨s, 0, none⟩)] 29)).alloc (Obj.cells #[Value.bool false] 4)).heap.size = w.heap.size + 1 + 1 := by simp
    rw [z2] at e2
    rw [z3] at e3
    refine ⟨?_, ?_, ?_, hb0⟩
    · exact (Below.heap_alloc _ _ _ (by simp <;> omega)).trans ((Below.heap_alloc _ _ _ (by simp <;> omega)).trans ((Below.heap_alloc _ _ _ (by simp)).trans e1))
    · exact (Below.heap_alloc _ _ _ (by simp <;> omega)).trans ((Below.heap_alloc _ _ _ (by simp)).trans e2)
    · exact (Below.heap_alloc _ _ _ (by simp)).trans e3
  obtain ⟨W0, hW0⟩ : ∃ W0, ((((w.alloc (Obj.cells #[Value.pointer (some ⟨s, 0, none⟩)] 29)).alloc (Obj.cells #[Value.bool false] 4)).alloc (Obj.cells #[Value.int IntKind.i64 0] 3)).alloc (Obj.cells #[Value.pointer p] 27)) = W0 := ⟨_, rfl⟩
  rw [hW0] at hb0 h2 hI0 ⊢
  clear hW0
  have h4 := h.below hb0
  have HRR := Lib.hid hr
  refine range_boxesP (F := Fence.wide) rfl (by omega) (gf := 38) (lb := #[.pointer (some ⟨w.heap.size + 1 + 1 + 1, 0, none⟩)]) rfl trivial (enters_of Try.func38 (by kernel_rfl) rfl)
    (all_runsP 5 (by omega) (w.heap.size + 1 + 1 + 1) p l W0 h2 h4 hlen) Keep68.trans (keep68_put (w := W0)) (Below.refl _ _) (fun _ => rfl)
    (SameI w s) (sameI_rec hb0.size) hI0 (fun x => .cells #[.int .i64 x.1.1, .int .i64 x.1.2] 25) (fun x b => { tmps := #[.pointer p, .pointer (some ⟨s, 0, none⟩), undef, .pointer (some ⟨w.heap.size, 0, none⟩), .pointer (some ⟨w.heap.size + 1, 0, none⟩), .pointer (some ⟨w.heap.size + 1 + 1, 0, none⟩), .func (.func 38) #[] #[.pointer (some ⟨w.heap.size + 1 + 1 + 1, 0, none⟩)], .pointer (some ⟨b, 0, none⟩), .bool x.2, .pointer p, .func (.func 38) #[] #[.pointer (some ⟨w.heap.size + 1 + 1 + 1, 0, none⟩)], .func (.func 38) #[] #[.pointer (some ⟨w.heap.size + 1 + 1 + 1, 0, none⟩)], .bool false, .func (.func 38) #[] #[.pointer (some ⟨w.heap.size + 1 + 1 + 1, 0, none⟩)], .agg #[.int .i64 x.1.1, .int .i64 x.1.2], .bool x.2, undef, undef, undef, undef, undef, undef, undef, undef, undef, undef, undef, undef, undef, undef, undef, undef, undef, undef, undef, undef, undef, undef, undef, undef, undef, undef, undef, undef, undef, undef, undef, undef, undef, undef, undef, undef, undef, undef], defers := [] }) (fun W o => Keep68.below ((Below.refl _ _).alloc (Nat.le_refl _) o)) ?assign ?body ?done
  case assign =>
    intro lp x W K hK
    gi_wp2
    exact hK
  case body =>
    rintro lp pre x b W ⟨b1, b2, b3, hB⟩ hpre hbge hbx
    have hx : l[pre.length]? = some x := by
      obtain ⟨suf, hs⟩ := hpre
      rw [← hs]
      simp
    have hlt : pre.length < l.length := (List.getElem?_eq_some_iff.1 hx).1
    have hR := HRR.out.below hB
    obtain ⟨v, hv, A, c, hve, hc, hI⟩ := hR.ids
    rw [List.length_map] at hve hc
    subst hve
    obtain ⟨ad, rfl, c2, c3⟩ := hI pre.length x.1 (by rw [List.getElem?_map, hx]; rfl)
    obtain ⟨BB, dd, hv2, hd2, hbs⟩ := hR.live
    obtain ⟨be, rfl, c4⟩ := hbs pre.length x hx
    obtain ⟨⟨x1, x2⟩, flag⟩ := x
    simp only at c2 c3 c4 hbx
    have q0 : W.cell? ⟨b, 0, none⟩ = some (.int .i64 x1) := by simp [World.cell?, hbx]
    have q1 : W.cell? ⟨b, 1, none⟩ = some (.int .i64 x2) := by simp [World.cell?, hbx]
    have q2 : W.cell? ⟨w.heap.size, 0, none⟩ = some (.pointer (some ⟨s, 0, none⟩)) := by simp [World.cell?, b1]
    have q3 : W.cell? ⟨w.heap.size + 1 + 1, 0, none⟩ = some (.int .i64 pre.length) := by simp [World.cell?, b3]
    have hk0 : (0 : Int) ≤ ↑pre.length := by omega
    have hk1 : (↑pre.length : Int) < ↑l.length := by omega
    have hge : ¬ (↑l.length : Int) ≤ ↑pre.length := by omega
    have hgn : ¬ l.length ≤ pre.length := by omega
    have hk2 : (↑l.length : Int) ≤ ↑c := by omega
    have hk3 : (↑l.length : Int) ≤ ↑dd := by omega
    have hne : ∀ w, (binOp .neq 25 (.agg #[.int .i64 x1, .int .i64 x2]) (.agg #[.int .i64 x1, .int .i64 x2])).run Try.prog w = .ok (.bool false) w := fun w => by rw [id_ne x1 x2 x1 x2 w]; simp
    clear hI hbs hR hpre hx
    have q0' : W.drew.cell? ⟨b, 0, none⟩ = some (.int .i64 x1) := q0
    have q1' : W.drew.cell? ⟨b, 1, none⟩ = some (.int .i64 x2) := q1
    have q2' : W.drew.cell? ⟨w.heap.size, 0, none⟩ = some (.pointer (some ⟨s, 0, none⟩)) := q2
    have q3' : W.drew.cell? ⟨w.heap.size + 1 + 1, 0, none⟩ = some (.int .i64 pre.length) := q3
    have q4' : W.drew.cell? ⟨s, 0, none⟩ = some (.slice (some ad) l.length c) := hv
    have q5' : W.drew.cell? ⟨s, 1, none⟩ = some (.slice (some be) l.length dd) := hv2
    have q6' : W.drew.cell? (ad.add (pre.length * 2)) = some (.int .i64 x1) := c2
    have q7' : W.drew.cell? ⟨(ad.add (pre.length * 2)).block, (ad.add (pre.length * 2)).off + 1, none⟩ = some (.int .i64 x2) := c3
    have q8' : W.drew.cell? (be.add pre.length) = some (.bool flag) := c4
    have q9' : W.drew.frozen? ⟨w.heap.size + 1 + 1, 0, none⟩ = false := (show W.frozen? _ = false by simp [World.frozen?, b3])
    gi_wp2
    refine wpIn_region_P (S := fun w9 => w9 = W.drew) (by kernel_rfl) (by kernel_rfl) rfl ?_
    refine wpP_take (i := 0) (v := ?v0) rfl (by kernel_rfl) (by kernel_rfl) (by kernel_rfl) (Or.inl ⟨by kernel_rfl, ?h0⟩) ?_
    case h0 => (rintro w9 rfl; go_simp; try with_reducible rfl)
    refine wpP_take (i := 1) (v := ?v1) rfl (by kernel_rfl) (by kernel_rfl) (by kernel_rfl) (Or.inl ⟨by kernel_rfl, ?h1⟩) ?_
    case h1 => (rintro w9 rfl; go_simp; try with_reducible rfl)
    refine wpP_take (i := 2) (v := ?v2) rfl (by kernel_rfl) (by kernel_rfl) (by kernel_rfl) (Or.inl ⟨by kernel_rfl, ?h2⟩) ?_
    case h2 => (rintro w9 rfl; go_simp; try with_reducible rfl)
    refine wpP_take (i := 3) (v := ?v3) rfl (by kernel_rfl) (by kernel_rfl) (by kernel_rfl) (Or.inl ⟨by kernel_rfl, ?h3⟩) ?_
    case h3 => (rintro w9 rfl; go_simp; try with_reducible rfl)
    refine wpP_take (i := 4) (v := ?v4) rfl (by kernel_rfl) (by kernel_rfl) (by kernel_rfl) (Or.inl ⟨by kernel_rfl, ?h4⟩) ?_
    case h4 => (rintro w9 rfl; go_simp; try with_reducible rfl)
    refine wpP_take (i := 5) (v := ?v5) rfl (by kernel_rfl) (by kernel_rfl) (by kernel_rfl) (Or.inl ⟨by kernel_rfl, ?h5⟩) ?_
    case h5 => (rintro w9 rfl; go_simp; try with_reducible rfl)
    refine wpP_take (i := 6) (v := .bool false) rfl (by kernel_rfl) (by kernel_rfl) (by kernel_rfl) (Or.inl ⟨by kernel_rfl, ?h6⟩) ?_
    case h6 => (rintro w9 rfl; go_simp; try with_reducible rfl)
    refine wpP_take (i := 7) (v := .bool false) rfl (by kernel_rfl) (by kernel_rfl) (by kernel_rfl) (Or.inl ⟨by kernel_rfl, ?h7⟩) ?_
    case h7 => (rintro w9 rfl; go_simp; try with_reducible rfl)
    refine wpP_take (i := 8) (v := ?v8) rfl (by kernel_rfl) (by kernel_rfl) (by kernel_rfl) (Or.inl ⟨by kernel_rfl, ?h8⟩) ?_
    case h8 => (rintro w9 rfl; go_simp; try with_reducible rfl)
    refine wpP_take (i := 9) (v := ?v9) rfl (by kernel_rfl) (by kernel_rfl) (by kernel_rfl) (Or.inl ⟨by kernel_rfl, ?h9⟩) ?_
    case h9 => (rintro w9 rfl; go_simp; try with_reducible rfl)
    refine wpP_take (i := 10) (v := ?v10) rfl (by kernel_rfl) (by kernel_rfl) (by kernel_rfl) (Or.inl ⟨by kernel_rfl, ?h10⟩) ?_
    case h10 => (rintro w9 rfl; go_simp; try with_reducible rfl)
    refine wpP_take (i := 11) (v := ?v11) rfl (by kernel_rfl) (by kernel_rfl) (by kernel_rfl) (Or.inl ⟨by kernel_rfl, ?h11⟩) ?_
    case h11 => (rintro w9 rfl; go_simp; try with_reducible rfl)
    refine wpP_take (i := 12) (v := ?v12) rfl (by kernel_rfl) (by kernel_rfl) (by kernel_rfl) (Or.inl ⟨by kernel_rfl, ?h12⟩) ?_
    case h12 => (rintro w9 rfl; go_simp; try with_reducible rfl)
    refine wpP_take (i := 13) (v := ?v13) rfl (by kernel_rfl) (by kernel_rfl) (by kernel_rfl) (Or.inl ⟨by kernel_rfl, ?h13⟩) ?_
    case h13 => (rintro w9 rfl; go_simp; try with_reducible rfl)
    refine wpP_take (i := 14) (v := ?v14) rfl (by kernel_rfl) (by kernel_rfl) (by kernel_rfl) (Or.inl ⟨by kernel_rfl, ?h14⟩) ?_
    case h14 => (rintro w9 rfl; go_simp; try with_reducible rfl)
    refine wpP_take (i := 15) (v := ?v15) rfl (by kernel_rfl) (by kernel_rfl) (by kernel_rfl) (Or.inl ⟨by kernel_rfl, ?h15⟩) ?_
    case h15 => (rintro w9 rfl; go_simp; try with_reducible rfl)
    refine wpP_take (i := 16) (v := ?v16) rfl (by kernel_rfl) (by kernel_rfl) (by kernel_rfl) (Or.inl ⟨by kernel_rfl, ?h16⟩) ?_
    case h16 => (rintro w9 rfl; go_simp; try with_reducible rfl)
    refine wpP_take (i := 17) (v := .bool false) rfl (by kernel_rfl) (by kernel_rfl) (by kernel_rfl) (Or.inl ⟨by kernel_rfl, ?h17⟩) ?_
    case h17 => (rintro w9 rfl; go_simp; try with_reducible rfl)
    refine wpP_take (i := 18) (v := .bool false) rfl (by kernel_rfl) (by kernel_rfl) (by kernel_rfl) (Or.inl ⟨by kernel_rfl, ?h18⟩) ?_
    case h18 => (rintro w9 rfl; go_simp; try with_reducible rfl)
    refine wpP_take (i := 19) (v := ?v19) rfl (by kernel_rfl) (by kernel_rfl) (by kernel_rfl) (Or.inl ⟨by kernel_rfl, ?h19⟩) ?_
    case h19 => (rintro w9 rfl; go_simp; try with_reducible rfl)
    refine wpP_take (i := 20) (v := ?v20) rfl (by kernel_rfl) (by kernel_rfl) (by kernel_rfl) (Or.inl ⟨by kernel_rfl, ?h20⟩) ?_
    case h20 => (rintro w9 rfl; go_simp; try with_reducible rfl)
    refine wpP_take (i := 21) (v := ?v21) rfl (by kernel_rfl) (by kernel_rfl) (by kernel_rfl) (Or.inl ⟨by kernel_rfl, ?h21⟩) ?_
    case h21 => (rintro w9 rfl; go_simp; try with_reducible rfl)
    refine wpP_take (i := 22) (v := ?v22) rfl (by kernel_rfl) (by kernel_rfl) (by kernel_rfl) (Or.inl ⟨by kernel_rfl, ?h22⟩) ?_
    case h22 => (rintro w9 rfl; go_simp; try with_reducible rfl)
    refine wpP_take (i := 23) (v := ?v23) rfl (by kernel_rfl) (by kernel_rfl) (by kernel_rfl) (Or.inl ⟨by kernel_rfl, ?h23⟩) ?_
    case h23 => (rintro w9 rfl; go_simp; try with_reducible rfl)
    refine wpP_take (i := 24) (v := ?v24) rfl (by kernel_rfl) (by kernel_rfl) (by kernel_rfl) (Or.inl ⟨by kernel_rfl, ?h24⟩) ?_
    case h24 => (rintro w9 rfl; go_simp; try with_reducible rfl)
    refine wpP_take (i := 25) (v := ?v25) rfl (by kernel_rfl) (by kernel_rfl) (by kernel_rfl) (Or.inl ⟨by kernel_rfl, ?h25⟩) ?_
    case h25 => (rintro w9 rfl; go_simp; try with_reducible rfl)
    refine wpP_take (i := 26) (v := ?v26) rfl (by kernel_rfl) (by kernel_rfl) (by kernel_rfl) (Or.inl ⟨by kernel_rfl, ?h26⟩) ?_
    case h26 => (rintro w9 rfl; go_simp; try with_reducible rfl)
    refine wpP_take (i := 27) (v := ?v27) rfl (by kernel_rfl) (by kernel_rfl) (by kernel_rfl) (Or.inl ⟨by kernel_rfl, ?h27⟩) ?_
    case h27 => (rintro w9 rfl; go_simp; try with_reducible rfl)
    refine wpP_take (i := 28) (v := .bool false) rfl (by kernel_rfl) (by kernel_rfl) (by kernel_rfl) (Or.inl ⟨by kernel_rfl, ?h28⟩) ?_
    case h28 => (rintro w9 rfl; go_simp; try with_reducible rfl)
    refine wpP_done (by kernel_rfl) ?_ _
    rintro w9 rfl
    go_simp
    gi_wp2
    exact sameI_step _ b1 b2 b3 hB _
  case done =>
    rintro D W hD ⟨b1, b2, b3, hB⟩ hK'
    have hR := HRR.out.below hB
    obtain ⟨v, hv, A, c, hve, hc, hI⟩ := hR.ids
    rw [List.length_map] at hve hc
    subst hve
    have q2' : W.drew.cell? ⟨w.heap.size, 0, none⟩ = some (.pointer (some ⟨s, 0, none⟩)) := (show W.cell? _ = _ by simp [World.cell?, b1])
    have q3' : W.drew.cell? ⟨w.heap.size + 1 + 1, 0, none⟩ = some (.int .i64 l.length) := (show W.cell? _ = _ by simp [World.cell?, b3])
    have q5' : W.drew.cell? ⟨w.heap.size + 1, 0, none⟩ = some (.bool false) := (show W.cell? _ = _ by simp [World.cell?, b2])
    have q6' : W.drew.frozen? ⟨w.heap.size + 1, 0, none⟩ = false := (show W.frozen? _ = false by simp [World.frozen?, b2])
    have q4' : W.drew.cell? ⟨s, 0, none⟩ = some (.slice A l.length c) := hv
    rename_i Q0 K0 hK0
    have hx0 : w.heap.size + 1 < D := by have := hb0.size; have := h2.lt; omega
    show K0 _ _
    refine hK0 _ _ (wpIn_wide.2 ?_)
    clear hK0
    go_wp2
    rename_i K1 hK1
    refine Code.wp_mono (Q := Exit.then K1 (fun _ _ _ => False)) (by intro e a w h; cases e <;> first | exact h | exact h.elim) ?_
    refine wp_region_K 7 (S := fun w9 => w9 = W.drew) (by kernel_rfl) rfl (fun hS => ?_)
    refine wpK_take (i := 0) (v := ?u0) rfl (by kernel_rfl) (by kernel_rfl) (by kernel_rfl) (by kernel_rfl) (fun _ _ _ h => h) (Or.inl ⟨by kernel_rfl, ?k0⟩) hS ?_
    case k0 => (rintro w9 rfl; go_simp; try with_reducible rfl)
    refine wpK_take (i := 1) (v := ?u1) rfl (by kernel_rfl) (by kernel_rfl) (by kernel_rfl) (by kernel_rfl) (fun _ _ _ h => h) (Or.inl ⟨by kernel_rfl, ?k1⟩) hS ?_
    case k1 => (rintro w9 rfl; go_simp; try with_reducible rfl)
    refine wpK_take (i := 2) (v := ?u2) rfl (by kernel_rfl) (by kernel_rfl) (by kernel_rfl) (by kernel_rfl) (fun _ _ _ h => h) (Or.inl ⟨by kernel_rfl, ?k2⟩) hS ?_
    case k2 => (rintro w9 rfl; go_simp; try with_reducible rfl)
    refine wpK_take (i := 3) (v := ?u3) rfl (by kernel_rfl) (by kernel_rfl) (by kernel_rfl) (by kernel_rfl) (fun _ _ _ h => h) (Or.inl ⟨by kernel_rfl, ?k3⟩) hS ?_
    case k3 => (rintro w9 rfl; go_simp; try with_reducible rfl)
    refine wpK_take (i := 4) (v := ?u4) rfl (by kernel_rfl) (by kernel_rfl) (by kernel_rfl) (by kernel_rfl) (fun _ _ _ h => h) (Or.inl ⟨by kernel_rfl, ?k4⟩) hS ?_
    case k4 => (rintro w9 rfl; go_simp; try with_reducible rfl)
    refine wpK_take (i := 5) (v := ?u5) rfl (by kernel_rfl) (by kernel_rfl) (by kernel_rfl) (by kernel_rfl) (fun _ _ _ h => h) (Or.inl ⟨by kernel_rfl, ?k5⟩) hS ?_
    case k5 => (rintro w9 rfl; go_simp; try with_reducible rfl)
    refine wpK_take (i := 6) (v := .bool true) rfl (by kernel_rfl) (by kernel_rfl) (by kernel_rfl) (by kernel_rfl) (fun _ _ _ h => h) (Or.inl ⟨by kernel_rfl, ?k6⟩) hS ?_
    case k6 => (rintro w9 rfl; go_simp; try with_reducible rfl)
    refine wpK_last (by kernel_rfl) rfl (by kernel_rfl) (fun K hK => ?_)
    go_simp
    refine hK _ _ ?_; clear hK K
    go_wp2
    have hfin : ((W.setCell ⟨w.heap.size + 1, 0, none⟩ (.bool true)).drew.putObj D (Obj.deferred none)).cell? ⟨w.heap.size + 1, 0, none⟩ = some (.bool true) := by
      have hbb : Boxed W (w.heap.size + 1) 4 (.bool false) := b2
      have h9 := (hbb.set (.bool true)).cell
      refine (World.cell?_of_block (World.putObj_heap_other (by show w.heap.size + 1 ≠ D; omega))).trans h9
    refine ⟨by simp, .inl ⟨_, _, rfl, run_takeDeferred (?_ : (W.setCell _ _).heap[D]? = _), ?_⟩⟩
    · exact (Below.heap_setCell W _ _ D (by show D ≠ w.heap.size + 1; omega)).trans hK'
    · exact ⟨.bool true, by simp [results, Try.f18, go_sem, hfin], rfl, below_put ((hB.trans ((Below.refl _ W).setCell (by simp <;> omega) _)).drew) (Nat.le_trans hb0.size hD) _⟩
end Go.Proofs.Ytngomgjhakgehaa
