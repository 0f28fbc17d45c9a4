/- Join and Clone. -/
import Derived.Test.YtggcnglnclpaeaaE
import Derived.Test.YtggcnglnclpaeaaH
import Derived.Test.YtggcnglnclpaeaaI
namespace Go.Proofs.Ytggcnglnclpaeaa
open Go.RowKit Go.Maps Go.Shelf
attribute [local go_sem] Oper.semAt_some

/-- a loop's records are none of a Seen's blocks -/
theorem seen_rec {β : Type} {B s : Nat} {S : Nat → Prop} (K : β → Nat) (l : β → Row) : OwnRec B (fun (x : β) W => SeenAt W s S (K x) (l x)) := by
  rintro x W W' row ⟨h1, h2, h3⟩ hg hr
  have hno : ∀ b o, W.heap[b]? = some o → isRec o = false → W'.heap[b]? = W.heap[b]? := fun b o hb ho => hg.block b (Array.getElem?_eq_some_iff.1 hb).1 (fun e => by
    obtain ⟨_, o', ho', hw⟩ := hr b e.symm
    rw [hb] at ho'; injection ho' with ho'; subst ho'; rw [hw] at ho; cases ho)
  refine ⟨h1, h2, ?_⟩
  rcases h3 with ⟨hb, hl⟩ | ⟨mb, D, hm, hne, hb, hw, hrel⟩
  · exact .inl ⟨box_kept hb (hno _ _ hb rfl), hl⟩
  · obtain ⟨es, c, h5, h6⟩ := hw
    exact .inr ⟨mb, D, hm, hne, box_kept hb (hno _ _ hb rfl), ⟨es, c, (hno _ _ h5 rfl).trans h5, h6⟩, hrel⟩
theorem only_rec {β : Type} {B : Nat} {S : Nat → Prop} {w : World} (hB : w.heap.size ≤ B) : OwnRec B (fun (_ : β) W => Only S w W) := fun x W W' row h hg hr =>
  h.trans (Only.of_grown hg) (fun b e hb => by have := (hr b e).1; omega)
theorem boxed_rec {β : Type} (B c : Nat) (t : TypeId) (v : Value) : OwnRec B (fun (_ : β) W => Boxed W c t v) := fun x W W' row h hg hr =>
  box_kept h (hg.block c (box_lt h) (fun e => by obtain ⟨_, o, ho, hw⟩ := hr c e.symm; rw [show W.heap[c]? = _ from h] at ho; injection ho with ho; subst ho; cases hw))

set_option maxRecDepth 100000 in
set_option maxHeartbeats 4000000 in
theorem join_any (s : Nat) (q : Option Addr) (S T : Nat → Prop) (K K' : Nat) (l m : Row) (w : World) (hp : SeenAt w s S K l) (h : SeenP w q T K' m) (hT : ∀ k, T k → k < w.heap.size) (hS : ∀ k, S k → k < w.heap.size) (hd : ∀ k, S k → ¬ T k) (hK : K + m.length < 100000) :
    Calls Try.prog 23 #[.pointer (some ⟨s, 0, none⟩), .pointer q] w fun e w' => e = .returned (.tuple #[]) ∧ SeenAt w' s (fun b => S b ∨ w.heap.size ≤ b) (K + m.length) (addsL l m) ∧ Only S w w' := by
  obtain ⟨L, rfl⟩ := row_ids h.ok
  refine (callsIn_wide (n := 6)).1 ?_
  refine callsIn_of_wp_marks Try.func23 rfl trivial ?_ rfl
  simp only [Try.ntmps23, List.size_toArray, List.length_cons, List.length_nil, Nat.reduceAdd, Nat.reduceSub, Array.replicate_succ, Array.replicate_zero, List.push_toArray, List.append_toArray, List.nil_append, List.cons_append]
  have hfA : Fence.wide.fn 30 := trivial
  gi_wp2_with (gi_at_call 30; refine (callsIn_wide.2 (all_call _ _)).mono ?_; rintro e w' ⟨rfl, rfl⟩)
  have hsz : ((w.alloc (Obj.cells #[Value.pointer (some ⟨s, 0, none⟩)] 26)).alloc (Obj.cells #[Value.pointer q] 26)).heap.size = w.heap.size + 2 := by simp
  have hb0 : Below w.heap.size w ((w.alloc (Obj.cells #[Value.pointer (some ⟨s, 0, none⟩)] 26)).alloc (Obj.cells #[Value.pointer q] 26)) := ((Below.refl _ w).alloc (Nat.le_refl _) _).alloc (by simp) _
  have h2 : Boxed ((w.alloc (Obj.cells #[Value.pointer (some ⟨s, 0, none⟩)] 26)).alloc (Obj.cells #[Value.pointer q] 26)) (w.heap.size + 1) 26 (.pointer q) := by
    have := Boxed.new (w.alloc (Obj.cells #[Value.pointer (some ⟨s, 0, none⟩)] 26)) 26 (.pointer q)
    simpa using this
  have h3 : Boxed ((w.alloc (Obj.cells #[Value.pointer (some ⟨s, 0, none⟩)] 26)).alloc (Obj.cells #[Value.pointer q] 26)) w.heap.size 26 (.pointer (some ⟨s, 0, none⟩)) := (Boxed.new w 26 (.pointer (some ⟨s, 0, none⟩))).alloc _
  obtain ⟨W0, hW0⟩ : ∃ W0, ((w.alloc (Obj.cells #[Value.pointer (some ⟨s, 0, none⟩)] 26)).alloc (Obj.cells #[Value.pointer q] 26)) = W0 := ⟨_, rfl⟩
  rw [hW0] at hsz hb0 h2 h3 ⊢
  clear hW0
  have h4 := h.below hb0
  have hlen : L.length < 100000 := by simp at hK; omega
  refine range_goes (F := Fence.wide) rfl (by omega) (gf := 32) (lb := #[.pointer (some ⟨w.heap.size + 1, 0, none⟩)]) rfl trivial (enters_of Try.func32 (by kernel_rfl) rfl)
    (all_runs 5 (by omega) (w.heap.size + 1) K' q T (fun k => T k ∨ k = w.heap.size + 1) L W0 h2 h4 (by omega) (.inr rfl) (fun k hk => .inl hk)) Keep.trans
    (keep_put (w := W0) (fun k hk => by rcases hk with hk | hk; have := hT k hk; omega; omega)) (Below.refl _ _) (fun _ => rfl)
    (fun pre W => (SeenAt W s (fun b => S b ∨ W0.heap.size ≤ b) (K + pre.length) (addsL l (pre.map (·.1))) ∧ Boxed W w.heap.size 26 (.pointer (some ⟨s, 0, none⟩))) ∧ Only S W0 W)
    (OwnRec.and (OwnRec.and (seen_rec (fun pre : List IdP => K + pre.length) (fun pre : List IdP => addsL l (pre.map (·.1)))) (boxed_rec _ _ _ _)) (only_rec (Nat.le_refl _)))
    ⟨⟨(hp.kept (Only.of_below hb0) (fun b hb h1 h2 => by omega)).wider (fun b hb _ => .inl hb) (by simp), h3⟩, Only.refl _ _⟩ ?a₁ ?assign ?body ?done
  case assign =>
    intro l x W K hK
    gi_wp2
    exact hK
  case body =>
    rintro lp pre x W ⟨⟨hs, hb⟩, hO⟩ hlt
    have hc := hb.cell
    have hxb := (mayB_iff _ _).1 x.2.1
    have HN := Lib.hid (add_any s (fun b => S b ∨ W0.heap.size ≤ b) (K + pre.length) (addsL l (pre.map (·.1))) x.1.1 x.1.2 W hs (by omega) (by omega) x.2.2 (by unfold maxLen; omega))
    have HB := Lib.hid hb
    have HS := Lib.hid hs
    clear hb hxb hs
    have hfN : Fence.wide.fn 13 := trivial
    unfold idV at HN
    gi_wp2_with (gi_at_call 13; refine (CallsIn.inRound lp (callsIn_wide.2 HN.out)).mono ?_; rintro e w1 ⟨rfl, hs1, hO1⟩)
    have hfoot : ∀ k, Foot W s (fun b => S b ∨ W0.heap.size ≤ b) k → k < W.heap.size → S k ∨ W0.heap.size ≤ k := by
      rintro k (rfl | ⟨hk | hk, _⟩) _
      · exact HS.out.1
      · exact .inl hk
      · exact .inr hk
    have hsS : S s := hp.1
    have hss := hS s hsS
    refine ⟨KeepsRec.of_only hO1 ?_, Keep.of_only hO1 ?_, ⟨?_, ?_⟩, ?_⟩
    · rintro k o (rfl | ⟨_, es, c, h5⟩) hk
      · rcases HS.out.2.2 with ⟨h6, _⟩ | ⟨_, _, _, _, h6, _⟩ <;> (rw [show W.heap[k]? = _ from h6] at hk; injection hk with hk; subst hk; rfl)
      · rw [h5] at hk; injection hk with hk; subst hk; rfl
    · rintro k (rfl | ⟨hk | hk, es, c, h5⟩) hkz
      · refine ⟨fun hq => ?_, fun hB => by omega⟩
        rcases hq with hq | hq
        · exact hd _ hsS hq
        · omega
      · refine ⟨fun hq => ?_, fun hB => by have := hS k hk; omega⟩
        rcases hq with hq | hq
        · exact hd _ hk hq
        · have := hS k hk; omega
      · refine ⟨fun hq => ?_, fun hB o ho => by rw [h5] at ho; injection ho with ho; subst ho; rfl⟩
        rcases hq with hq | hq
        · have := hT k hq; omega
        · omega
    · have e : addsL l ((pre ++ [x]).map (·.1)) = addL (addsL l (pre.map (·.1))) x.1.1 x.1.2 := by rw [List.map_append]; exact addsL_snoc _ _ _
      rw [e, List.length_append]
      exact hs1.wider (fun b hb _ => by rcases hb with hb | hb; exact hb; exact .inr (by have := hO.size; omega)) (by simp; omega)
    · exact box_kept HB.out (hO1.block _ (box_lt HB.out) (fun hf => by
        rcases hf with hf | ⟨_, es, c, h5⟩
        · omega
        · rw [show W.heap[w.heap.size]? = _ from HB.out] at h5; cases h5))
    · exact hO.trans hO1 (fun b hb hz => by
        rcases hfoot b hb (by have := hO.size; omega) with h5 | h5
        · exact h5
        · omega)
  case done =>
    rintro D W hD ⟨⟨hs, hb⟩, hO⟩ hK'
    gi_wp2
    refine ⟨by simp, .inl ⟨_, _, rfl, run_takeDeferred hK', ?_⟩⟩
    refine ⟨.tuple #[], by simp [results, Try.f23, go_sem], rfl, ?_, ?_⟩
    · rw [List.length_map]
      have h5 : Only (fun b => b = D) W (W.putObj D (.deferred none)) := (Only.of_grown (grownBy_putObj' W D (.deferred none))).mono (fun b hb _ => by injection hb with hb; exact hb.symm)
      have h6 := (seen_rec (B := W0.heap.size) (fun _ : Unit => K + L.length) (fun _ : Unit => addsL l (L.map (·.1)))).putObj (s := ()) (.deferred none) hs hD hK' rfl
      exact h6.wider (fun b hb _ => by rcases hb with hb | hb; exact .inl hb; exact .inr (by omega)) (Nat.le_refl _)
    · exact (((Only.of_below hb0).mono (T := S) (fun b h1 h2 => by omega)).trans hO (fun b hb _ => hb)).trans (Only.of_grown (grownBy_putObj' W D (.deferred none))) (fun b hb hz => by injection hb with hb; omega)

set_option maxHeartbeats 1600000 in
theorem clone_any (q : Option Addr) (T : Nat → Prop) (K' : Nat) (m : Row) (w : World) (h : SeenP w q T K' m) (hT : ∀ k, T k → k < w.heap.size) (hK : m.length < 100000) :
    Calls Try.prog 22 #[.pointer q] w fun e w' => e = .returned (.pointer (some ⟨w.heap.size, 0, none⟩)) ∧ SeenAt w' w.heap.size (fun b => w.heap.size ≤ b) m.length m ∧ Below w.heap.size w w' := by
  have hb : Below w.heap.size w (w.alloc (.cells #[.map none] 47)) := (Below.refl _ _).alloc (Nat.le_refl _) _
  have h1 := h.below hb
  have hs : SeenAt (w.alloc (.cells #[.map none] 47)) w.heap.size (fun b => w.heap.size ≤ b ∧ b < w.heap.size + 1) 0 [] := ⟨by omega, OkR.nil, .inl ⟨Boxed.new w 47 (.map none), rfl⟩⟩
  have HJ := Lib.hid (join_any w.heap.size q _ T 0 K' [] m _ hs h1 (fun k hk => by have := hT k hk; simp; omega) (fun k hk => by simp; omega) (fun k hk ht => by have := hT k ht; omega) (by omega))
  have hml : addsL [] m = m := row_ext (addsL_ok OkR.nil h.ok.small) h.ok (fun a => by rw [look_addsL OkR.nil h.ok]; have := (look_bd h.ok a).1; simp [look]; omega)
  have HM := Lib.hid hml
  have HB := Lib.hid hb
  clear hb h1 hs hml
  go_enter Try.func22, Try.ntmps22
  go_wp2_with (first
    | (go_at_call 11; refine (new_any _).mono ?_; rintro e w1 ⟨rfl, rfl⟩)
    | (go_at_call 23; refine HJ.out.mono ?_; rintro e w2 ⟨rfl, hs2, hO⟩))
  go_ret
  have e2 : (w.alloc (.cells #[.map none] 47)).heap.size = w.heap.size + 1 := by simp
  refine ⟨rfl, ?_, ?_⟩
  · rw [HM.out] at hs2
    exact hs2.wider (fun b hb _ => by rcases hb with hb | hb; exact hb.1; omega) (by omega)
  · exact HB.out.trans (hO.below (by omega) (fun b hb => hb.1))
end Go.Proofs.Ytggcnglnclpaeaa
