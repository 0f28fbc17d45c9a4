/- Rects, and its iterator: for every loop body that keeps what the iterator reads. -/
import Derived.Test.YtdeneogbnmedkaaI
import Derived.Laws.AppendOwnNone
import Derived.RangeFuncNested
import Derived.RangeFuncBound
import Derived.RangeFuncCalls
import Derived.RangeFuncLeaves
import Derived.Shelf.Abstract
import Derived.Shelf.RegionOpen
import Derived.OwnWalkIn
import Derived.TacticsInMore
import Derived.LoopNIn
import Derived.LoopIn
namespace Go.Proofs.Ytdeneogbnmedkaa
open Go.RowKit Go.Maps Go.Shelf
attribute [local go_sem] Oper.semAt_some

theorem own_cells {w : World} {ad : Addr} {m c n base : Nat} {xs : List Value} (h : w.ownsRow base 73 2 (.slice (some ad) m c) n xs) : ∀ j u, xs[j]? = some u → w.cell? (ad.add j) = some u := by
  rcases h.2 with ⟨h0, _⟩ | ⟨g, cap, cur, hv, _, hb, _, _, _, hcur⟩
  · cases h0
  · simp only [Value.slice.injEq, Option.some.injEq] at hv
    obtain ⟨rfl, _, _⟩ := hv
    intro j u hj
    have hlt : j < n * 2 := by have := (List.getElem?_eq_some_iff.1 hj).1; rw [h.1] at this; exact this
    rw [← hcur, List.getElem?_take_of_lt hlt] at hj
    rw [add_off]
    simp [World.cell?, hb]
    simpa using hj
theorem slice_eq (A : Option Addr) (n c : Nat) (w : World) : (binOp .eql 67 (.slice A n c) (.slice none 0 0)).run Try.prog w = .ok (.bool (decide (A = none))) w := by
  cases A <;> rfl
set_option maxHeartbeats 1600000 in
theorem clone_row (v : Value) (l : List Pl) (w : World) (h : w.ownsRow 0 73 2 v l.length (flat2 l)) (hlen : l.length ≤ 200000) :
    Calls Try.prog 33 #[v] w fun e w' => ∃ v', e = .returned v' ∧ w'.ownsRow w.heap.size 73 2 v' l.length (flat2 l) ∧ Below w.heap.size w w' := by
  obtain ⟨i0, hj, hj0, hj1, hj2⟩ := info_parts info73
  rcases id h.2 with ⟨rfl, h0⟩ | ⟨g, cap, cur, rfl, _, hb, _, _, _, _⟩
  · have hl : l = [] := List.eq_nil_of_length_eq_zero h0
    subst hl
    have hse := slice_eq none 0 0
    simp only [decide_true] at hse
    clear h
    go_enter Try.func33, Try.ntmps33
    go_wp2
    go_ret
    exact ⟨_, rfl, ⟨rfl, .inl ⟨rfl, rfl⟩⟩, Below.refl _ _⟩
  · have hb0 : Below w.heap.size w (w.alloc (.cells #[] 73)) := (Below.refl _ _).alloc (Nat.le_refl _) _
    have hrow0 : (w.alloc (.cells #[] 73)).ownsRow w.heap.size 73 2 (.slice (some ⟨w.heap.size, 0, none⟩) 0 0) 0 [] := ⟨rfl, .inr ⟨w.heap.size, 0, #[], rfl, Nat.le_refl _, World.alloc_heap_new w _, Nat.le_refl _, by unfold maxLen; omega, rfl, rfl⟩⟩
    have hcells := own_cells (own_kept h (fun g hg => hb0.block g (own_lt h hg).1))
    have hse := slice_eq (some ⟨g, 0, none⟩) l.length cap
    simp only [reduceCtorEq, decide_false] at hse
    have HB0 := Lib.hid hb0
    have HR0 := Lib.hid hrow0
    have HCE := Lib.hid hcells
    clear hb0 hrow0 hcells hb h
    go_enter Try.func33, Try.ntmps33
    go_wp2_with (at_builtin; refine wpList_append_own _ rfl _ _ 67 rfl w.heap.size 73 i0 (.agg #[.int .i64 0, .int .i64 0]) 2 16 Try.underlying67 hj hj0 hj1 hj2 rfl (by decide) _ _ _ rfl HR0.out ⟨g, 0, none⟩ l.length cap (flat2 l) rfl (flat2_len l) HCE.out (flat2_one l) (by unfold maxLen; omega) (by omega) (by simp) ?_; intro v1 w3 hown1 hgrow1 hnil1; have HO1 := Lib.hid hown1; have HG1 := Lib.hid hgrow1; clear hown1 hgrow1 hnil1)
    go_ret
    refine ⟨v1, rfl, ?_, HB0.out.grown HG1.out (by simp) (fun k e => by injection e with e; simp only at e; omega)⟩
    have h9 := HO1.out
    rw [Nat.zero_add, List.nil_append] at h9
    exact h9

/-- what a round must keep: the blocks of Q; rows of places -/
def Keep (Q : Nat → Prop) (W W' : World) : Prop := W.heap.size ≤ W'.heap.size ∧ ∀ k o, W.heap[k]? = some o → (Q k ∨ ∃ cur fr, o = .cells cur 73 fr) → W'.heap[k]? = some o
section
variable {Q : Nat → Prop} {W W' X : World}
theorem Keep.refl : Keep Q W W := ⟨Nat.le_refl _, fun _ _ h _ => h⟩
theorem Keep.trans (h : Keep Q W W') (k : Keep Q W' X) : Keep Q W X := ⟨Nat.le_trans h.1 k.1, fun i o hi hq => k.2 i o (h.2 i o hi hq) hq⟩
theorem Keep.below (h : Below W.heap.size W W') : Keep Q W W' := ⟨h.size, fun k _ hk _ => (h.block k (Array.getElem?_eq_some_iff.1 hk).1).trans hk⟩
theorem keep_put {w : World} (hQ : ∀ k, Q k → k < w.heap.size) (W : World) (l : Nat) (o o' : Obj) (hl : w.heap.size ≤ l) (h : W.heap[l]? = some o) (ho : o.isCells = false) (_ : o.isWalk = false) : Keep Q W (W.putObj l o') := by
  refine ⟨(grownBy_putObj' W l o').size, fun k o2 hk hq => ?_⟩
  have hkl : k ≠ l := by
    rintro rfl
    rcases hq with hq | ⟨cur, fr, rfl⟩
    · have := hQ k hq; omega
    · rw [hk] at h; injection h with h; subst h; cases ho
  exact ((grownBy_putObj' W l o').block k (Array.getElem?_eq_some_iff.1 hk).1 (fun e => hkl (by injection e))).trans hk
end
theorem grown_of_below {w w' : World} (h : Below w.heap.size w w') : w.grownBy w' none := ⟨h.os, h.tape, h.output, h.size, fun k hk _ => h.block k hk⟩
theorem rects_call (p : Option Addr) (w : World) :
    Calls Try.prog 16 #[.pointer p] w fun e w' => e = .returned (.func (.func 32) #[] #[.pointer (some ⟨w.heap.size, 0, none⟩)]) ∧ w' = w.alloc (.cells #[.pointer p] 24) := by
  have hmf : ∀ (fn : Fn) (first cap : Array Value) (w : World), (Instr.makeFunc fn first cap).run Try.prog w = .ok (.func fn first cap) w := fun _ _ _ _ => rfl
  go_enter Try.func16, Try.ntmps16
  go_wp2
  go_ret
  exact ⟨rfl, rfl⟩
/-- the caller's word abides new blocks -/
def Grows {β : Type} (J : β → World → Prop) : Prop := ∀ s X Y, J s X → X.grownBy Y none → J s Y
/-- an iterator that turns nothing that was there: the caller's word need abide new blocks alone; each round is told what went before -/
def RunsP {α : Type} (F : Fence) (n : Nat) (P : Program) (g : Nat) (lb : Array Value) (encs : α → Array Value) (Kp : World → World → Prop) (L : List α) (w : World) : Prop :=
  ∀ (l : Nat) (J Jx : List α → World → Prop) (W : World), Below w.heap.size w W → Grows J →
    (∀ pre x W1, J pre W1 → pre ++ [x] <+: L → YieldAt F (n - 1) P l (encs x) W1 fun e W' =>
      (e = .returned (.bool true) ∧ J (pre ++ [x]) W' ∧ Kp W1 W') ∨ (e = .returned (.bool false) ∧ Jx (pre ++ [x]) W')) →
    J [] W →
    CallsIn F n P g (#[.func (.yield l) #[] #[]] ++ lb) W fun e W' => (∃ v, e = .returned v) ∧ ((∃ xs, xs = L ∧ J xs W') ∨ (∃ pre, pre <+: L ∧ Jx pre W'))
/-- what yield is handed -/
abbrev encD (d : Dc) : Array Value := #[.agg #[.int .i64 d.r.1, .int .i64 d.r.2.1, .int .i64 d.r.2.2.1, .int .i64 d.r.2.2.2], .bool d.st]
theorem BrdW.keep {W W' : World} {s : Nat} {S Q : Nat → Prop} {m : Nat} {B : Brd} {c o d : Nat} {v : Value} (h : BrdW W s S m B c o d v) (hk : Keep Q W W') (hQ : ∀ k, S k → k < W.heap.size → Q k) : BrdW W' s S m B c o d v := by
  obtain ⟨i1, i2, i3, i4, i5⟩ := h.ins
  have hmap : ∀ {b n f}, MapIs W b n f → S b → MapIs W' b n f := fun hm hb => by
    obtain ⟨es, clock, hx⟩ := hm.is_map
    exact hm.kept ((hk.2 _ _ hx (.inl (hQ _ hb hm.lt))).trans hx.symm)
  have hs : s < W.heap.size := (Array.getElem?_eq_some_iff.1 h.blk).1
  exact ⟨hk.2 _ _ h.blk (.inl (hQ s i1 hs)), hmap h.mc i2, hmap h.mo i3, hmap h.md i4, own_kept h.row (fun g hg => by
    obtain ⟨_, cur, hc⟩ := own_lt h.row hg
    exact (hk.2 _ _ hc (.inr ⟨_, _, rfl⟩)).trans hc.symm), h.ins, h.ne, h.len⟩
theorem row_keep {W W' : World} {base : Nat} {v : Value} {l : List Pl} {Q : Nat → Prop} (h : W.ownsRow base 73 2 v l.length (flat2 l)) (hk : Keep Q W W') : W'.ownsRow base 73 2 v l.length (flat2 l) :=
  own_kept h (fun g hg => by
    obtain ⟨_, cur, hc⟩ := own_lt h hg
    exact (hk.2 _ _ hc (.inr ⟨_, _, rfl⟩)).trans hc.symm)

theorem hkp_box {W W' : World} {Q : Nat → Prop} {b t : Nat} {v : Value} (h : Keep Q W W') (hb : Boxed W b t v) (hq : Q b) : Boxed W' b t v := h.2 b _ hb (.inl hq)
set_option maxRecDepth 100000 in
set_option maxHeartbeats 4000000 in
theorem rects_runs (n : Nat) (hn : 1 ≤ n) (Bn s m : Nat) (S Q : Nat → Prop) (B : Brd) (w : World) (hbn : Boxed w Bn 24 (.pointer (some ⟨s, 0, none⟩))) (h : BrdAt w s S m B) (hm : m ≤ 200000) (hQ : Q Bn) (hSQ : ∀ k, S k → k < w.heap.size → Q k) :
    RunsP Fence.wide n Try.prog 32 #[.pointer (some ⟨Bn, 0, none⟩)] encD (Keep Q) B.l w := by
  intro lp J Jx W hW hJ hY h0
  have h1 : Boxed W Bn 24 (.pointer (some ⟨s, 0, none⟩)) := box_kept hbn (hW.block _ (box_lt hbn))
  obtain ⟨hinv, c, o, d, v, hB0⟩ := h.wider hSQ
  have hBW := hB0.later hW
  have hlen := hBW.len
  have HINV := Lib.hid hinv
  have HBW := Lib.hid hBW
  have HBN := Lib.hid h1
  have HJ := Lib.hid hJ
  have HY := Lib.hid hY
  have cbn := h1.cell
  obtain ⟨_, _, _, _, _, s5, _⟩ := hBW.cells
  obtain ⟨A0, c0, rfl⟩ := own_shape hBW.row
  have hal : (ancs B).length = B.l.length := by simp [ancs]
  have HAL := Lib.hid hal
  have hcl := clone_row (.slice A0 B.l.length c0) (ancs B) W (by have := hBW.row; rw [← hal] at this ⊢; exact this) (by omega)
  rw [hal] at hcl
  have HCL := Lib.hid hcl
  clear hinv hB0 hBW h1 hJ hY h hbn hW hSQ hal hcl
  refine callsIn_of_wp Try.func32 rfl trivial ?_ rfl
  simp only [Try.ntmps32, List.size_toArray, List.length_cons, List.length_nil, Nat.reduceAdd, Nat.reduceSub, Array.replicate_succ, Array.replicate_zero, List.push_toArray, List.append_toArray, List.nil_append, List.cons_append]
  have hfC : Fence.wide.fn 33 := trivial
  gi_wp2_with fail
  refine (callsIn_wide.2 HCL.out).mono ?_
  rintro e w2 ⟨v2, rfl, hrow, hb2⟩
  have hj := HJ.out [] W w2 h0 (grown_of_below hb2)
  have HB2 := Lib.hid (HBW.out.later hb2)
  have HN2 := Lib.hid (box_kept HBN.out (hb2.block _ (box_lt HBN.out)))
  have hrow' : w2.ownsRow W.heap.size 73 2 v2 (ancs B).length (flat2 (ancs B)) := by rw [HAL.out]; exact hrow
  obtain ⟨A, c1, rfl⟩ := own_shape hrow
  have HROW := Lib.hid hrow'
  clear hrow hrow' hb2 cbn s5 HCL h0
  gi_wp2_with fail
  gi_loopw [14] (fun i wr => ∃ k : Nat, k ≤ B.l.length ∧ i = .int .i64 k ∧ J (B.l.take k) wr ∧ Keep Q w2 wr) (fun i _ => B.l.length - (intOf i).toNat)
  case atStart => exact ⟨0, Nat.zero_le _, rfl, hj, Keep.refl⟩
  case round =>
    obtain ⟨k, hk, rfl, hJs, hkp⟩ := hrel
    have HJS := Lib.hid hJs
    have HKP := Lib.hid hkp
    clear hJs hkp
    by_cases hlt : k < B.l.length
    · have hx : B.l[k]? = some B.l[k] := List.getElem?_eq_getElem hlt
      obtain ⟨D, hD⟩ : ∃ D, B.l[k] = D := ⟨_, rfl⟩
      rw [hD] at hx
      have hmem := List.mem_of_getElem? hx
      have hDF := decF_of HINV.out hmem
      have hats := (HINV.out.ats D hmem).1
      have hax : (ancs B)[k]? = some (anc D.r) := by unfold ancs; rw [List.getElem?_map, hx]; rfl
      have hsn : B.l.take (k + 1) = B.l.take k ++ [D] := by rw [List.take_add_one, hx]; rfl
      have HSN := Lib.hid hsn
      obtain ⟨A1, c9, hv9, hc9, hI9⟩ := pl_of_own (row_keep HROW.out HKP.out)
      simp only [Value.slice.injEq] at hv9
      obtain ⟨rfl, -, rfl⟩ := hv9
      obtain ⟨ad, rfl, c2, c3⟩ := hI9 k _ hax
      have hBr := HB2.out.keep HKP.out (fun _ h _ => h)
      have hbr := hkp_box HKP.out HN2.out hQ
      obtain ⟨⟨x, y, a, b⟩, st, ⟨p, q⟩, hb⟩ := D
      have hwf : Wf (x, y) := by
        have h5 := (hasP_iff _ _).1 hats
        have h6 := HINV.out.r0
        have h7 := HINV.out.c0
        simp only [anc] at h5
        exact wf_of (by omega) (by omega)
      have hi0 : (0 : Int) ≤ ↑k := by omega
      have hi1 : (↑k : Int) < ↑B.l.length := by omega
      have hi2 : (↑B.l.length : Int) ≤ ↑c1 := by have := HAL.out; omega
      simp only [anc] at c2 c3 hDF
      have HF : Hid (∀ X, Below (wr.alloc (.cells #[.int .i64 x, .int .i64 y] 73)).heap.size (wr.alloc (.cells #[.int .i64 x, .int .i64 y] 73)) X → X.cell? ⟨Bn, 0, none⟩ = some (.pointer (some ⟨s, 0, none⟩)) ∧ X.cell? ⟨s, 4, none⟩ = some (.map (some d)) ∧ X.cell? ⟨wr.heap.size, 0, none⟩ = some (.int .i64 x) ∧ X.cell? ⟨wr.heap.size, 1, none⟩ = some (.int .i64 y) ∧ (Instr.lookup 66 (.map (some d)) (.agg #[.int .i64 x, .int .i64 y]) false).run Try.prog X = .ok (.agg #[.int .i64 x, .int .i64 y, .int .i64 a, .int .i64 b, .bool st, .int .i64 p, .int .i64 q, .bool hb]) X) := Lib.hid fun X hX => by
        have hb1 : Below wr.heap.size wr (wr.alloc (.cells #[.int .i64 x, .int .i64 y] 73)) := (Below.refl _ _).alloc (Nat.le_refl _) _
        have hb2 : Below wr.heap.size wr X := hb1.trans (hX.mono hb1.size)
        have hz := (hX.block wr.heap.size (by simp)).trans (World.alloc_heap_new wr _)
        have hlk := (hBr.later hb2).md.look Try.underlying66 (z := dc0) (Try.zeroValue78 _) hwf
        rw [decM_get, show dcF B (x, y) = ⟨(x, y, a, b), st, (p, q), hb⟩ by unfold dcF; rw [hDF]; rfl] at hlk
        exact ⟨(box_kept hbr (hb2.block _ (box_lt hbr))).cell, (hBr.later hb2).cells.2.2.2.2.1, (box2 hz).1, (box2 hz).2, hlk⟩
      clear hx hD hmem hDF hats hax hsn hBr hbr hwf hI9
      gi_wp2_with fail
      obtain ⟨u, hu⟩ : ∃ u, wr.alloc (.cells #[.int .i64 x, .int .i64 y] 73) = u := ⟨_, rfl⟩
      rw [hu] at HF ⊢
      have hbu : Below wr.heap.size wr u := by rw [← hu]; exact (Below.refl _ _).alloc (Nat.le_refl _) _
      have HBU := Lib.hid hbu
      clear hu hbu c2 c3
      refine wpIn_wide.2 ?_
      refine wp_region_K 7 (S := fun X => Below u.heap.size u X) (by kernel_rfl) ((Below.refl _ _).drew) (fun hS => ?_)
      refine wpK_take (i := 0) (v := ?k0rr) rfl (by kernel_rfl) (by kernel_rfl) (by kernel_rfl) (by kernel_rfl) (fun _ _ _ h => h) (Or.inl ⟨by kernel_rfl, ?g0rr⟩) hS ?_
      case g0rr => (rintro w9 hb9; obtain ⟨z1, z2, z3, z4, z5⟩ := HF.out w9 hb9; go_simp; try with_reducible rfl)
      refine wpK_take (i := 1) (v := ?k1rr) rfl (by kernel_rfl) (by kernel_rfl) (by kernel_rfl) (by kernel_rfl) (fun _ _ _ h => h) (Or.inl ⟨by kernel_rfl, ?g1rr⟩) hS ?_
      case g1rr => (rintro w9 hb9; obtain ⟨z1, z2, z3, z4, z5⟩ := HF.out w9 hb9; go_simp; try with_reducible rfl)
      refine wpK_take (i := 2) (v := ?k2rr) rfl (by kernel_rfl) (by kernel_rfl) (by kernel_rfl) (by kernel_rfl) (fun _ _ _ h => h) (Or.inl ⟨by kernel_rfl, ?g2rr⟩) hS ?_
      case g2rr => (rintro w9 hb9; obtain ⟨z1, z2, z3, z4, z5⟩ := HF.out w9 hb9; go_simp; try with_reducible rfl)
      refine wpK_take (i := 3) (v := ?k3rr) rfl (by kernel_rfl) (by kernel_rfl) (by kernel_rfl) (by kernel_rfl) (fun _ _ _ h => h) (Or.inl ⟨by kernel_rfl, ?g3rr⟩) hS ?_
      case g3rr => (rintro w9 hb9; obtain ⟨z1, z2, z3, z4, z5⟩ := HF.out w9 hb9; go_simp; try with_reducible rfl)
      refine wpK_take (i := 4) (v := ?k4rr) rfl (by kernel_rfl) (by kernel_rfl) (by kernel_rfl) (by kernel_rfl) (fun _ _ _ h => h) (Or.inl ⟨by kernel_rfl, ?g4rr⟩) hS ?_
      case g4rr => (rintro w9 hb9; obtain ⟨z1, z2, z3, z4, z5⟩ := HF.out w9 hb9; go_simp; try with_reducible rfl)
      refine wpK_take (i := 5) (v := ?k5rr) rfl (by kernel_rfl) (by kernel_rfl) (by kernel_rfl) (by kernel_rfl) (fun _ _ _ h => h) (Or.inl ⟨by kernel_rfl, ?g5rr⟩) hS ?_
      case g5rr => (rintro w9 hb9; obtain ⟨z1, z2, z3, z4, z5⟩ := HF.out w9 hb9; go_simp; try with_reducible rfl)
      refine wpK_one (i := 6) (by kernel_rfl) rfl (fun K hK => ?_)
      go_simp
      refine hK.out _ _ (((Below.refl u.heap.size u).alloc (Nat.le_refl _) _).drew) (fun hS6 => ?_); clear hK K
      refine wpK_last (by kernel_rfl) rfl (by kernel_rfl) (fun K hK => ?_)
      go_simp
      refine hK.out _ _ ?_; clear hK K hS6 hS
      have hz8 : (u.alloc (.cells #[.int .i64 x, .int .i64 y, .int .i64 a, .int .i64 b, .bool st, .int .i64 p, .int .i64 q, .bool hb] 78)).heap[u.heap.size]? = some (.cells #[.int .i64 x, .int .i64 y, .int .i64 a, .int .i64 b, .bool st, .int .i64 p, .int .i64 q, .bool hb] 78 (0, 0)) := World.alloc_heap_new u _
      have hb3 : Below u.heap.size u (u.alloc (.cells #[.int .i64 x, .int .i64 y, .int .i64 a, .int .i64 b, .bool st, .int .i64 p, .int .i64 q, .bool hb] 78)).drew := ((Below.refl _ _).alloc (Nat.le_refl _) _).drew
      obtain ⟨W3, hW3⟩ : ∃ W3, (u.alloc (.cells #[.int .i64 x, .int .i64 y, .int .i64 a, .int .i64 b, .bool st, .int .i64 p, .int .i64 q, .bool hb] 78)).drew = W3 := ⟨_, rfl⟩
      rw [hW3] at hb3 ⊢
      obtain ⟨⟨e0, e1, e2, e3⟩, e4, _⟩ := box8 (w := W3) (by rw [← hW3]; exact hz8)
      have hbw3 : Below wr.heap.size wr W3 := HBU.out.trans (hb3.mono HBU.out.size)
      have hJ2 := HJ.out (B.l.take k) _ _ HJS.out (grown_of_below hbw3)
      obtain ⟨fn, tmps, assign, body, hy, hR⟩ := HY.out (B.l.take k) ⟨(x, y, a, b), st, (p, q), hb⟩ _ hJ2 (by rw [← HSN.out]; exact List.take_prefix _ _)
      have HK2 := Lib.hid (HKP.out.trans (Keep.below hbw3))
      clear hz8 hb3 hW3 hbw3 HF HJ HY HJS
      gi_wp2
      refine hR.mono ?_
      rintro e W4 (⟨rfl, hJ3, hk3⟩ | ⟨rfl, hJx3⟩)
      · gi_wp2
        go_roundw
        case rel => exact ⟨k + 1, by omega, by simp, by rw [HSN.out]; exact hJ3, HK2.out.trans hk3⟩
        case measure => simp [intOf]; omega
      · gi_wp2
        refine bodyPost_ret (results_none rfl _ _ _) rfl ?_
        exact ⟨⟨_, rfl⟩, .inr ⟨_, by rw [← HSN.out]; exact List.take_prefix _ _, hJx3⟩⟩
    · obtain rfl : k = B.l.length := by omega
      have hi1 : ¬ (↑B.l.length : Int) < ↑B.l.length := by omega
      have hJs := HJS.out
      rw [List.take_length] at hJs
      gi_wp2
      go_end0
      exact ⟨⟨_, rfl⟩, .inl hJs⟩
end Go.Proofs.Ytdeneogbnmedkaa
