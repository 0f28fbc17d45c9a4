/- A board that is changed beside rows of other kinds; what a region that draws does, step by step. -/
import Derived.Test.YtdeneogbnmedkaaRe
import Derived.Test.YtdeneogbnmedkaaRf
import Derived.Test.YtdeneogbnmedkaaNq
namespace Go.Proofs.Ytdeneogbnmedkaa
open Go.RowKit Go.Maps

/-- what is no board's own is as it was -/
structure Quiet (W W' : World) : Prop where
  size : W.heap.size ≤ W'.heap.size
  same : ∀ (b : Nat) cs t f, W.heap[b]? = some (.cells cs t f) → t ≠ 69 → t ≠ 73 → W'.heap[b]? = W.heap[b]?
theorem Quiet.of_below {W W' : World} (h : Below W.heap.size W W') : Quiet W W' := ⟨h.size, fun b _ _ _ hb _ _ => h.block b (Array.getElem?_eq_some_iff.1 hb).1⟩
theorem brd_tight {w : World} {s m : Nat} {S : Nat → Prop} {B : Brd} (h : BrdAt w s S m B) :
    ∃ T : Nat → Prop, BrdAt w s T m B ∧ (∀ b, T b → S b) ∧ ∀ b cs t f, w.heap[b]? = some (.cells cs t f) → t ≠ 69 → t ≠ 73 → ¬ T b := by
  obtain ⟨hi, c, o, d, v, h⟩ := h
  obtain ⟨i1, i2, i3, i4, i5⟩ := h.ins
  have hmap : ∀ {b n : Nat} {f : Pl → Option Value}, MapIs w b n f → ¬ ∃ cs t f, w.heap[b]? = some (.cells cs t f) ∧ t ≠ 69 ∧ t ≠ 73 := fun hm ⟨cs, t, f, hb, _⟩ => by
    obtain ⟨es, k, hk⟩ := hm.is_map
    rw [hk] at hb
    cases hb
  refine ⟨fun b => S b ∧ ¬ ∃ cs t f, w.heap[b]? = some (.cells cs t f) ∧ t ≠ 69 ∧ t ≠ 73, ⟨hi, c, o, d, v, h.blk, h.mc, h.mo, h.md, h.row, ⟨⟨i1, fun ⟨cs, t, f, hb, h1, _⟩ => ?_⟩, ⟨i2, hmap h.mc⟩, ⟨i3, hmap h.mo⟩, ⟨i4, hmap h.md⟩, fun g hg => ⟨i5 g hg, fun ⟨cs, t, f, hb, _, h2⟩ => ?_⟩⟩, h.ne, h.len⟩, fun b hb => hb.1, fun b cs t f hb h1 h2 hT => hT.2 ⟨cs, t, f, hb, h1, h2⟩⟩
  · have h2 := h.blk
    rw [hb] at h2
    injection h2 with h2
    unfold brdC at h2
    injection h2 with _ h2
    exact h1 h2
  · obtain ⟨_, cur, h3⟩ := own_lt h.row hg
    rw [hb] at h3
    injection h3 with h3
    injection h3 with _ h3
    exact h2 h3
section
variable {w W W' : World} {s m n : Nat} {B B' : Brd} {vf vl : Value}
theorem rowG_blk {v : Value} {n base e size : Nat} {xs : List Value} (h : W.ownsRow base e size v n xs) {g : Nat} (hg : v.ownBlock = some g) : ∃ cur, W.heap[g]? = some (.cells cur e (0, 0)) := by
  rcases h.2 with ⟨rfl, _⟩ | ⟨g', cap, cur, rfl, _, hc, _⟩
  · cases hg
  · injection hg with hg; subst hg; exact ⟨_, hc⟩
theorem RefAt.kept (h : RefAt W vf vl B n) (hk : ∀ (b : Nat) cs f, W.heap[b]? = some (.cells cs 58 f) ∨ W.heap[b]? = some (.cells cs 42 f) → W'.heap[b]? = W.heap[b]?) : RefAt W' vf vl B n := by
  obtain ⟨F, h1, h2⟩ := h.full
  exact ⟨⟨F, rowG_kept h1 (fun g hg => by obtain ⟨cur, hc⟩ := rowG_blk h1 hg; exact hk g _ _ (.inl hc)), h2⟩, rowG_kept h.row (fun g hg => by obtain ⟨cur, hc⟩ := rowG_blk h.row hg; exact hk g _ _ (.inr hc)), h.len⟩
theorem RefAt.quiet (h : RefAt W vf vl B n) (hq : Quiet W W') : RefAt W' vf vl B n := h.kept fun b cs f hb => by
  rcases hb with hb | hb
  · exact hq.same b _ _ _ hb (by decide) (by decide)
  · exact hq.same b _ _ _ hb (by decide) (by decide)
theorem fill_sa (h : Up w s m B W) (hm : m ≤ 100000) {x y : Int} (hwf : Wf (x, y)) {r : Bool} (hr : fillR B (x, y) = r) (hB : fillB B (x, y) = B') :
    Calls Try.prog 13 #[.pointer (some ⟨s, 0, none⟩), .int .i64 x, .int .i64 y] W fun e W' => e = .returned (.bool r) ∧ Up w s (m + 1) B' W' ∧ Quiet W W' := by
  obtain ⟨T, hT, hS, hq⟩ := brd_tight h.1
  refine (fill_any x y hwf hm hT).mono ?_
  rintro e W' ⟨rfl, h1, h2⟩
  rw [hr]
  rw [hB] at h1
  exact ⟨rfl, h.after h1 h2 hS, h2.size, fun b cs t f hb k1 k2 => h2.block b (Array.getElem?_eq_some_iff.1 hb).1 (hq b cs t f hb k1 k2)⟩
theorem decide_sa (h : Up w s m B W) (hm : m ≤ 100000) {x y a b : Int} (hwf : Wf (x, y)) {r : Bool} {e : Int} (hr : decR B (x, y, a, b) = r) (he : decE B (x, y, a, b) = e) (hB : decB B (x, y, a, b) = B') :
    Calls Try.prog 15 #[.pointer (some ⟨s, 0, none⟩), .int .i64 x, .int .i64 y, .int .i64 a, .int .i64 b] W fun e' W' => e' = .returned (.tuple #[.bool r, .int .i64 e]) ∧ Up w s (m + 1) B' W' ∧ Quiet W W' := by
  obtain ⟨T, hT, hS, hq⟩ := brd_tight h.1
  refine (decide_any x y a b hwf hm hT).mono ?_
  rintro e W' ⟨rfl, h1, h2⟩
  rw [hr, he]
  rw [hB] at h1
  exact ⟨rfl, h.after h1 h2 hS, h2.size, fun b cs t f hb k1 k2 => h2.block b (Array.getElem?_eq_some_iff.1 hb).1 (hq b cs t f hb k1 k2)⟩
theorem RefAt.shapes (h : RefAt W vf vl B n) : (∃ A k c, vf = .slice A k c) ∧ ∃ A k c, vl = .slice A k c := by
  obtain ⟨F, h1, _⟩ := h.full
  obtain ⟨A, c, e⟩ := own_shape h1
  obtain ⟨A2, c2, e2⟩ := own_shape h.row
  exact ⟨⟨_, _, _, e⟩, _, _, _, e2⟩
/-- the box of the document's board -/
def XB (W : World) (g : Nat) (B : Brd) (vf vl : Value) : Prop := W.heap[g]? = some (.cells #[.int .i64 B.rows, .int .i64 B.cols, vf, vl] 29 (0, 0))
theorem XB.quiet {g : Nat} (h : XB W g B vf vl) (hq : Quiet W W') : XB W' g B vf vl := (hq.same g _ _ _ h (by decide) (by decide)).trans h
theorem XB.later {g : Nat} (h : XB W g B vf vl) (hb : Below W.heap.size W W') : XB W' g B vf vl := h.quiet (.of_below hb)
/-- another board is stored in the box -/
theorem x_set {g : Nat} {a b c d : Value} (hx : W.heap[g]? = some (.cells #[a, b, c, d] 29 (0, 0))) (hg : w.heap.size ≤ g) (hu : Up w s m B W) (hr : RefAt W vf vl B n) :
    Up w s m B ((((W.setCell ⟨g, 0, none⟩ (.int .i64 B.rows)).setCell ⟨g, 1, none⟩ (.int .i64 B.cols)).setCell ⟨g, 2, none⟩ vf).setCell ⟨g, 3, none⟩ vl) ∧
    RefAt ((((W.setCell ⟨g, 0, none⟩ (.int .i64 B.rows)).setCell ⟨g, 1, none⟩ (.int .i64 B.cols)).setCell ⟨g, 2, none⟩ vf).setCell ⟨g, 3, none⟩ vl) vf vl B n ∧
    XB ((((W.setCell ⟨g, 0, none⟩ (.int .i64 B.rows)).setCell ⟨g, 1, none⟩ (.int .i64 B.cols)).setCell ⟨g, 2, none⟩ vf).setCell ⟨g, 3, none⟩ vl) g B vf vl := by
  have hfar : ∀ b, b ≠ g → ((((W.setCell ⟨g, 0, none⟩ (.int .i64 B.rows)).setCell ⟨g, 1, none⟩ (.int .i64 B.cols)).setCell ⟨g, 2, none⟩ vf).setCell ⟨g, 3, none⟩ vl).heap[b]? = W.heap[b]? := fun b hb =>
    (Below.heap_setCell _ _ _ _ hb).trans ((Below.heap_setCell _ _ _ _ hb).trans ((Below.heap_setCell _ _ _ _ hb).trans (Below.heap_setCell _ _ _ _ hb)))
  have hbel := below4 (.int .i64 B.rows) (.int .i64 B.cols) vf vl hu.2 hg
  have hsz := (below4 (.int .i64 B.rows) (.int .i64 B.cols) vf vl (Below.refl 0 W) (Nat.zero_le g)).size
  obtain ⟨T, hT, hS, hq⟩ := brd_tight hu.1
  have hgT : ¬ T g := hq g _ _ _ hx (by decide) (by decide)
  refine ⟨⟨?_, hbel⟩, hr.kept (fun b cs f hb => hfar b (fun e => ?_)), set4 _ _ _ _ hx⟩
  · obtain ⟨hi, c, o, d, v, h⟩ := hT
    obtain ⟨i1, i2, i3, i4, i5⟩ := h.ins
    have hne : ∀ b, T b → b ≠ g := fun b hb e => hgT (e ▸ hb)
    exact BrdAt.wider (S := T) ⟨hi, c, o, d, v, (hfar s (hne s i1)).trans h.blk, h.mc.kept (hfar c (hne c i2)), h.mo.kept (hfar o (hne o i3)), h.md.kept (hfar d (hne d i4)), own_kept h.row (fun k hk => hfar k (hne k (i5 k hk))), h.ins, h.ne, h.len⟩ (fun b hb _ => hS b hb)
  · subst e
    rw [hx] at hb
    rcases hb with hb | hb <;> (injection hb with hb; injection hb with _ hb; cases hb)
end
theorem dec_last {B : Brd} {r : R4} (h : decE B r = 0) : (decB B r).l = B.l ++ [judF B r] ∧ decR B r = (judF B r).st := by
  unfold decB decR
  rw [if_pos h, h]
  exact ⟨rfl, by simp⟩
theorem dec_not {B : Brd} {r : R4} (h : decE B r ≠ 0) : decR B r = false := by unfold decR; simp [h]
/-! ### steps of a region that draws -/
section
variable {F : Fence} {n : Nat} {P : Program} {ops : Array Oper} {S : World → Prop}
theorem does_yes {o : Oper} {v : Value} {a : Act} (hF : ∀ f, F.fn f) (hd : ∀ c, o.op ≠ .defer c) (hw : Region.wanted o (yielded ops a.tmps) = true) (hv : ∀ w, S w → (execOp a.eval o).run P w = .ok (.value v) w) : Does F n P ops S o v a :=
  ⟨fun _ f _ => hF f, hd, .inl (.inl ⟨hw, hv⟩)⟩
theorem does_no {o : Oper} {a : Act} (hF : ∀ f, F.fn f) (hd : ∀ c, o.op ≠ .defer c) (hw : Region.wanted o (yielded ops a.tmps) = false) : Does F n P ops S o undef a :=
  ⟨fun _ f _ => hF f, hd, .inl (.inr ⟨hw, rfl⟩)⟩
theorem does_call {o : Oper} {v : Value} {a : Act} (f : Nat) (args : Array Value) (hF : ∀ f, F.fn f) (hd : ∀ c, o.op ≠ .defer c) (h1 : F.depth.isSome = true → 1 ≤ n) (hw : Region.wanted o (yielded ops a.tmps) = true)
    (hv : ∀ w, S w → (execOp a.eval o).run P w = .ok (.enter f args) w) (hc : ∀ w, S w → CallsIn F (n - 1) P f args w (fun e w' => e = .returned v ∧ S w')) : Does F n P ops S o v a :=
  ⟨fun _ f _ => hF f, hd, .inr ⟨hw, f, args, h1, hv, hc⟩⟩
end
end Go.Proofs.Ytdeneogbnmedkaa
