/- What lies where: maps keyed by places, a board. -/
import Derived.Test.YtdeneogbnmedkaaA
import Derived.RangeFuncBox
import Derived.WalkKit
import Derived.Maps.OwnIn
import Derived.Maps.OwnSet
import Derived.DeepKeys5
import Derived.MapViews
import Derived.OneCell
import Derived.Lib.Hide
namespace Go.Proofs.Ytdeneogbnmedkaa
open Go.RowKit Go.Maps

/-- of what was there, S aside, nothing has turned -/
structure Only (S : Nat → Prop) (w w' : World) : Prop where
  os : w'.os = w.os
  tape : w'.tape = w.tape
  output : w'.output = w.output
  size : w.heap.size ≤ w'.heap.size
  block : ∀ k, k < w.heap.size → ¬ S k → w'.heap[k]? = w.heap[k]?
section
variable {S T : Nat → Prop} {w w' w2 : World}
theorem Only.refl (S : Nat → Prop) (w : World) : Only S w w := ⟨rfl, rfl, rfl, Nat.le_refl _, fun _ _ _ => rfl⟩
theorem Only.trans (h : Only S w w') (k : Only T w' w2) (hT : ∀ b, T b → b < w.heap.size → S b) : Only S w w2 :=
  ⟨k.os.trans h.os, k.tape.trans h.tape, k.output.trans h.output, Nat.le_trans h.size k.size, fun b hb hs =>
    (k.block b (Nat.lt_of_lt_of_le hb h.size) (fun ht => hs (hT b ht hb))).trans (h.block b hb hs)⟩
theorem Only.mono (h : Only S w w') (hS : ∀ b, S b → b < w.heap.size → T b) : Only T w w' :=
  ⟨h.os, h.tape, h.output, h.size, fun b hb hs => h.block b hb (fun k => hs (hS b k hb))⟩
theorem Only.of_below {n : Nat} (h : Below n w w') : Only (fun b => n ≤ b) w w' := ⟨h.os, h.tape, h.output, h.size, fun b _ hs => h.block b (by omega)⟩
theorem Only.below {n : Nat} (h : Only S w w') (hn : n ≤ w.heap.size) (hS : ∀ b, S b → n ≤ b) : Below n w w' := ⟨h.os, h.tape, h.output, h.size, fun b hb => h.block b (by omega) (fun k => absurd (hS b k) (by omega))⟩
theorem Only.of_grown {row : Option Nat} (h : w.grownBy w' row) : Only (fun b => row = some b) w w' := ⟨h.os, h.tape, h.output, h.size, fun b hb hs => h.block b hb (fun k => hs k.symm)⟩
theorem Only.drew (h : Only S w w') : Only S w w'.drew := ⟨h.os, h.tape, h.output, h.size, h.block⟩
theorem Only.later (h : Only S w w') (k : Below w'.heap.size w' w2) : Only S w w2 := h.trans (Only.of_below k) (fun b hb hlt => by have := h.size; omega)
theorem Only.ahead {n : Nat} (k : Below n w w') (hn : n = w.heap.size) (h : Only S w' w2) : Only S w w2 := ((Only.of_below k).mono (T := S) (fun b h1 h2 => by omega)).trans h (fun b hb _ => hb)
end
theorem box_lt {w : World} {s : Nat} {t : TypeId} {v : Value} (h : Boxed w s t v) : s < w.heap.size := (Array.getElem?_eq_some_iff.1 h).1
theorem box_kept {w w' : World} {s : Nat} {t : TypeId} {v : Value} (h : Boxed w s t v) (hb : w'.heap[s]? = w.heap[s]?) : Boxed w' s t v := hb.trans h
theorem add_block (a : Addr) (n : Nat) : (a.add n).block = a.block := by unfold Addr.add; split <;> rfl
theorem add_off (g j : Nat) : (⟨g, 0, none⟩ : Addr).add j = ⟨g, j, none⟩ := by unfold Addr.add; split <;> simp_all
theorem cell_lt {w : World} {a : Addr} {v : Value} (h : w.cell? a = some v) : a.block < w.heap.size := by
  rcases Nat.lt_or_ge a.block w.heap.size with hlt | hge
  · exact hlt
  · unfold World.cell? at h; rw [Array.getElem?_eq_none hge] at h; simp at h

def plV (p : Pl) : Value := .agg #[.int .i64 p.1, .int .i64 p.2]
def rcV (r : R4) : Value := .agg #[.int .i64 r.1, .int .i64 r.2.1, .int .i64 r.2.2.1, .int .i64 r.2.2.2]
def dcV (d : Dc) : Value := .agg #[.int .i64 d.r.1, .int .i64 d.r.2.1, .int .i64 d.r.2.2.1, .int .i64 d.r.2.2.2, .bool d.st, .int .i64 d.bl.1, .int .i64 d.bl.2, .bool d.hb]
def rc0 : Value := .agg #[.int .i64 0, .int .i64 0, .int .i64 0, .int .i64 0]
def dc0 : Value := .agg #[.int .i64 0, .int .i64 0, .int .i64 0, .int .i64 0, .bool false, .int .i64 0, .int .i64 0, .bool false]

/-! ### maps keyed by places; what an element reads as: itself -/
def Wf (p : Pl) : Prop := (Lit.int .i64 p.1).wf = true ∧ (Lit.int .i64 p.2).wf = true
theorem deep73 : Try.prog.keyTypeAt (Try.prog.types.size + 1) 73 = true := by kernel_rfl
theorem wide73 : (match Try.prog.underlying 73 with | some (.array _ _) | some (.struct _) => true | _ => false) = true := by kernel_rfl
theorem laidOut : laidOutB Try.prog = true := by kernel_rfl
theorem row73 : (73 : TypeId) < Try.prog.types.size := of_decide_eq_true (by kernel_rfl)
theorem keyed73 : Keyed Try.prog 73 := Keyed.of_law (deep_law_laid laidOut (m := 2) (by omega) row73 (by kernel_rfl) wide73)
theorem key_some {p : Pl} (h : Wf p) : ∃ kl, keyOf Try.prog 73 (plV p) = some kl := by
  obtain ⟨h1, h2⟩ := h
  have c73 : Try.prog.cellsOf 73 = 2 := by kernel_rfl
  have c3 : Try.prog.cellsOf 3 = 1 := by kernel_rfl
  have kt : Try.prog.keyType 73 = true := by kernel_rfl
  obtain ⟨m, hm⟩ : ∃ m, Try.prog.types.size = m + 1 := ⟨Try.prog.types.size - 1, (Nat.succ_pred_eq_of_pos (Nat.lt_of_le_of_lt (Nat.zero_le 73) row73)).symm⟩
  unfold keyOf plV
  rw [Try.underlying73, hm]
  simp [Value.formed, Try.underlying73, c73, Program.keyLits, Try.underlying3, c3, kt, h1, h2, Value.cells]
noncomputable def kpl (p : Pl) : Lit := (keyOf Try.prog 73 (plV p)).getD (.bool false)
theorem key_of {p : Pl} (h : Wf p) : keyOf Try.prog 73 (plV p) = some (kpl p) := by
  obtain ⟨kl, hk⟩ := key_some h
  unfold kpl
  rw [hk]; rfl
theorem kpl_inj {p q : Pl} (hp : Wf p) (hq : Wf q) (h : kpl p = kpl q) : p = q := by
  have h1 := key_of hp
  rw [h] at h1
  have := keyed73.inj h1 (key_of hq)
  simp only [plV, Value.agg.injEq, Array.mk.injEq, List.cons.injEq, Value.int.injEq, true_and, and_true] at this
  exact Prod.ext this.1 this.2
def rdV (v : Value) : Option (DataW Value × List MemPlace) := some (.held v, [])
/-- block b is a map that tells f -/
def MapIs (w : World) (b n : Nat) (f : Pl → Option Value) : Prop :=
  ∃ D : DataW Value, w.ownsMap Try.prog 73 rdV b n D ∧ ∀ p, Wf p → (∀ z, D.atKey (kpl p) (.held z) = .held ((f p).getD z)) ∧ Maps.has D (kpl p) = (f p).isSome
section
variable {w w' : World} {b n : Nat} {f : Pl → Option Value}
theorem MapIs.lt (h : MapIs w b n f) : b < w.heap.size := by obtain ⟨D, h1, _⟩ := h; exact h1.lt
theorem MapIs.kept (h : MapIs w b n f) (hb : w'.heap[b]? = w.heap[b]?) : MapIs w' b n f := by
  obtain ⟨D, ⟨es, clock, h1, h2⟩, h3⟩ := h
  exact ⟨D, ⟨es, clock, hb.trans h1, h2⟩, h3⟩
theorem MapIs.mono {m : Nat} (h : MapIs w b n f) (hm : n ≤ m) : MapIs w b m f := by
  obtain ⟨D, h1, h3⟩ := h
  exact ⟨D, h1.mono hm, h3⟩
theorem MapIs.made (w : World) : MapIs (w.alloc (.map #[] 0)) w.heap.size 0 (fun _ => none) :=
  ⟨.map [], World.ownsMap_made w Try.prog 73 rdV, fun _ _ => ⟨fun _ => rfl, rfl⟩⟩
theorem MapIs.is_map (h : MapIs w b n f) : ∃ es clock, w.heap[b]? = some (.map es clock) := by
  obtain ⟨D, ⟨es, clock, h1, h2⟩, h3⟩ := h
  exact ⟨es, clock, h1⟩
theorem MapIs.look {t e : TypeId} {z : Value} (h : MapIs w b n f) (ht : Try.prog.underlying t = some (.map 73 e)) (hz : (zeroValue e).run Try.prog w = .ok z w) {p : Pl} (hp : Wf p) :
    (Instr.lookup t (.map (some b)) (.agg #[.int .i64 p.1, .int .i64 p.2]) false).run Try.prog w = .ok ((f p).getD z) w := by
  obtain ⟨D, h1, h3⟩ := h
  obtain ⟨v, ps, hrun, hv⟩ := h1.lookup keyed73 ht hz (show rdV z = some (.held z, []) from rfl) (key_of hp)
  rw [(h3 p hp).1 z] at hv
  unfold rdV at hv
  simp only [Option.some.injEq, Prod.mk.injEq, DataW.held.injEq] at hv
  rw [← hv.1]
  exact hrun
theorem MapIs.look_ok {t e : TypeId} {z : Value} (h : MapIs w b n f) (ht : Try.prog.underlying t = some (.map 73 e)) (hz : (zeroValue e).run Try.prog w = .ok z w) {p : Pl} (hp : Wf p) :
    (Instr.lookup t (.map (some b)) (.agg #[.int .i64 p.1, .int .i64 p.2]) true).run Try.prog w = .ok (.tuple #[(f p).getD z, .bool (f p).isSome]) w := by
  obtain ⟨D, h1, h3⟩ := h
  obtain ⟨v, ps, hrun, hv⟩ := h1.look_ok keyed73 ht hz (show rdV z = some (.held z, []) from rfl) (key_of hp)
  rw [(h3 p hp).1 z] at hv
  rw [(h3 p hp).2] at hrun
  unfold rdV at hv
  simp only [Option.some.injEq, Prod.mk.injEq, DataW.held.injEq] at hv
  rw [← hv.1]
  exact hrun
theorem MapIs.put {t e : TypeId} (h : MapIs w b n f) (ht : Try.prog.underlying t = some (.map 73 e)) (hn : n < maxLen) {p : Pl} (hp : Wf p) (v : Value) :
    ∃ w', (Instr.mapUpdate t (.map (some b)) (.agg #[.int .i64 p.1, .int .i64 p.2]) v).run Try.prog w = .ok () w' ∧ MapIs w' b (n + 1) (fun q => if q = p then some v else f q) ∧ w.grownBy w' (some b) := by
  obtain ⟨D, h1, h3⟩ := h
  obtain ⟨w', hrun, hown, hg⟩ := h1.update keyed73 ht hn (key_of hp) (show rdV v = some (.held v, []) from rfl)
  have hk : WideAt.IsKeyLit (kpl p) := keyed73.key (key_of hp)
  refine ⟨w', hrun, ⟨_, hown, fun q hq => ?_⟩, hg⟩
  by_cases h : q = p
  · subst h
    have e1 : (fun x => if x = q then some v else f x) q = some v := if_pos rfl
    rw [e1, has_put_same h1.isMap hk]
    exact ⟨fun z => by rw [atKey_put_same h1.isMap hk]; rfl, rfl⟩
  · have hne : kpl q ≠ kpl p := fun he => h (kpl_inj hq hp he)
    have e1 : (fun x => if x = p then some v else f x) q = f q := if_neg h
    rw [e1, has_put_other hne]
    exact ⟨fun z => by rw [atKey_put_other hne]; exact (h3 q hq).1 z, (h3 q hq).2⟩
theorem MapIs.ext {g : Pl → Option Value} (h : MapIs w b n f) (hg : ∀ p, f p = g p) : MapIs w b n g := by
  have : f = g := funext hg
  rw [← this]; exact h
end

/-! ### rows of places -/
def flat2 (l : List Pl) : List Value := l.flatMap fun e => [.int .i64 e.1, .int .i64 e.2]
theorem flat2_len (l : List Pl) : (flat2 l).length = l.length * 2 := by
  induction l with
  | nil => rfl
  | cons p l ih => simp [flat2, List.flatMap_cons] at ih ⊢; omega
theorem flat2_app (l m : List Pl) : flat2 (l ++ m) = flat2 l ++ flat2 m := by simp [flat2]
theorem flat2_cons (e : Pl) (l : List Pl) : flat2 (e :: l) = .int .i64 e.1 :: .int .i64 e.2 :: flat2 l := by simp [flat2]
theorem flat2_at {l : List Pl} {k : Nat} {e : Pl} (h : l[k]? = some e) : (flat2 l)[k * 2]? = some (.int .i64 e.1) ∧ (flat2 l)[k * 2 + 1]? = some (.int .i64 e.2) := by
  induction l generalizing k with
  | nil => simp at h
  | cons q l ih =>
    rw [flat2_cons]
    cases k with
    | zero => simp at h; subst h; simp
    | succ k =>
      have := ih (k := k) (by simpa using h)
      rw [show (k + 1) * 2 = k * 2 + 1 + 1 by omega]
      simpa using this
theorem flat2_one (l : List Pl) : ∀ u ∈ flat2 l, u.oneCell' = true := by
  intro u hu
  unfold flat2 at hu
  obtain ⟨e, _, he⟩ := List.mem_flatMap.1 hu
  simp only [List.mem_cons, List.not_mem_nil, or_false] at he
  rcases he with rfl | rfl <;> rfl
/-- a slice of places -/
def PlAt (w : World) (v : Value) (l : List Pl) : Prop :=
  ∃ A c, v = .slice A l.length c ∧ l.length ≤ c ∧ ∀ (k : Nat) e, l[k]? = some e → ∃ ad, A = some ad ∧ w.cell? (ad.add (k * 2)) = some (.int .i64 e.1) ∧ w.cell? ⟨(ad.add (k * 2)).block, (ad.add (k * 2)).off + 1, none⟩ = some (.int .i64 e.2)
theorem PlAt.below {w w' : World} {v : Value} {l : List Pl} (h : PlAt w v l) (hb : Below w.heap.size w w') : PlAt w' v l := by
  obtain ⟨A, c, hv, hc, h⟩ := h
  refine ⟨A, c, hv, hc, fun k e hk => ?_⟩
  obtain ⟨ad, hA, h1, h2⟩ := h k e hk
  exact ⟨ad, hA, (hb.cell (cell_lt h1)).trans h1, (hb.cell (cell_lt h2)).trans h2⟩
theorem pl_nil (w : World) : PlAt w (.slice none 0 0) [] := ⟨none, 0, rfl, Nat.le_refl _, fun k p h => by simp at h⟩
theorem pl_of_own {w : World} {base : Nat} {v : Value} {l : List Pl} (h : w.ownsRow base 73 2 v l.length (flat2 l)) : PlAt w v l := by
  rcases h.2 with ⟨rfl, h0⟩ | ⟨g, cap, cur, rfl, _, hb, hnc, _, hsz, hcur⟩
  · obtain rfl : l = [] := List.eq_nil_of_length_eq_zero h0
    exact pl_nil w
  · refine ⟨_, _, rfl, hnc, fun k p hk => ⟨_, rfl, ?_⟩⟩
    obtain ⟨e1, e2⟩ := flat2_at hk
    have hat : ∀ j u, (flat2 l)[j]? = some u → cur[j]? = some u := fun j u hu => by
      have hj : j < l.length * 2 := by have := (List.getElem?_eq_some_iff.1 hu).1; rw [flat2_len] at this; exact this
      rw [← hcur, List.getElem?_take_of_lt hj] at hu
      simpa using hu
    rw [add_off]
    refine ⟨?_, ?_⟩
    · simp [World.cell?, hb, hat _ _ e1]
    · simp [World.cell?, hb, hat _ _ e2]
theorem own_lt {w : World} {v : Value} {n base : Nat} {xs : List Value} (h : w.ownsRow base 73 2 v n xs) {g : Nat} (hg : v.ownBlock = some g) : g < w.heap.size ∧ ∃ cur, w.heap[g]? = some (.cells cur 73 (0, 0)) := by
  rcases h.2 with ⟨rfl, _⟩ | ⟨g', cap, cur, rfl, _, hb, _⟩
  · cases hg
  · injection hg with hg; subst hg; exact ⟨(Array.getElem?_eq_some_iff.1 hb).1, cur, hb⟩
theorem own_kept {w w' : World} {v : Value} {n base : Nat} {xs : List Value} (h : w.ownsRow base 73 2 v n xs) (hk : ∀ g, v.ownBlock = some g → w'.heap[g]? = w.heap[g]?) : w'.ownsRow base 73 2 v n xs := by
  refine ⟨h.1, ?_⟩
  rcases h.2 with h5 | ⟨g, cap, cur, hv, h0, hg, h6⟩
  · exact .inl h5
  · exact .inr ⟨g, cap, cur, hv, h0, (hk g (by rw [hv]; rfl)).trans hg, h6⟩
theorem own_base {w : World} {v : Value} {n base : Nat} {xs : List Value} (h : w.ownsRow base 73 2 v n xs) : w.ownsRow 0 73 2 v n xs := by
  refine ⟨h.1, ?_⟩
  rcases h.2 with h5 | ⟨g, cap, cur, hv, h0, h6⟩
  · exact .inl h5
  · exact .inr ⟨g, cap, cur, hv, Nat.zero_le _, h6⟩

/-! ### a board -/
def brdC (B : Brd) (c o d : Nat) (v : Value) : Obj := .cells #[.int .i64 B.rows, .int .i64 B.cols, .map (some c), .map (some o), .map (some d), v] 69 (0, 0)
def conM (B : Brd) : Pl → Option Value := fun p => if B.con p then some (.bool true) else none
def ownM (B : Brd) : Pl → Option Value := fun p => (ownF B.l p).map rcV
def decM (B : Brd) : Pl → Option Value := fun p => (decF B.l p).map dcV
def ancs (B : Brd) : List Pl := B.l.map fun d => anc d.r
/-- the blocks of a board -/
structure BrdW (w : World) (s : Nat) (S : Nat → Prop) (m : Nat) (B : Brd) (c o d : Nat) (v : Value) : Prop where
  blk : w.heap[s]? = some (brdC B c o d v)
  mc : MapIs w c m (conM B)
  mo : MapIs w o (m * 4096) (ownM B)
  md : MapIs w d m (decM B)
  row : w.ownsRow 0 73 2 v B.l.length (flat2 (ancs B))
  ins : S s ∧ S c ∧ S o ∧ S d ∧ ∀ g, v.ownBlock = some g → S g
  ne : c ≠ o ∧ c ≠ d ∧ o ≠ d
  len : B.l.length ≤ m
/-- a board at s, whose blocks are among S; m: a bound -/
def BrdAt (w : World) (s : Nat) (S : Nat → Prop) (m : Nat) (B : Brd) : Prop := Inv B ∧ ∃ c o d v, BrdW w s S m B c o d v
theorem BrdW.kept {w w' : World} {s : Nat} {S T : Nat → Prop} {m : Nat} {B : Brd} {c o d : Nat} {v : Value} (h : BrdW w s S m B c o d v) (ho : Only T w w') (hd : ∀ b, S b → b < w.heap.size → ¬ T b) : BrdW w' s S m B c o d v := by
  obtain ⟨i1, i2, i3, i4, i5⟩ := h.ins
  have hs : s < w.heap.size := (Array.getElem?_eq_some_iff.1 h.blk).1
  exact ⟨(ho.block s hs (hd s i1 hs)).trans h.blk, h.mc.kept (ho.block c h.mc.lt (hd c i2 h.mc.lt)), h.mo.kept (ho.block o h.mo.lt (hd o i3 h.mo.lt)), h.md.kept (ho.block d h.md.lt (hd d i4 h.md.lt)),
    own_kept h.row (fun g hg => ho.block g (own_lt h.row hg).1 (hd g (i5 g hg) (own_lt h.row hg).1)), h.ins, h.ne, h.len⟩
theorem BrdW.later {w w' : World} {s : Nat} {S : Nat → Prop} {m : Nat} {B : Brd} {c o d : Nat} {v : Value} (h : BrdW w s S m B c o d v) (hb : Below w.heap.size w w') : BrdW w' s S m B c o d v := h.kept (Only.of_below hb) (fun b _ h1 h2 => by omega)
theorem BrdAt.kept {w w' : World} {s : Nat} {S T : Nat → Prop} {m : Nat} {B : Brd} (h : BrdAt w s S m B) (ho : Only T w w') (hd : ∀ b, S b → b < w.heap.size → ¬ T b) : BrdAt w' s S m B := by
  obtain ⟨hi, c, o, d, v, h⟩ := h
  exact ⟨hi, c, o, d, v, h.kept ho hd⟩
theorem BrdAt.later {w w' : World} {s : Nat} {S : Nat → Prop} {m : Nat} {B : Brd} (h : BrdAt w s S m B) (hb : Below w.heap.size w w') : BrdAt w' s S m B := h.kept (Only.of_below hb) (fun b _ h1 h2 => by omega)
theorem BrdAt.mono {w : World} {s : Nat} {S : Nat → Prop} {m m' : Nat} {B : Brd} (h : BrdAt w s S m B) (hm : m ≤ m') : BrdAt w s S m' B := by
  obtain ⟨hi, c, o, d, v, h⟩ := h
  exact ⟨hi, c, o, d, v, h.blk, h.mc.mono hm, h.mo.mono (by omega), h.md.mono hm, h.row, h.ins, h.ne, Nat.le_trans h.len hm⟩
theorem BrdAt.wider {w : World} {s : Nat} {S T : Nat → Prop} {m : Nat} {B : Brd} (h : BrdAt w s S m B) (hS : ∀ b, S b → b < w.heap.size → T b) : BrdAt w s T m B := by
  obtain ⟨hi, c, o, d, v, h⟩ := h
  obtain ⟨i1, i2, i3, i4, i5⟩ := h.ins
  exact ⟨hi, c, o, d, v, h.blk, h.mc, h.mo, h.md, h.row, ⟨hS s i1 (Array.getElem?_eq_some_iff.1 h.blk).1, hS c i2 h.mc.lt, hS o i3 h.mo.lt, hS d i4 h.md.lt, fun g hg => hS g (i5 g hg) (own_lt h.row hg).1⟩, h.ne, h.len⟩
/-- the cells of a board -/
theorem BrdW.cells {w : World} {s : Nat} {S : Nat → Prop} {m : Nat} {B : Brd} {c o d : Nat} {v : Value} (h : BrdW w s S m B c o d v) :
    w.cell? ⟨s, 0, none⟩ = some (.int .i64 B.rows) ∧ w.cell? ⟨s, 1, none⟩ = some (.int .i64 B.cols) ∧ w.cell? ⟨s, 2, none⟩ = some (.map (some c)) ∧ w.cell? ⟨s, 3, none⟩ = some (.map (some o)) ∧ w.cell? ⟨s, 4, none⟩ = some (.map (some d)) ∧ w.cell? ⟨s, 5, none⟩ = some v ∧ ∀ i, w.frozen? ⟨s, i, none⟩ = false := by
  have hb := h.blk
  unfold brdC at hb
  refine ⟨?_, ?_, ?_, ?_, ?_, ?_, fun i => ?_⟩ <;> simp [World.cell?, World.frozen?, hb]
end Go.Proofs.Ytdeneogbnmedkaa
