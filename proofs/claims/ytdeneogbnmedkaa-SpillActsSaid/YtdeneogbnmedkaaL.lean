/- Fill. -/
import Derived.Test.YtdeneogbnmedkaaJ
namespace Go.Proofs.Ytdeneogbnmedkaa
open Go.RowKit Go.Maps Go.Shelf
attribute [local go_sem] Oper.semAt_some

theorem rects_stops (n : Nat) (hn : 1 ≤ n) (Bn s m : Nat) (S Q : Nat → Prop) (B : Brd) (w : World) (hbn : Boxed w Bn 24 (.pointer (some ⟨s, 0, none⟩))) (h : BrdAt w s S m B) (hm : m ≤ 200000) (hQ : Q Bn) (hSQ : ∀ k, S k → k < w.heap.size → Q k) :
    SeqStopsK Fence.wide n Try.prog 32 #[.pointer (some ⟨Bn, 0, none⟩)] encD (Keep Q) (fun xs => xs = B.l) (fun pre => pre <+: B.l) B.l.length w :=
  fun l J Jx W hW hJ _ hY h0 => rects_runs n hn Bn s m S Q B w hbn h hm hQ hSQ l J Jx W hW (fun s X Y h hg => hJ s X Y none h hg (fun r e => by cases e)) (fun pre x W1 hJ1 hp => hY pre x W1 hJ1 (by have := hp.length_le; simp at this; omega)) h0
theorem below_put {B : Nat} {w W : World} (h : Below B w W) (hB : B ≤ W.heap.size) {l : Nat} (hl : B ≤ l) (o : Obj) : Below B w (W.putObj l o) :=
  h.grown (grownBy_putObj' W l o) hB (fun j e => by injection e with e; omega)
theorem conM_put (B : Brd) (p : Pl) (q : Pl) : (if q = p then some (.bool true) else conM B q) = conM (conP B p) q := by
  unfold conM conP
  by_cases h : q = p
  · rw [if_pos h, h]; simp
  · have : (q == p) = false := by simpa using h
    rw [if_neg h]
    simp [this]
/-- what lies behind Fill -/
def FillOut (w : World) (s : Nat) (S : Nat → Prop) (m : Nat) (B : Brd) (p : Pl) (e : Ending) (w' : World) : Prop :=
  e = .returned (.bool (fillR B p)) ∧ BrdAt w' s (fun b => S b ∨ w.heap.size ≤ b) (m + 1) (fillB B p) ∧ Only S w w'
theorem fill_same {w W : World} {s : Nat} {S : Nat → Prop} {m : Nat} {B : Brd} {p : Pl} (h : BrdAt w s S m B) (hf : fillR B p = false) (hW : Below w.heap.size w W) : FillOut w s S m B p (.returned (.bool false)) W := by
  refine ⟨by rw [hf], ?_, (Only.of_below hW).mono (fun b h1 h2 => by omega)⟩
  unfold fillB
  rw [hf]
  exact ((h.later hW).mono (by omega)).wider (fun b hb _ => .inl hb)
theorem fill_done {w W W2 W3 : World} {s : Nat} {S : Nat → Prop} {m : Nat} {B : Brd} {p : Pl} {c o d : Nat} {v : Value} (hi : Inv B) (h : BrdW W s (fun b => S b ∧ b < w.heap.size) m B c o d v) (hf : fillR B p = true) (hW : Below w.heap.size w W) (hg : W.grownBy W2 (some c))
    (hm : MapIs W2 c (m + 1) (fun q => if q = p then some (.bool true) else conM B q)) (h3 : Below w.heap.size W2 W3) : FillOut w s S m B p (.returned (.bool true)) W3 := by
  have h0 := h.g.putC hg hm
  have h4 := h0.kept (Only.of_below h3) (fun b hb _ hc => by have := hb.2; omega)
  have ho : Only S w W3 := (((Only.of_below hW).mono (T := S) (fun b h1 h2 => by omega)).trans (only_grown (S := S) hg h.ins.2.1.1) (fun b hb _ => hb)).trans (Only.of_below h3) (fun b hb hlt => by omega)
  have hfb : fillB B p = conP B p := by unfold fillB; rw [if_pos hf]
  have hinv := inv_fill hi p
  rw [hfb] at hinv
  refine ⟨by rw [hf], ?_, ho⟩
  rw [hfb]
  refine BrdAt.wider (S := fun b => S b ∧ b < w.heap.size) ⟨hinv, c, o, d, v, h4.blk, h4.mc.ext (conM_put B p), h4.mo.mono (by omega), h4.md.mono (by omega), ?_, h4.ins, h4.ne, Nat.le_succ_of_le h.len⟩ (fun b hb _ => .inl hb.1)
  have := h4.row
  simp only [ancs, List.length_map] at this
  exact this

set_option maxRecDepth 100000 in
set_option maxHeartbeats 4000000 in
theorem fill_any {w : World} {s : Nat} {S : Nat → Prop} {m : Nat} {B : Brd} (x y : Int) (hwf : Wf (x, y)) (hm : m ≤ 100000) (h : BrdAt w s S m B) :
    Calls Try.prog 13 #[.pointer (some ⟨s, 0, none⟩), .int .i64 x, .int .i64 y] w (FillOut w s S m B (x, y)) := by
  obtain ⟨R, hR⟩ : ∃ R, FillOut w s S m B (x, y) = R := ⟨_, rfl⟩
  rw [hR]
  have HR := Lib.hid hR
  have hb0 : Below w.heap.size w (w.alloc (.cells #[.bool false] 4)) := (Below.refl _ _).alloc (Nat.le_refl _) _
  have hhas := has_any x y (h.later hb0)
  obtain ⟨z, hz⟩ : ∃ z, hasP B (x, y) = z := ⟨_, rfl⟩
  rw [hz] at hhas
  have HZ := Lib.hid hz
  have HHAS := Lib.hid hhas
  have H := Lib.hid h
  have h' : BrdAt w s (fun b => S b ∧ b < w.heap.size) m B := h.wider (fun b hb hl => ⟨hb, hl⟩)
  have H' := Lib.hid h'
  have HWF := Lib.hid hwf
  clear hR hhas hz h h' hwf
  refine (callsIn_wide (n := 6)).1 ?_
  refine callsIn_of_wp_marks Try.func13 rfl trivial ?_ rfl
  simp only [Try.ntmps13, List.size_toArray, List.length_cons, List.length_nil, Nat.reduceAdd, Nat.reduceSub, Array.replicate_succ, Array.replicate_zero, List.push_toArray, List.append_toArray, List.nil_append, List.cons_append]
  have hfA : Fence.wide.fn 24 := trivial
  have hfB : Fence.wide.fn 16 := trivial
  have hbx0 : Boxed (w.alloc (.cells #[.bool false] 4)) w.heap.size 4 (.bool false) := Boxed.new w 4 (.bool false)
  have hc0 := hbx0.cell
  have hf0 := hbx0.frozen
  have HB0 := Lib.hid hb0
  have HX0 := Lib.hid hbx0
  clear hb0 hbx0
  gi_wp2_with fail
  refine (callsIn_wide.2 HHAS.out).mono ?_
  rintro e w1 ⟨rfl, rfl⟩
  cases z with
  | false =>
    have hf : fillR B (x, y) = false := by unfold fillR; rw [HZ.out]; rfl
    have HF := Lib.hid hf
    clear hf
    gi_wp2
    have hc := HX0.out.cell
    rw [← HR.out]
    exact ⟨.bool false, by simp [results, Try.f13, go_sem, hc], fill_same H.out HF.out HB0.out⟩
  | true =>
    gi_wp2_with fail
    refine (callsIn_wide.2 (rects_call _ _)).mono ?_
    rintro e w2 ⟨rfl, rfl⟩
    gi_wp2_with fail
    obtain ⟨W0, hW0⟩ : ∃ W0, ((w.alloc (Obj.cells #[Value.bool false] 4)).alloc (Obj.cells #[Value.pointer (some { block := s, off := 0 })] 24)) = W0 := ⟨_, rfl⟩
    have hb1 : Below w.heap.size w W0 := by rw [← hW0]; exact HB0.out.alloc (by simp) _
    have hsz : W0.heap.size = w.heap.size + 2 := by rw [← hW0]; simp
    have hx1 : Boxed W0 w.heap.size 4 (.bool false) := by rw [← hW0]; exact HX0.out.alloc _
    have hx2 : Boxed W0 (w.heap.size + 1) 24 (.pointer (some ⟨s, 0, none⟩)) := by
      rw [← hW0]
      have := Boxed.new (w.alloc (Obj.cells #[Value.bool false] 4)) 24 (.pointer (some ⟨s, 0, none⟩))
      simpa using this
    rw [hW0]
    have h4 := H'.out.later hb1
    clear hW0 hc0 hf0 HX0 HB0
    refine wpIn_rangeFunc_ownG (F := Fence.wide) rfl (by omega) (gf := 32) (lb := #[.pointer (some ⟨w.heap.size + 1, 0, none⟩)]) rfl trivial (enters_of Try.func32 (by kernel_rfl) rfl)
      (rects_stops 5 (by omega) (w.heap.size + 1) s m (fun b => S b ∧ b < w.heap.size) (fun k => k < w.heap.size ∨ k = w.heap.size + 1) B W0 hx2 h4 (by omega) (.inr rfl) (fun k hk _ => .inl hk.2)) Keep.trans
      (keep_put (w := W0) (fun k hk => by rcases hk with hk | hk; omega; omega)) (Below.refl _ _) (fun _ => rfl)
      (fun pre W => (pre = [] ∧ Boxed W w.heap.size 4 (.bool false)) ∧ Below w.heap.size w W)
      (fun c pre W => ((c = .ret ∧ pre ≠ []) ∧ Boxed W w.heap.size 4 (.bool false)) ∧ Below w.heap.size w W)
      (OwnFrom.and (OwnFrom.and (ownFrom_pure _ _) (Own.from (boxed_own _ _ (fun _ => .bool false)) _)) (ownFrom_below (Nat.le_refl _) (by omega)))
      (fun c => OwnFrom.and (OwnFrom.and (ownFrom_pure _ _) (Own.from (boxed_own _ _ (fun _ => .bool false)) _)) (ownFrom_below (Nat.le_refl _) (by omega)))
      ⟨⟨rfl, hx1⟩, hb1⟩ ?a₁ ?assign ?body ?done ?stop
    case assign =>
      intro l x W K hK
      gi_wp2
      exact hK
    case body =>
      rintro lp pre x W ⟨⟨rfl, hb⟩, hB⟩ _
      have hc := hb.cell
      have hf := hb.frozen
      have HB := Lib.hid hb
      clear hb hx1 hx2
      gi_wp2
      refine ⟨(KeepsOthers.setCell _ _ _).from _, ⟨⟨rfl, by simp⟩, HB.out.set _⟩, hB.setCell (p := ⟨w.heap.size, 0, none⟩) (Nat.le_refl _) _⟩
    case done =>
      rintro D xs W hD rfl ⟨⟨hnil, hb⟩, hB⟩ hK
      obtain ⟨hi, c, o, d, v, hBW⟩ := H'.out
      have hf : fillR B (x, y) = true := by unfold fillR; rw [HZ.out, hnil]; rfl
      have hBW2 := hBW.later hB
      obtain ⟨W2, hrun, hmc, hgro⟩ := hBW2.mc.put Try.underlying64 (by unfold maxLen; omega) HWF.out (.bool true)
      obtain ⟨_, _, s2, _⟩ := hBW2.cells
      have hx3 : Boxed W2 w.heap.size 4 (.bool false) := box_stay hBW2.mc hgro hb
      have hc := hx3.cell
      have hf2 := hx3.frozen
      have HX3 := Lib.hid hx3
      have hK2 : W2.heap[D]? = some (.deferred (some [])) := (hgro.block D (Array.getElem?_eq_some_iff.1 hK).1 (fun e => by injection e with e; have := hBW.mc.lt; omega)).trans hK
      have hK3 : (W2.setCell ⟨w.heap.size, 0, none⟩ (.bool true)).heap[D]? = some (.deferred (some [])) := (KeepsOthers.setCell W2 _ _).same D _ hK2 rfl
      have hs2 : w.heap.size ≤ W2.heap.size := Nat.le_trans hB.size hgro.size
      have hb3 : Below w.heap.size W2 ((W2.setCell ⟨w.heap.size, 0, none⟩ (.bool true)).putObj D (.deferred none)) :=
        below_put ((Below.refl _ _).setCell (p := ⟨w.heap.size, 0, none⟩) (Nat.le_refl _) _) (by simpa [World.setCell] using hs2) (show w.heap.size ≤ D by omega) _
      have HFIN := Lib.hid (fill_done hi hBW2 hf hB hgro hmc hb3)
      have hK3' := Lib.hid hK3
      simp only at hrun
      clear hb hnil hBW hBW2 hf hmc hgro hx3 hK hK2 hK3 hb3 hx1 hx2 h4
      gi_wp2
      rw [← HR.out]
      refine ⟨by simp, .inl ⟨_, _, rfl, run_takeDeferred hK3'.out, ?_⟩⟩
      have r0 := ((HX3.out.set (.bool true)).kept (grownBy_putObj' _ D (.deferred none)) (fun e => by injection e with e; omega)).cell
      exact ⟨.bool true, by simp [results, Try.f13, go_sem, r0], HFIN.out⟩
    case stop =>
      rintro D c pre W hD hpre ⟨⟨⟨rfl, hne⟩, hb⟩, hB⟩ hK
      have hf : fillR B (x, y) = false := by
        unfold fillR
        have : B.l.isEmpty = false := by
          cases hl : B.l with
          | nil => rw [hl] at hpre; exact (hne (List.prefix_nil.1 hpre)).elim
          | cons => rfl
        rw [this]
        simp
      have HF := Lib.hid hf
      have HB := Lib.hid hb
      have hc := hb.cell
      clear hb hx1 hx2 h4 hf
      gi_wp2
      rw [← HR.out]
      refine ⟨by simp, .inl ⟨_, _, rfl, run_takeDeferred hK, ?_⟩⟩
      have r0 := (HB.out.kept (grownBy_putObj' _ D (.deferred none)) (fun e => by injection e with e; omega)).cell
      exact ⟨.bool false, by simp [results, Try.f13, go_sem, r0], fill_same H.out HF.out (below_put hB (by have := hB.size; exact this) (by omega) _)⟩
end Go.Proofs.Ytdeneogbnmedkaa
