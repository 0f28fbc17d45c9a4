/- Decided, Blocker. -/
import Derived.Test.YtdeneogbnmedkaaD
namespace Go.Proofs.Ytdeneogbnmedkaa
open Go.RowKit Go.Maps

def dcF (B : Brd) (p : Pl) : Dc := (decF B.l p).getD ⟨(0, 0, 0, 0), false, (0, 0), false⟩
def decA (B : Brd) (p : Pl) : Value := .tuple #[rcV (dcF B p).r, .bool (dcF B p).st, .bool (decF B.l p).isSome]
def barA (B : Brd) (p : Pl) : Value := .tuple #[.int .i64 (dcF B p).bl.1, .int .i64 (dcF B p).bl.2, .bool (dcF B p).hb]
theorem decM_get (B : Brd) (p : Pl) : (decM B p).getD dc0 = dcV (dcF B p) := by
  unfold decM dcF
  cases h : decF B.l p <;> rfl
theorem decM_some (B : Brd) (p : Pl) : (decM B p).isSome = (decF B.l p).isSome := by unfold decM; simp
theorem box8 {w : World} {g t : Nat} {a b c d e f i j : Value} (h : w.heap[g]? = some (.cells #[a, b, c, d, e, f, i, j] t (0, 0))) :
    (w.cell? ⟨g, 0, none⟩ = some a ∧ w.cell? ⟨g, 1, none⟩ = some b ∧ w.cell? ⟨g, 2, none⟩ = some c ∧ w.cell? ⟨g, 3, none⟩ = some d) ∧ w.cell? ⟨g, 4, none⟩ = some e ∧ w.cell? ⟨g, 5, none⟩ = some f ∧ w.cell? ⟨g, 6, none⟩ = some i ∧ w.cell? ⟨g, 7, none⟩ = some j ∧ ∀ i, w.frozen? ⟨g, i, none⟩ = false := by
  refine ⟨⟨?_, ?_, ?_, ?_⟩, ?_, ?_, ?_, ?_, fun i => ?_⟩ <;> simp [World.cell?, World.frozen?, h]

set_option maxHeartbeats 2000000 in
theorem blocker_any {w : World} {s : Nat} {S : Nat → Prop} {m : Nat} {B : Brd} (row col : Int) (hp : Wf (row, col)) (h : BrdAt w s S m B) :
    Calls Try.prog 21 #[.pointer (some ⟨s, 0, none⟩), .int .i64 row, .int .i64 col] w fun e w' => e = .returned (barA B (row, col)) ∧ Below w.heap.size w w' := by
  obtain ⟨_, mc, mo, md, v, h⟩ := h
  obtain ⟨D, hD⟩ : ∃ D, dcF B (row, col) = D := ⟨_, rfl⟩
  obtain ⟨⟨a, b, c, d⟩, st, ⟨p, q⟩, hb⟩ := D
  have HA := Lib.hid (show barA B (row, col) = .tuple #[.int .i64 p, .int .i64 q, .bool hb] by unfold barA; rw [hD])
  have c4 := h.cells.2.2.2.2.1
  have hlk := h.md.look Try.underlying66 (z := dc0) (Try.zeroValue78 _) hp
  rw [decM_get, hD] at hlk
  unfold dcV at hlk
  simp only at hlk
  clear h hD hp
  go_enter Try.func21, Try.ntmps21
  go_wp2_with fail
  obtain ⟨W0, hW0⟩ : ∃ W0, W0 = w.alloc (.cells #[.int .i64 a, .int .i64 b, .int .i64 c, .int .i64 d, .bool st, .int .i64 p, .int .i64 q, .bool hb] 78) := ⟨_, rfl⟩
  have hz1 : W0.heap[w.heap.size]? = some (.cells #[.int .i64 a, .int .i64 b, .int .i64 c, .int .i64 d, .bool st, .int .i64 p, .int .i64 q, .bool hb] 78 (0, 0)) := by rw [hW0]; exact World.alloc_heap_new w _
  have HB : Hid (Below w.heap.size w W0) := Lib.hid (by rw [hW0]; exact (Below.refl _ w).alloc (Nat.le_refl _) _)
  rw [← hW0]
  obtain ⟨_, _, e5, e6, e7, _⟩ := box8 hz1
  clear hW0 hz1 c4 hlk
  go_quiet (fail)
  go_wp2_with fail
  rw [HA.out]
  exact bodyPost_ret (v := .tuple #[.int .i64 p, .int .i64 q, .bool hb]) (by simp [results, Try.f21, go_sem]) rfl ⟨rfl, HB.out.trans (show Below _ W0 (W0.drewN _) from ⟨rfl, rfl, rfl, Nat.le_refl _, fun _ _ => rfl⟩)⟩

set_option maxHeartbeats 2000000 in
theorem decided_any {w : World} {s : Nat} {S : Nat → Prop} {m : Nat} {B : Brd} (row col : Int) (hp : Wf (row, col)) (h : BrdAt w s S m B) :
    Calls Try.prog 29 #[.pointer (some ⟨s, 0, none⟩), .int .i64 row, .int .i64 col] w fun e w' => e = .returned (decA B (row, col)) ∧ Below w.heap.size w w' := by
  obtain ⟨_, mc, mo, md, v, h⟩ := h
  obtain ⟨D, hD⟩ : ∃ D, dcF B (row, col) = D := ⟨_, rfl⟩
  obtain ⟨ok, hok⟩ : ∃ ok, (decF B.l (row, col)).isSome = ok := ⟨_, rfl⟩
  obtain ⟨⟨a, b, c, d⟩, st, ⟨p, q⟩, hb⟩ := D
  have HA := Lib.hid (show decA B (row, col) = .tuple #[.agg #[.int .i64 a, .int .i64 b, .int .i64 c, .int .i64 d], .bool st, .bool ok] by unfold decA; rw [hD, hok]; rfl)
  have c4 := (h.later (((Below.refl _ w).alloc (Nat.le_refl _) (.cells #[.int .i64 0, .int .i64 0, .int .i64 0, .int .i64 0] 47)))).cells.2.2.2.2.1
  have hlk := (h.md.kept (w' := w.alloc (.cells #[.int .i64 0, .int .i64 0, .int .i64 0, .int .i64 0] 47)) (Below.heap_alloc _ _ _ h.md.lt)).look_ok Try.underlying66 (z := dc0) (Try.zeroValue78 _) hp
  rw [decM_get, decM_some, hD, hok] at hlk
  unfold dcV at hlk
  simp only at hlk
  clear h hD hok hp
  go_enter Try.func29, Try.ntmps29
  go_wp2_with fail
  obtain ⟨W0, hW0⟩ : ∃ W0, W0 = ((w.alloc (.cells #[.int .i64 0, .int .i64 0, .int .i64 0, .int .i64 0] 47)).alloc (.cells #[.int .i64 a, .int .i64 b, .int .i64 c, .int .i64 d, .bool st, .int .i64 p, .int .i64 q, .bool hb] 78)) := ⟨_, rfl⟩
  have hz0 : W0.heap[w.heap.size]? = some (.cells #[.int .i64 0, .int .i64 0, .int .i64 0, .int .i64 0] 47 (0, 0)) := by rw [hW0, Below.heap_alloc _ _ _ (by simp)]; exact World.alloc_heap_new w _
  have hz1 : W0.heap[w.heap.size + 1]? = some (.cells #[.int .i64 a, .int .i64 b, .int .i64 c, .int .i64 d, .bool st, .int .i64 p, .int .i64 q, .bool hb] 78 (0, 0)) := by rw [hW0]; simpa using World.alloc_heap_new (w.alloc (.cells #[.int .i64 0, .int .i64 0, .int .i64 0, .int .i64 0] 47)) (.cells #[.int .i64 a, .int .i64 b, .int .i64 c, .int .i64 d, .bool st, .int .i64 p, .int .i64 q, .bool hb] 78)
  have HB : Hid (Below w.heap.size w W0) := Lib.hid (by rw [hW0]; exact (((Below.refl _ w).alloc (Nat.le_refl _) _).alloc (by simp) _))
  rw [← hW0]
  have HF : Hid (∀ W, But w.heap.size W0 W → W.cell? ⟨w.heap.size + 1, 0, none⟩ = some (.int .i64 a) ∧ W.cell? ⟨w.heap.size + 1, 1, none⟩ = some (.int .i64 b) ∧ W.cell? ⟨w.heap.size + 1, 2, none⟩ = some (.int .i64 c) ∧ W.cell? ⟨w.heap.size + 1, 3, none⟩ = some (.int .i64 d) ∧ W.cell? ⟨w.heap.size + 1, 4, none⟩ = some (.bool st)) := Lib.hid fun W hW => by
    obtain ⟨⟨e0, e1, e2, e3⟩, e4, _⟩ := box8 hz1
    exact ⟨hW.cell e0 (by simp), hW.cell e1 (by simp), hW.cell e2 (by simp), hW.cell e3 (by simp), hW.cell e4 (by simp)⟩
  have HZ := Lib.hid hz0
  obtain ⟨t0, t1, t2, t3, t4⟩ := box4 hz0
  have f0 := t4 0
  have f1 := t4 1
  have f2 := t4 2
  have f3 := t4 3
  clear hW0 hz0 hz1 c4 hlk t4
  refine wp_region_held_drew (S := But w.heap.size W0) (by kernel_rfl) (But.drew _ _) (fun hS => ?_)
  refine wpAnyH_take (i := 0) (v := ?v0) rfl (by kernel_rfl) (by kernel_rfl) (by kernel_rfl) (fun _ _ _ h => h) (Or.inl ⟨by kernel_rfl, ?h0⟩) (But.drew _ _) ?_
  case h0 => (rintro w2 hb; obtain ⟨e0, e1, e2, e3, e4⟩ := HF.out w2 hb; go_simp; try with_reducible rfl)
  refine wpAnyH_take (i := 1) (v := ?v1) rfl (by kernel_rfl) (by kernel_rfl) (by kernel_rfl) (fun _ _ _ h => h) (Or.inl ⟨by kernel_rfl, ?h1⟩) (But.drew _ _) ?_
  case h1 => (rintro w2 hb; obtain ⟨e0, e1, e2, e3, e4⟩ := HF.out w2 hb; go_simp; try with_reducible rfl)
  refine wpAnyH_take (i := 2) (v := ?v2) rfl (by kernel_rfl) (by kernel_rfl) (by kernel_rfl) (fun _ _ _ h => h) (Or.inl ⟨by kernel_rfl, ?h2⟩) (But.drew _ _) ?_
  case h2 => (rintro w2 hb; obtain ⟨e0, e1, e2, e3, e4⟩ := HF.out w2 hb; go_simp; try with_reducible rfl)
  refine wpAnyH_take (i := 3) (v := ?v3) rfl (by kernel_rfl) (by kernel_rfl) (by kernel_rfl) (fun _ _ _ h => h) (Or.inl ⟨by kernel_rfl, ?h3⟩) (But.drew _ _) ?_
  case h3 => (rintro w2 hb; obtain ⟨e0, e1, e2, e3, e4⟩ := HF.out w2 hb; go_simp; try with_reducible rfl)
  refine wpAnyH_take (i := 4) (v := ?v4) rfl (by kernel_rfl) (by kernel_rfl) (by kernel_rfl) (fun _ _ _ h => h) (Or.inl ⟨by kernel_rfl, ?h4⟩) (But.drew _ _) ?_
  case h4 => (rintro w2 hb; obtain ⟨e0, e1, e2, e3, e4⟩ := HF.out w2 hb; go_simp; try with_reducible rfl)
  refine wpAnyH_ready (rs := [5]) (by kernel_rfl) (by simp) (AllReadyH.cons rfl (fun K hK => ?_) AllReadyH.nil)
  go_simp
  go_wp2_with (fail)
  refine hK.out _ _ (((((But.drew _ _).set 0 _).set 1 _).set 2 _).set 3 _) (fun hS5 => ?_); clear hK K
  refine wpAnyH_take (i := 6) (v := ?v6) rfl (by kernel_rfl) (by kernel_rfl) (by kernel_rfl) (fun _ _ _ h => h) (Or.inl ⟨by kernel_rfl, ?h6⟩) hS5 ?_
  case h6 => (rintro w2 hb; obtain ⟨e0, e1, e2, e3, e4⟩ := HF.out w2 hb; go_simp; try with_reducible rfl)
  refine wpAnyH_take (i := 7) (v := ?v7) rfl (by kernel_rfl) (by kernel_rfl) (by kernel_rfl) (fun _ _ _ h => h) (Or.inl ⟨by kernel_rfl, ?h7⟩) hS5 ?_
  case h7 => (rintro w2 hb; obtain ⟨e0, e1, e2, e3, e4⟩ := HF.out w2 hb; go_simp; try with_reducible rfl)
  refine wpAnyH_done (by kernel_rfl) ?_ _
  go_simp
  go_wp2_with fail
  have hz2 := set4 (.int .i64 a) (.int .i64 b) (.int .i64 c) (.int .i64 d) HZ.out
  obtain ⟨r0, r1, r2, r3, _⟩ := box4 hz2
  rw [HA.out]
  exact bodyPost_ret (v := .tuple #[.agg #[.int .i64 a, .int .i64 b, .int .i64 c, .int .i64 d], .bool st, .bool ok]) (by simp [results, Try.f29, go_sem, r0, r1, r2, r3]) rfl ⟨rfl, ((((HB.out.setCell (p := ⟨w.heap.size, 0, none⟩) (Nat.le_refl _) _).setCell (p := ⟨w.heap.size, 1, none⟩) (Nat.le_refl _) _).setCell (p := ⟨w.heap.size, 2, none⟩) (Nat.le_refl _) _).setCell (p := ⟨w.heap.size, 3, none⟩) (Nat.le_refl _) _).drew⟩
end Go.Proofs.Ytdeneogbnmedkaa
