/- Owner, Blocker, Decided. -/
import Derived.Test.YtdeneogbnmedkaaC
import Derived.Deep.QuietTactic
import Derived.BigQuiet
import Derived.Deep.RegionHeld3
namespace Go.Proofs.Ytdeneogbnmedkaa
open Go.RowKit Go.Maps

theorem rc_eq (a b c d e f g h : Int) (w : World) : (binOp .neq 47 (.agg #[.int .i64 a, .int .i64 b, .int .i64 c, .int .i64 d]) (.agg #[.int .i64 e, .int .i64 f, .int .i64 g, .int .i64 h])).run Try.prog w = .ok (.bool (!((a, b, c, d) == (e, f, g, h)))) w := by
  by_cases h1 : a = e
  · by_cases h2 : b = f
    · by_cases h3 : c = g
      · by_cases h4 : d = h
        · subst h1 h2 h3 h4
          have : ((a, b, c, d) == (a, b, c, d)) = true := by simp
          rw [this]
          go_simp
        · subst h1 h2 h3
          have h5 : (d == h) = false := by simpa using h4
          have : ((a, b, c, d) == (a, b, c, h)) = false := by simpa using h4
          rw [this]
          go_simp
      · subst h1 h2
        have h5 : (c == g) = false := by simpa using h3
        have : ((a, b, c, d) == (a, b, g, h)) = false := by simp [h3]
        rw [this]
        go_simp
    · subst h1
      have h5 : (b == f) = false := by simpa using h2
      have : ((a, b, c, d) == (a, f, g, h)) = false := by simp [h2]
      rw [this]
      go_simp
  · have h5 : (a == e) = false := by simpa using h1
    have : ((a, b, c, d) == (e, f, g, h)) = false := by simp [h1]
    rw [this]
    go_simp
theorem wf_of {x y : Int} (hx : -9223372036854775808 ≤ x ∧ x ≤ 9223372036854775807) (hy : -9223372036854775808 ≤ y ∧ y ≤ 9223372036854775807) : Wf (x, y) := by
  constructor <;> simp [Lit.wf, show IntKind.i64.min = -9223372036854775808 from rfl, show IntKind.i64.max = 9223372036854775807 from rfl] <;> omega
theorem ownM_get (B : Brd) (p : Pl) : ∃ a b c d, (ownM B p).getD rc0 = .agg #[.int .i64 a, .int .i64 b, .int .i64 c, .int .i64 d] ∧ (ownF B.l p).getD (0, 0, 0, 0) = (a, b, c, d) := by
  unfold ownM
  cases h : ownF B.l p with
  | none => exact ⟨0, 0, 0, 0, rfl, rfl⟩
  | some r => obtain ⟨a, b, c, d⟩ := r; exact ⟨a, b, c, d, rfl, rfl⟩
theorem own_ne {B : Brd} {p : Pl} {r : R4} (hr : ownF B.l p = some r) : r ≠ (0, 0, 0, 0) := by
  obtain ⟨d, hd, _, hp, rfl⟩ := ownF_some hr
  intro he
  have := (inR_iff _ _).1 hp
  rw [he] at this
  simp only at this
  omega
theorem own_is {B : Brd} (p : Pl) {a b c d : Int} (hq : (ownF B.l p).getD (0, 0, 0, 0) = (a, b, c, d)) : (!((a, b, c, d) == ((0 : Int), (0 : Int), (0 : Int), (0 : Int)))) = (ownF B.l p).isSome := by
  rw [← hq]
  cases hr : ownF B.l p with
  | none => rfl
  | some r =>
    have := own_ne hr
    simpa using this

/-- but for block R nothing has turned -/
def But (R : Nat) (w W : World) : Prop := W.heap.size = w.heap.size ∧ ∀ k, k ≠ R → W.heap[k]? = w.heap[k]?
theorem But.refl (R : Nat) (w : World) : But R w w := ⟨rfl, fun _ _ => rfl⟩
theorem But.drew (R : Nat) (w : World) : But R w w.drew := ⟨rfl, fun _ _ => rfl⟩
theorem But.set {R : Nat} {w W : World} (h : But R w W) (i : Nat) (v : Value) : But R w (W.setCell ⟨R, i, none⟩ v) := ⟨by rw [← h.1]; simp [World.setCell], fun k hk => (Below.heap_setCell _ _ _ _ hk).trans (h.2 k hk)⟩
theorem But.cell {R : Nat} {w W : World} (h : But R w W) {a : Addr} {v : Value} (ha : w.cell? a = some v) (hne : a.block ≠ R) : W.cell? a = some v := (World.cell?_of_block (h.2 _ hne)).trans ha
theorem box4 {w : World} {g t : Nat} {a b c d : Value} (h : w.heap[g]? = some (.cells #[a, b, c, d] t (0, 0))) : w.cell? ⟨g, 0, none⟩ = some a ∧ w.cell? ⟨g, 1, none⟩ = some b ∧ w.cell? ⟨g, 2, none⟩ = some c ∧ w.cell? ⟨g, 3, none⟩ = some d ∧ ∀ i, w.frozen? ⟨g, i, none⟩ = false := by
  refine ⟨?_, ?_, ?_, ?_, fun i => ?_⟩ <;> simp [World.cell?, World.frozen?, h]
theorem set4 {w : World} {g t : Nat} {a b c d : Value} (a' b' c' d' : Value) (h : w.heap[g]? = some (.cells #[a, b, c, d] t (0, 0))) :
    ((((w.setCell ⟨g, 0, none⟩ a').setCell ⟨g, 1, none⟩ b').setCell ⟨g, 2, none⟩ c').setCell ⟨g, 3, none⟩ d').heap[g]? = some (.cells #[a', b', c', d'] t (0, 0)) := by
  simp [World.setCell, Array.getElem?_modify, h]

def ownA (B : Brd) (p : Pl) : Value := .tuple #[rcV ((ownF B.l p).getD (0, 0, 0, 0)), .bool (ownF B.l p).isSome]
set_option maxHeartbeats 2000000 in
theorem owner_any {w : World} {s : Nat} {S : Nat → Prop} {m : Nat} {B : Brd} (row col : Int) (hp : Wf (row, col)) (h : BrdAt w s S m B) :
    Calls Try.prog 20 #[.pointer (some ⟨s, 0, none⟩), .int .i64 row, .int .i64 col] w fun e w' => e = .returned (ownA B (row, col)) ∧ Below w.heap.size w w' := by
  obtain ⟨_, mc, mo, md, v, h⟩ := h
  obtain ⟨a, b, c, d, h1, h2⟩ := ownM_get B (row, col)
  have h3 := own_is (row, col) h2
  have HA := Lib.hid (show ownA B (row, col) = .tuple #[.agg #[.int .i64 a, .int .i64 b, .int .i64 c, .int .i64 d], .bool (!((a, b, c, d) == ((0 : Int), (0 : Int), (0 : Int), (0 : Int))))] by unfold ownA; rw [h3, h2]; rfl)
  obtain ⟨z, hz⟩ : ∃ z, (!((a, b, c, d) == ((0 : Int), (0 : Int), (0 : Int), (0 : Int)))) = z := ⟨_, rfl⟩
  have hne : ∀ w, (binOp .neq 47 (.agg #[.int .i64 a, .int .i64 b, .int .i64 c, .int .i64 d]) (.agg #[.int .i64 0, .int .i64 0, .int .i64 0, .int .i64 0])).run Try.prog w = .ok (.bool z) w := fun w => by rw [← hz]; exact rc_eq a b c d 0 0 0 0 w
  rw [hz] at HA
  have c3 := (h.later (((Below.refl _ w).alloc (Nat.le_refl _) (.cells #[.int .i64 0, .int .i64 0, .int .i64 0, .int .i64 0] 47)))).cells.2.2.2.1
  have hlk := (h.mo.kept (w' := w.alloc (.cells #[.int .i64 0, .int .i64 0, .int .i64 0, .int .i64 0] 47)) (Below.heap_alloc _ _ _ h.mo.lt)).look Try.underlying65 (z := rc0) (Try.zeroValue47 _) hp
  rw [h1] at hlk
  simp only at hlk
  clear h h1 h2 h3 hz
  go_enter Try.func20, Try.ntmps20
  go_wp2_with fail
  obtain ⟨W0, hW0⟩ : ∃ W0, W0 = ((w.alloc (.cells #[.int .i64 0, .int .i64 0, .int .i64 0, .int .i64 0] 47)).alloc (.cells #[.int .i64 a, .int .i64 b, .int .i64 c, .int .i64 d] 47)) := ⟨_, rfl⟩
  have hz0 : W0.heap[w.heap.size]? = some (.cells #[.int .i64 0, .int .i64 0, .int .i64 0, .int .i64 0] 47 (0, 0)) := by rw [hW0, Below.heap_alloc _ _ _ (by simp)]; exact World.alloc_heap_new w _
  have hz1 : W0.heap[w.heap.size + 1]? = some (.cells #[.int .i64 a, .int .i64 b, .int .i64 c, .int .i64 d] 47 (0, 0)) := by rw [hW0]; simpa using World.alloc_heap_new (w.alloc (.cells #[.int .i64 0, .int .i64 0, .int .i64 0, .int .i64 0] 47)) (.cells #[.int .i64 a, .int .i64 b, .int .i64 c, .int .i64 d] 47)
  have hB : Below w.heap.size w W0 := by rw [hW0]; exact (((Below.refl _ w).alloc (Nat.le_refl _) _).alloc (by simp) _)
  rw [← hW0]
  have HF : Hid (∀ W, But w.heap.size W0 W → W.cell? ⟨w.heap.size + 1, 0, none⟩ = some (.int .i64 a) ∧ W.cell? ⟨w.heap.size + 1, 1, none⟩ = some (.int .i64 b) ∧ W.cell? ⟨w.heap.size + 1, 2, none⟩ = some (.int .i64 c) ∧ W.cell? ⟨w.heap.size + 1, 3, none⟩ = some (.int .i64 d)) := Lib.hid fun W hW => by
    obtain ⟨e0, e1, e2, e3, _⟩ := box4 hz1
    exact ⟨hW.cell e0 (by simp), hW.cell e1 (by simp), hW.cell e2 (by simp), hW.cell e3 (by simp)⟩
  have HZ := Lib.hid hz0
  have HB := Lib.hid hB
  obtain ⟨t0, t1, t2, t3, t4⟩ := box4 hz0
  have f0 := t4 0
  have f1 := t4 1
  have f2 := t4 2
  have f3 := t4 3
  clear hW0 hz0 hz1 hB c3 hlk hp t4
  refine wp_region_held_drew (S := But w.heap.size W0) (by kernel_rfl) (But.drew _ _) (fun hS => ?_)
  refine wpAnyH_take (i := 0) (v := ?v0) rfl (by kernel_rfl) (by kernel_rfl) (by kernel_rfl) (fun _ _ _ h => h) (Or.inl ⟨by kernel_rfl, ?h0⟩) (But.drew _ _) ?_
  case h0 => (rintro w2 hb; obtain ⟨e0, e1, e2, e3⟩ := HF.out w2 hb; go_simp; try with_reducible rfl)
  refine wpAnyH_take (i := 1) (v := ?v1) rfl (by kernel_rfl) (by kernel_rfl) (by kernel_rfl) (fun _ _ _ h => h) (Or.inl ⟨by kernel_rfl, ?h1⟩) (But.drew _ _) ?_
  case h1 => (rintro w2 hb; obtain ⟨e0, e1, e2, e3⟩ := HF.out w2 hb; go_simp; try with_reducible rfl)
  refine wpAnyH_take (i := 2) (v := ?v2) rfl (by kernel_rfl) (by kernel_rfl) (by kernel_rfl) (fun _ _ _ h => h) (Or.inl ⟨by kernel_rfl, ?h2⟩) (But.drew _ _) ?_
  case h2 => (rintro w2 hb; obtain ⟨e0, e1, e2, e3⟩ := HF.out w2 hb; go_simp; try with_reducible rfl)
  refine wpAnyH_take (i := 3) (v := ?v3) rfl (by kernel_rfl) (by kernel_rfl) (by kernel_rfl) (fun _ _ _ h => h) (Or.inl ⟨by kernel_rfl, ?h3⟩) (But.drew _ _) ?_
  case h3 => (rintro w2 hb; obtain ⟨e0, e1, e2, e3⟩ := HF.out w2 hb; go_simp; try with_reducible rfl)
  refine wpAnyH_ready (rs := [4]) (by kernel_rfl) (by simp) (AllReadyH.cons rfl (fun K hK => ?_) AllReadyH.nil)
  go_simp
  go_wp2_with (fail)
  refine hK.out _ _ (((((But.drew _ _).set 0 _).set 1 _).set 2 _).set 3 _) (fun hS4 => ?_); clear hK K
  refine wpAnyH_take (i := 5) (v := ?v5) rfl (by kernel_rfl) (by kernel_rfl) (by kernel_rfl) (fun _ _ _ h => h) (Or.inl ⟨by kernel_rfl, ?h5⟩) hS4 ?_
  case h5 => (rintro w2 hb; obtain ⟨e0, e1, e2, e3⟩ := HF.out w2 hb; go_simp; try with_reducible rfl)
  refine wpAnyH_done (by kernel_rfl) ?_ _
  go_simp
  go_wp2_with fail
  have hz2 := set4 (.int .i64 a) (.int .i64 b) (.int .i64 c) (.int .i64 d) HZ.out
  obtain ⟨r0, r1, r2, r3, _⟩ := box4 hz2
  rw [HA.out]
  exact bodyPost_ret (v := .tuple #[.agg #[.int .i64 a, .int .i64 b, .int .i64 c, .int .i64 d], .bool z]) (by simp [results, Try.f20, go_sem, r0, r1, r2, r3]) rfl ⟨rfl, ((((HB.out.setCell (p := ⟨w.heap.size, 0, none⟩) (Nat.le_refl _) _).setCell (p := ⟨w.heap.size, 1, none⟩) (Nat.le_refl _) _).setCell (p := ⟨w.heap.size, 2, none⟩) (Nat.le_refl _) _).setCell (p := ⟨w.heap.size, 3, none⟩) (Nat.le_refl _) _).drew⟩
end Go.Proofs.Ytdeneogbnmedkaa
