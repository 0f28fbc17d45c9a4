/- The functions of places that build is handed; at, Spread. -/
import Derived.Test.YtfgddhabepllfaaDoorH
namespace Go.Proofs.YtfgddhabepllfaaDoor
open Go.RowKit

def zO : Obj := .cells #[.int .i64 0, .int .i64 0, .int .i64 0, .string ⟨#[]⟩, .bool false, .int .i64 0] 34
def aO (r c : Int) (v : Value) : Obj := .cells #[.int .i64 r, .int .i64 c, v] 25
theorem idx_lt {R C i j : Nat} (hi : i < R) (hj : j < C) (hRC : R * C ≤ 4096) : ∃ p q : Nat, p = i * C ∧ q = i * C + j ∧ q < R * C ∧ IntKind.i64.wrap ((i : Int) * (C : Int)) = (p : Int) ∧ IntKind.i64.wrap ((p : Int) + (j : Int)) = (q : Int) ∧ IntKind.i64.wrap ((i : Int) * (C : Int) + (j : Int)) = (q : Int) := by
  have h1 := place_in hi hj
  refine ⟨_, _, rfl, rfl, h1, ?_, ?_, ?_⟩
  · rw [← Int.natCast_mul, IntKind.wrap_i64]; omega
  · rw [IntKind.wrap_i64]; omega
  · rw [← Int.natCast_mul, IntKind.wrap_i64]; omega
/-- a value of a slice, to be read in a later world -/
theorem ValAt.get {n : Nat} {w w' : World} {v : Value} {l : List Vl} (h : ValAt n w v l) (hb : Below n w w') {k : Nat} (hk : k < l.length) : ∃ g o c, v = .slice (some ⟨g, o, none⟩) l.length c ∧ l.length ≤ c ∧ CellV w' g o k (gt l k) := by
  obtain ⟨A, c, hv, hc, hI⟩ := h
  obtain ⟨g, o, hA, hg, hC⟩ := hI k _ (gt_some hk)
  exact ⟨g, o, c, by rw [hv, hA], hc, hC.below hb hg⟩
set_option maxRecDepth 100000 in
set_option maxHeartbeats 1000000 in
theorem turn1_any {R C i j n b : Nat} {l : List Vl} {v : Value} (hi : i < C) (hj : j < R) (hl : l.length = R * C) (hRC : R * C ≤ 4096) (w : World) (hn : n ≤ w.heap.size) (hbx : w.heap[b]? = some (.cells #[.int .i64 (R : Int), .int .i64 (C : Int), v] 25 (0, 0))) (hv : ValAt n w v l) :
    Calls Tryd.prog 56 #[.int .i64 (i : Int), .int .i64 (j : Int), .pointer (some ⟨b, 0, none⟩)] w fun e w' => e = .returned (vV (gt l (j * C + i))) ∧ Below w.heap.size w w' := by
  obtain ⟨p, q, hp, hq, hlt, hw1, hw2, hw3⟩ := idx_lt hj hi hRC
  have hb0 := Nm.alloc_below w zO
  obtain ⟨g, o, c, rfl, hc, k0, k1, k2, k3, k4, k5⟩ := hv.get (hb0.mono hn) (k := j * C + i) (by omega)
  obtain ⟨c0, c1, c2, _⟩ := box3 ((hb0.block b (Array.getElem?_eq_some_iff.1 hbx).1).trans hbx)
  obtain ⟨⟨xk, xm, xe, xt, xb, xf⟩, hx⟩ : ∃ x, gt l (j * C + i) = x := ⟨_, rfl⟩
  rw [hx] at k0 k1 k2 k3 k4 k5 ⊢
  rw [hl] at c2 hc
  obtain ⟨m, hm⟩ : ∃ m, R * C = m := ⟨_, rfl⟩
  rw [hm] at c2 hc hlt hRC
  rw [← hq] at k0 k1 k2 k3 k4 k5
  have hi1 : (q : Int) < (m : Int) := by omega
  have hi0 : (0 : Int) ≤ (q : Int) := by omega
  have HB := Lib.hid hb0
  clear hl hRC hm hp hq hlt hbx hv hn hb0 hx hc hi hj
  unfold vV
  unfold zO at *
  simp only at k0 k1 k2 k3 k4 k5 ⊢
  go_enter Tryd.func56, Tryd.ntmps56
  go_wp2
  exact bodyPost_ret (v := .agg #[.int .i64 xk, .int .i64 xm, .int .i64 xe, .string xt, .bool xb, .int .i64 xf]) (by simp [results, Tryd.f56, go_sem]) rfl ⟨rfl, Nm.alloc_below _ _⟩

theorem idx_sq {R C : Nat} {l : List Vl} (hl : l.length = R * C) (hRC : R * C ≤ 4096) : IntKind.i64.wrap ((R : Int) * (C : Int)) = (l.length : Int) := by
  rw [← Int.natCast_mul, ← hl, IntKind.wrap_i64]; omega
set_option maxRecDepth 100000 in
set_option maxHeartbeats 1000000 in
theorem at_in {R C i j n : Nat} {l : List Vl} {v : Value} (hi : i < R) (hj : j < C) (hl : l.length = R * C) (hRC : R * C ≤ 4096) (w : World) (hn : n ≤ w.heap.size) (hv : ValAt n w v l) :
    Calls Tryd.prog 54 #[arV R C v, .int .i64 (i : Int), .int .i64 (j : Int)] w fun e w' => e = .returned (.tuple #[vV (gt l (i * C + j)), .bool true]) ∧ Below w.heap.size w w' := by
  obtain ⟨p, q, hp, hq, hlt, hw1, hw2, hw3⟩ := idx_lt hi hj hRC
  have hsq := idx_sq hl hRC
  have hb0 : Below w.heap.size w ((w.alloc (.cells #[.int .i64 (R : Int), .int .i64 (C : Int), v] 25)).alloc zO) := ((Below.refl _ _).alloc (Nat.le_refl _) _).alloc (by simp) _
  obtain ⟨g, o, c, rfl, hc, k0, k1, k2, k3, k4, k5⟩ := hv.get (hb0.mono hn) (k := i * C + j) (by omega)
  obtain ⟨⟨xk, xm, xe, xt, xb, xf⟩, hx⟩ : ∃ x, gt l (i * C + j) = x := ⟨_, rfl⟩
  rw [hx] at k0 k1 k2 k3 k4 k5 ⊢
  rw [← hq] at k0 k1 k2 k3 k4 k5
  obtain ⟨m, hm⟩ : ∃ m, l.length = m := ⟨_, rfl⟩
  rw [hm] at hc hsq hb0 k0 k1 k2 k3 k4 k5 ⊢
  have hi1 : (q : Int) < (m : Int) := by omega
  have hi0 : (0 : Int) ≤ (q : Int) := by omega
  have a1 : ¬ (i : Int) < 0 := by omega
  have a2 : ¬ (j : Int) < 0 := by omega
  have a3 : ¬ (R : Int) ≤ (i : Int) := by omega
  have a4 : ¬ (C : Int) ≤ (j : Int) := by omega
  have HB := Lib.hid hb0
  clear hl hRC hm hp hq hlt hv hn hb0 hx hi hj
  unfold vV arV
  unfold zO at *
  simp only at k0 k1 k2 k3 k4 k5 ⊢
  go_enter Tryd.func54, Tryd.ntmps54
  go_wp2
  exact bodyPost_ret (v := .tuple #[.agg #[.int .i64 xk, .int .i64 xm, .int .i64 xe, .string xt, .bool xb, .int .i64 xf], .bool true]) (by simp [results, Tryd.f54, go_sem]) rfl ⟨rfl, ((Below.refl _ _).alloc (Nat.le_refl _) _).alloc (by simp) _⟩
set_option maxRecDepth 100000 in
set_option maxHeartbeats 1000000 in
theorem at_out {R C : Nat} {v : Value} (row col : Int) (h : row < 0 ∨ (¬ row < 0 ∧ col < 0) ∨ (¬ row < 0 ∧ ¬ col < 0 ∧ (R : Int) ≤ row) ∨ (¬ row < 0 ∧ ¬ col < 0 ∧ ¬ (R : Int) ≤ row ∧ (C : Int) ≤ col)) (w : World) :
    Calls Tryd.prog 54 #[arV R C v, .int .i64 row, .int .i64 col] w fun e w' => e = .returned (.tuple #[vV zV, .bool false]) ∧ Below w.heap.size w w' := by
  have hZ : vV zV = .agg #[.int .i64 0, .int .i64 0, .int .i64 0, .string ⟨#[]⟩, .bool false, .int .i64 0] := rfl
  rw [hZ]
  clear hZ
  unfold arV
  rcases h with h | ⟨h1, h⟩ | ⟨h1, h2, h⟩ | ⟨h1, h2, h3, h⟩
  all_goals
    go_enter Tryd.func54, Tryd.ntmps54
    go_wp2
    exact bodyPost_ret (v := .tuple #[.agg #[.int .i64 0, .int .i64 0, .int .i64 0, .string ⟨#[]⟩, .bool false, .int .i64 0], .bool false]) (by simp [results, Tryd.f54, go_sem]) rfl ⟨rfl, ((Below.refl _ _).alloc (Nat.le_refl _) _).alloc (by simp) _⟩
theorem idx_part {R C r0 c0 i j : Nat} (hi : r0 + i < R) (hj : c0 + j < C) (hRC : R * C ≤ 4096) (hR : R ≤ 4096) : ∃ p q u z : Nat, z = r0 + i ∧ p = (r0 + i) * C ∧ u = (r0 + i) * C + c0 ∧ q = (r0 + i) * C + c0 + j ∧ q < R * C ∧
    IntKind.i64.wrap ((r0 : Int) + (i : Int)) = (z : Int) ∧ IntKind.i64.wrap ((z : Int) * (C : Int)) = (p : Int) ∧ IntKind.i64.wrap (((r0 : Int) + (i : Int)) * (C : Int)) = (p : Int) ∧ IntKind.i64.wrap ((p : Int) + (c0 : Int)) = (u : Int) ∧ IntKind.i64.wrap ((u : Int) + (j : Int)) = (q : Int) ∧
    IntKind.i64.wrap ((z : Int) * (C : Int) + (c0 : Int)) = (u : Int) ∧ IntKind.i64.wrap (((r0 : Int) + (i : Int)) * (C : Int) + (c0 : Int)) = (u : Int) ∧ IntKind.i64.wrap ((p : Int) + (c0 : Int) + (j : Int)) = (q : Int) ∧ IntKind.i64.wrap (((r0 : Int) + (i : Int)) * (C : Int) + (c0 : Int) + (j : Int)) = (q : Int) := by
  have h1 := place_in hi hj
  have e1 : ((r0 : Int) + (i : Int)) = ((r0 + i : Nat) : Int) := by omega
  refine ⟨_, _, _, _, rfl, rfl, rfl, rfl, by omega, ?_, ?_, ?_, ?_, ?_, ?_, ?_, ?_, ?_⟩
  all_goals (try rw [e1])
  all_goals (try rw [← Int.natCast_mul])
  all_goals (rw [IntKind.wrap_i64]; omega)
set_option maxRecDepth 100000 in
set_option maxHeartbeats 1000000 in
theorem part1_any {R C r0 c0 i j n b b1 b2 : Nat} {l : List Vl} {v : Value} (hi : r0 + i < R) (hj : c0 + j < C) (hl : l.length = R * C) (hRC : R * C ≤ 4096) (hR : R ≤ 4096) (w : World) (hn : n ≤ w.heap.size) (hbx : w.heap[b]? = some (.cells #[.int .i64 (R : Int), .int .i64 (C : Int), v] 25 (0, 0)))
    (hb1 : w.cell? ⟨b1, 0, none⟩ = some (.int .i64 (r0 : Int))) (hb2 : w.cell? ⟨b2, 0, none⟩ = some (.int .i64 (c0 : Int))) (hv : ValAt n w v l) :
    Calls Tryd.prog 58 #[.int .i64 (i : Int), .int .i64 (j : Int), .pointer (some ⟨b, 0, none⟩), .pointer (some ⟨b1, 0, none⟩), .pointer (some ⟨b2, 0, none⟩)] w fun e w' => e = .returned (vV (gt l ((r0 + i) * C + c0 + j))) ∧ Below w.heap.size w w' := by
  obtain ⟨p, q, u, z, hz, hp, hu, hq, hlt, hw0, hw1, hw1b, hw2, hw3, hw4, hw5, hw6, hw7⟩ := idx_part hi hj hRC hR
  have hb0 := Nm.alloc_below w zO
  obtain ⟨g, o, c, rfl, hc, k0, k1, k2, k3, k4, k5⟩ := hv.get (hb0.mono hn) (k := (r0 + i) * C + c0 + j) (by omega)
  obtain ⟨d0, d1, d2, _⟩ := box3 ((hb0.block b (Array.getElem?_eq_some_iff.1 hbx).1).trans hbx)
  have d3 := (hb0.cell (p := ⟨b1, 0, none⟩) (cell_lt hb1)).trans hb1
  have d4 := (hb0.cell (p := ⟨b2, 0, none⟩) (cell_lt hb2)).trans hb2
  obtain ⟨⟨xk, xm, xe, xt, xb, xf⟩, hx⟩ : ∃ x, gt l ((r0 + i) * C + c0 + j) = x := ⟨_, rfl⟩
  rw [hx] at k0 k1 k2 k3 k4 k5 ⊢
  rw [← hq] at k0 k1 k2 k3 k4 k5
  obtain ⟨m, hm⟩ : ∃ m, l.length = m := ⟨_, rfl⟩
  rw [hm] at d2 hc
  have hi1 : (q : Int) < (m : Int) := by omega
  have hi0 : (0 : Int) ≤ (q : Int) := by omega
  have HB := Lib.hid hb0
  clear hl hRC hm hp hq hu hz hlt hbx hv hn hb0 hx hi hj hb1 hb2 hR
  unfold vV
  unfold zO at *
  simp only at k0 k1 k2 k3 k4 k5 d3 d4 ⊢
  go_enter Tryd.func58, Tryd.ntmps58
  go_wp2
  exact bodyPost_ret (v := .agg #[.int .i64 xk, .int .i64 xm, .int .i64 xe, .string xt, .bool xb, .int .i64 xf]) (by simp [results, Tryd.f58, go_sem]) rfl ⟨rfl, Nm.alloc_below _ _⟩
end Go.Proofs.YtfgddhabepllfaaDoor
