/- Walks over num.Sub and num.Mul. -/
import Derived.Test.YtkdjdoncmihkfaaDoorNy
import Derived.Test.YtkdjdoncmihkfaaDoorNp
namespace Go.Proofs.YtkdjdoncmihkfaaDoor
open Go.RowKit

/-- what the walk holds: two numbers' cells, and the result's own -/
def Kt (w : World) (a b c d : Int) (w' : World) : Prop :=
  w'.cell? ⟨w.heap.size, 0, none⟩ = some (.int .i64 a) ∧ w'.cell? ⟨w.heap.size, 1, none⟩ = some (.int .i64 b) ∧ w'.cell? ⟨w.heap.size + 1, 0, none⟩ = some (.int .i64 c) ∧ w'.cell? ⟨w.heap.size + 1, 1, none⟩ = some (.int .i64 d) ∧
  w'.cell? ⟨w.heap.size + 1 + 1, 0, none⟩ = some (got w' ⟨w.heap.size + 1 + 1, 0, none⟩) ∧ w'.cell? ⟨w.heap.size + 1 + 1, 1, none⟩ = some (got w' ⟨w.heap.size + 1 + 1, 1, none⟩) ∧
  w'.frozen? ⟨w.heap.size + 1 + 1, 0, none⟩ = false ∧ w'.frozen? ⟨w.heap.size + 1 + 1, 1, none⟩ = false ∧ w.heap.size + 3 ≤ w'.heap.size ∧ Tab w' ∧ Below w.heap.size w w'
theorem Kt.of {w w' : World} {a b c d : Int} (h : Trio w' w.heap.size a b c d) (h3 : w.heap.size + 3 ≤ w'.heap.size) (ht : Tab w') (hb : Below w.heap.size w w') : Kt w a b c d w' :=
  ⟨h.s0.c0, h.s0.c1, h.s1.c0, h.s1.c1, got_of (is_got h.s2.c0), got_of (is_got h.s2.c1), h.s2.f0, h.s2.f1, h3, ht, hb⟩
theorem Kt.later {w : World} {a b c d : Int} {w1 w2 : World} (h : Kt w a b c d w1) (hb : Below w1.heap.size w1 w2) : Kt w a b c d w2 := by
  obtain ⟨h1, h2, h3, h4, h5, h6, h7, h8, h9, h10, h11⟩ := h
  have hs := hb.size
  have l0 : w.heap.size < w1.heap.size := by omega
  have l1 : w.heap.size + 1 < w1.heap.size := by omega
  have l2 : w.heap.size + 1 + 1 < w1.heap.size := by omega
  exact ⟨(hb.cell (p := ⟨w.heap.size, 0, none⟩) l0).trans h1, (hb.cell (p := ⟨w.heap.size, 1, none⟩) l0).trans h2, (hb.cell (p := ⟨w.heap.size + 1, 0, none⟩) l1).trans h3, (hb.cell (p := ⟨w.heap.size + 1, 1, none⟩) l1).trans h4,
    got_of (is_got ((hb.cell (p := ⟨w.heap.size + 1 + 1, 0, none⟩) l2).trans h5)), got_of (is_got ((hb.cell (p := ⟨w.heap.size + 1 + 1, 1, none⟩) l2).trans h6)),
    (hb.frozen (p := ⟨w.heap.size + 1 + 1, 0, none⟩) l2).trans h7, (hb.frozen (p := ⟨w.heap.size + 1 + 1, 1, none⟩) l2).trans h8, by omega, h10.below hb, h11.trans (hb.mono (by omega))⟩
theorem Kt.put {w : World} {a b c d : Int} {w1 : World} (h : Kt w a b c d w1) (hT : 1 < w.heap.size) (u v : Value) : Kt w a b c d ((w1.setCell ⟨w.heap.size + 1 + 1, 0, none⟩ u).setCell ⟨w.heap.size + 1 + 1, 1, none⟩ v) := by
  obtain ⟨h1, h2, h3, h4, h5, h6, h7, h8, h9, h10, h11⟩ := h
  have hb : Below (w.heap.size + 1 + 1) w1 ((w1.setCell ⟨w.heap.size + 1 + 1, 0, none⟩ u).setCell ⟨w.heap.size + 1 + 1, 1, none⟩ v) := slot_set2 (Below.refl _ _) (Nat.le_refl _) u v
  have hs := hb.size
  have l0 : w.heap.size < w.heap.size + 1 + 1 := by omega
  have l1 : w.heap.size + 1 < w.heap.size + 1 + 1 := by omega
  exact ⟨(hb.cell (p := ⟨w.heap.size, 0, none⟩) l0).trans h1, (hb.cell (p := ⟨w.heap.size, 1, none⟩) l0).trans h2, (hb.cell (p := ⟨w.heap.size + 1, 0, none⟩) l1).trans h3, (hb.cell (p := ⟨w.heap.size + 1, 1, none⟩) l1).trans h4,
    got_of (some_set (some_set (is_got h5) _ _) _ _), got_of (some_set (some_set (is_got h6) _ _) _ _), by simpa [World.frozen?_setCell] using h7, by simpa [World.frozen?_setCell] using h8, by omega, var?_below hb gPow (by omega) h10, h11.trans (hb.mono (by omega))⟩
theorem Kt.res {w : World} {a b c d : Int} {w1 : World} (h : Kt w a b c d w1) (u v : Value) :
    ((w1.setCell ⟨w.heap.size + 1 + 1, 0, none⟩ u).setCell ⟨w.heap.size + 1 + 1, 1, none⟩ v).cell? ⟨w.heap.size + 1 + 1, 0, none⟩ = some u ∧ ((w1.setCell ⟨w.heap.size + 1 + 1, 0, none⟩ u).setCell ⟨w.heap.size + 1 + 1, 1, none⟩ v).cell? ⟨w.heap.size + 1 + 1, 1, none⟩ = some v := by
  obtain ⟨_, _, _, _, h5, h6, _⟩ := h
  refine ⟨?_, ?_⟩
  · rw [World.cell?_setCell_other _ _ _ _ (by simp), World.cell?_setCell_same' _ _ _ (is_got h5)]
  · rw [World.cell?_setCell_same' _ _ _ (some_set (is_got h6) _ _)]

set_option maxRecDepth 1000000 in
set_option maxHeartbeats 8000000 in
/-- Sub, of every two right numbers -/
theorem sub_any (a b c d : Int) (ha : rightB a b = true) (hc : rightB c d = true) (w : World) (ht : Tab w) :
    Calls Tryd.prog 21 #[numV a b, numV c d] w fun e w' => e = .returned (numR (addN a b (-c) d)) ∧ Below w.heap.size w w' := by
  obtain ⟨bc, bd1, bd2⟩ := right_bounds hc
  have R2 : Hid (∀ w1, Calls Tryd.prog 17 #[.agg #[.int .i64 c, .int .i64 d]] w1 fun r w' => r = .returned (.bool true) ∧ Below w1.heap.size w1 w') := by
    intro w1; have := right_any c d (by omega) (by omega) (by omega) w1; rw [hc] at this; exact this
  have N2 : Hid (∀ w1, Calls Tryd.prog 23 #[.agg #[.int .i64 c, .int .i64 d]] w1 fun r w' => r = .returned (.agg #[.int .i64 (-c), .int .i64 d]) ∧ Below w1.heap.size w1 w') := by
    intro w1; have := neg_any c d (by omega) (by omega) (by omega) w1; rw [show negP c d = (-c, d) from if_pos hc] at this; exact this
  obtain ⟨⟨M, E, ok⟩, hR⟩ : ∃ R, R = addN a b (-c) d := ⟨_, rfl⟩
  have AD : Hid (∀ w1, Tab w1 → Calls Tryd.prog 19 #[.agg #[.int .i64 a, .int .i64 b], .agg #[.int .i64 (-c), .int .i64 d]] w1 fun e w' => e = .returned (.tuple #[.agg #[.int .i64 M, .int .i64 E], .bool ok]) ∧ Below w1.heap.size w1 w') := by
    intro w1 h; have := add_any a b (-c) d ha (right_neg hc) w1 h; rw [← hR] at this; exact this
  rw [← hR]
  have HT := Lib.hid ht
  have hT1 : 1 < w.heap.size := var_lt gPow ht
  clear ha hc bc bd1 bd2 ht hR
  unfold numV numR
  unfold numV
  simp only
  go_enter Tryd.func21, Tryd.ntmps21
  go_wp2_with fail
  refine (R2.out _).mono ?_
  rintro e w1 ⟨rfl, hb1⟩
  have hT0 := Trio.new w a b c d
  have hB0 := below3 w (.cells #[.int .i64 a, .int .i64 b] 24) (.cells #[.int .i64 c, .int .i64 d] 24) (.cells #[.int .i64 0, .int .i64 0] 24)
  obtain ⟨hT1', hZ1⟩ := hT0.below hb1 (by simp)
  have hW1 := hB0.trans (hb1.mono hB0.size)
  have K1 := Kt.of hT1' hZ1 (HT.out.below hW1) hW1
  clear hT0 hB0 hb1 hT1' hZ1 hW1
  obtain ⟨p0, p1, p2, p3, _⟩ := id K1
  go_wp2_with fail
  go_region_held3 (fun w' => w'.cell? ⟨w.heap.size, 0, none⟩ = some (.int .i64 a) ∧ w'.cell? ⟨w.heap.size, 1, none⟩ = some (.int .i64 b) ∧ w'.cell? ⟨w.heap.size + 1, 0, none⟩ = some (.int .i64 c) ∧ w'.cell? ⟨w.heap.size + 1, 1, none⟩ = some (.int .i64 d) ∧
  w'.cell? ⟨w.heap.size + 1 + 1, 0, none⟩ = some (got w' ⟨w.heap.size + 1 + 1, 0, none⟩) ∧ w'.cell? ⟨w.heap.size + 1 + 1, 1, none⟩ = some (got w' ⟨w.heap.size + 1 + 1, 1, none⟩) ∧
  w'.frozen? ⟨w.heap.size + 1 + 1, 0, none⟩ = false ∧ w'.frozen? ⟨w.heap.size + 1 + 1, 1, none⟩ = false ∧ w.heap.size + 3 ≤ w'.heap.size ∧ Tab w' ∧ Below w.heap.size w w')
    ((show Kt w a b c d _; with_reducible first | exact K1.later (below_dr _) | exact K5.out | exact K5.out.put hT1 _ _))
    (first
      | (go_at_call 23; refine (N2.out _).mono ?_; rintro e w5 ⟨rfl, hb5⟩; have K5 := Lib.hid (Kt.later (show Kt w a b c d _ by assumption) hb5))
      | (go_at_call 19; refine (AD.out _ (show Kt w a b c d _ by assumption).2.2.2.2.2.2.2.2.2.1).mono ?_; rintro e w5 ⟨rfl, hb5⟩; have K5 := Lib.hid (Kt.later (show Kt w a b c d _ by assumption) hb5)))
  have K6 : Kt w a b c d w5 := K5.out
  have hr := K6.res (.int .i64 M) (.int .i64 E)
  have hb := (K6.put hT1 (.int .i64 M) (.int .i64 E)).2.2.2.2.2.2.2.2.2.2
  clear hb5 K5 K1 p0 p1 p2 p3
  obtain ⟨m0, m1⟩ := hr
  go_wp2
  exact bodyPost_ret (v := .tuple #[.agg #[.int .i64 M, .int .i64 E], .bool ok]) (by simp [results, Tryd.results21, go_sem, m0, m1]) rfl ⟨rfl, hb⟩

/-- the product, by values -/
def mulN (a b c d : Int) : Int × Int × Bool := roundN (decide (a < 0) != decide (c < 0)) (a.natAbs * c.natAbs) (b + d)

set_option maxRecDepth 1000000 in
set_option maxHeartbeats 8000000 in
/-- Mul, of every two right numbers -/
theorem mul_any (a b c d : Int) (ha : rightB a b = true) (hc : rightB c d = true) (w : World) (ht : Tab w) :
    Calls Tryd.prog 27 #[numV a b, numV c d] w fun e w' => e = .returned (numR (mulN a b c d)) ∧ Below w.heap.size w w' := by
  obtain ⟨ba, bb1, bb2⟩ := right_bounds ha
  obtain ⟨bc, bd1, bd2⟩ := right_bounds hc
  have R1 : Hid (∀ w1, Calls Tryd.prog 17 #[.agg #[.int .i64 a, .int .i64 b]] w1 fun r w' => r = .returned (.bool true) ∧ Below w1.heap.size w1 w') := by
    intro w1; have := right_any a b (by omega) (by omega) (by omega) w1; rw [ha] at this; exact this
  have R2 : Hid (∀ w1, Calls Tryd.prog 17 #[.agg #[.int .i64 c, .int .i64 d]] w1 fun r w' => r = .returned (.bool true) ∧ Below w1.heap.size w1 w') := by
    intro w1; have := right_any c d (by omega) (by omega) (by omega) w1; rw [hc] at this; exact this
  obtain ⟨ng, hng⟩ : ∃ ng, ng = decide (a < 0) := ⟨_, rfl⟩
  obtain ⟨nh, hnh⟩ : ∃ ng, ng = decide (c < 0) := ⟨_, rfl⟩
  obtain ⟨a1, a2, a3⟩ := digs_val a
  obtain ⟨c1, c2, c3⟩ := digs_val c
  have la := digs_length a (by omega) (by omega)
  have lc := digs_length c (by omega) (by omega)
  obtain ⟨X, hX⟩ : ∃ X, X = digs a := ⟨_, rfl⟩
  obtain ⟨Y, hY⟩ : ∃ X, X = digs c := ⟨_, rfl⟩
  have D1 : Hid (∀ w1, Tab w1 → Calls Tryd.prog 47 #[.int .i64 a] w1 fun e w' => ∃ v, e = .returned (.tuple #[.bool ng, v]) ∧ Own w' w1.heap.size v X ∧ Below w1.heap.size w1 w') := by
    intro w1 h; rw [hng, hX]; exact digits_any a (by omega) (by omega) w1 h
  have D2 : Hid (∀ w1, Tab w1 → Calls Tryd.prog 47 #[.int .i64 c] w1 fun e w' => ∃ v, e = .returned (.tuple #[.bool nh, v]) ∧ Own w' w1.heap.size v Y ∧ Below w1.heap.size w1 w') := by
    intro w1 h; rw [hnh, hY]; exact digits_any c (by omega) (by omega) w1 h
  rw [← hX] at a1 a2 la
  rw [← hY] at c1 c2 lc
  obtain ⟨P1, P2, P3⟩ := prodL_val X Y a2 c2
  obtain ⟨⟨M, E, ok⟩, hR⟩ : ∃ R, R = mulN a b c d := ⟨_, rfl⟩
  have hR2 : (M, E, ok) = roundL (ng != nh) (prodL X Y) (b + d) := by
    rw [hR, mulN, round_val _ _ P2, P3, a1, c1, hng, hnh]
  rw [← hR]
  have RO : Hid (∀ (g cc B n : Nat) (w1 : World), n = X.length + Y.length → Own w1 B (.slice (some ⟨g, 0, none⟩) n cc) (prodL X Y) → Calls Tryd.prog 48 #[.bool (!ng == nh), .slice (some ⟨g, 0, none⟩) n cc, .int .i64 (b + d)] w1 fun e w' => e = .returned (.tuple #[.agg #[.int .i64 M, .int .i64 E], .bool ok]) ∧ Below w1.heap.size w1 w') := by
    intro g cc B n w1 _ ho
    have := round_own ho (ng != nh) (b + d) (by omega)
    rw [← hR2] at this
    exact this
  have HDX := Lib.hid a2
  have HDY := Lib.hid c2
  have HT := Lib.hid ht
  have hT1 : 1 < w.heap.size := var_lt gPow ht
  obtain ⟨nx, hnx⟩ : ∃ n, n = X.length := ⟨_, rfl⟩
  obtain ⟨ny, hny⟩ : ∃ n, n = Y.length := ⟨_, rfl⟩
  rw [← hnx] at la
  rw [← hny] at lc
  rw [← hnx, ← hny] at RO
  have hwr : IntKind.i64.wrap (b + d) = b + d := by rw [IntKind.wrap_i64]; omega
  have HNX := Lib.hid hnx
  have HNY := Lib.hid hny
  clear ha hc ba bc ht hR hR2 P1 P2 P3 a1 a2 a3 c1 c2 c3 hX hY hnx hny hng hnh
  unfold numV numR
  unfold numV
  simp only
  go_enter Tryd.func27, Tryd.ntmps27
  go_wp2_with fail
  refine (R1.out _).mono ?_
  rintro e w1 ⟨rfl, hb1⟩
  have hT0 := Trio.new w a b c d
  have hB0 := below3 w (.cells #[.int .i64 a, .int .i64 b] 24) (.cells #[.int .i64 c, .int .i64 d] 24) (.cells #[.int .i64 0, .int .i64 0] 24)
  obtain ⟨hT1', hZ1⟩ := hT0.below hb1 (by simp)
  have hW1 := hB0.trans (hb1.mono hB0.size)
  have K1 := Kt.of hT1' hZ1 (HT.out.below hW1) hW1
  clear hT0 hB0 hb1 hT1' hZ1 hW1
  obtain ⟨p0, p1, p2, p3, _⟩ := id K1
  go_wp2_with fail
  refine (R2.out _).mono ?_
  rintro e w2 ⟨rfl, hb2⟩
  have K2 := K1.later hb2
  clear hb2 p0 p1 p2 p3 K1
  obtain ⟨p0, p1, p2, p3, _⟩ := id K2
  go_wp2_with fail
  refine (D1.out _ K2.2.2.2.2.2.2.2.2.2.1).mono ?_
  rintro e w3 ⟨v3, rfl, own3, hb3⟩
  have K3 := K2.later hb3
  obtain ⟨g3, c3, rfl⟩ := own3.2
  rw [← HNX.out] at own3 ⊢
  clear hb3 p0 p1 p2 p3 K2
  obtain ⟨p0, p1, p2, p3, _⟩ := id K3
  go_wp2_with fail
  refine (D2.out _ K3.2.2.2.2.2.2.2.2.2.1).mono ?_
  rintro e w4 ⟨v4, rfl, own4, hb4⟩
  have K4 := K3.later hb4
  obtain ⟨g4, c4, rfl⟩ := own4.2
  rw [← HNY.out] at own4 ⊢
  have PR := Lib.hid (product_any g3 c3 g4 c4 nx ny X Y _ w4.drew HNX.out.symm HNY.out.symm HDX.out HDY.out (by omega) (by omega) ((own3.below hb4).below (below_dr _)) ((own4.mono (by have := (own3.1.lt g3 rfl); omega)).below (below_dr _)))
  clear hb4 p0 p1 p2 p3 K3 own3 own4 D1 D2 R1 R2
  obtain ⟨p0, p1, p2, p3, _⟩ := id K4
  go_wp2_with fail
  go_region_held3 (fun w' => w'.cell? ⟨w.heap.size, 0, none⟩ = some (.int .i64 a) ∧ w'.cell? ⟨w.heap.size, 1, none⟩ = some (.int .i64 b) ∧ w'.cell? ⟨w.heap.size + 1, 0, none⟩ = some (.int .i64 c) ∧ w'.cell? ⟨w.heap.size + 1, 1, none⟩ = some (.int .i64 d) ∧
  w'.cell? ⟨w.heap.size + 1 + 1, 0, none⟩ = some (got w' ⟨w.heap.size + 1 + 1, 0, none⟩) ∧ w'.cell? ⟨w.heap.size + 1 + 1, 1, none⟩ = some (got w' ⟨w.heap.size + 1 + 1, 1, none⟩) ∧
  w'.frozen? ⟨w.heap.size + 1 + 1, 0, none⟩ = false ∧ w'.frozen? ⟨w.heap.size + 1 + 1, 1, none⟩ = false ∧ w.heap.size + 3 ≤ w'.heap.size ∧ Tab w' ∧ Below w.heap.size w w')
    ((show Kt w a b c d _; with_reducible first | exact K4.later (below_dr _) | exact K5.out | exact K5.out.put hT1 _ _))
    (first
      | (go_at_call 58; refine PR.out.mono ?_; rintro e w5 ⟨g5, c5, rfl, own5, hb5⟩; have K5 := Lib.hid (Kt.later (show Kt w a b c d _ by assumption) hb5); have RP := Lib.hid (RO.out g5 c5 _ _ w5 rfl own5))
      | (go_at_call 48; refine RP.out.mono ?_; rintro e w5 ⟨rfl, hb5⟩; have K5 := Lib.hid (Kt.later (show Kt w a b c d _ by assumption) hb5)))
  have K6 : Kt w a b c d w5 := K5.out
  have hr := K6.res (.int .i64 M) (.int .i64 E)
  have hb := (K6.put hT1 (.int .i64 M) (.int .i64 E)).2.2.2.2.2.2.2.2.2.2
  clear hb5 K5 K4 p0 p1 p2 p3
  obtain ⟨m0, m1⟩ := hr
  go_wp2
  exact bodyPost_ret (v := .tuple #[.agg #[.int .i64 M, .int .i64 E], .bool ok]) (by simp [results, Tryd.results27, go_sem, m0, m1]) rfl ⟨rfl, hb⟩
end Go.Proofs.YtkdjdoncmihkfaaDoor
