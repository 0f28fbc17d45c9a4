/- The document's Add, Sub and Cmp, of every two right numbers. -/
import Derived.Test.YtkdjdoncmihkfaaDoorRl
namespace Go.Proofs.YtkdjdoncmihkfaaDoor
open Go.RowKit

theorem nearM_zero (s : Bool) (x : Int) : nearM s 0 x false = (0, 0, true) := by
  rw [near_main]; unfold mainN
  rw [show evenN 0 (nd 0 - 15) = 0 by rw [nd_zero]; exact evenN_zero 0, show evenN 0 (-40 - (x + ((nd 0 - 15 : Nat) : Int))).toNat = 0 from evenN_small (pow_pos10 _)]
  unfold endN
  rw [tz0]; rfl
theorem near_roundN (s : Bool) (V : Nat) (x : Int) (h1 : -1000 ≤ x) (h2 : x ≤ 1000) : nearM s V x false = roundN s V x := by
  by_cases h : V = 0
  · subst h; rw [nearM_zero]; unfold roundN; rw [if_pos (.inl rfl)]
  · exact near_round s V x h h1 h2
theorem addN_plus (a b c d : Int) (U V : Nat) (hU : U = a.natAbs * 10 ^ (b - min b d).toNat) (hV : V = c.natAbs * 10 ^ (d - min b d).toNat) :
    addN a b c d = roundN (plusS (decide (a < 0)) (decide (c < 0)) U V) (plusN (decide (a < 0)) (decide (c < 0)) U V) (min b d) := by
  unfold addN plusS plusN
  rw [← hU, ← hV]
  generalize decide (a < 0) = sa
  generalize decide (c < 0) = sc
  cases sa <;> cases sc <;> by_cases h2 : U < V <;> simp [h2]

set_option maxRecDepth 1000000 in
set_option maxHeartbeats 8000000 in
/-- the document's Add, of every two right numbers -/
theorem radd_any (a b c d : Int) (ha : rightB a b = true) (hc : rightB c d = true) (w : World) (ht : Tab w) :
    Calls Tryd.prog 20 #[numV a b, numV c d] w fun e w' => e = .returned (numR (addN a b c d)) ∧ Below w.heap.size w w' := by
  obtain ⟨ba, bb1, bb2⟩ := right_bounds ha
  obtain ⟨bc, bd1, bd2⟩ := right_bounds hc
  obtain ⟨a1, a2, a3⟩ := digs_val a
  obtain ⟨c1, c2, c3⟩ := digs_val c
  have la := digs_length a (by omega) (by omega)
  have lc := digs_length c (by omega) (by omega)
  obtain ⟨m, hm⟩ : ∃ m, m = min b d := ⟨_, rfl⟩
  obtain ⟨L, hL1, hL2, hL3, PL0⟩ := plus_any (decide (a < 0)) (decide (c < 0)) b d (digs a) (digs c) (by omega) (by omega) (by omega) (by omega) (by omega) (by omega) a2 c2 m hm _ _ rfl rfl
  obtain ⟨s, hs⟩ : ∃ s, s = plusS (decide (a < 0)) (decide (c < 0)) (valN (digs a) * 10 ^ (b - m).toNat) (valN (digs c) * 10 ^ (d - m).toNat) := ⟨_, rfl⟩
  have hE : nearM s (valN L) m false = addN a b c d := by
    rw [near_roundN _ _ _ (by omega) (by omega), hL3, hs, hm, addN_plus a b c d _ _ rfl rfl, a1, c1]
  rw [← hs] at PL0
  obtain ⟨sa, hsa⟩ : ∃ s, s = decide (a < 0) := ⟨_, rfl⟩
  obtain ⟨sc, hsc⟩ : ∃ s, s = decide (c < 0) := ⟨_, rfl⟩
  obtain ⟨⟨M, E, ok⟩, hR⟩ : ∃ R, R = addN a b c d := ⟨_, rfl⟩
  rw [← hR] at hE ⊢
  have OF1 : Hid (∀ w1, Calls Tryd.prog 45 #[.agg #[.int .i64 a, .int .i64 b]] w1 fun r w' => ∃ v, r = .returned (.agg #[.bool sa, v, .int .i64 b]) ∧ Vd w' v (digs a) ∧ Below w1.heap.size w1 w') := by
    intro w1; rw [hsa]; exact of_any a b (by omega) (by omega) w1
  have OF2 : Hid (∀ w1, Calls Tryd.prog 45 #[.agg #[.int .i64 c, .int .i64 d]] w1 fun r w' => ∃ v, r = .returned (.agg #[.bool sc, v, .int .i64 d]) ∧ Vd w' v (digs c) ∧ Below w1.heap.size w1 w') := by
    intro w1; rw [hsc]; exact of_any c d (by omega) (by omega) w1
  rw [← hsa, ← hsc] at PL0
  obtain ⟨n, hn⟩ : ∃ n, n = L.length := ⟨_, rfl⟩
  have PL : Hid (∀ va vb w1, Vd w1 va (digs a) → Vd w1 vb (digs c) → Calls Tryd.prog 44 #[.agg #[.bool sa, va, .int .i64 b], .agg #[.bool sc, vb, .int .i64 d]] w1 fun e w' => ∃ A cc, e = .returned (.agg #[.bool s, .slice A n cc, .int .i64 m]) ∧ L.length ≤ cc ∧ cc ≤ 9223372036854775807 ∧ RdD w' A L ∧ Below w1.heap.size w1 w') := by rw [hn]; exact PL0
  have NR : Hid (∀ (A : Option Addr) (cc : Nat) (w1 : World), RdD w1 A L → L.length ≤ cc → cc ≤ 9223372036854775807 → Calls Tryd.prog 49 #[.agg #[.bool s, .slice A n cc, .int .i64 m], .bool false] w1 fun e w' => e = .returned (.tuple #[.agg #[.int .i64 M, .int .i64 E], .bool ok]) ∧ Below w1.heap.size w1 w') := fun A cc w1 r1 r2 r3 => by
    have := near_any s A L cc m false w1 r1 r2 r3 (by omega) hL2 (by omega) (by omega)
    rw [hE] at this; rw [hn]; exact this
  have R1 : Hid (∀ w1, Calls Tryd.prog 18 #[.agg #[.int .i64 a, .int .i64 b]] w1 fun r w' => r = .returned (.bool true) ∧ Below w1.heap.size w1 w') := by
    intro w1; have := rright_any a b w1; rw [ha] at this; exact this
  have R2 : Hid (∀ w1, Calls Tryd.prog 18 #[.agg #[.int .i64 c, .int .i64 d]] w1 fun r w' => r = .returned (.bool true) ∧ Below w1.heap.size w1 w') := by
    intro w1; have := rright_any c d w1; rw [hc] at this; exact this
  have HT := Lib.hid ht
  have hT1 : 1 < w.heap.size := var_lt gPow ht
  clear ha hc ba bb1 bb2 bc bd1 bd2 a1 a2 a3 c1 c2 c3 la lc hm hL1 hL2 hL3 PL0 hs hE hR hsa hsc hn ht
  unfold numV numR
  unfold numV
  simp only
  go_enter Tryd.func20, Tryd.ntmps20
  go_wp2_with fail
  refine (R1.out _).mono ?_
  rintro e w1 ⟨rfl, hb1⟩
  have hT0 := Trio.new w a b c d
  have hB0 := below3 w (.cells #[.int .i64 a, .int .i64 b] 24) (.cells #[.int .i64 c, .int .i64 d] 24) (.cells #[.int .i64 0, .int .i64 0] 24)
  obtain ⟨hT1', hZ1⟩ := hT0.below hb1 (by simp)
  have hW1 := hB0.trans (hb1.mono hB0.size)
  have K0 := Kt.of hT1' hZ1 (HT.out.below hW1) hW1
  clear hT0 hB0 hb1 hT1' hZ1 hW1
  obtain ⟨p0, p1, p2, p3, p4, p5, p6, p7, _⟩ := id K0
  go_wp2_with fail
  refine (R2.out _).mono ?_
  rintro e w2 ⟨rfl, hb2⟩
  have K1 := K0.later hb2
  clear K0 hb2 p0 p1 p2 p3 p4 p5 p6 p7
  obtain ⟨p0, p1, p2, p3, p4, p5, p6, p7, _⟩ := id K1
  go_wp2_with fail
  go_region_held3 (fun w' => w'.cell? ⟨w.heap.size, 0, none⟩ = some (.int .i64 a) ∧ w'.cell? ⟨w.heap.size, 1, none⟩ = some (.int .i64 b) ∧ w'.cell? ⟨w.heap.size + 1, 0, none⟩ = some (.int .i64 c) ∧ w'.cell? ⟨w.heap.size + 1, 1, none⟩ = some (.int .i64 d) ∧
  w'.cell? ⟨w.heap.size + 1 + 1, 0, none⟩ = some (got w' ⟨w.heap.size + 1 + 1, 0, none⟩) ∧ w'.cell? ⟨w.heap.size + 1 + 1, 1, none⟩ = some (got w' ⟨w.heap.size + 1 + 1, 1, none⟩) ∧
  w'.frozen? ⟨w.heap.size + 1 + 1, 0, none⟩ = false ∧ w'.frozen? ⟨w.heap.size + 1 + 1, 1, none⟩ = false ∧ w.heap.size + 3 ≤ w'.heap.size ∧ Tab w' ∧ Below w.heap.size w w')
    ((show Kt w a b c d _; with_reducible first | exact K1.later (below_dr _) | exact K5.out | exact K5.out.put hT1 _ _))
    (first
      | (go_at_call_of 45 (Value.agg #[.int .i64 a, .int .i64 b]); refine (OF1.out _).mono ?_; rintro e w5 ⟨v5, rfl, hV5, hb5⟩; have K5 := Lib.hid (Kt.later (show Kt w a b c d _ by assumption) hb5))
      | (go_at_call_of 45 (Value.agg #[.int .i64 c, .int .i64 d]); refine (OF2.out _).mono ?_; rintro e w6 ⟨v6, rfl, hV6, hb6⟩; have K5 := Lib.hid (Kt.later (show Kt w a b c d _ by assumption) hb6))
      | (go_at_call 44; refine (PL.out _ _ _ (hV5.below hb6) hV6).mono ?_; rintro e w7 ⟨A7, c7, rfl, q1, q2, q3, hb7⟩; have K5 := Lib.hid (Kt.later (show Kt w a b c d _ by assumption) hb7))
      | (go_at_call 49; refine (NR.out _ _ _ q3 q1 q2).mono ?_; rintro e w8 ⟨rfl, hb8⟩; have K5 := Lib.hid (Kt.later (show Kt w a b c d _ by assumption) hb8)))
  have K6 : Kt w a b c d w8 := K5.out
  have hr := K6.res (.int .i64 M) (.int .i64 E)
  have hb := (K6.put hT1 (.int .i64 M) (.int .i64 E)).2.2.2.2.2.2.2.2.2.2
  clear K5 K1
  obtain ⟨m0, m1⟩ := hr
  go_wp2
  exact bodyPost_ret (v := .tuple #[.agg #[.int .i64 M, .int .i64 E], .bool ok]) (by simp [results, Tryd.results20, go_sem, m0, m1]) rfl ⟨rfl, hb⟩

theorem addX_any (a b c d : Int) (hw1 : Wf a b) (hw2 : Wf c d) (w : World) (ht : Tab w) : Calls Tryd.prog 19 #[numV a b, numV c d] w fun e w' => e = .returned (numR (addX a b c d)) ∧ Below w.heap.size w w' := by
  unfold addX
  cases ha : rightB a b
  · exact add_no1 a b c d hw1 hw2 ha w
  · cases hc : rightB c d
    · exact add_no2 a b c d hw1 hw2 ha hc w
    · exact add_any a b c d ha hc w ht
theorem raddX_any (a b c d : Int) (hw1 : Wf a b) (hw2 : Wf c d) (w : World) (ht : Tab w) : Calls Tryd.prog 20 #[numV a b, numV c d] w fun e w' => e = .returned (numR (addX a b c d)) ∧ Below w.heap.size w w' := by
  unfold addX
  cases ha : rightB a b
  · exact radd_no1 a b c d hw1 hw2 ha w
  · cases hc : rightB c d
    · exact radd_no2 a b c d hw1 hw2 ha hc w
    · exact radd_any a b c d ha hc w ht

set_option maxRecDepth 1000000 in
set_option maxHeartbeats 8000000 in
theorem sub_yes (a b c d : Int) (hc : rightB c d = true) (hw1 : Wf a b) (w : World) (ht : Tab w) :
    Calls Tryd.prog 21 #[numV a b, numV c d] w fun e w' => e = .returned (numR (addX a b (-c) d)) ∧ Below w.heap.size w w' := by
  obtain ⟨bc, bd1, bd2⟩ := right_bounds hc
  have hw2 : Wf (-c) d := ⟨⟨by omega, by omega⟩, by omega, by omega⟩
  have R2 : Hid (∀ w1, Calls Tryd.prog 17 #[.agg #[.int .i64 c, .int .i64 d]] w1 fun r w' => r = .returned (.bool true) ∧ Below w1.heap.size w1 w') := by
    intro w1; have := right_any c d (by omega) (by omega) (by omega) w1; rw [hc] at this; exact this
  have N2 : Hid (∀ w1, Calls Tryd.prog 23 #[.agg #[.int .i64 c, .int .i64 d]] w1 fun r w' => r = .returned (.agg #[.int .i64 (-c), .int .i64 d]) ∧ Below w1.heap.size w1 w') := by
    intro w1; have := neg_any c d (by omega) (by omega) (by omega) w1; rw [show negP c d = (-c, d) from if_pos hc] at this; exact this
  obtain ⟨⟨M, E, ok⟩, hR⟩ : ∃ R, R = addX a b (-c) d := ⟨_, rfl⟩
  have AD : Hid (∀ w1, Tab w1 → Calls Tryd.prog 19 #[.agg #[.int .i64 a, .int .i64 b], .agg #[.int .i64 (-c), .int .i64 d]] w1 fun e w' => e = .returned (.tuple #[.agg #[.int .i64 M, .int .i64 E], .bool ok]) ∧ Below w1.heap.size w1 w') := by
    intro w1 h; have := addX_any a b (-c) d hw1 hw2 w1 h; rw [← hR] at this; exact this
  rw [← hR]
  have HT := Lib.hid ht
  have hT1 : 1 < w.heap.size := var_lt gPow ht
  clear hc bc bd1 bd2 ht hR hw1 hw2
  unfold numV numR
  unfold numV
  simp only
  go_enter Tryd.func21, Tryd.ntmps21
  go_wp2_with fail
  refine (R2.out _).mono ?_
  rintro e w1 ⟨rfl, hb1⟩
  have hT0 := Trio.new w a b c d
  have hB0 := below3 w (.cells #[.int .i64 a, .int .i64 b] 24) (.cells #[.int .i64 c, .int .i64 d] 24) (.cells #[.int .i64 0, .int .i64 0] 24)
  obtain ⟨hT1', hZ1⟩ := hT0.below hb1 (by simp)
  have hW1 := hB0.trans (hb1.mono hB0.size)
  have K1 := Kt.of hT1' hZ1 (HT.out.below hW1) hW1
  clear hT0 hB0 hb1 hT1' hZ1 hW1
  obtain ⟨p0, p1, p2, p3, _⟩ := id K1
  go_wp2_with fail
  go_region_held3 (fun w' => w'.cell? ⟨w.heap.size, 0, none⟩ = some (.int .i64 a) ∧ w'.cell? ⟨w.heap.size, 1, none⟩ = some (.int .i64 b) ∧ w'.cell? ⟨w.heap.size + 1, 0, none⟩ = some (.int .i64 c) ∧ w'.cell? ⟨w.heap.size + 1, 1, none⟩ = some (.int .i64 d) ∧
  w'.cell? ⟨w.heap.size + 1 + 1, 0, none⟩ = some (got w' ⟨w.heap.size + 1 + 1, 0, none⟩) ∧ w'.cell? ⟨w.heap.size + 1 + 1, 1, none⟩ = some (got w' ⟨w.heap.size + 1 + 1, 1, none⟩) ∧
  w'.frozen? ⟨w.heap.size + 1 + 1, 0, none⟩ = false ∧ w'.frozen? ⟨w.heap.size + 1 + 1, 1, none⟩ = false ∧ w.heap.size + 3 ≤ w'.heap.size ∧ Tab w' ∧ Below w.heap.size w w')
    ((show Kt w a b c d _; with_reducible first | exact K1.later (below_dr _) | exact K5.out | exact K5.out.put hT1 _ _))
    (first
      | (go_at_call 23; refine (N2.out _).mono ?_; rintro e w5 ⟨rfl, hb5⟩; have K5 := Lib.hid (Kt.later (show Kt w a b c d _ by assumption) hb5))
      | (go_at_call 19; refine (AD.out _ (show Kt w a b c d _ by assumption).2.2.2.2.2.2.2.2.2.1).mono ?_; rintro e w5 ⟨rfl, hb5⟩; have K5 := Lib.hid (Kt.later (show Kt w a b c d _ by assumption) hb5)))
  have K6 : Kt w a b c d w5 := K5.out
  have hr := K6.res (.int .i64 M) (.int .i64 E)
  have hb := (K6.put hT1 (.int .i64 M) (.int .i64 E)).2.2.2.2.2.2.2.2.2.2
  clear K5 K1
  obtain ⟨m0, m1⟩ := hr
  go_wp2
  exact bodyPost_ret (v := .tuple #[.agg #[.int .i64 M, .int .i64 E], .bool ok]) (by simp [results, Tryd.results21, go_sem, m0, m1]) rfl ⟨rfl, hb⟩

set_option maxRecDepth 1000000 in
set_option maxHeartbeats 8000000 in
theorem rsub_yes (a b c d : Int) (ha : rightB a b = true) (hc : rightB c d = true) (hw1 : Wf a b) (w : World) (ht : Tab w) :
    Calls Tryd.prog 22 #[numV a b, numV c d] w fun e w' => e = .returned (numR (addX a b (-c) d)) ∧ Below w.heap.size w w' := by
  obtain ⟨bc, bd1, bd2⟩ := right_bounds hc
  have hw2 : Wf (-c) d := ⟨⟨by omega, by omega⟩, by omega, by omega⟩
  have R1 : Hid (∀ w1, Calls Tryd.prog 18 #[.agg #[.int .i64 a, .int .i64 b]] w1 fun r w' => r = .returned (.bool true) ∧ Below w1.heap.size w1 w') := by
    intro w1; have := rright_any a b w1; rw [ha] at this; exact this
  have R2 : Hid (∀ w1, Calls Tryd.prog 18 #[.agg #[.int .i64 c, .int .i64 d]] w1 fun r w' => r = .returned (.bool true) ∧ Below w1.heap.size w1 w') := by
    intro w1; have := rright_any c d w1; rw [hc] at this; exact this
  have N2 : Hid (∀ w1, Calls Tryd.prog 24 #[.agg #[.int .i64 c, .int .i64 d]] w1 fun r w' => r = .returned (.agg #[.int .i64 (-c), .int .i64 d]) ∧ Below w1.heap.size w1 w') := by
    intro w1; have := rneg_any c d w1; rw [show negP c d = (-c, d) from if_pos hc] at this; exact this
  obtain ⟨⟨M, E, ok⟩, hR⟩ : ∃ R, R = addX a b (-c) d := ⟨_, rfl⟩
  have AD : Hid (∀ w1, Tab w1 → Calls Tryd.prog 20 #[.agg #[.int .i64 a, .int .i64 b], .agg #[.int .i64 (-c), .int .i64 d]] w1 fun e w' => e = .returned (.tuple #[.agg #[.int .i64 M, .int .i64 E], .bool ok]) ∧ Below w1.heap.size w1 w') := by
    intro w1 h; have := raddX_any a b (-c) d hw1 hw2 w1 h; rw [← hR] at this; exact this
  rw [← hR]
  have HT := Lib.hid ht
  have hT1 : 1 < w.heap.size := var_lt gPow ht
  clear ha hc bc bd1 bd2 ht hR hw1 hw2
  unfold numV numR
  unfold numV
  simp only
  go_enter Tryd.func22, Tryd.ntmps22
  go_wp2_with fail
  refine (R1.out _).mono ?_
  rintro e w1 ⟨rfl, hb1⟩
  have hT0 := Trio.new w a b c d
  have hB0 := below3 w (.cells #[.int .i64 a, .int .i64 b] 24) (.cells #[.int .i64 c, .int .i64 d] 24) (.cells #[.int .i64 0, .int .i64 0] 24)
  obtain ⟨hT1', hZ1⟩ := hT0.below hb1 (by simp)
  have hW1 := hB0.trans (hb1.mono hB0.size)
  have K0 := Kt.of hT1' hZ1 (HT.out.below hW1) hW1
  clear hT0 hB0 hb1 hT1' hZ1 hW1
  obtain ⟨p0, p1, p2, p3, p4, p5, p6, p7, _⟩ := id K0
  go_wp2_with fail
  refine (R2.out _).mono ?_
  rintro e w2 ⟨rfl, hb2⟩
  have K1 := K0.later hb2
  clear K0 hb2 p0 p1 p2 p3 p4 p5 p6 p7
  obtain ⟨p0, p1, p2, p3, p4, p5, p6, p7, _⟩ := id K1
  go_wp2_with fail
  go_region_held3 (fun w' => w'.cell? ⟨w.heap.size, 0, none⟩ = some (.int .i64 a) ∧ w'.cell? ⟨w.heap.size, 1, none⟩ = some (.int .i64 b) ∧ w'.cell? ⟨w.heap.size + 1, 0, none⟩ = some (.int .i64 c) ∧ w'.cell? ⟨w.heap.size + 1, 1, none⟩ = some (.int .i64 d) ∧
  w'.cell? ⟨w.heap.size + 1 + 1, 0, none⟩ = some (got w' ⟨w.heap.size + 1 + 1, 0, none⟩) ∧ w'.cell? ⟨w.heap.size + 1 + 1, 1, none⟩ = some (got w' ⟨w.heap.size + 1 + 1, 1, none⟩) ∧
  w'.frozen? ⟨w.heap.size + 1 + 1, 0, none⟩ = false ∧ w'.frozen? ⟨w.heap.size + 1 + 1, 1, none⟩ = false ∧ w.heap.size + 3 ≤ w'.heap.size ∧ Tab w' ∧ Below w.heap.size w w')
    ((show Kt w a b c d _; with_reducible first | exact K1.later (below_dr _) | exact K5.out | exact K5.out.put hT1 _ _))
    (first
      | (go_at_call 24; refine (N2.out _).mono ?_; rintro e w5 ⟨rfl, hb5⟩; have K5 := Lib.hid (Kt.later (show Kt w a b c d _ by assumption) hb5))
      | (go_at_call 20; refine (AD.out _ (show Kt w a b c d _ by assumption).2.2.2.2.2.2.2.2.2.1).mono ?_; rintro e w5 ⟨rfl, hb5⟩; have K5 := Lib.hid (Kt.later (show Kt w a b c d _ by assumption) hb5)))
  have K6 : Kt w a b c d w5 := K5.out
  have hr := K6.res (.int .i64 M) (.int .i64 E)
  have hb := (K6.put hT1 (.int .i64 M) (.int .i64 E)).2.2.2.2.2.2.2.2.2.2
  clear K5 K1
  obtain ⟨m0, m1⟩ := hr
  go_wp2
  exact bodyPost_ret (v := .tuple #[.agg #[.int .i64 M, .int .i64 E], .bool ok]) (by simp [results, Tryd.results22, go_sem, m0, m1]) rfl ⟨rfl, hb⟩

theorem subX_any (a b c d : Int) (hw1 : Wf a b) (hw2 : Wf c d) (w : World) (ht : Tab w) : Calls Tryd.prog 21 #[numV a b, numV c d] w fun e w' => e = .returned (numR (subX a b c d)) ∧ Below w.heap.size w w' := by
  unfold subX
  cases hc : rightB c d
  · exact sub_no a b c d hw1 hw2 hc w
  · exact sub_yes a b c d hc hw1 w ht
theorem rsubX_any (a b c d : Int) (hw1 : Wf a b) (hw2 : Wf c d) (w : World) (ht : Tab w) : Calls Tryd.prog 22 #[numV a b, numV c d] w fun e w' => e = .returned (numR (subX a b c d)) ∧ Below w.heap.size w w' := by
  unfold subX
  cases ha : rightB a b
  · have e : (if rightB c d = true then addX a b (-c) d else (0, 0, false)) = (0, 0, false) := by
      split
      · unfold addX; rw [ha]; rfl
      · rfl
    rw [e]; exact rsub_no1 a b c d hw1 hw2 ha w
  · cases hc : rightB c d
    · exact rsub_no2 a b c d hw1 hw2 ha hc w
    · exact rsub_yes a b c d ha hc hw1 w ht
theorem cmp_math (A C : Int) : (if plusN (decide (A < 0)) (decide (-C < 0)) A.natAbs C.natAbs = 0 then (0 : Int) else if plusS (decide (A < 0)) (decide (-C < 0)) A.natAbs C.natAbs = true then -1 else 1) = cmpI A C := by
  unfold plusN plusS cmpI
  generalize hsa : decide (A < 0) = sa
  generalize hsc : decide (-C < 0) = sc
  have h1 : sa = true ↔ A < 0 := by rw [← hsa, decide_eq_true_eq]
  have h2 : sc = true ↔ -C < 0 := by rw [← hsc, decide_eq_true_eq]
  clear hsa hsc
  cases sa <;> cases sc <;> simp only [true_iff, Bool.false_eq_true, false_iff] at h1 h2 <;> simp <;> repeat' split
  all_goals omega
theorem cmpI_mul (A C : Int) {P : Nat} (hP : 0 < P) : cmpI (A * P) (C * P) = cmpI A C := by
  have hp : (0 : Int) < (P : Int) := by omega
  unfold cmpI
  by_cases h1 : A < C
  · rw [if_pos h1, if_pos (Int.mul_lt_mul_of_pos_right h1 hp)]
  · rw [if_neg h1, if_neg (fun h => h1 (Int.lt_of_mul_lt_mul_right h (by omega)))]
    by_cases h2 : A = C
    · rw [if_pos h2, if_pos (by rw [h2])]
    · rw [if_neg h2, if_neg (fun h => h2 (Int.eq_of_mul_eq_mul_right (by omega) h))]
theorem rcmp_val (a b c d : Int) (m : Int) (hm : m = min b d) (h0 : -40 ≤ m) : (if plusN (decide (a < 0)) (decide (-c < 0)) (a.natAbs * 10 ^ (b - m).toNat) (c.natAbs * 10 ^ (d - m).toNat) = 0 then (0 : Int) else if plusS (decide (a < 0)) (decide (-c < 0)) (a.natAbs * 10 ^ (b - m).toNat) (c.natAbs * 10 ^ (d - m).toNat) = true then -1 else 1) = cmpV a b c d := by
  have key : ∀ (a b : Int), m ≤ b → ∃ A : Int, vI a b = A * ((10 ^ (m + 40).toNat : Nat) : Int) ∧ A.natAbs = a.natAbs * 10 ^ (b - m).toNat ∧ (A < 0 ↔ a < 0) ∧ (-A < 0 ↔ -a < 0) := by
    intro a b hb
    have hp := pow_pos10 (b - m).toNat
    have hv := vI_abs (m := a) (e := b)
    refine ⟨a * ((10 ^ (b - m).toNat : Nat) : Int), ?_, by rw [Int.natAbs_mul]; rfl, ?_, ?_⟩
    · unfold vI
      rw [Int.mul_assoc, show (b + 40).toNat = (b - m).toNat + (m + 40).toNat by omega, Int.pow_add]
      simp
    · constructor
      · intro h
        by_cases h2 : a < 0
        · exact h2
        · have := Int.mul_nonneg (show 0 ≤ a by omega) (show (0 : Int) ≤ ((10 ^ (b - m).toNat : Nat) : Int) by omega)
          omega
      · intro h
        exact Int.mul_neg_of_neg_of_pos h (by omega)
    · constructor
      · intro h
        by_cases h2 : -a < 0
        · exact h2
        · have := Int.mul_nonneg (show 0 ≤ -a by omega) (show (0 : Int) ≤ ((10 ^ (b - m).toNat : Nat) : Int) by omega)
          rw [Int.neg_mul] at this
          omega
      · intro h
        have := Int.mul_pos (show 0 < a by omega) (show (0 : Int) < ((10 ^ (b - m).toNat : Nat) : Int) by omega)
        omega
  obtain ⟨A, e1, e2, e3, e4⟩ := key a b (by omega)
  obtain ⟨C, f1, f2, f3, f4⟩ := key c d (by omega)
  unfold cmpV
  rw [e1, f1, cmpI_mul _ _ (pow_pos10 _), ← cmp_math, e2, f2]
  simp only [e3, f4]

set_option maxRecDepth 1000000 in
set_option maxHeartbeats 8000000 in
theorem rcmp_zero (a b c d : Int) (ha : rightB a b = true) (hc : rightB c d = true) (L : List UInt8) (s : Bool) (m : Int) (S : List UInt8) (hS : S = strip L) (hz : S.length = 0)
    (PL0 : ∀ va vb w, Vd w va (digs a) → Vd w vb (digs (-c)) → Calls Tryd.prog 44 #[.agg #[.bool (decide (a < 0)), va, .int .i64 b], .agg #[.bool (decide (-c < 0)), vb, .int .i64 d]] w (DecD s L m w)) (w : World) (ht : Tab w) :
    Calls Tryd.prog 26 #[numV a b, numV c d] w fun e w' => e = .returned (.int .i64 0) ∧ Below w.heap.size w w' := by
  obtain ⟨ba, bb1, bb2⟩ := right_bounds ha
  obtain ⟨bc, bd1, bd2⟩ := right_bounds hc
  obtain ⟨sa, hsa⟩ : ∃ s, s = decide (a < 0) := ⟨_, rfl⟩
  obtain ⟨sc, hsc⟩ : ∃ s, s = decide (-c < 0) := ⟨_, rfl⟩
  have OF1 : Hid (∀ w1, Calls Tryd.prog 45 #[.agg #[.int .i64 a, .int .i64 b]] w1 fun r w' => ∃ v, r = .returned (.agg #[.bool sa, v, .int .i64 b]) ∧ Vd w' v (digs a) ∧ Below w1.heap.size w1 w') := by
    intro w1; rw [hsa]; exact of_any a b (by omega) (by omega) w1
  have OF2 : Hid (∀ w1, Calls Tryd.prog 45 #[.agg #[.int .i64 (-c), .int .i64 d]] w1 fun r w' => ∃ v, r = .returned (.agg #[.bool sc, v, .int .i64 d]) ∧ Vd w' v (digs (-c)) ∧ Below w1.heap.size w1 w') := by
    intro w1; rw [hsc]; exact of_any (-c) d (by omega) (by omega) w1
  rw [← hsa, ← hsc] at PL0
  have N2 : Hid (∀ w1, Calls Tryd.prog 24 #[.agg #[.int .i64 c, .int .i64 d]] w1 fun r w' => r = .returned (.agg #[.int .i64 (-c), .int .i64 d]) ∧ Below w1.heap.size w1 w') := by
    intro w1; have := rneg_any c d w1; rw [show negP c d = (-c, d) from if_pos hc] at this; exact this
  obtain ⟨n, hn⟩ : ∃ n, n = L.length := ⟨_, rfl⟩
  have PL : Hid (∀ va vb w1, Vd w1 va (digs a) → Vd w1 vb (digs (-c)) → Calls Tryd.prog 44 #[.agg #[.bool sa, va, .int .i64 b], .agg #[.bool sc, vb, .int .i64 d]] w1 fun e w' => ∃ A cc, e = .returned (.agg #[.bool s, .slice A n cc, .int .i64 m]) ∧ L.length ≤ cc ∧ cc ≤ 9223372036854775807 ∧ RdD w' A L ∧ Below w1.heap.size w1 w') := by rw [hn]; exact PL0
  have ST : Hid (∀ (A : Option Addr) (cc : Nat) (w1 : World), RdD w1 A L → L.length ≤ cc → cc ≤ 9223372036854775807 → Calls Tryd.prog 57 #[.slice A n cc] w1 fun e w' => ∃ A' c', e = .returned (.slice A' 0 c') ∧ Below w1.heap.size w1 w') := fun A cc w1 r1 r2 r3 => by
    rw [hn]
    refine (rstrip_any A L cc w1 r1 r2 r3).mono ?_
    rintro e w' ⟨A', c', rfl, _, _, _, hb⟩
    rw [← hS, hz]
    exact ⟨A', c', rfl, hb⟩
  have HFD : ∀ (A : Option Addr) (cc : Nat) (w1 : World), (Instr.field 45 (.agg #[.bool s, .slice A n cc, .int .i64 m]) 1).run Tryd.prog w1 = .ok (.slice A n cc) w1 := fun _ _ _ => by kernel_rfl
  have HFN : ∀ (A : Option Addr) (cc : Nat) (w1 : World), (Instr.field 45 (.agg #[.bool s, .slice A n cc, .int .i64 m]) 0).run Tryd.prog w1 = .ok (.bool s) w1 := fun _ _ _ => by kernel_rfl
  have R1 : Hid (∀ w1, Calls Tryd.prog 18 #[.agg #[.int .i64 a, .int .i64 b]] w1 fun r w' => r = .returned (.bool true) ∧ Below w1.heap.size w1 w') := by
    intro w1; have := rright_any a b w1; rw [ha] at this; exact this
  have R2 : Hid (∀ w1, Calls Tryd.prog 18 #[.agg #[.int .i64 c, .int .i64 d]] w1 fun r w' => r = .returned (.bool true) ∧ Below w1.heap.size w1 w') := by
    intro w1; have := rright_any c d w1; rw [hc] at this; exact this
  have H0 := Lib.hid (Kp.first w a b c d ht)
  clear ha hc ba bb1 bb2 bc bd1 bd2 PL0 hsa hsc hn hz hS ht
  skip
  unfold numV
  go_enter Tryd.func26, Tryd.ntmps26
  go_wp2_with fail
  refine (R1.out _).mono ?_
  rintro e w1 ⟨rfl, hb1⟩
  have K1 := H0.out.later hb1
  clear hb1
  obtain ⟨p0, p1, p2, p3, _⟩ := id K1
  go_wp2_with fail
  refine (R2.out _).mono ?_
  rintro e w2 ⟨rfl, hb2⟩
  have K2 := K1.later hb2
  clear hb2 p0 p1 p2 p3 K1
  obtain ⟨p0, p1, p2, p3, _⟩ := id K2
  go_wp2_with fail
  go_region_held3 (fun w' => w'.cell? ⟨w.heap.size, 0, none⟩ = some (.int .i64 a) ∧ w'.cell? ⟨w.heap.size, 1, none⟩ = some (.int .i64 b) ∧ w'.cell? ⟨w.heap.size + 1, 0, none⟩ = some (.int .i64 c) ∧ w'.cell? ⟨w.heap.size + 1, 1, none⟩ = some (.int .i64 d) ∧ w.heap.size + 2 ≤ w'.heap.size ∧ Tab w' ∧ Below w.heap.size w w')
    ((show Kp w a b c d _; with_reducible first | exact K2.later (below_dr _) | exact K5.out))
    (first
      | (go_at_call_of 45 (Value.agg #[.int .i64 a, .int .i64 b]); refine (OF1.out _).mono ?_; rintro e w5 ⟨v5, rfl, hV5, hb5⟩; have K5 := Lib.hid (Kp.later (show Kp w a b c d _ by assumption) hb5))
      | (go_at_call 24; refine (N2.out _).mono ?_; rintro e w9 ⟨rfl, hb9⟩; have K5 := Lib.hid (Kp.later (show Kp w a b c d _ by assumption) hb9))
      | (go_at_call_of 45 (Value.agg #[.int .i64 (-c), .int .i64 d]); refine (OF2.out _).mono ?_; rintro e w6 ⟨v6, rfl, hV6, hb6⟩; have K5 := Lib.hid (Kp.later (show Kp w a b c d _ by assumption) hb6))
      | (go_at_call 44; refine (PL.out _ _ _ ((hV5.below hb9).below hb6) hV6).mono ?_; rintro e w7 ⟨A7, c7, rfl, q1, q2, q3, hb7⟩; have K5 := Lib.hid (Kp.later (show Kp w a b c d _ by assumption) hb7))
      | (go_at_call 57; refine (ST.out _ _ _ q3 q1 q2).mono ?_; rintro e w8 ⟨A8, c8, rfl, hb8⟩; have K5 := Lib.hid (Kp.later (show Kp w a b c d _ by assumption) hb8)))
  have hk : Below w.heap.size w w8 := K5.out.2.2.2.2.2.2
  clear hb8 K5
  go_wp2
  go_ret
  exact ⟨rfl, hk⟩

set_option maxRecDepth 1000000 in
set_option maxHeartbeats 8000000 in
theorem rcmp_low (a b c d : Int) (ha : rightB a b = true) (hc : rightB c d = true) (L : List UInt8) (s : Bool) (m : Int) (S : List UInt8) (r : Nat) (hS : S = strip L) (hz : S.length = r + 1) (hs : s = true) (hr : r ≤ 100000)
    (PL0 : ∀ va vb w, Vd w va (digs a) → Vd w vb (digs (-c)) → Calls Tryd.prog 44 #[.agg #[.bool (decide (a < 0)), va, .int .i64 b], .agg #[.bool (decide (-c < 0)), vb, .int .i64 d]] w (DecD s L m w)) (w : World) (ht : Tab w) :
    Calls Tryd.prog 26 #[numV a b, numV c d] w fun e w' => e = .returned (.int .i64 (-1)) ∧ Below w.heap.size w w' := by
  obtain ⟨ba, bb1, bb2⟩ := right_bounds ha
  obtain ⟨bc, bd1, bd2⟩ := right_bounds hc
  obtain ⟨sa, hsa⟩ : ∃ s, s = decide (a < 0) := ⟨_, rfl⟩
  obtain ⟨sc, hsc⟩ : ∃ s, s = decide (-c < 0) := ⟨_, rfl⟩
  have OF1 : Hid (∀ w1, Calls Tryd.prog 45 #[.agg #[.int .i64 a, .int .i64 b]] w1 fun r w' => ∃ v, r = .returned (.agg #[.bool sa, v, .int .i64 b]) ∧ Vd w' v (digs a) ∧ Below w1.heap.size w1 w') := by
    intro w1; rw [hsa]; exact of_any a b (by omega) (by omega) w1
  have OF2 : Hid (∀ w1, Calls Tryd.prog 45 #[.agg #[.int .i64 (-c), .int .i64 d]] w1 fun r w' => ∃ v, r = .returned (.agg #[.bool sc, v, .int .i64 d]) ∧ Vd w' v (digs (-c)) ∧ Below w1.heap.size w1 w') := by
    intro w1; rw [hsc]; exact of_any (-c) d (by omega) (by omega) w1
  rw [← hsa, ← hsc] at PL0
  have N2 : Hid (∀ w1, Calls Tryd.prog 24 #[.agg #[.int .i64 c, .int .i64 d]] w1 fun r w' => r = .returned (.agg #[.int .i64 (-c), .int .i64 d]) ∧ Below w1.heap.size w1 w') := by
    intro w1; have := rneg_any c d w1; rw [show negP c d = (-c, d) from if_pos hc] at this; exact this
  obtain ⟨n, hn⟩ : ∃ n, n = L.length := ⟨_, rfl⟩
  have PL : Hid (∀ va vb w1, Vd w1 va (digs a) → Vd w1 vb (digs (-c)) → Calls Tryd.prog 44 #[.agg #[.bool sa, va, .int .i64 b], .agg #[.bool sc, vb, .int .i64 d]] w1 fun e w' => ∃ A cc, e = .returned (.agg #[.bool s, .slice A n cc, .int .i64 m]) ∧ L.length ≤ cc ∧ cc ≤ 9223372036854775807 ∧ RdD w' A L ∧ Below w1.heap.size w1 w') := by rw [hn]; exact PL0
  have ST : Hid (∀ (A : Option Addr) (cc : Nat) (w1 : World), RdD w1 A L → L.length ≤ cc → cc ≤ 9223372036854775807 → Calls Tryd.prog 57 #[.slice A n cc] w1 fun e w' => ∃ A' c', e = .returned (.slice A' (r + 1) c') ∧ Below w1.heap.size w1 w') := fun A cc w1 r1 r2 r3 => by
    rw [hn]
    refine (rstrip_any A L cc w1 r1 r2 r3).mono ?_
    rintro e w' ⟨A', c', rfl, _, _, _, hb⟩
    rw [← hS, hz]
    exact ⟨A', c', rfl, hb⟩
  have HFD : ∀ (A : Option Addr) (cc : Nat) (w1 : World), (Instr.field 45 (.agg #[.bool s, .slice A n cc, .int .i64 m]) 1).run Tryd.prog w1 = .ok (.slice A n cc) w1 := fun _ _ _ => by kernel_rfl
  have HFN : ∀ (A : Option Addr) (cc : Nat) (w1 : World), (Instr.field 45 (.agg #[.bool s, .slice A n cc, .int .i64 m]) 0).run Tryd.prog w1 = .ok (.bool s) w1 := fun _ _ _ => by kernel_rfl
  have R1 : Hid (∀ w1, Calls Tryd.prog 18 #[.agg #[.int .i64 a, .int .i64 b]] w1 fun r w' => r = .returned (.bool true) ∧ Below w1.heap.size w1 w') := by
    intro w1; have := rright_any a b w1; rw [ha] at this; exact this
  have R2 : Hid (∀ w1, Calls Tryd.prog 18 #[.agg #[.int .i64 c, .int .i64 d]] w1 fun r w' => r = .returned (.bool true) ∧ Below w1.heap.size w1 w') := by
    intro w1; have := rright_any c d w1; rw [hc] at this; exact this
  have H0 := Lib.hid (Kp.first w a b c d ht)
  clear ha hc ba bb1 bb2 bc bd1 bd2 PL0 hsa hsc hn hz hS ht
  subst hs
  unfold numV
  go_enter Tryd.func26, Tryd.ntmps26
  go_wp2_with fail
  refine (R1.out _).mono ?_
  rintro e w1 ⟨rfl, hb1⟩
  have K1 := H0.out.later hb1
  clear hb1
  obtain ⟨p0, p1, p2, p3, _⟩ := id K1
  go_wp2_with fail
  refine (R2.out _).mono ?_
  rintro e w2 ⟨rfl, hb2⟩
  have K2 := K1.later hb2
  clear hb2 p0 p1 p2 p3 K1
  obtain ⟨p0, p1, p2, p3, _⟩ := id K2
  go_wp2_with fail
  go_region_held3 (fun w' => w'.cell? ⟨w.heap.size, 0, none⟩ = some (.int .i64 a) ∧ w'.cell? ⟨w.heap.size, 1, none⟩ = some (.int .i64 b) ∧ w'.cell? ⟨w.heap.size + 1, 0, none⟩ = some (.int .i64 c) ∧ w'.cell? ⟨w.heap.size + 1, 1, none⟩ = some (.int .i64 d) ∧ w.heap.size + 2 ≤ w'.heap.size ∧ Tab w' ∧ Below w.heap.size w w')
    ((show Kp w a b c d _; with_reducible first | exact K2.later (below_dr _) | exact K5.out))
    (first
      | (go_at_call_of 45 (Value.agg #[.int .i64 a, .int .i64 b]); refine (OF1.out _).mono ?_; rintro e w5 ⟨v5, rfl, hV5, hb5⟩; have K5 := Lib.hid (Kp.later (show Kp w a b c d _ by assumption) hb5))
      | (go_at_call 24; refine (N2.out _).mono ?_; rintro e w9 ⟨rfl, hb9⟩; have K5 := Lib.hid (Kp.later (show Kp w a b c d _ by assumption) hb9))
      | (go_at_call_of 45 (Value.agg #[.int .i64 (-c), .int .i64 d]); refine (OF2.out _).mono ?_; rintro e w6 ⟨v6, rfl, hV6, hb6⟩; have K5 := Lib.hid (Kp.later (show Kp w a b c d _ by assumption) hb6))
      | (go_at_call 44; refine (PL.out _ _ _ ((hV5.below hb9).below hb6) hV6).mono ?_; rintro e w7 ⟨A7, c7, rfl, q1, q2, q3, hb7⟩; have K5 := Lib.hid (Kp.later (show Kp w a b c d _ by assumption) hb7))
      | (go_at_call 57; refine (ST.out _ _ _ q3 q1 q2).mono ?_; rintro e w8 ⟨A8, c8, rfl, hb8⟩; have K5 := Lib.hid (Kp.later (show Kp w a b c d _ by assumption) hb8)))
  have K3 : Kp w a b c d w8 := K5.out
  clear hb5 hb6 hb7 hb8 hb9 K5 hV5 hV6 q1 q2 q3 K2 p0 p1 p2 p3
  obtain ⟨p0, p1, p2, p3, _⟩ := id K3
  go_wp2_with fail
  go_region_held3 (fun w' => w'.cell? ⟨w.heap.size, 0, none⟩ = some (.int .i64 a) ∧ w'.cell? ⟨w.heap.size, 1, none⟩ = some (.int .i64 b) ∧ w'.cell? ⟨w.heap.size + 1, 0, none⟩ = some (.int .i64 c) ∧ w'.cell? ⟨w.heap.size + 1, 1, none⟩ = some (.int .i64 d) ∧ w.heap.size + 2 ≤ w'.heap.size ∧ Tab w' ∧ Below w.heap.size w w')
    ((show Kp w a b c d _; with_reducible first | exact K3.later (below_dr _) | exact K5.out))
    (first
      | (go_at_call_of 45 (Value.agg #[.int .i64 a, .int .i64 b]); refine (OF1.out _).mono ?_; rintro e w5 ⟨v5, rfl, hV5, hb5⟩; have K5 := Lib.hid (Kp.later (show Kp w a b c d _ by assumption) hb5))
      | (go_at_call 24; refine (N2.out _).mono ?_; rintro e w9 ⟨rfl, hb9⟩; have K5 := Lib.hid (Kp.later (show Kp w a b c d _ by assumption) hb9))
      | (go_at_call_of 45 (Value.agg #[.int .i64 (-c), .int .i64 d]); refine (OF2.out _).mono ?_; rintro e w6 ⟨v6, rfl, hV6, hb6⟩; have K5 := Lib.hid (Kp.later (show Kp w a b c d _ by assumption) hb6))
      | (go_at_call 44; refine (PL.out _ _ _ ((hV5.below hb9).below hb6) hV6).mono ?_; rintro e w7 ⟨A7, c7, rfl, q1, q2, q3, hb7⟩; have K5 := Lib.hid (Kp.later (show Kp w a b c d _ by assumption) hb7)))
  have hk : Below w.heap.size w w7 := K5.out.2.2.2.2.2.2
  clear hb7 K5
  go_wp2
  go_ret
  exact ⟨rfl, hk⟩

set_option maxRecDepth 1000000 in
set_option maxHeartbeats 8000000 in
theorem rcmp_high (a b c d : Int) (ha : rightB a b = true) (hc : rightB c d = true) (L : List UInt8) (s : Bool) (m : Int) (S : List UInt8) (r : Nat) (hS : S = strip L) (hz : S.length = r + 1) (hs : s = false) (hr : r ≤ 100000)
    (PL0 : ∀ va vb w, Vd w va (digs a) → Vd w vb (digs (-c)) → Calls Tryd.prog 44 #[.agg #[.bool (decide (a < 0)), va, .int .i64 b], .agg #[.bool (decide (-c < 0)), vb, .int .i64 d]] w (DecD s L m w)) (w : World) (ht : Tab w) :
    Calls Tryd.prog 26 #[numV a b, numV c d] w fun e w' => e = .returned (.int .i64 1) ∧ Below w.heap.size w w' := by
  obtain ⟨ba, bb1, bb2⟩ := right_bounds ha
  obtain ⟨bc, bd1, bd2⟩ := right_bounds hc
  obtain ⟨sa, hsa⟩ : ∃ s, s = decide (a < 0) := ⟨_, rfl⟩
  obtain ⟨sc, hsc⟩ : ∃ s, s = decide (-c < 0) := ⟨_, rfl⟩
  have OF1 : Hid (∀ w1, Calls Tryd.prog 45 #[.agg #[.int .i64 a, .int .i64 b]] w1 fun r w' => ∃ v, r = .returned (.agg #[.bool sa, v, .int .i64 b]) ∧ Vd w' v (digs a) ∧ Below w1.heap.size w1 w') := by
    intro w1; rw [hsa]; exact of_any a b (by omega) (by omega) w1
  have OF2 : Hid (∀ w1, Calls Tryd.prog 45 #[.agg #[.int .i64 (-c), .int .i64 d]] w1 fun r w' => ∃ v, r = .returned (.agg #[.bool sc, v, .int .i64 d]) ∧ Vd w' v (digs (-c)) ∧ Below w1.heap.size w1 w') := by
    intro w1; rw [hsc]; exact of_any (-c) d (by omega) (by omega) w1
  rw [← hsa, ← hsc] at PL0
  have N2 : Hid (∀ w1, Calls Tryd.prog 24 #[.agg #[.int .i64 c, .int .i64 d]] w1 fun r w' => r = .returned (.agg #[.int .i64 (-c), .int .i64 d]) ∧ Below w1.heap.size w1 w') := by
    intro w1; have := rneg_any c d w1; rw [show negP c d = (-c, d) from if_pos hc] at this; exact this
  obtain ⟨n, hn⟩ : ∃ n, n = L.length := ⟨_, rfl⟩
  have PL : Hid (∀ va vb w1, Vd w1 va (digs a) → Vd w1 vb (digs (-c)) → Calls Tryd.prog 44 #[.agg #[.bool sa, va, .int .i64 b], .agg #[.bool sc, vb, .int .i64 d]] w1 fun e w' => ∃ A cc, e = .returned (.agg #[.bool s, .slice A n cc, .int .i64 m]) ∧ L.length ≤ cc ∧ cc ≤ 9223372036854775807 ∧ RdD w' A L ∧ Below w1.heap.size w1 w') := by rw [hn]; exact PL0
  have ST : Hid (∀ (A : Option Addr) (cc : Nat) (w1 : World), RdD w1 A L → L.length ≤ cc → cc ≤ 9223372036854775807 → Calls Tryd.prog 57 #[.slice A n cc] w1 fun e w' => ∃ A' c', e = .returned (.slice A' (r + 1) c') ∧ Below w1.heap.size w1 w') := fun A cc w1 r1 r2 r3 => by
    rw [hn]
    refine (rstrip_any A L cc w1 r1 r2 r3).mono ?_
    rintro e w' ⟨A', c', rfl, _, _, _, hb⟩
    rw [← hS, hz]
    exact ⟨A', c', rfl, hb⟩
  have HFD : ∀ (A : Option Addr) (cc : Nat) (w1 : World), (Instr.field 45 (.agg #[.bool s, .slice A n cc, .int .i64 m]) 1).run Tryd.prog w1 = .ok (.slice A n cc) w1 := fun _ _ _ => by kernel_rfl
  have HFN : ∀ (A : Option Addr) (cc : Nat) (w1 : World), (Instr.field 45 (.agg #[.bool s, .slice A n cc, .int .i64 m]) 0).run Tryd.prog w1 = .ok (.bool s) w1 := fun _ _ _ => by kernel_rfl
  have R1 : Hid (∀ w1, Calls Tryd.prog 18 #[.agg #[.int .i64 a, .int .i64 b]] w1 fun r w' => r = .returned (.bool true) ∧ Below w1.heap.size w1 w') := by
    intro w1; have := rright_any a b w1; rw [ha] at this; exact this
  have R2 : Hid (∀ w1, Calls Tryd.prog 18 #[.agg #[.int .i64 c, .int .i64 d]] w1 fun r w' => r = .returned (.bool true) ∧ Below w1.heap.size w1 w') := by
    intro w1; have := rright_any c d w1; rw [hc] at this; exact this
  have H0 := Lib.hid (Kp.first w a b c d ht)
  clear ha hc ba bb1 bb2 bc bd1 bd2 PL0 hsa hsc hn hz hS ht
  subst hs
  unfold numV
  go_enter Tryd.func26, Tryd.ntmps26
  go_wp2_with fail
  refine (R1.out _).mono ?_
  rintro e w1 ⟨rfl, hb1⟩
  have K1 := H0.out.later hb1
  clear hb1
  obtain ⟨p0, p1, p2, p3, _⟩ := id K1
  go_wp2_with fail
  refine (R2.out _).mono ?_
  rintro e w2 ⟨rfl, hb2⟩
  have K2 := K1.later hb2
  clear hb2 p0 p1 p2 p3 K1
  obtain ⟨p0, p1, p2, p3, _⟩ := id K2
  go_wp2_with fail
  go_region_held3 (fun w' => w'.cell? ⟨w.heap.size, 0, none⟩ = some (.int .i64 a) ∧ w'.cell? ⟨w.heap.size, 1, none⟩ = some (.int .i64 b) ∧ w'.cell? ⟨w.heap.size + 1, 0, none⟩ = some (.int .i64 c) ∧ w'.cell? ⟨w.heap.size + 1, 1, none⟩ = some (.int .i64 d) ∧ w.heap.size + 2 ≤ w'.heap.size ∧ Tab w' ∧ Below w.heap.size w w')
    ((show Kp w a b c d _; with_reducible first | exact K2.later (below_dr _) | exact K5.out))
    (first
      | (go_at_call_of 45 (Value.agg #[.int .i64 a, .int .i64 b]); refine (OF1.out _).mono ?_; rintro e w5 ⟨v5, rfl, hV5, hb5⟩; have K5 := Lib.hid (Kp.later (show Kp w a b c d _ by assumption) hb5))
      | (go_at_call 24; refine (N2.out _).mono ?_; rintro e w9 ⟨rfl, hb9⟩; have K5 := Lib.hid (Kp.later (show Kp w a b c d _ by assumption) hb9))
      | (go_at_call_of 45 (Value.agg #[.int .i64 (-c), .int .i64 d]); refine (OF2.out _).mono ?_; rintro e w6 ⟨v6, rfl, hV6, hb6⟩; have K5 := Lib.hid (Kp.later (show Kp w a b c d _ by assumption) hb6))
      | (go_at_call 44; refine (PL.out _ _ _ ((hV5.below hb9).below hb6) hV6).mono ?_; rintro e w7 ⟨A7, c7, rfl, q1, q2, q3, hb7⟩; have K5 := Lib.hid (Kp.later (show Kp w a b c d _ by assumption) hb7))
      | (go_at_call 57; refine (ST.out _ _ _ q3 q1 q2).mono ?_; rintro e w8 ⟨A8, c8, rfl, hb8⟩; have K5 := Lib.hid (Kp.later (show Kp w a b c d _ by assumption) hb8)))
  have K3 : Kp w a b c d w8 := K5.out
  clear hb5 hb6 hb7 hb8 hb9 K5 hV5 hV6 q1 q2 q3 K2 p0 p1 p2 p3
  obtain ⟨p0, p1, p2, p3, _⟩ := id K3
  go_wp2_with fail
  go_region_held3 (fun w' => w'.cell? ⟨w.heap.size, 0, none⟩ = some (.int .i64 a) ∧ w'.cell? ⟨w.heap.size, 1, none⟩ = some (.int .i64 b) ∧ w'.cell? ⟨w.heap.size + 1, 0, none⟩ = some (.int .i64 c) ∧ w'.cell? ⟨w.heap.size + 1, 1, none⟩ = some (.int .i64 d) ∧ w.heap.size + 2 ≤ w'.heap.size ∧ Tab w' ∧ Below w.heap.size w w')
    ((show Kp w a b c d _; with_reducible first | exact K3.later (below_dr _) | exact K5.out))
    (first
      | (go_at_call_of 45 (Value.agg #[.int .i64 a, .int .i64 b]); refine (OF1.out _).mono ?_; rintro e w5 ⟨v5, rfl, hV5, hb5⟩; have K5 := Lib.hid (Kp.later (show Kp w a b c d _ by assumption) hb5))
      | (go_at_call 24; refine (N2.out _).mono ?_; rintro e w9 ⟨rfl, hb9⟩; have K5 := Lib.hid (Kp.later (show Kp w a b c d _ by assumption) hb9))
      | (go_at_call_of 45 (Value.agg #[.int .i64 (-c), .int .i64 d]); refine (OF2.out _).mono ?_; rintro e w6 ⟨v6, rfl, hV6, hb6⟩; have K5 := Lib.hid (Kp.later (show Kp w a b c d _ by assumption) hb6))
      | (go_at_call 44; refine (PL.out _ _ _ ((hV5.below hb9).below hb6) hV6).mono ?_; rintro e w7 ⟨A7, c7, rfl, q1, q2, q3, hb7⟩; have K5 := Lib.hid (Kp.later (show Kp w a b c d _ by assumption) hb7)))
  have hk : Below w.heap.size w w7 := K5.out.2.2.2.2.2.2
  clear hb7 K5
  go_wp2
  go_ret
  exact ⟨rfl, hk⟩

theorem rcmp_yes (a b c d : Int) (ha : rightB a b = true) (hc : rightB c d = true) (w : World) (ht : Tab w) :
    Calls Tryd.prog 26 #[numV a b, numV c d] w fun e w' => e = .returned (.int .i64 (cmpV a b c d)) ∧ Below w.heap.size w w' := by
  obtain ⟨ba, bb1, bb2⟩ := right_bounds ha
  obtain ⟨bc, bd1, bd2⟩ := right_bounds hc
  obtain ⟨a1, a2, a3⟩ := digs_val a
  obtain ⟨c1, c2, c3⟩ := digs_val (-c)
  have la := digs_length a (by omega) (by omega)
  have lc := digs_length (-c) (by omega) (by omega)
  obtain ⟨L, hL1, hL2, hL3, PL0⟩ := plus_any (decide (a < 0)) (decide (-c < 0)) b d (digs a) (digs (-c)) (by omega) (by omega) (by omega) (by omega) (by omega) (by omega) a2 c2 (min b d) rfl _ _ rfl rfl
  rw [a1, c1, Int.natAbs_neg] at hL3 PL0
  rw [← rcmp_val a b c d (min b d) rfl (by omega)]
  have hsv := strip_val L
  have hsl := strip_length L
  by_cases hz : (strip L).length = 0
  · have h0 : valN L = 0 := by rw [← hsv, List.eq_nil_of_length_eq_zero hz]; rfl
    rw [← hL3, if_pos h0]
    exact rcmp_zero a b c d ha hc L _ _ _ rfl hz PL0 w ht
  · have h0 : ¬ valN L = 0 := by
      rw [← hsv]
      have h1 := strip_nz L
      cases hc : strip L with
      | nil => rw [hc] at hz; simp at hz
      | cons x t => rw [hc] at h1; have := h1.pos; have := pow_pos10 t.length; omega
    rw [← hL3, if_neg h0]
    obtain ⟨r, hr⟩ : ∃ r, (strip L).length = r + 1 := ⟨(strip L).length - 1, by omega⟩
    split
    · rename_i hs
      exact rcmp_low a b c d ha hc L _ _ _ r rfl hr hs (by omega) PL0 w ht
    · rename_i hs
      exact rcmp_high a b c d ha hc L _ _ _ r rfl hr (by simpa using hs) (by omega) PL0 w ht
theorem cmpX_any (a b c d : Int) (hw1 : Wf a b) (hw2 : Wf c d) (w : World) (ht : Tab w) : Calls Tryd.prog 25 #[numV a b, numV c d] w fun e w' => e = .returned (.int .i64 (cmpX a b c d)) ∧ Below w.heap.size w w' := by
  unfold cmpX
  cases ha : rightB a b
  · exact cmp_no1 a b c d hw1 hw2 ha w
  · cases hc : rightB c d
    · exact cmp_no2 a b c d hw1 hw2 ha hc w
    · exact cmp_any a b c d ha hc w ht
theorem rcmpX_any (a b c d : Int) (hw1 : Wf a b) (hw2 : Wf c d) (w : World) (ht : Tab w) : Calls Tryd.prog 26 #[numV a b, numV c d] w fun e w' => e = .returned (.int .i64 (cmpX a b c d)) ∧ Below w.heap.size w w' := by
  unfold cmpX
  cases ha : rightB a b
  · exact rcmp_no1 a b c d hw1 hw2 ha w
  · cases hc : rightB c d
    · exact rcmp_no2 a b c d hw1 hw2 ha hc w
    · exact rcmp_yes a b c d ha hc w ht

end Go.Proofs.YtkdjdoncmihkfaaDoor
