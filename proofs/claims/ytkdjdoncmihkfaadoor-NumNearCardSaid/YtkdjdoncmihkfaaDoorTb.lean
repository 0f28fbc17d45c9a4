/- The document's Mul. -/
import Derived.Test.YtkdjdoncmihkfaaDoorTa
import Derived.Test.YtkdjdoncmihkfaaDoorRl
namespace Go.Proofs.YtkdjdoncmihkfaaDoor
open Go.RowKit

theorem Vd.open {w : World} {v : Value} {l : List UInt8} (h : Vd w v l) : ∃ A c, v = .slice A l.length c ∧ RdD w A l := by
  rcases h with ⟨rfl, rfl⟩ | ⟨b, off, c, rfl, h1, h2, h3, h4⟩
  · exact ⟨none, 0, rfl, RdD.nil _ _⟩
  · exact ⟨_, c, rfl, fun _ => ⟨b, off, rfl, h3, h4⟩⟩
set_option maxRecDepth 1000000 in
set_option maxHeartbeats 8000000 in
/-- the document's Mul, of every two right numbers -/
theorem rmul_any (a b c d : Int) (ha : rightB a b = true) (hc : rightB c d = true) (w : World) (ht : Tab w) :
    Calls Tryd.prog 28 #[numV a b, numV c d] w fun e w' => e = .returned (numR (mulN a b c d)) ∧ Below w.heap.size w w' := by
  obtain ⟨ba, bb1, bb2⟩ := right_bounds ha
  obtain ⟨bc, bd1, bd2⟩ := right_bounds hc
  obtain ⟨a1, a2, a3⟩ := digs_val a
  obtain ⟨c1, c2, c3⟩ := digs_val c
  have la := digs_length a (by omega) (by omega)
  have lc := digs_length c (by omega) (by omega)
  obtain ⟨P1, P2, P3⟩ := prodL_val (digs a) (digs c) a2 c2
  obtain ⟨L, hL⟩ : ∃ L, L = 0 :: prodL (digs a) (digs c) := ⟨_, rfl⟩
  have hLl : L.length = (digs a).length + (digs c).length + 1 := by rw [hL, List.length_cons, P1]
  have hLd : Dig L := by rw [hL]; exact zero_dig P2
  have hLv : valN L = a.natAbs * c.natAbs := by rw [hL, valN_cons, P3, a1, c1]; simp
  obtain ⟨s, hs⟩ : ∃ s, s = (decide (a < 0) != decide (c < 0)) := ⟨_, rfl⟩
  have hE : nearM s (valN L) (b + d) false = mulN a b c d := by
    rw [near_roundN _ _ _ (by omega) (by omega), hLv, hs]; rfl
  obtain ⟨⟨M, E, ok⟩, hR⟩ : ∃ R, R = mulN a b c d := ⟨_, rfl⟩
  rw [← hR] at hE ⊢
  obtain ⟨n, hn⟩ : ∃ n, n = (digs a).length := ⟨_, rfl⟩
  obtain ⟨m, hm⟩ : ∃ n, n = (digs c).length := ⟨_, rfl⟩
  have TM0 := fun (A1 A2 : Option Addr) (k1 k2 : Nat) (w1 : World) (r1 : RdD w1 A1 (digs a)) (r2 : RdD w1 A2 (digs c)) => times_any (decide (a < 0)) (decide (c < 0)) s hs.symm A1 A2 k1 k2 b d (digs a) (digs c) n m w1 hn.symm hm.symm a2 c2 (by omega) (by omega) (by omega) (by omega) (by omega) (by omega) r1 r2
  obtain ⟨sa, hsa⟩ : ∃ s, s = decide (a < 0) := ⟨_, rfl⟩
  obtain ⟨sc, hsc⟩ : ∃ s, s = decide (c < 0) := ⟨_, rfl⟩
  rw [← hsa, ← hsc, ← hL] at TM0
  rw [← hn, ← hm] at hLl
  have OF1 : Hid (∀ w1, Calls Tryd.prog 45 #[.agg #[.int .i64 a, .int .i64 b]] w1 fun r w' => ∃ A k, r = .returned (.agg #[.bool sa, .slice A n k, .int .i64 b]) ∧ RdD w' A (digs a) ∧ Below w1.heap.size w1 w') := by
    intro w1
    refine (of_any a b (by omega) (by omega) w1).mono ?_
    rintro e w' ⟨v, rfl, hv, hb⟩
    obtain ⟨A, k, rfl, hr⟩ := hv.open
    exact ⟨A, k, by rw [hsa, hn], hr, hb⟩
  have OF2 : Hid (∀ w1, Calls Tryd.prog 45 #[.agg #[.int .i64 c, .int .i64 d]] w1 fun r w' => ∃ A k, r = .returned (.agg #[.bool sc, .slice A m k, .int .i64 d]) ∧ RdD w' A (digs c) ∧ Below w1.heap.size w1 w') := by
    intro w1
    refine (of_any c d (by omega) (by omega) w1).mono ?_
    rintro e w' ⟨v, rfl, hv, hb⟩
    obtain ⟨A, k, rfl, hr⟩ := hv.open
    exact ⟨A, k, by rw [hsc, hm], hr, hb⟩
  have TM : Hid (∀ (A1 A2 : Option Addr) (k1 k2 : Nat) (w1 : World), RdD w1 A1 (digs a) → RdD w1 A2 (digs c) → Calls Tryd.prog 46 #[.agg #[.bool sa, .slice A1 n k1, .int .i64 b], .agg #[.bool sc, .slice A2 m k2, .int .i64 d]] w1 fun e w' => ∃ g k, e = .returned (.agg #[.bool s, .slice (some ⟨g, 0, none⟩) (n + m + 1) k, .int .i64 (b + d)]) ∧ OwnD w' w1.heap.size (.slice (some ⟨g, 0, none⟩) (n + m + 1) k) L ∧ Below w1.heap.size w1 w') := TM0
  have NR : Hid (∀ (B g cc : Nat) (w1 : World), OwnD w1 B (.slice (some ⟨g, 0, none⟩) (n + m + 1) cc) L → Calls Tryd.prog 49 #[.agg #[.bool s, .slice (some ⟨g, 0, none⟩) (n + m + 1) cc, .int .i64 (b + d)], .bool false] w1 fun e w' => e = .returned (.tuple #[.agg #[.int .i64 M, .int .i64 E], .bool ok]) ∧ Below w1.heap.size w1 w') := fun B g cc w1 h => by
    obtain ⟨g', c', hv, hb, hlc, hcm2, hrd⟩ := h.rd
    simp only [Value.slice.injEq, Option.some.injEq, Addr.mk.injEq, and_true] at hv
    obtain ⟨rfl, hv2, rfl⟩ := hv
    have := near_any s (some ⟨g, 0, none⟩) L cc (b + d) false w1 hrd hlc hcm2 (by omega) hLd (by omega) (by omega)
    rw [hE] at this
    rw [hv2]; exact this
  have R1 : Hid (∀ w1, Calls Tryd.prog 18 #[.agg #[.int .i64 a, .int .i64 b]] w1 fun r w' => r = .returned (.bool true) ∧ Below w1.heap.size w1 w') := by
    intro w1; have := rright_any a b w1; rw [ha] at this; exact this
  have R2 : Hid (∀ w1, Calls Tryd.prog 18 #[.agg #[.int .i64 c, .int .i64 d]] w1 fun r w' => r = .returned (.bool true) ∧ Below w1.heap.size w1 w') := by
    intro w1; have := rright_any c d w1; rw [hc] at this; exact this
  have HT := Lib.hid ht
  have hT1 : 1 < w.heap.size := var_lt gPow ht
  clear ha hc ba bc a1 a2 a3 c1 c2 c3 la lc P1 P2 P3 hL hLl hLd hLv hs hE hR hsa hsc hn hm ht TM0
  unfold numV numR
  unfold numV
  simp only
  go_enter Tryd.func28, Tryd.ntmps28
  go_wp2_with fail
  refine (R1.out _).mono ?_
  rintro e w1 ⟨rfl, hb1⟩
  have hT0 := Trio.new w a b c d
  have hB0 := below3 w (.cells #[.int .i64 a, .int .i64 b] 24) (.cells #[.int .i64 c, .int .i64 d] 24) (.cells #[.int .i64 0, .int .i64 0] 24)
  obtain ⟨hT1', hZ1⟩ := hT0.below hb1 (by simp)
  have hW1 := hB0.trans (hb1.mono hB0.size)
  have K0 := Kt.of hT1' hZ1 (HT.out.below hW1) hW1
  clear hT0 hB0 hb1 hT1' hZ1 hW1
  obtain ⟨p0, p1, p2, p3, p4, p5, p6, p7, _⟩ := id K0
  go_wp2_with fail
  refine (R2.out _).mono ?_
  rintro e w2 ⟨rfl, hb2⟩
  have K1 := K0.later hb2
  clear K0 hb2 p0 p1 p2 p3 p4 p5 p6 p7
  obtain ⟨p0, p1, p2, p3, p4, p5, p6, p7, _⟩ := id K1
  go_wp2_with fail
  go_region_held3 (fun w' => w'.cell? ⟨w.heap.size, 0, none⟩ = some (.int .i64 a) ∧ w'.cell? ⟨w.heap.size, 1, none⟩ = some (.int .i64 b) ∧ w'.cell? ⟨w.heap.size + 1, 0, none⟩ = some (.int .i64 c) ∧ w'.cell? ⟨w.heap.size + 1, 1, none⟩ = some (.int .i64 d) ∧
  w'.cell? ⟨w.heap.size + 1 + 1, 0, none⟩ = some (got w' ⟨w.heap.size + 1 + 1, 0, none⟩) ∧ w'.cell? ⟨w.heap.size + 1 + 1, 1, none⟩ = some (got w' ⟨w.heap.size + 1 + 1, 1, none⟩) ∧
  w'.frozen? ⟨w.heap.size + 1 + 1, 0, none⟩ = false ∧ w'.frozen? ⟨w.heap.size + 1 + 1, 1, none⟩ = false ∧ w.heap.size + 3 ≤ w'.heap.size ∧ Tab w' ∧ Below w.heap.size w w')
    ((show Kt w a b c d _; with_reducible first | exact K1.later (below_dr _) | exact K5.out | exact K5.out.put hT1 _ _))
    (first
      | (go_at_call_of 45 (Value.agg #[.int .i64 a, .int .i64 b]); refine (OF1.out _).mono ?_; rintro e w5 ⟨A5, k5, rfl, hV5, hb5⟩; have K5 := Lib.hid (Kt.later (show Kt w a b c d _ by assumption) hb5))
      | (go_at_call_of 45 (Value.agg #[.int .i64 c, .int .i64 d]); refine (OF2.out _).mono ?_; rintro e w6 ⟨A6, k6, rfl, hV6, hb6⟩; have K5 := Lib.hid (Kt.later (show Kt w a b c d _ by assumption) hb6))
      | (go_at_call 46; refine (TM.out _ _ _ _ _ (hV5.below hb6) hV6).mono ?_; rintro e w7 ⟨g7, c7, rfl, ho7, hb7⟩; have K5 := Lib.hid (Kt.later (show Kt w a b c d _ by assumption) hb7))
      | (go_at_call 49; refine (NR.out _ _ _ _ ho7).mono ?_; rintro e w8 ⟨rfl, hb8⟩; have K5 := Lib.hid (Kt.later (show Kt w a b c d _ by assumption) hb8)))
  have K6 : Kt w a b c d w8 := K5.out
  have hr := K6.res (.int .i64 M) (.int .i64 E)
  have hb := (K6.put hT1 (.int .i64 M) (.int .i64 E)).2.2.2.2.2.2.2.2.2.2
  clear K5 K1
  obtain ⟨m0, m1⟩ := hr
  go_wp2
  exact bodyPost_ret (v := .tuple #[.agg #[.int .i64 M, .int .i64 E], .bool ok]) (by simp [results, Tryd.results28, go_sem, m0, m1]) rfl ⟨rfl, hb⟩

set_option maxHeartbeats 2000000 in
theorem mul_no1 (a b c d : Int) (hw1 : Wf a b) (_hw2 : Wf c d) (ha : rightB a b = false) (w : World) : Calls Tryd.prog 27 #[numV a b, numV c d] w fun e w' => e = .returned (numR (0, 0, false)) ∧ Below w.heap.size w w' := by
  have R1 : Hid (∀ w1, Calls Tryd.prog 17 #[.agg #[.int .i64 a, .int .i64 b]] w1 fun r w' => r = .returned (.bool false) ∧ Below w1.heap.size w1 w') := by
    intro w1; have := right_any a b hw1.1.1 hw1.1.2 hw1.2.2 w1; rw [ha] at this; exact this
  clear hw1 _hw2 ha
  unfold numV
  go_enter Tryd.func27, Tryd.ntmps27
  go_wp2_with fail
  refine (R1.out _).mono ?_
  rintro e w1 ⟨rfl, hb1⟩
  have hT0 := Trio.new w a b c d
  have hB0 := below3 w (.cells #[.int .i64 a, .int .i64 b] 24) (.cells #[.int .i64 c, .int .i64 d] 24) (.cells #[.int .i64 0, .int .i64 0] 24)
  obtain ⟨hT1, hZ1⟩ := hT0.below hb1 (by simp)
  have hW1 := hB0.trans (hb1.mono hB0.size)
  clear hT0 hB0 hb1
  obtain ⟨⟨p0, p1, p2, p3⟩, ⟨p4, p5, p6, p7⟩, p8, p9, p10, p11⟩ := id hT1
  go_wp2
  refine bodyPost_ret (v := numR (0, 0, false)) (by simp [numR, numV, results, Tryd.results27, go_sem, p8, p9]) rfl ⟨rfl, ?_⟩
  first | exact hW1 | exact slot_set2 hW1 (by omega) _ _

set_option maxHeartbeats 2000000 in
theorem mul_no2 (a b c d : Int) (hw1 : Wf a b) (hw2 : Wf c d) (ha : rightB a b = true) (hc : rightB c d = false) (w : World) : Calls Tryd.prog 27 #[numV a b, numV c d] w fun e w' => e = .returned (numR (0, 0, false)) ∧ Below w.heap.size w w' := by
  have R1 : Hid (∀ w1, Calls Tryd.prog 17 #[.agg #[.int .i64 a, .int .i64 b]] w1 fun r w' => r = .returned (.bool true) ∧ Below w1.heap.size w1 w') := by
    intro w1; have := right_any a b hw1.1.1 hw1.1.2 hw1.2.2 w1; rw [ha] at this; exact this
  have R2 : Hid (∀ w1, Calls Tryd.prog 17 #[.agg #[.int .i64 c, .int .i64 d]] w1 fun r w' => r = .returned (.bool false) ∧ Below w1.heap.size w1 w') := by
    intro w1; have := right_any c d hw2.1.1 hw2.1.2 hw2.2.2 w1; rw [hc] at this; exact this
  clear hw1 hw2 ha hc
  unfold numV
  go_enter Tryd.func27, Tryd.ntmps27
  go_wp2_with fail
  refine (R1.out _).mono ?_
  rintro e w1 ⟨rfl, hb1⟩
  have hT0 := Trio.new w a b c d
  have hB0 := below3 w (.cells #[.int .i64 a, .int .i64 b] 24) (.cells #[.int .i64 c, .int .i64 d] 24) (.cells #[.int .i64 0, .int .i64 0] 24)
  obtain ⟨hT1, hZ1⟩ := hT0.below hb1 (by simp)
  have hW1 := hB0.trans (hb1.mono hB0.size)
  clear hT0 hB0 hb1
  obtain ⟨⟨p0, p1, p2, p3⟩, ⟨p4, p5, p6, p7⟩, p8, p9, p10, p11⟩ := id hT1
  go_wp2_with fail
  refine (R2.out _).mono ?_
  rintro e w2 ⟨rfl, hb2⟩
  obtain ⟨hT2, hZ2⟩ := hT1.below hb2 hZ1
  have hW2 := hW1.trans (hb2.mono hW1.size)
  clear hT1 hZ1 hW1 hb2 p0 p1 p2 p3 p4 p5 p6 p7 p8 p9 p10 p11
  obtain ⟨⟨p0, p1, p2, p3⟩, ⟨p4, p5, p6, p7⟩, p8, p9, p10, p11⟩ := id hT2
  go_wp2
  refine bodyPost_ret (v := numR (0, 0, false)) (by simp [numR, numV, results, Tryd.results27, go_sem, p8, p9]) rfl ⟨rfl, ?_⟩
  first | exact hW2 | exact slot_set2 hW2 (by omega) _ _

set_option maxHeartbeats 2000000 in
theorem rmul_no1 (a b c d : Int) (_hw1 : Wf a b) (_hw2 : Wf c d) (ha : rightB a b = false) (w : World) : Calls Tryd.prog 28 #[numV a b, numV c d] w fun e w' => e = .returned (numR (0, 0, false)) ∧ Below w.heap.size w w' := by
  have R1 : Hid (∀ w1, Calls Tryd.prog 18 #[.agg #[.int .i64 a, .int .i64 b]] w1 fun r w' => r = .returned (.bool false) ∧ Below w1.heap.size w1 w') := by
    intro w1; have := rright_any a b w1; rw [ha] at this; exact this
  clear _hw1 _hw2 ha
  unfold numV
  go_enter Tryd.func28, Tryd.ntmps28
  go_wp2_with fail
  refine (R1.out _).mono ?_
  rintro e w1 ⟨rfl, hb1⟩
  have hT0 := Trio.new w a b c d
  have hB0 := below3 w (.cells #[.int .i64 a, .int .i64 b] 24) (.cells #[.int .i64 c, .int .i64 d] 24) (.cells #[.int .i64 0, .int .i64 0] 24)
  obtain ⟨hT1, hZ1⟩ := hT0.below hb1 (by simp)
  have hW1 := hB0.trans (hb1.mono hB0.size)
  clear hT0 hB0 hb1
  obtain ⟨⟨p0, p1, p2, p3⟩, ⟨p4, p5, p6, p7⟩, p8, p9, p10, p11⟩ := id hT1
  go_wp2
  refine bodyPost_ret (v := numR (0, 0, false)) (by simp [numR, numV, results, Tryd.results28, go_sem, p8, p9]) rfl ⟨rfl, ?_⟩
  first | exact hW1 | exact slot_set2 hW1 (by omega) _ _

set_option maxHeartbeats 2000000 in
theorem rmul_no2 (a b c d : Int) (_hw1 : Wf a b) (_hw2 : Wf c d) (ha : rightB a b = true) (hc : rightB c d = false) (w : World) : Calls Tryd.prog 28 #[numV a b, numV c d] w fun e w' => e = .returned (numR (0, 0, false)) ∧ Below w.heap.size w w' := by
  have R1 : Hid (∀ w1, Calls Tryd.prog 18 #[.agg #[.int .i64 a, .int .i64 b]] w1 fun r w' => r = .returned (.bool true) ∧ Below w1.heap.size w1 w') := by
    intro w1; have := rright_any a b w1; rw [ha] at this; exact this
  have R2 : Hid (∀ w1, Calls Tryd.prog 18 #[.agg #[.int .i64 c, .int .i64 d]] w1 fun r w' => r = .returned (.bool false) ∧ Below w1.heap.size w1 w') := by
    intro w1; have := rright_any c d w1; rw [hc] at this; exact this
  clear _hw1 _hw2 ha hc
  unfold numV
  go_enter Tryd.func28, Tryd.ntmps28
  go_wp2_with fail
  refine (R1.out _).mono ?_
  rintro e w1 ⟨rfl, hb1⟩
  have hT0 := Trio.new w a b c d
  have hB0 := below3 w (.cells #[.int .i64 a, .int .i64 b] 24) (.cells #[.int .i64 c, .int .i64 d] 24) (.cells #[.int .i64 0, .int .i64 0] 24)
  obtain ⟨hT1, hZ1⟩ := hT0.below hb1 (by simp)
  have hW1 := hB0.trans (hb1.mono hB0.size)
  clear hT0 hB0 hb1
  obtain ⟨⟨p0, p1, p2, p3⟩, ⟨p4, p5, p6, p7⟩, p8, p9, p10, p11⟩ := id hT1
  go_wp2_with fail
  refine (R2.out _).mono ?_
  rintro e w2 ⟨rfl, hb2⟩
  obtain ⟨hT2, hZ2⟩ := hT1.below hb2 hZ1
  have hW2 := hW1.trans (hb2.mono hW1.size)
  clear hT1 hZ1 hW1 hb2 p0 p1 p2 p3 p4 p5 p6 p7 p8 p9 p10 p11
  obtain ⟨⟨p0, p1, p2, p3⟩, ⟨p4, p5, p6, p7⟩, p8, p9, p10, p11⟩ := id hT2
  go_wp2
  refine bodyPost_ret (v := numR (0, 0, false)) (by simp [numR, numV, results, Tryd.results28, go_sem, p8, p9]) rfl ⟨rfl, ?_⟩
  first | exact hW2 | exact slot_set2 hW2 (by omega) _ _

set_option maxHeartbeats 2000000 in
theorem div_no1 (a b c d : Int) (hw1 : Wf a b) (_hw2 : Wf c d) (ha : rightB a b = false) (w : World) : Calls Tryd.prog 29 #[numV a b, numV c d] w fun e w' => e = .returned (numR (0, 0, false)) ∧ Below w.heap.size w w' := by
  have R1 : Hid (∀ w1, Calls Tryd.prog 17 #[.agg #[.int .i64 a, .int .i64 b]] w1 fun r w' => r = .returned (.bool false) ∧ Below w1.heap.size w1 w') := by
    intro w1; have := right_any a b hw1.1.1 hw1.1.2 hw1.2.2 w1; rw [ha] at this; exact this
  clear hw1 _hw2 ha
  unfold numV
  go_enter Tryd.func29, Tryd.ntmps29
  go_wp2_with fail
  refine (R1.out _).mono ?_
  rintro e w1 ⟨rfl, hb1⟩
  have hT0 := Trio.new w a b c d
  have hB0 := below3 w (.cells #[.int .i64 a, .int .i64 b] 24) (.cells #[.int .i64 c, .int .i64 d] 24) (.cells #[.int .i64 0, .int .i64 0] 24)
  obtain ⟨hT1, hZ1⟩ := hT0.below hb1 (by simp)
  have hW1 := hB0.trans (hb1.mono hB0.size)
  clear hT0 hB0 hb1
  obtain ⟨⟨p0, p1, p2, p3⟩, ⟨p4, p5, p6, p7⟩, p8, p9, p10, p11⟩ := id hT1
  go_wp2
  refine bodyPost_ret (v := numR (0, 0, false)) (by simp [numR, numV, results, Tryd.results29, go_sem, p8, p9]) rfl ⟨rfl, ?_⟩
  first | exact hW1 | exact slot_set2 hW1 (by omega) _ _

set_option maxHeartbeats 2000000 in
theorem div_no2 (a b c d : Int) (hw1 : Wf a b) (hw2 : Wf c d) (ha : rightB a b = true) (hc : rightB c d = false) (w : World) : Calls Tryd.prog 29 #[numV a b, numV c d] w fun e w' => e = .returned (numR (0, 0, false)) ∧ Below w.heap.size w w' := by
  have R1 : Hid (∀ w1, Calls Tryd.prog 17 #[.agg #[.int .i64 a, .int .i64 b]] w1 fun r w' => r = .returned (.bool true) ∧ Below w1.heap.size w1 w') := by
    intro w1; have := right_any a b hw1.1.1 hw1.1.2 hw1.2.2 w1; rw [ha] at this; exact this
  have R2 : Hid (∀ w1, Calls Tryd.prog 17 #[.agg #[.int .i64 c, .int .i64 d]] w1 fun r w' => r = .returned (.bool false) ∧ Below w1.heap.size w1 w') := by
    intro w1; have := right_any c d hw2.1.1 hw2.1.2 hw2.2.2 w1; rw [hc] at this; exact this
  clear hw1 hw2 ha hc
  unfold numV
  go_enter Tryd.func29, Tryd.ntmps29
  go_wp2_with fail
  refine (R1.out _).mono ?_
  rintro e w1 ⟨rfl, hb1⟩
  have hT0 := Trio.new w a b c d
  have hB0 := below3 w (.cells #[.int .i64 a, .int .i64 b] 24) (.cells #[.int .i64 c, .int .i64 d] 24) (.cells #[.int .i64 0, .int .i64 0] 24)
  obtain ⟨hT1, hZ1⟩ := hT0.below hb1 (by simp)
  have hW1 := hB0.trans (hb1.mono hB0.size)
  clear hT0 hB0 hb1
  obtain ⟨⟨p0, p1, p2, p3⟩, ⟨p4, p5, p6, p7⟩, p8, p9, p10, p11⟩ := id hT1
  go_wp2_with fail
  refine (R2.out _).mono ?_
  rintro e w2 ⟨rfl, hb2⟩
  obtain ⟨hT2, hZ2⟩ := hT1.below hb2 hZ1
  have hW2 := hW1.trans (hb2.mono hW1.size)
  clear hT1 hZ1 hW1 hb2 p0 p1 p2 p3 p4 p5 p6 p7 p8 p9 p10 p11
  obtain ⟨⟨p0, p1, p2, p3⟩, ⟨p4, p5, p6, p7⟩, p8, p9, p10, p11⟩ := id hT2
  go_wp2
  refine bodyPost_ret (v := numR (0, 0, false)) (by simp [numR, numV, results, Tryd.results29, go_sem, p8, p9]) rfl ⟨rfl, ?_⟩
  first | exact hW2 | exact slot_set2 hW2 (by omega) _ _

set_option maxHeartbeats 2000000 in
theorem rdiv_no1 (a b c d : Int) (_hw1 : Wf a b) (_hw2 : Wf c d) (ha : rightB a b = false) (w : World) : Calls Tryd.prog 30 #[numV a b, numV c d] w fun e w' => e = .returned (numR (0, 0, false)) ∧ Below w.heap.size w w' := by
  have R1 : Hid (∀ w1, Calls Tryd.prog 18 #[.agg #[.int .i64 a, .int .i64 b]] w1 fun r w' => r = .returned (.bool false) ∧ Below w1.heap.size w1 w') := by
    intro w1; have := rright_any a b w1; rw [ha] at this; exact this
  clear _hw1 _hw2 ha
  unfold numV
  go_enter Tryd.func30, Tryd.ntmps30
  go_wp2_with fail
  refine (R1.out _).mono ?_
  rintro e w1 ⟨rfl, hb1⟩
  have hT0 := Trio.new w a b c d
  have hB0 := below3 w (.cells #[.int .i64 a, .int .i64 b] 24) (.cells #[.int .i64 c, .int .i64 d] 24) (.cells #[.int .i64 0, .int .i64 0] 24)
  obtain ⟨hT1, hZ1⟩ := hT0.below hb1 (by simp)
  have hW1 := hB0.trans (hb1.mono hB0.size)
  clear hT0 hB0 hb1
  obtain ⟨⟨p0, p1, p2, p3⟩, ⟨p4, p5, p6, p7⟩, p8, p9, p10, p11⟩ := id hT1
  go_wp2
  refine bodyPost_ret (v := numR (0, 0, false)) (by simp [numR, numV, results, Tryd.results30, go_sem, p8, p9]) rfl ⟨rfl, ?_⟩
  first | exact hW1 | exact slot_set2 hW1 (by omega) _ _

set_option maxHeartbeats 2000000 in
theorem rdiv_no2 (a b c d : Int) (_hw1 : Wf a b) (_hw2 : Wf c d) (ha : rightB a b = true) (hc : rightB c d = false) (w : World) : Calls Tryd.prog 30 #[numV a b, numV c d] w fun e w' => e = .returned (numR (0, 0, false)) ∧ Below w.heap.size w w' := by
  have R1 : Hid (∀ w1, Calls Tryd.prog 18 #[.agg #[.int .i64 a, .int .i64 b]] w1 fun r w' => r = .returned (.bool true) ∧ Below w1.heap.size w1 w') := by
    intro w1; have := rright_any a b w1; rw [ha] at this; exact this
  have R2 : Hid (∀ w1, Calls Tryd.prog 18 #[.agg #[.int .i64 c, .int .i64 d]] w1 fun r w' => r = .returned (.bool false) ∧ Below w1.heap.size w1 w') := by
    intro w1; have := rright_any c d w1; rw [hc] at this; exact this
  clear _hw1 _hw2 ha hc
  unfold numV
  go_enter Tryd.func30, Tryd.ntmps30
  go_wp2_with fail
  refine (R1.out _).mono ?_
  rintro e w1 ⟨rfl, hb1⟩
  have hT0 := Trio.new w a b c d
  have hB0 := below3 w (.cells #[.int .i64 a, .int .i64 b] 24) (.cells #[.int .i64 c, .int .i64 d] 24) (.cells #[.int .i64 0, .int .i64 0] 24)
  obtain ⟨hT1, hZ1⟩ := hT0.below hb1 (by simp)
  have hW1 := hB0.trans (hb1.mono hB0.size)
  clear hT0 hB0 hb1
  obtain ⟨⟨p0, p1, p2, p3⟩, ⟨p4, p5, p6, p7⟩, p8, p9, p10, p11⟩ := id hT1
  go_wp2_with fail
  refine (R2.out _).mono ?_
  rintro e w2 ⟨rfl, hb2⟩
  obtain ⟨hT2, hZ2⟩ := hT1.below hb2 hZ1
  have hW2 := hW1.trans (hb2.mono hW1.size)
  clear hT1 hZ1 hW1 hb2 p0 p1 p2 p3 p4 p5 p6 p7 p8 p9 p10 p11
  obtain ⟨⟨p0, p1, p2, p3⟩, ⟨p4, p5, p6, p7⟩, p8, p9, p10, p11⟩ := id hT2
  go_wp2
  refine bodyPost_ret (v := numR (0, 0, false)) (by simp [numR, numV, results, Tryd.results30, go_sem, p8, p9]) rfl ⟨rfl, ?_⟩
  first | exact hW2 | exact slot_set2 hW2 (by omega) _ _

def mulX (a b c d : Int) : Int × Int × Bool := if (rightB a b && rightB c d) = true then mulN a b c d else (0, 0, false)
def divX (a b c d : Int) : Int × Int × Bool := if (rightB a b && rightB c d) = true then divF a b c d else (0, 0, false)
theorem mulX_any (a b c d : Int) (hw1 : Wf a b) (hw2 : Wf c d) (w : World) (ht : Tab w) : Calls Tryd.prog 27 #[numV a b, numV c d] w fun e w' => e = .returned (numR (mulX a b c d)) ∧ Below w.heap.size w w' := by
  unfold mulX
  cases ha : rightB a b
  · exact mul_no1 a b c d hw1 hw2 ha w
  · cases hc : rightB c d
    · exact mul_no2 a b c d hw1 hw2 ha hc w
    · exact mul_any a b c d ha hc w ht
theorem rmulX_any (a b c d : Int) (hw1 : Wf a b) (hw2 : Wf c d) (w : World) (ht : Tab w) : Calls Tryd.prog 28 #[numV a b, numV c d] w fun e w' => e = .returned (numR (mulX a b c d)) ∧ Below w.heap.size w w' := by
  unfold mulX
  cases ha : rightB a b
  · exact rmul_no1 a b c d hw1 hw2 ha w
  · cases hc : rightB c d
    · exact rmul_no2 a b c d hw1 hw2 ha hc w
    · exact rmul_any a b c d ha hc w ht
theorem divX_any (a b c d : Int) (hw1 : Wf a b) (hw2 : Wf c d) (w : World) (ht : Tab w) : Calls Tryd.prog 29 #[numV a b, numV c d] w fun e w' => e = .returned (numR (divX a b c d)) ∧ Below w.heap.size w w' := by
  unfold divX
  cases ha : rightB a b
  · exact div_no1 a b c d hw1 hw2 ha w
  · cases hc : rightB c d
    · exact div_no2 a b c d hw1 hw2 ha hc w
    · exact div_any a b c d ha hc w ht
end Go.Proofs.YtkdjdoncmihkfaaDoor
