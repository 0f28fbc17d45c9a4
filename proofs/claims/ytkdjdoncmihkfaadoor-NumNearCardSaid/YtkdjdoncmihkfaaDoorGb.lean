/- The law's near. -/
import Derived.Test.YtkdjdoncmihkfaaDoorGa
namespace Go.Proofs.YtkdjdoncmihkfaaDoor
open Go.RowKit

/-- an exact value's three cells -/
structure D3 (w' : World) (B : Nat) (s : Bool) (v : Value) (e : Int) : Prop where
  c0 : w'.cell? ⟨B, 0, none⟩ = some (.bool s)
  c1 : w'.cell? ⟨B, 1, none⟩ = some v
  c2 : w'.cell? ⟨B, 2, none⟩ = some (.int .i64 e)
  f0 : w'.frozen? ⟨B, 0, none⟩ = false
  f1 : w'.frozen? ⟨B, 1, none⟩ = false
  f2 : w'.frozen? ⟨B, 2, none⟩ = false
  lt : B < w'.heap.size
theorem D3.below {w1 w2 : World} {B : Nat} {s : Bool} {v : Value} {e : Int} {C : Nat} (h : D3 w1 B s v e) (hb : Below C w1 w2) (hC : B < C) : D3 w2 B s v e :=
  ⟨(hb.cell (p := ⟨B, 0, none⟩) hC).trans h.c0, (hb.cell (p := ⟨B, 1, none⟩) hC).trans h.c1, (hb.cell (p := ⟨B, 2, none⟩) hC).trans h.c2, (hb.frozen (p := ⟨B, 0, none⟩) hC).trans h.f0, (hb.frozen (p := ⟨B, 1, none⟩) hC).trans h.f1, (hb.frozen (p := ⟨B, 2, none⟩) hC).trans h.f2, Nat.lt_of_lt_of_le h.lt hb.size⟩
theorem D3.new (w1 : World) (s : Bool) (v : Value) (e : Int) : D3 (w1.alloc (.cells #[.bool s, v, .int .i64 e] 45)) w1.heap.size s v e := by
  refine ⟨?_, ?_, ?_, ?_, ?_, ?_, by simp⟩
  all_goals simp
theorem D3.put {w1 : World} {B : Nat} {s : Bool} {v : Value} {e : Int} (h : D3 w1 B s v e) (s' : Bool) (v' : Value) (e' : Int) : D3 (((w1.setCell ⟨B, 0, none⟩ (.bool s')).setCell ⟨B, 1, none⟩ v').setCell ⟨B, 2, none⟩ (.int .i64 e')) B s' v' e' := by
  have hb : Below B w1 (((w1.setCell ⟨B, 0, none⟩ (.bool s')).setCell ⟨B, 1, none⟩ v').setCell ⟨B, 2, none⟩ (.int .i64 e')) := (((Below.refl _ _).setCell (p := ⟨B, 0, none⟩) (Nat.le_refl _) _).setCell (p := ⟨B, 1, none⟩) (Nat.le_refl _) _).setCell (p := ⟨B, 2, none⟩) (Nat.le_refl _) _
  refine ⟨cell3_0 (is_got h.c0) _ _ _, cell3_1 (is_got h.c1) _ _ _, cell3_2 (is_got h.c2) _ _ _, ?_, ?_, ?_, Nat.lt_of_lt_of_le h.lt hb.size⟩
  · simpa [World.frozen?_setCell] using h.f0
  · simpa [World.frozen?_setCell] using h.f1
  · simpa [World.frozen?_setCell] using h.f2
theorem lit1' (w : World) : Vd (w.alloc (.cells #[.int .i64 1] 3)) (.slice (some ⟨w.heap.size, 0, none⟩) 1 1) [1] := by
  refine .inr ⟨_, 0, 1, rfl, by simp, by omega, by simp, fun j x hx => ?_⟩
  cases j with
  | zero => simp at hx; subst hx; simp
  | succ j => simp at hx
set_option maxRecDepth 1000000 in
set_option maxHeartbeats 8000000 in
theorem near_some_deep (ta te : Int) (ht : rightB ta te = true) (sv : Bool) (ev : Int) (L : List UInt8) (n : Nat) (hn : L.length = n) (hL : Dig L) (hn1 : n ≤ 100) (he0 : -80 ≤ ev) (he1 : ev ≤ 80) (j0 : Nat) (hz : ∀ j, j < j0 → L[j]? = some 0) (hj0 : j0 < n) (xd : UInt8) (hxd : L[j0]? = some xd) (hxd0 : xd ≠ 0)
    (u : Int) (hu : u = (n : Int) - j0 + ev - 15) (hdeep : u < -40) (m1 es : Int) (hm1 : m1 = min ev te) (hes : es = min u m1)
    (hv : plusS false true ((1 + 10 ^ (-40 - u).toNat) * 10 ^ (u - es).toNat) ((plusN sv (!decide (ta < 0)) (valN L * 10 ^ (ev - m1).toNat) (ta.natAbs * 10 ^ (te - m1).toNat) + plusN sv (!decide (ta < 0)) (valN L * 10 ^ (ev - m1).toNat) (ta.natAbs * 10 ^ (te - m1).toNat)) * 10 ^ (m1 - es).toNat) = false)
    (Bv gv cv : Nat) (w : World) (ho : OwnD w Bv (.slice (some ⟨gv, 0, none⟩) n cv) L) :
    Calls Tryd.prog 43 #[numV ta te, .agg #[.bool sv, .slice (some ⟨gv, 0, none⟩) n cv, .int .i64 ev]] w fun r w' => r = .returned (.bool true) ∧ Below w.heap.size w w' := by
  obtain ⟨bt, bt1, bt2⟩ := right_bounds ht
  obtain ⟨a1, a2, a3⟩ := digs_val ta
  have la : (digs ta).length ≤ 15 := by
    rw [digs_len]; exact nd_le 15 _ (by have e15 : (10 : Nat) ^ 15 = 1000000000000000 := by decide
                                        omega)
  obtain ⟨nt, hnt⟩ : ∃ s, s = decide (ta < 0) := ⟨_, rfl⟩
  rw [← hnt] at hv
  obtain ⟨L1, l1, d1, v1, P10⟩ := plus_len sv (!nt) ev te L (digs ta) (by omega) (by omega) (by omega) (by omega) (by omega) (by omega) hL a2 m1 hm1 _ _ rfl rfl
  rw [a1] at v1 P10
  obtain ⟨D, hD⟩ : ∃ D, D = plusN sv (!nt) (valN L * 10 ^ (ev - m1).toNat) (ta.natAbs * 10 ^ (te - m1).toNat) := ⟨_, rfl⟩
  rw [← hD] at hv v1
  have hL1b : L1.length ≤ 230 := by omega
  obtain ⟨L2, l2, d2, v2, P20⟩ := plus_len false false m1 m1 L1 L1 (by omega) (by omega) (by omega) (by omega) (by omega) (by omega) d1 d1 m1 (by omega) _ _ rfl rfl
  have hp0 : valN L1 * 10 ^ (m1 - m1).toNat = D := by rw [v1, Int.sub_self]; simp
  rw [hp0] at v2 P20
  have hs2 : plusS false false D D = false := by unfold plusS; rw [if_pos (by decide)]
  have hv2 : valN L2 = D + D := by rw [v2]; unfold plusN; rw [if_pos (by decide)]
  rw [hs2] at P20
  have hL2b : L2.length ≤ 231 := by rw [l2]; simp; omega
  obtain ⟨L3, l3, d3, v3, P30⟩ := plus_len false false u (-40) [1] [1] (by decide) (by decide) (by omega) (by omega) (by omega) (by omega) (Dig.mk (by decide) (fun _ h => by simp at h)) (Dig.mk (by decide) (fun _ h => by simp at h)) u (by omega) _ _ rfl rfl
  have hv3 : valN L3 = 1 + 10 ^ (-40 - u).toNat := by
    rw [v3]; unfold plusN; rw [if_pos (by decide), Int.sub_self]; simp [valN]
  have hs3 : ∀ U V, plusS false false U V = false := fun U V => by unfold plusS; rw [if_pos (by decide)]
  rw [hs3] at P30
  obtain ⟨n3, hn3e⟩ : ∃ k, k = L3.length := ⟨_, rfl⟩
  rw [← hn3e] at P30
  have P3 := Lib.hid P30
  have hL3b : L3.length ≤ 100 := by rw [l3]; simp; omega
  obtain ⟨L4, l4, d4, v4, P40⟩ := plus_len false true u m1 L3 L2 (by omega) (by omega) (by omega) (by omega) (by omega) (by omega) d3 d2 es hes _ _ rfl rfl
  rw [hv3, hv2, hv] at P40
  obtain ⟨s1, hs1⟩ : ∃ s1, s1 = plusS sv (!nt) (valN L * 10 ^ (ev - m1).toNat) (ta.natAbs * 10 ^ (te - m1).toNat) := ⟨_, rfl⟩
  rw [← hs1] at P10
  obtain ⟨n1, hn1e⟩ : ∃ k, k = L1.length := ⟨_, rfl⟩
  obtain ⟨n2, hn2e⟩ : ∃ k, k = L2.length := ⟨_, rfl⟩
  obtain ⟨n4, hn4e⟩ : ∃ k, k = L4.length := ⟨_, rfl⟩
  have hn4b : n4 ≤ 1000 := by rw [hn4e, l4]; omega
  rw [← hn1e] at P10
  rw [← hn2e] at P20
  rw [← hn4e] at P40
  have OF := Lib.hid (fun w1 => of_any ta te (by omega) (by omega) w1)
  unfold numV at OF
  rw [← hnt] at OF
  have P1 := Lib.hid P10
  have P2 := Lib.hid P20
  have P4 := Lib.hid P40
  have HN := Lib.hid hn
  have HN4 := Lib.hid hn4e
  have HZ := Lib.hid hz
  have hj0n : j0 ≤ n := by omega
  have hj0i : (j0 : Int) < (n : Int) := by omega
  have HXD := Lib.hid hxd
  have hxi : ((xd.toNat : Int) == 0) = false := by
    rw [beq_eq_false_iff_ne]; intro e; exact hxd0 (UInt8.toNat_inj.1 (show xd.toNat = 0 by omega))
  have hw1 : IntKind.i64.wrap ((n : Int) - j0) = (n : Int) - j0 := by rw [IntKind.wrap_i64]; omega
  have hw2 : IntKind.i64.wrap ((n : Int) - j0 + ev) = (n : Int) - j0 + ev := by rw [IntKind.wrap_i64]; omega
  have hw3 : IntKind.i64.wrap ((n : Int) - j0 + ev - 15) = u := by rw [IntKind.wrap_i64]; omega
  have HU := Lib.hid hu
  have hdw := hdeep
  have HB0 := below2 w (.cells #[.int .i64 ta, .int .i64 te] 24) (.cells #[.bool sv, .slice (some ⟨gv, 0, none⟩) n cv, .int .i64 ev] 45)
  have V0 := D3.new (w.alloc (.cells #[.int .i64 ta, .int .i64 te] 24)) sv (.slice (some ⟨gv, 0, none⟩) n cv) ev
  rw [show (w.alloc (.cells #[.int .i64 ta, .int .i64 te] 24)).heap.size = w.heap.size + 1 by simp] at V0
  have hov := (ho.below (HB0))
  clear ht bt bt1 bt2 a1 a2 a3 la hnt hv P10 P20 P40 hD v1 v2 hv2 hs2 hp0 l1 l2 l4 d1 d2 d4 v4 hs1 hn1e hn2e hn4e hn hL hz hm1 hes hL1b hL2b hu hdeep l3 d3 v3 hv3 hs3 P30 hn3e hL3b hxd hxd0 ho
  unfold numV
  go_enter Tryd.func43, Tryd.ntmps43
  obtain ⟨x0, x1, x2, y0, y1, y2, _⟩ := id V0
  go_wp2_with fail
  refine (OF.out _).mono ?_
  rintro r w1 ⟨vt, rfl, hvt, q1⟩
  obtain ⟨At, ct, hvt2, _⟩ := hvt.open
  obtain ⟨kt, hkt⟩ : ∃ kt, kt = (digs ta).length := ⟨_, rfl⟩
  rw [← hkt] at hvt2
  subst hvt2
  have al1 := alloc_below w1 (.cells #[.bool (!nt), .slice At kt ct, .int .i64 te] 45)
  have W1 := D3.new w1 (!nt) (.slice At kt ct) te
  have V1 := (V0.below q1 V0.lt).below al1 (V0.below q1 V0.lt).lt
  have o1 := (hov.below q1).below al1
  have t1 := hvt.below al1
  have b1 := (HB0.trans (q1.mono HB0.size)).trans (al1.mono (Nat.le_trans HB0.size q1.size))
  have HP1 := Lib.hid (P1.out _ _ _ o1.vd t1)
  clear x0 x1 x2 y0 y1 y2 OF q1 hov V0 HB0 hvt al1 hkt t1 P1
  obtain ⟨x0, x1, x2, y0, y1, y2, _⟩ := id V1
  obtain ⟨z0, z1, z2, z3, z4, z5, _⟩ := id W1
  go_wp2_with fail
  refine HP1.out.mono ?_
  rintro r w2 ⟨g1, c1, rfl, o2, q2⟩
  have al2 := alloc_below w2 (.cells #[.bool false, .slice (some ⟨g1, 0, none⟩) n1 c1, .int .i64 m1] 45)
  have O2 := D3.new w2 false (.slice (some ⟨g1, 0, none⟩) n1 c1) m1
  have V2 := (V1.below q2 V1.lt).below al2 (V1.below q2 V1.lt).lt
  have o1' := (o1.below q2).below al2
  have o2' := o2.below al2
  have b2 := (b1.trans (q2.mono b1.size)).trans (al2.mono (Nat.le_trans b1.size q2.size))
  have HP2 := Lib.hid (P2.out _ _ _ o2'.vd o2'.vd)
  clear x0 x1 x2 y0 y1 y2 z0 z1 z2 z3 z4 z5 q2 al2 V1 W1 o1 o2 o2' HP1 b1 P2
  obtain ⟨x0, x1, x2, y0, y1, y2, _⟩ := id V2
  obtain ⟨z0, z1, z2, z3, z4, z5, _⟩ := id O2
  go_wp2_with fail
  refine HP2.out.mono ?_
  rintro r w3 ⟨g2, c2, rfl, o3, q3⟩
  have al3 := alloc_below w3 (.cells #[.bool false, .slice (some ⟨g2, 0, none⟩) n2 c2, .int .i64 m1] 45)
  have T3 := D3.new w3 false (.slice (some ⟨g2, 0, none⟩) n2 c2) m1
  have V3 := (V2.below q3 V2.lt).below al3 (V2.below q3 V2.lt).lt
  have ov := (o1'.below q3).below al3
  have hvd3 := o3.vd
  have Q3a := al3
  have b3 := (b2.trans (q3.mono b2.size)).trans (al3.mono (Nat.le_trans b2.size q3.size))
  have hz3 : w.heap.size + 1 < w3.heap.size := (V2.below q3 V2.lt).lt
  clear x0 x1 x2 y0 y1 y2 z0 z1 z2 z3 z4 z5 q3 al3 V2 O2 o1' o3 HP2 b2
  obtain ⟨x0, x1, x2, y0, y1, y2, _⟩ := id V3
  obtain ⟨z0, z1, z2, z3, z4, z5, _⟩ := id T3
  go_wp2_with fail
  go_loop [8] (fun i' => ∃ j : Nat, j ≤ j0 ∧ i' = .int .i64 (j : Int)) (fun i' => j0 - (intOf i').toNat)
  case atStart => exact ⟨0, Nat.zero_le _, rfl⟩
  case round =>
    obtain ⟨j, hj, rfl⟩ := hrel
    by_cases hjj : j < j0
    · have hcell := (ov.at (k := j) (HZ.out j hjj)).1
      rw [show ((0 : UInt8).toNat : Int) = 0 from rfl] at hcell
      have hjn : (j : Int) < (n : Int) := by omega
      clear HZ b3 hvd3 Q3a T3 V3 ov
      go_wp2
      go_round
      case rel => exact ⟨j + 1, by omega, by go_num⟩
      case measure => simp [intOf]; omega
    · obtain rfl : j = j0 := by omega
      have hcell := (ov.at (k := j) HXD.out).1
      have hs3a : (w3.alloc (.cells #[.bool false, .slice (some ⟨g2, 0, none⟩) n2 c2, .int .i64 m1] 45)).heap.size = w3.heap.size + 1 := by simp
      have hs3b : ((w3.alloc (.cells #[.bool false, .slice (some ⟨g2, 0, none⟩) n2 c2, .int .i64 m1] 45)).alloc (.cells #[.int .i64 1] 3)).heap.size = w3.heap.size + 1 + 1 := by simp
      have hs3c : (((w3.alloc (.cells #[.bool false, .slice (some ⟨g2, 0, none⟩) n2 c2, .int .i64 m1] 45)).alloc (.cells #[.int .i64 1] 3)).alloc (.cells #[.bool false, .slice (some ⟨w3.heap.size + 1, 0, none⟩) 1 1, .int .i64 u] 45)).heap.size = w3.heap.size + 1 + 1 + 1 := by simp
      have lA := lit1' (w3.alloc (.cells #[.bool false, .slice (some ⟨g2, 0, none⟩) n2 c2, .int .i64 m1] 45))
      rw [hs3a] at lA
      have alb := alloc_below (w3.alloc (.cells #[.bool false, .slice (some ⟨g2, 0, none⟩) n2 c2, .int .i64 m1] 45)) (.cells #[.int .i64 1] 3)
      have alc := alloc_below ((w3.alloc (.cells #[.bool false, .slice (some ⟨g2, 0, none⟩) n2 c2, .int .i64 m1] 45)).alloc (.cells #[.int .i64 1] 3)) (.cells #[.bool false, .slice (some ⟨w3.heap.size + 1, 0, none⟩) 1 1, .int .i64 u] 45)
      have M3 := D3.new ((w3.alloc (.cells #[.bool false, .slice (some ⟨g2, 0, none⟩) n2 c2, .int .i64 m1] 45)).alloc (.cells #[.int .i64 1] 3)) false (.slice (some ⟨w3.heap.size + 1, 0, none⟩) 1 1) u
      rw [hs3b] at M3
      have T3b := T3.below alb T3.lt
      have T3c := T3b.below alc T3b.lt
      have lA3 := lA.below alc
      have Q3c := (Q3a.trans (alb.mono Q3a.size)).trans (alc.mono (Nat.le_trans Q3a.size alb.size))
      have b3c := (b3.trans (alb.mono b3.size)).trans (alc.mono (Nat.le_trans b3.size alb.size))
      have V3b := V3.below alb V3.lt
      have V3c := V3b.below alc V3b.lt
      have hw9 : w.heap.size + 1 < w3.heap.size := hz3
      clear hw9 lA alb T3b T3 V3 V3b Q3a b3 HZ ov alc
      have ald := alloc_below (((w3.alloc (.cells #[.bool false, .slice (some ⟨g2, 0, none⟩) n2 c2, .int .i64 m1] 45)).alloc (.cells #[.int .i64 1] 3)).alloc (.cells #[.bool false, .slice (some ⟨w3.heap.size + 1, 0, none⟩) 1 1, .int .i64 u] 45)) (.cells #[.int .i64 1] 3)
      have lB := lit1' (((w3.alloc (.cells #[.bool false, .slice (some ⟨g2, 0, none⟩) n2 c2, .int .i64 m1] 45)).alloc (.cells #[.int .i64 1] 3)).alloc (.cells #[.bool false, .slice (some ⟨w3.heap.size + 1, 0, none⟩) 1 1, .int .i64 u] 45))
      rw [hs3c] at lB
      have HP3 := Lib.hid (P3.out _ _ _ (lA3.below ald) lB)
      have M3d := M3.below ald M3.lt
      have T3d := T3c.below ald T3c.lt
      have Q3d := Q3c.trans (ald.mono Q3c.size)
      have b3d := b3c.trans (ald.mono b3c.size)
      have hs3d : w3.heap.size + 1 + 1 < ((((w3.alloc (.cells #[.bool false, .slice (some ⟨g2, 0, none⟩) n2 c2, .int .i64 m1] 45)).alloc (.cells #[.int .i64 1] 3)).alloc (.cells #[.bool false, .slice (some ⟨w3.heap.size + 1, 0, none⟩) 1 1, .int .i64 u] 45)).alloc (.cells #[.int .i64 1] 3)).heap.size := by simp
      obtain ⟨m0c, m1c, m2c, m3c, m4c, m5c, _⟩ := id M3d
      obtain ⟨t0c, t1c, t2c, t3c, t4c, t5c, _⟩ := id T3d
      obtain ⟨v0c, v1c, v2c, _⟩ := id V3c
      clear lA3 lB ald M3 Q3c b3c P3
      go_wp2_with fail
      refine HP3.out.mono ?_
      rintro r w4 ⟨g3, c3, rfl, o4, q4⟩
      have M4 := M3d.below q4 M3d.lt
      have T4 := T3d.below q4 T3d.lt
      have MP := M4.put false (.slice (some ⟨g3, 0, none⟩) n3 c3) u
      have q4a : Below (w3.heap.size + 1 + 1) w4 (((w4.setCell ⟨w3.heap.size + 1 + 1, 0, none⟩ (.bool false)).setCell ⟨w3.heap.size + 1 + 1, 1, none⟩ (.slice (some ⟨g3, 0, none⟩) n3 c3)).setCell ⟨w3.heap.size + 1 + 1, 2, none⟩ (.int .i64 u)) := (((Below.refl _ _).setCell (p := ⟨w3.heap.size + 1 + 1, 0, none⟩) (Nat.le_refl _) _).setCell (p := ⟨w3.heap.size + 1 + 1, 1, none⟩) (Nat.le_refl _) _).setCell (p := ⟨w3.heap.size + 1 + 1, 2, none⟩) (Nat.le_refl _) _
      have T5 := T4.below q4a (by omega)
      have o4a : OwnD (((w4.setCell ⟨w3.heap.size + 1 + 1, 0, none⟩ (.bool false)).setCell ⟨w3.heap.size + 1 + 1, 1, none⟩ (.slice (some ⟨g3, 0, none⟩) n3 c3)).setCell ⟨w3.heap.size + 1 + 1, 2, none⟩ (.int .i64 u)) _ (.slice (some ⟨g3, 0, none⟩) n3 c3) L3 := ⟨ownsRow_setCell_below (ownsRow_setCell_below (ownsRow_setCell_below o4.1 hs3d _) hs3d _) hs3d _, o4.2⟩
      have Q4 := (Q3d.trans (q4.mono Q3d.size)).trans (q4a.mono (by omega))
      have b4 := (b3d.trans (q4.mono b3d.size)).trans (q4a.mono (by omega))
      have HP4 := Lib.hid (P4.out _ _ _ o4a.vd (hvd3.below Q4))
      clear m0c m1c m2c m3c m4c m5c t0c t1c t2c t3c t4c t5c v0c v1c v2c HP3 M3d T3d Q3d b3d q4 q4a o4 o4a Q4 hvd3 V3c hs3d P4 T3c
      obtain ⟨m0c, m1c, m2c, m3c, m4c, m5c, _⟩ := id M4
      obtain ⟨n0c, n1c, n2c, n3c, n4c, n5c, _⟩ := id MP
      obtain ⟨t0c, t1c, t2c, t3c, t4c, t5c, _⟩ := id T5
      obtain ⟨s0c, s1c, s2c, s3c, s4c, s5c, _⟩ := id T4
      go_wp2_with fail
      refine HP4.out.mono ?_
      rintro r w5 ⟨g4, c4, rfl, o5', q5⟩
      have al5 := alloc_below w5 (.cells #[.bool false, .slice (some ⟨g4, 0, none⟩) n4 c4, .int .i64 es] 45)
      have R5 := D3.new w5 false (.slice (some ⟨g4, 0, none⟩) n4 c4) es
      have o5 := o5'.below al5
      have b5 := (b4.trans (q5.mono b4.size)).trans (al5.mono (Nat.le_trans b4.size q5.size))
      clear m0c m1c m2c m3c m4c m5c n0c n1c n2c n3c n4c n5c t0c t1c t2c t3c t4c t5c s0c s1c s2c s3c s4c s5c HP4 M4 MP T4 T5 q5 al5 o5' b4
      obtain ⟨m0c, m1c, m2c, m3c, m4c, m5c, _⟩ := id R5
      clear hw1 hw2 hw3
      go_wp2_with fail
      go_loop [12] (fun i' => ∃ j : Nat, j ≤ n4 ∧ i' = .int .i64 (j : Int)) (fun i' => n4 - (intOf i').toNat)
      case atStart => exact ⟨0, Nat.zero_le _, rfl⟩
      case round =>
        obtain ⟨j2, hj2, rfl⟩ := hrel
        by_cases hjn : j2 < n4
        · have hjL : j2 < L4.length := by rw [← HN4.out]; exact hjn
          have hcell := (o5.at (k := j2) (List.getElem?_eq_getElem hjL)).1
          obtain ⟨x, hx⟩ : ∃ x, x = L4[j2] := ⟨_, rfl⟩
          rw [← hx] at hcell
          have hjn2 : (j2 : Int) < (n4 : Int) := by omega
          by_cases hx0 : x = 0
          · have hxi2 : ((x.toNat : Int) != 0) = false := by rw [hx0]; rfl
            clear hx hx0 b5 R5 o5
            go_wp2
            go_round
            case rel => exact ⟨j2 + 1, by omega, by go_num⟩
            case measure => simp [intOf]; omega
          · have hxi2 : ((x.toNat : Int) != 0) = true := by
              rw [bne_iff_ne]; intro e; exact hx0 (UInt8.toNat_inj.1 (show x.toNat = 0 by omega))
            clear hx hx0 R5 o5
            go_wp2
            go_ret
            exact ⟨rfl, b5⟩
        · obtain rfl : j2 = n4 := by omega
          clear R5 o5
          go_wp2
          go_ret
          exact ⟨rfl, b5⟩

set_option maxRecDepth 1000000 in
set_option maxHeartbeats 8000000 in
theorem near_some_flat (ta te : Int) (ht : rightB ta te = true) (sv : Bool) (ev : Int) (L : List UInt8) (n : Nat) (hn : L.length = n) (hL : Dig L) (hn1 : n ≤ 100) (he0 : -80 ≤ ev) (he1 : ev ≤ 80) (j0 : Nat) (hz : ∀ j, j < j0 → L[j]? = some 0) (hj0 : j0 < n) (xd : UInt8) (hxd : L[j0]? = some xd) (hxd0 : xd ≠ 0)
    (u : Int) (hu : u = (n : Int) - j0 + ev - 15) (hdeep : ¬ u < -40) (m1 es : Int) (hm1 : m1 = min ev te) (hes : es = min u m1)
    (hv : plusS false true (1 * 10 ^ (u - es).toNat) ((plusN sv (!decide (ta < 0)) (valN L * 10 ^ (ev - m1).toNat) (ta.natAbs * 10 ^ (te - m1).toNat) + plusN sv (!decide (ta < 0)) (valN L * 10 ^ (ev - m1).toNat) (ta.natAbs * 10 ^ (te - m1).toNat)) * 10 ^ (m1 - es).toNat) = false)
    (Bv gv cv : Nat) (w : World) (ho : OwnD w Bv (.slice (some ⟨gv, 0, none⟩) n cv) L) :
    Calls Tryd.prog 43 #[numV ta te, .agg #[.bool sv, .slice (some ⟨gv, 0, none⟩) n cv, .int .i64 ev]] w fun r w' => r = .returned (.bool true) ∧ Below w.heap.size w w' := by
  obtain ⟨bt, bt1, bt2⟩ := right_bounds ht
  obtain ⟨a1, a2, a3⟩ := digs_val ta
  have la : (digs ta).length ≤ 15 := by
    rw [digs_len]; exact nd_le 15 _ (by have e15 : (10 : Nat) ^ 15 = 1000000000000000 := by decide
                                        omega)
  obtain ⟨nt, hnt⟩ : ∃ s, s = decide (ta < 0) := ⟨_, rfl⟩
  rw [← hnt] at hv
  obtain ⟨L1, l1, d1, v1, P10⟩ := plus_len sv (!nt) ev te L (digs ta) (by omega) (by omega) (by omega) (by omega) (by omega) (by omega) hL a2 m1 hm1 _ _ rfl rfl
  rw [a1] at v1 P10
  obtain ⟨D, hD⟩ : ∃ D, D = plusN sv (!nt) (valN L * 10 ^ (ev - m1).toNat) (ta.natAbs * 10 ^ (te - m1).toNat) := ⟨_, rfl⟩
  rw [← hD] at hv v1
  have hL1b : L1.length ≤ 230 := by omega
  obtain ⟨L2, l2, d2, v2, P20⟩ := plus_len false false m1 m1 L1 L1 (by omega) (by omega) (by omega) (by omega) (by omega) (by omega) d1 d1 m1 (by omega) _ _ rfl rfl
  have hp0 : valN L1 * 10 ^ (m1 - m1).toNat = D := by rw [v1, Int.sub_self]; simp
  rw [hp0] at v2 P20
  have hs2 : plusS false false D D = false := by unfold plusS; rw [if_pos (by decide)]
  have hv2 : valN L2 = D + D := by rw [v2]; unfold plusN; rw [if_pos (by decide)]
  rw [hs2] at P20
  have hL2b : L2.length ≤ 231 := by rw [l2]; simp; omega
  obtain ⟨L4, l4, d4, v4, P40⟩ := plus_len false true u m1 [1] L2 (by decide) (by omega) (by omega) (by omega) (by omega) (by omega) (Dig.mk (by decide) (fun _ h => by simp at h)) d2 es hes _ _ rfl rfl
  rw [show valN [1] = 1 from rfl, hv2, hv] at P40
  obtain ⟨s1, hs1⟩ : ∃ s1, s1 = plusS sv (!nt) (valN L * 10 ^ (ev - m1).toNat) (ta.natAbs * 10 ^ (te - m1).toNat) := ⟨_, rfl⟩
  rw [← hs1] at P10
  obtain ⟨n1, hn1e⟩ : ∃ k, k = L1.length := ⟨_, rfl⟩
  obtain ⟨n2, hn2e⟩ : ∃ k, k = L2.length := ⟨_, rfl⟩
  obtain ⟨n4, hn4e⟩ : ∃ k, k = L4.length := ⟨_, rfl⟩
  have hn4b : n4 ≤ 1000 := by rw [hn4e, l4]; simp; omega
  rw [← hn1e] at P10
  rw [← hn2e] at P20
  rw [← hn4e] at P40
  have OF := Lib.hid (fun w1 => of_any ta te (by omega) (by omega) w1)
  unfold numV at OF
  rw [← hnt] at OF
  have P1 := Lib.hid P10
  have P2 := Lib.hid P20
  have P4 := Lib.hid P40
  have HN := Lib.hid hn
  have HN4 := Lib.hid hn4e
  have HZ := Lib.hid hz
  have hj0n : j0 ≤ n := by omega
  have hj0i : (j0 : Int) < (n : Int) := by omega
  have HXD := Lib.hid hxd
  have hxi : ((xd.toNat : Int) == 0) = false := by
    rw [beq_eq_false_iff_ne]; intro e; exact hxd0 (UInt8.toNat_inj.1 (show xd.toNat = 0 by omega))
  have hw1 : IntKind.i64.wrap ((n : Int) - j0) = (n : Int) - j0 := by rw [IntKind.wrap_i64]; omega
  have hw2 : IntKind.i64.wrap ((n : Int) - j0 + ev) = (n : Int) - j0 + ev := by rw [IntKind.wrap_i64]; omega
  have hw3 : IntKind.i64.wrap ((n : Int) - j0 + ev - 15) = u := by rw [IntKind.wrap_i64]; omega
  have HU := Lib.hid hu
  have hdw := hdeep
  have HB0 := below2 w (.cells #[.int .i64 ta, .int .i64 te] 24) (.cells #[.bool sv, .slice (some ⟨gv, 0, none⟩) n cv, .int .i64 ev] 45)
  have V0 := D3.new (w.alloc (.cells #[.int .i64 ta, .int .i64 te] 24)) sv (.slice (some ⟨gv, 0, none⟩) n cv) ev
  rw [show (w.alloc (.cells #[.int .i64 ta, .int .i64 te] 24)).heap.size = w.heap.size + 1 by simp] at V0
  have hov := (ho.below (HB0))
  clear ht bt bt1 bt2 a1 a2 a3 la hnt hv P10 P20 P40 hD v1 v2 hv2 hs2 hp0 l1 l2 l4 d1 d2 d4 v4 hs1 hn1e hn2e hn4e hn hL hz hm1 hes hL1b hL2b hu hdeep  hxd hxd0 ho
  unfold numV
  go_enter Tryd.func43, Tryd.ntmps43
  obtain ⟨x0, x1, x2, y0, y1, y2, _⟩ := id V0
  go_wp2_with fail
  refine (OF.out _).mono ?_
  rintro r w1 ⟨vt, rfl, hvt, q1⟩
  obtain ⟨At, ct, hvt2, _⟩ := hvt.open
  obtain ⟨kt, hkt⟩ : ∃ kt, kt = (digs ta).length := ⟨_, rfl⟩
  rw [← hkt] at hvt2
  subst hvt2
  have al1 := alloc_below w1 (.cells #[.bool (!nt), .slice At kt ct, .int .i64 te] 45)
  have W1 := D3.new w1 (!nt) (.slice At kt ct) te
  have V1 := (V0.below q1 V0.lt).below al1 (V0.below q1 V0.lt).lt
  have o1 := (hov.below q1).below al1
  have t1 := hvt.below al1
  have b1 := (HB0.trans (q1.mono HB0.size)).trans (al1.mono (Nat.le_trans HB0.size q1.size))
  have HP1 := Lib.hid (P1.out _ _ _ o1.vd t1)
  clear x0 x1 x2 y0 y1 y2 OF q1 hov V0 HB0 hvt al1 hkt t1 P1
  obtain ⟨x0, x1, x2, y0, y1, y2, _⟩ := id V1
  obtain ⟨z0, z1, z2, z3, z4, z5, _⟩ := id W1
  go_wp2_with fail
  refine HP1.out.mono ?_
  rintro r w2 ⟨g1, c1, rfl, o2, q2⟩
  have al2 := alloc_below w2 (.cells #[.bool false, .slice (some ⟨g1, 0, none⟩) n1 c1, .int .i64 m1] 45)
  have O2 := D3.new w2 false (.slice (some ⟨g1, 0, none⟩) n1 c1) m1
  have V2 := (V1.below q2 V1.lt).below al2 (V1.below q2 V1.lt).lt
  have o1' := (o1.below q2).below al2
  have o2' := o2.below al2
  have b2 := (b1.trans (q2.mono b1.size)).trans (al2.mono (Nat.le_trans b1.size q2.size))
  have HP2 := Lib.hid (P2.out _ _ _ o2'.vd o2'.vd)
  clear x0 x1 x2 y0 y1 y2 z0 z1 z2 z3 z4 z5 q2 al2 V1 W1 o1 o2 o2' HP1 b1 P2
  obtain ⟨x0, x1, x2, y0, y1, y2, _⟩ := id V2
  obtain ⟨z0, z1, z2, z3, z4, z5, _⟩ := id O2
  go_wp2_with fail
  refine HP2.out.mono ?_
  rintro r w3 ⟨g2, c2, rfl, o3, q3⟩
  have al3 := alloc_below w3 (.cells #[.bool false, .slice (some ⟨g2, 0, none⟩) n2 c2, .int .i64 m1] 45)
  have T3 := D3.new w3 false (.slice (some ⟨g2, 0, none⟩) n2 c2) m1
  have V3 := (V2.below q3 V2.lt).below al3 (V2.below q3 V2.lt).lt
  have ov := (o1'.below q3).below al3
  have hvd3 := o3.vd
  have Q3a := al3
  have b3 := (b2.trans (q3.mono b2.size)).trans (al3.mono (Nat.le_trans b2.size q3.size))
  have hz3 : w.heap.size + 1 < w3.heap.size := (V2.below q3 V2.lt).lt
  clear x0 x1 x2 y0 y1 y2 z0 z1 z2 z3 z4 z5 q3 al3 V2 O2 o1' o3 HP2 b2
  obtain ⟨x0, x1, x2, y0, y1, y2, _⟩ := id V3
  obtain ⟨z0, z1, z2, z3, z4, z5, _⟩ := id T3
  go_wp2_with fail
  go_loop [8] (fun i' => ∃ j : Nat, j ≤ j0 ∧ i' = .int .i64 (j : Int)) (fun i' => j0 - (intOf i').toNat)
  case atStart => exact ⟨0, Nat.zero_le _, rfl⟩
  case round =>
    obtain ⟨j, hj, rfl⟩ := hrel
    by_cases hjj : j < j0
    · have hcell := (ov.at (k := j) (HZ.out j hjj)).1
      rw [show ((0 : UInt8).toNat : Int) = 0 from rfl] at hcell
      have hjn : (j : Int) < (n : Int) := by omega
      clear HZ b3 hvd3 Q3a T3 V3 ov
      go_wp2
      go_round
      case rel => exact ⟨j + 1, by omega, by go_num⟩
      case measure => simp [intOf]; omega
    · obtain rfl : j = j0 := by omega
      have hcell := (ov.at (k := j) HXD.out).1
      have hs3a : (w3.alloc (.cells #[.bool false, .slice (some ⟨g2, 0, none⟩) n2 c2, .int .i64 m1] 45)).heap.size = w3.heap.size + 1 := by simp
      have hs3b : ((w3.alloc (.cells #[.bool false, .slice (some ⟨g2, 0, none⟩) n2 c2, .int .i64 m1] 45)).alloc (.cells #[.int .i64 1] 3)).heap.size = w3.heap.size + 1 + 1 := by simp
      have hs3c : (((w3.alloc (.cells #[.bool false, .slice (some ⟨g2, 0, none⟩) n2 c2, .int .i64 m1] 45)).alloc (.cells #[.int .i64 1] 3)).alloc (.cells #[.bool false, .slice (some ⟨w3.heap.size + 1, 0, none⟩) 1 1, .int .i64 u] 45)).heap.size = w3.heap.size + 1 + 1 + 1 := by simp
      have lA := lit1' (w3.alloc (.cells #[.bool false, .slice (some ⟨g2, 0, none⟩) n2 c2, .int .i64 m1] 45))
      rw [hs3a] at lA
      have alb := alloc_below (w3.alloc (.cells #[.bool false, .slice (some ⟨g2, 0, none⟩) n2 c2, .int .i64 m1] 45)) (.cells #[.int .i64 1] 3)
      have alc := alloc_below ((w3.alloc (.cells #[.bool false, .slice (some ⟨g2, 0, none⟩) n2 c2, .int .i64 m1] 45)).alloc (.cells #[.int .i64 1] 3)) (.cells #[.bool false, .slice (some ⟨w3.heap.size + 1, 0, none⟩) 1 1, .int .i64 u] 45)
      have M3 := D3.new ((w3.alloc (.cells #[.bool false, .slice (some ⟨g2, 0, none⟩) n2 c2, .int .i64 m1] 45)).alloc (.cells #[.int .i64 1] 3)) false (.slice (some ⟨w3.heap.size + 1, 0, none⟩) 1 1) u
      rw [hs3b] at M3
      have T3b := T3.below alb T3.lt
      have T3c := T3b.below alc T3b.lt
      have lA3 := lA.below alc
      have Q3c := (Q3a.trans (alb.mono Q3a.size)).trans (alc.mono (Nat.le_trans Q3a.size alb.size))
      have b3c := (b3.trans (alb.mono b3.size)).trans (alc.mono (Nat.le_trans b3.size alb.size))
      have V3b := V3.below alb V3.lt
      have V3c := V3b.below alc V3b.lt
      have hw9 : w.heap.size + 1 < w3.heap.size := hz3
      clear hw9 lA alb T3b T3 V3 V3b Q3a b3 HZ ov alc
      have HP4 := Lib.hid (P4.out _ _ _ lA3 (hvd3.below Q3c))
      obtain ⟨m0c, m1c, m2c, m3c, m4c, m5c, _⟩ := id M3
      obtain ⟨t0c, t1c, t2c, t3c, t4c, t5c, _⟩ := id T3c
      obtain ⟨v0c, v1c, v2c, _⟩ := id V3c
      clear lA3 M3 Q3c hvd3 P4 T3c V3c
      go_wp2_with fail
      refine HP4.out.mono ?_
      rintro r w5 ⟨g4, c4, rfl, o5', q5⟩
      have al5 := alloc_below w5 (.cells #[.bool false, .slice (some ⟨g4, 0, none⟩) n4 c4, .int .i64 es] 45)
      have R5 := D3.new w5 false (.slice (some ⟨g4, 0, none⟩) n4 c4) es
      have o5 := o5'.below al5
      have b5 := (b3c.trans (q5.mono b3c.size)).trans (al5.mono (Nat.le_trans b3c.size q5.size))
      clear m0c m1c m2c m3c m4c m5c t0c t1c t2c t3c t4c t5c v0c v1c v2c HP4 q5 al5 o5' b3c
      obtain ⟨m0c, m1c, m2c, m3c, m4c, m5c, _⟩ := id R5
      clear hw1 hw2 hw3
      go_wp2_with fail
      go_loop [12] (fun i' => ∃ j : Nat, j ≤ n4 ∧ i' = .int .i64 (j : Int)) (fun i' => n4 - (intOf i').toNat)
      case atStart => exact ⟨0, Nat.zero_le _, rfl⟩
      case round =>
        obtain ⟨j2, hj2, rfl⟩ := hrel
        by_cases hjn : j2 < n4
        · have hjL : j2 < L4.length := by rw [← HN4.out]; exact hjn
          have hcell := (o5.at (k := j2) (List.getElem?_eq_getElem hjL)).1
          obtain ⟨x, hx⟩ : ∃ x, x = L4[j2] := ⟨_, rfl⟩
          rw [← hx] at hcell
          have hjn2 : (j2 : Int) < (n4 : Int) := by omega
          by_cases hx0 : x = 0
          · have hxi2 : ((x.toNat : Int) != 0) = false := by rw [hx0]; rfl
            clear hx hx0 b5 R5 o5
            go_wp2
            go_round
            case rel => exact ⟨j2 + 1, by omega, by go_num⟩
            case measure => simp [intOf]; omega
          · have hxi2 : ((x.toNat : Int) != 0) = true := by
              rw [bne_iff_ne]; intro e; exact hx0 (UInt8.toNat_inj.1 (show x.toNat = 0 by omega))
            clear hx hx0 R5 o5
            go_wp2
            go_ret
            exact ⟨rfl, b5⟩
        · obtain rfl : j2 = n4 := by omega
          clear R5 o5
          go_wp2
          go_ret
          exact ⟨rfl, b5⟩

set_option maxRecDepth 1000000 in
set_option maxHeartbeats 8000000 in
theorem near_zero_deep (ta te : Int) (ht : rightB ta te = true) (sv : Bool) (ev : Int) (L : List UInt8) (n : Nat) (hn : L.length = n) (hL : Dig L) (hn1 : n ≤ 100) (he0 : -80 ≤ ev) (he1 : ev ≤ 80) (j0 : Nat) (hz : ∀ j, j < j0 → L[j]? = some 0) (hj0 : j0 = n)
    (u : Int) (hu : u = (n : Int) - j0 + ev - 15) (hdeep : u < -40) (m1 es : Int) (hm1 : m1 = min ev te) (hes : es = min u m1)
    (hv : plusS false true ((1 + 10 ^ (-40 - u).toNat) * 10 ^ (u - es).toNat) ((plusN sv (!decide (ta < 0)) (valN L * 10 ^ (ev - m1).toNat) (ta.natAbs * 10 ^ (te - m1).toNat) + plusN sv (!decide (ta < 0)) (valN L * 10 ^ (ev - m1).toNat) (ta.natAbs * 10 ^ (te - m1).toNat)) * 10 ^ (m1 - es).toNat) = false)
    (Bv gv cv : Nat) (w : World) (ho : OwnD w Bv (.slice (some ⟨gv, 0, none⟩) n cv) L) :
    Calls Tryd.prog 43 #[numV ta te, .agg #[.bool sv, .slice (some ⟨gv, 0, none⟩) n cv, .int .i64 ev]] w fun r w' => r = .returned (.bool true) ∧ Below w.heap.size w w' := by
  obtain ⟨bt, bt1, bt2⟩ := right_bounds ht
  obtain ⟨a1, a2, a3⟩ := digs_val ta
  have la : (digs ta).length ≤ 15 := by
    rw [digs_len]; exact nd_le 15 _ (by have e15 : (10 : Nat) ^ 15 = 1000000000000000 := by decide
                                        omega)
  obtain ⟨nt, hnt⟩ : ∃ s, s = decide (ta < 0) := ⟨_, rfl⟩
  rw [← hnt] at hv
  obtain ⟨L1, l1, d1, v1, P10⟩ := plus_len sv (!nt) ev te L (digs ta) (by omega) (by omega) (by omega) (by omega) (by omega) (by omega) hL a2 m1 hm1 _ _ rfl rfl
  rw [a1] at v1 P10
  obtain ⟨D, hD⟩ : ∃ D, D = plusN sv (!nt) (valN L * 10 ^ (ev - m1).toNat) (ta.natAbs * 10 ^ (te - m1).toNat) := ⟨_, rfl⟩
  rw [← hD] at hv v1
  have hL1b : L1.length ≤ 230 := by omega
  obtain ⟨L2, l2, d2, v2, P20⟩ := plus_len false false m1 m1 L1 L1 (by omega) (by omega) (by omega) (by omega) (by omega) (by omega) d1 d1 m1 (by omega) _ _ rfl rfl
  have hp0 : valN L1 * 10 ^ (m1 - m1).toNat = D := by rw [v1, Int.sub_self]; simp
  rw [hp0] at v2 P20
  have hs2 : plusS false false D D = false := by unfold plusS; rw [if_pos (by decide)]
  have hv2 : valN L2 = D + D := by rw [v2]; unfold plusN; rw [if_pos (by decide)]
  rw [hs2] at P20
  have hL2b : L2.length ≤ 231 := by rw [l2]; simp; omega
  obtain ⟨L3, l3, d3, v3, P30⟩ := plus_len false false u (-40) [1] [1] (by decide) (by decide) (by omega) (by omega) (by omega) (by omega) (Dig.mk (by decide) (fun _ h => by simp at h)) (Dig.mk (by decide) (fun _ h => by simp at h)) u (by omega) _ _ rfl rfl
  have hv3 : valN L3 = 1 + 10 ^ (-40 - u).toNat := by
    rw [v3]; unfold plusN; rw [if_pos (by decide), Int.sub_self]; simp [valN]
  have hs3 : ∀ U V, plusS false false U V = false := fun U V => by unfold plusS; rw [if_pos (by decide)]
  rw [hs3] at P30
  obtain ⟨n3, hn3e⟩ : ∃ k, k = L3.length := ⟨_, rfl⟩
  rw [← hn3e] at P30
  have P3 := Lib.hid P30
  have hL3b : L3.length ≤ 100 := by rw [l3]; simp; omega
  obtain ⟨L4, l4, d4, v4, P40⟩ := plus_len false true u m1 L3 L2 (by omega) (by omega) (by omega) (by omega) (by omega) (by omega) d3 d2 es hes _ _ rfl rfl
  rw [hv3, hv2, hv] at P40
  obtain ⟨s1, hs1⟩ : ∃ s1, s1 = plusS sv (!nt) (valN L * 10 ^ (ev - m1).toNat) (ta.natAbs * 10 ^ (te - m1).toNat) := ⟨_, rfl⟩
  rw [← hs1] at P10
  obtain ⟨n1, hn1e⟩ : ∃ k, k = L1.length := ⟨_, rfl⟩
  obtain ⟨n2, hn2e⟩ : ∃ k, k = L2.length := ⟨_, rfl⟩
  obtain ⟨n4, hn4e⟩ : ∃ k, k = L4.length := ⟨_, rfl⟩
  have hn4b : n4 ≤ 1000 := by rw [hn4e, l4]; omega
  rw [← hn1e] at P10
  rw [← hn2e] at P20
  rw [← hn4e] at P40
  have OF := Lib.hid (fun w1 => of_any ta te (by omega) (by omega) w1)
  unfold numV at OF
  rw [← hnt] at OF
  have P1 := Lib.hid P10
  have P2 := Lib.hid P20
  have P4 := Lib.hid P40
  have HN := Lib.hid hn
  have HN4 := Lib.hid hn4e
  have HZ := Lib.hid hz
  have hj0n : j0 ≤ n := by omega
  have hj0a : n ≤ j0 := by omega
  have hj0i : ¬ (j0 : Int) < (n : Int) := by omega
  have hw1 : IntKind.i64.wrap ((n : Int) - j0) = (n : Int) - j0 := by rw [IntKind.wrap_i64]; omega
  have hw2 : IntKind.i64.wrap ((n : Int) - j0 + ev) = (n : Int) - j0 + ev := by rw [IntKind.wrap_i64]; omega
  have hw3 : IntKind.i64.wrap ((n : Int) - j0 + ev - 15) = u := by rw [IntKind.wrap_i64]; omega
  have HU := Lib.hid hu
  have hdw := hdeep
  have HB0 := below2 w (.cells #[.int .i64 ta, .int .i64 te] 24) (.cells #[.bool sv, .slice (some ⟨gv, 0, none⟩) n cv, .int .i64 ev] 45)
  have V0 := D3.new (w.alloc (.cells #[.int .i64 ta, .int .i64 te] 24)) sv (.slice (some ⟨gv, 0, none⟩) n cv) ev
  rw [show (w.alloc (.cells #[.int .i64 ta, .int .i64 te] 24)).heap.size = w.heap.size + 1 by simp] at V0
  have hov := (ho.below (HB0))
  clear ht bt bt1 bt2 a1 a2 a3 la hnt hv P10 P20 P40 hD v1 v2 hv2 hs2 hp0 l1 l2 l4 d1 d2 d4 v4 hs1 hn1e hn2e hn4e hn hL hz hm1 hes hL1b hL2b hu hdeep l3 d3 v3 hv3 hs3 P30 hn3e hL3b hj0 ho
  unfold numV
  go_enter Tryd.func43, Tryd.ntmps43
  obtain ⟨x0, x1, x2, y0, y1, y2, _⟩ := id V0
  go_wp2_with fail
  refine (OF.out _).mono ?_
  rintro r w1 ⟨vt, rfl, hvt, q1⟩
  obtain ⟨At, ct, hvt2, _⟩ := hvt.open
  obtain ⟨kt, hkt⟩ : ∃ kt, kt = (digs ta).length := ⟨_, rfl⟩
  rw [← hkt] at hvt2
  subst hvt2
  have al1 := alloc_below w1 (.cells #[.bool (!nt), .slice At kt ct, .int .i64 te] 45)
  have W1 := D3.new w1 (!nt) (.slice At kt ct) te
  have V1 := (V0.below q1 V0.lt).below al1 (V0.below q1 V0.lt).lt
  have o1 := (hov.below q1).below al1
  have t1 := hvt.below al1
  have b1 := (HB0.trans (q1.mono HB0.size)).trans (al1.mono (Nat.le_trans HB0.size q1.size))
  have HP1 := Lib.hid (P1.out _ _ _ o1.vd t1)
  clear x0 x1 x2 y0 y1 y2 OF q1 hov V0 HB0 hvt al1 hkt t1 P1
  obtain ⟨x0, x1, x2, y0, y1, y2, _⟩ := id V1
  obtain ⟨z0, z1, z2, z3, z4, z5, _⟩ := id W1
  go_wp2_with fail
  refine HP1.out.mono ?_
  rintro r w2 ⟨g1, c1, rfl, o2, q2⟩
  have al2 := alloc_below w2 (.cells #[.bool false, .slice (some ⟨g1, 0, none⟩) n1 c1, .int .i64 m1] 45)
  have O2 := D3.new w2 false (.slice (some ⟨g1, 0, none⟩) n1 c1) m1
  have V2 := (V1.below q2 V1.lt).below al2 (V1.below q2 V1.lt).lt
  have o1' := (o1.below q2).below al2
  have o2' := o2.below al2
  have b2 := (b1.trans (q2.mono b1.size)).trans (al2.mono (Nat.le_trans b1.size q2.size))
  have HP2 := Lib.hid (P2.out _ _ _ o2'.vd o2'.vd)
  clear x0 x1 x2 y0 y1 y2 z0 z1 z2 z3 z4 z5 q2 al2 V1 W1 o1 o2 o2' HP1 b1 P2
  obtain ⟨x0, x1, x2, y0, y1, y2, _⟩ := id V2
  obtain ⟨z0, z1, z2, z3, z4, z5, _⟩ := id O2
  go_wp2_with fail
  refine HP2.out.mono ?_
  rintro r w3 ⟨g2, c2, rfl, o3, q3⟩
  have al3 := alloc_below w3 (.cells #[.bool false, .slice (some ⟨g2, 0, none⟩) n2 c2, .int .i64 m1] 45)
  have T3 := D3.new w3 false (.slice (some ⟨g2, 0, none⟩) n2 c2) m1
  have V3 := (V2.below q3 V2.lt).below al3 (V2.below q3 V2.lt).lt
  have ov := (o1'.below q3).below al3
  have hvd3 := o3.vd
  have Q3a := al3
  have b3 := (b2.trans (q3.mono b2.size)).trans (al3.mono (Nat.le_trans b2.size q3.size))
  have hz3 : w.heap.size + 1 < w3.heap.size := (V2.below q3 V2.lt).lt
  clear x0 x1 x2 y0 y1 y2 z0 z1 z2 z3 z4 z5 q3 al3 V2 O2 o1' o3 HP2 b2
  obtain ⟨x0, x1, x2, y0, y1, y2, _⟩ := id V3
  obtain ⟨z0, z1, z2, z3, z4, z5, _⟩ := id T3
  go_wp2_with fail
  go_loop [8] (fun i' => ∃ j : Nat, j ≤ j0 ∧ i' = .int .i64 (j : Int)) (fun i' => j0 - (intOf i').toNat)
  case atStart => exact ⟨0, Nat.zero_le _, rfl⟩
  case round =>
    obtain ⟨j, hj, rfl⟩ := hrel
    by_cases hjj : j < j0
    · have hcell := (ov.at (k := j) (HZ.out j hjj)).1
      rw [show ((0 : UInt8).toNat : Int) = 0 from rfl] at hcell
      have hjn : (j : Int) < (n : Int) := by omega
      clear HZ b3 hvd3 Q3a T3 V3 ov
      go_wp2
      go_round
      case rel => exact ⟨j + 1, by omega, by go_num⟩
      case measure => simp [intOf]; omega
    · obtain rfl : j = j0 := by omega
      have hs3a : (w3.alloc (.cells #[.bool false, .slice (some ⟨g2, 0, none⟩) n2 c2, .int .i64 m1] 45)).heap.size = w3.heap.size + 1 := by simp
      have hs3b : ((w3.alloc (.cells #[.bool false, .slice (some ⟨g2, 0, none⟩) n2 c2, .int .i64 m1] 45)).alloc (.cells #[.int .i64 1] 3)).heap.size = w3.heap.size + 1 + 1 := by simp
      have hs3c : (((w3.alloc (.cells #[.bool false, .slice (some ⟨g2, 0, none⟩) n2 c2, .int .i64 m1] 45)).alloc (.cells #[.int .i64 1] 3)).alloc (.cells #[.bool false, .slice (some ⟨w3.heap.size + 1, 0, none⟩) 1 1, .int .i64 u] 45)).heap.size = w3.heap.size + 1 + 1 + 1 := by simp
      have lA := lit1' (w3.alloc (.cells #[.bool false, .slice (some ⟨g2, 0, none⟩) n2 c2, .int .i64 m1] 45))
      rw [hs3a] at lA
      have alb := alloc_below (w3.alloc (.cells #[.bool false, .slice (some ⟨g2, 0, none⟩) n2 c2, .int .i64 m1] 45)) (.cells #[.int .i64 1] 3)
      have alc := alloc_below ((w3.alloc (.cells #[.bool false, .slice (some ⟨g2, 0, none⟩) n2 c2, .int .i64 m1] 45)).alloc (.cells #[.int .i64 1] 3)) (.cells #[.bool false, .slice (some ⟨w3.heap.size + 1, 0, none⟩) 1 1, .int .i64 u] 45)
      have M3 := D3.new ((w3.alloc (.cells #[.bool false, .slice (some ⟨g2, 0, none⟩) n2 c2, .int .i64 m1] 45)).alloc (.cells #[.int .i64 1] 3)) false (.slice (some ⟨w3.heap.size + 1, 0, none⟩) 1 1) u
      rw [hs3b] at M3
      have T3b := T3.below alb T3.lt
      have T3c := T3b.below alc T3b.lt
      have lA3 := lA.below alc
      have Q3c := (Q3a.trans (alb.mono Q3a.size)).trans (alc.mono (Nat.le_trans Q3a.size alb.size))
      have b3c := (b3.trans (alb.mono b3.size)).trans (alc.mono (Nat.le_trans b3.size alb.size))
      have V3b := V3.below alb V3.lt
      have V3c := V3b.below alc V3b.lt
      have hw9 : w.heap.size + 1 < w3.heap.size := hz3
      clear hw9 lA alb T3b T3 V3 V3b Q3a b3 HZ ov alc
      have ald := alloc_below (((w3.alloc (.cells #[.bool false, .slice (some ⟨g2, 0, none⟩) n2 c2, .int .i64 m1] 45)).alloc (.cells #[.int .i64 1] 3)).alloc (.cells #[.bool false, .slice (some ⟨w3.heap.size + 1, 0, none⟩) 1 1, .int .i64 u] 45)) (.cells #[.int .i64 1] 3)
      have lB := lit1' (((w3.alloc (.cells #[.bool false, .slice (some ⟨g2, 0, none⟩) n2 c2, .int .i64 m1] 45)).alloc (.cells #[.int .i64 1] 3)).alloc (.cells #[.bool false, .slice (some ⟨w3.heap.size + 1, 0, none⟩) 1 1, .int .i64 u] 45))
      rw [hs3c] at lB
      have HP3 := Lib.hid (P3.out _ _ _ (lA3.below ald) lB)
      have M3d := M3.below ald M3.lt
      have T3d := T3c.below ald T3c.lt
      have Q3d := Q3c.trans (ald.mono Q3c.size)
      have b3d := b3c.trans (ald.mono b3c.size)
      have hs3d : w3.heap.size + 1 + 1 < ((((w3.alloc (.cells #[.bool false, .slice (some ⟨g2, 0, none⟩) n2 c2, .int .i64 m1] 45)).alloc (.cells #[.int .i64 1] 3)).alloc (.cells #[.bool false, .slice (some ⟨w3.heap.size + 1, 0, none⟩) 1 1, .int .i64 u] 45)).alloc (.cells #[.int .i64 1] 3)).heap.size := by simp
      obtain ⟨m0c, m1c, m2c, m3c, m4c, m5c, _⟩ := id M3d
      obtain ⟨t0c, t1c, t2c, t3c, t4c, t5c, _⟩ := id T3d
      obtain ⟨v0c, v1c, v2c, _⟩ := id V3c
      clear lA3 lB ald M3 Q3c b3c P3
      go_wp2_with fail
      refine HP3.out.mono ?_
      rintro r w4 ⟨g3, c3, rfl, o4, q4⟩
      have M4 := M3d.below q4 M3d.lt
      have T4 := T3d.below q4 T3d.lt
      have MP := M4.put false (.slice (some ⟨g3, 0, none⟩) n3 c3) u
      have q4a : Below (w3.heap.size + 1 + 1) w4 (((w4.setCell ⟨w3.heap.size + 1 + 1, 0, none⟩ (.bool false)).setCell ⟨w3.heap.size + 1 + 1, 1, none⟩ (.slice (some ⟨g3, 0, none⟩) n3 c3)).setCell ⟨w3.heap.size + 1 + 1, 2, none⟩ (.int .i64 u)) := (((Below.refl _ _).setCell (p := ⟨w3.heap.size + 1 + 1, 0, none⟩) (Nat.le_refl _) _).setCell (p := ⟨w3.heap.size + 1 + 1, 1, none⟩) (Nat.le_refl _) _).setCell (p := ⟨w3.heap.size + 1 + 1, 2, none⟩) (Nat.le_refl _) _
      have T5 := T4.below q4a (by omega)
      have o4a : OwnD (((w4.setCell ⟨w3.heap.size + 1 + 1, 0, none⟩ (.bool false)).setCell ⟨w3.heap.size + 1 + 1, 1, none⟩ (.slice (some ⟨g3, 0, none⟩) n3 c3)).setCell ⟨w3.heap.size + 1 + 1, 2, none⟩ (.int .i64 u)) _ (.slice (some ⟨g3, 0, none⟩) n3 c3) L3 := ⟨ownsRow_setCell_below (ownsRow_setCell_below (ownsRow_setCell_below o4.1 hs3d _) hs3d _) hs3d _, o4.2⟩
      have Q4 := (Q3d.trans (q4.mono Q3d.size)).trans (q4a.mono (by omega))
      have b4 := (b3d.trans (q4.mono b3d.size)).trans (q4a.mono (by omega))
      have HP4 := Lib.hid (P4.out _ _ _ o4a.vd (hvd3.below Q4))
      clear m0c m1c m2c m3c m4c m5c t0c t1c t2c t3c t4c t5c v0c v1c v2c HP3 M3d T3d Q3d b3d q4 q4a o4 o4a Q4 hvd3 V3c hs3d P4 T3c
      obtain ⟨m0c, m1c, m2c, m3c, m4c, m5c, _⟩ := id M4
      obtain ⟨n0c, n1c, n2c, n3c, n4c, n5c, _⟩ := id MP
      obtain ⟨t0c, t1c, t2c, t3c, t4c, t5c, _⟩ := id T5
      obtain ⟨s0c, s1c, s2c, s3c, s4c, s5c, _⟩ := id T4
      go_wp2_with fail
      refine HP4.out.mono ?_
      rintro r w5 ⟨g4, c4, rfl, o5', q5⟩
      have al5 := alloc_below w5 (.cells #[.bool false, .slice (some ⟨g4, 0, none⟩) n4 c4, .int .i64 es] 45)
      have R5 := D3.new w5 false (.slice (some ⟨g4, 0, none⟩) n4 c4) es
      have o5 := o5'.below al5
      have b5 := (b4.trans (q5.mono b4.size)).trans (al5.mono (Nat.le_trans b4.size q5.size))
      clear m0c m1c m2c m3c m4c m5c n0c n1c n2c n3c n4c n5c t0c t1c t2c t3c t4c t5c s0c s1c s2c s3c s4c s5c HP4 M4 MP T4 T5 q5 al5 o5' b4
      obtain ⟨m0c, m1c, m2c, m3c, m4c, m5c, _⟩ := id R5
      clear hw1 hw2 hw3
      go_wp2_with fail
      go_loop [12] (fun i' => ∃ j : Nat, j ≤ n4 ∧ i' = .int .i64 (j : Int)) (fun i' => n4 - (intOf i').toNat)
      case atStart => exact ⟨0, Nat.zero_le _, rfl⟩
      case round =>
        obtain ⟨j2, hj2, rfl⟩ := hrel
        by_cases hjn : j2 < n4
        · have hjL : j2 < L4.length := by rw [← HN4.out]; exact hjn
          have hcell := (o5.at (k := j2) (List.getElem?_eq_getElem hjL)).1
          obtain ⟨x, hx⟩ : ∃ x, x = L4[j2] := ⟨_, rfl⟩
          rw [← hx] at hcell
          have hjn2 : (j2 : Int) < (n4 : Int) := by omega
          by_cases hx0 : x = 0
          · have hxi2 : ((x.toNat : Int) != 0) = false := by rw [hx0]; rfl
            clear hx hx0 b5 R5 o5
            go_wp2
            go_round
            case rel => exact ⟨j2 + 1, by omega, by go_num⟩
            case measure => simp [intOf]; omega
          · have hxi2 : ((x.toNat : Int) != 0) = true := by
              rw [bne_iff_ne]; intro e; exact hx0 (UInt8.toNat_inj.1 (show x.toNat = 0 by omega))
            clear hx hx0 R5 o5
            go_wp2
            go_ret
            exact ⟨rfl, b5⟩
        · obtain rfl : j2 = n4 := by omega
          clear R5 o5
          go_wp2
          go_ret
          exact ⟨rfl, b5⟩

set_option maxRecDepth 1000000 in
set_option maxHeartbeats 8000000 in
theorem near_zero_flat (ta te : Int) (ht : rightB ta te = true) (sv : Bool) (ev : Int) (L : List UInt8) (n : Nat) (hn : L.length = n) (hL : Dig L) (hn1 : n ≤ 100) (he0 : -80 ≤ ev) (he1 : ev ≤ 80) (j0 : Nat) (hz : ∀ j, j < j0 → L[j]? = some 0) (hj0 : j0 = n)
    (u : Int) (hu : u = (n : Int) - j0 + ev - 15) (hdeep : ¬ u < -40) (m1 es : Int) (hm1 : m1 = min ev te) (hes : es = min u m1)
    (hv : plusS false true (1 * 10 ^ (u - es).toNat) ((plusN sv (!decide (ta < 0)) (valN L * 10 ^ (ev - m1).toNat) (ta.natAbs * 10 ^ (te - m1).toNat) + plusN sv (!decide (ta < 0)) (valN L * 10 ^ (ev - m1).toNat) (ta.natAbs * 10 ^ (te - m1).toNat)) * 10 ^ (m1 - es).toNat) = false)
    (Bv gv cv : Nat) (w : World) (ho : OwnD w Bv (.slice (some ⟨gv, 0, none⟩) n cv) L) :
    Calls Tryd.prog 43 #[numV ta te, .agg #[.bool sv, .slice (some ⟨gv, 0, none⟩) n cv, .int .i64 ev]] w fun r w' => r = .returned (.bool true) ∧ Below w.heap.size w w' := by
  obtain ⟨bt, bt1, bt2⟩ := right_bounds ht
  obtain ⟨a1, a2, a3⟩ := digs_val ta
  have la : (digs ta).length ≤ 15 := by
    rw [digs_len]; exact nd_le 15 _ (by have e15 : (10 : Nat) ^ 15 = 1000000000000000 := by decide
                                        omega)
  obtain ⟨nt, hnt⟩ : ∃ s, s = decide (ta < 0) := ⟨_, rfl⟩
  rw [← hnt] at hv
  obtain ⟨L1, l1, d1, v1, P10⟩ := plus_len sv (!nt) ev te L (digs ta) (by omega) (by omega) (by omega) (by omega) (by omega) (by omega) hL a2 m1 hm1 _ _ rfl rfl
  rw [a1] at v1 P10
  obtain ⟨D, hD⟩ : ∃ D, D = plusN sv (!nt) (valN L * 10 ^ (ev - m1).toNat) (ta.natAbs * 10 ^ (te - m1).toNat) := ⟨_, rfl⟩
  rw [← hD] at hv v1
  have hL1b : L1.length ≤ 230 := by omega
  obtain ⟨L2, l2, d2, v2, P20⟩ := plus_len false false m1 m1 L1 L1 (by omega) (by omega) (by omega) (by omega) (by omega) (by omega) d1 d1 m1 (by omega) _ _ rfl rfl
  have hp0 : valN L1 * 10 ^ (m1 - m1).toNat = D := by rw [v1, Int.sub_self]; simp
  rw [hp0] at v2 P20
  have hs2 : plusS false false D D = false := by unfold plusS; rw [if_pos (by decide)]
  have hv2 : valN L2 = D + D := by rw [v2]; unfold plusN; rw [if_pos (by decide)]
  rw [hs2] at P20
  have hL2b : L2.length ≤ 231 := by rw [l2]; simp; omega
  obtain ⟨L4, l4, d4, v4, P40⟩ := plus_len false true u m1 [1] L2 (by decide) (by omega) (by omega) (by omega) (by omega) (by omega) (Dig.mk (by decide) (fun _ h => by simp at h)) d2 es hes _ _ rfl rfl
  rw [show valN [1] = 1 from rfl, hv2, hv] at P40
  obtain ⟨s1, hs1⟩ : ∃ s1, s1 = plusS sv (!nt) (valN L * 10 ^ (ev - m1).toNat) (ta.natAbs * 10 ^ (te - m1).toNat) := ⟨_, rfl⟩
  rw [← hs1] at P10
  obtain ⟨n1, hn1e⟩ : ∃ k, k = L1.length := ⟨_, rfl⟩
  obtain ⟨n2, hn2e⟩ : ∃ k, k = L2.length := ⟨_, rfl⟩
  obtain ⟨n4, hn4e⟩ : ∃ k, k = L4.length := ⟨_, rfl⟩
  have hn4b : n4 ≤ 1000 := by rw [hn4e, l4]; simp; omega
  rw [← hn1e] at P10
  rw [← hn2e] at P20
  rw [← hn4e] at P40
  have OF := Lib.hid (fun w1 => of_any ta te (by omega) (by omega) w1)
  unfold numV at OF
  rw [← hnt] at OF
  have P1 := Lib.hid P10
  have P2 := Lib.hid P20
  have P4 := Lib.hid P40
  have HN := Lib.hid hn
  have HN4 := Lib.hid hn4e
  have HZ := Lib.hid hz
  have hj0n : j0 ≤ n := by omega
  have hj0a : n ≤ j0 := by omega
  have hj0i : ¬ (j0 : Int) < (n : Int) := by omega
  have hw1 : IntKind.i64.wrap ((n : Int) - j0) = (n : Int) - j0 := by rw [IntKind.wrap_i64]; omega
  have hw2 : IntKind.i64.wrap ((n : Int) - j0 + ev) = (n : Int) - j0 + ev := by rw [IntKind.wrap_i64]; omega
  have hw3 : IntKind.i64.wrap ((n : Int) - j0 + ev - 15) = u := by rw [IntKind.wrap_i64]; omega
  have HU := Lib.hid hu
  have hdw := hdeep
  have HB0 := below2 w (.cells #[.int .i64 ta, .int .i64 te] 24) (.cells #[.bool sv, .slice (some ⟨gv, 0, none⟩) n cv, .int .i64 ev] 45)
  have V0 := D3.new (w.alloc (.cells #[.int .i64 ta, .int .i64 te] 24)) sv (.slice (some ⟨gv, 0, none⟩) n cv) ev
  rw [show (w.alloc (.cells #[.int .i64 ta, .int .i64 te] 24)).heap.size = w.heap.size + 1 by simp] at V0
  have hov := (ho.below (HB0))
  clear ht bt bt1 bt2 a1 a2 a3 la hnt hv P10 P20 P40 hD v1 v2 hv2 hs2 hp0 l1 l2 l4 d1 d2 d4 v4 hs1 hn1e hn2e hn4e hn hL hz hm1 hes hL1b hL2b hu hdeep  hj0 ho
  unfold numV
  go_enter Tryd.func43, Tryd.ntmps43
  obtain ⟨x0, x1, x2, y0, y1, y2, _⟩ := id V0
  go_wp2_with fail
  refine (OF.out _).mono ?_
  rintro r w1 ⟨vt, rfl, hvt, q1⟩
  obtain ⟨At, ct, hvt2, _⟩ := hvt.open
  obtain ⟨kt, hkt⟩ : ∃ kt, kt = (digs ta).length := ⟨_, rfl⟩
  rw [← hkt] at hvt2
  subst hvt2
  have al1 := alloc_below w1 (.cells #[.bool (!nt), .slice At kt ct, .int .i64 te] 45)
  have W1 := D3.new w1 (!nt) (.slice At kt ct) te
  have V1 := (V0.below q1 V0.lt).below al1 (V0.below q1 V0.lt).lt
  have o1 := (hov.below q1).below al1
  have t1 := hvt.below al1
  have b1 := (HB0.trans (q1.mono HB0.size)).trans (al1.mono (Nat.le_trans HB0.size q1.size))
  have HP1 := Lib.hid (P1.out _ _ _ o1.vd t1)
  clear x0 x1 x2 y0 y1 y2 OF q1 hov V0 HB0 hvt al1 hkt t1 P1
  obtain ⟨x0, x1, x2, y0, y1, y2, _⟩ := id V1
  obtain ⟨z0, z1, z2, z3, z4, z5, _⟩ := id W1
  go_wp2_with fail
  refine HP1.out.mono ?_
  rintro r w2 ⟨g1, c1, rfl, o2, q2⟩
  have al2 := alloc_below w2 (.cells #[.bool false, .slice (some ⟨g1, 0, none⟩) n1 c1, .int .i64 m1] 45)
  have O2 := D3.new w2 false (.slice (some ⟨g1, 0, none⟩) n1 c1) m1
  have V2 := (V1.below q2 V1.lt).below al2 (V1.below q2 V1.lt).lt
  have o1' := (o1.below q2).below al2
  have o2' := o2.below al2
  have b2 := (b1.trans (q2.mono b1.size)).trans (al2.mono (Nat.le_trans b1.size q2.size))
  have HP2 := Lib.hid (P2.out _ _ _ o2'.vd o2'.vd)
  clear x0 x1 x2 y0 y1 y2 z0 z1 z2 z3 z4 z5 q2 al2 V1 W1 o1 o2 o2' HP1 b1 P2
  obtain ⟨x0, x1, x2, y0, y1, y2, _⟩ := id V2
  obtain ⟨z0, z1, z2, z3, z4, z5, _⟩ := id O2
  go_wp2_with fail
  refine HP2.out.mono ?_
  rintro r w3 ⟨g2, c2, rfl, o3, q3⟩
  have al3 := alloc_below w3 (.cells #[.bool false, .slice (some ⟨g2, 0, none⟩) n2 c2, .int .i64 m1] 45)
  have T3 := D3.new w3 false (.slice (some ⟨g2, 0, none⟩) n2 c2) m1
  have V3 := (V2.below q3 V2.lt).below al3 (V2.below q3 V2.lt).lt
  have ov := (o1'.below q3).below al3
  have hvd3 := o3.vd
  have Q3a := al3
  have b3 := (b2.trans (q3.mono b2.size)).trans (al3.mono (Nat.le_trans b2.size q3.size))
  have hz3 : w.heap.size + 1 < w3.heap.size := (V2.below q3 V2.lt).lt
  clear x0 x1 x2 y0 y1 y2 z0 z1 z2 z3 z4 z5 q3 al3 V2 O2 o1' o3 HP2 b2
  obtain ⟨x0, x1, x2, y0, y1, y2, _⟩ := id V3
  obtain ⟨z0, z1, z2, z3, z4, z5, _⟩ := id T3
  go_wp2_with fail
  go_loop [8] (fun i' => ∃ j : Nat, j ≤ j0 ∧ i' = .int .i64 (j : Int)) (fun i' => j0 - (intOf i').toNat)
  case atStart => exact ⟨0, Nat.zero_le _, rfl⟩
  case round =>
    obtain ⟨j, hj, rfl⟩ := hrel
    by_cases hjj : j < j0
    · have hcell := (ov.at (k := j) (HZ.out j hjj)).1
      rw [show ((0 : UInt8).toNat : Int) = 0 from rfl] at hcell
      have hjn : (j : Int) < (n : Int) := by omega
      clear HZ b3 hvd3 Q3a T3 V3 ov
      go_wp2
      go_round
      case rel => exact ⟨j + 1, by omega, by go_num⟩
      case measure => simp [intOf]; omega
    · obtain rfl : j = j0 := by omega
      have hs3a : (w3.alloc (.cells #[.bool false, .slice (some ⟨g2, 0, none⟩) n2 c2, .int .i64 m1] 45)).heap.size = w3.heap.size + 1 := by simp
      have hs3b : ((w3.alloc (.cells #[.bool false, .slice (some ⟨g2, 0, none⟩) n2 c2, .int .i64 m1] 45)).alloc (.cells #[.int .i64 1] 3)).heap.size = w3.heap.size + 1 + 1 := by simp
      have hs3c : (((w3.alloc (.cells #[.bool false, .slice (some ⟨g2, 0, none⟩) n2 c2, .int .i64 m1] 45)).alloc (.cells #[.int .i64 1] 3)).alloc (.cells #[.bool false, .slice (some ⟨w3.heap.size + 1, 0, none⟩) 1 1, .int .i64 u] 45)).heap.size = w3.heap.size + 1 + 1 + 1 := by simp
      have lA := lit1' (w3.alloc (.cells #[.bool false, .slice (some ⟨g2, 0, none⟩) n2 c2, .int .i64 m1] 45))
      rw [hs3a] at lA
      have alb := alloc_below (w3.alloc (.cells #[.bool false, .slice (some ⟨g2, 0, none⟩) n2 c2, .int .i64 m1] 45)) (.cells #[.int .i64 1] 3)
      have alc := alloc_below ((w3.alloc (.cells #[.bool false, .slice (some ⟨g2, 0, none⟩) n2 c2, .int .i64 m1] 45)).alloc (.cells #[.int .i64 1] 3)) (.cells #[.bool false, .slice (some ⟨w3.heap.size + 1, 0, none⟩) 1 1, .int .i64 u] 45)
      have M3 := D3.new ((w3.alloc (.cells #[.bool false, .slice (some ⟨g2, 0, none⟩) n2 c2, .int .i64 m1] 45)).alloc (.cells #[.int .i64 1] 3)) false (.slice (some ⟨w3.heap.size + 1, 0, none⟩) 1 1) u
      rw [hs3b] at M3
      have T3b := T3.below alb T3.lt
      have T3c := T3b.below alc T3b.lt
      have lA3 := lA.below alc
      have Q3c := (Q3a.trans (alb.mono Q3a.size)).trans (alc.mono (Nat.le_trans Q3a.size alb.size))
      have b3c := (b3.trans (alb.mono b3.size)).trans (alc.mono (Nat.le_trans b3.size alb.size))
      have V3b := V3.below alb V3.lt
      have V3c := V3b.below alc V3b.lt
      have hw9 : w.heap.size + 1 < w3.heap.size := hz3
      clear hw9 lA alb T3b T3 V3 V3b Q3a b3 HZ ov alc
      have HP4 := Lib.hid (P4.out _ _ _ lA3 (hvd3.below Q3c))
      obtain ⟨m0c, m1c, m2c, m3c, m4c, m5c, _⟩ := id M3
      obtain ⟨t0c, t1c, t2c, t3c, t4c, t5c, _⟩ := id T3c
      obtain ⟨v0c, v1c, v2c, _⟩ := id V3c
      clear lA3 M3 Q3c hvd3 P4 T3c V3c
      go_wp2_with fail
      refine HP4.out.mono ?_
      rintro r w5 ⟨g4, c4, rfl, o5', q5⟩
      have al5 := alloc_below w5 (.cells #[.bool false, .slice (some ⟨g4, 0, none⟩) n4 c4, .int .i64 es] 45)
      have R5 := D3.new w5 false (.slice (some ⟨g4, 0, none⟩) n4 c4) es
      have o5 := o5'.below al5
      have b5 := (b3c.trans (q5.mono b3c.size)).trans (al5.mono (Nat.le_trans b3c.size q5.size))
      clear m0c m1c m2c m3c m4c m5c t0c t1c t2c t3c t4c t5c v0c v1c v2c HP4 q5 al5 o5' b3c
      obtain ⟨m0c, m1c, m2c, m3c, m4c, m5c, _⟩ := id R5
      clear hw1 hw2 hw3
      go_wp2_with fail
      go_loop [12] (fun i' => ∃ j : Nat, j ≤ n4 ∧ i' = .int .i64 (j : Int)) (fun i' => n4 - (intOf i').toNat)
      case atStart => exact ⟨0, Nat.zero_le _, rfl⟩
      case round =>
        obtain ⟨j2, hj2, rfl⟩ := hrel
        by_cases hjn : j2 < n4
        · have hjL : j2 < L4.length := by rw [← HN4.out]; exact hjn
          have hcell := (o5.at (k := j2) (List.getElem?_eq_getElem hjL)).1
          obtain ⟨x, hx⟩ : ∃ x, x = L4[j2] := ⟨_, rfl⟩
          rw [← hx] at hcell
          have hjn2 : (j2 : Int) < (n4 : Int) := by omega
          by_cases hx0 : x = 0
          · have hxi2 : ((x.toNat : Int) != 0) = false := by rw [hx0]; rfl
            clear hx hx0 b5 R5 o5
            go_wp2
            go_round
            case rel => exact ⟨j2 + 1, by omega, by go_num⟩
            case measure => simp [intOf]; omega
          · have hxi2 : ((x.toNat : Int) != 0) = true := by
              rw [bne_iff_ne]; intro e; exact hx0 (UInt8.toNat_inj.1 (show x.toNat = 0 by omega))
            clear hx hx0 R5 o5
            go_wp2
            go_ret
            exact ⟨rfl, b5⟩
        · obtain rfl : j2 = n4 := by omega
          clear R5 o5
          go_wp2
          go_ret
          exact ⟨rfl, b5⟩

theorem strip_drop : ∀ (L : List UInt8), ∃ j, j ≤ L.length ∧ strip L = L.drop j ∧ (∀ i, i < j → L[i]? = some 0) ∧ (∀ x, L[j]? = some x → x ≠ 0)
  | [] => ⟨0, Nat.le_refl _, rfl, fun i hi => absurd hi (by omega), fun x hx => by simp at hx⟩
  | x :: t => by
    by_cases h : x = 0
    · obtain ⟨j, h1, h2, h3, h4⟩ := strip_drop t
      refine ⟨j + 1, by rw [List.length_cons]; omega, by rw [strip, if_pos h, h2]; rfl, fun i hi => ?_, fun y hy => h4 y (by simpa using hy)⟩
      cases i with
      | zero => simp [h]
      | succ i => simpa using h3 i (by omega)
    · exact ⟨0, Nat.zero_le _, by rw [strip, if_neg h]; rfl, fun i hi => absurd hi (by omega), fun y hy => by simp at hy; rw [← hy]; exact h⟩
/-- what is rounded is near -/
theorem near_true (ta te : Int) (sv : Bool) (ev : Int) (L : List UInt8) (n : Nat) (hn : L.length = n) (hL : Dig L) (hn1 : n ≤ 100) (he0 : -80 ≤ ev) (he1 : ev ≤ 80) (h : roundN sv (valN L) ev = (ta, te, true))
    (Bv gv cv : Nat) (w : World) (ho : OwnD w Bv (.slice (some ⟨gv, 0, none⟩) n cv) L) :
    Calls Tryd.prog 43 #[numV ta te, .agg #[.bool sv, .slice (some ⟨gv, 0, none⟩) n cv, .int .i64 ev]] w fun r w' => r = .returned (.bool true) ∧ Below w.heap.size w w' := by
  have ht : rightB ta te = true := by
    have := roundN_right sv (valN L) ev
    rw [h] at this; exact this
  obtain ⟨bt, bt1, bt2⟩ := right_bounds ht
  obtain ⟨j0, g1, g2, g3, g4⟩ := strip_drop L
  have hnd : nd (valN L) = n - j0 := by
    have h1 := nd_len (strip_dig hL) (strip_nz L)
    rw [strip_val] at h1
    rw [g2, List.length_drop, hn] at h1
    exact h1
  obtain ⟨m1, hm1⟩ : ∃ m1, m1 = min ev te := ⟨_, rfl⟩
  obtain ⟨u, hu⟩ : ∃ u, u = (n : Int) - j0 + ev - 15 := ⟨_, rfl⟩
  obtain ⟨es, hes⟩ : ∃ es, es = min u m1 := ⟨_, rfl⟩
  have hb := near_bound (by omega) (by omega) bt1 h m1 u es hm1 (by rw [hnd]; omega) (by omega) hes _ rfl
  have hv : plusS false true (mostV u * 10 ^ (u - es).toNat) ((plusN sv (!decide (ta < 0)) (valN L * 10 ^ (ev - m1).toNat) (ta.natAbs * 10 ^ (te - m1).toNat) + plusN sv (!decide (ta < 0)) (valN L * 10 ^ (ev - m1).toNat) (ta.natAbs * 10 ^ (te - m1).toNat)) * 10 ^ (m1 - es).toNat) = false := by
    unfold plusS
    rw [if_neg (by decide), if_neg (by omega)]
  by_cases hd : u < -40
  · rw [mostV, if_pos hd] at hv
    by_cases hj : j0 < n
    · exact near_some_deep ta te ht sv ev L n hn hL hn1 he0 he1 j0 g3 hj _ (List.getElem?_eq_getElem (by omega)) (g4 _ (List.getElem?_eq_getElem (by omega))) u hu hd m1 es hm1 hes hv Bv gv cv w ho
    · exact near_zero_deep ta te ht sv ev L n hn hL hn1 he0 he1 j0 g3 (by omega) u hu hd m1 es hm1 hes hv Bv gv cv w ho
  · rw [mostV, if_neg hd] at hv
    by_cases hj : j0 < n
    · exact near_some_flat ta te ht sv ev L n hn hL hn1 he0 he1 j0 g3 hj _ (List.getElem?_eq_getElem (by omega)) (g4 _ (List.getElem?_eq_getElem (by omega))) u hu hd m1 es hm1 hes hv Bv gv cv w ho
    · exact near_zero_flat ta te ht sv ev L n hn hL hn1 he0 he1 j0 g3 (by omega) u hu hd m1 es hm1 hes hv Bv gv cv w ho
end Go.Proofs.YtkdjdoncmihkfaaDoor
