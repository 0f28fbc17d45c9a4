/- The law NumFloors, of every number. -/
import Derived.Test.YtkdjdoncmihkfaaDoorFc
import Derived.Test.YtkdjdoncmihkfaaDoorNr
import Derived.Test.YtkdjdoncmihkfaaDoorLaw
namespace Go.Proofs.YtkdjdoncmihkfaaDoor
open Go.RowKit

theorem cmpI_pos {u v : Int} (h : ¬ 0 ≤ cmpI u v) : u < v := by
  unfold cmpI at h
  by_cases h1 : u < v
  · exact h1
  · rw [if_neg h1] at h; split at h <;> omega
theorem cmpI_low {u v : Int} (h : ¬ cmpI u v ≤ 0) : v < u := by
  unfold cmpI at h
  by_cases h1 : u < v
  · rw [if_pos h1] at h; omega
  · rw [if_neg h1] at h; split at h <;> omega
theorem cmpI_le {u v : Int} (h : u ≤ v) : cmpI u v ≤ 0 := by
  unfold cmpI
  by_cases h1 : u < v
  · rw [if_pos h1]; omega
  · rw [if_neg h1, if_pos (by omega)]; omega
theorem cmpI_lt {u v : Int} (h : u < v) : cmpI u v < 0 := by
  unfold cmpI
  rw [if_pos h]; omega
theorem floors_val {a b : Int} (ha : rightB a b = true) (h1 : ¬ 0 ≤ cmpV a b 1 14) (h2 : ¬ cmpV a b (-1) 14 ≤ 0) :
    (intP (floorP a b).1 (floorP a b).2).2 = true ∧ -100000000000000 ≤ (intP (floorP a b).1 (floorP a b).2).1 ∧ (addN (floorP a b).1 (floorP a b).2 1 0).2.2 = true ∧
    cmpV (floorP a b).1 (floorP a b).2 a b ≤ 0 ∧ cmpV a b (addN (floorP a b).1 (floorP a b).2 1 0).1 (addN (floorP a b).1 (floorP a b).2 1 0).2.1 < 0 ∧
    floorP (floorP a b).1 (floorP a b).2 = floorP a b ∧ roundP (floorP a b).1 (floorP a b).2 0 = floorP a b := by
  have k1 := cmpI_pos h1
  have k2 := cmpI_low h2
  have e1 : vI 1 14 = ((10 ^ 54 : Nat) : Int) := by unfold vI; rw [Int.one_mul]; rfl
  have e2 : vI (-1) 14 = -((10 ^ 54 : Nat) : Int) := by rw [vI_neg, e1]
  rw [e1] at k1
  rw [e2] at k2
  have e3 : 10 ^ 54 = 10 ^ 14 * 10 ^ 40 := (Nat.pow_add 10 14 40)
  have hr := floorP_right a b
  obtain ⟨W, b1, b2, f2, f3, lo, hi⟩ := floor_val ha (by rw [← e3]; omega)
  obtain ⟨⟨f0, f1⟩, hf⟩ : ∃ f, f = floorP a b := ⟨_, rfl⟩
  rw [← hf] at hr f2 f3 ⊢
  simp only at hr f2 f3 ⊢
  have e14 : 10 ^ 15 = 1000000000000000 := by decide
  obtain ⟨T, hT⟩ : ∃ T : Nat, T = 10 ^ 40 := ⟨_, rfl⟩
  have hTp : 0 < T := by rw [hT]; exact pow_pos10 40
  rw [← hT] at f3 lo hi
  have hW : f0 * ((10 ^ f1.toNat : Nat) : Int) = W := by
    have : vI f0 f1 = (f0 * ((10 ^ f1.toNat : Nat) : Int)) * (T : Int) := by
      unfold vI
      rw [Int.mul_assoc, show (f1 + 40).toNat = f1.toNat + 40 by omega, Int.pow_add, hT]
      simp
    rw [this] at f3
    exact Int.eq_of_mul_eq_mul_right (by omega) f3
  have hWa : f0.natAbs * 10 ^ f1.toNat = W.natAbs := by rw [← hW, Int.natAbs_mul]; rfl
  have hsg : f0 < 0 ↔ W < 0 := by
    have h3 := vI_negp (m := f0) (e := f1)
    rw [f3] at h3
    constructor
    · intro h
      by_cases hw : W < 0
      · exact hw
      · have := Int.mul_nonneg (show 0 ≤ W by omega) (show (0 : Int) ≤ (T : Int) by omega)
        have := h3.2 h; omega
    · intro h
      exact h3.1 (Int.mul_neg_of_neg_of_pos h (by omega))
  have hin : intP f0 f1 = (W, true) := by
    unfold intP
    rw [if_pos ⟨hr, f2⟩, intGo_val _ _ (by rw [hWa]; omega), hW]
  have had : (addN f0 f1 1 0).2.2 = true ∧ vI (addN f0 f1 1 0).1 (addN f0 f1 1 0).2.1 = (W + 1) * (T : Int) := by
    have hmin : min f1 0 = 0 := by omega
    rw [addN_plus f0 f1 1 0 (W.natAbs) 1 (by rw [hmin, Int.sub_zero, hWa]) (by rw [hmin]; rfl), hmin, hT]
    have hd : decide ((1 : Int) < 0) = false := by decide
    rw [hd]
    by_cases hw : W < 0
    · rw [show decide (f0 < 0) = true by rw [decide_eq_true_eq]; exact hsg.2 hw]
      have s1 : plusS true false W.natAbs 1 = true := by unfold plusS; rw [if_neg (by decide), if_neg (by omega)]
      have s2 : plusN true false W.natAbs 1 = W.natAbs - 1 := by unfold plusN; rw [if_neg (by decide), if_neg (by omega)]
      rw [s1, s2]
      obtain ⟨m1, _, m3⟩ := whole_made true (W.natAbs - 1) (by omega)
      refine ⟨m1, ?_⟩
      rw [m3, if_pos rfl]
      congr 1
      omega
    · rw [show decide (f0 < 0) = false by rw [decide_eq_false_iff_not]; exact fun h => hw (hsg.1 h)]
      have s1 : plusS false false W.natAbs 1 = false := by unfold plusS; rw [if_pos (by decide)]
      have s2 : plusN false false W.natAbs 1 = W.natAbs + 1 := by unfold plusN; rw [if_pos (by decide)]
      rw [s1, s2]
      obtain ⟨m1, _, m3⟩ := whole_made false (W.natAbs + 1) (by omega)
      refine ⟨m1, ?_⟩
      rw [m3]
      congr 1
      simp
      omega
  rw [hin]
  refine ⟨rfl, b1, had.1, ?_, ?_, ?_, ?_⟩
  · unfold cmpV; exact cmpI_le (by rw [f3]; exact lo)
  · unfold cmpV; exact cmpI_lt (by rw [had.2]; exact hi)
  · unfold floorP; rw [if_pos hr, if_pos f2]
  · unfold roundP; rw [if_pos (by omega)]
theorem right_unit (s e : Int) (hs : s = 1 ∨ s = -1) (h0 : -40 ≤ e) (h1 : e ≤ 39) : rightB s e = true := by
  have hn : nd s.natAbs ≤ 1 := nd_le 1 _ (by omega)
  unfold rightB
  rw [if_neg (by omega), if_neg (by rcases hs with rfl | rfl <;> simp <;> omega), decide_eq_true_eq]
  omega
theorem roundX_any (m e p : Int) (hr : rightB m e = true) (w : World) (ht : Tab w) : Calls Tryd.prog 35 #[numV m e, .int .i64 p] w fun r w' => r = .returned (numV (roundP m e p).1 (roundP m e p).2) ∧ Below w.heap.size w w' := rnd_any m e p hr w ht
/-- what the walk holds: a number's cells, and a whole one's -/
def Kw (w : World) (a b : Int) (B : Nat) (x y : Int) (w' : World) : Prop :=
  (w'.cell? ⟨w.heap.size, 0, none⟩ = some (.int .i64 a) ∧ w'.cell? ⟨w.heap.size, 1, none⟩ = some (.int .i64 b) ∧ w.heap.size < w'.heap.size) ∧ (w'.cell? ⟨B, 0, none⟩ = some (.int .i64 x) ∧ w'.cell? ⟨B, 1, none⟩ = some (.int .i64 y) ∧ B < w'.heap.size) ∧ Tab w' ∧ Below w.heap.size w w'
theorem Kw.later {w : World} {a b : Int} {B : Nat} {x y : Int} {w1 w2 : World} (h : Kw w a b B x y w1) (hb : Below w1.heap.size w1 w2) : Kw w a b B x y w2 := by
  obtain ⟨h1, h2, h3, h4⟩ := h
  exact ⟨C2.later h1 hb, C2.later h2 hb, h3.below hb, h4.trans (hb.mono h4.size)⟩
def Kz (w : World) (a b : Int) (B : Nat) (x y : Int) (C : Nat) (p q : Int) (w' : World) : Prop :=
  (w'.cell? ⟨w.heap.size, 0, none⟩ = some (.int .i64 a) ∧ w'.cell? ⟨w.heap.size, 1, none⟩ = some (.int .i64 b) ∧ w.heap.size < w'.heap.size) ∧ (w'.cell? ⟨B, 0, none⟩ = some (.int .i64 x) ∧ w'.cell? ⟨B, 1, none⟩ = some (.int .i64 y) ∧ B < w'.heap.size) ∧ (w'.cell? ⟨C, 0, none⟩ = some (.int .i64 p) ∧ w'.cell? ⟨C, 1, none⟩ = some (.int .i64 q) ∧ C < w'.heap.size) ∧ Tab w' ∧ Below w.heap.size w w'
theorem Kz.later {w : World} {a b : Int} {B : Nat} {x y : Int} {C : Nat} {p q : Int} {w1 w2 : World} (h : Kz w a b B x y C p q w1) (hb : Below w1.heap.size w1 w2) : Kz w a b B x y C p q w2 := by
  obtain ⟨h1, h2, h5, h3, h4⟩ := h
  exact ⟨C2.later h1 hb, C2.later h2 hb, C2.later h5 hb, h3.below hb, h4.trans (hb.mono h4.size)⟩
set_option maxRecDepth 1000000 in
set_option maxHeartbeats 8000000 in
theorem floors_yes (a b : Int) (ha : rightB a b = true) (w : World) (ht : Tab w) :
    Calls Tryd.prog 12 #[numV a b] w fun r w' => r = .returned (.bool true) ∧ Below w.heap.size w w' := by
  obtain ⟨ba, bb1, bb2⟩ := right_bounds ha
  have hv := fun h1 h2 => floors_val ha h1 h2
  have hrf := floorP_right a b
  have HAW : Hid (∀ w1, Tab w1 → Calls Tryd.prog 14 #[] w1 fun r w' => r = .returned (.bool true) ∧ Below w1.heap.size w1 w') := fun w1 h => awake_any w1 h
  have Q1 : Hid (∀ w1, Calls Tryd.prog 18 #[.agg #[.int .i64 a, .int .i64 b]] w1 fun r w' => r = .returned (.bool true) ∧ Below w1.heap.size w1 w') := by
    intro w1; have := rright_any a b w1; rw [ha] at this; exact this
  have wa : Wf a b := ⟨⟨by omega, by omega⟩, by omega, by omega⟩
  have FL1 : Hid (∀ w1, Tab w1 → Calls Tryd.prog 37 #[.agg #[.int .i64 a, .int .i64 b]] w1 fun r w' => r = .returned (numV (floorP a b).1 (floorP a b).2) ∧ Below w1.heap.size w1 w') := fun w1 h => floor_any a b wa w1 h
  obtain ⟨c1, hc1⟩ : ∃ c, c = cmpV a b 1 14 := ⟨_, rfl⟩
  obtain ⟨c2, hc2⟩ : ∃ c, c = cmpV a b (-1) 14 := ⟨_, rfl⟩
  rw [← hc1, ← hc2] at hv
  have RC1 : Hid (∀ w1, Tab w1 → Calls Tryd.prog 26 #[.agg #[.int .i64 a, .int .i64 b], .agg #[.int .i64 1, .int .i64 14]] w1 fun r w' => r = .returned (.int .i64 c1) ∧ Below w1.heap.size w1 w') := fun w1 h => by
    rw [hc1]; exact rcmp_yes a b 1 14 ha (right_unit 1 14 (.inl rfl) (by omega) (by omega)) w1 h
  have RC2 : Hid (∀ w1, Tab w1 → Calls Tryd.prog 26 #[.agg #[.int .i64 a, .int .i64 b], .agg #[.int .i64 (-1), .int .i64 14]] w1 fun r w' => r = .returned (.int .i64 c2) ∧ Below w1.heap.size w1 w') := fun w1 h => by
    rw [hc2]; exact rcmp_yes a b (-1) 14 ha (right_unit (-1) 14 (.inr rfl) (by omega) (by omega)) w1 h
  obtain ⟨⟨f0, f1⟩, hf⟩ : ∃ f, f = floorP a b := ⟨_, rfl⟩
  rw [← hf] at FL1 hv hrf
  simp only [numV] at FL1 hv hrf
  obtain ⟨fa, fb1, fb2⟩ := right_bounds hrf
  have wf : Wf f0 f1 := ⟨⟨by omega, by omega⟩, by omega, by omega⟩
  obtain ⟨⟨n, ok⟩, hn⟩ : ∃ f, f = intP f0 f1 := ⟨_, rfl⟩
  have IN : Hid (∀ w1, Calls Tryd.prog 33 #[.agg #[.int .i64 f0, .int .i64 f1]] w1 fun r w' => r = .returned (.tuple #[.int .i64 n, .bool ok]) ∧ Below w1.heap.size w1 w') := fun w1 => by
    have := int_any f0 f1 wf w1; rw [← hn] at this; exact this
  obtain ⟨⟨g0, g1, more⟩, hg⟩ : ∃ g, g = addN f0 f1 1 0 := ⟨_, rfl⟩
  have hrg := addN_right f0 f1 1 0
  have AD : Hid (∀ w1, Tab w1 → Calls Tryd.prog 19 #[.agg #[.int .i64 f0, .int .i64 f1], .agg #[.int .i64 1, .int .i64 0]] w1 fun e w' => e = .returned (.tuple #[.agg #[.int .i64 g0, .int .i64 g1], .bool more]) ∧ Below w1.heap.size w1 w') := fun w1 h => by
    have := add_any f0 f1 1 0 hrf (right_unit 1 0 (.inl rfl) (by omega) (by omega)) w1 h; rw [← hg] at this; exact this
  rw [← hg] at hrg hv
  rw [← hn] at hv
  simp only at hrg hv
  obtain ⟨s1, hs1⟩ : ∃ s, s = cmpV f0 f1 a b := ⟨_, rfl⟩
  obtain ⟨s2, hs2⟩ : ∃ s, s = cmpV a b g0 g1 := ⟨_, rfl⟩
  have CM1 : Hid (∀ w1, Tab w1 → Calls Tryd.prog 25 #[.agg #[.int .i64 f0, .int .i64 f1], .agg #[.int .i64 a, .int .i64 b]] w1 fun r w' => r = .returned (.int .i64 s1) ∧ Below w1.heap.size w1 w') := fun w1 h => by rw [hs1]; exact cmp_any f0 f1 a b hrf ha w1 h
  have CM2 : Hid (∀ w1, Tab w1 → Calls Tryd.prog 25 #[.agg #[.int .i64 a, .int .i64 b], .agg #[.int .i64 g0, .int .i64 g1]] w1 fun r w' => r = .returned (.int .i64 s2) ∧ Below w1.heap.size w1 w') := fun w1 h => by rw [hs2]; exact cmp_any a b g0 g1 ha hrg w1 h
  rw [← hs1, ← hs2] at hv
  have FL2 : Hid (∀ w1, Tab w1 → Calls Tryd.prog 37 #[.agg #[.int .i64 f0, .int .i64 f1]] w1 fun r w' => r = .returned (numV (floorP f0 f1).1 (floorP f0 f1).2) ∧ Below w1.heap.size w1 w') := fun w1 h => floor_any f0 f1 wf w1 h
  have RN : Hid (∀ w1, Tab w1 → Calls Tryd.prog 35 #[.agg #[.int .i64 f0, .int .i64 f1], .int .i64 0] w1 fun r w' => r = .returned (numV (roundP f0 f1 0).1 (roundP f0 f1 0).2) ∧ Below w1.heap.size w1 w') := fun w1 h => roundX_any f0 f1 0 hrf w1 h
  have HV := Lib.hid hv
  have S0 := Slot.new w a b
  have K0 : C2 (w.alloc (.cells #[.int .i64 a, .int .i64 b] 24)) w.heap.size a b := C2.new w a b
  have HT0 : Tab (w.alloc (.cells #[.int .i64 a, .int .i64 b] 24)) := ht.below (alloc_below _ _)
  have HB0 := alloc_below w (.cells #[.int .i64 a, .int .i64 b] 24)
  clear hv ha ht wa wf hf hn hg hs1 hs2 hc1 hc2 hrf hrg ba bb1 bb2 fa fb1 fb2 S0
  unfold numV
  go_enter Tryd.func12, Tryd.ntmps12
  go_wp2_with fail
  refine (HAW.out _ HT0).mono ?_
  rintro e w1 ⟨rfl, hb1⟩
  have K1 := K0.later hb1
  have HT1 := HT0.below hb1
  have HB1 := HB0.trans (hb1.mono HB0.size)
  clear hb1 HAW K0 HT0 HB0
  obtain ⟨p0, p1, _⟩ := id K1
  go_wp2_with fail
  refine (Q1.out _).mono ?_
  rintro e w2 ⟨rfl, hb1⟩
  have K2 := K1.later hb1
  have HT2 := HT1.below hb1
  have HB2 := HB1.trans (hb1.mono HB1.size)
  clear hb1 Q1 K1 HT1 HB1 p0 p1
  obtain ⟨p0, p1, _⟩ := id K2
  go_wp2_with fail
  refine (FL1.out _ HT2).mono ?_
  rintro e w3 ⟨rfl, hb1⟩
  have al := alloc_below w3 (.cells #[.int .i64 f0, .int .i64 f1] 24)
  have Kx0 : Kw w a b w3.heap.size f0 f1 (w3.alloc (.cells #[.int .i64 f0, .int .i64 f1] 24)) := ⟨(K2.later hb1).later al, C2.new w3 f0 f1, (HT2.below hb1).below al, (HB2.trans (hb1.mono HB2.size)).trans (al.mono (Nat.le_trans HB2.size hb1.size))⟩
  clear hb1 FL1 K2 HT2 HB2 p0 p1 al
  obtain ⟨⟨p0, p1, _⟩, ⟨p2, p3, _⟩, _, _⟩ := id Kx0
  go_wp2_with fail
  refine (IN.out _).mono ?_
  rintro e w4 ⟨rfl, hb1⟩
  have K4 := Kx0.later hb1
  clear hb1 IN Kx0 p0 p1 p2 p3
  obtain ⟨⟨p0, p1, _⟩, ⟨p2, p3, _⟩, _, _⟩ := id K4
  go_wp2_with fail
  refine (RC1.out _ K4.2.2.1).mono ?_
  rintro e w5 ⟨rfl, hb1⟩
  have K5 := K4.later hb1
  clear hb1 RC1 K4 p0 p1 p2 p3
  obtain ⟨⟨p0, p1, _⟩, ⟨p2, p3, _⟩, _, _⟩ := id K5
  by_cases hc1 : 0 ≤ c1
  · clear RC2 AD CM1 CM2 FL2 RN HV
    have hfin := K5.2.2.2
    clear K5
    go_wp2
    go_ret
    exact ⟨rfl, hfin⟩
  have hc1' : ¬ (0 : Int) ≤ c1 := hc1
  go_wp2_with fail
  refine (RC2.out _ K5.2.2.1).mono ?_
  rintro e w6 ⟨rfl, hb1⟩
  have K6 := K5.later hb1
  clear hb1 RC2 K5 p0 p1 p2 p3
  obtain ⟨⟨p0, p1, _⟩, ⟨p2, p3, _⟩, _, _⟩ := id K6
  by_cases hc2 : c2 ≤ 0
  · clear AD CM1 CM2 FL2 RN HV
    have hfin := K6.2.2.2
    clear K6
    go_wp2
    go_ret
    exact ⟨rfl, hfin⟩
  obtain ⟨o1, o2, o3, o4, o5, o6, o7⟩ := HV.out (by omega) (by omega)
  rw [o6] at FL2
  rw [o7] at RN
  simp only [numV] at FL2 RN
  subst o1 o3
  clear HV o6 o7
  go_wp2_with fail
  refine (AD.out _ K6.2.2.1).mono ?_
  rintro e w7 ⟨rfl, hb1⟩
  have al := alloc_below w7 (.cells #[.int .i64 g0, .int .i64 g1] 24)
  have K7 := (K6.later hb1).later al
  have Z0 : Kz w a b w3.heap.size f0 f1 w7.heap.size g0 g1 (w7.alloc (.cells #[.int .i64 g0, .int .i64 g1] 24)) := ⟨K7.1, K7.2.1, C2.new w7 g0 g1, K7.2.2⟩
  clear hb1 AD K6 K7 p0 p1 p2 p3 al
  have Z0h := Lib.hid Z0
  obtain ⟨⟨p0, p1, _⟩, ⟨p2, p3, _⟩, ⟨p4, p5, _⟩, _, _⟩ := Z0
  go_wp2_with fail
  go_region_held3 (fun w' => (w'.cell? ⟨w.heap.size, 0, none⟩ = some (.int .i64 a) ∧ w'.cell? ⟨w.heap.size, 1, none⟩ = some (.int .i64 b) ∧ w.heap.size < w'.heap.size) ∧ (w'.cell? ⟨w3.heap.size, 0, none⟩ = some (.int .i64 f0) ∧ w'.cell? ⟨w3.heap.size, 1, none⟩ = some (.int .i64 f1) ∧ w3.heap.size < w'.heap.size) ∧ (w'.cell? ⟨w7.heap.size, 0, none⟩ = some (.int .i64 g0) ∧ w'.cell? ⟨w7.heap.size, 1, none⟩ = some (.int .i64 g1) ∧ w7.heap.size < w'.heap.size) ∧ Tab w' ∧ Below w.heap.size w w')
    ((show Kz w a b w3.heap.size f0 f1 w7.heap.size g0 g1 _; with_reducible first | exact Z0h.out.later (below_dr _) | exact X5.out))
    (first
      | (go_at_call_of 25 (Value.agg #[.int .i64 g0, .int .i64 g1]); refine (CM2.out _ (show Kz w a b w3.heap.size f0 f1 w7.heap.size g0 g1 _ by assumption).2.2.2.1).mono ?_; rintro e w12 ⟨rfl, hb12⟩; have X5 := Lib.hid (Kz.later (show Kz w a b w3.heap.size f0 f1 w7.heap.size g0 g1 _ by assumption) hb12))
      | (go_at_call 25; refine (CM1.out _ (show Kz w a b w3.heap.size f0 f1 w7.heap.size g0 g1 _ by assumption).2.2.2.1).mono ?_; rintro e w12 ⟨rfl, hb12⟩; have X5 := Lib.hid (Kz.later (show Kz w a b w3.heap.size f0 f1 w7.heap.size g0 g1 _ by assumption) hb12))
      | (go_at_call 37; refine (FL2.out _ (show Kz w a b w3.heap.size f0 f1 w7.heap.size g0 g1 _ by assumption).2.2.2.1).mono ?_; rintro e w12 ⟨rfl, hb12⟩; have X5 := Lib.hid (Kz.later (show Kz w a b w3.heap.size f0 f1 w7.heap.size g0 g1 _ by assumption) hb12))
      | (go_at_call 35; refine (RN.out _ (show Kz w a b w3.heap.size f0 f1 w7.heap.size g0 g1 _ by assumption).2.2.2.1).mono ?_; rintro e w12 ⟨rfl, hb12⟩; have X5 := Lib.hid (Kz.later (show Kz w a b w3.heap.size f0 f1 w7.heap.size g0 g1 _ by assumption) hb12)))
  have hfin : Below w.heap.size w w12 := X5.out.2.2.2.2
  clear hb12 X5
  go_wp2
  go_ret
  exact ⟨rfl, hfin⟩
set_option maxHeartbeats 2000000 in
theorem floors_no (a b : Int) (ha : rightB a b = false) (w : World) (ht : Tab w) :
    Calls Tryd.prog 12 #[numV a b] w fun r w' => r = .returned (.bool true) ∧ Below w.heap.size w w' := by
  have HAW : Hid (∀ w1, Tab w1 → Calls Tryd.prog 14 #[] w1 fun r w' => r = .returned (.bool true) ∧ Below w1.heap.size w1 w') := fun w1 h => awake_any w1 h
  have Q1 : Hid (∀ w1, Calls Tryd.prog 18 #[.agg #[.int .i64 a, .int .i64 b]] w1 fun r w' => r = .returned (.bool false) ∧ Below w1.heap.size w1 w') := by
    intro w1; have := rright_any a b w1; rw [ha] at this; exact this
  have K0 : C2 (w.alloc (.cells #[.int .i64 a, .int .i64 b] 24)) w.heap.size a b := C2.new w a b
  have HT0 : Tab (w.alloc (.cells #[.int .i64 a, .int .i64 b] 24)) := ht.below (alloc_below _ _)
  have HB0 := alloc_below w (.cells #[.int .i64 a, .int .i64 b] 24)
  clear ha ht
  unfold numV
  go_enter Tryd.func12, Tryd.ntmps12
  go_wp2_with fail
  refine (HAW.out _ HT0).mono ?_
  rintro e w1 ⟨rfl, hb1⟩
  have K1 := K0.later hb1
  have HB1 := HB0.trans (hb1.mono HB0.size)
  clear hb1 HAW K0 HT0 HB0
  obtain ⟨p0, p1, _⟩ := id K1
  go_wp2_with fail
  refine (Q1.out _).mono ?_
  rintro e w2 ⟨rfl, hb1⟩
  have HB2 := HB1.trans (hb1.mono HB1.size)
  clear hb1 Q1 K1 HB1 p0 p1
  go_wp2
  go_ret
  exact ⟨rfl, HB2⟩
/-- the law NumFloors -/
theorem floors_any (a b : Int) (w : World) (ht : Tab w) :
    Calls Tryd.prog 12 #[numV a b] w fun r w' => r = .returned (.bool true) ∧ Below w.heap.size w w' := by
  cases ha : rightB a b
  · exact floors_no a b ha w ht
  · exact floors_yes a b ha w ht
end Go.Proofs.YtkdjdoncmihkfaaDoor
