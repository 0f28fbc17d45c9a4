/- The document's Div. -/
import Derived.Test.YtkdjdoncmihkfaaDoorTb
import Derived.Test.YtkdjdoncmihkfaaDoorTc
namespace Go.Proofs.YtkdjdoncmihkfaaDoor
open Go.RowKit

/-- the document's digits, as a value that is read -/
theorem rdigs_vd (m : Int) (h0 : -9223372036854775808 ≤ m) (h1 : m ≤ 9223372036854775807) (w : World) :
    Calls Tryd.prog 50 #[.int .i64 m] w fun r w' => ∃ v, r = .returned v ∧ Vd w' v (digs m) ∧ Below w.heap.size w w' := by
  by_cases hm : m = 0
  · subst hm
    have hz : digs 0 = [] := List.eq_nil_of_length_eq_zero (by rw [digs_len]; exact nd_zero)
    exact (rdigs_zero w).mono fun r w' ⟨he, hb⟩ => ⟨_, he, .inl ⟨rfl, hz⟩, hb⟩
  · obtain ⟨a1, a2, a3⟩ := digs_val m
    refine (rdigs_aux m _ rfl h0 h1 w).mono fun r w' ⟨v, he, ho, hb⟩ => ?_
    rw [← a1, dI_map _ _ rfl a2 a3] at ho
    have hl : 0 < (digs m).length := by
      rw [digs_len]
      cases hz : nd m.natAbs with
      | zero => have := lt_pow_nd m.natAbs; rw [hz] at this; simp at this; omega
      | succ k => omega
    obtain ⟨A, c2, rfl, q1, q2, q3⟩ := ho.rd
    have q4 := RdI.digits q3
    obtain ⟨b, off, rfl, hlt, hc⟩ := q4 hl
    simp only [List.length_map] at he q1
    exact ⟨_, he, .inr ⟨b, off, c2, rfl, q1, q2, hlt, hc⟩, hb⟩
/-- long division, digit by digit: what rests, and the digits -/
def ldS (Y : Nat) (x : List UInt8) : Nat → Nat × List UInt8
  | 0 => (0, [])
  | j + 1 => ((10 * (ldS Y x j).1 + (x[j]?.getD 0).toNat) % Y, (ldS Y x j).2 ++ [UInt8.ofNat ((10 * (ldS Y x j).1 + (x[j]?.getD 0).toNat) / Y)])
theorem ldS_val {Y : Nat} (hY : 0 < Y) {x : List UInt8} (hx : Dig x) : ∀ j, j ≤ x.length → (ldS Y x j).1 < Y ∧ (ldS Y x j).2.length = j ∧ Dig (ldS Y x j).2 ∧ valN (ldS Y x j).2 * Y + (ldS Y x j).1 = valN (x.take j)
  | 0, _ => by simp [ldS, hY, Dig, valN]
  | j + 1, hj => by
    obtain ⟨i1, i2, i3, i4⟩ := ldS_val hY hx j (by omega)
    have hjl : j < x.length := by omega
    have h9 := hx _ (List.getElem_mem hjl)
    rw [ldS, List.getElem?_eq_getElem hjl]
    simp only [Option.getD_some]
    obtain ⟨v, hv⟩ : ∃ v, v = 10 * (ldS Y x j).1 + (x[j]).toNat := ⟨_, rfl⟩
    rw [← hv]
    have hq : v / Y < 10 := (Nat.div_lt_iff_lt_mul hY).2 (by omega)
    have hof : (UInt8.ofNat (v / Y)).toNat = v / Y := by rw [UInt8.toNat_ofNat']; exact Nat.mod_eq_of_lt (by omega)
    have hdm := Nat.div_add_mod v Y
    refine ⟨Nat.mod_lt _ hY, by simp [i2], i3.append (fun z hz => by simp at hz; rw [hz, hof]; exact Nat.le_of_lt_succ hq), ?_⟩
    rw [valN_snoc, hof, List.take_succ_eq_append_getElem hjl, valN_snoc, ← i4, Nat.add_mul, Nat.mul_comm (v / Y) Y, Nat.mul_right_comm]
    omega
theorem OwnI.push {w1 : World} {B : Nat} {v' : Value} {L : List Int} {q : Int} (h : w1.ownsRow B 3 1 v' (L.length + 1) (ci L ++ [.int .i64 q])) (hn : ¬ v' = .slice none 0 0) : OwnI w1 B v' (L ++ [q]) := by
  have e : (L ++ [q]).length = L.length + 1 := by simp
  refine ⟨by rw [e]; simpa [ci] using h, .inr ?_⟩
  rcases h.2 with ⟨rfl, _⟩ | ⟨g, cap, cur, rfl, _⟩
  · exact absurd rfl hn
  · exact ⟨g, cap, by rw [e]⟩
set_option maxHeartbeats 2000000 in
theorem rdiv_zero (a b d : Int) (ha : rightB a b = true) (hc : rightB 0 d = true) (w : World) (ht : Tab w) : Calls Tryd.prog 30 #[numV a b, numV 0 d] w fun e w' => e = .returned (numR (0, 0, false)) ∧ Below w.heap.size w w' := by
  have R1 : Hid (∀ w1, Calls Tryd.prog 18 #[.agg #[.int .i64 a, .int .i64 b]] w1 fun r w' => r = .returned (.bool true) ∧ Below w1.heap.size w1 w') := by
    intro w1; have := rright_any a b w1; rw [ha] at this; exact this
  have R2 : Hid (∀ w1, Calls Tryd.prog 18 #[.agg #[.int .i64 0, .int .i64 d]] w1 fun r w' => r = .returned (.bool true) ∧ Below w1.heap.size w1 w') := by
    intro w1; have := rright_any 0 d w1; rw [hc] at this; exact this
  have HT := Lib.hid ht
  clear ha hc ht
  unfold numV
  go_enter Tryd.func30, Tryd.ntmps30
  go_wp2_with fail
  refine (R1.out _).mono ?_
  rintro e w1 ⟨rfl, hb1⟩
  have hT0 := Trio.new w a b 0 d
  have hB0 := below3 w (.cells #[.int .i64 a, .int .i64 b] 24) (.cells #[.int .i64 0, .int .i64 d] 24) (.cells #[.int .i64 0, .int .i64 0] 24)
  obtain ⟨hT1', hZ1⟩ := hT0.below hb1 (by simp)
  have hW1 := hB0.trans (hb1.mono hB0.size)
  have K0 := Kt.of hT1' hZ1 (HT.out.below hW1) hW1
  clear hT0 hB0 hb1 hT1' hZ1 hW1
  obtain ⟨p0, p1, p2, p3, p4, p5, p6, p7, _⟩ := id K0
  go_wp2_with fail
  refine (R2.out _).mono ?_
  rintro e w2 ⟨rfl, hb2⟩
  have K1 := K0.later hb2
  clear K0 hb2 p0 p1 p2 p3 p4 p5 p6 p7
  obtain ⟨p0, p1, p2, p3, p4, p5, p6, p7, _⟩ := id K1
  have hbw := K1.2.2.2.2.2.2.2.2.2.2
  go_wp2
  refine bodyPost_ret (v := numR (0, 0, false)) (by simp [numR, numV, results, Tryd.results30, go_sem, p4, p5]) rfl ⟨rfl, ?_⟩
  first | exact hbw | exact slot_set2 hbw (by omega) _ _

set_option maxRecDepth 1000000 in
set_option maxHeartbeats 8000000 in
theorem rdiv_pos (a b  d : Int) (Y : Nat) (hY : 0 < Y) (ha : rightB a b = true) (hc : rightB (Y : Int) d = true) (w : World) (ht : Tab w) :
    Calls Tryd.prog 30 #[numV a b, numV (Y : Int) d] w fun e w' => e = .returned (numR (divL a b (Y : Int) d)) ∧ Below w.heap.size w w' := by
  obtain ⟨i0, hi, hz0, hz1, hz2⟩ := info_parts info3
  obtain ⟨ba, bb1, bb2⟩ := right_bounds ha
  obtain ⟨bc, bd1, bd2⟩ := right_bounds hc
  obtain ⟨a1, a2, a3⟩ := digs_val a
  have la := digs_length a (by omega) (by omega)
  have hYc : ((Y : Int)).natAbs = Y := by omega
  have hcne : ((Y : Int) == 0) = false := by rw [beq_eq_false_iff_ne]; omega
  obtain ⟨X, hX⟩ : ∃ X, X = digs a ++ List.replicate 40 0 := ⟨_, rfl⟩
  have hXd : Dig X := by rw [hX]; exact wide_dig _ a2
  have hXv : valN X = a.natAbs * 10 ^ 40 := by rw [hX, wide_val, a1]
  obtain ⟨N, hN⟩ : ∃ N, N = X.length := ⟨_, rfl⟩
  have hN61 : N ≤ 61 := by rw [hN, hX]; simp; omega
  obtain ⟨l1, l2, l3, l4⟩ := ldS_val hY hXd N (by omega)
  rw [List.take_of_length_le (by omega), hXv] at l4
  have hV : valN (ldS Y X N).2 = a.natAbs * 10 ^ 40 / Y := by
    rw [← l4, Nat.mul_comm, Nat.mul_add_div hY, Nat.div_eq_of_lt l1, Nat.add_zero]
  have hRm : (ldS Y X N).1 = a.natAbs * 10 ^ 40 % Y := by
    rw [← l4, Nat.mul_comm, Nat.mul_add_mod, Nat.mod_eq_of_lt l1]
  obtain ⟨s, hs⟩ : ∃ s, s = (decide (a < 0) != decide ((Y : Int) < 0)) := ⟨_, rfl⟩
  obtain ⟨M2, hM2⟩ : ∃ M2, M2 = decide ((ldS Y X N).1 ≠ 0) := ⟨_, rfl⟩
  have hE : nearM s (valN (ldS Y X N).2) (b - d - 40) M2 = divL a b (Y : Int) d := by
    rw [hV, hM2, hRm, hs, ← hYc]
    exact div_near a b (Y : Int) d (by omega) bc ⟨bb1, bb2⟩ ⟨bd1, bd2⟩
  obtain ⟨⟨M, E, ok⟩, hR⟩ : ∃ R, R = divL a b (Y : Int) d := ⟨_, rfl⟩
  rw [← hR] at hE ⊢
  have NR : Hid (∀ (B : Nat) (o : Value) (w1 : World), OwnI w1 B o ((ldS Y X N).2.map fun d => (d.toNat : Int)) → Calls Tryd.prog 49 #[.agg #[.bool s, o, .int .i64 (b - d - 40)], .bool M2] w1 fun e w' => e = .returned (.tuple #[.agg #[.int .i64 M, .int .i64 E], .bool ok]) ∧ Below w1.heap.size w1 w') := fun B o w1 h => by
    obtain ⟨A, cc, rfl, q1, q2, q3⟩ := h.rd
    rw [List.length_map] at q1 ⊢
    have := near_any s A (ldS Y X N).2 cc (b - d - 40) M2 w1 (RdI.digits q3) q1 q2 (by omega) l3 (by omega) (by omega)
    rw [hE] at this; exact this
  have DG : Hid (∀ w1, Calls Tryd.prog 50 #[.int .i64 a] w1 fun r w' => ∃ v, r = .returned v ∧ Vd w' v (digs a) ∧ Below w1.heap.size w1 w') := fun w1 => rdigs_vd a (by omega) (by omega) w1
  have WD : Hid (∀ v w1, Vd w1 v (digs a) → Calls Tryd.prog 60 #[v, .int .i64 40] w1 fun r w' => ∃ g k, r = .returned (.slice (some ⟨g, 0, none⟩) N k) ∧ OwnD w' w1.heap.size (.slice (some ⟨g, 0, none⟩) N k) X ∧ Below w1.heap.size w1 w') := fun v w1 h => by
    refine (wide_any v (digs a) 40 w1 h (by omega) (by omega)).mono ?_
    rintro e w' ⟨v', rfl, ho, hb⟩
    obtain ⟨g, k, hv⟩ := ho.2
    rw [← hX, ← hN] at hv
    subst hv
    rw [← hX] at ho
    exact ⟨g, k, rfl, ho, hb⟩
  have R1 : Hid (∀ w1, Calls Tryd.prog 18 #[.agg #[.int .i64 a, .int .i64 b]] w1 fun r w' => r = .returned (.bool true) ∧ Below w1.heap.size w1 w') := by
    intro w1; have := rright_any a b w1; rw [ha] at this; exact this
  have R2 : Hid (∀ w1, Calls Tryd.prog 18 #[.agg #[.int .i64 (Y : Int), .int .i64 d]] w1 fun r w' => r = .returned (.bool true) ∧ Below w1.heap.size w1 w') := by
    intro w1; have := rright_any (Y : Int) d w1; rw [hc] at this; exact this
  have HXD := Lib.hid hXd
  have HN := Lib.hid hN
  have HLS : Hid (∀ j, j ≤ N → (ldS Y X j).1 < Y ∧ (ldS Y X j).2.length = j) := fun j hj => by
    obtain ⟨l1, l2, _, _⟩ := ldS_val hY hXd j (by omega)
    exact ⟨l1, l2⟩
  have HT := Lib.hid ht
  have hT1 : 1 < w.heap.size := var_lt gPow ht
  have hYm : Y < 1000000000000000 := by omega
  have HS := Lib.hid hs
  have HM2 := Lib.hid hM2
  have hwe : IntKind.i64.wrap (b - d) = b - d := by rw [IntKind.wrap_i64]; omega
  have hwe2 : IntKind.i64.wrap (b - d - 40) = b - d - 40 := by rw [IntKind.wrap_i64]; omega
  clear ha hc ba bc a1 a2 a3 la hX hXd hXv hN l1 l2 l3 l4 hV hRm hs hM2 hE hR ht hYc 
  unfold numV numR
  unfold numV
  simp only
  go_enter Tryd.func30, Tryd.ntmps30
  go_wp2_with fail
  refine (R1.out _).mono ?_
  rintro e w1 ⟨rfl, hb1⟩
  have hT0 := Trio.new w a b (Y : Int) d
  have hB0 := below3 w (.cells #[.int .i64 a, .int .i64 b] 24) (.cells #[.int .i64 (Y : Int), .int .i64 d] 24) (.cells #[.int .i64 0, .int .i64 0] 24)
  obtain ⟨hT1', hZ1⟩ := hT0.below hb1 (by simp)
  have hW1 := hB0.trans (hb1.mono hB0.size)
  have K0 := Kt.of hT1' hZ1 (HT.out.below hW1) hW1
  clear hT0 hB0 hb1 hT1' hZ1 hW1
  obtain ⟨p0, p1, p2, p3, p4, p5, p6, p7, _⟩ := id K0
  go_wp2_with fail
  refine (R2.out _).mono ?_
  rintro e w2 ⟨rfl, hb2⟩
  have K1 := K0.later hb2
  clear K0 hb2 p0 p1 p2 p3 p4 p5 p6 p7
  obtain ⟨p0, p1, p2, p3, p4, p5, p6, p7, _⟩ := id K1
  go_wp2_with fail
  refine (DG.out _).mono ?_
  rintro e w3 ⟨v3, rfl, hv3, hb3⟩
  have K3 := K1.later hb3
  clear K1 hb3 p0 p1 p2 p3 p4 p5 p6 p7
  obtain ⟨p0, p1, p2, p3, p4, p5, p6, p7, _⟩ := id K3
  go_wp2_with fail
  refine (WD.out _ _ hv3).mono ?_
  rintro e w4 ⟨g4, k4, rfl, ho4, hb4⟩
  have K4 := K3.later hb4
  clear K3 hb4 p0 p1 p2 p3 p4 p5 p6 p7 hv3 WD DG
  have HX4 := Lib.hid ho4
  clear ho4
  go_wp2_with fail
  have hYne : ((Y : Int) == 0) = false := by rw [beq_eq_false_iff_ne]; omega
  go_loopw [8, 9, 10] (fun r' o' i' wr => ∃ j : Nat, j ≤ N ∧ i' = .int .i64 (j : Int) ∧ r' = .int .i64 (((ldS Y X j).1 : Nat) : Int) ∧ OwnI wr w4.heap.size o' ((ldS Y X j).2.map fun d => (d.toNat : Int)) ∧ Below w4.heap.size w4 wr) (fun _ _ i' _ => N - (intOf i').toNat)
  case atStart => exact ⟨0, Nat.zero_le _, rfl, rfl, OwnI.nil _ _, Below.refl _ _⟩
  case round =>
    obtain ⟨j, hj, rfl, rfl, hown, hbw⟩ := hrel
    have hBw := hbw.size
    obtain ⟨hrY, hlen⟩ := HLS.out j hj
    by_cases hjN : j < N
    · have hjX : j < X.length := by rw [← HN.out]; exact hjN
      have hcx := ((HX4.out.below hbw).at (List.getElem?_eq_getElem hjX)).1
      have hx9 : (X[j]).toNat ≤ 9 := HXD.out _ (List.getElem_mem hjX)
      have hstep : ldS Y X (j + 1) = ((10 * (ldS Y X j).1 + (X[j]).toNat) % Y, (ldS Y X j).2 ++ [UInt8.ofNat ((10 * (ldS Y X j).1 + (X[j]).toNat) / Y)]) := by rw [ldS, List.getElem?_eq_getElem hjX]; rfl
      obtain ⟨x, hx⟩ : ∃ x, x = (X[j]).toNat := ⟨_, rfl⟩
      obtain ⟨r, hr⟩ : ∃ r, r = (ldS Y X j).1 := ⟨_, rfl⟩
      obtain ⟨L, hL⟩ : ∃ L, L = (ldS Y X j).2 := ⟨_, rfl⟩
      rw [← hx] at hcx hx9 hstep
      rw [← hr] at hrY hstep ⊢
      rw [← hL] at hlen hown hstep
      obtain ⟨v, hv⟩ : ∃ v, v = 10 * r + x := ⟨_, rfl⟩
      obtain ⟨q, hq⟩ : ∃ q, q = v / Y := ⟨_, rfl⟩
      obtain ⟨r2, hr2⟩ : ∃ r2, r2 = v % Y := ⟨_, rfl⟩
      rw [← hv, ← hq, ← hr2] at hstep
      have hqi : (v : Int) / (Y : Int) = (q : Int) := by rw [hq]; rfl
      have hri : (v : Int) % (Y : Int) = (r2 : Int) := by rw [hr2]; rfl
      have hq10 : q < 10 := by rw [hq]; exact (Nat.div_lt_iff_lt_mul hY).2 (by omega)
      have hr2Y : r2 < Y := by rw [hr2]; exact Nat.mod_lt _ hY
      have hof : (UInt8.ofNat q).toNat = q := by rw [UInt8.toNat_ofNat']; omega
      have e1 : IntKind.i64.wrap (10 * (r : Int)) = 10 * (r : Int) := by rw [IntKind.wrap_i64]; omega
      have e2 : IntKind.i64.wrap (10 * (r : Int) + (x : Int)) = (v : Int) := by rw [IntKind.wrap_i64]; omega
      have e3 : (10 * (r : Int) + (x : Int)) = (v : Int) := by omega
      obtain ⟨L2, hL2⟩ : ∃ L2, L2 = L.map (fun d => (d.toNat : Int)) := ⟨_, rfl⟩
      have hl2 : L2.length ≤ 61 := by rw [hL2, List.length_map]; omega
      have hnext : (ldS Y X (j + 1)).2.map (fun d => (d.toNat : Int)) = L2 ++ [(q : Int)] := by rw [hstep, hL2]; simp; omega
      have hnr : (((ldS Y X (j + 1)).1 : Nat) : Int) = (r2 : Int) := by rw [hstep]
      have HNX := Lib.hid hnext
      have HNR := Lib.hid hnr
      rw [← hL2] at hown
      clear hx hr hL hv hq hr2 hof hstep hnext hnr hL2 hlen
      go_wp2_with (first
        | (at_builtin; refine wpList_append_own _ rfl _ _ 43 rfl w4.heap.size 3 i0 (.int .i64 0) 1 8 Tryd.underlying43 hi hz0 hz1 hz2 rfl (by decide) _ _ _ rfl (hown.1.alloc _) ⟨wr.heap.size, 0, none⟩ 1 1 [.int .i64 (q : Int)] rfl rfl (cell_one_new _ _ _) (fun u hu => by simp at hu; subst hu; rfl) (by unfold maxLen; omega) (by omega) (by simp; omega) ?_))
      intro v' w5 hown3 hgrow hnil
      have hne : ¬ v' = .slice none 0 0 := hnil
      have P := OwnI.push hown3 hne
      have hb5 : Below w4.heap.size w4 w5 := Below.grown (hbw.alloc hBw _) hgrow (by simp; omega) (fun b hb => by
        rcases hown.2 with ⟨rfl, _⟩ | ⟨g, c, rfl⟩
        · simp [Value.ownBlock] at hb
        · simp [Value.ownBlock] at hb
          have := (hown.1.lt g rfl).1
          omega)
      rw [← HNX.out] at P
      have HP := Lib.hid P
      clear hown3 hgrow hnil hne P hown hcx

      go_wp2
      go_roundw
      case rel => exact ⟨j + 1, by omega, by go_num, by rw [HNR.out, hri], HP.out, hb5⟩
      case measure => simp [intOf]; omega
    · obtain rfl : j = N := by omega
      have K5 := K4.later hbw
      have hs2 : (!decide (a < 0) == decide ((Y : Int) < 0)) = s := by rw [HS.out]; cases decide (a < 0) <;> cases decide ((Y : Int) < 0) <;> rfl
      obtain ⟨r, hr⟩ : ∃ r, r = (ldS Y X j).1 := ⟨_, rfl⟩
      have hm2 : ((r : Int) != 0) = M2 := by
        rw [HM2.out, ← hr]
        by_cases h : r = 0
        · subst h; rfl
        · rw [decide_eq_true (show r ≠ 0 from h), bne_iff_ne]; omega
      obtain ⟨A9, k9, hv9, _, _, _⟩ := id hown.rd
      obtain ⟨n9, hn9⟩ : ∃ n9, n9 = ((ldS Y X j).2.map fun d => (d.toNat : Int)).length := ⟨_, rfl⟩
      rw [← hn9] at hv9
      subst hv9
      have HNR := Lib.hid (NR.out _ _ _ hown)
      clear hn9
      rw [← hr] at hrY ⊢
      clear hr NR hown hlen HM2 HS HLS HX4 HN HXD hbw hBw
      obtain ⟨p0, p1, p2, p3, p4, p5, p6, p7, _⟩ := id K5
      go_wp2_with fail
      refine HNR.out.mono ?_
      rintro e w6 ⟨rfl, hb6⟩
      have K6 := K5.later hb6
      have hres := K6.res (.int .i64 M) (.int .i64 E)
      have hb := (K6.put hT1 (.int .i64 M) (.int .i64 E)).2.2.2.2.2.2.2.2.2.2
      clear HNR hb6 K5 p0 p1 p2 p3 p4 p5 p6 p7 K4
      obtain ⟨p0, p1, p2, p3, p4, p5, p6, p7, _⟩ := id K6
      obtain ⟨m0, m1⟩ := hres
      clear K6 hs2 hm2 hwe hwe2 hYne hcne hrY hjN hN61 hYm hj
      go_wp2
      exact bodyPost_ret (v := .tuple #[.agg #[.int .i64 M, .int .i64 E], .bool ok]) (by simp [results, Tryd.results30, go_sem, m0, m1]) rfl ⟨rfl, hb⟩

set_option maxRecDepth 1000000 in
set_option maxHeartbeats 8000000 in
theorem rdiv_neg (a b c d : Int) (Y : Nat) (hY : 0 < Y) (hYn : c = -(Y : Int)) (ha : rightB a b = true) (hc : rightB c d = true) (w : World) (ht : Tab w) :
    Calls Tryd.prog 30 #[numV a b, numV c d] w fun e w' => e = .returned (numR (divL a b c d)) ∧ Below w.heap.size w w' := by
  obtain ⟨i0, hi, hz0, hz1, hz2⟩ := info_parts info3
  obtain ⟨ba, bb1, bb2⟩ := right_bounds ha
  obtain ⟨bc, bd1, bd2⟩ := right_bounds hc
  obtain ⟨a1, a2, a3⟩ := digs_val a
  have la := digs_length a (by omega) (by omega)
  have hYc : (c).natAbs = Y := by omega
  have hcne : (c == 0) = false := by rw [beq_eq_false_iff_ne]; omega
  obtain ⟨X, hX⟩ : ∃ X, X = digs a ++ List.replicate 40 0 := ⟨_, rfl⟩
  have hXd : Dig X := by rw [hX]; exact wide_dig _ a2
  have hXv : valN X = a.natAbs * 10 ^ 40 := by rw [hX, wide_val, a1]
  obtain ⟨N, hN⟩ : ∃ N, N = X.length := ⟨_, rfl⟩
  have hN61 : N ≤ 61 := by rw [hN, hX]; simp; omega
  obtain ⟨l1, l2, l3, l4⟩ := ldS_val hY hXd N (by omega)
  rw [List.take_of_length_le (by omega), hXv] at l4
  have hV : valN (ldS Y X N).2 = a.natAbs * 10 ^ 40 / Y := by
    rw [← l4, Nat.mul_comm, Nat.mul_add_div hY, Nat.div_eq_of_lt l1, Nat.add_zero]
  have hRm : (ldS Y X N).1 = a.natAbs * 10 ^ 40 % Y := by
    rw [← l4, Nat.mul_comm, Nat.mul_add_mod, Nat.mod_eq_of_lt l1]
  obtain ⟨s, hs⟩ : ∃ s, s = (decide (a < 0) != decide (c < 0)) := ⟨_, rfl⟩
  obtain ⟨M2, hM2⟩ : ∃ M2, M2 = decide ((ldS Y X N).1 ≠ 0) := ⟨_, rfl⟩
  have hE : nearM s (valN (ldS Y X N).2) (b - d - 40) M2 = divL a b c d := by
    rw [hV, hM2, hRm, hs, ← hYc]
    exact div_near a b c d (by omega) bc ⟨bb1, bb2⟩ ⟨bd1, bd2⟩
  obtain ⟨⟨M, E, ok⟩, hR⟩ : ∃ R, R = divL a b c d := ⟨_, rfl⟩
  rw [← hR] at hE ⊢
  have NR : Hid (∀ (B : Nat) (o : Value) (w1 : World), OwnI w1 B o ((ldS Y X N).2.map fun d => (d.toNat : Int)) → Calls Tryd.prog 49 #[.agg #[.bool s, o, .int .i64 (b - d - 40)], .bool M2] w1 fun e w' => e = .returned (.tuple #[.agg #[.int .i64 M, .int .i64 E], .bool ok]) ∧ Below w1.heap.size w1 w') := fun B o w1 h => by
    obtain ⟨A, cc, rfl, q1, q2, q3⟩ := h.rd
    rw [List.length_map] at q1 ⊢
    have := near_any s A (ldS Y X N).2 cc (b - d - 40) M2 w1 (RdI.digits q3) q1 q2 (by omega) l3 (by omega) (by omega)
    rw [hE] at this; exact this
  have DG : Hid (∀ w1, Calls Tryd.prog 50 #[.int .i64 a] w1 fun r w' => ∃ v, r = .returned v ∧ Vd w' v (digs a) ∧ Below w1.heap.size w1 w') := fun w1 => rdigs_vd a (by omega) (by omega) w1
  have WD : Hid (∀ v w1, Vd w1 v (digs a) → Calls Tryd.prog 60 #[v, .int .i64 40] w1 fun r w' => ∃ g k, r = .returned (.slice (some ⟨g, 0, none⟩) N k) ∧ OwnD w' w1.heap.size (.slice (some ⟨g, 0, none⟩) N k) X ∧ Below w1.heap.size w1 w') := fun v w1 h => by
    refine (wide_any v (digs a) 40 w1 h (by omega) (by omega)).mono ?_
    rintro e w' ⟨v', rfl, ho, hb⟩
    obtain ⟨g, k, hv⟩ := ho.2
    rw [← hX, ← hN] at hv
    subst hv
    rw [← hX] at ho
    exact ⟨g, k, rfl, ho, hb⟩
  have R1 : Hid (∀ w1, Calls Tryd.prog 18 #[.agg #[.int .i64 a, .int .i64 b]] w1 fun r w' => r = .returned (.bool true) ∧ Below w1.heap.size w1 w') := by
    intro w1; have := rright_any a b w1; rw [ha] at this; exact this
  have R2 : Hid (∀ w1, Calls Tryd.prog 18 #[.agg #[.int .i64 c, .int .i64 d]] w1 fun r w' => r = .returned (.bool true) ∧ Below w1.heap.size w1 w') := by
    intro w1; have := rright_any c d w1; rw [hc] at this; exact this
  have HXD := Lib.hid hXd
  have HN := Lib.hid hN
  have HLS : Hid (∀ j, j ≤ N → (ldS Y X j).1 < Y ∧ (ldS Y X j).2.length = j) := fun j hj => by
    obtain ⟨l1, l2, _, _⟩ := ldS_val hY hXd j (by omega)
    exact ⟨l1, l2⟩
  have HT := Lib.hid ht
  have hT1 : 1 < w.heap.size := var_lt gPow ht
  have hYm : Y < 1000000000000000 := by omega
  have hcn : c < 0 := by omega
  have hcw : IntKind.i64.wrap (-c) = (Y : Int) := by rw [IntKind.wrap_i64]; omega
  have HS := Lib.hid hs
  have HM2 := Lib.hid hM2
  have hwe : IntKind.i64.wrap (b - d) = b - d := by rw [IntKind.wrap_i64]; omega
  have hwe2 : IntKind.i64.wrap (b - d - 40) = b - d - 40 := by rw [IntKind.wrap_i64]; omega
  clear ha hc ba bc a1 a2 a3 la hX hXd hXv hN l1 l2 l3 l4 hV hRm hs hM2 hE hR ht hYc hYn
  unfold numV numR
  unfold numV
  simp only
  go_enter Tryd.func30, Tryd.ntmps30
  go_wp2_with fail
  refine (R1.out _).mono ?_
  rintro e w1 ⟨rfl, hb1⟩
  have hT0 := Trio.new w a b c d
  have hB0 := below3 w (.cells #[.int .i64 a, .int .i64 b] 24) (.cells #[.int .i64 c, .int .i64 d] 24) (.cells #[.int .i64 0, .int .i64 0] 24)
  obtain ⟨hT1', hZ1⟩ := hT0.below hb1 (by simp)
  have hW1 := hB0.trans (hb1.mono hB0.size)
  have K0 := Kt.of hT1' hZ1 (HT.out.below hW1) hW1
  clear hT0 hB0 hb1 hT1' hZ1 hW1
  obtain ⟨p0, p1, p2, p3, p4, p5, p6, p7, _⟩ := id K0
  go_wp2_with fail
  refine (R2.out _).mono ?_
  rintro e w2 ⟨rfl, hb2⟩
  have K1 := K0.later hb2
  clear K0 hb2 p0 p1 p2 p3 p4 p5 p6 p7
  obtain ⟨p0, p1, p2, p3, p4, p5, p6, p7, _⟩ := id K1
  go_wp2_with fail
  refine (DG.out _).mono ?_
  rintro e w3 ⟨v3, rfl, hv3, hb3⟩
  have K3 := K1.later hb3
  clear K1 hb3 p0 p1 p2 p3 p4 p5 p6 p7
  obtain ⟨p0, p1, p2, p3, p4, p5, p6, p7, _⟩ := id K3
  go_wp2_with fail
  refine (WD.out _ _ hv3).mono ?_
  rintro e w4 ⟨g4, k4, rfl, ho4, hb4⟩
  have K4 := K3.later hb4
  clear K3 hb4 p0 p1 p2 p3 p4 p5 p6 p7 hv3 WD DG
  have HX4 := Lib.hid ho4
  clear ho4
  go_wp2_with fail
  have hYne : ((Y : Int) == 0) = false := by rw [beq_eq_false_iff_ne]; omega
  go_loopw [8, 9, 10] (fun r' o' i' wr => ∃ j : Nat, j ≤ N ∧ i' = .int .i64 (j : Int) ∧ r' = .int .i64 (((ldS Y X j).1 : Nat) : Int) ∧ OwnI wr w4.heap.size o' ((ldS Y X j).2.map fun d => (d.toNat : Int)) ∧ Below w4.heap.size w4 wr) (fun _ _ i' _ => N - (intOf i').toNat)
  case atStart => exact ⟨0, Nat.zero_le _, rfl, rfl, OwnI.nil _ _, Below.refl _ _⟩
  case round =>
    obtain ⟨j, hj, rfl, rfl, hown, hbw⟩ := hrel
    have hBw := hbw.size
    obtain ⟨hrY, hlen⟩ := HLS.out j hj
    by_cases hjN : j < N
    · have hjX : j < X.length := by rw [← HN.out]; exact hjN
      have hcx := ((HX4.out.below hbw).at (List.getElem?_eq_getElem hjX)).1
      have hx9 : (X[j]).toNat ≤ 9 := HXD.out _ (List.getElem_mem hjX)
      have hstep : ldS Y X (j + 1) = ((10 * (ldS Y X j).1 + (X[j]).toNat) % Y, (ldS Y X j).2 ++ [UInt8.ofNat ((10 * (ldS Y X j).1 + (X[j]).toNat) / Y)]) := by rw [ldS, List.getElem?_eq_getElem hjX]; rfl
      obtain ⟨x, hx⟩ : ∃ x, x = (X[j]).toNat := ⟨_, rfl⟩
      obtain ⟨r, hr⟩ : ∃ r, r = (ldS Y X j).1 := ⟨_, rfl⟩
      obtain ⟨L, hL⟩ : ∃ L, L = (ldS Y X j).2 := ⟨_, rfl⟩
      rw [← hx] at hcx hx9 hstep
      rw [← hr] at hrY hstep ⊢
      rw [← hL] at hlen hown hstep
      obtain ⟨v, hv⟩ : ∃ v, v = 10 * r + x := ⟨_, rfl⟩
      obtain ⟨q, hq⟩ : ∃ q, q = v / Y := ⟨_, rfl⟩
      obtain ⟨r2, hr2⟩ : ∃ r2, r2 = v % Y := ⟨_, rfl⟩
      rw [← hv, ← hq, ← hr2] at hstep
      have hqi : (v : Int) / (Y : Int) = (q : Int) := by rw [hq]; rfl
      have hri : (v : Int) % (Y : Int) = (r2 : Int) := by rw [hr2]; rfl
      have hq10 : q < 10 := by rw [hq]; exact (Nat.div_lt_iff_lt_mul hY).2 (by omega)
      have hr2Y : r2 < Y := by rw [hr2]; exact Nat.mod_lt _ hY
      have hof : (UInt8.ofNat q).toNat = q := by rw [UInt8.toNat_ofNat']; omega
      have e1 : IntKind.i64.wrap (10 * (r : Int)) = 10 * (r : Int) := by rw [IntKind.wrap_i64]; omega
      have e2 : IntKind.i64.wrap (10 * (r : Int) + (x : Int)) = (v : Int) := by rw [IntKind.wrap_i64]; omega
      have e3 : (10 * (r : Int) + (x : Int)) = (v : Int) := by omega
      obtain ⟨L2, hL2⟩ : ∃ L2, L2 = L.map (fun d => (d.toNat : Int)) := ⟨_, rfl⟩
      have hl2 : L2.length ≤ 61 := by rw [hL2, List.length_map]; omega
      have hnext : (ldS Y X (j + 1)).2.map (fun d => (d.toNat : Int)) = L2 ++ [(q : Int)] := by rw [hstep, hL2]; simp; omega
      have hnr : (((ldS Y X (j + 1)).1 : Nat) : Int) = (r2 : Int) := by rw [hstep]
      have HNX := Lib.hid hnext
      have HNR := Lib.hid hnr
      rw [← hL2] at hown
      clear hx hr hL hv hq hr2 hof hstep hnext hnr hL2 hlen
      go_wp2_with (first
        | (at_builtin; refine wpList_append_own _ rfl _ _ 43 rfl w4.heap.size 3 i0 (.int .i64 0) 1 8 Tryd.underlying43 hi hz0 hz1 hz2 rfl (by decide) _ _ _ rfl (hown.1.alloc _) ⟨wr.heap.size, 0, none⟩ 1 1 [.int .i64 (q : Int)] rfl rfl (cell_one_new _ _ _) (fun u hu => by simp at hu; subst hu; rfl) (by unfold maxLen; omega) (by omega) (by simp; omega) ?_))
      intro v' w5 hown3 hgrow hnil
      have hne : ¬ v' = .slice none 0 0 := hnil
      have P := OwnI.push hown3 hne
      have hb5 : Below w4.heap.size w4 w5 := Below.grown (hbw.alloc hBw _) hgrow (by simp; omega) (fun b hb => by
        rcases hown.2 with ⟨rfl, _⟩ | ⟨g, c, rfl⟩
        · simp [Value.ownBlock] at hb
        · simp [Value.ownBlock] at hb
          have := (hown.1.lt g rfl).1
          omega)
      rw [← HNX.out] at P
      have HP := Lib.hid P
      clear hown3 hgrow hnil hne P hown hcx

      go_wp2
      go_roundw
      case rel => exact ⟨j + 1, by omega, by go_num, by rw [HNR.out, hri], HP.out, hb5⟩
      case measure => simp [intOf]; omega
    · obtain rfl : j = N := by omega
      have K5 := K4.later hbw
      have hs2 : (!decide (a < 0)) = s := by rw [HS.out, show decide (c < 0) = true by rw [decide_eq_true_eq]; exact hcn]; cases decide (a < 0) <;> rfl
      obtain ⟨r, hr⟩ : ∃ r, r = (ldS Y X j).1 := ⟨_, rfl⟩
      have hm2 : ((r : Int) != 0) = M2 := by
        rw [HM2.out, ← hr]
        by_cases h : r = 0
        · subst h; rfl
        · rw [decide_eq_true (show r ≠ 0 from h), bne_iff_ne]; omega
      obtain ⟨A9, k9, hv9, _, _, _⟩ := id hown.rd
      obtain ⟨n9, hn9⟩ : ∃ n9, n9 = ((ldS Y X j).2.map fun d => (d.toNat : Int)).length := ⟨_, rfl⟩
      rw [← hn9] at hv9
      subst hv9
      have HNR := Lib.hid (NR.out _ _ _ hown)
      clear hn9
      rw [← hr] at hrY ⊢
      clear hr NR hown hlen HM2 HS HLS HX4 HN HXD hbw hBw
      obtain ⟨p0, p1, p2, p3, p4, p5, p6, p7, _⟩ := id K5
      go_wp2_with fail
      refine HNR.out.mono ?_
      rintro e w6 ⟨rfl, hb6⟩
      have K6 := K5.later hb6
      have hres := K6.res (.int .i64 M) (.int .i64 E)
      have hb := (K6.put hT1 (.int .i64 M) (.int .i64 E)).2.2.2.2.2.2.2.2.2.2
      clear HNR hb6 K5 p0 p1 p2 p3 p4 p5 p6 p7 K4
      obtain ⟨p0, p1, p2, p3, p4, p5, p6, p7, _⟩ := id K6
      obtain ⟨m0, m1⟩ := hres
      clear K6 hs2 hm2 hwe hwe2 hYne hcne hrY hjN hN61 hYm hj hcn hcw
      go_wp2
      exact bodyPost_ret (v := .tuple #[.agg #[.int .i64 M, .int .i64 E], .bool ok]) (by simp [results, Tryd.results30, go_sem, m0, m1]) rfl ⟨rfl, hb⟩
theorem rdivX_any (a b c d : Int) (hw1 : Wf a b) (hw2 : Wf c d) (w : World) (ht : Tab w) : Calls Tryd.prog 30 #[numV a b, numV c d] w fun e w' => e = .returned (numR (divX a b c d)) ∧ Below w.heap.size w w' := by
  unfold divX
  cases ha : rightB a b
  · exact rdiv_no1 a b c d hw1 hw2 ha w
  · cases hc : rightB c d
    · exact rdiv_no2 a b c d hw1 hw2 ha hc w
    · rw [if_pos (show (true && true) = true from rfl)]
      unfold divF
      by_cases h0 : c = 0
      · subst h0; rw [if_pos rfl]; exact rdiv_zero a b d ha hc w ht
      · rw [if_neg h0]
        by_cases hn : c < 0
        · exact rdiv_neg a b c d c.natAbs (by omega) (by omega) ha hc w ht
        · obtain ⟨Y, rfl⟩ : ∃ Y : Nat, c = (Y : Int) := ⟨c.toNat, by omega⟩
          exact rdiv_pos a b d Y (by omega) ha hc w ht
end Go.Proofs.YtkdjdoncmihkfaaDoor
