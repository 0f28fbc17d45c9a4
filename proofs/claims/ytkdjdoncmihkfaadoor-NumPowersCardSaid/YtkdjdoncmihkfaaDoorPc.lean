/- The document's Pow. -/
import Derived.Test.YtkdjdoncmihkfaaDoorPb
namespace Go.Proofs.YtkdjdoncmihkfaaDoor
open Go.RowKit

theorem wf_right {x y : Int} (h : rightB x y = true) : Wf x y := by
  obtain ⟨b1, b2, b3⟩ := right_bounds h
  exact ⟨⟨by omega, by omega⟩, by omega, by omega⟩
set_option maxRecDepth 1000000 in
set_option maxHeartbeats 4000000 in
theorem rpow_nn (a b  : Int) (k : Nat) (hk1 : k ≤ 1000) (ha : rightB a b = true) (M E : Int) (ok0 : Bool) (hM : (M, E, ok0) = powG a b k) (w : World) (ht : Tab w) :
    Calls Tryd.prog 32 #[numV a b, .int .i64 (k : Int)] w fun e w' => e = .returned (numR (M, E, ok0)) ∧ Below w.heap.size w w' := by
  have R1 : Hid (∀ w1, Calls Tryd.prog 18 #[.agg #[.int .i64 a, .int .i64 b]] w1 fun r w' => r = .returned (.bool true) ∧ Below w1.heap.size w1 w') := by
    intro w1; have := rright_any a b w1; rw [ha] at this; exact this
  have MU : Hid (∀ (x y : Int) (w1 : World), rightB x y = true → Tab w1 → Calls Tryd.prog 28 #[.agg #[.int .i64 x, .int .i64 y], .agg #[.int .i64 a, .int .i64 b]] w1 fun e w' => e = .returned (numR (mulN x y a b)) ∧ Below w1.heap.size w1 w') := fun x y w1 h1 h2 => rmul_any x y a b h1 ha w1 h2
  have HT := Lib.hid ht
  have HM := Lib.hid hM
  have hn1 : ¬ (k : Int) < -1000 := by omega
  have hn2 : ¬ (1000 : Int) < (k : Int) := by omega
  have hT1w : 1 < w.heap.size := var_lt gPow ht
  have hnn : ¬ (k : Int) < 0 := by omega
  clear ha ht hM 
  unfold numR numV
  simp only
  go_enter Tryd.func32, Tryd.ntmps32
  go_wp2_with fail
  refine (R1.out _).mono ?_
  rintro e w1 ⟨rfl, hb1⟩
  have hT0 := Duo.new w a b 0 0
  have hB0 := below2 w (.cells #[.int .i64 a, .int .i64 b] 24) (.cells #[.int .i64 0, .int .i64 0] 24)
  obtain ⟨hT1, hZ1⟩ := hT0.below hb1 (by simp)
  have hW1 := hB0.trans (hb1.mono hB0.size)
  have al1 := alloc_below w1 (.cells #[.int .i64 1, .int .i64 0] 24)
  obtain ⟨hT2, hZ2⟩ := hT1.below al1 hZ1
  have hW2 := hW1.trans (al1.mono hW1.size)
  have KW : Kpw w (w1.alloc (.cells #[.int .i64 1, .int .i64 0] 24)) a b w1.heap.size 1 0 := ⟨hT2, Slot.new w1 1 0, hZ1, by simp, HT.out.below hW2, hW2⟩
  have KWh := Lib.hid KW
  clear hT0 hB0 hb1 al1 hT2 hZ2 hW2 R1 hZ1 hW1
  obtain ⟨⟨p0, p1, p2, p3⟩, p4, p5, p6, p7⟩ := id hT1
  go_wp2_with fail
  clear p0 p1 p2 p3 p4 p5 p6 p7 hT1 KW
  go_loopw [8] (fun i' wr => ∃ j : Nat, j ≤ k ∧ i' = .int .i64 (j : Int) ∧ (powG a b j).2.2 = true ∧ Kpw w wr a b w1.heap.size (powG a b j).1 (powG a b j).2.1) (fun i' _ => k - (intOf i').toNat)
  case atStart => exact ⟨0, Nat.zero_le _, rfl, rfl, KWh.out⟩
  case round =>
    obtain ⟨j, hj, rfl, hok, hK⟩ := hrel
    clear KWh
    obtain ⟨⟨⟨p0, p1, p2, p3⟩, p4, p5, p6, p7⟩, ⟨v0, v1, v2, v3⟩, hz9, hlt, _, _⟩ := id hK
    have hpr := powG_right a b j
    have hst : powG a b (j + 1) = if (powG a b j).2.2 = true then mulN (powG a b j).1 (powG a b j).2.1 a b else (0, 0, false) := rfl
    rw [if_pos hok] at hst
    by_cases hjk : j < k
    · have hno := fun h => powG_stop (a := a) (b := b) (k := j + 1) h k (by omega)
      obtain ⟨⟨x, y, ok⟩, hr⟩ : ∃ r, r = powG a b j := ⟨_, rfl⟩
      rw [← hr] at v0 v1 hpr hst hK
      simp only at v0 v1 hpr hst hK
      have MK := MU.out x y wr hpr hK.tab
      obtain ⟨⟨x2, y2, ok2⟩, hm⟩ : ∃ r, r = mulN x y a b := ⟨_, rfl⟩
      rw [← hm] at MK hst
      simp only [numR, numV] at MK
      rw [hst] at hno
      simp only at hno
      have HNO := Lib.hid hno
      have HST := Lib.hid hst
      have MKh := Lib.hid MK
      clear hr hst MK hm hpr hok hno
      go_wp2_with fail
      refine MKh.out.mono ?_
      rintro e w5 ⟨rfl, hb5⟩
      have al5 := alloc_below w5 (.cells #[.int .i64 x2, .int .i64 y2] 24)
      have K5 := (hK.later hb5).later al5
      obtain ⟨s0, s1, s2, s3⟩ := Slot.new w5 x2 y2
      clear hK hb5 p0 p1 p2 p3 p4 p5 p6 p7 v0 v1 v2 v3 hlt MKh al5 hz9
      obtain ⟨⟨⟨p0, p1, p2, p3⟩, p4, p5, p6, p7⟩, ⟨v0, v1, v2, v3⟩, hz9, hlt, _, _⟩ := id K5
      cases ok2 with
      | true =>
        have K6 := Lib.hid (K5.put hT1w x2 y2)
        clear K5 HNO
        go_wp2
        go_roundw
        case rel => exact ⟨j + 1, by omega, by go_num, by rw [HST.out], by rw [HST.out]; exact K6.out⟩
        case measure => simp [intOf]; omega
      | false =>
        have h0 : (M, E, ok0) = (0, 0, false) := by rw [HM.out, HNO.out rfl]
        simp only [Prod.mk.injEq] at h0
        obtain ⟨rfl, rfl, rfl⟩ := h0
        have hbw := K5.bw
        clear K5 HNO HST MU
        go_wp2
        refine bodyPost_ret (v := .tuple #[.agg #[.int .i64 0, .int .i64 0], .bool false]) (by simp [results, Tryd.results32, go_sem, p4, p5]) rfl ⟨rfl, ?_⟩
        first | exact hbw | exact slot_set2 hbw (by omega) _ _
    · obtain rfl : j = k := by omega
      obtain ⟨⟨x, y, ok⟩, hr⟩ : ∃ r, r = powG a b j := ⟨_, rfl⟩
      rw [← hr] at v0 v1 hok hK
      simp only at v0 v1 hok hK
      subst hok
      have h0 : (M, E, ok0) = (x, y, true) := by rw [HM.out, ← hr]
      simp only [Prod.mk.injEq] at h0
      obtain ⟨rfl, rfl, rfl⟩ := h0
      have hbw := hK.bw
      clear hst hr hpr MU hK
      go_wp2
      refine bodyPost_ret (v := .tuple #[.agg #[.int .i64 M, .int .i64 E], .bool true]) (by simp [results, Tryd.results32, go_sem, p4, p5]) rfl ⟨rfl, ?_⟩
      exact slot_set2 hbw (by omega) _ _
set_option maxRecDepth 1000000 in
set_option maxHeartbeats 4000000 in
theorem rpow_neg (a b n : Int) (k : Nat) (hk : n = -(k : Int)) (hk0 : 0 < k) (hk1 : k ≤ 1000) (ha : rightB a b = true) (M E : Int) (ok0 : Bool) (hM : (M, E, ok0) = (if (powG a b k).2.2 = true then divF 1 0 (powG a b k).1 (powG a b k).2.1 else (0, 0, false))) (w : World) (ht : Tab w) :
    Calls Tryd.prog 32 #[numV a b, .int .i64 n] w fun e w' => e = .returned (numR (M, E, ok0)) ∧ Below w.heap.size w w' := by
  have R1 : Hid (∀ w1, Calls Tryd.prog 18 #[.agg #[.int .i64 a, .int .i64 b]] w1 fun r w' => r = .returned (.bool true) ∧ Below w1.heap.size w1 w') := by
    intro w1; have := rright_any a b w1; rw [ha] at this; exact this
  have MU : Hid (∀ (x y : Int) (w1 : World), rightB x y = true → Tab w1 → Calls Tryd.prog 28 #[.agg #[.int .i64 x, .int .i64 y], .agg #[.int .i64 a, .int .i64 b]] w1 fun e w' => e = .returned (numR (mulN x y a b)) ∧ Below w1.heap.size w1 w') := fun x y w1 h1 h2 => rmul_any x y a b h1 ha w1 h2
  have DV : Hid (∀ (x y : Int) (w1 : World), rightB x y = true → Tab w1 → Calls Tryd.prog 30 #[.agg #[.int .i64 1, .int .i64 0], .agg #[.int .i64 x, .int .i64 y]] w1 fun e w' => e = .returned (numR (divF 1 0 x y)) ∧ Below w1.heap.size w1 w') := fun x y w1 h1 h2 => by
    have := rdivX_any 1 0 x y (wf_right right_one) (wf_right h1) w1 h2
    rw [show divX 1 0 x y = divF 1 0 x y by unfold divX; rw [right_one, h1]; rfl] at this
    exact this
  have HT := Lib.hid ht
  have HM := Lib.hid hM
  have hn1 : ¬ n < -1000 := by omega
  have hn2 : ¬ (1000 : Int) < n := by omega
  have hT1w : 1 < w.heap.size := var_lt gPow ht
  have hneg : n < 0 := by omega
  have hwr : IntKind.i64.wrap (-n) = (k : Int) := by rw [IntKind.wrap_i64]; omega
  clear ha ht hM hk
  unfold numR numV
  simp only
  go_enter Tryd.func32, Tryd.ntmps32
  go_wp2_with fail
  refine (R1.out _).mono ?_
  rintro e w1 ⟨rfl, hb1⟩
  have hT0 := Duo.new w a b 0 0
  have hB0 := below2 w (.cells #[.int .i64 a, .int .i64 b] 24) (.cells #[.int .i64 0, .int .i64 0] 24)
  obtain ⟨hT1, hZ1⟩ := hT0.below hb1 (by simp)
  have hW1 := hB0.trans (hb1.mono hB0.size)
  have al1 := alloc_below w1 (.cells #[.int .i64 1, .int .i64 0] 24)
  obtain ⟨hT2, hZ2⟩ := hT1.below al1 hZ1
  have hW2 := hW1.trans (al1.mono hW1.size)
  have KW : Kpw w (w1.alloc (.cells #[.int .i64 1, .int .i64 0] 24)) a b w1.heap.size 1 0 := ⟨hT2, Slot.new w1 1 0, hZ1, by simp, HT.out.below hW2, hW2⟩
  have KWh := Lib.hid KW
  clear hT0 hB0 hb1 al1 hT2 hZ2 hW2 R1 hZ1 hW1
  obtain ⟨⟨p0, p1, p2, p3⟩, p4, p5, p6, p7⟩ := id hT1
  go_wp2_with fail
  clear p0 p1 p2 p3 p4 p5 p6 p7 hT1 KW
  go_loopw [8] (fun i' wr => ∃ j : Nat, j ≤ k ∧ i' = .int .i64 (j : Int) ∧ (powG a b j).2.2 = true ∧ Kpw w wr a b w1.heap.size (powG a b j).1 (powG a b j).2.1) (fun i' _ => k - (intOf i').toNat)
  case atStart => exact ⟨0, Nat.zero_le _, rfl, rfl, KWh.out⟩
  case round =>
    obtain ⟨j, hj, rfl, hok, hK⟩ := hrel
    clear KWh
    obtain ⟨⟨⟨p0, p1, p2, p3⟩, p4, p5, p6, p7⟩, ⟨v0, v1, v2, v3⟩, hz9, hlt, _, _⟩ := id hK
    have hpr := powG_right a b j
    have hst : powG a b (j + 1) = if (powG a b j).2.2 = true then mulN (powG a b j).1 (powG a b j).2.1 a b else (0, 0, false) := rfl
    rw [if_pos hok] at hst
    by_cases hjk : j < k
    · have hno := fun h => powG_stop (a := a) (b := b) (k := j + 1) h k (by omega)
      obtain ⟨⟨x, y, ok⟩, hr⟩ : ∃ r, r = powG a b j := ⟨_, rfl⟩
      rw [← hr] at v0 v1 hpr hst hK
      simp only at v0 v1 hpr hst hK
      have MK := MU.out x y wr hpr hK.tab
      obtain ⟨⟨x2, y2, ok2⟩, hm⟩ : ∃ r, r = mulN x y a b := ⟨_, rfl⟩
      rw [← hm] at MK hst
      simp only [numR, numV] at MK
      rw [hst] at hno
      simp only at hno
      have HNO := Lib.hid hno
      have HST := Lib.hid hst
      have MKh := Lib.hid MK
      clear hr hst MK hm hpr hok hno
      go_wp2_with fail
      refine MKh.out.mono ?_
      rintro e w5 ⟨rfl, hb5⟩
      have al5 := alloc_below w5 (.cells #[.int .i64 x2, .int .i64 y2] 24)
      have K5 := (hK.later hb5).later al5
      obtain ⟨s0, s1, s2, s3⟩ := Slot.new w5 x2 y2
      clear hK hb5 p0 p1 p2 p3 p4 p5 p6 p7 v0 v1 v2 v3 hlt MKh al5 hz9
      obtain ⟨⟨⟨p0, p1, p2, p3⟩, p4, p5, p6, p7⟩, ⟨v0, v1, v2, v3⟩, hz9, hlt, _, _⟩ := id K5
      cases ok2 with
      | true =>
        have K6 := Lib.hid (K5.put hT1w x2 y2)
        clear K5 HNO
        go_wp2
        go_roundw
        case rel => exact ⟨j + 1, by omega, by go_num, by rw [HST.out], by rw [HST.out]; exact K6.out⟩
        case measure => simp [intOf]; omega
      | false =>
        have h0 : (M, E, ok0) = (0, 0, false) := by rw [HM.out, HNO.out rfl]; rfl
        simp only [Prod.mk.injEq] at h0
        obtain ⟨rfl, rfl, rfl⟩ := h0
        have hbw := K5.bw
        clear K5 HNO HST MU
        go_wp2
        refine bodyPost_ret (v := .tuple #[.agg #[.int .i64 0, .int .i64 0], .bool false]) (by simp [results, Tryd.results32, go_sem, p4, p5]) rfl ⟨rfl, ?_⟩
        first | exact hbw | exact slot_set2 hbw (by omega) _ _
    · obtain rfl : j = k := by omega
      obtain ⟨⟨x, y, ok⟩, hr⟩ : ∃ r, r = powG a b j := ⟨_, rfl⟩
      rw [← hr] at v0 v1 hok hK hpr
      simp only at v0 v1 hok hK hpr
      subst hok
      have h0 : (M, E, ok0) = divF 1 0 x y := by rw [HM.out, ← hr]; rfl
      have DVx := DV.out x y wr hpr hK.tab
      rw [← h0] at DVx
      simp only [numR, numV] at DVx
      have DVh := Lib.hid DVx
      clear hst hr hpr MU h0 DVx DV HM
      go_wp2_with fail
      refine DVh.out.mono ?_
      rintro e w3 ⟨rfl, hb3⟩
      have K3 := hK.later hb3
      have hbw := K3.bw
      clear hK DVh hb3 p0 p1 p2 p3 p4 p5 p6 p7 v0 v1 v2 v3 hlt hz9
      obtain ⟨⟨⟨p0, p1, p2, p3⟩, p4, p5, p6, p7⟩, ⟨v0, v1, v2, v3⟩, hz9, hlt, _, _⟩ := id K3
      clear K3 hneg hn1 hn2 hwr hjk
      go_wp2
      refine bodyPost_ret (v := .tuple #[.agg #[.int .i64 M, .int .i64 E], .bool ok0]) (by simp [results, Tryd.results32, go_sem, p4, p5]) rfl ⟨rfl, ?_⟩
      exact slot_set2 hbw (by omega) _ _
/-- the document's Pow, of every number and every exponent -/
theorem rpowX_any (a b n : Int) (w : World) (ht : Tab w) : Calls Tryd.prog 32 #[numV a b, .int .i64 n] w fun e w' => e = .returned (numR (powP a b n)) ∧ Below w.heap.size w w' := by
  unfold powP
  cases ha : rightB a b
  · exact rpow_no1 a b n ha w
  by_cases h1 : n < -1000
  · rw [if_neg (fun h => by omega)]; exact rpow_no2 a b n ha h1 w
  by_cases h2 : 1000 < n
  · rw [if_neg (fun h => by omega)]; exact rpow_no3 a b n ha h1 h2 w
  rw [if_pos ⟨rfl, by omega, by omega⟩]
  by_cases h3 : 0 ≤ n
  · rw [if_pos h3]
    have := rpow_nn a b n.toNat (by omega) ha _ _ _ rfl w ht
    rw [show ((n.toNat : Nat) : Int) = n by omega] at this
    exact this
  · rw [if_neg h3]
    exact rpow_neg a b n (-n).toNat (by omega) (by omega) (by omega) ha _ _ _ rfl w ht
end Go.Proofs.YtkdjdoncmihkfaaDoor
