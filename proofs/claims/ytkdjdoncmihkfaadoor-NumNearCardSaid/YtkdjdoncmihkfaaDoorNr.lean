/- Walk over num.Round. -/
import Derived.Test.YtkdjdoncmihkfaaDoorNp
namespace Go.Proofs.YtkdjdoncmihkfaaDoor
open Go.RowKit

set_option maxHeartbeats 1000000 in
theorem rnd_same (m e p : Int) (hr : rightB m e = true) (hp : -e ≤ p) (w : World) :
    Calls Tryd.prog 35 #[numV m e, .int .i64 p] w fun r w' => r = .returned (numV m e) ∧ Below w.heap.size w w' := by
  obtain ⟨ba, bb1, bb2⟩ := right_bounds hr
  have R1 : Hid (∀ w1, Calls Tryd.prog 17 #[.agg #[.int .i64 m, .int .i64 e]] w1 fun r w' => r = .returned (.bool true) ∧ Below w1.heap.size w1 w') := by
    intro w1; have := right_any m e (by omega) (by omega) (by omega) w1; rw [hr] at this; exact this
  have N1 : Hid (∀ w1, Calls Tryd.prog 23 #[.agg #[.int .i64 m, .int .i64 e]] w1 fun r w' => r = .returned (.agg #[.int .i64 (-m), .int .i64 e]) ∧ Below w1.heap.size w1 w') := by
    intro w1; have := neg_any m e (by omega) (by omega) (by omega) w1; rw [show negP m e = (-m, e) from if_pos hr] at this; exact this
  have N2 : Hid (∀ w1, Calls Tryd.prog 23 #[.agg #[.int .i64 (-m), .int .i64 e]] w1 fun r w' => r = .returned (.agg #[.int .i64 m, .int .i64 e]) ∧ Below w1.heap.size w1 w') := by
    intro w1; have := neg_any (-m) e (by omega) (by omega) (by omega) w1; rw [show negP (-m) e = (- -m, e) from if_pos (right_neg hr), Int.neg_neg] at this; exact this
  clear hr ba
  unfold numV
  go_enter Tryd.func35, Tryd.ntmps35
  go_wp2_with fail
  refine (R1.out _).mono ?_
  rintro e w1 ⟨rfl, hb1⟩
  have hT0 := Duo.new w m e 0 0
  have hB0 := below2 w (.cells #[.int .i64 m, .int .i64 e] 24) (.cells #[.int .i64 0, .int .i64 0] 24)
  obtain ⟨hT1, hZ1⟩ := hT0.below hb1 (by simp)
  have hW1 := hB0.trans (hb1.mono hB0.size)
  clear hT0 hB0 hb1
  obtain ⟨⟨p0, p1, p2, p3⟩, p4, p5, p6, p7⟩ := id hT1
  go_wp2_with fail
  refine (N1.out _).mono ?_
  rintro e w2 ⟨rfl, hb2⟩
  obtain ⟨hT2, hZ2⟩ := hT1.below hb2 hZ1
  have hW2 := hW1.trans (hb2.mono hW1.size)
  clear hT1 hb2 p0 p1 p2 p3 p4 p5 p6 p7 hW1
  go_wp2_with fail
  refine (N2.out _).mono ?_
  rintro e w3 ⟨rfl, hb3⟩
  obtain ⟨hT3, hZ3⟩ := hT2.below hb3 hZ2
  have hW3 := hW2.trans (hb3.mono hW2.size)
  clear hT2 hb3 hW2
  obtain ⟨⟨p0, p1, p2, p3⟩, p4, p5, p6, p7⟩ := hT3
  go_wp2
  refine bodyPost_ret (v := .agg #[.int .i64 m, .int .i64 e]) (by simp [results, Tryd.results35, go_sem, p4, p5]) rfl ⟨rfl, ?_⟩
  exact slot_set2 hW3 (by omega) _ _

set_option maxHeartbeats 1000000 in
theorem rnd_low (m e p : Int) (hr : rightB m e = true) (hp : ¬ -e ≤ p) (hp2 : p < -40) (w : World) :
    Calls Tryd.prog 35 #[numV m e, .int .i64 p] w fun r w' => r = .returned (numV 0 0) ∧ Below w.heap.size w w' := by
  obtain ⟨ba, bb1, bb2⟩ := right_bounds hr
  have R1 : Hid (∀ w1, Calls Tryd.prog 17 #[.agg #[.int .i64 m, .int .i64 e]] w1 fun r w' => r = .returned (.bool true) ∧ Below w1.heap.size w1 w') := by
    intro w1; have := right_any m e (by omega) (by omega) (by omega) w1; rw [hr] at this; exact this
  clear hr ba
  unfold numV
  go_enter Tryd.func35, Tryd.ntmps35
  go_wp2_with fail
  refine (R1.out _).mono ?_
  rintro e w1 ⟨rfl, hb1⟩
  have hT0 := Duo.new w m e 0 0
  have hB0 := below2 w (.cells #[.int .i64 m, .int .i64 e] 24) (.cells #[.int .i64 0, .int .i64 0] 24)
  obtain ⟨hT1, hZ1⟩ := hT0.below hb1 (by simp)
  have hW1 := hB0.trans (hb1.mono hB0.size)
  clear hT0 hB0 hb1
  obtain ⟨⟨p0, p1, p2, p3⟩, p4, p5, p6, p7⟩ := hT1
  go_wp2
  refine bodyPost_ret (v := .agg #[.int .i64 0, .int .i64 0]) (by simp [results, Tryd.results35, go_sem, p4, p5]) rfl ⟨rfl, ?_⟩
  exact slot_set2 hW1 (by omega) _ _

set_option maxRecDepth 1000000 in
set_option maxHeartbeats 2000000 in
theorem rnd_all (m e p : Int) (hr : rightB m e = true) (hp : ¬ -e ≤ p) (hp2 : ¬ p < -40) (hl : ((digs m).length : Int) < -p - e) (w : World) (ht : Tab w) :
    Calls Tryd.prog 35 #[numV m e, .int .i64 p] w fun r w' => r = .returned (numV 0 0) ∧ Below w.heap.size w w' := by
  obtain ⟨ba, bb1, bb2⟩ := right_bounds hr
  have R1 : Hid (∀ w1, Calls Tryd.prog 17 #[.agg #[.int .i64 m, .int .i64 e]] w1 fun r w' => r = .returned (.bool true) ∧ Below w1.heap.size w1 w') := by
    intro w1; have := right_any m e (by omega) (by omega) (by omega) w1; rw [hr] at this; exact this
  have dl := digs_length m (by omega) (by omega)
  have D1 : Hid (∀ w1, Tab w1 → Calls Tryd.prog 47 #[.int .i64 m] w1 fun e w' => ∃ v, e = .returned (.tuple #[.bool (decide (m < 0)), v]) ∧ Own w' w1.heap.size v (digs m) ∧ Below w1.heap.size w1 w') :=
    fun w1 h => digits_any m (by omega) (by omega) w1 h
  obtain ⟨D, hD⟩ : ∃ A, A = digs m := ⟨_, rfl⟩
  rw [← hD] at D1 dl hl
  have HT := Lib.hid ht
  clear hr ba hD ht
  unfold numV
  go_enter Tryd.func35, Tryd.ntmps35
  go_wp2_with fail
  refine (R1.out _).mono ?_
  rintro e w1 ⟨rfl, hb1⟩
  have hT0 := Duo.new w m e 0 0
  have hB0 := below2 w (.cells #[.int .i64 m, .int .i64 e] 24) (.cells #[.int .i64 0, .int .i64 0] 24)
  obtain ⟨hT1, hZ1⟩ := hT0.below hb1 (by simp)
  have hW1 := hB0.trans (hb1.mono hB0.size)
  clear hT0 hB0 hb1
  obtain ⟨⟨p0, p1, p2, p3⟩, p4, p5, p6, p7⟩ := id hT1
  go_wp2_with fail
  refine (D1.out _ (HT.out.below hW1)).mono ?_
  rintro e w2 ⟨v, rfl, hown, hb2⟩
  obtain ⟨hT2, hZ2⟩ := hT1.below hb2 hZ1
  have hW2 := hW1.trans (hb2.mono hW1.size)
  obtain ⟨g, cp, rfl⟩ := hown.2
  clear hT1 hb2 p0 p1 p2 p3 p4 p5 p6 p7 hW1 hown
  obtain ⟨⟨p0, p1, p2, p3⟩, p4, p5, p6, p7⟩ := hT2
  go_wp2
  refine bodyPost_ret (v := .agg #[.int .i64 0, .int .i64 0]) (by simp [results, Tryd.results35, go_sem, p4, p5]) rfl ⟨rfl, ?_⟩
  exact slot_set2 hW2 (by omega) _ _

set_option maxRecDepth 1000000 in
set_option maxHeartbeats 4000000 in
theorem rnd_part (m e p : Int) (hr : rightB m e = true) (hp : ¬ -e ≤ p) (hp2 : ¬ p < -40) (D : List UInt8) (hD : D = digs m) (k d : Nat) (hd : (d : Int) = -p - e) (hk : D.length = k + d) (w : World) (ht : Tab w) (M E : Int) (ok : Bool) (hM : (M, E, ok) = roundL (decide (m < 0)) (upL D d) (-p)) :
    Calls Tryd.prog 35 #[numV m e, .int .i64 p] w fun r w' => r = .returned (if ok = true then numV M E else numV m e) ∧ Below w.heap.size w w' := by
  obtain ⟨ba, bb1, bb2⟩ := right_bounds hr
  have R1 : Hid (∀ w1, Calls Tryd.prog 17 #[.agg #[.int .i64 m, .int .i64 e]] w1 fun r w' => r = .returned (.bool true) ∧ Below w1.heap.size w1 w') := by
    intro w1; have := right_any m e (by omega) (by omega) (by omega) w1; rw [hr] at this; exact this
  have dl := digs_length m (by omega) (by omega)
  obtain ⟨ng, hng⟩ : ∃ ng, ng = decide (m < 0) := ⟨_, rfl⟩
  rw [← hD] at dl
  rw [← hng] at hM
  have D1 : Hid (∀ w1, Tab w1 → Calls Tryd.prog 47 #[.int .i64 m] w1 fun e w' => ∃ v, e = .returned (.tuple #[.bool ng, v]) ∧ Own w' w1.heap.size v D ∧ Below w1.heap.size w1 w') := by
    intro w1 h; rw [hD, hng]; exact digits_any m (by omega) (by omega) w1 h
  have hd0 : 0 < d := by omega
  have hkD : k < D.length := by omega
  have hup : upL D d = if 5 ≤ (D[k]).toNat then oneMoreL (D.take k) else D.take k := by
    unfold upL
    rw [show D.length - d = k by omega, List.getElem?_eq_getElem hkD]; rfl
  rw [hup] at hM
  have HM := Lib.hid hM
  have HK := Lib.hid hk
  have HL : Hid (∀ {w1 : World} {B g c : Nat}, Own w1 B (.slice (some ⟨g, 0, none⟩) D.length c) D → w1.cell? ⟨g, k, none⟩ = some (.int .u8 ((D[k]).toNat : Int)) ∧ Rd w1 (some ⟨g, 0, none⟩) (D.take k) ∧ D.length ≤ c ∧ c ≤ 9223372036854775807) := by
    intro w1 B g c ho
    obtain ⟨g', c', hv, hb, hlt, hm2, hrd⟩ := ho.rd
    simp only [Value.slice.injEq, Option.some.injEq, Addr.mk.injEq, and_true, true_and] at hv
    obtain ⟨rfl, rfl⟩ := hv
    exact ⟨(ho.at (List.getElem?_eq_getElem hkD)).1, hrd.take k, hlt, hm2⟩
  obtain ⟨x, hx⟩ : ∃ x, x = D[k] := ⟨_, rfl⟩
  rw [← hx] at HM HL
  have hKl : (D.take k).length = k := by rw [List.length_take]; omega
  obtain ⟨K, hKe⟩ : ∃ K, K = D.take k := ⟨_, rfl⟩
  rw [← hKe] at HM HL hKl
  have HKl := Lib.hid hKl
  have hx256 := x.toNat_lt
  have hdd : -p - e = (d : Int) := hd.symm
  have hk40 : k + d ≤ 21 := by omega
  have HD := Lib.hid hd
  have HT := Lib.hid ht
  clear hr ba hD ht hM hk hx hKe hKl hng hup hkD hd
  unfold numV
  go_enter Tryd.func35, Tryd.ntmps35
  go_wp2_with fail
  refine (R1.out _).mono ?_
  rintro e w1 ⟨rfl, hb1⟩
  have hT0 := Duo.new w m e 0 0
  have hB0 := below2 w (.cells #[.int .i64 m, .int .i64 e] 24) (.cells #[.int .i64 0, .int .i64 0] 24)
  obtain ⟨hT1, hZ1⟩ := hT0.below hb1 (by simp)
  have hW1 := hB0.trans (hb1.mono hB0.size)
  clear hT0 hB0 hb1
  obtain ⟨⟨p0, p1, p2, p3⟩, p4, p5, p6, p7⟩ := id hT1
  go_wp2_with fail
  refine (D1.out _ (HT.out.below hW1)).mono ?_
  rintro e w2 ⟨v, rfl, hown, hb2⟩
  obtain ⟨hT2, hZ2⟩ := hT1.below hb2 hZ1
  have hW2 := hW1.trans (hb2.mono hW1.size)
  obtain ⟨g, cp, rfl⟩ := hown.2
  obtain ⟨hc, hrd, hcl, hcm⟩ := HL.out hown
  clear hT1 hb2 p0 p1 p2 p3 p4 p5 p6 p7 hW1 hown
  obtain ⟨⟨p0, p1, p2, p3⟩, p4, p5, p6, p7⟩ := id hT2
  rw [HK.out] at hcl dl ⊢
  have HRD := Lib.hid hrd
  clear hrd HL D1 R1
  by_cases h5 : 5 ≤ x.toNat
  · have HM2 : Hid ((M, E, ok) = roundL ng (oneMoreL K) (-p)) := by have := HM.out; rw [if_pos h5] at this; exact this
    have h5' : (5 : Int) ≤ (x.toNat : Int) := by omega
    have MO : Hid (Calls Tryd.prog 61 #[.slice (some ⟨g, 0, none⟩) k k] w2 (SlR w2 (oneMoreL K))) := by
      have := more_any g 0 K k w2 HRD.out (by have := HKl.out; omega)
      rw [HKl.out] at this; exact this
    have hml : (oneMoreL K).length ≤ 22 := by have := more_length K; have := HKl.out; omega
    clear HM h5 HRD
    go_wp2_with fail
    refine MO.out.mono ?_
    rintro e w3 ⟨A3, c3, rfl, q1, q2, q3, q4⟩
    obtain ⟨hT3, hZ3⟩ := hT2.below q4 hZ2
    have hW3 := hW2.trans (q4.mono hW2.size)
    have RO : Hid (Calls Tryd.prog 48 #[.bool ng, .slice A3 (oneMoreL K).length c3, .int .i64 (-p)] w3 fun e w' => e = .returned (.tuple #[.agg #[.int .i64 M, .int .i64 E], .bool ok]) ∧ Below w3.heap.size w3 w') := by
      have := round_any ng A3 (oneMoreL K) c3 (-p) w3 q3 q1 q2 (by omega)
      rw [← HM2.out] at this; exact this
    clear MO hT2 hZ2 hW2 q4 q3 p0 p1 p2 p3 p4 p5 p6 p7 hc HM2 hml
    go_wp2_with fail
    refine RO.out.mono ?_
    rintro e w4 ⟨rfl, hb4⟩
    obtain ⟨hT4, hZ4⟩ := hT3.below hb4 hZ3
    have hW4 := hW3.trans (hb4.mono hW3.size)
    clear hb4
    have S4 := Slot.new w4 M E
    have hB5 : Below w4.heap.size w4 (w4.alloc (.cells #[.int .i64 M, .int .i64 E] 24)) := alloc_below _ _
    obtain ⟨hT5, hZ5⟩ := hT4.below hB5 hZ4
    have hW5 := hW4.trans (hB5.mono hW4.size)
    clear hT4 hB5
    obtain ⟨s0, s1, s2, s3⟩ := S4
    obtain ⟨⟨p0, p1, p2, p3⟩, p4, p5, p6, p7⟩ := hT5
    cases ok with
    | true =>
      go_wp2
      refine bodyPost_ret (v := .agg #[.int .i64 M, .int .i64 E]) (by simp [results, Tryd.results35, go_sem, p4, p5]) rfl ⟨rfl, ?_⟩
      exact slot_set2 hW5 (by omega) _ _
    | false =>
      go_wp2
      refine bodyPost_ret (v := .agg #[.int .i64 m, .int .i64 e]) (by simp [results, Tryd.results35, go_sem, p4, p5]) rfl ⟨rfl, ?_⟩
      exact slot_set2 hW5 (by omega) _ _
  · have HM2 : Hid ((M, E, ok) = roundL ng K (-p)) := by have := HM.out; rw [if_neg h5] at this; exact this
    have h5' : ¬ (5 : Int) ≤ (x.toNat : Int) := by omega
    have RO : Hid (Calls Tryd.prog 48 #[.bool ng, .slice (some ⟨g, 0, none⟩) k k, .int .i64 (-p)] w2 fun e w' => e = .returned (.tuple #[.agg #[.int .i64 M, .int .i64 E], .bool ok]) ∧ Below w2.heap.size w2 w') := by
      have := round_any ng (some ⟨g, 0, none⟩) K k (-p) w2 HRD.out (by rw [HKl.out]; exact Nat.le_refl _) (by omega) (by have := HKl.out; omega)
      rw [← HM2.out, HKl.out] at this; exact this
    clear HM h5 HRD HM2
    go_wp2_with fail
    clear p0 p1 p2 p3 p4 p5 p6 p7 hc
    refine RO.out.mono ?_
    rintro e w4 ⟨rfl, hb4⟩
    obtain ⟨hT4, hZ4⟩ := hT2.below hb4 hZ2
    have hW4 := hW2.trans (hb4.mono hW2.size)
    clear hb4
    have S4 := Slot.new w4 M E
    have hB5 : Below w4.heap.size w4 (w4.alloc (.cells #[.int .i64 M, .int .i64 E] 24)) := alloc_below _ _
    obtain ⟨hT5, hZ5⟩ := hT4.below hB5 hZ4
    have hW5 := hW4.trans (hB5.mono hW4.size)
    clear hT4 hB5
    obtain ⟨s0, s1, s2, s3⟩ := S4
    obtain ⟨⟨p0, p1, p2, p3⟩, p4, p5, p6, p7⟩ := hT5
    cases ok with
    | true =>
      go_wp2
      refine bodyPost_ret (v := .agg #[.int .i64 M, .int .i64 E]) (by simp [results, Tryd.results35, go_sem, p4, p5]) rfl ⟨rfl, ?_⟩
      exact slot_set2 hW5 (by omega) _ _
    | false =>
      go_wp2
      refine bodyPost_ret (v := .agg #[.int .i64 m, .int .i64 e]) (by simp [results, Tryd.results35, go_sem, p4, p5]) rfl ⟨rfl, ?_⟩
      exact slot_set2 hW5 (by omega) _ _

/-- Round, of every right number, to every place -/
theorem rnd_any (m e p : Int) (hr : rightB m e = true) (w : World) (ht : Tab w) :
    Calls Tryd.prog 35 #[numV m e, .int .i64 p] w fun r w' => r = .returned (numV (roundP m e p).1 (roundP m e p).2) ∧ Below w.heap.size w w' := by
  unfold roundP
  by_cases c1 : -e ≤ p
  · rw [if_pos c1]; exact rnd_same m e p hr c1 w
  · rw [if_neg c1]
    by_cases c2 : p < -40
    · rw [if_pos c2]; exact rnd_low m e p hr c1 c2 w
    · rw [if_neg c2]
      by_cases c3 : ((digs m).length : Int) < -p - e
      · rw [if_pos c3]; exact rnd_all m e p hr c1 c2 c3 w ht
      · rw [if_neg c3]
        obtain ⟨⟨M, E, ok⟩, hM⟩ : ∃ t, t = roundL (decide (m < 0)) (upL (digs m) (-p - e).toNat) (-p) := ⟨_, rfl⟩
        have := rnd_part m e p hr c1 c2 (digs m) rfl ((digs m).length - (-p - e).toNat) (-p - e).toNat (by omega) (by omega) w ht M E ok hM
        rw [← hM]
        cases ok with
        | true => exact this
        | false => exact this
end Go.Proofs.YtkdjdoncmihkfaaDoor
