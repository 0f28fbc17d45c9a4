/- Walk over num.Add: for every two right numbers. -/
import Derived.Test.YtkdjdoncmihkfaaDoorNu
import Derived.Deep.RegionHeld3
import Derived.WalkSmall
namespace Go.Proofs.YtkdjdoncmihkfaaDoor
open Go.RowKit

/-- the two rows of digits that are added -/
def rowA (a : Int) (k n : Nat) : List UInt8 := List.replicate n 0 ++ (digs a ++ List.replicate k 0)
theorem valN_zeros (n : Nat) : valN (List.replicate n 0) = 0 := by
  induction n with
  | zero => rfl
  | succ n ih => rw [List.replicate_succ, valN_cons, ih]; simp
theorem dig_zeros (n : Nat) : Dig (List.replicate n 0) := fun x hx => by rw [List.eq_of_mem_replicate hx]; decide
theorem Dig.append {a b : List UInt8} (ha : Dig a) (hb : Dig b) : Dig (a ++ b) := fun x hx => (List.mem_append.1 hx).elim (ha x) (hb x)
theorem rowA_val (a : Int) (k n : Nat) : valN (rowA a k n) = a.natAbs * 10 ^ k ∧ Dig (rowA a k n) ∧ (rowA a k n).length = n + (nd a.natAbs + k) := by
  obtain ⟨h1, h2, h3⟩ := digs_val a
  refine ⟨?_, (dig_zeros n).append (h2.append (dig_zeros k)), by simp [rowA, digs_len]⟩
  unfold rowA
  rw [valN_append, valN_append, valN_zeros, valN_zeros, h1]; simp
theorem lex_same {X Y : List UInt8} (h : X.length = Y.length) (hX : Dig X) (hY : Dig Y) : X < Y ↔ valN X < valN Y := by
  obtain ⟨l1, l2⟩ := lex_pad X Y X.length hX hY (Nat.le_refl _) (by omega)
  have e1 : pad X.length X = valN X := by simp [pad]
  have e2 : pad X.length Y = valN Y := by simp [pad, h]
  rw [e1, e2] at l1 l2
  constructor
  · intro hlt
    rcases Nat.lt_or_ge (valN X) (valN Y) with h1 | h1
    · exact h1
    · exfalso
      have := l1 hlt
      have hv : valN X = valN Y := by omega
      -- of one length and one value: the same digits
      have key : ∀ (A C : List UInt8), A.length = C.length → Dig A → Dig C → valN A = valN C → A = C := by
        intro A
        induction A with
        | nil => intro C hl _ _ _; cases C with
          | nil => rfl
          | cons => simp at hl
        | cons p s ih =>
          intro C hl hA hC hv
          cases C with
          | nil => simp at hl
          | cons q t =>
            have hl2 : s.length = t.length := by simpa using hl
            rw [valN_cons, valN_cons, hl2] at hv
            have b1 := hA.cons.2.lt
            have b2 := hC.cons.2.lt
            rw [hl2] at b1
            have hpq : p.toNat = q.toNat := by
              rcases Nat.lt_trichotomy p.toNat q.toNat with h | h | h
              · have : (p.toNat + 1) * 10 ^ t.length ≤ q.toNat * 10 ^ t.length := Nat.mul_le_mul_right _ h
                rw [Nat.add_mul] at this; omega
              · exact h
              · have : (q.toNat + 1) * 10 ^ t.length ≤ p.toNat * 10 ^ t.length := Nat.mul_le_mul_right _ h
                rw [Nat.add_mul] at this; omega
            rw [hpq] at hv
            rw [UInt8.toNat_inj.1 hpq, ih t hl2 hA.cons.2 hC.cons.2 (by omega)]
      have := key X Y h hX hY hv
      subst this
      exact absurd hlt (List.lt_irrefl X)
  · intro hlt
    by_cases h1 : X < Y
    · exact h1
    · have := l2 h1; omega

/-- the sum, by values -/
def addN (a b c d : Int) : Int × Int × Bool :=
  if decide (a < 0) = decide (c < 0) then roundN (decide (a < 0)) (a.natAbs * 10 ^ (b - min b d).toNat + c.natAbs * 10 ^ (d - min b d).toNat) (min b d)
  else if a.natAbs * 10 ^ (b - min b d).toNat < c.natAbs * 10 ^ (d - min b d).toNat then roundN (decide (c < 0)) (c.natAbs * 10 ^ (d - min b d).toNat - a.natAbs * 10 ^ (b - min b d).toNat) (min b d)
  else roundN (decide (a < 0)) (a.natAbs * 10 ^ (b - min b d).toNat - c.natAbs * 10 ^ (d - min b d).toNat) (min b d)

set_option maxRecDepth 1000000 in
set_option maxHeartbeats 8000000 in
theorem add_main (a b c d : Int) (ha : rightB a b = true) (hc : rightB c d = true) (x : Int) (hx : min b d = x) (ka kc na nc s : Nat) (hka : (ka : Int) = b - x) (hkc : (kc : Int) = d - x) (hna : s = (nd a.natAbs + ka) + na) (hnc : s = (nd c.natAbs + kc) + nc) (hs : max (((nd a.natAbs + ka : Nat) : Int)) (((nd c.natAbs + kc : Nat) : Int)) = (s : Int))
    (X Y : List UInt8) (hX : X = rowA a ka na) (hY : Y = rowA c kc nc) (M E : Int) (ok : Bool)
    (hR : (M, E, ok) = if decide (a < 0) = decide (c < 0) then roundL (decide (a < 0)) (sumL X Y) x else if X < Y then roundL (decide (c < 0)) (subL Y X).2 x else roundL (decide (a < 0)) (subL X Y).2 x) (w : World) (ht : Tab w) :
    Calls Tryd.prog 19 #[numV a b, numV c d] w fun e w' => e = .returned (.tuple #[.agg #[.int .i64 M, .int .i64 E], .bool ok]) ∧ Below w.heap.size w w' := by
  obtain ⟨ba, bb1, bb2⟩ := right_bounds ha
  obtain ⟨bc, bd1, bd2⟩ := right_bounds hc
  have R1 : Hid (∀ w1, Calls Tryd.prog 17 #[.agg #[.int .i64 a, .int .i64 b]] w1 fun r w' => r = .returned (.bool true) ∧ Below w1.heap.size w1 w') := by
    intro w1; have := right_any a b (by omega) (by omega) (by omega) w1; rw [ha] at this; exact this
  have R2 : Hid (∀ w1, Calls Tryd.prog 17 #[.agg #[.int .i64 c, .int .i64 d]] w1 fun r w' => r = .returned (.bool true) ∧ Below w1.heap.size w1 w') := by
    intro w1; have := right_any c d (by omega) (by omega) (by omega) w1; rw [hc] at this; exact this
  have n15a : nd a.natAbs ≤ 15 := nd_le 15 _ (by have e15 : (10 : Nat) ^ 15 = 1000000000000000 := by decide
                                                 omega)
  have n15c : nd c.natAbs ≤ 15 := nd_le 15 _ (by have e15 : (10 : Nat) ^ 15 = 1000000000000000 := by decide
                                                 omega)
  have hxb : -40 ≤ x ∧ x ≤ 40 := by omega
  have hka80 : ka ≤ 80 := by omega
  have hkc80 : kc ≤ 80 := by omega
  obtain ⟨ng, hng⟩ : ∃ ng, ng = decide (a < 0) := ⟨_, rfl⟩
  obtain ⟨nh, hnh⟩ : ∃ ng, ng = decide (c < 0) := ⟨_, rfl⟩
  obtain ⟨A0, hA0⟩ : ∃ A0, A0 = digs a ++ List.replicate ka 0 := ⟨_, rfl⟩
  obtain ⟨C0, hC0⟩ : ∃ A0, A0 = digs c ++ List.replicate kc 0 := ⟨_, rfl⟩
  have lA : A0.length = nd a.natAbs + ka := by rw [hA0]; simp [digs_len]
  have lC : C0.length = nd c.natAbs + kc := by rw [hC0]; simp [digs_len]
  have ST1 : Hid (∀ w1, Tab w1 → Calls Tryd.prog 51 #[.agg #[.int .i64 a, .int .i64 b], .int .i64 x] w1 fun r w' => ∃ v, r = .returned (.tuple #[.bool ng, v]) ∧ Own w' w1.heap.size v A0 ∧ Below w1.heap.size w1 w') := by
    intro w1 h; rw [hng, hA0]; exact stretched_any a b x ka hka (by omega) (by omega) (by omega) w1 h
  have ST2 : Hid (∀ w1, Tab w1 → Calls Tryd.prog 51 #[.agg #[.int .i64 c, .int .i64 d], .int .i64 x] w1 fun r w' => ∃ v, r = .returned (.tuple #[.bool nh, v]) ∧ Own w' w1.heap.size v C0 ∧ Below w1.heap.size w1 w') := by
    intro w1 h; rw [hnh, hC0]; exact stretched_any c d x kc hkc (by omega) (by omega) (by omega) w1 h
  have FL1 : Hid (∀ (g cc B : Nat) (w1 : World), Own w1 B (.slice (some ⟨g, 0, none⟩) A0.length cc) A0 → Calls Tryd.prog 52 #[.slice (some ⟨g, 0, none⟩) A0.length cc, .int .i64 (s : Int)] w1 fun r w' => ∃ g' c', r = .returned (.slice (some ⟨g', 0, none⟩) s c') ∧ Own w' w1.heap.size (.slice (some ⟨g', 0, none⟩) s c') X ∧ Below w1.heap.size w1 w') := by
    intro g cc B w1 h; rw [hX, rowA, ← hA0]; exact filled_any g cc na s B A0 w1 h (by omega) (by omega)
  have FL2 : Hid (∀ (g cc B : Nat) (w1 : World), Own w1 B (.slice (some ⟨g, 0, none⟩) C0.length cc) C0 → Calls Tryd.prog 52 #[.slice (some ⟨g, 0, none⟩) C0.length cc, .int .i64 (s : Int)] w1 fun r w' => ∃ g' c', r = .returned (.slice (some ⟨g', 0, none⟩) s c') ∧ Own w' w1.heap.size (.slice (some ⟨g', 0, none⟩) s c') Y ∧ Below w1.heap.size w1 w') := by
    intro g cc B w1 h; rw [hY, rowA, ← hC0]; exact filled_any g cc nc s B C0 w1 h (by omega) (by omega)
  obtain ⟨vX, dX, lX⟩ := rowA_val a ka na
  obtain ⟨vY, dY, lY⟩ := rowA_val c kc nc
  rw [← hX] at vX dX lX
  rw [← hY] at vY dY lY
  have lXs : X.length = s := by omega
  have lYs : Y.length = s := by omega
  have hs200 : s ≤ 200 := by omega
  rw [← lA, ← lC] at hs
  rw [← hng, ← hnh] at hR
  have HDX := Lib.hid dX
  have HDY := Lib.hid dY
  have HLX := Lib.hid lXs
  have HLY := Lib.hid lYs
  have HR := Lib.hid hR
  have HT := Lib.hid ht
  clear ha hc ba bc hka hkc hna hnc vX vY dX dY lX lY hX hY hA0 hC0 lA lC hng hnh hR ht n15a n15c lXs lYs
  unfold numV
  go_enter Tryd.func19, Tryd.ntmps19
  go_wp2_with fail
  refine (R1.out _).mono ?_
  rintro e w1 ⟨rfl, hb1⟩
  have hT0 := Trio.new w a b c d
  have hB0 := below3 w (.cells #[.int .i64 a, .int .i64 b] 24) (.cells #[.int .i64 c, .int .i64 d] 24) (.cells #[.int .i64 0, .int .i64 0] 24)
  obtain ⟨hT1, hZ1⟩ := hT0.below hb1 (by simp)
  have hW1 := hB0.trans (hb1.mono hB0.size)
  clear hT0 hB0 hb1
  obtain ⟨⟨p0, p1, p2, p3⟩, ⟨p4, p5, p6, p7⟩, p8, p9, p10, p11⟩ := id hT1
  go_wp2_with fail
  refine (R2.out _).mono ?_
  rintro e w2 ⟨rfl, hb2⟩
  obtain ⟨hT2, hZ2⟩ := hT1.below hb2 hZ1
  have hW2 := hW1.trans (hb2.mono hW1.size)
  clear hT1 hZ1 hW1 hb2 p0 p1 p2 p3 p4 p5 p6 p7 p8 p9 p10 p11
  obtain ⟨⟨p0, p1, p2, p3⟩, ⟨p4, p5, p6, p7⟩, p8, p9, p10, p11⟩ := id hT2
  go_wp2_with fail
  refine (ST1.out _ (HT.out.below hW2)).mono ?_
  rintro e w3 ⟨v3, rfl, own3, hb3⟩
  obtain ⟨hT3, hZ3⟩ := hT2.below hb3 hZ2
  have hW3 := hW2.trans (hb3.mono hW2.size)
  clear hT2 hZ2 hW2 hb3 p0 p1 p2 p3 p4 p5 p6 p7 p8 p9 p10 p11
  obtain ⟨⟨p0, p1, p2, p3⟩, ⟨p4, p5, p6, p7⟩, p8, p9, p10, p11⟩ := id hT3
  obtain ⟨g3, c3, rfl⟩ := own3.2
  go_wp2_with fail
  refine (ST2.out _ (HT.out.below hW3)).mono ?_
  rintro e w4 ⟨v4, rfl, own4, hb4⟩
  obtain ⟨hT4, hZ4⟩ := hT3.below hb4 hZ3
  have hW4 := hW3.trans (hb4.mono hW3.size)
  have own3' := own3.below hb4
  clear hT3 hZ3 hW3 hb4 own3 p0 p1 p2 p3 p4 p5 p6 p7 p8 p9 p10 p11
  obtain ⟨g4, c4, rfl⟩ := own4.2
  go_wp2_with fail
  refine (FL1.out g3 c3 _ w4 own3').mono ?_
  rintro e w5 ⟨g5, c5, rfl, own5, hb5⟩
  obtain ⟨hT5, hZ5⟩ := hT4.below hb5 hZ4
  have hW5 := hW4.trans (hb5.mono hW4.size)
  have own4' := own4.below hb5
  clear hT4 hZ4 hW4 hb5 own3' own4
  go_wp2_with fail
  refine (FL2.out g4 c4 _ w5 own4').mono ?_
  rintro e w6 ⟨g6, c6, rfl, own6, hb6⟩
  obtain ⟨hT6, hZ6⟩ := hT5.below hb6 hZ5
  have hW6 := hW5.trans (hb6.mono hW5.size)
  have own5' := own5.below hb6
  have own5m : Own w6 w4.heap.size (.slice (some ⟨g5, 0, none⟩) s c5) X := own5'
  have own6m : Own w6 w4.heap.size (.slice (some ⟨g6, 0, none⟩) s c6) Y := own6.mono (by
    have := (own5.1.lt g5 rfl)
    omega)
  clear hT5 hZ5 hW5 hb6 own4' own5 own5' own6 FL1 FL2 ST1 ST2 R1 R2
  have fin : ∀ (sg : Bool) (L : List UInt8) (w7 : World) (g7 c7 B7 n7 : Nat), n7 = L.length → L.length ≤ 1000 → Own w7 B7 (.slice (some ⟨g7, 0, none⟩) n7 c7) L → Calls Tryd.prog 48 #[.bool sg, .slice (some ⟨g7, 0, none⟩) n7 c7, .int .i64 x] w7 fun e w' => e = .returned (numR (roundL sg L x)) ∧ Below w7.heap.size w7 w' := by
    intro sg L w7 g7 c7 B7 n7 h1 h2 h3
    exact round_own h3 sg x (by omega)
  have HF := Lib.hid fin
  clear fin
  by_cases hsg : ng = nh
  · have hsb : (ng == nh) = true := by rw [beq_iff_eq]; exact hsg
    have HR2 : Hid ((M, E, ok) = roundL ng (sumL X Y) x) := by have := HR.out; rw [if_pos hsg] at this; exact this
    have SM := Lib.hid (sum_any g5 c5 g6 c6 s X Y _ w6 HLX.out HLY.out HDX.out HDY.out (by omega) own5m own6m)
    have lS : (sumL X Y).length = s + 1 := by rw [(sumL_val (by rw [HLX.out, HLY.out]) HDX.out HDY.out).2.2, HLX.out]
    have HLS := Lib.hid lS
    clear HR hsg lS own5m own6m
    go_wp2_with fail
    refine SM.out.mono ?_
    rintro e w7 ⟨g7, c7, rfl, own7, hb7⟩
    obtain ⟨hT7, hZ7⟩ := hT6.below hb7 hZ6
    have hW7 := hW6.trans (hb7.mono hW6.size)
    have RO := HF.out ng (sumL X Y) w7 g7 c7 _ (s + 1) HLS.out.symm (by rw [HLS.out]; omega) own7
    rw [← HR2.out] at RO
    simp only [numR, numV] at RO
    have HRO := Lib.hid RO
    clear hT6 hZ6 hW6 hb7 own7 RO SM
    go_wp2_with fail
    refine HRO.out.mono ?_
    rintro e w8 ⟨rfl, hb8⟩
    obtain ⟨hT8, hZ8⟩ := hT7.below hb8 hZ7
    have hW8 := hW7.trans (hb8.mono hW7.size)
    obtain ⟨m0, m1, f0, f1⟩ := hT8.s2
    clear hT7 hZ7 hW7 hb8 hT8
    go_wp2
    refine bodyPost_ret (v := .tuple #[.agg #[.int .i64 M, .int .i64 E], .bool ok]) (by simp [results, Tryd.results19, go_sem, m0, m1]) rfl ⟨rfl, ?_⟩
    exact slot_set2 hW8 (by omega) _ _
  · have hsb : (ng == nh) = false := by rw [beq_eq_false_iff_ne]; exact hsg
    have V1 := own_conv own5m HLX.out.symm
    have V2 := own_conv own6m HLY.out.symm
    have hbl := bl_eq X Y
    by_cases hlt : X < Y
    · have hbt : Op.bytesLess X Y = true := by rw [hbl]; simpa using hlt
      have HR2 : Hid ((M, E, ok) = roundL nh (subL Y X).2 x) := by have := HR.out; rw [if_neg hsg, if_pos hlt] at this; exact this
      have SM := Lib.hid (diff_any g6 c6 g5 c5 s Y X _ w6 HLY.out HLX.out HDY.out HDX.out (by omega) own6m own5m)
      have lS : (subL Y X).2.length = s := by rw [(subL_val Y X (by rw [HLX.out, HLY.out]) HDY.out HDX.out).2.1, HLY.out]
      have HLS := Lib.hid lS
      clear HR hsg lS own5m own6m hbl hlt
      go_wp2_with fail
      refine SM.out.mono ?_
      rintro e w7 ⟨g7, c7, rfl, own7, hb7⟩
      obtain ⟨hT7, hZ7⟩ := hT6.below hb7 hZ6
      have hW7 := hW6.trans (hb7.mono hW6.size)
      have RO := HF.out nh (subL Y X).2 w7 g7 c7 _ s HLS.out.symm (by rw [HLS.out]; omega) own7
      rw [← HR2.out] at RO
      simp only [numR, numV] at RO
      have HRO := Lib.hid RO
      clear hT6 hZ6 hW6 hb7 own7 RO SM
      go_wp2_with fail
      refine HRO.out.mono ?_
      rintro e w8 ⟨rfl, hb8⟩
      obtain ⟨hT8, hZ8⟩ := hT7.below hb8 hZ7
      have hW8 := hW7.trans (hb8.mono hW7.size)
      obtain ⟨m0, m1, f0, f1⟩ := hT8.s2
      clear hT7 hZ7 hW7 hb8 hT8
      go_wp2
      refine bodyPost_ret (v := .tuple #[.agg #[.int .i64 M, .int .i64 E], .bool ok]) (by simp [results, Tryd.results19, go_sem, m0, m1]) rfl ⟨rfl, ?_⟩
      exact slot_set2 hW8 (by omega) _ _
    · have hbt : Op.bytesLess X Y = false := by rw [hbl]; simpa using hlt
      have HR2 : Hid ((M, E, ok) = roundL ng (subL X Y).2 x) := by have := HR.out; rw [if_neg hsg, if_neg hlt] at this; exact this
      have SM := Lib.hid (diff_any g5 c5 g6 c6 s X Y _ w6 HLX.out HLY.out HDX.out HDY.out (by omega) own5m own6m)
      have lS : (subL X Y).2.length = s := by rw [(subL_val X Y (by rw [HLX.out, HLY.out]) HDX.out HDY.out).2.1, HLX.out]
      have HLS := Lib.hid lS
      clear HR hsg lS own5m own6m hbl hlt
      go_wp2_with fail
      refine SM.out.mono ?_
      rintro e w7 ⟨g7, c7, rfl, own7, hb7⟩
      obtain ⟨hT7, hZ7⟩ := hT6.below hb7 hZ6
      have hW7 := hW6.trans (hb7.mono hW6.size)
      have RO := HF.out ng (subL X Y).2 w7 g7 c7 _ s HLS.out.symm (by rw [HLS.out]; omega) own7
      rw [← HR2.out] at RO
      simp only [numR, numV] at RO
      have HRO := Lib.hid RO
      clear hT6 hZ6 hW6 hb7 own7 RO SM
      go_wp2_with fail
      refine HRO.out.mono ?_
      rintro e w8 ⟨rfl, hb8⟩
      obtain ⟨hT8, hZ8⟩ := hT7.below hb8 hZ7
      have hW8 := hW7.trans (hb8.mono hW7.size)
      obtain ⟨m0, m1, f0, f1⟩ := hT8.s2
      clear hT7 hZ7 hW7 hb8 hT8
      go_wp2
      refine bodyPost_ret (v := .tuple #[.agg #[.int .i64 M, .int .i64 E], .bool ok]) (by simp [results, Tryd.results19, go_sem, m0, m1]) rfl ⟨rfl, ?_⟩
      exact slot_set2 hW8 (by omega) _ _

/-- Add, of every two right numbers -/
theorem add_any (a b c d : Int) (ha : rightB a b = true) (hc : rightB c d = true) (w : World) (ht : Tab w) :
    Calls Tryd.prog 19 #[numV a b, numV c d] w fun e w' => e = .returned (numR (addN a b c d)) ∧ Below w.heap.size w w' := by
  obtain ⟨ka, hka⟩ : ∃ k, k = (b - min b d).toNat := ⟨_, rfl⟩
  obtain ⟨kc, hkc⟩ : ∃ k, k = (d - min b d).toNat := ⟨_, rfl⟩
  obtain ⟨s, hs⟩ : ∃ s, s = max (nd a.natAbs + ka) (nd c.natAbs + kc) := ⟨_, rfl⟩
  obtain ⟨na, hna⟩ : ∃ n, n = s - (nd a.natAbs + ka) := ⟨_, rfl⟩
  obtain ⟨nc, hnc⟩ : ∃ n, n = s - (nd c.natAbs + kc) := ⟨_, rfl⟩
  obtain ⟨X, hX⟩ : ∃ X, X = rowA a ka na := ⟨_, rfl⟩
  obtain ⟨Y, hY⟩ : ∃ X, X = rowA c kc nc := ⟨_, rfl⟩
  obtain ⟨vX, dX, lX⟩ := rowA_val a ka na
  obtain ⟨vY, dY, lY⟩ := rowA_val c kc nc
  rw [← hX] at vX dX lX
  rw [← hY] at vY dY lY
  have hl : X.length = Y.length := by omega
  have hlx := lex_same hl dX dY
  rw [vX, vY] at hlx
  obtain ⟨⟨M, E, ok⟩, hR⟩ : ∃ R, R = addN a b c d := ⟨_, rfl⟩
  rw [← hR]
  refine add_main a b c d ha hc (min b d) rfl ka kc na nc s (by omega) (by omega) (by omega) (by omega) (by omega) X Y hX hY M E ok ?_ w ht
  rw [hR, addN, ← hka, ← hkc]
  by_cases hsg : decide (a < 0) = decide (c < 0)
  · rw [if_pos hsg, if_pos hsg]
    obtain ⟨v1, d1, _⟩ := sumL_val hl dX dY
    rw [round_val _ _ d1, v1, vX, vY]
  · rw [if_neg hsg, if_neg hsg]
    by_cases hlt : X < Y
    · rw [if_pos hlt, if_pos (hlx.1 hlt)]
      obtain ⟨v1, d1, _⟩ := diff_val hl.symm dY dX (by have := hlx.1 hlt; omega)
      rw [round_val _ _ d1, v1, vX, vY]
    · have hge : ¬ a.natAbs * 10 ^ ka < c.natAbs * 10 ^ kc := fun h => hlt (hlx.2 h)
      rw [if_neg hlt, if_neg hge]
      obtain ⟨v1, d1, _⟩ := diff_val hl dX dY (by omega)
      rw [round_val _ _ d1, v1, vX, vY]
end Go.Proofs.YtkdjdoncmihkfaaDoor
