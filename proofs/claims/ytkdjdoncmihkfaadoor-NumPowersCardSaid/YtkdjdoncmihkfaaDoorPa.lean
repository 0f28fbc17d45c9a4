/- Powers: values and walks. -/
import Derived.Test.YtkdjdoncmihkfaaDoorTd
namespace Go.Proofs.YtkdjdoncmihkfaaDoor
open Go.RowKit

/-- as many products -/
def powG (a b : Int) : Nat → Int × Int × Bool
  | 0 => (1, 0, true)
  | k + 1 => if (powG a b k).2.2 = true then mulN (powG a b k).1 (powG a b k).2.1 a b else (0, 0, false)
theorem right_unit1 (s e : Int) (hs : s = 1 ∨ s = -1) (h0 : -40 ≤ e) (h1 : e ≤ 39) : rightB s e = true := by
  have hn : nd s.natAbs ≤ 1 := nd_le 1 _ (by omega)
  unfold rightB
  rw [if_neg (by omega), if_neg (by rcases hs with rfl | rfl <;> simp <;> omega), decide_eq_true_eq]
  omega
theorem right_one : rightB 1 0 = true := right_unit1 1 0 (.inl rfl) (by omega) (by omega)
theorem powG_right (a b : Int) : ∀ k, rightB (powG a b k).1 (powG a b k).2.1 = true
  | 0 => right_one
  | k + 1 => by
    rw [powG]; split
    · exact mulN_right _ _ _ _
    · rfl
theorem roundN_not {s : Bool} {V : Nat} {x : Int} (h : (roundN s V x).2.2 = false) : roundN s V x = (0, 0, false) := by
  have key : ∀ V x, (endN s V x).2.2 = false → endN s V x = (0, 0, false) := by
    intro V x h
    unfold endN at h ⊢
    split at h
    · simp at h
    · rename_i h1
      rw [if_neg h1]
      split at h
      · rename_i h2; rw [if_pos h2]
      · simp at h
  unfold roundN at h ⊢
  split at h
  · simp at h
  · rename_i h1
    rw [if_neg h1]
    split at h
    · rename_i h2; rw [if_pos h2]
    · rename_i h2; rw [if_neg h2]; unfold mainN at h ⊢; exact key _ _ h
theorem powG_not {a b : Int} {k : Nat} (h : (powG a b k).2.2 = false) : powG a b k = (0, 0, false) := by
  cases k with
  | zero => simp [powG] at h
  | succ k =>
    rw [powG] at h ⊢
    split at h
    · rename_i h1; rw [if_pos h1]; exact roundN_not h
    · rename_i h1; rw [if_neg h1]
theorem powG_stop {a b : Int} {k : Nat} (h : (powG a b k).2.2 = false) : ∀ n, k ≤ n → powG a b n = (0, 0, false)
  | 0, hn => by obtain rfl : k = 0 := by omega
                simp [powG] at h
  | n + 1, hn => by
    by_cases hk : k = n + 1
    · subst hk; exact powG_not h
    · rw [powG, powG_stop h n (by omega)]; rfl
/-- a power, of every whole exponent -/
def powP (a b n : Int) : Int × Int × Bool :=
  if rightB a b = true ∧ -1000 ≤ n ∧ n ≤ 1000 then
    (if 0 ≤ n then powG a b n.toNat else if (powG a b (-n).toNat).2.2 = true then divF 1 0 (powG a b (-n).toNat).1 (powG a b (-n).toNat).2.1 else (0, 0, false))
  else (0, 0, false)
/-- what the walk holds: the number's cells, the result's, and the product's so far -/
structure Kpw (w w' : World) (a b : Int) (B : Nat) (x y : Int) : Prop where
  duo : Duo w' w.heap.size a b 0 0
  s : Slot w' B x y
  hB : w.heap.size + 2 ≤ B
  lt : B < w'.heap.size
  tab : Tab w'
  bw : Below w.heap.size w w'
theorem Kpw.later {w w1 w2 : World} {a b : Int} {B : Nat} {x y : Int} (h : Kpw w w1 a b B x y) (hb : Below w1.heap.size w1 w2) : Kpw w w2 a b B x y := by
  have hB := h.hB
  have hl := h.lt
  refine ⟨⟨h.duo.s0.below hb (by omega), h.duo.s1.below hb (by omega)⟩, h.s.below hb hl, hB, Nat.lt_of_lt_of_le hl hb.size, h.tab.below hb, h.bw.trans (hb.mono h.bw.size)⟩
theorem Kpw.put {w w1 : World} {a b : Int} {B : Nat} {x y : Int} (h : Kpw w w1 a b B x y) (hT : 1 < w.heap.size) (u v : Int) : Kpw w ((w1.setCell ⟨B, 0, none⟩ (.int .i64 u)).setCell ⟨B, 1, none⟩ (.int .i64 v)) a b B u v := by
  have hB := h.hB
  have hb : Below B w1 ((w1.setCell ⟨B, 0, none⟩ (.int .i64 u)).setCell ⟨B, 1, none⟩ (.int .i64 v)) := slot_set2 (Below.refl _ _) (Nat.le_refl _) _ _
  refine ⟨⟨h.duo.s0.below hb (by omega), h.duo.s1.below hb (by omega)⟩, ⟨?_, ?_, ?_, ?_⟩, hB, Nat.lt_of_lt_of_le h.lt hb.size, var?_below hb gPow (by omega) h.tab, h.bw.trans (hb.mono (by omega))⟩
  · rw [World.cell?_setCell_other _ _ _ _ (by simp), World.cell?_setCell_same' _ _ _ (is_got h.s.c0)]
  · rw [World.cell?_setCell_same' _ _ _ (some_set (is_got h.s.c1) _ _)]
  · simpa [World.frozen?_setCell] using h.s.f0
  · simpa [World.frozen?_setCell] using h.s.f1
set_option maxRecDepth 1000000 in
set_option maxHeartbeats 4000000 in
theorem pow_nn (a b : Int) (n : Nat) (ha : rightB a b = true) (hn : n ≤ 1000) (w : World) (ht : Tab w) :
    Calls Tryd.prog 31 #[numV a b, .int .i64 (n : Int)] w fun e w' => e = .returned (numR (powG a b n)) ∧ Below w.heap.size w w' := by
  obtain ⟨ba, bb1, bb2⟩ := right_bounds ha
  have R1 : Hid (∀ w1, Calls Tryd.prog 17 #[.agg #[.int .i64 a, .int .i64 b]] w1 fun r w' => r = .returned (.bool true) ∧ Below w1.heap.size w1 w') := by
    intro w1; have := right_any a b (by omega) (by omega) (by omega) w1; rw [ha] at this; exact this
  have MU : Hid (∀ (x y : Int) (w1 : World), rightB x y = true → Tab w1 → Calls Tryd.prog 27 #[.agg #[.int .i64 x, .int .i64 y], .agg #[.int .i64 a, .int .i64 b]] w1 fun e w' => e = .returned (numR (mulN x y a b)) ∧ Below w1.heap.size w1 w') := fun x y w1 h1 h2 => mul_any x y a b h1 ha w1 h2
  have HT := Lib.hid ht
  obtain ⟨⟨M, E, ok0⟩, hM⟩ : ∃ r, r = powG a b n := ⟨_, rfl⟩
  rw [← hM]
  have HM := Lib.hid hM
  clear ha ba bb1 bb2 ht hM
  unfold numR numV
  simp only
  go_enter Tryd.func31, Tryd.ntmps31
  go_wp2_with fail
  refine (R1.out _).mono ?_
  rintro e w1 ⟨rfl, hb1⟩
  have hT0 := Duo.new w a b 0 0
  have hB0 := below2 w (.cells #[.int .i64 a, .int .i64 b] 24) (.cells #[.int .i64 0, .int .i64 0] 24)
  obtain ⟨hT1, hZ1⟩ := hT0.below hb1 (by simp)
  have hW1 := hB0.trans (hb1.mono hB0.size)
  clear hT0 hB0 hb1
  obtain ⟨⟨p0, p1, p2, p3⟩, p4, p5, p6, p7⟩ := id hT1
  have hn1 : ¬ (n : Int) < -1000 := by omega
  have hn2 : ¬ (1000 : Int) < (n : Int) := by omega
  have al1 := alloc_below w1 (.cells #[.int .i64 1, .int .i64 0] 24)
  have al2 := alloc_below (w1.alloc (.cells #[.int .i64 1, .int .i64 0] 24)) (.cells #[.int .i64 1, .int .i64 0] 24)
  have hw3 : (w1.alloc (.cells #[.int .i64 1, .int .i64 0] 24)).heap.size = w1.heap.size + 1 := by simp
  obtain ⟨hT2, hZ2⟩ := hT1.below al1 hZ1
  obtain ⟨hT3, hZ3⟩ := hT2.below al2 hZ2
  have S3 := Slot.new (w1.alloc (.cells #[.int .i64 1, .int .i64 0] 24)) 1 0
  rw [hw3] at S3
  have hW3 := (hW1.trans (al1.mono hW1.size)).trans (al2.mono (Nat.le_trans hW1.size al1.size))
  have KW0 : Kpw w ((w1.alloc (.cells #[.int .i64 1, .int .i64 0] 24)).alloc (.cells #[.int .i64 1, .int .i64 0] 24)) a b (w1.heap.size + 1) 1 0 := ⟨hT3, S3, by omega, by simp, HT.out.below hW3, hW3⟩
  have KWh := Lib.hid KW0
  have c1 := Slot.new w1 1 0
  obtain ⟨u0, u1, u2, u3⟩ := c1
  have hT1w : 1 < w.heap.size := var_lt gPow HT.out
  clear al1 al2 hT1 hZ1 hW1 hT2 hZ2 hT3 hZ3 S3 hW3 KW0 hw3
  go_wp2_with fail
  go_loopw [10, 11] (fun o' i' wr => ∃ j : Nat, j ≤ n ∧ i' = .int .i64 (j : Int) ∧ o' = .bool (powG a b j).2.2 ∧ Kpw w wr a b (w1.heap.size + 1) (powG a b j).1 (powG a b j).2.1) (fun _ i' _ => n - (intOf i').toNat)
  case atStart => exact ⟨0, Nat.zero_le _, rfl, rfl, KWh.out⟩
  case round =>
    obtain ⟨j, hj, rfl, rfl, hK⟩ := hrel
    clear p0 p1 p2 p3 p4 p5 p6 p7 u0 u1 u2 u3 KWh R1
    obtain ⟨⟨⟨p0, p1, p2, p3⟩, p4, p5, p6, p7⟩, ⟨v0, v1, v2, v3⟩, _, hlt, _, _⟩ := id hK
    have hpr := powG_right a b j
    have hst : powG a b (j + 1) = if (powG a b j).2.2 = true then mulN (powG a b j).1 (powG a b j).2.1 a b else (0, 0, false) := rfl
    have hno := fun h => powG_stop (a := a) (b := b) (k := j) h n hj
    obtain ⟨⟨x, y, ok⟩, hr⟩ : ∃ r, r = powG a b j := ⟨_, rfl⟩
    rw [← hr] at v0 v1 hpr hst hno hK ⊢
    simp only at v0 v1 hpr hst hno hK ⊢
    by_cases hjn : j < n
    · cases ok with
      | true =>
        rw [if_pos rfl] at hst
        have MK := MU.out x y wr hpr hK.tab
        obtain ⟨⟨x2, y2, ok2⟩, hm⟩ : ∃ r, r = mulN x y a b := ⟨_, rfl⟩
        rw [← hm] at MK hst
        simp only [numR, numV] at MK
        have HST := Lib.hid hst
        have MKh := Lib.hid MK
        clear hr hst hno MK hm hpr
        go_wp2_with fail
        refine MKh.out.mono ?_
        rintro e w5 ⟨rfl, hb5⟩
        have K5 := hK.later hb5
        have K6 := Lib.hid (K5.put hT1w x2 y2)
        clear hK hb5 p0 p1 p2 p3 p4 p5 p6 p7 v0 v1 v2 v3 hlt MKh
        obtain ⟨⟨⟨p0, p1, p2, p3⟩, p4, p5, p6, p7⟩, ⟨v0, v1, v2, v3⟩, _, hlt, _, _⟩ := id K5
        go_wp2
        go_roundw
        case rel => exact ⟨j + 1, by omega, by go_num, by rw [HST.out], by rw [HST.out]; exact K6.out⟩
        case measure => simp [intOf]; omega
      | false =>
        have hno2 := hno rfl
        have h0 : (M, E, ok0) = (0, 0, false) := by rw [HM.out, hno2]
        have hn0 := powG_not (a := a) (b := b) (k := j) (by rw [← hr])
        rw [← hr] at hn0
        simp only [Prod.mk.injEq] at h0 hn0
        obtain ⟨rfl, rfl, rfl⟩ := h0
        obtain ⟨rfl, rfl, _⟩ := hn0
        have hbw := hK.bw
        clear hno hno2 hst hr hpr MU
        go_wp2
        refine bodyPost_ret (v := .tuple #[.agg #[.int .i64 0, .int .i64 0], .bool false]) (by simp [results, Tryd.results31, go_sem, p4, p5]) rfl ⟨rfl, ?_⟩
        exact slot_set2 hbw (by omega) _ _
    · obtain rfl : j = n := by omega
      have h0 : (M, E, ok0) = (x, y, ok) := by rw [HM.out, ← hr]
      simp only [Prod.mk.injEq] at h0
      obtain ⟨rfl, rfl, rfl⟩ := h0
      have hbw := hK.bw
      have hz9 := hK.hB
      clear hno hst hr hpr MU
      go_wp2
      refine bodyPost_ret (v := .tuple #[.agg #[.int .i64 M, .int .i64 E], .bool ok0]) (by simp [results, Tryd.results31, go_sem, p4, p5]) rfl ⟨rfl, ?_⟩
      exact slot_set2 hbw (by omega) _ _
end Go.Proofs.YtkdjdoncmihkfaaDoor
