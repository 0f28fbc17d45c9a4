/- Walks over num.Neg, num.sign, num.size and num.Cmp. -/
import Derived.Test.YtkdjdoncmihkfaaDoorNv
import Derived.Deep.RegionHeld3
import Derived.WalkSmall
namespace Go.Proofs.YtkdjdoncmihkfaaDoor
open Go.RowKit

def negP (m e : Int) : Int × Int := if rightB m e = true then (-m, e) else (0, 0)
theorem Slot.size {w : World} {B : Nat} {m e : Int} (h : Slot w B m e) : B < w.heap.size := by
  obtain ⟨c0, _⟩ := h
  by_cases hl : B < w.heap.size
  · exact hl
  · unfold World.cell? at c0
    simp [Array.getElem?_eq_none (show w.heap.size ≤ B by omega)] at c0
/-- a number that came by value, and the result's own cells -/
structure Duo (w : World) (B : Nat) (a b c d : Int) : Prop where
  s0 : Slot w B a b
  s1 : Slot w (B + 1) c d
theorem Duo.new (w : World) (a b c d : Int) : Duo ((w.alloc (.cells #[.int .i64 a, .int .i64 b] 24)).alloc (.cells #[.int .i64 c, .int .i64 d] 24)) w.heap.size a b c d :=
  ⟨(Slot.new w a b).below (C := w.heap.size + 1) ((Below.refl _ _).alloc (by simp) _) (by omega),
    by
      have h := (Slot.new (w.alloc (.cells #[.int .i64 a, .int .i64 b] 24)) c d)
      rwa [show (w.alloc (.cells #[.int .i64 a, .int .i64 b] 24)).heap.size = w.heap.size + 1 by simp] at h⟩
theorem Duo.below {w w' : World} {B : Nat} {a b c d : Int} (h : Duo w B a b c d) (hb : Below w.heap.size w w') (hB : B + 2 ≤ w.heap.size) : Duo w' B a b c d ∧ B + 2 ≤ w'.heap.size :=
  ⟨⟨h.s0.below hb (by omega), h.s1.below hb (by omega)⟩, by have := hb.size; omega⟩
theorem below2 (w : World) (o1 o2 : Obj) : Below w.heap.size w ((w.alloc o1).alloc o2) :=
  ((Below.refl _ _).alloc (Nat.le_refl _) _).alloc (by simp) _

/-- Neg, of every number -/
theorem neg_any (m e : Int) (h0 : -9223372036854775808 ≤ m) (h1 : m ≤ 9223372036854775807) (h3 : e ≤ 9223372036854775807) (w : World) :
    Calls Tryd.prog 23 #[numV m e] w fun r w' => r = .returned (numV (negP m e).1 (negP m e).2) ∧ Below w.heap.size w w' := by
  have R1 : Hid (∀ w1, Calls Tryd.prog 17 #[.agg #[.int .i64 m, .int .i64 e]] w1 fun r w' => r = .returned (.bool (rightB m e)) ∧ Below w1.heap.size w1 w') :=
    fun w1 => right_any m e h0 h1 h3 w1
  unfold negP
  by_cases hr : rightB m e = true
  · have hb := right_bounds hr
    rw [if_pos hr]
    rw [hr] at R1
    clear hr
    unfold numV
    go_enter Tryd.func23, Tryd.ntmps23
    go_wp2_with fail
    refine (R1.out _).mono ?_
    rintro e w1 ⟨rfl, hb1⟩
    have hT0 := Duo.new w m e 0 0
    have hB0 := below2 w (.cells #[.int .i64 m, .int .i64 e] 24) (.cells #[.int .i64 0, .int .i64 0] 24)
    obtain ⟨hT1, hZ1⟩ := hT0.below hb1 (by simp)
    have hW1 := hB0.trans (hb1.mono hB0.size)
    clear hT0 hB0 hb1
    obtain ⟨⟨p0, p1, p2, p3⟩, p4, p5, p6, p7⟩ := hT1
    go_wp2
    refine bodyPost_ret (v := .agg #[.int .i64 (-m), .int .i64 e]) (by simp [results, Tryd.results23, go_sem, p4, p5]) rfl ⟨rfl, ?_⟩
    exact slot_set2 hW1 (by omega) _ _
  · rw [if_neg hr]
    rw [show rightB m e = false by simpa using hr] at R1
    clear hr
    unfold numV
    go_enter Tryd.func23, Tryd.ntmps23
    go_wp2_with fail
    refine (R1.out _).mono ?_
    rintro e w1 ⟨rfl, hb1⟩
    have hT0 := Duo.new w m e 0 0
    have hB0 := below2 w (.cells #[.int .i64 m, .int .i64 e] 24) (.cells #[.int .i64 0, .int .i64 0] 24)
    obtain ⟨hT1, hZ1⟩ := hT0.below hb1 (by simp)
    have hW1 := hB0.trans (hb1.mono hB0.size)
    clear hT0 hB0 hb1
    obtain ⟨⟨p0, p1, p2, p3⟩, p4, p5, p6, p7⟩ := hT1
    go_wp2
    refine bodyPost_ret (v := .agg #[.int .i64 0, .int .i64 0]) (by simp [results, Tryd.results23, go_sem, p4, p5]) rfl ⟨rfl, ?_⟩
    exact slot_set2 hW1 (by omega) _ _
def sgnI (m : Int) : Int := if m < 0 then -1 else if 0 < m then 1 else 0
theorem sign_any (m e : Int) (w : World) : Calls Tryd.prog 55 #[numV m e] w fun r w' => r = .returned (.int .i64 (sgnI m)) ∧ Below w.heap.size w w' := by
  unfold sgnI
  by_cases h1 : m < 0
  · rw [if_pos h1]
    unfold numV
    go_enter Tryd.func55, Tryd.ntmps55
    go_wp2
    go_ret
    exact ⟨rfl, (Below.refl _ _).alloc (Nat.le_refl _) _⟩
  · rw [if_neg h1]
    by_cases h2 : 0 < m
    · rw [if_pos h2]
      unfold numV
      go_enter Tryd.func55, Tryd.ntmps55
      go_wp2
      go_ret
      exact ⟨rfl, (Below.refl _ _).alloc (Nat.le_refl _) _⟩
    · rw [if_neg h2]
      unfold numV
      go_enter Tryd.func55, Tryd.ntmps55
      go_wp2
      go_ret
      exact ⟨rfl, (Below.refl _ _).alloc (Nat.le_refl _) _⟩
theorem bl_eq : ∀ (x y : List UInt8), Op.bytesLess x y = decide (x < y)
  | [], [] => by simp [Op.bytesLess]
  | _ :: _, [] => by simp [Op.bytesLess]
  | [], _ :: _ => by simp [Op.bytesLess]
  | a :: x, b :: y => by
    rw [Op.bytesLess, bl_eq x y]
    simp only [List.cons_lt_cons_iff]
    by_cases h1 : a < b <;> by_cases h2 : a = b <;> by_cases h3 : x < y <;> simp [h1, h2, h3]
/-- a slice of one's own, turned to a string -/
theorem own_conv {w : World} {B g c n : Nat} {l : List UInt8} (h : Own w B (.slice (some ⟨g, 0, none⟩) n c) l) (hn : n = l.length) :
    (convert 49 9 (.slice (some ⟨g, 0, none⟩) n c)).run Tryd.prog w = .ok (.string ⟨l.toArray⟩) w := by
  subst hn
  refine run_convert_bytes_back _ 49 9 5 ⟨g, 0, none⟩ c l Tryd.underlying49 Tryd.underlying5 Tryd.underlying9 (fun j hj => ?_)
  have := (h.at (List.getElem?_eq_getElem hj)).1
  by_cases h0 : j = 0
  · subst h0; exact this
  · simpa [Addr.add, h0] using this
theorem Own.below {w w' : World} {B : Nat} {v : Value} {l : List UInt8} (h : Own w B v l) (hb : Below w.heap.size w w') : Own w' B v l :=
  ⟨h.1.kept (row := none) ⟨hb.os, hb.tape, hb.output, hb.size, fun j hj _ => hb.block j hj⟩ (by cases hv : v.ownBlock <;> simp), h.2⟩

set_option maxRecDepth 1000000 in
set_option maxHeartbeats 2000000 in
/-- size, of two right numbers -/
theorem size_any (a b c d : Int) (ha : rightB a b = true) (hc : rightB c d = true) (w : World) (ht : Tab w) :
    Calls Tryd.prog 56 #[numV a b, numV c d] w fun r w' => r = .returned (.int .i64 (sizeI a b c d)) ∧ Below w.heap.size w w' := by
  obtain ⟨s, hs⟩ : ∃ s, s = sizeI a b c d := ⟨_, rfl⟩
  rw [← hs]
  have HS := Lib.hid hs
  obtain ⟨ba, bb1, bb2⟩ := right_bounds ha
  obtain ⟨bc, bd1, bd2⟩ := right_bounds hc
  have D1 : Hid (∀ w1, Tab w1 → Calls Tryd.prog 47 #[.int .i64 a] w1 fun e w' => ∃ v, e = .returned (.tuple #[.bool (decide (a < 0)), v]) ∧ Own w' w1.heap.size v (digs a) ∧ Below w1.heap.size w1 w') :=
    fun w1 h => digits_any a (by omega) (by omega) w1 h
  have D2 : Hid (∀ w1, Tab w1 → Calls Tryd.prog 47 #[.int .i64 c] w1 fun e w' => ∃ v, e = .returned (.tuple #[.bool (decide (c < 0)), v]) ∧ Own w' w1.heap.size v (digs c) ∧ Below w1.heap.size w1 w') :=
    fun w1 h => digits_any c (by omega) (by omega) w1 h
  have l1 := digs_length a (by omega) (by omega)
  have l2 := digs_length c (by omega) (by omega)
  unfold sizeI at HS
  obtain ⟨A, hA⟩ : ∃ A, A = digs a := ⟨_, rfl⟩
  obtain ⟨C, hC⟩ : ∃ A, A = digs c := ⟨_, rfl⟩
  rw [← hA] at HS D1 l1
  rw [← hC] at HS D2 l2
  have HT := Lib.hid ht
  clear ha hc ba bc hA hC ht hs
  unfold numV
  go_enter Tryd.func56, Tryd.ntmps56
  go_wp2_with fail
  have hT0 := Duo.new w a b c d
  have hB0 := below2 w (.cells #[.int .i64 a, .int .i64 b] 24) (.cells #[.int .i64 c, .int .i64 d] 24)
  refine (D1.out _ (HT.out.below hB0)).mono ?_
  rintro e w1 ⟨v1, rfl, hown1, hb1⟩
  obtain ⟨hT1, hZ1⟩ := hT0.below hb1 (by simp)
  have hW1 := hB0.trans (hb1.mono hB0.size)
  obtain ⟨B1, hB1⟩ : ∃ B1, B1 = ((w.alloc (.cells #[.int .i64 a, .int .i64 b] 24)).alloc (.cells #[.int .i64 c, .int .i64 d] 24)).heap.size := ⟨_, rfl⟩
  rw [← hB1] at hown1
  clear hT0 hB0 hb1 D1 hB1
  obtain ⟨⟨p0, p1, p2, p3⟩, p4, p5, p6, p7⟩ := id hT1
  go_wp2_with fail
  refine (D2.out _ (HT.out.below hW1)).mono ?_
  rintro e w2 ⟨v2, rfl, hown2, hb2⟩
  obtain ⟨hT2, hZ2⟩ := hT1.below hb2 hZ1
  have hW2 := hW1.trans (hb2.mono hW1.size)
  have hown3 := hown1.below hb2
  obtain ⟨B2, hB2⟩ : ∃ B2, B2 = w1.heap.size := ⟨_, rfl⟩
  rw [← hB2] at hown2
  clear hT1 hown1 hW1 hb2 D2 p0 p1 p2 p3 p4 p5 p6 p7 hB2 HT hZ1
  obtain ⟨⟨p0, p1, p2, p3⟩, p4, p5, p6, p7⟩ := id hT2
  obtain ⟨g1, c1, rfl⟩ := hown3.2
  obtain ⟨g2, c2, rfl⟩ := hown2.2
  go_wp2_with fail
  go_quiet (fail)
  obtain ⟨W2, hWe⟩ : ∃ W2, W2 = w2.drewN nq := ⟨_, rfl⟩
  have hdr : Below w2.heap.size w2 W2 := by rw [hWe]; exact below_drewN (Below.refl _ w2) nq
  have hW3 := hW2.trans (hdr.mono hW2.size)
  have o1 := hown3.below hdr
  have o2 := hown2.below hdr
  have V1 := own_conv o1 rfl
  have V2 := own_conv o2 rfl
  rw [← hWe]
  clear hWe hdr hW2 hT2 hown3 hown2 o1 o2 p0 p1 p2 p3 p4 p5 p6 p7
  have hbl := bl_eq A C
  by_cases k1 : (A.length : Int) + b < C.length + d
  · have HS2 : Hid (s = -1) := by have := HS.out; rw [if_pos (.inl k1)] at this; exact this
    clear HS V1 V2 hbl
    go_wp2
    go_ret
    exact ⟨by have e := HS2.out; subst e; rfl, hW3⟩
  · by_cases k2 : (A.length : Int) + b = C.length + d
    · have k2' : ((A.length : Int) + b == C.length + d) = true := by rw [beq_iff_eq]; exact k2
      by_cases k3 : A < C
      · have HS2 : Hid (s = -1) := by have := HS.out; rw [if_pos (.inr ⟨k2, k3⟩)] at this; exact this
        have hbt : Op.bytesLess A C = true := by rw [hbl]; simpa using k3
        clear HS hbl k3 k2
        go_wp2
        go_ret
        exact ⟨by have e := HS2.out; subst e; rfl, hW3⟩
      · have HS2 : Hid (s = 1) := by have := HS.out; rw [if_neg (fun h => h.elim k1 (fun h => k3 h.2))] at this; exact this
        have hbt : Op.bytesLess A C = false := by rw [hbl]; simpa using k3
        clear HS hbl k3 k2
        go_wp2
        go_ret
        exact ⟨by have e := HS2.out; subst e; rfl, hW3⟩
    · have HS2 : Hid (s = 1) := by have := HS.out; rw [if_neg (fun h => h.elim k1 (fun h => k2 h.1))] at this; exact this
      have k2' : ((A.length : Int) + b == C.length + d) = false := by rw [beq_eq_false_iff_ne]; exact k2
      clear HS V1 V2 hbl k2
      go_wp2
      go_ret
      exact ⟨by have e := HS2.out; subst e; rfl, hW3⟩
/-- what the walk holds of the two numbers' cells -/
def Kp (w : World) (a b c d : Int) (w' : World) : Prop :=
  w'.cell? ⟨w.heap.size, 0, none⟩ = some (.int .i64 a) ∧ w'.cell? ⟨w.heap.size, 1, none⟩ = some (.int .i64 b) ∧ w'.cell? ⟨w.heap.size + 1, 0, none⟩ = some (.int .i64 c) ∧ w'.cell? ⟨w.heap.size + 1, 1, none⟩ = some (.int .i64 d) ∧ w.heap.size + 2 ≤ w'.heap.size ∧ Tab w' ∧ Below w.heap.size w w'
theorem Kp.later {w : World} {a b c d : Int} {w1 w2 : World} (h : Kp w a b c d w1) (hb : Below w1.heap.size w1 w2) : Kp w a b c d w2 := by
  obtain ⟨h1, h2, h3, h4, h5, h6, h7⟩ := h
  exact ⟨(hb.cell (p := ⟨w.heap.size, 0, none⟩) (show w.heap.size < w1.heap.size by omega)).trans h1, (hb.cell (p := ⟨w.heap.size, 1, none⟩) (show w.heap.size < w1.heap.size by omega)).trans h2, (hb.cell (p := ⟨w.heap.size + 1, 0, none⟩) (show w.heap.size + 1 < w1.heap.size by omega)).trans h3, (hb.cell (p := ⟨w.heap.size + 1, 1, none⟩) (show w.heap.size + 1 < w1.heap.size by omega)).trans h4, by have := hb.size; omega, h6.below hb, h7.trans (hb.mono (by omega))⟩
theorem Kp.first (w : World) (a b c d : Int) (ht : Tab w) : Kp w a b c d ((w.alloc (.cells #[.int .i64 a, .int .i64 b] 24)).alloc (.cells #[.int .i64 c, .int .i64 d] 24)) := by
  have h := Duo.new w a b c d
  have hb := below2 w (.cells #[.int .i64 a, .int .i64 b] 24) (.cells #[.int .i64 c, .int .i64 d] 24)
  exact ⟨h.s0.c0, h.s0.c1, h.s1.c0, h.s1.c1, by simp, ht.below hb, hb⟩
theorem below_dr (w : World) : Below w.heap.size w w.drew := by
  have hb := Below.refl w.heap.size w
  exact ⟨hb.os, hb.tape, hb.output, hb.size, hb.block⟩

theorem cmp_eq (a b : Int) (ha : rightB a b = true) (w : World) (ht : Tab w) :
    Calls Tryd.prog 25 #[numV a b, numV a b] w fun r w' => r = .returned (.int .i64 0) ∧ Below w.heap.size w w' := by
  obtain ⟨ba, bb1, bb2⟩ := right_bounds ha
  have R1 : Hid (∀ w1, Calls Tryd.prog 17 #[.agg #[.int .i64 a, .int .i64 b]] w1 fun r w' => r = .returned (.bool true) ∧ Below w1.heap.size w1 w') := by
    intro w1; have := right_any a b (by omega) (by omega) (by omega) w1; rw [ha] at this; exact this
  have H0 := Lib.hid (Kp.first w a b a b ht)
  clear ha ba bb1 bb2 ht
  unfold numV
  go_enter Tryd.func25, Tryd.ntmps25
  go_wp2_with fail
  refine (R1.out _).mono ?_
  rintro e w1 ⟨rfl, hb1⟩
  have K1 := H0.out.later hb1
  clear hb1
  obtain ⟨p0, p1, p2, p3, _⟩ := id K1
  go_wp2_with fail
  refine (R1.out _).mono ?_
  rintro e w2 ⟨rfl, hb2⟩
  have K2 := K1.later hb2
  clear hb2 p0 p1 p2 p3
  obtain ⟨p0, p1, p2, p3, _⟩ := id K2
  go_wp2
  go_ret
  exact ⟨rfl, K2.2.2.2.2.2.2⟩

theorem cmp_sign (a b c d : Int) (s : Int) (ha : rightB a b = true) (hc : rightB c d = true) (hs : sgnI a ≠ sgnI c) (hs2 : s = if sgnI a < sgnI c then -1 else 1) (w : World) (ht : Tab w) :
    Calls Tryd.prog 25 #[numV a b, numV c d] w fun r w' => r = .returned (.int .i64 s) ∧ Below w.heap.size w w' := by
  obtain ⟨ba, bb1, bb2⟩ := right_bounds ha
  obtain ⟨bc, bd1, bd2⟩ := right_bounds hc
  have R1 : Hid (∀ w1, Calls Tryd.prog 17 #[.agg #[.int .i64 a, .int .i64 b]] w1 fun r w' => r = .returned (.bool true) ∧ Below w1.heap.size w1 w') := by
    intro w1; have := right_any a b (by omega) (by omega) (by omega) w1; rw [ha] at this; exact this
  have R2 : Hid (∀ w1, Calls Tryd.prog 17 #[.agg #[.int .i64 c, .int .i64 d]] w1 fun r w' => r = .returned (.bool true) ∧ Below w1.heap.size w1 w') := by
    intro w1; have := right_any c d (by omega) (by omega) (by omega) w1; rw [hc] at this; exact this
  have G1 : Hid (∀ w1, Calls Tryd.prog 55 #[.agg #[.int .i64 a, .int .i64 b]] w1 fun r w' => r = .returned (.int .i64 (sgnI a)) ∧ Below w1.heap.size w1 w') := fun w1 => sign_any a b w1
  have G2 : Hid (∀ w1, Calls Tryd.prog 55 #[.agg #[.int .i64 c, .int .i64 d]] w1 fun r w' => r = .returned (.int .i64 (sgnI c)) ∧ Below w1.heap.size w1 w') := fun w1 => sign_any c d w1
  have H0 := Lib.hid (Kp.first w a b c d ht)
  obtain ⟨sa, hsa⟩ : ∃ x, x = sgnI a := ⟨_, rfl⟩
  obtain ⟨sc, hsc⟩ : ∃ x, x = sgnI c := ⟨_, rfl⟩
  rw [← hsa] at G1 hs hs2
  rw [← hsc] at G2 hs hs2
  have hac : ¬ a = c := by intro e; rw [hsa, hsc, e] at hs; exact hs rfl
  have hsn : (sa == sc) = false := by rw [beq_eq_false_iff_ne]; exact hs
  have hsn2 : (sa != sc) = true := by rw [bne, hsn]; rfl
  have HS := Lib.hid hs2
  clear ha hc ba bb1 bb2 bc bd1 bd2 ht hsa hsc hs hs2
  unfold numV
  go_enter Tryd.func25, Tryd.ntmps25
  go_wp2_with fail
  refine (R1.out _).mono ?_
  rintro e w1 ⟨rfl, hb1⟩
  have K1 := H0.out.later hb1
  clear hb1
  obtain ⟨p0, p1, p2, p3, _⟩ := id K1
  go_wp2_with fail
  refine (R2.out _).mono ?_
  rintro e w2 ⟨rfl, hb2⟩
  have K2 := K1.later hb2
  clear hb2 p0 p1 p2 p3 K1
  obtain ⟨p0, p1, p2, p3, _⟩ := id K2
  go_wp2_with fail
  go_region_held3 (fun w' => w'.cell? ⟨w.heap.size, 0, none⟩ = some (.int .i64 a) ∧ w'.cell? ⟨w.heap.size, 1, none⟩ = some (.int .i64 b) ∧ w'.cell? ⟨w.heap.size + 1, 0, none⟩ = some (.int .i64 c) ∧ w'.cell? ⟨w.heap.size + 1, 1, none⟩ = some (.int .i64 d) ∧ w.heap.size + 2 ≤ w'.heap.size ∧ Tab w' ∧ Below w.heap.size w w')
    (first | exact K2.later (below_dr _) | exact Kp.later (hb := hb5) (h := by assumption))
    (first
      | (go_at_call_of 55 (Value.agg #[.int .i64 a, .int .i64 b]); refine (G1.out _).mono ?_; rintro e w5 ⟨rfl, hb5⟩)
      | (go_at_call_of 55 (Value.agg #[.int .i64 c, .int .i64 d]); refine (G2.out _).mono ?_; rintro e w5 ⟨rfl, hb5⟩))
  have hk : Below w.heap.size w w5 := (show Kp w a b c d w5 by assumption).2.2.2.2.2.2
  clear hb5
  by_cases hl : sa < sc
  · have e : s = -1 := by rw [HS.out, if_pos hl]
    subst e
    clear HS
    go_wp2
    go_ret
    exact ⟨rfl, hk⟩
  · have e : s = 1 := by rw [HS.out, if_neg hl]
    subst e
    clear HS
    go_wp2
    go_ret
    exact ⟨rfl, hk⟩
theorem right_neg {x y : Int} (h : rightB x y = true) : rightB (-x) y = true := by
  unfold rightB at h ⊢
  by_cases hx : x = 0
  · subst hx; simpa using h
  · rw [if_neg hx] at h
    rw [if_neg (by omega), Int.natAbs_neg, Int.neg_tmod]
    by_cases h2 : x.tmod 10 = 0 ∨ y < -40
    · rw [if_pos h2] at h; simp at h
    · rw [if_neg h2] at h
      rw [if_neg (fun h3 => h2 (h3.elim (fun h3 => .inl (by omega)) .inr))]; exact h

set_option maxRecDepth 1000000 in
set_option maxHeartbeats 4000000 in
/-- two numbers of one sign, that aren't the same -/
theorem cmp_same (a b c d : Int) (s : Int) (hne : ¬ (a = c ∧ b = d)) (hsg : sgnI a = sgnI c) (ha : rightB a b = true) (hc : rightB c d = true) (hs : s = if a < 0 then sizeI (-c) d (-a) b else sizeI a b c d) (w : World) (ht : Tab w) :
    Calls Tryd.prog 25 #[numV a b, numV c d] w fun r w' => r = .returned (.int .i64 s) ∧ Below w.heap.size w w' := by
  obtain ⟨ba, bb1, bb2⟩ := right_bounds ha
  obtain ⟨bc, bd1, bd2⟩ := right_bounds hc
  have R1 : Hid (∀ w1, Calls Tryd.prog 17 #[.agg #[.int .i64 a, .int .i64 b]] w1 fun r w' => r = .returned (.bool true) ∧ Below w1.heap.size w1 w') := by
    intro w1; have := right_any a b (by omega) (by omega) (by omega) w1; rw [ha] at this; exact this
  have R2 : Hid (∀ w1, Calls Tryd.prog 17 #[.agg #[.int .i64 c, .int .i64 d]] w1 fun r w' => r = .returned (.bool true) ∧ Below w1.heap.size w1 w') := by
    intro w1; have := right_any c d (by omega) (by omega) (by omega) w1; rw [hc] at this; exact this
  obtain ⟨sg, hsge⟩ : ∃ sg, sg = sgnI a := ⟨_, rfl⟩
  have G1 : Hid (∀ w1, Calls Tryd.prog 55 #[.agg #[.int .i64 a, .int .i64 b]] w1 fun r w' => r = .returned (.int .i64 sg) ∧ Below w1.heap.size w1 w') := by
    intro w1; have := sign_any a b w1; rw [← hsge] at this; exact this
  have G2 : Hid (∀ w1, Calls Tryd.prog 55 #[.agg #[.int .i64 c, .int .i64 d]] w1 fun r w' => r = .returned (.int .i64 sg) ∧ Below w1.heap.size w1 w') := by
    intro w1; have := sign_any c d w1; rw [← hsg, ← hsge] at this; exact this
  have N1 : Hid (∀ w1, Calls Tryd.prog 23 #[.agg #[.int .i64 a, .int .i64 b]] w1 fun r w' => r = .returned (.agg #[.int .i64 (-a), .int .i64 b]) ∧ Below w1.heap.size w1 w') := by
    intro w1; have := neg_any a b (by omega) (by omega) (by omega) w1; rw [show negP a b = (-a, b) from if_pos ha] at this; exact this
  have N2 : Hid (∀ w1, Calls Tryd.prog 23 #[.agg #[.int .i64 c, .int .i64 d]] w1 fun r w' => r = .returned (.agg #[.int .i64 (-c), .int .i64 d]) ∧ Below w1.heap.size w1 w') := by
    intro w1; have := neg_any c d (by omega) (by omega) (by omega) w1; rw [show negP c d = (-c, d) from if_pos hc] at this; exact this
  have Z1 : Hid (a < 0 → ∀ w1, Tab w1 → Calls Tryd.prog 56 #[.agg #[.int .i64 (-c), .int .i64 d], .agg #[.int .i64 (-a), .int .i64 b]] w1 fun r w' => r = .returned (.int .i64 s) ∧ Below w1.heap.size w1 w') := by
    intro h0 w1 h; have := size_any (-c) d (-a) b (right_neg hc) (right_neg ha) w1 h; rw [hs, if_pos h0]; exact this
  have Z2 : Hid (¬ a < 0 → ∀ w1, Tab w1 → Calls Tryd.prog 56 #[.agg #[.int .i64 a, .int .i64 b], .agg #[.int .i64 c, .int .i64 d]] w1 fun r w' => r = .returned (.int .i64 s) ∧ Below w1.heap.size w1 w') := by
    intro h0 w1 h; have := size_any a b c d ha hc w1 h; rw [hs, if_neg h0]; exact this
  have H0 := Lib.hid (Kp.first w a b c d ht)
  have hne1 : (a == c && b == d) = false := by simpa using hne
  have hsn : (sg != sg) = false := by simp
  have hle : a.natAbs < 1000000000000000 := ba
  clear ha hc ba bb1 bb2 bc bd1 bd2 ht hs hne hsg hsge
  unfold numV
  go_enter Tryd.func25, Tryd.ntmps25
  go_wp2_with fail
  refine (R1.out _).mono ?_
  rintro e w1 ⟨rfl, hb1⟩
  have K1 := H0.out.later hb1
  clear hb1
  obtain ⟨p0, p1, p2, p3, _⟩ := id K1
  go_wp2_with fail
  refine (R2.out _).mono ?_
  rintro e w2 ⟨rfl, hb2⟩
  have K2 := K1.later hb2
  clear hb2 p0 p1 p2 p3 K1
  obtain ⟨p0, p1, p2, p3, _⟩ := id K2
  go_wp2_with fail
  all_goals (try (exfalso; simp at hne1; exact hne1 (by assumption) (by assumption)))
  all_goals (try (rename a = c => hx1; clear hx1))
  all_goals (try (rename ¬ b = d => hx2; clear hx2))
  all_goals (try (rename ¬ a = c => hx3; clear hx3))
  all_goals (
    clear hne1
    go_region_held3 (fun w' => w'.cell? ⟨w.heap.size, 0, none⟩ = some (.int .i64 a) ∧ w'.cell? ⟨w.heap.size, 1, none⟩ = some (.int .i64 b) ∧ w'.cell? ⟨w.heap.size + 1, 0, none⟩ = some (.int .i64 c) ∧ w'.cell? ⟨w.heap.size + 1, 1, none⟩ = some (.int .i64 d) ∧ w.heap.size + 2 ≤ w'.heap.size ∧ Tab w' ∧ Below w.heap.size w w')
      (first | exact K2.later (below_dr _) | exact Kp.later (hb := hb5) (h := by assumption))
      (first
        | (go_at_call_of 55 (Value.agg #[.int .i64 a, .int .i64 b]); refine (G1.out _).mono ?_; rintro e w5 ⟨rfl, hb5⟩)
        | (go_at_call_of 55 (Value.agg #[.int .i64 c, .int .i64 d]); refine (G2.out _).mono ?_; rintro e w5 ⟨rfl, hb5⟩))
    have K5 : Kp w a b c d w5 := by assumption
    clear hb5 K2 p0 p1 p2 p3 G1 G2 R1 R2
    obtain ⟨q0, q1, q2, q3, _⟩ := id K5
    by_cases h0 : a < 0
    · have Z := Lib.hid (Z1.out h0)
      clear Z1 Z2
      go_wp2_with fail
      go_region_held3 (fun w' => w'.cell? ⟨w.heap.size, 0, none⟩ = some (.int .i64 a) ∧ w'.cell? ⟨w.heap.size, 1, none⟩ = some (.int .i64 b) ∧ w'.cell? ⟨w.heap.size + 1, 0, none⟩ = some (.int .i64 c) ∧ w'.cell? ⟨w.heap.size + 1, 1, none⟩ = some (.int .i64 d) ∧ w.heap.size + 2 ≤ w'.heap.size ∧ Tab w' ∧ Below w.heap.size w w')
        (first | exact K5.later (below_dr _) | exact Kp.later (hb := hb6) (h := by assumption))
        (first
          | (go_at_call_of 23 (Value.agg #[.int .i64 a, .int .i64 b]); refine (N1.out _).mono ?_; rintro e w6 ⟨rfl, hb6⟩)
          | (go_at_call_of 23 (Value.agg #[.int .i64 c, .int .i64 d]); refine (N2.out _).mono ?_; rintro e w6 ⟨rfl, hb6⟩)
          | (go_at_call 56; refine (Z.out _ (show Kp w a b c d _ by assumption).2.2.2.2.2.1).mono ?_; rintro e w6 ⟨rfl, hb6⟩))
      have hk : Below w.heap.size w w6 := (show Kp w a b c d w6 by assumption).2.2.2.2.2.2
      go_wp2
      go_ret
      exact ⟨rfl, hk⟩
    · have Z := Lib.hid (Z2.out (by omega) _ K5.2.2.2.2.2.1)
      clear Z1 Z2
      go_wp2_with fail
      refine Z.out.mono ?_
      rintro e w6 ⟨rfl, hb6⟩
      have hk : Below w.heap.size w w6 := (K5.later hb6).2.2.2.2.2.2
      go_wp2
      go_ret
      exact ⟨rfl, hk⟩)
theorem cmpI_neg (u v : Int) : cmpI (-v) (-u) = cmpI u v := by
  unfold cmpI
  by_cases h1 : u < v
  · rw [if_pos h1, if_pos (by omega)]
  · rw [if_neg h1, if_neg (by omega)]
    by_cases h2 : u = v
    · rw [if_pos h2, if_pos (by omega)]
    · rw [if_neg h2, if_neg (by omega)]
/-- Cmp, of every two right numbers: how their values stand -/
theorem cmp_any (a b c d : Int) (ha : rightB a b = true) (hc : rightB c d = true) (w : World) (ht : Tab w) :
    Calls Tryd.prog 25 #[numV a b, numV c d] w fun r w' => r = .returned (.int .i64 (cmpI (vI a b) (vI c d))) ∧ Below w.heap.size w w' := by
  by_cases he : a = c ∧ b = d
  · obtain ⟨rfl, rfl⟩ := he
    have e : cmpI (vI a b) (vI a b) = 0 := by unfold cmpI; rw [if_neg (by omega), if_pos rfl]
    rw [e]
    exact cmp_eq a b ha w ht
  · have va := vI_pos (m := a) (e := b)
    have vb := vI_negp (m := a) (e := b)
    have vc := vI_pos (m := c) (e := d)
    have vd := vI_negp (m := c) (e := d)
    by_cases hs : sgnI a = sgnI c
    · refine cmp_same a b c d _ he hs ha hc ?_ w ht
      unfold sgnI at hs
      by_cases a0 : a < 0
      · rw [if_pos a0] at hs ⊢
        have c0 : c < 0 := by
          by_cases c0 : c < 0
          · exact c0
          · rw [if_neg c0] at hs; split at hs <;> omega
        rw [size_val (right_neg hc) (right_neg ha) (by omega) (by omega) (fun h => he ⟨by omega, h.2.symm⟩), vI_neg, vI_neg, cmpI_neg]
      · rw [if_neg a0] at hs ⊢
        by_cases a1 : 0 < a
        · rw [if_pos a1] at hs
          have c1 : 0 < c := by
            by_cases c0 : c < 0
            · rw [if_pos c0] at hs; omega
            · rw [if_neg c0] at hs; split at hs <;> omega
          rw [size_val ha hc a1 c1 he]
        · have a2 : a = 0 := by omega
          rw [if_neg a1] at hs
          have c2 : c = 0 := by
            by_cases c0 : c < 0
            · rw [if_pos c0] at hs; omega
            · rw [if_neg c0] at hs; split at hs <;> omega
          subst a2; subst c2
          exact absurd ⟨rfl, by rw [rightB_zero ha, rightB_zero hc]⟩ he
    · refine cmp_sign a b c d _ ha hc hs ?_ w ht
      obtain ⟨p, hp⟩ : ∃ p, p = sgnI a := ⟨_, rfl⟩
      obtain ⟨q, hq⟩ : ∃ q, q = sgnI c := ⟨_, rfl⟩
      rw [← hp, ← hq] at hs ⊢
      have tri : ∀ x y : Int, y = sgnI x → (x < 0 ∧ y = -1) ∨ (x = 0 ∧ y = 0) ∨ (0 < x ∧ y = 1) := by
        intro x y h
        unfold sgnI at h
        by_cases x0 : x < 0
        · rw [if_pos x0] at h; exact .inl ⟨x0, h⟩
        · rw [if_neg x0] at h
          by_cases x1 : 0 < x
          · rw [if_pos x1] at h; exact .inr (.inr ⟨x1, h⟩)
          · rw [if_neg x1] at h; exact .inr (.inl ⟨by omega, h⟩)
      have ta := tri a p hp
      have tc := tri c q hq
      unfold cmpI
      by_cases h1 : p < q
      · rw [if_pos h1, if_pos (by omega)]
      · rw [if_neg h1, if_neg (by omega), if_neg (by omega)]
end Go.Proofs.YtkdjdoncmihkfaaDoor
