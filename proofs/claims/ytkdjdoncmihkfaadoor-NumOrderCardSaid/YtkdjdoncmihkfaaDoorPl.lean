/- Walk over the law NumPlaces. -/
import Derived.Test.YtkdjdoncmihkfaaDoorNr
namespace Go.Proofs.YtkdjdoncmihkfaaDoor
open Go.RowKit

theorem Kp.stored {w : World} {a b c d : Int} {w1 : World} (h : Kp w a b c d w1) (hT : 1 < w.heap.size) {B : Nat} (hB : w.heap.size + 2 ≤ B) (u v : Value) : Kp w a b c d ((w1.setCell ⟨B, 0, none⟩ u).setCell ⟨B, 1, none⟩ v) := by
  obtain ⟨h1, h2, h3, h4, h5, h6, h7⟩ := h
  have hb : Below (w.heap.size + 2) w1 ((w1.setCell ⟨B, 0, none⟩ u).setCell ⟨B, 1, none⟩ v) := slot_set2 (Below.refl _ _) hB u v
  exact ⟨(hb.cell (p := ⟨w.heap.size, 0, none⟩) (show w.heap.size < w.heap.size + 2 by omega)).trans h1, (hb.cell (p := ⟨w.heap.size, 1, none⟩) (show w.heap.size < w.heap.size + 2 by omega)).trans h2, (hb.cell (p := ⟨w.heap.size + 1, 0, none⟩) (show w.heap.size + 1 < w.heap.size + 2 by omega)).trans h3, (hb.cell (p := ⟨w.heap.size + 1, 1, none⟩) (show w.heap.size + 1 < w.heap.size + 2 by omega)).trans h4, by have := hb.size; omega, var?_below hb gPow (by omega) h6, h7.trans (hb.mono (by omega))⟩
theorem slot_ne {w : World} {B : Nat} {u v : Int} (h : Slot w B u v) : B < w.heap.size ∧ B < w.heap.size + 1 ∧ B ≠ w.heap.size ∧ B ≠ w.heap.size + 1 := by
  have := h.size; omega
theorem Slot.carry0 {Y W : World} {B : Nat} {u v : Int} (h : Slot Y B u v) (hb : Below Y.heap.size Y W) : Slot W B u v := h.below hb h.size
theorem Slot.carry1 {Y W : World} {o : Obj} {B : Nat} {u v : Int} (h : Slot Y B u v) (hb : Below (Y.alloc o).heap.size (Y.alloc o) W) : Slot W B u v := by
  have h1 := h.below (alloc_below Y o) h.size
  exact h1.below hb h1.size
theorem slotA1 (W : World) (a b u v : Int) : Slot ((W.alloc (.cells #[.int .i64 a, .int .i64 b] 24)).alloc (.cells #[.int .i64 u, .int .i64 v] 24)) W.heap.size a b := (Duo.new W a b u v).s0
theorem slotA2 (W : World) (a b u v : Int) : Slot ((W.alloc (.cells #[.int .i64 a, .int .i64 b] 24)).alloc (.cells #[.int .i64 u, .int .i64 v] 24)) (W.heap.size + 1) u v := (Duo.new W a b u v).s1
theorem Slot.put {w : World} {B : Nat} {a b : Int} (h : Slot w B a b) (u v : Int) : Slot ((w.setCell ⟨B, 0, none⟩ (.int .i64 u)).setCell ⟨B, 1, none⟩ (.int .i64 v)) B u v := by
  obtain ⟨c0, c1, f0, f1⟩ := h
  refine ⟨?_, ?_, by simpa [World.frozen?_setCell] using f0, by simpa [World.frozen?_setCell] using f1⟩
  · rw [World.cell?_setCell_other _ _ _ _ (by simp), World.cell?_setCell_same' _ _ _ (is_got c0)]
  · rw [World.cell?_setCell_same' _ _ _ (some_set (is_got c1) _ _)]
theorem addr_ne {B B' : Nat} (h : B' ≠ B) (i j : Nat) : (⟨B', i, none⟩ : Addr) ≠ ⟨B, j, none⟩ := fun e => h (by injection e)
theorem Slot.past {w : World} {B B' : Nat} {a b : Int} (h : Slot w B a b) (hne : B' ≠ B) (u v : Value) : Slot ((w.setCell ⟨B', 0, none⟩ u).setCell ⟨B', 1, none⟩ v) B a b := by
  obtain ⟨c0, c1, f0, f1⟩ := h
  refine ⟨?_, ?_, by simpa [World.frozen?_setCell] using f0, by simpa [World.frozen?_setCell] using f1⟩
  · rw [World.cell?_setCell_other _ _ _ _ (addr_ne hne _ _), World.cell?_setCell_other _ _ _ _ (addr_ne hne _ _)]; exact c0
  · rw [World.cell?_setCell_other _ _ _ _ (addr_ne hne _ _), World.cell?_setCell_other _ _ _ _ (addr_ne hne _ _)]; exact c1
theorem slotB1 {w : World} {B : Nat} {a b : Int} (h : Slot w B a b) (u v : Int) (o : Obj) : Slot (((w.setCell ⟨B, 0, none⟩ (.int .i64 u)).setCell ⟨B, 1, none⟩ (.int .i64 v)).alloc o) B u v :=
  (h.put u v).below (alloc_below _ _) (h.put u v).size
theorem slotB2 (w : World) (B : Nat) (p q : Value) (u v : Int) : Slot (((w.setCell ⟨B, 0, none⟩ p).setCell ⟨B, 1, none⟩ q).alloc (.cells #[.int .i64 u, .int .i64 v] 24)) w.heap.size u v := by
  have h := Slot.new ((w.setCell ⟨B, 0, none⟩ p).setCell ⟨B, 1, none⟩ q) u v
  rwa [show ((w.setCell ⟨B, 0, none⟩ p).setCell ⟨B, 1, none⟩ q).heap.size = w.heap.size by simp [World.setCell]] at h
theorem slotC1 {w : World} {B B' : Nat} {a b : Int} (h : Slot w B a b) (hne : B' ≠ B) (u v : Int) (p q : Value) : Slot ((((w.setCell ⟨B, 0, none⟩ (.int .i64 u)).setCell ⟨B, 1, none⟩ (.int .i64 v)).setCell ⟨B', 0, none⟩ p).setCell ⟨B', 1, none⟩ q) B u v := (h.put u v).past hne p q
theorem slotC2 {w : World} {B B' : Nat} {a b : Int} (h : Slot w B' a b) (hne : B ≠ B') (u v : Int) (p q : Value) : Slot ((((w.setCell ⟨B, 0, none⟩ p).setCell ⟨B, 1, none⟩ q).setCell ⟨B', 0, none⟩ (.int .i64 u)).setCell ⟨B', 1, none⟩ (.int .i64 v)) B' u v := (h.past hne p q).put u v
theorem one_new {Y W : World} {u v : Int} (hb : Below (Y.alloc (.cells #[.int .i64 u, .int .i64 v] 24)).heap.size (Y.alloc (.cells #[.int .i64 u, .int .i64 v] 24)) W) : Slot W Y.heap.size u v :=
  (Slot.new Y u v).below hb (by simp)
theorem two_new {Y W : World} {a b u v : Int} (hb : Below ((Y.alloc (.cells #[.int .i64 a, .int .i64 b] 24)).alloc (.cells #[.int .i64 u, .int .i64 v] 24)).heap.size ((Y.alloc (.cells #[.int .i64 a, .int .i64 b] 24)).alloc (.cells #[.int .i64 u, .int .i64 v] 24)) W) : Slot W Y.heap.size a b ∧ Slot W (Y.heap.size + 1) u v :=
  ⟨((Duo.new Y a b u v).below hb (by simp)).1.s0, ((Duo.new Y a b u v).below hb (by simp)).1.s1⟩

theorem one_new_dr {Y W : World} {u v : Int} (hb : Below (Y.drew.alloc (.cells #[.int .i64 u, .int .i64 v] 24)).heap.size (Y.drew.alloc (.cells #[.int .i64 u, .int .i64 v] 24)) W) : Slot W Y.heap.size u v := (one_new (Y := Y.drew) hb : Slot W Y.drew.heap.size u v)
theorem two_new_dr {Y W : World} {a b u v : Int} (hb : Below ((Y.drew.alloc (.cells #[.int .i64 a, .int .i64 b] 24)).alloc (.cells #[.int .i64 u, .int .i64 v] 24)).heap.size ((Y.drew.alloc (.cells #[.int .i64 a, .int .i64 b] 24)).alloc (.cells #[.int .i64 u, .int .i64 v] 24)) W) : Slot W Y.heap.size a b ∧ Slot W (Y.heap.size + 1) u v := (two_new (Y := Y.drew) hb : Slot W Y.drew.heap.size a b ∧ Slot W (Y.drew.heap.size + 1) u v)

/-- what the walk holds behind the two roundings -/
def Kq (w : World) (a b c d : Int) (B7 : Nat) (x0 x1 : Int) (B8 : Nat) (y0 y1 : Int) (w' : World) : Prop :=
  (w'.cell? ⟨B7, 0, none⟩ = some (.int .i64 x0) ∧ w'.cell? ⟨B7, 1, none⟩ = some (.int .i64 x1) ∧ w'.cell? ⟨B8, 0, none⟩ = some (.int .i64 y0) ∧ w'.cell? ⟨B8, 1, none⟩ = some (.int .i64 y1) ∧ B7 < w'.heap.size ∧ B8 < w'.heap.size) ∧
  w'.cell? ⟨w.heap.size, 0, none⟩ = some (.int .i64 a) ∧ w'.cell? ⟨w.heap.size, 1, none⟩ = some (.int .i64 b) ∧ w'.cell? ⟨w.heap.size + 1, 0, none⟩ = some (.int .i64 c) ∧ w'.cell? ⟨w.heap.size + 1, 1, none⟩ = some (.int .i64 d) ∧ w.heap.size + 2 ≤ w'.heap.size ∧ Tab w' ∧ Below w.heap.size w w'
theorem Kq.later {w : World} {a b c d : Int} {B7 : Nat} {x0 x1 : Int} {B8 : Nat} {y0 y1 : Int} {w1 w2 : World} (h : Kq w a b c d B7 x0 x1 B8 y0 y1 w1) (hb : Below w1.heap.size w1 w2) : Kq w a b c d B7 x0 x1 B8 y0 y1 w2 := by
  obtain ⟨⟨h1, h2, h3, h4, h5, h6⟩, hk⟩ := h
  have hs := hb.size
  exact ⟨⟨(hb.cell (p := ⟨B7, 0, none⟩) h5).trans h1, (hb.cell (p := ⟨B7, 1, none⟩) h5).trans h2, (hb.cell (p := ⟨B8, 0, none⟩) h6).trans h3, (hb.cell (p := ⟨B8, 1, none⟩) h6).trans h4, by omega, by omega⟩, Kp.later hk hb⟩

set_option maxRecDepth 1000000 in
set_option maxHeartbeats 40000000 in
theorem places_yes (a b c d p : Int) (ha : rightB a b = true) (hc : rightB c d = true) (w : World) (ht : Tab w) :
    Calls Tryd.prog 13 #[numV a b, numV c d, .int .i64 p] w fun r w' => r = .returned (.bool true) ∧ Below w.heap.size w w' := by
  have AW : Hid (∀ w1, Tab w1 → Calls Tryd.prog 14 #[] w1 fun r w' => r = .returned (.bool true) ∧ Below w1.heap.size w1 w') := fun w1 h => awake_any w1 h
  have Q1 : Hid (∀ w1, Calls Tryd.prog 18 #[.agg #[.int .i64 a, .int .i64 b]] w1 fun r w' => r = .returned (.bool true) ∧ Below w1.heap.size w1 w') := by
    intro w1; have := rright_any a b w1; rw [ha] at this; exact this
  have Q2 : Hid (∀ w1, Calls Tryd.prog 18 #[.agg #[.int .i64 c, .int .i64 d]] w1 fun r w' => r = .returned (.bool true) ∧ Below w1.heap.size w1 w') := by
    intro w1; have := rright_any c d w1; rw [hc] at this; exact this
  have hx := roundP_right ha p
  have hy := roundP_right hc p
  have hx2 := roundP_again ha p
  have hy2 := roundP_again hc p
  have hm1 := fun h => roundP_mono ha hc p h
  have hm2 := fun h => roundP_mono hc ha p h
  have F1 : Hid (∀ w1, Tab w1 → Calls Tryd.prog 35 #[.agg #[.int .i64 a, .int .i64 b], .int .i64 p] w1 fun r w' => r = .returned (.agg #[.int .i64 (roundP a b p).1, .int .i64 (roundP a b p).2]) ∧ Below w1.heap.size w1 w') := fun w1 h => rnd_any a b p ha w1 h
  have F2 : Hid (∀ w1, Tab w1 → Calls Tryd.prog 35 #[.agg #[.int .i64 c, .int .i64 d], .int .i64 p] w1 fun r w' => r = .returned (.agg #[.int .i64 (roundP c d p).1, .int .i64 (roundP c d p).2]) ∧ Below w1.heap.size w1 w') := fun w1 h => rnd_any c d p hc w1 h
  have F3 : Hid (∀ w1, Tab w1 → Calls Tryd.prog 35 #[.agg #[.int .i64 (roundP a b p).1, .int .i64 (roundP a b p).2], .int .i64 p] w1 fun r w' => r = .returned (.agg #[.int .i64 (roundP a b p).1, .int .i64 (roundP a b p).2]) ∧ Below w1.heap.size w1 w') := by
    intro w1 h; have := rnd_any _ _ p hx w1 h; rw [hx2] at this; exact this
  have F4 : Hid (∀ w1, Tab w1 → Calls Tryd.prog 35 #[.agg #[.int .i64 (roundP c d p).1, .int .i64 (roundP c d p).2], .int .i64 p] w1 fun r w' => r = .returned (.agg #[.int .i64 (roundP c d p).1, .int .i64 (roundP c d p).2]) ∧ Below w1.heap.size w1 w') := by
    intro w1 h; have := rnd_any _ _ p hy w1 h; rw [hy2] at this; exact this
  have C1 : Hid (∀ w1, Tab w1 → Calls Tryd.prog 25 #[.agg #[.int .i64 a, .int .i64 b], .agg #[.int .i64 c, .int .i64 d]] w1 fun r w' => r = .returned (.int .i64 (cmpI (vI a b) (vI c d))) ∧ Below w1.heap.size w1 w') := fun w1 h => cmp_any a b c d ha hc w1 h
  have C2 : Hid (∀ w1, Tab w1 → Calls Tryd.prog 25 #[.agg #[.int .i64 (roundP a b p).1, .int .i64 (roundP a b p).2], .agg #[.int .i64 (roundP c d p).1, .int .i64 (roundP c d p).2]] w1 fun r w' => r = .returned (.int .i64 (cmpI (vI (roundP a b p).1 (roundP a b p).2) (vI (roundP c d p).1 (roundP c d p).2))) ∧ Below w1.heap.size w1 w') := fun w1 h => cmp_any _ _ _ _ hx hy w1 h
  have C3 : Hid (∀ w1, Tab w1 → Calls Tryd.prog 25 #[.agg #[.int .i64 (roundP c d p).1, .int .i64 (roundP c d p).2], .agg #[.int .i64 (roundP a b p).1, .int .i64 (roundP a b p).2]] w1 fun r w' => r = .returned (.int .i64 (cmpI (vI (roundP c d p).1 (roundP c d p).2) (vI (roundP a b p).1 (roundP a b p).2))) ∧ Below w1.heap.size w1 w') := fun w1 h => cmp_any _ _ _ _ hy hx w1 h
  have cle : ∀ u v : Int, cmpI u v ≤ 0 ↔ u ≤ v := by
    intro u v; unfold cmpI
    by_cases h1 : u < v
    · rw [if_pos h1]; omega
    · rw [if_neg h1]; by_cases h2 : u = v
      · rw [if_pos h2]; omega
      · rw [if_neg h2]; omega
  have HC1 : Hid (cmpI (vI a b) (vI c d) ≤ 0 → cmpI (vI (roundP a b p).1 (roundP a b p).2) (vI (roundP c d p).1 (roundP c d p).2) ≤ 0) := fun h => (cle _ _).2 (hm1 ((cle _ _).1 h))
  have HC2 : Hid (¬ cmpI (vI a b) (vI c d) ≤ 0 → cmpI (vI (roundP c d p).1 (roundP c d p).2) (vI (roundP a b p).1 (roundP a b p).2) ≤ 0) := fun h => (cle _ _).2 (hm2 (by
    have h3 : ¬ vI a b ≤ vI c d := fun h2 => h ((cle _ _).2 h2)
    omega))
  obtain ⟨⟨x0, x1⟩, hX⟩ : ∃ t, t = roundP a b p := ⟨_, rfl⟩
  obtain ⟨⟨y0, y1⟩, hY⟩ : ∃ t, t = roundP c d p := ⟨_, rfl⟩
  rw [← hX] at F1 F3 C2 C3 HC1 HC2
  rw [← hY] at F2 F4 C2 C3 HC1 HC2
  simp only at F1 F2 F3 F4 C2 C3 HC1 HC2
  obtain ⟨k1, hk1⟩ : ∃ t, t = cmpI (vI a b) (vI c d) := ⟨_, rfl⟩
  obtain ⟨k2, hk2⟩ : ∃ t, t = cmpI (vI x0 x1) (vI y0 y1) := ⟨_, rfl⟩
  obtain ⟨k3, hk3⟩ : ∃ t, t = cmpI (vI y0 y1) (vI x0 x1) := ⟨_, rfl⟩
  rw [← hk1] at C1 HC1 HC2
  rw [← hk2] at C2 HC1
  rw [← hk3] at C3 HC2
  have H0 := Lib.hid (Kp.first w a b c d ht)
  have hT1 : 1 < w.heap.size := var_lt gPow ht
  clear ha hc hx hy hx2 hy2 hm1 hm2 cle hX hY hk1 hk2 hk3 ht
  unfold numV
  go_enter Tryd.func13, Tryd.ntmps13
  go_wp2_with fail
  refine (AW.out _ H0.out.2.2.2.2.2.1).mono ?_
  rintro e w1 ⟨rfl, hb1⟩
  have K1 := H0.out.later hb1
  clear hb1 AW
  obtain ⟨p0, p1, p2, p3, _⟩ := id K1
  go_wp2_with fail
  refine (Q1.out _).mono ?_
  rintro e w2 ⟨rfl, hb2⟩
  have K2 := K1.later hb2
  clear hb2 p0 p1 p2 p3 K1 Q1
  obtain ⟨p0, p1, p2, p3, _⟩ := id K2
  go_wp2_with fail
  refine (Q2.out _).mono ?_
  rintro e w3 ⟨rfl, hb3⟩
  have K3 := K2.later hb3
  clear hb3 p0 p1 p2 p3 K2 Q2
  obtain ⟨p0, p1, p2, p3, g3, _⟩ := id K3
  have g3' := Nat.le_succ_of_le g3
  go_wp2_with fail
  refine Code.wp_mono (Q := fun e A W => e = .normal ∧ ∃ B7 B8 : Nat, A = { tmps := #[.agg #[.int .i64 a, .int .i64 b], .agg #[.int .i64 c, .int .i64 d], .int .i64 p, .pointer (some ⟨w.heap.size, 0, none⟩), .pointer (some ⟨w.heap.size + 1, 0, none⟩), undef, .bool false, .pointer (some ⟨B7, 0, none⟩), .pointer (some ⟨B8, 0, none⟩), .bool true, .bool false, .agg #[.int .i64 a, .int .i64 b], .bool true, .bool false, .bool false, .agg #[.int .i64 c, .int .i64 d], .bool true, .bool false, .bool false, .agg #[.int .i64 a, .int .i64 b], .int .i64 p, .agg #[.int .i64 x0, .int .i64 x1], .agg #[.int .i64 c, .int .i64 d], .int .i64 p, .agg #[.int .i64 y0, .int .i64 y1], undef, undef, undef, undef, undef, undef, undef, undef, undef, undef, undef, undef, undef, undef, undef, undef, undef, undef, undef, undef, undef, undef, undef, undef], defers := [] } ∧ Slot W B7 x0 x1 ∧ Slot W B8 y0 y1 ∧ Kp w a b c d W) ?_ ?_
  · rintro e A W ⟨rfl, B7, B8, rfl, s7, s8, K6⟩
    clear p0 p1 p2 p3 K3 F1 F2 g3 g3'
    have Q6 : Kq w a b c d B7 x0 x1 B8 y0 y1 W := ⟨⟨s7.c0, s7.c1, s8.c0, s8.c1, s7.size, s8.size⟩, K6⟩
    obtain ⟨⟨m0, m1, n0, n1, _⟩, p0, p1, p2, p3, _⟩ := id Q6
    clear s7 s8 K6
    go_wp2_with fail
    go_region_held3 (fun w' => (w'.cell? ⟨B7, 0, none⟩ = some (.int .i64 x0) ∧ w'.cell? ⟨B7, 1, none⟩ = some (.int .i64 x1) ∧ w'.cell? ⟨B8, 0, none⟩ = some (.int .i64 y0) ∧ w'.cell? ⟨B8, 1, none⟩ = some (.int .i64 y1) ∧ B7 < w'.heap.size ∧ B8 < w'.heap.size) ∧
      w'.cell? ⟨w.heap.size, 0, none⟩ = some (.int .i64 a) ∧ w'.cell? ⟨w.heap.size, 1, none⟩ = some (.int .i64 b) ∧ w'.cell? ⟨w.heap.size + 1, 0, none⟩ = some (.int .i64 c) ∧ w'.cell? ⟨w.heap.size + 1, 1, none⟩ = some (.int .i64 d) ∧ w.heap.size + 2 ≤ w'.heap.size ∧ Tab w' ∧ Below w.heap.size w w')
      ((show Kq w a b c d B7 x0 x1 B8 y0 y1 _; with_reducible first | exact Q6.later (below_dr _) | exact Q9.out))
      (first
        | (go_at_call_of 35 (Value.agg #[.int .i64 x0, .int .i64 x1]); refine (F3.out _ (show Kq w a b c d B7 x0 x1 B8 y0 y1 _ by assumption).2.2.2.2.2.2.1).mono ?_; rintro e w9 ⟨rfl, hb9⟩; have Q9 := Lib.hid (Kq.later (show Kq w a b c d B7 x0 x1 B8 y0 y1 _ by assumption) hb9))
        | (go_at_call_of 35 (Value.agg #[.int .i64 y0, .int .i64 y1]); refine (F4.out _ (show Kq w a b c d B7 x0 x1 B8 y0 y1 _ by assumption).2.2.2.2.2.2.1).mono ?_; rintro e w9 ⟨rfl, hb9⟩; have Q9 := Lib.hid (Kq.later (show Kq w a b c d B7 x0 x1 B8 y0 y1 _ by assumption) hb9)))
    have Q9 : Kq w a b c d B7 x0 x1 B8 y0 y1 w9 := by assumption
    clear hb9 Q6 m0 m1 n0 n1 p0 p1 p2 p3 F3 F4
    obtain ⟨⟨m0, m1, n0, n1, _⟩, p0, p1, p2, p3, _⟩ := id Q9
    go_wp2_with fail
    refine (C1.out _ Q9.2.2.2.2.2.2.1).mono ?_
    rintro e w10 ⟨rfl, hb10⟩
    have Q10 := Q9.later hb10
    clear hb10 Q9 m0 m1 n0 n1 p0 p1 p2 p3
    obtain ⟨⟨m0, m1, n0, n1, _⟩, p0, p1, p2, p3, _⟩ := id Q10
    by_cases hk : k1 ≤ 0
    · have h2 := HC1.out hk
      clear HC1 HC2
      go_wp2_with fail
      refine (C2.out _ Q10.2.2.2.2.2.2.1).mono ?_
      rintro e w11 ⟨rfl, hb11⟩
      have Q11 := Q10.later hb11
      clear hb11 Q10 m0 m1 n0 n1 p0 p1 p2 p3
      go_wp2
      go_ret
      exact ⟨rfl, Q11.2.2.2.2.2.2.2⟩
    · have h2 := HC2.out (by omega)
      clear HC1 HC2
      go_wp2_with fail
      refine (C3.out _ Q10.2.2.2.2.2.2.1).mono ?_
      rintro e w11 ⟨rfl, hb11⟩
      have Q11 := Q10.later hb11
      clear hb11 Q10 m0 m1 n0 n1 p0 p1 p2 p3
      go_wp2
      go_ret
      exact ⟨rfl, Q11.2.2.2.2.2.2.2⟩
  · go_region_held3 (fun w' => w'.cell? ⟨w.heap.size, 0, none⟩ = some (.int .i64 a) ∧ w'.cell? ⟨w.heap.size, 1, none⟩ = some (.int .i64 b) ∧ w'.cell? ⟨w.heap.size + 1, 0, none⟩ = some (.int .i64 c) ∧ w'.cell? ⟨w.heap.size + 1, 1, none⟩ = some (.int .i64 d) ∧ w.heap.size + 2 ≤ w'.heap.size ∧ Tab w' ∧ Below w.heap.size w w')
      ((show Kp w a b c d _; with_reducible first | exact K5.out | exact K5.out.later (alloc_below _ _) | exact (K5.out.later (alloc_below _ _)).later (alloc_below _ _) | exact K3.later (below_dr _) | exact (K3.later (below_dr _)).later (alloc_below _ _) | exact ((K3.later (below_dr _)).later (alloc_below _ _)).later (alloc_below _ _) | exact (K5.out.stored hT1 (by assumption) _ _).later (alloc_below _ _) | exact K5.out.stored hT1 (by assumption) _ _ | exact (K5.out.stored hT1 (by assumption) _ _).stored hT1 (by assumption) _ _ | exact (K5.out.later (alloc_below _ _)).stored hT1 (by assumption) _ _ | exact ((K5.out.stored hT1 (by assumption) _ _).later (alloc_below _ _)).stored hT1 (by assumption) _ _))
      (first
        | (go_at_call_of 35 (Value.agg #[.int .i64 a, .int .i64 b]); refine (F1.out _ (show Kp w a b c d _ by assumption).2.2.2.2.2.1).mono ?_; rintro e w5 ⟨rfl, hb5⟩; have K5 := Lib.hid (Kp.later (show Kp w a b c d _ by assumption) hb5); have g5 := K5.out.2.2.2.2.1; have g5' := Nat.le_succ_of_le g5;
            (try (have h2 := two_new_dr hb5; have z2 := Lib.hid h2.1; have z3 := Lib.hid h2.2; obtain ⟨i0, i1, i2, i3⟩ := slot_ne h2.1; obtain ⟨j0, j1, j2, j3⟩ := slot_ne h2.2; obtain ⟨z8, z9⟩ := h2; obtain ⟨n0, n1, n2, n3⟩ := id z8; obtain ⟨n4, n5, n6, n7⟩ := id z9)); (try (have h2 := one_new_dr hb5; have z1 := Lib.hid h2; obtain ⟨o0, o1, o2, o3⟩ := slot_ne h2; obtain ⟨m0, m1, m2, m3⟩ := id h2)))
        | (go_at_call_of 35 (Value.agg #[.int .i64 c, .int .i64 d]); refine (F2.out _ (show Kp w a b c d _ by assumption).2.2.2.2.2.1).mono ?_; rintro e w6 ⟨rfl, hb6⟩; have K5 := Lib.hid (Kp.later (show Kp w a b c d _ by assumption) hb6); have g6 := K5.out.2.2.2.2.1; have g6' := Nat.le_succ_of_le g6;
            (try (have h2 := z1.out.carry0 hb6; obtain ⟨i0, i1, i2, i3⟩ := slot_ne h2; obtain ⟨n0, n1, n2, n3⟩ := id h2)); (try (have h2 := z1.out.carry1 hb6; obtain ⟨i0, i1, i2, i3⟩ := slot_ne h2; obtain ⟨n0, n1, n2, n3⟩ := id h2)); (try (have h2 := z2.out.carry0 hb6; obtain ⟨i0, i1, i2, i3⟩ := slot_ne h2; obtain ⟨n0, n1, n2, n3⟩ := id h2)); (try (have h2 := z2.out.carry1 hb6; obtain ⟨i0, i1, i2, i3⟩ := slot_ne h2; obtain ⟨n0, n1, n2, n3⟩ := id h2)); (try (have h2 := z3.out.carry0 hb6; obtain ⟨i0, i1, i2, i3⟩ := slot_ne h2; obtain ⟨n0, n1, n2, n3⟩ := id h2)); (try (have h2 := z3.out.carry1 hb6; obtain ⟨i0, i1, i2, i3⟩ := slot_ne h2; obtain ⟨n0, n1, n2, n3⟩ := id h2)); (try (have h2 := two_new hb6; obtain ⟨i0, i1, i2, i3⟩ := slot_ne h2.1; obtain ⟨j0, j1, j2, j3⟩ := slot_ne h2.2; obtain ⟨z8, z9⟩ := h2; obtain ⟨n0, n1, n2, n3⟩ := id z8; obtain ⟨n4, n5, n6, n7⟩ := id z9)); (try (have h2 := one_new hb6; obtain ⟨o0, o1, o2, o3⟩ := slot_ne h2; obtain ⟨m0, m1, m2, m3⟩ := id h2))))
    all_goals refine ⟨rfl, _, _, rfl, ?_, ?_, ?_⟩
    all_goals first
      | (with_reducible first | exact slotA1 _ _ _ _ _ | exact slotA2 _ _ _ _ _ | exact slotB2 _ _ _ _ _ _ | exact slotB1 (by assumption) _ _ _ | exact slotC1 (by assumption) (by omega) _ _ _ _ | exact slotC2 (by assumption) (by omega) _ _ _ _)
      | (with_reducible first | exact K5.out | exact K5.out.later (alloc_below _ _) | exact (K5.out.later (alloc_below _ _)).later (alloc_below _ _) | exact K3.later (below_dr _) | exact (K3.later (below_dr _)).later (alloc_below _ _) | exact ((K3.later (below_dr _)).later (alloc_below _ _)).later (alloc_below _ _) | exact (K5.out.stored hT1 (by assumption) _ _).later (alloc_below _ _) | exact K5.out.stored hT1 (by assumption) _ _ | exact (K5.out.stored hT1 (by assumption) _ _).stored hT1 (by assumption) _ _ | exact (K5.out.later (alloc_below _ _)).stored hT1 (by assumption) _ _ | exact ((K5.out.stored hT1 (by assumption) _ _).later (alloc_below _ _)).stored hT1 (by assumption) _ _)
set_option maxHeartbeats 1000000 in
theorem places_no1 (a b c d p : Int) (ha : rightB a b = false) (w : World) (ht : Tab w) :
    Calls Tryd.prog 13 #[numV a b, numV c d, .int .i64 p] w fun r w' => r = .returned (.bool true) ∧ Below w.heap.size w w' := by
  have AW : Hid (∀ w1, Tab w1 → Calls Tryd.prog 14 #[] w1 fun r w' => r = .returned (.bool true) ∧ Below w1.heap.size w1 w') := fun w1 h => awake_any w1 h
  have Q1 : Hid (∀ w1, Calls Tryd.prog 18 #[.agg #[.int .i64 a, .int .i64 b]] w1 fun r w' => r = .returned (.bool false) ∧ Below w1.heap.size w1 w') := by
    intro w1; have := rright_any a b w1; rw [ha] at this; exact this
  have H0 := Lib.hid (Kp.first w a b c d ht)
  clear ha ht
  unfold numV
  go_enter Tryd.func13, Tryd.ntmps13
  go_wp2_with fail
  refine (AW.out _ H0.out.2.2.2.2.2.1).mono ?_
  rintro e w1 ⟨rfl, hb1⟩
  have K1 := H0.out.later hb1
  clear hb1 AW
  obtain ⟨p0, p1, p2, p3, _⟩ := id K1
  go_wp2_with fail
  refine (Q1.out _).mono ?_
  rintro e w2 ⟨rfl, hb2⟩
  have K2 := K1.later hb2
  clear hb2 p0 p1 p2 p3 K1 Q1
  go_wp2
  go_ret
  exact ⟨rfl, K2.2.2.2.2.2.2⟩
set_option maxHeartbeats 1000000 in
theorem places_no2 (a b c d p : Int) (ha : rightB a b = true) (hc : rightB c d = false) (w : World) (ht : Tab w) :
    Calls Tryd.prog 13 #[numV a b, numV c d, .int .i64 p] w fun r w' => r = .returned (.bool true) ∧ Below w.heap.size w w' := by
  have AW : Hid (∀ w1, Tab w1 → Calls Tryd.prog 14 #[] w1 fun r w' => r = .returned (.bool true) ∧ Below w1.heap.size w1 w') := fun w1 h => awake_any w1 h
  have Q1 : Hid (∀ w1, Calls Tryd.prog 18 #[.agg #[.int .i64 a, .int .i64 b]] w1 fun r w' => r = .returned (.bool true) ∧ Below w1.heap.size w1 w') := by
    intro w1; have := rright_any a b w1; rw [ha] at this; exact this
  have Q2 : Hid (∀ w1, Calls Tryd.prog 18 #[.agg #[.int .i64 c, .int .i64 d]] w1 fun r w' => r = .returned (.bool false) ∧ Below w1.heap.size w1 w') := by
    intro w1; have := rright_any c d w1; rw [hc] at this; exact this
  have H0 := Lib.hid (Kp.first w a b c d ht)
  clear ha ht hc
  unfold numV
  go_enter Tryd.func13, Tryd.ntmps13
  go_wp2_with fail
  refine (AW.out _ H0.out.2.2.2.2.2.1).mono ?_
  rintro e w1 ⟨rfl, hb1⟩
  have K1 := H0.out.later hb1
  clear hb1 AW
  obtain ⟨p0, p1, p2, p3, _⟩ := id K1
  go_wp2_with fail
  refine (Q1.out _).mono ?_
  rintro e w2 ⟨rfl, hb2⟩
  have K2 := K1.later hb2
  clear hb2 p0 p1 p2 p3 K1 Q1
  obtain ⟨p0, p1, p2, p3, _⟩ := id K2
  go_wp2_with fail
  refine (Q2.out _).mono ?_
  rintro e w3 ⟨rfl, hb3⟩
  have K3 := K2.later hb3
  clear hb3 p0 p1 p2 p3 K2 Q2
  go_wp2
  go_ret
  exact ⟨rfl, K3.2.2.2.2.2.2⟩
/-- the law, of every two numbers and every place -/
theorem places_any (a b c d p : Int) (w : World) (ht : Tab w) :
    Calls Tryd.prog 13 #[numV a b, numV c d, .int .i64 p] w fun r w' => r = .returned (.bool true) ∧ Below w.heap.size w w' := by
  cases ha : rightB a b with
  | false => exact places_no1 a b c d p ha w ht
  | true =>
    cases hc : rightB c d with
    | false => exact places_no2 a b c d p ha hc w ht
    | true => exact places_yes a b c d p ha hc w ht
end Go.Proofs.YtkdjdoncmihkfaaDoor
