/- The law NumPowers, of every number and every exponent. -/
import Derived.Test.YtkdjdoncmihkfaaDoorPc
import Derived.Test.YtkdjdoncmihkfaaDoorLaw
namespace Go.Proofs.YtkdjdoncmihkfaaDoor
open Go.RowKit

/-- what the walk holds: a number's cells, and the table -/
def Kq6 (w : World) (a b : Int) (w' : World) : Prop :=
  (w'.cell? ⟨w.heap.size, 0, none⟩ = some (.int .i64 a) ∧ w'.cell? ⟨w.heap.size, 1, none⟩ = some (.int .i64 b) ∧ w.heap.size < w'.heap.size) ∧ Tab w' ∧ Below w.heap.size w w'
theorem Kq6.later {w : World} {a b : Int} {w1 w2 : World} (h : Kq6 w a b w1) (hb : Below w1.heap.size w1 w2) : Kq6 w a b w2 := by
  obtain ⟨h1, h3, h4⟩ := h
  exact ⟨C2.later h1 hb, h3.below hb, h4.trans (hb.mono h4.size)⟩
theorem Kq6.first (w : World) (a b : Int) (ht : Tab w) : Kq6 w a b (w.alloc (.cells #[.int .i64 a, .int .i64 b] 24)) := ⟨C2.new w a b, ht.below (alloc_below _ _), alloc_below _ _⟩
theorem powP_right (a b n : Int) : rightB (powP a b n).1 (powP a b n).2.1 = true := by
  unfold powP
  split
  · split
    · exact powG_right _ _ _
    · split
      · exact divF_right _ _ _ _
      · rfl
  · rfl
theorem powP_next {a b n : Int} (h0 : 0 ≤ n) (h1 : n < 60) (hok : (powP a b n).2.2 = true) : powP a b (n + 1) = mulX (powP a b n).1 (powP a b n).2.1 a b := by
  have hr := powP_right a b n
  by_cases ha : rightB a b = true
  · have e1 : powP a b n = powG a b n.toNat := by unfold powP; rw [if_pos ⟨ha, by omega, by omega⟩, if_pos h0]
    have e2 : powP a b (n + 1) = powG a b (n.toNat + 1) := by unfold powP; rw [if_pos ⟨ha, by omega, by omega⟩, if_pos (by omega), show (n + 1).toNat = n.toNat + 1 by omega]
    rw [e1] at hok hr
    rw [e2, e1, powG, if_pos hok]
    unfold mulX
    rw [hr, ha]; rfl
  · exfalso
    unfold powP at hok
    rw [if_neg (fun h => ha h.1)] at hok
    simp at hok
set_option maxRecDepth 1000000 in
set_option maxHeartbeats 8000000 in
theorem powers_over (a b n : Int) (_hw : Wf a b) (h1 : 60 < n) (h2 : n ≤ 1000) (h3 : -1000 ≤ n) (w : World) (ht : Tab w) :
    Calls Tryd.prog 6 #[numV a b, .int .i64 n] w fun r w' => r = .returned (.bool true) ∧ Below w.heap.size w w' := by
  have HAW : Hid (∀ w1, Tab w1 → Calls Tryd.prog 14 #[] w1 fun r w' => r = .returned (.bool true) ∧ Below w1.heap.size w1 w') := fun w1 h => awake_any w1 h
  have K0 := Kq6.first w a b ht
  clear _hw ht 
  unfold numV
  go_enter Tryd.func6, Tryd.ntmps6
  go_wp2_with fail
  refine (HAW.out _ K0.2.1).mono ?_
  rintro e w1 ⟨rfl, hb1⟩
  have K1 := K0.later hb1
  clear hb1 HAW K0
  obtain ⟨⟨p0, p1, _⟩, _⟩ := id K1
  have hfin := K1.2.2
  clear K1
  go_wp2
  go_ret
  exact ⟨rfl, hfin⟩
set_option maxRecDepth 1000000 in
set_option maxHeartbeats 8000000 in
theorem powers_under (a b n : Int) (_hw : Wf a b) (h0 : ¬ 60 < n) (h1 : n < -60) (h2 : n ≤ 1000) (h3 : -1000 ≤ n) (w : World) (ht : Tab w) :
    Calls Tryd.prog 6 #[numV a b, .int .i64 n] w fun r w' => r = .returned (.bool true) ∧ Below w.heap.size w w' := by
  have HAW : Hid (∀ w1, Tab w1 → Calls Tryd.prog 14 #[] w1 fun r w' => r = .returned (.bool true) ∧ Below w1.heap.size w1 w') := fun w1 h => awake_any w1 h
  have K0 := Kq6.first w a b ht
  clear _hw ht 
  unfold numV
  go_enter Tryd.func6, Tryd.ntmps6
  go_wp2_with fail
  refine (HAW.out _ K0.2.1).mono ?_
  rintro e w1 ⟨rfl, hb1⟩
  have K1 := K0.later hb1
  clear hb1 HAW K0
  obtain ⟨⟨p0, p1, _⟩, _⟩ := id K1
  have hfin := K1.2.2
  clear K1
  go_wp2
  go_ret
  exact ⟨rfl, hfin⟩
set_option maxRecDepth 1000000 in
set_option maxHeartbeats 8000000 in
theorem powers_far (a b n : Int) (hw : Wf a b) (h1 : 60 < n) (h2 : ¬ n ≤ 1000) (h4 : ¬ n < 0) (h5 : 60 ≤ n) (w : World) (ht : Tab w) :
    Calls Tryd.prog 6 #[numV a b, .int .i64 n] w fun r w' => r = .returned (.bool true) ∧ Below w.heap.size w w' := by
  have HAW : Hid (∀ w1, Tab w1 → Calls Tryd.prog 14 #[] w1 fun r w' => r = .returned (.bool true) ∧ Below w1.heap.size w1 w') := fun w1 h => awake_any w1 h
  have K0 := Kq6.first w a b ht
  obtain ⟨⟨x, y, ok⟩, hP⟩ : ∃ r, r = powP a b n := ⟨_, rfl⟩
  have P1 : Hid (∀ w1, Tab w1 → Calls Tryd.prog 31 #[.agg #[.int .i64 a, .int .i64 b], .int .i64 n] w1 fun e w' => e = .returned (.tuple #[.agg #[.int .i64 x, .int .i64 y], .bool ok]) ∧ Below w1.heap.size w1 w') := fun w1 h => by
    have := powX_any a b n hw w1 h; rw [← hP] at this; exact this
  have P2 : Hid (∀ w1, Tab w1 → Calls Tryd.prog 32 #[.agg #[.int .i64 a, .int .i64 b], .int .i64 n] w1 fun e w' => e = .returned (.tuple #[.agg #[.int .i64 x, .int .i64 y], .bool ok]) ∧ Below w1.heap.size w1 w') := fun w1 h => by
    have := rpowX_any a b n w1 h; rw [← hP] at this; exact this
  clear hw ht hP
  unfold numV
  go_enter Tryd.func6, Tryd.ntmps6
  go_wp2_with fail
  refine (HAW.out _ K0.2.1).mono ?_
  rintro e w1 ⟨rfl, hb1⟩
  have K1 := K0.later hb1
  clear hb1 HAW K0
  obtain ⟨⟨p0, p1, _⟩, _⟩ := id K1
  go_wp2_with fail
  refine (P1.out _ K1.2.1).mono ?_
  rintro e w2 ⟨rfl, hb⟩
  have al := alloc_below w2 (.cells #[.int .i64 x, .int .i64 y] 24)
  have K2 := (K1.later hb).later al
  have X2 := C2.new w2 x y
  clear hb al K1 P1 p0 p1
  obtain ⟨⟨p0, p1, _⟩, _⟩ := id K2
  go_wp2_with fail
  refine (P2.out _ K2.2.1).mono ?_
  rintro e w3 ⟨rfl, hb⟩
  have al := alloc_below w3 (.cells #[.int .i64 x, .int .i64 y] 24)
  have K3 := (K2.later hb).later al
  have X3 := (X2.later hb).later al
  have Y3 := C2.new w3 x y
  clear hb al K2 P2 p0 p1 X2
  obtain ⟨⟨p0, p1, _⟩, _⟩ := id K3
  obtain ⟨q0, q1, _⟩ := id X3
  obtain ⟨r0, r1, _⟩ := id Y3
  have hfin := K3.2.2
  clear K3 X3 Y3
  go_wp2
  go_ret
  exact ⟨rfl, hfin⟩
set_option maxRecDepth 1000000 in
set_option maxHeartbeats 8000000 in
theorem powers_deep (a b n : Int) (hw : Wf a b) (h0 : ¬ 60 < n) (h1 : n < -60) (h2 : n ≤ 1000) (h3 : ¬ -1000 ≤ n) (h4 : n < 0) (w : World) (ht : Tab w) :
    Calls Tryd.prog 6 #[numV a b, .int .i64 n] w fun r w' => r = .returned (.bool true) ∧ Below w.heap.size w w' := by
  have HAW : Hid (∀ w1, Tab w1 → Calls Tryd.prog 14 #[] w1 fun r w' => r = .returned (.bool true) ∧ Below w1.heap.size w1 w') := fun w1 h => awake_any w1 h
  have K0 := Kq6.first w a b ht
  obtain ⟨⟨x, y, ok⟩, hP⟩ : ∃ r, r = powP a b n := ⟨_, rfl⟩
  have P1 : Hid (∀ w1, Tab w1 → Calls Tryd.prog 31 #[.agg #[.int .i64 a, .int .i64 b], .int .i64 n] w1 fun e w' => e = .returned (.tuple #[.agg #[.int .i64 x, .int .i64 y], .bool ok]) ∧ Below w1.heap.size w1 w') := fun w1 h => by
    have := powX_any a b n hw w1 h; rw [← hP] at this; exact this
  have P2 : Hid (∀ w1, Tab w1 → Calls Tryd.prog 32 #[.agg #[.int .i64 a, .int .i64 b], .int .i64 n] w1 fun e w' => e = .returned (.tuple #[.agg #[.int .i64 x, .int .i64 y], .bool ok]) ∧ Below w1.heap.size w1 w') := fun w1 h => by
    have := rpowX_any a b n w1 h; rw [← hP] at this; exact this
  clear hw ht hP
  unfold numV
  go_enter Tryd.func6, Tryd.ntmps6
  go_wp2_with fail
  refine (HAW.out _ K0.2.1).mono ?_
  rintro e w1 ⟨rfl, hb1⟩
  have K1 := K0.later hb1
  clear hb1 HAW K0
  obtain ⟨⟨p0, p1, _⟩, _⟩ := id K1
  go_wp2_with fail
  refine (P1.out _ K1.2.1).mono ?_
  rintro e w2 ⟨rfl, hb⟩
  have al := alloc_below w2 (.cells #[.int .i64 x, .int .i64 y] 24)
  have K2 := (K1.later hb).later al
  have X2 := C2.new w2 x y
  clear hb al K1 P1 p0 p1
  obtain ⟨⟨p0, p1, _⟩, _⟩ := id K2
  go_wp2_with fail
  refine (P2.out _ K2.2.1).mono ?_
  rintro e w3 ⟨rfl, hb⟩
  have al := alloc_below w3 (.cells #[.int .i64 x, .int .i64 y] 24)
  have K3 := (K2.later hb).later al
  have X3 := (X2.later hb).later al
  have Y3 := C2.new w3 x y
  clear hb al K2 P2 p0 p1 X2
  obtain ⟨⟨p0, p1, _⟩, _⟩ := id K3
  obtain ⟨q0, q1, _⟩ := id X3
  obtain ⟨r0, r1, _⟩ := id Y3
  have hfin := K3.2.2
  clear K3 X3 Y3
  go_wp2
  go_ret
  exact ⟨rfl, hfin⟩
set_option maxRecDepth 1000000 in
set_option maxHeartbeats 8000000 in
theorem powers_neg (a b n : Int) (hw : Wf a b) (h0 : ¬ 60 < n) (h1 : ¬ n < -60) (h4 : n < 0) (w : World) (ht : Tab w) :
    Calls Tryd.prog 6 #[numV a b, .int .i64 n] w fun r w' => r = .returned (.bool true) ∧ Below w.heap.size w w' := by
  have HAW : Hid (∀ w1, Tab w1 → Calls Tryd.prog 14 #[] w1 fun r w' => r = .returned (.bool true) ∧ Below w1.heap.size w1 w') := fun w1 h => awake_any w1 h
  have K0 := Kq6.first w a b ht
  obtain ⟨⟨x, y, ok⟩, hP⟩ : ∃ r, r = powP a b n := ⟨_, rfl⟩
  have P1 : Hid (∀ w1, Tab w1 → Calls Tryd.prog 31 #[.agg #[.int .i64 a, .int .i64 b], .int .i64 n] w1 fun e w' => e = .returned (.tuple #[.agg #[.int .i64 x, .int .i64 y], .bool ok]) ∧ Below w1.heap.size w1 w') := fun w1 h => by
    have := powX_any a b n hw w1 h; rw [← hP] at this; exact this
  have P2 : Hid (∀ w1, Tab w1 → Calls Tryd.prog 32 #[.agg #[.int .i64 a, .int .i64 b], .int .i64 n] w1 fun e w' => e = .returned (.tuple #[.agg #[.int .i64 x, .int .i64 y], .bool ok]) ∧ Below w1.heap.size w1 w') := fun w1 h => by
    have := rpowX_any a b n w1 h; rw [← hP] at this; exact this
  clear hw ht hP
  unfold numV
  go_enter Tryd.func6, Tryd.ntmps6
  go_wp2_with fail
  refine (HAW.out _ K0.2.1).mono ?_
  rintro e w1 ⟨rfl, hb1⟩
  have K1 := K0.later hb1
  clear hb1 HAW K0
  obtain ⟨⟨p0, p1, _⟩, _⟩ := id K1
  go_wp2_with fail
  refine (P1.out _ K1.2.1).mono ?_
  rintro e w2 ⟨rfl, hb⟩
  have al := alloc_below w2 (.cells #[.int .i64 x, .int .i64 y] 24)
  have K2 := (K1.later hb).later al
  have X2 := C2.new w2 x y
  clear hb al K1 P1 p0 p1
  obtain ⟨⟨p0, p1, _⟩, _⟩ := id K2
  go_wp2_with fail
  refine (P2.out _ K2.2.1).mono ?_
  rintro e w3 ⟨rfl, hb⟩
  have al := alloc_below w3 (.cells #[.int .i64 x, .int .i64 y] 24)
  have K3 := (K2.later hb).later al
  have X3 := (X2.later hb).later al
  have Y3 := C2.new w3 x y
  clear hb al K2 P2 p0 p1 X2
  obtain ⟨⟨p0, p1, _⟩, _⟩ := id K3
  obtain ⟨q0, q1, _⟩ := id X3
  obtain ⟨r0, r1, _⟩ := id Y3
  have hfin := K3.2.2
  clear K3 X3 Y3
  go_wp2
  go_ret
  exact ⟨rfl, hfin⟩
set_option maxRecDepth 1000000 in
set_option maxHeartbeats 8000000 in
theorem powers_top (a b n : Int) (hw : Wf a b) (h0 : ¬ 60 < n) (_h1 : ¬ n < -60) (h4 : ¬ n < 0) (h5 : 60 ≤ n) (w : World) (ht : Tab w) :
    Calls Tryd.prog 6 #[numV a b, .int .i64 n] w fun r w' => r = .returned (.bool true) ∧ Below w.heap.size w w' := by
  have HAW : Hid (∀ w1, Tab w1 → Calls Tryd.prog 14 #[] w1 fun r w' => r = .returned (.bool true) ∧ Below w1.heap.size w1 w') := fun w1 h => awake_any w1 h
  have K0 := Kq6.first w a b ht
  obtain ⟨⟨x, y, ok⟩, hP⟩ : ∃ r, r = powP a b n := ⟨_, rfl⟩
  have P1 : Hid (∀ w1, Tab w1 → Calls Tryd.prog 31 #[.agg #[.int .i64 a, .int .i64 b], .int .i64 n] w1 fun e w' => e = .returned (.tuple #[.agg #[.int .i64 x, .int .i64 y], .bool ok]) ∧ Below w1.heap.size w1 w') := fun w1 h => by
    have := powX_any a b n hw w1 h; rw [← hP] at this; exact this
  have P2 : Hid (∀ w1, Tab w1 → Calls Tryd.prog 32 #[.agg #[.int .i64 a, .int .i64 b], .int .i64 n] w1 fun e w' => e = .returned (.tuple #[.agg #[.int .i64 x, .int .i64 y], .bool ok]) ∧ Below w1.heap.size w1 w') := fun w1 h => by
    have := rpowX_any a b n w1 h; rw [← hP] at this; exact this
  clear hw ht hP
  unfold numV
  go_enter Tryd.func6, Tryd.ntmps6
  go_wp2_with fail
  refine (HAW.out _ K0.2.1).mono ?_
  rintro e w1 ⟨rfl, hb1⟩
  have K1 := K0.later hb1
  clear hb1 HAW K0
  obtain ⟨⟨p0, p1, _⟩, _⟩ := id K1
  go_wp2_with fail
  refine (P1.out _ K1.2.1).mono ?_
  rintro e w2 ⟨rfl, hb⟩
  have al := alloc_below w2 (.cells #[.int .i64 x, .int .i64 y] 24)
  have K2 := (K1.later hb).later al
  have X2 := C2.new w2 x y
  clear hb al K1 P1 p0 p1
  obtain ⟨⟨p0, p1, _⟩, _⟩ := id K2
  go_wp2_with fail
  refine (P2.out _ K2.2.1).mono ?_
  rintro e w3 ⟨rfl, hb⟩
  have al := alloc_below w3 (.cells #[.int .i64 x, .int .i64 y] 24)
  have K3 := (K2.later hb).later al
  have X3 := (X2.later hb).later al
  have Y3 := C2.new w3 x y
  clear hb al K2 P2 p0 p1 X2
  obtain ⟨⟨p0, p1, _⟩, _⟩ := id K3
  obtain ⟨q0, q1, _⟩ := id X3
  obtain ⟨r0, r1, _⟩ := id Y3
  have hfin := K3.2.2
  clear K3 X3 Y3
  go_wp2
  go_ret
  exact ⟨rfl, hfin⟩
set_option maxRecDepth 1000000 in
set_option maxHeartbeats 8000000 in
theorem powers_mid (a b n : Int) (hw : Wf a b) (h0 : ¬ 60 < n) (h1 : ¬ n < -60) (hm0 : 0 ≤ n) (hm1 : n < 60) (_h4 : ¬ n < 0) (_h5 : ¬ 60 ≤ n) (w : World) (ht : Tab w) :
    Calls Tryd.prog 6 #[numV a b, .int .i64 n] w fun r w' => r = .returned (.bool true) ∧ Below w.heap.size w w' := by
  have HAW : Hid (∀ w1, Tab w1 → Calls Tryd.prog 14 #[] w1 fun r w' => r = .returned (.bool true) ∧ Below w1.heap.size w1 w') := fun w1 h => awake_any w1 h
  have K0 := Kq6.first w a b ht
  obtain ⟨⟨x, y, ok⟩, hP⟩ : ∃ r, r = powP a b n := ⟨_, rfl⟩
  have P1 : Hid (∀ w1, Tab w1 → Calls Tryd.prog 31 #[.agg #[.int .i64 a, .int .i64 b], .int .i64 n] w1 fun e w' => e = .returned (.tuple #[.agg #[.int .i64 x, .int .i64 y], .bool ok]) ∧ Below w1.heap.size w1 w') := fun w1 h => by
    have := powX_any a b n hw w1 h; rw [← hP] at this; exact this
  have P2 : Hid (∀ w1, Tab w1 → Calls Tryd.prog 32 #[.agg #[.int .i64 a, .int .i64 b], .int .i64 n] w1 fun e w' => e = .returned (.tuple #[.agg #[.int .i64 x, .int .i64 y], .bool ok]) ∧ Below w1.heap.size w1 w') := fun w1 h => by
    have := rpowX_any a b n w1 h; rw [← hP] at this; exact this
  have hpr := powP_right a b n
  rw [← hP] at hpr
  obtain ⟨⟨z0, z1, more⟩, hZ⟩ : ∃ r, r = powP a b (n + 1) := ⟨_, rfl⟩
  obtain ⟨⟨w0, w1', fine⟩, hW⟩ : ∃ r, r = mulX x y a b := ⟨_, rfl⟩
  have P3 : Hid (∀ w1, Tab w1 → Calls Tryd.prog 31 #[.agg #[.int .i64 a, .int .i64 b], .int .i64 (n + 1)] w1 fun e w' => e = .returned (.tuple #[.agg #[.int .i64 z0, .int .i64 z1], .bool more]) ∧ Below w1.heap.size w1 w') := fun w1 h => by
    have := powX_any a b (n + 1) hw w1 h; rw [← hZ] at this; exact this
  have P4 : Hid (∀ w1, Tab w1 → Calls Tryd.prog 27 #[.agg #[.int .i64 x, .int .i64 y], .agg #[.int .i64 a, .int .i64 b]] w1 fun e w' => e = .returned (.tuple #[.agg #[.int .i64 w0, .int .i64 w1'], .bool fine]) ∧ Below w1.heap.size w1 w') := fun w1 h => by
    have := mulX_any x y a b (wf_right hpr) hw w1 h; rw [← hW] at this; exact this
  have hnx : ok = true → (z0, z1, more) = (w0, w1', fine) := fun h => by
    have := powP_next (a := a) (b := b) hm0 hm1 (by rw [← hP]; exact h)
    rw [← hP] at this
    rw [hZ, hW]; exact this
  have HNX := Lib.hid hnx
  have hwr : IntKind.i64.wrap (n + 1) = n + 1 := by rw [IntKind.wrap_i64]; omega
  clear hw ht hP hpr hZ hW hnx
  unfold numV
  go_enter Tryd.func6, Tryd.ntmps6
  go_wp2_with fail
  refine (HAW.out _ K0.2.1).mono ?_
  rintro e w1 ⟨rfl, hb1⟩
  have K1 := K0.later hb1
  clear hb1 HAW K0
  obtain ⟨⟨p0, p1, _⟩, _⟩ := id K1
  go_wp2_with fail
  refine (P1.out _ K1.2.1).mono ?_
  rintro e w2 ⟨rfl, hb⟩
  have al := alloc_below w2 (.cells #[.int .i64 x, .int .i64 y] 24)
  have K2 := (K1.later hb).later al
  have X2 := C2.new w2 x y
  clear hb al K1 P1 p0 p1
  obtain ⟨⟨p0, p1, _⟩, _⟩ := id K2
  go_wp2_with fail
  refine (P2.out _ K2.2.1).mono ?_
  rintro e w3 ⟨rfl, hb⟩
  have al := alloc_below w3 (.cells #[.int .i64 x, .int .i64 y] 24)
  have K3 := (K2.later hb).later al
  have X3 := (X2.later hb).later al
  have Y3 := C2.new w3 x y
  clear hb al K2 P2 p0 p1 X2
  obtain ⟨⟨p0, p1, _⟩, _⟩ := id K3
  obtain ⟨q0, q1, _⟩ := id X3
  obtain ⟨r0, r1, _⟩ := id Y3
  go_wp2_with fail
  refine (P3.out _ K3.2.1).mono ?_
  rintro e w4 ⟨rfl, hb⟩
  have al := alloc_below w4 (.cells #[.int .i64 z0, .int .i64 z1] 24)
  have K4 := (K3.later hb).later al
  have X4 := (X3.later hb).later al
  have Z4 := C2.new w4 z0 z1
  clear hb al K3 P3 p0 p1 X3 Y3 q0 q1 r0 r1
  obtain ⟨⟨p0, p1, _⟩, _⟩ := id K4
  obtain ⟨q0, q1, _⟩ := id X4
  go_wp2_with fail
  refine (P4.out _ K4.2.1).mono ?_
  rintro e w5 ⟨rfl, hb⟩
  have al := alloc_below w5 (.cells #[.int .i64 w0, .int .i64 w1'] 24)
  have K5 := (K4.later hb).later al
  have Z5 := (Z4.later hb).later al
  have W5 := C2.new w5 w0 w1'
  clear hb al K4 P4 p0 p1 X4 Z4 q0 q1
  obtain ⟨z0c, z1c, _⟩ := id Z5
  obtain ⟨w0c, w1c, _⟩ := id W5
  have hfin := K5.2.2
  clear K5 Z5 W5
  cases ok with
  | false =>
    clear HNX
    go_wp2
    go_ret
    exact ⟨rfl, hfin⟩
  | true =>
    have h0 := HNX.out rfl
    simp only [Prod.mk.injEq] at h0
    obtain ⟨rfl, rfl, rfl⟩ := h0
    clear HNX
    go_wp2
    go_ret
    exact ⟨rfl, hfin⟩
/-- the law NumPowers -/
theorem powers_any (a b n : Int) (hw : Wf a b) (w : World) (ht : Tab w) :
    Calls Tryd.prog 6 #[numV a b, .int .i64 n] w fun r w' => r = .returned (.bool true) ∧ Below w.heap.size w w' := by
  by_cases h1 : 60 < n
  · by_cases h2 : n ≤ 1000
    · exact powers_over a b n hw h1 h2 (by omega) w ht
    · exact powers_far a b n hw h1 h2 (by omega) (by omega) w ht
  · by_cases h3 : n < -60
    · by_cases h4 : -1000 ≤ n
      · exact powers_under a b n hw h1 h3 (by omega) h4 w ht
      · exact powers_deep a b n hw h1 h3 (by omega) h4 (by omega) w ht
    · by_cases h4 : n < 0
      · exact powers_neg a b n hw h1 h3 h4 w ht
      · by_cases h5 : 60 ≤ n
        · exact powers_top a b n hw h1 h3 h4 h5 w ht
        · exact powers_mid a b n hw h1 h3 (by omega) (by omega) h4 h5 w ht
end Go.Proofs.YtkdjdoncmihkfaaDoor
