/- The law NumRounds, of every number and every place. -/
import Derived.Test.YtkdjdoncmihkfaaDoorFf
namespace Go.Proofs.YtkdjdoncmihkfaaDoor
open Go.RowKit

/-- what the walk holds: a number's cells, and the table -/
def Kq (w : World) (a b : Int) (w' : World) : Prop :=
  (w'.cell? ⟨w.heap.size, 0, none⟩ = some (.int .i64 a) ∧ w'.cell? ⟨w.heap.size, 1, none⟩ = some (.int .i64 b) ∧ w.heap.size < w'.heap.size) ∧ Tab w' ∧ Below w.heap.size w w'
theorem Kq.later {w : World} {a b : Int} {w1 w2 : World} (h : Kq w a b w1) (hb : Below w1.heap.size w1 w2) : Kq w a b w2 := by
  obtain ⟨h1, h3, h4⟩ := h
  exact ⟨C2.later h1 hb, h3.below hb, h4.trans (hb.mono h4.size)⟩
theorem Kq.first (w : World) (a b : Int) (ht : Tab w) : Kq w a b (w.alloc (.cells #[.int .i64 a, .int .i64 b] 24)) := ⟨C2.new w a b, ht.below (alloc_below _ _), alloc_below _ _⟩
set_option maxRecDepth 1000000 in
set_option maxHeartbeats 8000000 in
/-- the law NumRounds -/
theorem rounds_any (a b p : Int) (hw : Wf a b) (w : World) (ht : Tab w) :
    Calls Tryd.prog 7 #[numV a b, .int .i64 p] w fun r w' => r = .returned (.bool true) ∧ Below w.heap.size w w' := by
  have HAW : Hid (∀ w1, Tab w1 → Calls Tryd.prog 14 #[] w1 fun r w' => r = .returned (.bool true) ∧ Below w1.heap.size w1 w') := fun w1 h => awake_any w1 h
  obtain ⟨⟨n, ok⟩, hn⟩ : ∃ f, f = intP a b := ⟨_, rfl⟩
  have I1 : Hid (∀ w1, Calls Tryd.prog 33 #[.agg #[.int .i64 a, .int .i64 b]] w1 fun r w' => r = .returned (.tuple #[.int .i64 n, .bool ok]) ∧ Below w1.heap.size w1 w') := fun w1 => by
    have := int_any a b hw w1; rw [← hn] at this; exact this
  have I2 : Hid (∀ w1, Calls Tryd.prog 34 #[.agg #[.int .i64 a, .int .i64 b]] w1 fun r w' => r = .returned (.tuple #[.int .i64 n, .bool ok]) ∧ Below w1.heap.size w1 w') := fun w1 => by
    have := rint_any a b w1; rw [← hn] at this; exact this
  obtain ⟨⟨r0, r1⟩, hr⟩ : ∃ f, f = roundQ a b p := ⟨_, rfl⟩
  have RD1 : Hid (∀ w1, Tab w1 → Calls Tryd.prog 35 #[.agg #[.int .i64 a, .int .i64 b], .int .i64 p] w1 fun r w' => r = .returned (.agg #[.int .i64 r0, .int .i64 r1]) ∧ Below w1.heap.size w1 w') := fun w1 h => by
    have := rndQ_any a b p hw w1 h; rw [← hr] at this; exact this
  have RD2 : Hid (∀ w1, Calls Tryd.prog 36 #[.agg #[.int .i64 a, .int .i64 b], .int .i64 p] w1 fun r w' => r = .returned (.agg #[.int .i64 r0, .int .i64 r1]) ∧ Below w1.heap.size w1 w') := fun w1 => by
    have := rrnd_any a b p w1; rw [← hr] at this; exact this
  obtain ⟨⟨f0, f1⟩, hf⟩ : ∃ f, f = floorP a b := ⟨_, rfl⟩
  have FL1 : Hid (∀ w1, Tab w1 → Calls Tryd.prog 37 #[.agg #[.int .i64 a, .int .i64 b]] w1 fun r w' => r = .returned (.agg #[.int .i64 f0, .int .i64 f1]) ∧ Below w1.heap.size w1 w') := fun w1 h => by
    have := floor_any a b hw w1 h; rw [← hf] at this; exact this
  have FL2 : Hid (∀ w1, Calls Tryd.prog 38 #[.agg #[.int .i64 a, .int .i64 b]] w1 fun r w' => r = .returned (.agg #[.int .i64 f0, .int .i64 f1]) ∧ Below w1.heap.size w1 w') := fun w1 => by
    have := rfloor_any a b w1; rw [← hf] at this; exact this
  have K0 := Kq.first w a b ht
  clear hn hr hf hw ht
  unfold numV
  go_enter Tryd.func7, Tryd.ntmps7
  go_wp2_with fail
  refine (HAW.out _ K0.2.1).mono ?_
  rintro e w1 ⟨rfl, hb1⟩
  have K1 := K0.later hb1
  clear hb1 HAW K0
  obtain ⟨⟨p0, p1, _⟩, _⟩ := id K1
  go_wp2_with fail
  refine (I1.out _).mono ?_
  rintro e w2 ⟨rfl, hb1⟩
  have K2 := K1.later hb1
  clear hb1 I1 K1 p0 p1
  obtain ⟨⟨p0, p1, _⟩, _⟩ := id K2
  go_wp2_with fail
  refine (I2.out _).mono ?_
  rintro e w3 ⟨rfl, hb1⟩
  have K3 := K2.later hb1
  clear hb1 I2 K2 p0 p1
  have K3h := Lib.hid K3
  obtain ⟨⟨p0, p1, _⟩, _⟩ := K3
  go_wp2_with fail
  go_region_held3 (fun w' => (w'.cell? ⟨w.heap.size, 0, none⟩ = some (.int .i64 a) ∧ w'.cell? ⟨w.heap.size, 1, none⟩ = some (.int .i64 b) ∧ w.heap.size < w'.heap.size) ∧ Tab w' ∧ Below w.heap.size w w')
    ((show Kq w a b _; with_reducible first | exact K3h.out.later (below_dr _) | exact X5.out))
    (first
      | (go_at_call 35; refine (RD1.out _ (show Kq w a b _ by assumption).2.1).mono ?_; rintro e w12 ⟨rfl, hb12⟩; have X5 := Lib.hid (Kq.later (show Kq w a b _ by assumption) hb12))
      | (go_at_call 36; refine (RD2.out _).mono ?_; rintro e w12 ⟨rfl, hb12⟩; have X5 := Lib.hid (Kq.later (show Kq w a b _ by assumption) hb12))
      | (go_at_call 37; refine (FL1.out _ (show Kq w a b _ by assumption).2.1).mono ?_; rintro e w12 ⟨rfl, hb12⟩; have X5 := Lib.hid (Kq.later (show Kq w a b _ by assumption) hb12))
      | (go_at_call 38; refine (FL2.out _).mono ?_; rintro e w12 ⟨rfl, hb12⟩; have X5 := Lib.hid (Kq.later (show Kq w a b _ by assumption) hb12)))
  have hfin : Below w.heap.size w w12 := X5.out.2.2
  clear hb12 X5
  go_wp2
  go_ret
  exact ⟨rfl, hfin⟩
end Go.Proofs.YtkdjdoncmihkfaaDoor
