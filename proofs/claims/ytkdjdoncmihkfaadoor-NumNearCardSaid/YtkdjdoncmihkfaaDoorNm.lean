/- Walk over the law awake. -/
import Derived.Test.YtkdjdoncmihkfaaDoorNk
namespace Go.Proofs.YtkdjdoncmihkfaaDoor
open Go.RowKit

set_option maxRecDepth 1000000 in
set_option maxHeartbeats 2000000 in
/-- the law's examples are as the document says -/
theorem awake_any (w : World) (ht : Tab w) : Calls Tryd.prog 14 #[] w fun r w' => r = .returned (.bool true) ∧ Below w.heap.size w w' := by
  have nd1 : nd 1 = 1 := by rw [nd, dif_neg (by decide), show 1 / 10 = 0 from rfl, nd_zero]
  have nd3 : nd 3 = 1 := by rw [nd, dif_neg (by decide), show 3 / 10 = 0 from rfl, nd_zero]
  have r1 : rightB 1 0 = true := by
    unfold rightB; rw [if_neg (by decide), if_neg (by decide), show (1 : Int).natAbs = 1 from rfl, nd1]; decide
  have r3 : rightB 3 0 = true := by
    unfold rightB; rw [if_neg (by decide), if_neg (by decide), show (3 : Int).natAbs = 3 from rfl, nd3]; decide
  have DV : Hid (∀ w1, Tab w1 → Calls Tryd.prog 29 #[.agg #[.int .i64 1, .int .i64 0], .agg #[.int .i64 3, .int .i64 0]] w1 fun e w' => e = .returned (.tuple #[.agg #[.int .i64 333333333333333, .int .i64 (-15)], .bool true]) ∧ Below w1.heap.size w1 w') := by
    intro w1 h; have := div_yes 1 0 3 0 r1 r3 (by decide) w1 h; rw [div_13] at this; exact this
  have MK : Hid (∀ w1, Tab w1 → Calls Tryd.prog 15 #[.int .i64 12300, .int .i64 (-2)] w1 fun e w' => e = .returned (.tuple #[.agg #[.int .i64 123, .int .i64 0], .bool true]) ∧ Below w1.heap.size w1 w') := by
    intro w1 h; have := make_any 12300 (-2) (by decide) (by decide) w1 h; rw [make_123] at this; exact this
  have TX : Hid (∀ w1, Tab w1 → Calls Tryd.prog 41 #[.agg #[.int .i64 5, .int .i64 (-3)]] w1 fun r w' => r = .returned (.string ⟨#[48, 46, 48, 48, 53]⟩) ∧ Below w1.heap.size w1 w') :=
    fun w1 h => text_5 w1 h
  have HT := Lib.hid ht
  clear r1 r3 nd1 nd3 ht
  go_enter Tryd.func14, Tryd.ntmps14
  go_wp2_with fail
  refine (DV.out _ HT.out).mono ?_
  rintro e w1 ⟨rfl, hb1⟩
  have S1 := Slot.new w1 333333333333333 (-15)
  have b1 : Below w.heap.size w (w1.alloc (.cells #[.int .i64 333333333333333, .int .i64 (-15)] 24)) := hb1.alloc hb1.size _
  go_wp2_with fail
  have hz1 : w1.heap.size < (w1.alloc (.cells #[.int .i64 333333333333333, .int .i64 (-15)] 24)).heap.size := by simp
  refine (MK.out _ (HT.out.below b1)).mono ?_
  rintro e w2 ⟨rfl, hb2⟩
  have S2 := S1.below hb2 hz1
  have b2 := b1.trans (hb2.mono b1.size)
  have hz2 : w1.heap.size < w2.heap.size := by have := hb2.size; omega
  have T2 := Slot.new w2 123 0
  have b3 : Below w.heap.size w (w2.alloc (.cells #[.int .i64 123, .int .i64 0] 24)) := b2.alloc b2.size _
  have S3 := S2.below (C := w2.heap.size) (w' := w2.alloc (.cells #[.int .i64 123, .int .i64 0] 24)) ((Below.refl _ _).alloc (Nat.le_refl _) _) hz2
  obtain ⟨p0, p1, p2, p3⟩ := id S3
  obtain ⟨p4, p5, p6, p7⟩ := id T2
  clear S1 hb1 hb2 b1 hz1 S2
  go_wp2_with fail
  refine (TX.out _ (HT.out.below b3)).mono ?_
  rintro e w3 ⟨rfl, hb3⟩
  have b4 := b3.trans (hb3.mono b3.size)
  clear hb3 p0 p1 p2 p3 p4 p5 p6 p7
  go_wp2
  go_ret
  exact ⟨rfl, b4⟩
end Go.Proofs.YtkdjdoncmihkfaaDoor
