/- Small contracts before num.Div and num.Add. -/
import Derived.Test.YtkdjdoncmihkfaaDoorNh
import Derived.Deep.QuietTactic
import Derived.BigQuiet
namespace Go.Proofs.YtkdjdoncmihkfaaDoor
open Go.RowKit

theorem lt_pow_nd (u : Nat) : u < 10 ^ nd u := by
  induction u using Nat.strongRecOn with
  | ind u ih =>
    rw [nd]; split
    · rename_i h; subst h; decide
    · rename_i h
      have := ih (u / 10) (by omega)
      rw [Nat.pow_succ]; omega
theorem lt15 {u : Nat} (h : nd u ≤ 15) : u < 1000000000000000 := by
  have h1 := lt_pow_nd u
  have h2 : 10 ^ nd u ≤ 10 ^ 15 := Nat.pow_le_pow_right (by decide) h
  have h3 : 10 ^ 15 = 1000000000000000 := by decide
  omega
theorem right_bounds {m e : Int} (h : rightB m e = true) : m.natAbs < 1000000000000000 ∧ -40 ≤ e ∧ e ≤ 40 := by
  unfold rightB at h
  by_cases hm : m = 0
  · rw [if_pos hm] at h
    have : e = 0 := by simpa using h
    subst this; subst hm; decide
  · rw [if_neg hm] at h
    by_cases h2 : m.tmod 10 = 0 ∨ e < -40
    · rw [if_pos h2] at h; simp at h
    · rw [if_neg h2] at h
      have h3 : nd m.natAbs ≤ 15 ∧ e ≤ 40 - (nd m.natAbs : Int) := by simpa using h
      have := lt15 h3.1
      omega

theorem without_any (m : Int) (h0 : -9223372036854775807 ≤ m) (h1 : m ≤ 9223372036854775807) (w : World) : Calls Tryd.prog 59 #[.int .i64 m] w fun e w' => e = .returned (.int .i64 (m.natAbs : Int)) ∧ w' = w := by
  have H : Hid ((m.natAbs : Int) = max m (-m)) := by show _ = _; omega
  rw [H.out]
  clear H
  go_enter Tryd.func59, Tryd.ntmps59
  go_wp2
  go_ret
  exact ⟨rfl, rfl⟩

/-- two numbers that came by value, and the result's own cells -/
structure Trio (w : World) (B : Nat) (a b c d : Int) : Prop where
  s0 : Slot w B a b
  s1 : Slot w (B + 1) c d
  s2 : Slot w (B + 1 + 1) 0 0
theorem Trio.new (w : World) (a b c d : Int) : Trio (((w.alloc (.cells #[.int .i64 a, .int .i64 b] 24)).alloc (.cells #[.int .i64 c, .int .i64 d] 24)).alloc (.cells #[.int .i64 0, .int .i64 0] 24)) w.heap.size a b c d :=
  ⟨((Slot.new w a b).below (C := w.heap.size + 1) ((Below.refl _ _).alloc (by simp) _) (by omega)).below (C := w.heap.size + 1) ((Below.refl _ _).alloc (by simp) _) (by omega),
    by
      have h := (Slot.new (w.alloc (.cells #[.int .i64 a, .int .i64 b] 24)) c d).below (C := w.heap.size + 1 + 1) (w' := ((w.alloc (.cells #[.int .i64 a, .int .i64 b] 24)).alloc (.cells #[.int .i64 c, .int .i64 d] 24)).alloc (.cells #[.int .i64 0, .int .i64 0] 24)) ((Below.refl _ _).alloc (by simp) _) (by simp)
      rwa [show (w.alloc (.cells #[.int .i64 a, .int .i64 b] 24)).heap.size = w.heap.size + 1 by simp] at h,
    by
      have h := Slot.new ((w.alloc (.cells #[.int .i64 a, .int .i64 b] 24)).alloc (.cells #[.int .i64 c, .int .i64 d] 24)) 0 0
      rwa [show ((w.alloc (.cells #[.int .i64 a, .int .i64 b] 24)).alloc (.cells #[.int .i64 c, .int .i64 d] 24)).heap.size = w.heap.size + 1 + 1 by simp] at h⟩
theorem Trio.below {w w' : World} {B : Nat} {a b c d : Int} (h : Trio w B a b c d) (hb : Below w.heap.size w w') (hB : B + 3 ≤ w.heap.size) : Trio w' B a b c d ∧ B + 3 ≤ w'.heap.size :=
  ⟨⟨h.s0.below hb (by omega), h.s1.below hb (by omega), h.s2.below hb (by omega)⟩, by have := hb.size; omega⟩
theorem below3 (w : World) (o1 o2 o3 : Obj) : Below w.heap.size w (((w.alloc o1).alloc o2).alloc o3) :=
  (((Below.refl _ _).alloc (Nat.le_refl _) _).alloc (by simp) _).alloc (by simp; omega) _

end Go.Proofs.YtkdjdoncmihkfaaDoor
