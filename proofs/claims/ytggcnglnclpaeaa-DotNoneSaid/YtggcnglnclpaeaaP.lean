/- The document's example. -/
import Derived.Test.YtggcnglnclpaeaaE
import Derived.Test.YtggcnglnclpaeaaN
namespace Go.Proofs.Ytggcnglnclpaeaa
open Go.RowKit Go.Maps

theorem SeenAt.later {w w' : World} {s K : Nat} {S : Nat → Prop} {l : Row} (h : SeenAt w s S K l) (hb : Below w.heap.size w w') : SeenAt w' s S K l := h.kept (Only.of_below hb) (fun b _ h1 h2 => by omega)
theorem foot_below {n : Nat} {w w' : World} {s : Nat} {S : Nat → Prop} (h : Only (Foot w s S) w w') (hn : n ≤ w.heap.size) (hs : n ≤ s) (hS : ∀ b, S b → n ≤ b) : Below n w w' :=
  h.below hn (fun b hb => by rcases hb with hb | ⟨hb, _⟩; omega; exact hS b hb)

set_option maxHeartbeats 1600000 in
theorem awake_any (w : World) : Calls Try.prog 10 #[] w fun e w' => e = .returned (.bool true) ∧ Below w.heap.size w w' := by
  have hs : SeenAt (w.alloc (.cells #[.map none] 47)) w.heap.size (fun b => w.heap.size ≤ b) 0 [] := ⟨Nat.le_refl _, OkR.nil, .inl ⟨Boxed.new w 47 (.map none), rfl⟩⟩
  have hb : Below w.heap.size w (w.alloc (.cells #[.map none] 47)) := (Below.refl _ _).alloc (Nat.le_refl _) _
  have HA := Lib.hid (add_any w.heap.size _ 0 [] 2 5 _ hs (by omega) (by omega) (by omega) (by decide))
  have HB := Lib.hid hb
  clear hs hb
  unfold idV at HA
  go_enter Try.func10, Try.ntmps10
  go_wp2_with fail
  refine (new_any _).mono ?_
  rintro e w1 ⟨rfl, rfl⟩
  go_wp2_with fail
  refine HA.out.mono ?_
  rintro e w2 ⟨rfl, hs2, hO⟩
  have e1 : addB [] 2 5 = true := by decide
  have e2 : addL [] 2 5 = [(2, 5)] := by decide
  rw [e1]
  rw [e2] at hs2
  have hb2 : Below w.heap.size w w2 := HB.out.trans (foot_below hO HB.out.size (Nat.le_refl _) (fun b hb => hb))
  have hP : SeenP w2 (some ⟨w.heap.size, 0, none⟩) (fun b => w.heap.size ≤ b ∧ b < w2.heap.size) 1 [(2, 5)] := .inr ⟨_, rfl, hs2.wider (fun b hb hz => ⟨by rcases hb with hb | hb; exact hb; simp at hb; omega, hz⟩) (Nat.le_refl _)⟩
  have HN := Lib.hid (next_any _ _ 1 [(2, 5)] 1 w2 hP (fun k hk => hk.2) (by decide))
  have HP := Lib.hid hP
  have HB2 := Lib.hid hb2
  clear hs2 hO hb2 hP e1 e2
  have e3 : nextL [(2, 5)] 1 = (1, 6) := by decide
  rw [e3] at HN
  unfold idV at HN
  clear e3
  go_wp2_with fail
  refine HN.out.mono ?_
  rintro e w3 ⟨rfl, hb3⟩
  have HP3 := Lib.hid (HP.out.below hb3)
  have HB3 := Lib.hid (HB2.out.trans (hb3.mono HB2.out.size))
  clear hb3
  go_wp2_with fail
  refine (has_any _ _ 1 [(2, 5)] 2 3 _ HP3.out (by omega) (by omega)).mono ?_
  have e4 : hasB [(2, 5)] 2 3 = true := by decide
  rw [e4]
  rintro e w4 ⟨rfl, hb4⟩
  have HP4 := Lib.hid (HP3.out.below hb4)
  have HB4 := Lib.hid (HB3.out.trans (hb4.mono HB3.out.size))
  clear hb4 e4
  go_wp2_with fail
  refine (has_any _ _ 1 [(2, 5)] 1 1 _ HP4.out (by omega) (by omega)).mono ?_
  have e5 : hasB [(2, 5)] 1 1 = false := by decide
  rw [e5]
  rintro e w5 ⟨rfl, hb5⟩
  have HB5 := Lib.hid (HB4.out.trans (hb5.mono HB4.out.size))
  clear hb5 e5
  go_wp2_with fail
  refine (before_any (9, 1) (1, 2) _).mono ?_
  have e6 : befB (9, 1) (1, 2) = true := by decide
  rw [e6]
  rintro e w6 ⟨rfl, hb6⟩
  clear e6
  go_wp2
  go_ret
  exact ⟨rfl, HB5.out.trans (hb6.mono HB5.out.size)⟩
end Go.Proofs.Ytggcnglnclpaeaa
