/- Walks over the layer's example, and over the laws AddrMoves and AddrOrder. -/
import Derived.Test.YtkggooemnahgpaaDoorWd
namespace Go.Proofs.YtkggooemnahgpaaDoor
open Go.RowKit

theorem ex_parse : parseL [66, 36, 51] = some (2, 1, true, false) := by decide +kernel
theorem ex_let : letS 26 = [65, 65] := by decide +kernel
theorem ex_rel : relL 2 1 true false 0 0 = [82, 51, 67, 91, 49, 93] := by decide +kernel

set_option maxHeartbeats 3200000 in
set_option maxRecDepth 100000 in
theorem awake_any (w : World) (ht : Tab w) : Calls Tryd.prog 9 #[] w fun e w' => e = .returned (.bool true) ∧ Below w.heap.size w w' := by
  have E1 := Lib.hid ex_parse
  have E2 := Lib.hid ex_let
  have E3 := Lib.hid ex_rel
  go_enter Tryd.func9, Tryd.ntmps9
  go_wp2_with fail
  refine (parse_any _ _).mono ?_
  rw [show (⟨#[66, 36, 51]⟩ : ByteArray).data.toList = [66, 36, 51] from rfl, E1.out]
  unfold parseR
  rintro e w1 ⟨rfl, hb1⟩
  have ht1 := ht.below hb1
  go_wp2_with fail
  refine (letters_any _ _).mono ?_
  rw [E2.out]
  rintro e w2 ⟨rfl, hb2⟩
  obtain ⟨c0, c1, c2, c3, f0, f1, f2, f3, hz⟩ := four hb2
  have hb3 := below4 hb2
  have ht2 := ht1.below hb3
  have hb4 := hb1.trans (hb3.mono hb1.size)
  clear hb2 hb3
  go_wp2_with fail
  refine (relative_any 2 1 true false _ _ _ ht2).mono ?_
  rw [E3.out]
  rintro e w3 ⟨rfl, hb5⟩
  go_wp2_with fail
  go_ret
  exact ⟨rfl, hb4.trans (hb5.mono hb4.size)⟩


/-- AddrMoves, where a move is too far -/
theorem moves_far (r c : Int) (fr fc : Bool) (row col dn rt : Int) (w : World) (ht : Tab w) (h : dn < -1000000 ∨ 1000000 < dn ∨ rt < -1000000 ∨ 1000000 < rt) :
    Calls Tryd.prog 6 #[markV r c fr fc, .int .i64 row, .int .i64 col, .int .i64 dn, .int .i64 rt] w fun e w' => e = .returned (.bool true) ∧ Below w.heap.size w w' := by
  have hb0 : Below w.heap.size w (w.alloc (.cells #[.int .i64 r, .int .i64 c, .bool fr, .bool fc] 28)) := (Below.refl _ _).alloc (Nat.le_refl _) _
  have ht0 := ht.below hb0
  have H1 := Lib.hid hb0
  clear hb0
  unfold markV
  by_cases a1 : dn < -1000000 <;> by_cases a2 : 1000000 < dn <;> by_cases a3 : rt < -1000000 <;> by_cases a4 : 1000000 < rt
  all_goals try (exfalso; omega)
  all_goals
    go_enter Tryd.func6, Tryd.ntmps6
    go_wp2_with fail
    refine (awake_any _ ht0).mono ?_
    rintro e w1 ⟨rfl, hb1⟩
    go_wp2_with fail
    go_ret
    exact ⟨rfl, H1.out.trans (hb1.mono H1.out.size)⟩

theorem seen_moves (p f d : Int) : seenL (p + d) (f + d) false = seenL p f false := by
  unfold seenL
  have e1 : p + d = f + d ↔ p = f := by omega
  have e2 : p + d - (f + d) = p - f := by omega
  simp only [e1, e2, Bool.false_eq_true, if_false]
theorem seen_fixed (p f g : Int) : seenL p f true = seenL p g true := rfl

theorem rel_moves (r c : Int) (fr fc : Bool) (row col dn rt : Int) (a1 : -1000000 ≤ dn) (a2 : dn ≤ 1000000) (a3 : -1000000 ≤ rt) (a4 : rt ≤ 1000000) :
    relL r c fr fc row col = [] ∨ relL (if fr then r else wrap64 (r + dn)) (if fc then c else wrap64 (c + rt)) fr fc (wrap64 (row + dn)) (wrap64 (col + rt)) = [] ∨
    relL r c fr fc row col = relL (if fr then r else wrap64 (r + dn)) (if fc then c else wrap64 (c + rt)) fr fc (wrap64 (row + dn)) (wrap64 (col + rt)) := by
  by_cases h : (rightB r c && rightB row col) = true
  · have h' := h
    simp only [Bool.and_eq_true, rightB, decide_eq_true_eq] at h'
    obtain ⟨⟨b1, b2, b3, b4⟩, b5, b6, b7, b8⟩ := h'
    have w1 : wrap64 (r + dn) = r + dn := by unfold wrap64; omega
    have w2 : wrap64 (c + rt) = c + rt := by unfold wrap64; omega
    have w3 : wrap64 (row + dn) = row + dn := by unfold wrap64; omega
    have w4 : wrap64 (col + rt) = col + rt := by unfold wrap64; omega
    rw [w1, w2, w3, w4]
    by_cases h2 : (rightB (if fr then r else r + dn) (if fc then c else c + rt) && rightB (row + dn) (col + rt)) = true
    · refine .inr (.inr ?_)
      unfold relL
      rw [if_pos h, if_pos h2]
      cases fr <;> cases fc <;> simp [seen_moves, seen_fixed _ row (row + dn), seen_fixed _ col (col + rt)]
    · refine .inr (.inl ?_)
      unfold relL
      rw [if_neg h2]
  · refine .inl ?_
    unfold relL
    rw [if_neg h]

set_option maxHeartbeats 3200000 in
set_option maxRecDepth 100000 in
theorem moves_in (r c : Int) (fr fc : Bool) (row col dn rt : Int) (w : World) (ht : Tab w) (a1 : -1000000 ≤ dn) (a2 : dn ≤ 1000000) (a3 : -1000000 ≤ rt) (a4 : rt ≤ 1000000) :
    Calls Tryd.prog 6 #[markV r c fr fc, .int .i64 row, .int .i64 col, .int .i64 dn, .int .i64 rt] w fun e w' => e = .returned (.bool true) ∧ Below w.heap.size w w' := by
  have hb0 : Below w.heap.size w (w.alloc (.cells #[.int .i64 r, .int .i64 c, .bool fr, .bool fc] 28)) := (Below.refl _ _).alloc (Nat.le_refl _) _
  have ht0 := ht.below hb0
  have H1 := Lib.hid hb0
  clear hb0
  have hF := rel_moves r c fr fc row col dn rt a1 a2 a3 a4
  obtain ⟨t, hT⟩ : ∃ t, relL r c fr fc row col = t := ⟨_, rfl⟩
  obtain ⟨u, hU⟩ : ∃ u, relL (if fr then r else wrap64 (r + dn)) (if fc then c else wrap64 (c + rt)) fr fc (wrap64 (row + dn)) (wrap64 (col + rt)) = u := ⟨_, rfl⟩
  rw [hT, hU] at hF
  have HT := Lib.hid hT
  have HU := Lib.hid hU
  have HF := Lib.hid hF
  clear hT hU hF
  unfold markV
  cases fr <;> cases fc
  all_goals
    simp only [Bool.false_eq_true, if_false, if_true] at HU
    go_enter Tryd.func6, Tryd.ntmps6
    go_wp2_with fail
    refine (awake_any _ ht0).mono ?_
    rintro e w1 ⟨rfl, hb1⟩
    obtain ⟨c0, c1, c2, c3, f0, f1, f2, f3, hz⟩ := four hb1
    have hb2 := below4 hb1
    have ht1 := ht0.below hb1
    clear hb1
    go_wp2_with fail
    refine (relative_any r c _ _ _ _ _ ht1).mono ?_
    rw [HT.out]
    rintro e w2 ⟨rfl, hb3⟩
    have ht2 := ht1.below hb3
    obtain ⟨d0, d1, d2, d3, e0, e1, e2, e3, hy⟩ := four2 hz hb3 c0 c1 c2 c3 f0 f1 f2 f3
    have hb4 := hb2.trans (hb3.mono (by omega))
    clear hb3 c0 c1 c2 c3 f0 f1 f2 f3 hb2 hz
    go_wp2_with fail
    refine (relative_any _ _ _ _ _ _ _ (ht2.below ((Below.refl _ _).alloc (Nat.le_refl _) _))).mono ?_
    rw [HU.out]
    rintro e w3 ⟨rfl, hb5⟩
    have hb6 := hb4.trans ((below4 hb5).mono hb4.size)
    clear hb5 hb4
    rcases HF.out with rfl | rfl | rfl
    · go_wp2_with fail
      go_ret
      exact ⟨rfl, hb6⟩
    · by_cases h0 : t = []
      · subst h0
        go_wp2_with fail
        go_ret
        exact ⟨rfl, hb6⟩
      · go_wp2_with fail
        go_ret
        exact ⟨by simp, hb6⟩
    · by_cases h0 : t = []
      · subst h0
        go_wp2_with fail
        go_ret
        exact ⟨rfl, hb6⟩
      · go_wp2_with fail
        go_ret
        exact ⟨by simp, hb6⟩

/-- AddrMoves, at every input -/
theorem moves_any (r c : Int) (fr fc : Bool) (row col dn rt : Int) (w : World) (ht : Tab w) :
    Calls Tryd.prog 6 #[markV r c fr fc, .int .i64 row, .int .i64 col, .int .i64 dn, .int .i64 rt] w fun e w' => e = .returned (.bool true) ∧ Below w.heap.size w w' := by
  by_cases h : dn < -1000000 ∨ 1000000 < dn ∨ rt < -1000000 ∨ 1000000 < rt
  · exact moves_far r c fr fc row col dn rt w ht h
  · exact moves_in r c fr fc row col dn rt w ht (by omega) (by omega) (by omega) (by omega)
end Go.Proofs.YtkggooemnahgpaaDoor
