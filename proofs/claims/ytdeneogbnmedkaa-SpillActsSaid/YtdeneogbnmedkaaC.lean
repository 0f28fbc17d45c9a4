/- has, fits, New. -/
import Derived.Test.YtdeneogbnmedkaaB
namespace Go.Proofs.Ytdeneogbnmedkaa
open Go.RowKit Go.Maps

theorem has_any {w : World} {s : Nat} {S : Nat → Prop} {m : Nat} {B : Brd} (row col : Int) (h : BrdAt w s S m B) :
    Calls Try.prog 24 #[.pointer (some ⟨s, 0, none⟩), .int .i64 row, .int .i64 col] w fun e w' => e = .returned (.bool (hasP B (row, col))) ∧ w' = w := by
  obtain ⟨_, c, o, d, v, h⟩ := h
  obtain ⟨c0, c1, _⟩ := h.cells
  have hdef : hasP B (row, col) = decide (0 ≤ row ∧ 0 ≤ col ∧ row < B.rows ∧ col < B.cols) := rfl
  obtain ⟨R, hR⟩ : ∃ R, hasP B (row, col) = R := ⟨_, rfl⟩
  obtain ⟨r, hr⟩ : ∃ r, B.rows = r := ⟨_, rfl⟩
  obtain ⟨k, hk⟩ : ∃ k, B.cols = k := ⟨_, rfl⟩
  rw [hR, hr, hk] at hdef
  rw [hR]
  rw [hr] at c0
  rw [hk] at c1
  clear h hR hr hk
  by_cases h1 : 0 ≤ row
  · by_cases h2 : 0 ≤ col
    · by_cases h3 : row < r
      · by_cases h4 : col < k
        · obtain rfl : R = true := by rw [hdef]; exact decide_eq_true ⟨h1, h2, h3, h4⟩
          clear hdef
          go_enter Try.func24, Try.ntmps24
          go_wp2
          go_ret
          exact ⟨rfl, rfl⟩
        · obtain rfl : R = false := by rw [hdef]; exact decide_eq_false fun h => h4 h.2.2.2
          clear hdef
          go_enter Try.func24, Try.ntmps24
          go_wp2
          go_ret
          exact ⟨rfl, rfl⟩
      · obtain rfl : R = false := by rw [hdef]; exact decide_eq_false fun h => h3 h.2.2.1
        clear hdef
        go_enter Try.func24, Try.ntmps24
        go_wp2
        go_ret
        exact ⟨rfl, rfl⟩
    · obtain rfl : R = false := by rw [hdef]; exact decide_eq_false fun h => h2 h.2.1
      clear hdef
      go_enter Try.func24, Try.ntmps24
      go_wp2
      go_ret
      exact ⟨rfl, rfl⟩
  · obtain rfl : R = false := by rw [hdef]; exact decide_eq_false fun h => h1 h.1
    clear hdef
    go_enter Try.func24, Try.ntmps24
    go_wp2
    go_ret
    exact ⟨rfl, rfl⟩

theorem fits_any (x y : Int) (w : World) :
    Calls Try.prog 28 #[.int .i64 x, .int .i64 y] w fun e w' => e = .returned (.bool (fitsF x y)) ∧ w' = w := by
  have hdef : fitsF x y = decide (1 ≤ x ∧ 1 ≤ y ∧ x ≤ 4096 ∧ y ≤ 4096 ∧ x * y ≤ 4096) := rfl
  obtain ⟨R, hR⟩ : ∃ R, fitsF x y = R := ⟨_, rfl⟩
  rw [hR] at hdef ⊢
  clear hR
  by_cases h1 : 1 ≤ x
  · by_cases h2 : 1 ≤ y
    · by_cases h3 : x ≤ 4096
      · by_cases h4 : y ≤ 4096
        · have hb : 0 ≤ x * y ∧ x * y ≤ 4096 * 4096 := ⟨Int.mul_nonneg (by omega) (by omega), Int.le_trans (Int.mul_le_mul_of_nonneg_left h4 (by omega)) (Int.mul_le_mul_of_nonneg_right h3 (by omega))⟩
          obtain ⟨z, hz⟩ : ∃ z, x * y = z := ⟨_, rfl⟩
          rw [hz] at hdef hb
          have hw : IntKind.i64.wrap (x * y) = z := by rw [hz, IntKind.wrap_i64]; omega
          clear hz
          by_cases h5 : z ≤ 4096
          · obtain rfl : R = true := by rw [hdef]; exact decide_eq_true ⟨h1, h2, h3, h4, h5⟩
            clear hdef hb
            go_enter Try.func28, Try.ntmps28
            go_wp2
            go_ret
            exact ⟨rfl, rfl⟩
          · obtain rfl : R = false := by rw [hdef]; exact decide_eq_false fun h => h5 h.2.2.2.2
            clear hdef hb
            go_enter Try.func28, Try.ntmps28
            go_wp2
            go_ret
            exact ⟨rfl, rfl⟩
        · obtain rfl : R = false := by rw [hdef]; exact decide_eq_false fun h => h4 h.2.2.2.1
          clear hdef
          go_enter Try.func28, Try.ntmps28
          go_wp2
          go_ret
          exact ⟨rfl, rfl⟩
      · obtain rfl : R = false := by rw [hdef]; exact decide_eq_false fun h => h3 h.2.2.1
        clear hdef
        go_enter Try.func28, Try.ntmps28
        go_wp2
        go_ret
        exact ⟨rfl, rfl⟩
    · obtain rfl : R = false := by rw [hdef]; exact decide_eq_false fun h => h2 h.2.1
      clear hdef
      go_enter Try.func28, Try.ntmps28
      go_wp2
      go_ret
      exact ⟨rfl, rfl⟩
  · obtain rfl : R = false := by rw [hdef]; exact decide_eq_false fun h => h1 h.1
    clear hdef
    go_enter Try.func28, Try.ntmps28
    go_wp2
    go_ret
    exact ⟨rfl, rfl⟩

theorem new_at (w : World) (x y a b : Int) (ha : clampF x = a) (hb : clampF y = b) {W : World} (hW : W = ((((w.alloc (.map #[] 0)).alloc (.map #[] 0)).alloc (.map #[] 0)).alloc (.cells #[.int .i64 a, .int .i64 b, .map (some w.heap.size), .map (some (w.heap.size + 1)), .map (some (w.heap.size + 2)), .slice none 0 0] 69))) :
    BrdAt W (w.heap.size + 3) (fun g => w.heap.size ≤ g ∧ g < w.heap.size + 4) 0 (newF x y) ∧ Below w.heap.size w W ∧ W.heap.size = w.heap.size + 4 := by
  subst hW
  have hz : ((((w.alloc (.map #[] 0)).alloc (.map #[] 0)).alloc (.map #[] 0)).alloc (.cells #[.int .i64 a, .int .i64 b, .map (some w.heap.size), .map (some (w.heap.size + 1)), .map (some (w.heap.size + 2)), .slice none 0 0] 69)).heap.size = w.heap.size + 4 := by simp
  refine ⟨⟨inv_new x y, w.heap.size, w.heap.size + 1, w.heap.size + 2, .slice none 0 0, ?_⟩, (((((Below.refl _ w).alloc (Nat.le_refl _) _).alloc (by simp) _).alloc (by simp <;> omega) _).alloc (by simp <;> omega) _), hz⟩
  refine ⟨?_, ?_, ?_, ?_, ⟨rfl, .inl ⟨rfl, rfl⟩⟩, ⟨by omega, by omega, by omega, by omega, fun g hg => by cases hg⟩, ⟨by omega, by omega, by omega⟩, Nat.le_refl _⟩
  · have := World.alloc_heap_new (((w.alloc (.map #[] 0)).alloc (.map #[] 0)).alloc (.map #[] 0)) (.cells #[.int .i64 a, .int .i64 b, .map (some w.heap.size), .map (some (w.heap.size + 1)), .map (some (w.heap.size + 2)), .slice none 0 0] 69)
    unfold brdC newF
    rw [ha, hb]
    simpa using this
  · have h1 := MapIs.made w
    refine (h1.kept ?_).ext (fun p => by simp [conM, newF])
    rw [Below.heap_alloc _ _ _ (by simp <;> omega), Below.heap_alloc _ _ _ (by simp <;> omega), Below.heap_alloc _ _ _ (by simp)]
  · have h1 := MapIs.made (w.alloc (.map #[] 0))
    rw [show (w.alloc (.map #[] 0)).heap.size = w.heap.size + 1 by simp] at h1
    refine ((h1.kept ?_).ext (fun p => by simp [ownM, ownF, newF])).mono (Nat.zero_le _)
    rw [Below.heap_alloc _ _ _ (by simp <;> omega), Below.heap_alloc _ _ _ (by simp)]
  · have h1 := MapIs.made ((w.alloc (.map #[] 0)).alloc (.map #[] 0))
    rw [show ((w.alloc (.map #[] 0)).alloc (.map #[] 0)).heap.size = w.heap.size + 2 by simp] at h1
    refine (h1.kept ?_).ext (fun p => by simp [decM, decF, newF])
    rw [Below.heap_alloc _ _ _ (by simp)]
theorem new_any (x y : Int) (w : World) :
    Calls Try.prog 10 #[.int .i64 x, .int .i64 y] w fun e w' => e = .returned (.pointer (some ⟨w.heap.size + 3, 0, none⟩)) ∧ BrdAt w' (w.heap.size + 3) (fun g => w.heap.size ≤ g ∧ g < w.heap.size + 4) 0 (newF x y) ∧ Below w.heap.size w w' ∧ w'.heap.size = w.heap.size + 4 := by
  have hmm := @run_makeMap Try.prog
  go_enter Try.func10, Try.ntmps10
  go_wp2
  all_goals
    go_ret
    exact ⟨rfl, new_at w x y _ _ (by unfold clampF; omega) (by unfold clampF; omega) rfl⟩
end Go.Proofs.Ytdeneogbnmedkaa
