/- addr's Text -/
import Derived.Test.YtcnmghkmognhoaaDoorKd
namespace Go.Proofs.YtcnmghkmognhoaaDoor.Addr
open Go.RowKit Go.Shelf
set_option maxRecDepth 100000

def dol (b : Bool) : List UInt8 := if b then [36] else []
/-- the text of a mark -/
def textL (r c : Int) (fr fc : Bool) : List UInt8 := if rightB r c then dol fc ++ letL c ++ dol fr ++ Lib.itoa (r + 1) else []

theorem dollar_any (b : Bool) (w : World) : Calls Tryd.prog 40 #[.bool b] w fun e w' => e = .returned (.string ⟨(dol b).toArray⟩) ∧ w = w' := by
  cases b
  all_goals
    go_enter Tryd.func40, Tryd.ntmps40
    go_wp2
    go_ret
    exact ⟨rfl, rfl⟩
theorem dol_len (b : Bool) : (dol b).length ≤ 1 := by cases b <;> simp [dol]
theorem letL_len (c : Int) : (letL c).length ≤ 3 := by unfold letL; split; simp; split <;> simp

theorem text_no (r c : Int) (fr fc : Bool) (h : rightB r c = false) (w : World) :
    Calls Tryd.prog 19 #[markV r c fr fc] w fun e w' => e = .returned (.string ⟨#[]⟩) ∧ Below w.heap.size w w' := by
  unfold markV
  go_enter Tryd.func19, Tryd.ntmps19
  go_wp2_with (go_at_call 39; refine (right_any _ _ _).mono ?_; rw [h]; rintro e w' ⟨rfl, rfl⟩)
  go_ret
  exact ⟨rfl, (Below.refl _ _).alloc (Nat.le_refl _) _⟩

set_option maxHeartbeats 3200000 in
set_option maxRecDepth 100000 in
theorem text_yes (r c : Int) (fr fc : Bool) (h : rightB r c = true) (w : World) (ht : Tab w) :
    Calls Tryd.prog 19 #[markV r c fr fc] w fun e w' => e = .returned (.string ⟨(dol fc ++ letL c ++ dol fr ++ Lib.itoa (r + 1)).toArray⟩) ∧ Below w.heap.size w w' := by
  have g1 : 0 ≤ r ∧ r ≤ 9999998 ∧ 0 ≤ c ∧ c ≤ 18277 := by simpa [rightB] using h
  obtain ⟨a1, a2, a3, a4⟩ := g1
  have l1 := dol_len fc
  have l2 := letL_len c
  have l3 := dol_len fr
  have l4 := Lib.itoa_length_le (r + 1) (by omega) (by omega)
  have n1 : ¬ 9223372036854775807 < (dol fc).length + (letL c).length := by omega
  have n2 : ¬ 9223372036854775807 < (dol fc).length + (letL c).length + (dol fr).length := by omega
  have n3 : ¬ 9223372036854775807 < (dol fc).length + (letL c).length + (dol fr).length + (Lib.itoa (r + 1)).length := by omega
  have hl : ∀ w, Calls Tryd.prog 41 #[.int .i64 c] w fun e w' => e = .returned (.string ⟨(letL c).toArray⟩) ∧ Below w.heap.size w w' := fun w => by
    have e : 0 ≤ c ∧ c ≤ 18277 := ⟨a3, a4⟩
    have := letters_any c w
    unfold letS at this
    rwa [if_pos (by simp [rightB, a3, a4])] at this
  have HL := Lib.hid hl
  clear hl
  have hw : IntKind.i64.wrap (r + 1) = r + 1 := by rw [IntKind.wrap_i64]; omega
  unfold markV
  go_enter Tryd.func19, Tryd.ntmps19
  go_wp2_with (fail)
  go_at_call 39
  refine (right_any _ _ _).mono ?_; rw [h]; rintro e w' ⟨rfl, rfl⟩
  go_wp2_with (fail)
  go_region_held3 (fun w' => w'.cell? ⟨w.heap.size, 0, none⟩ = some (.int .i64 r) ∧ w'.cell? ⟨w.heap.size, 1, none⟩ = some (.int .i64 c) ∧ w'.cell? ⟨w.heap.size, 2, none⟩ = some (.bool fr) ∧ w'.cell? ⟨w.heap.size, 3, none⟩ = some (.bool fc) ∧ Tab w' ∧ Below w.heap.size w w' ∧ w.heap.size < w'.heap.size)
    (first | exact Kept.first _ _ _ _ _ ht | assumption | exact Kept.later (hb := hb1) (h := by assumption) | exact Kept.later (hb := hb2) (h := by assumption))
    (first
      | (go_at_call_of 40 (Value.bool fc); refine (dollar_any _ _).mono ?_; rintro e w' ⟨rfl, rfl⟩)
      | (go_at_call_of 40 (Value.bool fr); refine (dollar_any _ _).mono ?_; rintro e w' ⟨rfl, rfl⟩)
      | (go_at_call 41; refine (HL.out _).mono ?_; rintro e w1 ⟨rfl, hb1⟩)
      | (go_at_call 42; refine (itoa_any (r + 1) (by omega) (by omega) _ ?_).mono ?_; (exact Kept.tab (n := w.heap.size) (w := w) (r := r) (c := c) (fr := fr) (fc := fc) (by assumption)); rintro e w2 ⟨rfl, hb2⟩))
  have hk : Below w.heap.size w w2 := Kept.below (n := w.heap.size) (r := r) (c := c) (fr := fr) (fc := fc) (by assumption)
  go_wp2
  go_ret
  refine ⟨ret_str ?_, hk⟩
  rw [str_app, str_app, str_app]

/-- Text, at every mark -/
theorem text_any (r c : Int) (fr fc : Bool) (w : World) (ht : Tab w) :
    Calls Tryd.prog 19 #[markV r c fr fc] w fun e w' => e = .returned (.string ⟨(textL r c fr fc).toArray⟩) ∧ Below w.heap.size w w' := by
  unfold textL
  cases h : rightB r c with
  | false => exact text_no r c fr fc h w
  | true => exact text_yes r c fr fc h w ht

end Go.Proofs.YtcnmghkmognhoaaDoor.Addr
