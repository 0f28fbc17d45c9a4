/- addr's right and Letters -/
import Derived.Test.YtcnmghkmognhoaaDoorPb
import Derived.WalkKit
import Derived.WalkSpells
import Derived.WalkLawsBesides
import Derived.Outline
import Derived.KernelRfl
import Derived.Laws.CopyOwn
import Derived.LoopN
import Derived.Deep.WholeRow
import Derived.Laws.CopyRow
namespace Go.Proofs.YtcnmghkmognhoaaDoor.Addr
open Go.RowKit Go.Shelf
set_option maxRecDepth 100000


def rightB (r c : Int) : Bool := decide (0 ≤ r ∧ r ≤ 9999998 ∧ 0 ≤ c ∧ c ≤ 18277)

theorem right_any (r c : Int) (w : World) : Calls Tryd.prog 39 #[.int .i64 r, .int .i64 c] w fun e w' => e = .returned (.bool (rightB r c)) ∧ w = w' := by
  by_cases h0 : 0 ≤ r <;> by_cases h1 : r ≤ 9999998 <;> by_cases h2 : 0 ≤ c <;> by_cases h3 : c ≤ 18277
  all_goals
    go_enter Tryd.func39, Tryd.ntmps39
    go_wp2
    go_ret
    simp [rightB, *]

/-- the byte of a letter -/
def letB (n : Int) : UInt8 := UInt8.ofNat (65 + n).toNat
theorem letB_nat (n : Int) (h0 : 0 ≤ n) (h1 : n < 26) : ((letB n).toNat : Int) = 65 + n := by
  unfold letB; rw [UInt8.toNat_ofNat']; omega

/-- the letters of a column, for 0 to 18277 -/
def letL (c : Int) : List UInt8 :=
  if c < 26 then [letB (c % 26)] else if c < 702 then [letB ((c / 26 - 1) % 26), letB (c % 26)]
  else [letB (((c / 26 - 1) / 26 - 1) % 26), letB ((c / 26 - 1) % 26), letB (c % 26)]
/-- the letters of any column -/
def letS (c : Int) : List UInt8 := if rightB 0 c then letL c else []

theorem mk1 (W : World) : (Instr.makeSlice 41 (.int .i64 1) (.int .i64 1)).run Tryd.prog W = .ok (.slice (some ⟨W.heap.size, 0, none⟩) 1 1) (W.alloc (.cells #[.int .u8 0] 5)) := by kernel_rfl
theorem mk2 (W : World) : (Instr.makeSlice 41 (.int .i64 2) (.int .i64 2)).run Tryd.prog W = .ok (.slice (some ⟨W.heap.size, 0, none⟩) 2 2) (W.alloc (.cells #[.int .u8 0, .int .u8 0] 5)) := by kernel_rfl
theorem mk3 (W : World) : (Instr.makeSlice 41 (.int .i64 3) (.int .i64 3)).run Tryd.prog W = .ok (.slice (some ⟨W.heap.size, 0, none⟩) 3 3) (W.alloc (.cells #[.int .u8 0, .int .u8 0, .int .u8 0] 5)) := by kernel_rfl

theorem addr_add (b o j : Nat) : (⟨b, o, none⟩ : Addr).add j = ⟨b, o + j, none⟩ := by unfold Addr.add; split <;> simp_all

theorem cp_any (w : World) (A Z : Array Value) (k i : Nat) (cs : List Value) (hk : cs.length = k) (hZ : Z.size = k) (hA : ∀ j v, cs[j]? = some v → A[i + j]? = some v) (h1 : ∀ v ∈ cs, v.oneCell' = true) :
    (Builtin.copy_ #[41, 41] 3 #[.slice (some ⟨w.heap.size + 1, 0, none⟩) k k, .slice (some ⟨w.heap.size, i, none⟩) k k]).run Tryd.prog ((w.alloc (.cells A 102)).alloc (.cells Z 5)) = .ok (goInt k) ((w.alloc (.cells A 102)).alloc (.cells cs.toArray 5)) := by
  have hsz : (w.alloc (.cells A 102)).heap.size = w.heap.size + 1 := World.size_alloc _ _
  have h := run_copy_row (P := Tryd.prog) ((w.alloc (.cells A 102)).alloc (.cells Z 5)) 41 41 3 5 (w.heap.size + 1) 0 k k ⟨w.heap.size, i, none⟩ k k Z 5 cs Tryd.underlying41 (by kernel_rfl)
    (by rw [← hsz]; exact heap_alloc_new _ _) (by rw [hk]; simp) (fun j v hj => ?_) (by omega) h1
  · rw [h]
    subst hk
    have e : (Z.toList.take 0 ++ cs ++ Z.toList.drop (0 + cs.length)).toArray = cs.toArray := by
      rw [List.drop_eq_nil_of_le (by simp; omega)]; simp
    rw [e, ← hsz, World.setRow_alloc_new]
  · rw [addr_add]
    exact (World.cell?_alloc2_first _ _ _ _).trans (hA j v hj)

theorem cv_any (w : World) (A : Array Value) (l : List UInt8) (cs : List Value) (hc : cs = l.map (fun b => .int .u8 (b.toNat : Int))) :
    (convert 41 9 (.slice (some ⟨w.heap.size + 1, 0, none⟩) l.length l.length)).run Tryd.prog ((w.alloc (.cells A 102)).alloc (.cells cs.toArray 5)) = .ok (.string ⟨l.toArray⟩) ((w.alloc (.cells A 102)).alloc (.cells cs.toArray 5)) := by
  refine run_convert_bytes_back _ 41 9 5 ⟨w.heap.size + 1, 0, none⟩ l.length l Tryd.underlying41 Tryd.underlying5 Tryd.underlying9 (fun j hj => ?_)
  rw [addr_add]
  refine (World.cell?_alloc2_new _ _ _ _).trans ?_
  subst hc
  simp [hj]

set_option maxHeartbeats 1000000 in
theorem letters_1 (c : Int) (h0 : 0 ≤ c) (h1 : c < 26) (w : World) : Calls Tryd.prog 41 #[.int .i64 c] w fun e w' => e = .returned (.string ⟨#[letB (c % 26)]⟩) ∧ Below w.heap.size w w' := by
  have hr : rightB 0 c = true := by simp [rightB, *]; omega
  have hmk := mk1
  have hb := letB_nat (c % 26) (by omega) (by omega)
  have hcp := cp_any w #[.int .u8 0, .int .u8 0, .int .u8 (65 + c % 26)] #[.int .u8 0] 1 2 [.int .u8 (65 + c % 26)] rfl rfl (by intro j v h; match j with | 0 => simpa using h | j + 1 => simp at h) (by simp [Value.oneCell'])
  have hcv := cv_any w #[.int .u8 0, .int .u8 0, .int .u8 (65 + c % 26)] [letB (c % 26)] [.int .u8 (65 + c % 26)] (by simp [hb])
  clear hb
  simp only [List.length_cons, List.length_nil] at hcv
  go_enter Tryd.func41, Tryd.ntmps41
  go_wp2_with (go_at_call 39; refine (right_any _ _ _).mono ?_; rw [hr]; rintro e w' ⟨rfl, rfl⟩)
  refine wp_loop_rounds 2 ?_
  rw [rounds_succ]
  go_wp2
  rw [rounds_succ]
  go_wp2
  go_ret
  exact ⟨rfl, ((Below.refl _ _).alloc (Nat.le_refl _) _).alloc (by simp) _⟩

set_option maxHeartbeats 1000000 in
theorem letters_2 (c : Int) (h0 : 26 ≤ c) (h1 : c < 702) (w : World) : Calls Tryd.prog 41 #[.int .i64 c] w fun e w' => e = .returned (.string ⟨#[letB ((c / 26 - 1) % 26), letB (c % 26)]⟩) ∧ Below w.heap.size w w' := by
  have hr : rightB 0 c = true := by simp [rightB, *]; omega
  have hmk := mk2
  have hb := letB_nat (c % 26) (by omega) (by omega)
  have hb1 := letB_nat ((c / 26 - 1) % 26) (by omega) (by omega)
  have hcp := cp_any w #[.int .u8 0, .int .u8 (65 + (c / 26 - 1) % 26), .int .u8 (65 + c % 26)] #[.int .u8 0, .int .u8 0] 2 1 [.int .u8 (65 + (c / 26 - 1) % 26), .int .u8 (65 + c % 26)] rfl rfl (by intro j v h; match j with | 0 => simpa using h | 1 => simpa using h | j + 2 => simp at h) (by simp [Value.oneCell'])
  have hcv := cv_any w #[.int .u8 0, .int .u8 (65 + (c / 26 - 1) % 26), .int .u8 (65 + c % 26)] [letB ((c / 26 - 1) % 26), letB (c % 26)] [.int .u8 (65 + (c / 26 - 1) % 26), .int .u8 (65 + c % 26)] (by simp [hb, hb1])
  clear hb hb1
  simp only [List.length_cons, List.length_nil] at hcv
  go_enter Tryd.func41, Tryd.ntmps41
  go_wp2_with (go_at_call 39; refine (right_any _ _ _).mono ?_; rw [hr]; rintro e w' ⟨rfl, rfl⟩)
  refine wp_loop_rounds 3 ?_
  rw [rounds_succ]
  go_wp2
  rw [rounds_succ]
  go_wp2
  rw [rounds_succ]
  go_wp2
  go_ret
  exact ⟨rfl, ((Below.refl _ _).alloc (Nat.le_refl _) _).alloc (by simp) _⟩

set_option maxHeartbeats 1000000 in
theorem letters_3 (c : Int) (h0 : 702 ≤ c) (h1 : c ≤ 18277) (w : World) : Calls Tryd.prog 41 #[.int .i64 c] w fun e w' => e = .returned (.string ⟨#[letB (((c / 26 - 1) / 26 - 1) % 26), letB ((c / 26 - 1) % 26), letB (c % 26)]⟩) ∧ Below w.heap.size w w' := by
  have hr : rightB 0 c = true := by simp [rightB, *]; omega
  have hmk := mk3
  have hb := letB_nat (c % 26) (by omega) (by omega)
  have hb1 := letB_nat ((c / 26 - 1) % 26) (by omega) (by omega)
  have hb2 := letB_nat (((c / 26 - 1) / 26 - 1) % 26) (by omega) (by omega)
  have hcp := cp_any w #[.int .u8 (65 + ((c / 26 - 1) / 26 - 1) % 26), .int .u8 (65 + (c / 26 - 1) % 26), .int .u8 (65 + c % 26)] #[.int .u8 0, .int .u8 0, .int .u8 0] 3 0 [.int .u8 (65 + ((c / 26 - 1) / 26 - 1) % 26), .int .u8 (65 + (c / 26 - 1) % 26), .int .u8 (65 + c % 26)] rfl rfl (by intro j v h; match j with | 0 => simpa using h | 1 => simpa using h | 2 => simpa using h | j + 3 => simp at h) (by simp [Value.oneCell'])
  have hcv := cv_any w #[.int .u8 (65 + ((c / 26 - 1) / 26 - 1) % 26), .int .u8 (65 + (c / 26 - 1) % 26), .int .u8 (65 + c % 26)] [letB (((c / 26 - 1) / 26 - 1) % 26), letB ((c / 26 - 1) % 26), letB (c % 26)] [.int .u8 (65 + ((c / 26 - 1) / 26 - 1) % 26), .int .u8 (65 + (c / 26 - 1) % 26), .int .u8 (65 + c % 26)] (by simp [hb, hb1, hb2])
  clear hb hb1 hb2
  simp only [List.length_cons, List.length_nil] at hcv
  go_enter Tryd.func41, Tryd.ntmps41
  go_wp2_with (go_at_call 39; refine (right_any _ _ _).mono ?_; rw [hr]; rintro e w' ⟨rfl, rfl⟩)
  refine wp_loop_rounds 4 ?_
  rw [rounds_succ]
  go_wp2
  rw [rounds_succ]
  go_wp2
  rw [rounds_succ]
  go_wp2
  rw [rounds_succ]
  go_wp2
  go_ret
  exact ⟨rfl, ((Below.refl _ _).alloc (Nat.le_refl _) _).alloc (by simp) _⟩

theorem letters_no (c : Int) (h : rightB 0 c = false) (w : World) : Calls Tryd.prog 41 #[.int .i64 c] w fun e w' => e = .returned (.string ⟨#[]⟩) ∧ Below w.heap.size w w' := by
  go_enter Tryd.func41, Tryd.ntmps41
  go_wp2_with (go_at_call 39; refine (right_any _ _ _).mono ?_; rw [h]; rintro e w' ⟨rfl, rfl⟩)
  go_ret
  exact ⟨rfl, Below.refl _ _⟩

/-- Letters, at every int -/
theorem letters_any (c : Int) (w : World) : Calls Tryd.prog 41 #[.int .i64 c] w fun e w' => e = .returned (.string ⟨(letS c).toArray⟩) ∧ Below w.heap.size w w' := by
  by_cases hr : rightB 0 c = true
  · have h : 0 ≤ c ∧ c ≤ 18277 := by simpa [rightB] using hr
    unfold letS letL; rw [if_pos hr]
    by_cases h1 : c < 26
    · rw [if_pos h1]; exact letters_1 c h.1 h1 w
    · rw [if_neg h1]
      by_cases h2 : c < 702
      · rw [if_pos h2]; exact letters_2 c (by omega) h2 w
      · rw [if_neg h2]; exact letters_3 c (by omega) h.2 w
  · have hr' : rightB 0 c = false := by simpa using hr
    unfold letS; rw [if_neg hr]; exact letters_no c hr' w

end Go.Proofs.YtcnmghkmognhoaaDoor.Addr
