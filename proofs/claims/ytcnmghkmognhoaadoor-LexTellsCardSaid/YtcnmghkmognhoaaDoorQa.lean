/- The document's side: digits, letters, runs, words. -/
import Derived.Test.YtcnmghkmognhoaaDoorPb
namespace Go.Proofs.YtcnmghkmognhoaaDoor
open Go.RowKit Go.Shelf

theorem digit_any (c : UInt8) (w : World) : Calls Tryd.prog 95 #[.int .u8 (c.toNat : Int)] w fun e w' => e = .returned (.bool (digP c)) ∧ w = w' := by
  obtain ⟨R, hR⟩ : ∃ R, digP c = R := ⟨_, rfl⟩
  rw [hR]
  unfold digP betP at hR
  by_cases h1 : (48 : Int) ≤ (c.toNat : Int) <;> by_cases h2 : (c.toNat : Int) ≤ 57
  all_goals
    first
      | (exfalso; omega)
      | (have hRt : R = true := by (rw [← hR]; simp only [decide_eq_true_eq]; omega)
         subst hRt
         clear hR
         go_enter Tryd.func95, Tryd.ntmps95
         go_wp2
         go_ret
         exact ⟨rfl, rfl⟩)
      | (have hRf : R = false := by (rw [← hR]; simp only [decide_eq_false_iff_not]; omega)
         subst hRf
         clear hR
         go_enter Tryd.func95, Tryd.ntmps95
         go_wp2
         go_ret
         exact ⟨rfl, rfl⟩)
theorem letter_any (c : UInt8) (w : World) : Calls Tryd.prog 96 #[.int .u8 (c.toNat : Int)] w fun e w' => e = .returned (.bool (letP c)) ∧ w = w' := by
  obtain ⟨R, hR⟩ : ∃ R, letP c = R := ⟨_, rfl⟩
  rw [hR]
  unfold letP betP at hR
  by_cases h1 : (97 : Int) ≤ (c.toNat : Int) <;> by_cases h2 : (c.toNat : Int) ≤ 122 <;> by_cases h3 : (65 : Int) ≤ (c.toNat : Int) <;> by_cases h4 : (c.toNat : Int) ≤ 90
  all_goals
    first
      | (exfalso; omega)
      | (have hRt : R = true := by (rw [← hR]; simp only [Bool.or_eq_true, decide_eq_true_eq]; omega)
         subst hRt
         clear hR
         go_enter Tryd.func96, Tryd.ntmps96
         go_wp2
         go_ret
         exact ⟨rfl, rfl⟩)
      | (have hRf : R = false := by (rw [← hR]; simp only [Bool.or_eq_false_iff, decide_eq_false_iff_not]; omega)
         subst hRf
         clear hR
         go_enter Tryd.func96, Tryd.ntmps96
         go_wp2
         go_ret
         exact ⟨rfl, rfl⟩)
set_option maxRecDepth 100000 in
set_option maxHeartbeats 1000000 in
theorem rrun_any (s : ByteArray) (f : Nat) (hf : f ≤ s.size) (hs : s.size ≤ 100000) (lt : Bool) (w : World) :
    Calls Tryd.prog 66 #[.string s, .int .i64 (f : Int), .bool lt] w fun e w' => e = .returned (.int .i64 (runF (if lt = true then letP else digP) (s.data.toList.drop f) : Nat)) ∧ w = w' := by
  obtain ⟨p, hp⟩ : ∃ p, (if lt = true then letP else digP) = p := ⟨_, rfl⟩
  rw [hp]
  have HP := Lib.hid hp
  clear hp
  go_enter Tryd.func66, Tryd.ntmps66
  go_wp2
  go_loop [7] (fun n => ∃ k : Nat, f + k ≤ s.size ∧ n = .int .i64 (k : Int) ∧ Hid (k + runF p (s.data.toList.drop (f + k)) = runF p (s.data.toList.drop f))) (fun n => s.size - (f + (intOf n).toNat))
  case atStart => exact ⟨0, by omega, rfl, by show _ = _; simp⟩
  case round =>
    obtain ⟨k, hk, rfl, HD⟩ := hrel
    by_cases hlt : f + k < s.size
    · have hd := HD.out
      rw [drop_get s _ hlt, runF] at hd
      obtain ⟨c, hc⟩ : ∃ c, s[f + k] = c := ⟨_, rfl⟩
      rw [hc] at hd
      have hi : (f : Int) + k < (s.size : Int) := by omega
      have hi0 : (0 : Int) ≤ (f : Int) + k := by omega
      have HC := Lib.hid hc
      have HDG := Lib.hid (fun W => digit_any c W)
      have HLT := Lib.hid (fun W => letter_any c W)
      obtain ⟨b, hb⟩ : ∃ b, p c = b := ⟨_, rfl⟩
      rw [hb] at hd
      have hpc := hb
      rw [← HP.out] at hpc
      have HDD := Lib.hid hd
      clear hd hc HD hb
      cases lt with
      | true =>
        rw [if_pos rfl] at hpc
        rw [hpc] at HLT
        clear hpc HDG
        cases b with
        | true =>
          have HD2 : Hid (k + 1 + runF p (s.data.toList.drop (f + (k + 1))) = runF p (s.data.toList.drop f)) := by show _ = _; rw [← HDD.out, if_pos rfl, show f + (k + 1) = f + k + 1 by omega]; omega
          clear HDD
          go_wp2_with fail
          rw [HC.out]
          refine (HLT.out _).mono ?_
          rintro e w1 ⟨rfl, rfl⟩
          go_wp2
          go_round
          case rel => exact ⟨k + 1, by omega, by go_num, HD2⟩
          case measure => simp [intOf]; omega
        | false =>
          have HD2 : Hid (runF p (s.data.toList.drop f) = k) := by show _ = _; rw [← HDD.out, if_neg (by decide)]; omega
          clear HDD
          go_wp2_with fail
          rw [HC.out]
          refine (HLT.out _).mono ?_
          rintro e w1 ⟨rfl, rfl⟩
          go_wp2
          go_ret
          exact ⟨by rw [HD2.out]; rfl, rfl⟩
      | false =>
        rw [if_neg (by decide)] at hpc
        rw [hpc] at HDG
        clear hpc HLT
        cases b with
        | true =>
          have HD2 : Hid (k + 1 + runF p (s.data.toList.drop (f + (k + 1))) = runF p (s.data.toList.drop f)) := by show _ = _; rw [← HDD.out, if_pos rfl, show f + (k + 1) = f + k + 1 by omega]; omega
          clear HDD
          go_wp2_with fail
          rw [HC.out]
          refine (HDG.out _).mono ?_
          rintro e w1 ⟨rfl, rfl⟩
          go_wp2
          go_round
          case rel => exact ⟨k + 1, by omega, by go_num, HD2⟩
          case measure => simp [intOf]; omega
        | false =>
          have HD2 : Hid (runF p (s.data.toList.drop f) = k) := by show _ = _; rw [← HDD.out, if_neg (by decide)]; omega
          clear HDD
          go_wp2_with fail
          rw [HC.out]
          refine (HDG.out _).mono ?_
          rintro e w1 ⟨rfl, rfl⟩
          go_wp2
          go_ret
          exact ⟨by rw [HD2.out]; rfl, rfl⟩
    · have hd := HD.out
      rw [List.drop_eq_nil_of_le (Nat.le_trans (Nat.le_of_eq (size_list s)) (show s.size ≤ f + k by omega)), runF] at hd
      have hi : ¬ (f : Int) + k < (s.size : Int) := by omega
      have HD2 := Lib.hid hd
      clear hd HD
      cases lt with
      | true =>
        go_wp2
        go_ret
        exact ⟨by rw [← HD2.out]; rfl, rfl⟩
      | false =>
        go_wp2
        go_ret
        exact ⟨by rw [← HD2.out]; rfl, rfl⟩
end Go.Proofs.YtcnmghkmognhoaaDoor
