/- Walks over the document's Letters and Column: the same letters, and the same columns, as the program's. -/
import Derived.Test.YtkggooemnahgpaaDoorWe
namespace Go.Proofs.YtkggooemnahgpaaDoor
open Go.RowKit

theorem let_cut (n : Nat) (h : n < 26) : (⟨#[65, 66, 67, 68, 69, 70, 71, 72, 73, 74, 75, 76, 77, 78, 79, 80, 81, 82, 83, 84, 85, 86, 87, 88, 89, 90]⟩ : ByteArray).extract n (n + 1) = ⟨#[letB n]⟩ := by
  have : ∀ k : Fin 26, (⟨#[65, 66, 67, 68, 69, 70, 71, 72, 73, 74, 75, 76, 77, 78, 79, 80, 81, 82, 83, 84, 85, 86, 87, 88, 89, 90]⟩ : ByteArray).extract k.val (k.val + 1) = ⟨#[letB k.val]⟩ := by decide +kernel
  exact this ⟨n, h⟩

theorem rletter_any (n : Int) (h0 : 0 ≤ n) (h1 : n < 26) (w : World) : Calls Tryd.prog 25 #[.int .i64 n] w fun e w' => e = .returned (.string ⟨#[letB n]⟩) ∧ w = w' := by
  obtain ⟨k, rfl⟩ := Int.eq_ofNat_of_zero_le h0
  have hk : k < 26 := by omega
  have HC := Lib.hid (let_cut k hk)
  go_enter Tryd.func25, Tryd.ntmps25
  go_wp2
  go_ret
  exact ⟨ret_str HC.out, rfl⟩

theorem capital_any (c : Nat) (hc : c < 256) (w : World) : Calls Tryd.prog 24 #[.int .u8 c] w fun e w' => e = .returned (.int .i64 ((capN c).getD (-1))) ∧ w = w' := by
  unfold capN
  by_cases h1 : 97 ≤ c <;> by_cases h2 : c ≤ 122 <;> by_cases h3 : 65 ≤ c <;> by_cases h4 : c ≤ 90
  all_goals try (exfalso; omega)
  all_goals
    go_enter Tryd.func24, Tryd.ntmps24
    go_wp2
    go_ret
    simp [*]
    try omega

/-- the document's Letters -/
theorem rletters_any (c : Int) (w : World) : Calls Tryd.prog 13 #[.int .i64 c] w fun e w' => e = .returned (.string ⟨(letS c).toArray⟩) ∧ w = w' := by
  by_cases h0 : 0 ≤ c
  · by_cases h1 : c ≤ 18277
    · have hr : rightB 0 c = true := by simp [rightB, *]
      unfold letS letL
      rw [if_pos hr]
      clear hr
      by_cases h2 : c < 26
      · have e : c % 26 = c := by omega
        rw [if_pos h2, e]
        clear e
        go_enter Tryd.func13, Tryd.ntmps13
        go_wp2_with fail
        refine (rletter_any _ (by omega) (by omega) _).mono ?_
        rintro e w' ⟨rfl, rfl⟩
        go_wp2_with fail
        go_ret
        exact ⟨rfl, rfl⟩
      · rw [if_neg h2]
        by_cases h3 : c < 702
        · rw [if_pos h3]
          have e1 : (c - 26) / 26 = (c / 26 - 1) % 26 := by omega
          have e2 : (c - 26) % 26 = c % 26 := by omega
          have E1 := Lib.hid e1
          have E2 := Lib.hid e2
          clear e1 e2
          go_enter Tryd.func13, Tryd.ntmps13
          go_wp2_with fail
          refine (rletter_any _ (by omega) (by omega) _).mono ?_
          rintro e w' ⟨rfl, rfl⟩
          go_wp2_with fail
          refine (rletter_any _ (by omega) (by omega) _).mono ?_
          rintro e w' ⟨rfl, rfl⟩
          go_wp2_with fail
          go_ret
          refine ⟨ret_str ?_, rfl⟩
          try rw [E1.out]
          try rw [E2.out]
          exact str_app [_] [_]
        · rw [if_neg h3]
          have e1 : (c - 702) / 676 = ((c / 26 - 1) / 26 - 1) % 26 := by omega
          have e2 : (c - 702) / 26 % 26 = (c / 26 - 1) % 26 := by omega
          have e3 : (c - 702) % 26 = c % 26 := by omega
          have E1 := Lib.hid e1
          have E2 := Lib.hid e2
          have E3 := Lib.hid e3
          clear e1 e2 e3
          go_enter Tryd.func13, Tryd.ntmps13
          go_wp2_with fail
          refine (rletter_any _ (by omega) (by omega) _).mono ?_
          rintro e w' ⟨rfl, rfl⟩
          go_wp2_with fail
          refine (rletter_any _ (by omega) (by omega) _).mono ?_
          rintro e w' ⟨rfl, rfl⟩
          go_wp2_with fail
          refine (rletter_any _ (by omega) (by omega) _).mono ?_
          rintro e w' ⟨rfl, rfl⟩
          go_wp2_with fail
          go_ret
          refine ⟨ret_str ?_, rfl⟩
          try rw [E1.out]
          try rw [E2.out]
          try rw [E3.out]
          exact (congrArg (· ++ _) (str_app [_] [_])).trans (str_app [_, _] [_])
    · have hr : rightB 0 c = false := by simp [rightB]; omega
      unfold letS
      rw [if_neg (by rw [hr]; decide)]
      clear hr
      go_enter Tryd.func13, Tryd.ntmps13
      go_wp2_with fail
      go_ret
      exact ⟨rfl, rfl⟩
  · have hr : rightB 0 c = false := by simp [rightB]; omega
    unfold letS
    rw [if_neg (by rw [hr]; decide)]
    clear hr
    go_enter Tryd.func13, Tryd.ntmps13
    go_wp2_with fail
    go_ret
    exact ⟨rfl, rfl⟩

/-- how far the document's number lags behind -/
def offs (p : Nat) : Int := match p with | 0 => 0 | 1 => 1 | 2 => 27 | _ => 703

theorem colL_get (s : ByteArray) (p : Nat) (n : Int) (h : p < s.size) : colL (s.data.toList.drop p) n = match capN (s[p]).toNat with | some d => colL (s.data.toList.drop (p + 1)) (n * 26 + d + 1) | none => none := by
  rw [drop_get s p h, colL]
  cases capN (s[p]).toNat <;> rfl
theorem capN_range (c : Nat) (d : Int) (h : capN c = some d) : 0 ≤ d ∧ d ≤ 25 := by
  unfold capN at h
  split at h
  · injection h with h; omega
  · split at h
    · injection h with h; omega
    · cases h

set_option maxHeartbeats 2000000 in
set_option maxRecDepth 100000 in
theorem rcolumn_in (s : ByteArray) (h0 : 0 < s.size) (h3 : s.size ≤ 3) (w : World) :
    Calls Tryd.prog 12 #[.string s] w fun e w' => e = .returned (digR (colL s.data.toList 0)) ∧ w = w' := by
  go_enter Tryd.func12, Tryd.ntmps12
  go_wp2
  go_loop [4, 5] (fun n i => ∃ (p : Nat) (k : Int), p ≤ s.size ∧ i = .int .i64 p ∧ n = .int .i64 k ∧ 0 ≤ k ∧ k < 27 ^ p ∧ colL (s.data.toList.drop p) (k + offs p) = colL s.data.toList 0) (fun _ i => s.size - (intOf i).toNat)
  case atStart => exact ⟨0, 0, Nat.zero_le _, rfl, rfl, by omega, by simp, by simp [offs]⟩
  case round =>
    obtain ⟨p, k, hp, rfl, rfl, hk0, hk1, hd⟩ := hrel
    have hk2 := alph_pow p (by omega)
    have hk3 : k ≤ 20000 := by omega
    have HD := Lib.hid hd
    have HK := Lib.hid hk1
    clear hd hk1 hk2
    by_cases hlt : p < s.size
    · have hg := colL_get s p (k + offs p) hlt
      cases hc : capN (s[p]).toNat with
      | none =>
        rw [hc] at hg
        have HG := Lib.hid (hg.symm.trans HD.out)
        have HC := Lib.hid hc
        clear hg hc
        go_wp2_with fail
        refine (capital_any _ (s[p]).toNat_lt _).mono ?_
        rw [HC.out]
        rintro e w' ⟨rfl, rfl⟩
        go_wp2_with fail
        go_ret2
        exact ⟨by rw [← HG.out]; rfl, rfl⟩
      | some d =>
        rw [hc] at hg
        have hr := capN_range _ _ hc
        have HG := Lib.hid (hg.symm.trans HD.out)
        have HC := Lib.hid hc
        clear hg hc
        obtain ⟨r1, r2⟩ := hr
        go_wp2_with fail
        refine (capital_any _ (s[p]).toNat_lt _).mono ?_
        rw [HC.out, Option.getD_some]
        rintro e w' ⟨rfl, rfl⟩
        go_wp2_with fail
        go_round
        case rel =>
          refine ⟨p + 1, _, by omega, by go_num, rfl, by omega, ?_, ?_⟩
          · have := HK.out
            rw [Int.pow_succ]; omega
          · rw [← HG.out]
            show colL _ _ = colL _ _
            congr 1
            have : p = 0 ∨ p = 1 ∨ p = 2 := by omega
            rcases this with rfl | rfl | rfl <;> simp [offs] <;> omega
        case measure => simp [intOf]; omega
    · obtain rfl : p = s.size := by omega
      have he := colL_end s s.size (k + offs s.size) (by omega)
      have HE := Lib.hid (he.symm.trans HD.out)
      clear he
      by_cases z1 : s.size = 1
      · have HZ := Lib.hid z1
        have t1 : ((s.size : Int) == 2) = false := by rw [beq_eq_false_iff_ne]; omega
        have t2 : ((s.size : Int) == 3) = false := by rw [beq_eq_false_iff_ne]; omega
        clear z1
        go_wp2_with fail
        go_ret2
        exact ⟨by rw [← HE.out, HZ.out]; simp [digR, offs], rfl⟩
      · by_cases z2 : s.size = 2
        · have HZ := Lib.hid z2
          have t1 : ((s.size : Int) == 2) = true := by rw [beq_iff_eq]; omega
          have t2 : ((s.size : Int) == 3) = false := by rw [beq_eq_false_iff_ne]; omega
          clear z2
          go_wp2_with fail
          go_ret2
          exact ⟨by rw [← HE.out, HZ.out]; simp [digR, offs]; omega, rfl⟩
        · have z3 : s.size = 3 := by omega
          have HZ := Lib.hid z3
          have t1 : ((s.size : Int) == 2) = false := by rw [beq_eq_false_iff_ne]; omega
          have t2 : ((s.size : Int) == 3) = true := by rw [beq_iff_eq]; omega
          clear z3
          go_wp2_with fail
          go_ret2
          exact ⟨by rw [← HE.out, HZ.out]; simp [digR, offs]; omega, rfl⟩

theorem rcolumn_no (s : ByteArray) (h : s.size = 0 ∨ 3 < s.size) (w : World) :
    Calls Tryd.prog 12 #[.string s] w fun e w' => e = .returned (digR none) ∧ w = w' := by
  rcases h with h | h
  · have hs := empty_of s h
    subst hs
    go_enter Tryd.func12, Tryd.ntmps12
    go_wp2
    go_ret2
    exact ⟨rfl, rfl⟩
  · go_enter Tryd.func12, Tryd.ntmps12
    go_wp2
    go_ret2
    exact ⟨rfl, rfl⟩

/-- the document's Column -/
theorem rcolumn_any (s : ByteArray) (w : World) : Calls Tryd.prog 12 #[.string s] w fun e w' => e = .returned (digR (columnL s.data.toList)) ∧ w = w' := by
  unfold columnL
  rw [size_list]
  by_cases h0 : s.size = 0
  · rw [if_pos (.inl h0)]; exact rcolumn_no s (.inl h0) w
  · by_cases h7 : 3 < s.size
    · rw [if_pos (.inr h7)]; exact rcolumn_no s (.inr h7) w
    · rw [if_neg (by omega)]
      exact rcolumn_in s (by omega) (by omega) w

theorem capN_let (n : Int) (h0 : 0 ≤ n) (h1 : n < 26) : capN (letB n).toNat = some n := by
  have e := letB_nat n h0 h1
  unfold capN
  rw [if_neg (by omega), if_pos (by omega)]
  congr 1; omega

/-- what Letters tells, Column reads -/
theorem column_let (c : Int) (h0 : 0 ≤ c) (h1 : c ≤ 18277) : columnL (letL c) = some c := by
  unfold letL
  split
  · simp [columnL, colL, capN_let (c % 26) (by omega) (by omega)]; omega
  · split
    · simp [columnL, colL, capN_let (c % 26) (by omega) (by omega), capN_let ((c / 26 - 1) % 26) (by omega) (by omega)]; omega
    · simp [columnL, colL, capN_let (c % 26) (by omega) (by omega), capN_let ((c / 26 - 1) % 26) (by omega) (by omega), capN_let (((c / 26 - 1) / 26 - 1) % 26) (by omega) (by omega)]; omega
end Go.Proofs.YtkggooemnahgpaaDoor
