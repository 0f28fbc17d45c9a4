/- Walks over the document's Num, Right, count, Text and over the law's own turning of a mark. -/
import Derived.Test.YtkggooemnahgpaaDoorWg
namespace Go.Proofs.YtkggooemnahgpaaDoor
open Go.RowKit

def digB (n : Nat) : UInt8 := UInt8.ofNat (48 + n)
theorem dig_cut (n : Nat) (h : n < 10) : (⟨#[48, 49, 50, 51, 52, 53, 54, 55, 56, 57]⟩ : ByteArray).extract n (n + 1) = ⟨#[digB n]⟩ := by
  have : ∀ k : Fin 10, (⟨#[48, 49, 50, 51, 52, 53, 54, 55, 56, 57]⟩ : ByteArray).extract k.val (k.val + 1) = ⟨#[digB k.val]⟩ := by decide +kernel
  exact this ⟨n, h⟩

theorem rnum_small (n : Nat) (h : n < 10) (w : World) : Calls Tryd.prog 34 #[.int .i64 n] w fun e w' => e = .returned (.string ⟨(Lib.decDigits n).toArray⟩) ∧ w = w' := by
  have HC := Lib.hid (dig_cut n h)
  have HD := Lib.hid (show Lib.decDigits n = [digB n] by rw [Lib.decDigits, dif_pos h]; rfl)
  go_enter Tryd.func34, Tryd.ntmps34
  go_wp2
  go_ret
  exact ⟨ret_str (by rw [HD.out]; exact HC.out), rfl⟩

theorem dec_len (n : Nat) (h : n < 100000000) : (Lib.decDigits n).length ≤ 20 := by
  rw [Lib.decDigits_length]; exact Lib.nDigits_le20 n (by omega)

theorem rnum_k : ∀ (k n : Nat) (w : World), n < 100000000 → n < 10 ^ (k + 1) → Calls Tryd.prog 34 #[.int .i64 n] w fun e w' => e = .returned (.string ⟨(Lib.decDigits n).toArray⟩) ∧ w = w'
  | 0, n, w, _, h => rnum_small n (by simpa using h) w
  | k + 1, n, w, hb, h => by
    by_cases h10 : n < 10
    · exact rnum_small n h10 w
    · have ih := rnum_k k (n / 10) w (by omega) (by rw [Nat.pow_succ] at h; omega)
      have l1 := dec_len (n / 10) (by omega)
      have l2 := dec_len (n % 10) (by omega)
      have e : Lib.decDigits n = Lib.decDigits (n / 10) ++ Lib.decDigits (n % 10) := by
        rw [Lib.decDigits, dif_neg h10]
        congr 1
        rw [Lib.decDigits, dif_pos (by omega)]
      have IH := Lib.hid ih
      have E := Lib.hid e
      clear ih e h
      go_enter Tryd.func34, Tryd.ntmps34
      go_wp2_with fail
      rw [show ((n : Int) / 10) = ((n / 10 : Nat) : Int) by omega]
      refine IH.out.mono ?_
      rintro e w' ⟨rfl, rfl⟩
      go_wp2_with fail
      rw [show ((n : Int) % 10) = ((n % 10 : Nat) : Int) by omega]
      refine (rnum_small (n % 10) (by omega) _).mono ?_
      rintro e w' ⟨rfl, rfl⟩
      go_wp2
      go_ret
      exact ⟨ret_str (by rw [E.out]; exact str_app _ _), rfl⟩

theorem rnum_any (n : Int) (h0 : 0 ≤ n) (h1 : n < 100000000) (w : World) : Calls Tryd.prog 34 #[.int .i64 n] w fun e w' => e = .returned (.string ⟨(Lib.itoa n).toArray⟩) ∧ w = w' := by
  obtain ⟨k, rfl⟩ := Int.eq_ofNat_of_zero_le h0
  have : Lib.itoa (k : Int) = Lib.decDigits k := by unfold Lib.itoa; rw [if_neg (by omega)]; simp
  rw [this]
  exact rnum_k 8 k w (by omega) (by omega)

theorem rright_any (r c : Int) (fr fc : Bool) (w : World) : Calls Tryd.prog 33 #[markV r c fr fc] w fun e w' => e = .returned (.bool (rightB r c)) ∧ Below w.heap.size w w' := by
  unfold markV
  by_cases h0 : 0 ≤ r <;> by_cases h1 : r ≤ 9999998 <;> by_cases h2 : 0 ≤ c <;> by_cases h3 : c ≤ 18277
  all_goals try (exfalso; omega)
  all_goals
    go_enter Tryd.func33, Tryd.ntmps33
    go_wp2
    go_ret
    exact ⟨by simp [rightB, *], (Below.refl _ _).alloc (Nat.le_refl _) _⟩

theorem of_any (r c : Int) (fr fc : Bool) (w : World) : Calls Tryd.prog 18 #[markV r c fr fc] w fun e w' => e = .returned (markV r c fr fc) ∧ Below w.heap.size w w' := by
  unfold markV
  go_enter Tryd.func18, Tryd.ntmps18
  go_wp2
  refine bodyPost_ret (v := .agg #[.int .i64 r, .int .i64 c, .bool fr, .bool fc]) (by simp [results, Tryd.results18, go_sem]) rfl ⟨rfl, ?_⟩
  exact ((Below.refl _ _).alloc (Nat.le_refl _) _).alloc (by simp) _

set_option maxHeartbeats 1000000 in
set_option maxRecDepth 100000 in
theorem rcount_in (s : ByteArray) (h0 : 0 < s.size) (h7 : s.size ≤ 7) (hh : (((s[0]).toNat : Int) == 48) = false) (w : World) :
    Calls Tryd.prog 32 #[.string s] w fun e w' => e = .returned (.int .i64 ((digL s.data.toList 0).getD 0)) ∧ w = w' := by
  go_enter Tryd.func32, Tryd.ntmps32
  go_wp2
  go_loop [3, 4] (fun n i => ∃ (p : Nat) (k : Int), p ≤ s.size ∧ i = .int .i64 p ∧ n = .int .i64 k ∧ 0 ≤ k ∧ k < 10 ^ p ∧ digL (s.data.toList.drop p) k = digL s.data.toList 0) (fun _ i => s.size - (intOf i).toNat)
  case atStart => exact ⟨0, 0, Nat.zero_le _, rfl, rfl, by omega, by simp, by simp⟩
  case round =>
    obtain ⟨p, k, hp, rfl, rfl, hk0, hk1, hd⟩ := hrel
    have hk2 := seven_pow p (by omega)
    have hk3 : k ≤ 10000000 := by omega
    have HD := Lib.hid hd
    have HK := Lib.hid hk1
    clear hd hk1 hk2
    by_cases hlt : p < s.size
    · by_cases hd1 : 48 ≤ (s[p]).toNat ∧ (s[p]).toNat ≤ 57
      · have HG := Lib.hid ((digL_step s p k hlt hd1.1 hd1.2).symm.trans HD.out)
        obtain ⟨g1, g2⟩ := hd1
        go_wp2_with fail
        go_round
        case rel =>
          refine ⟨p + 1, _, by omega, by go_num, rfl, by omega, ?_, ?_⟩
          · have := HK.out
            rw [Int.pow_succ]; omega
          · rw [← HG.out]
            congr 1; omega
        case measure => simp [intOf]; omega
      · have HG := Lib.hid ((digL_stop s p k hlt hd1).symm.trans HD.out)
        by_cases g1 : (s[p]).toNat < 48
        · clear hd1
          go_wp2_with fail
          go_ret
          exact ⟨by rw [← HG.out]; rfl, rfl⟩
        · have g2 : 57 < (s[p]).toNat := by omega
          clear hd1
          go_wp2_with fail
          go_ret
          exact ⟨by rw [← HG.out]; rfl, rfl⟩
    · obtain rfl : p = s.size := by omega
      have HE := Lib.hid ((digL_end s s.size k (by omega)).symm.trans HD.out)
      go_wp2_with fail
      go_ret
      exact ⟨by rw [← HE.out]; rfl, rfl⟩

theorem rcount_no (s : ByteArray) (h : s.size = 0 ∨ 7 < s.size) (w : World) :
    Calls Tryd.prog 32 #[.string s] w fun e w' => e = .returned (.int .i64 0) ∧ w = w' := by
  rcases h with h | h
  · have hs := empty_of s h
    subst hs
    go_enter Tryd.func32, Tryd.ntmps32
    go_wp2
    go_ret
    exact ⟨rfl, rfl⟩
  · go_enter Tryd.func32, Tryd.ntmps32
    go_wp2
    go_ret
    exact ⟨rfl, rfl⟩

theorem rcount_nought (s : ByteArray) (h0 : 0 < s.size) (h7 : s.size ≤ 7) (hh : (((s[0]).toNat : Int) == 48) = true) (w : World) :
    Calls Tryd.prog 32 #[.string s] w fun e w' => e = .returned (.int .i64 0) ∧ w = w' := by
  go_enter Tryd.func32, Tryd.ntmps32
  go_wp2
  go_ret
  exact ⟨rfl, rfl⟩

/-- the document's count -/
theorem rcount_any (s : ByteArray) (w : World) : Calls Tryd.prog 32 #[.string s] w fun e w' => e = .returned (.int .i64 ((numL s.data.toList).getD 0)) ∧ w = w' := by
  unfold numL
  rw [size_list]
  by_cases h0 : s.size = 0
  · rw [if_pos (.inl h0)]; exact rcount_no s (.inl h0) w
  · by_cases h7 : 7 < s.size
    · rw [if_pos (.inr (.inl h7))]; exact rcount_no s (.inr h7) w
    · have hp : 0 < s.size := by omega
      have hd : s.data.toList.head? = some s[0] := by
        have := drop_get s 0 hp
        rw [List.drop_zero] at this; rw [this]; rfl
      rw [hd]
      by_cases h8 : s[0].toNat = 48
      · have : s[0] = 48 := UInt8.toNat_inj.1 h8
        rw [if_pos (.inr (.inr (by rw [this])))]
        exact rcount_nought s hp (by omega) (by rw [h8]; rfl) w
      · rw [if_neg (by rintro (h | h | h); · exact h0 h
                       · exact h7 h
                       · injection h with h; rw [h] at h8; exact h8 rfl)]
        exact rcount_in s hp (by omega) (by rw [beq_eq_false_iff_ne]; omega) w
end Go.Proofs.YtkggooemnahgpaaDoor
