/- The document's side: the longest number ahead; words. -/
import Derived.Test.YtcnmghkmognhoaaDoorQb
namespace Go.Proofs.YtcnmghkmognhoaaDoor
open Go.RowKit Go.Shelf

set_option maxRecDepth 100000 in
set_option maxHeartbeats 4000000 in
theorem rnum_any (s : ByteArray) (hs : s.size ≤ 100000) (w : World) : Calls Tryd.prog 62 #[.string s] w fun e w' => e = .returned (.int .i64 (numF s.data.toList : Nat)) ∧ w = w' := by
  obtain ⟨L, hL⟩ : ∃ L, s.data.toList = L := ⟨_, rfl⟩
  have hLs : L.length = s.size := by rw [← hL]; exact size_list s
  rw [hL]
  obtain ⟨R, hR⟩ : ∃ R, numF L = R := ⟨_, rfl⟩
  rw [hR]
  have HRR := Lib.hid hR
  have HL := Lib.hid hL
  have HLS := Lib.hid hLs
  clear hR hL
  go_enter Tryd.func62, Tryd.ntmps62
  go_wp2
  go_loop [3, 4] (fun b n => ∃ k : Nat, k ≤ s.size ∧ n = .int .i64 ((k : Int) + 1) ∧ b = .int .i64 (bestF L k : Nat)) (fun _ n => s.size + 1 - (intOf n).toNat)
  case atStart => exact ⟨0, by omega, rfl, rfl⟩
  case round =>
    obtain ⟨k, hk, rfl, rfl⟩ := hrel
    by_cases hlt : k < s.size
    · have hi : (k : Int) + 1 ≤ (s.size : Int) := by omega
      have hi1 : (k : Int) < (s.size : Int) := by omega
      have hi0 : (0 : Int) ≤ (k : Int) := by omega
      have hi2 : (0 : Int) ≤ (k : Int) + 1 := by omega
      have hdx := drop_get s k hlt
      rw [HL.out] at hdx
      obtain ⟨c, hc⟩ : ∃ c, s[k] = c := ⟨_, rfl⟩
      rw [hc] at hdx
      have hxx : L[k]? = some c := by
        have : (L.drop k)[0]? = some c := by rw [hdx]; rfl
        simpa using this
      have HX := Lib.hid hxx
      have HC := Lib.hid hc
      obtain ⟨bn, hbn⟩ : ∃ b, isNumF (L.take (k + 1)) = b := ⟨_, rfl⟩
      have hnu : ∀ W, Calls Tryd.prog 27 #[.string (s.extract 0 (k + 1))] W fun e w' => e = .returned (.bool bn) ∧ W = w' := fun W => by
        have := isnum_any (s.extract 0 (k + 1)) (by rw [ByteArray.size_extract]; omega) W
        rw [cut_head, HL.out, hbn] at this
        exact this
      have hbe : bestF L (k + 1) = if bn = true then k + 1 else bestF L k := by rw [bestF, hbn]
      have HNU := Lib.hid hnu
      have HBE := Lib.hid hbe
      obtain ⟨dg, hdg⟩ : ∃ b, digP c = b := ⟨_, rfl⟩
      have HDG := Lib.hid (fun W => digit_any c W)
      rw [hdg] at HDG
      clear hdx hc hxx hbn hnu hbe
      cases dg with
      | true =>
        clear hdg
        go_wp2_with fail
        rw [HC.out]
        refine (HDG.out _).mono ?_
        rintro e w1 ⟨rfl, rfl⟩
        go_wp2_with fail
        refine (HNU.out _).mono ?_
        rintro e w1 ⟨rfl, rfl⟩
        cases bn with
        | true =>
          have hbe := HBE.out
          rw [if_pos rfl] at hbe
          have HBE2 := Lib.hid hbe
          clear hbe
          go_wp2
          go_round
          case rel => exact ⟨k + 1, by omega, by go_num, by rw [HBE2.out]; go_num⟩
          case measure => simp [intOf]; omega
        | false =>
          have hbe := HBE.out
          rw [if_neg (by decide)] at hbe
          have HBE2 := Lib.hid hbe
          clear hbe
          go_wp2
          go_round
          case rel => exact ⟨k + 1, by omega, by go_num, by rw [HBE2.out]⟩
          case measure => simp [intOf]; omega
      | false =>
        by_cases e46 : c.toNat = 46
        · have q46 : ((c.toNat : Int) != 46) = false := by rw [bne_eq_false_iff_eq]; omega
          have r46 : ((c.toNat : Int) == 46) = true := by rw [beq_iff_eq]; omega
          clear e46
          clear hdg
          go_wp2_with fail
          rw [HC.out]
          refine (HDG.out _).mono ?_
          rintro e w1 ⟨rfl, rfl⟩
          go_wp2_with fail
          refine (HNU.out _).mono ?_
          rintro e w1 ⟨rfl, rfl⟩
          cases bn with
          | true =>
            have hbe := HBE.out
            rw [if_pos rfl] at hbe
            have HBE2 := Lib.hid hbe
            clear hbe
            go_wp2
            go_round
            case rel => exact ⟨k + 1, by omega, by go_num, by rw [HBE2.out]; go_num⟩
            case measure => simp [intOf]; omega
          | false =>
            have hbe := HBE.out
            rw [if_neg (by decide)] at hbe
            have HBE2 := Lib.hid hbe
            clear hbe
            go_wp2
            go_round
            case rel => exact ⟨k + 1, by omega, by go_num, by rw [HBE2.out]⟩
            case measure => simp [intOf]; omega
        by_cases e101 : c.toNat = 101
        · have q46 : ((c.toNat : Int) != 46) = true := by rw [bne_iff_ne]; omega
          have r46 : ((c.toNat : Int) == 46) = false := by rw [beq_eq_false_iff_ne]; omega
          have q101 : ((c.toNat : Int) != 101) = false := by rw [bne_eq_false_iff_eq]; omega
          have r101 : ((c.toNat : Int) == 101) = true := by rw [beq_iff_eq]; omega
          clear e101
          clear hdg
          go_wp2_with fail
          rw [HC.out]
          refine (HDG.out _).mono ?_
          rintro e w1 ⟨rfl, rfl⟩
          go_wp2_with fail
          refine (HNU.out _).mono ?_
          rintro e w1 ⟨rfl, rfl⟩
          cases bn with
          | true =>
            have hbe := HBE.out
            rw [if_pos rfl] at hbe
            have HBE2 := Lib.hid hbe
            clear hbe
            go_wp2
            go_round
            case rel => exact ⟨k + 1, by omega, by go_num, by rw [HBE2.out]; go_num⟩
            case measure => simp [intOf]; omega
          | false =>
            have hbe := HBE.out
            rw [if_neg (by decide)] at hbe
            have HBE2 := Lib.hid hbe
            clear hbe
            go_wp2
            go_round
            case rel => exact ⟨k + 1, by omega, by go_num, by rw [HBE2.out]⟩
            case measure => simp [intOf]; omega
        by_cases e69 : c.toNat = 69
        · have q46 : ((c.toNat : Int) != 46) = true := by rw [bne_iff_ne]; omega
          have r46 : ((c.toNat : Int) == 46) = false := by rw [beq_eq_false_iff_ne]; omega
          have q101 : ((c.toNat : Int) != 101) = true := by rw [bne_iff_ne]; omega
          have r101 : ((c.toNat : Int) == 101) = false := by rw [beq_eq_false_iff_ne]; omega
          have q69 : ((c.toNat : Int) != 69) = false := by rw [bne_eq_false_iff_eq]; omega
          have r69 : ((c.toNat : Int) == 69) = true := by rw [beq_iff_eq]; omega
          clear e69
          clear hdg
          go_wp2_with fail
          rw [HC.out]
          refine (HDG.out _).mono ?_
          rintro e w1 ⟨rfl, rfl⟩
          go_wp2_with fail
          refine (HNU.out _).mono ?_
          rintro e w1 ⟨rfl, rfl⟩
          cases bn with
          | true =>
            have hbe := HBE.out
            rw [if_pos rfl] at hbe
            have HBE2 := Lib.hid hbe
            clear hbe
            go_wp2
            go_round
            case rel => exact ⟨k + 1, by omega, by go_num, by rw [HBE2.out]; go_num⟩
            case measure => simp [intOf]; omega
          | false =>
            have hbe := HBE.out
            rw [if_neg (by decide)] at hbe
            have HBE2 := Lib.hid hbe
            clear hbe
            go_wp2
            go_round
            case rel => exact ⟨k + 1, by omega, by go_num, by rw [HBE2.out]⟩
            case measure => simp [intOf]; omega
        by_cases e43 : c.toNat = 43
        · have q46 : ((c.toNat : Int) != 46) = true := by rw [bne_iff_ne]; omega
          have r46 : ((c.toNat : Int) == 46) = false := by rw [beq_eq_false_iff_ne]; omega
          have q101 : ((c.toNat : Int) != 101) = true := by rw [bne_iff_ne]; omega
          have r101 : ((c.toNat : Int) == 101) = false := by rw [beq_eq_false_iff_ne]; omega
          have q69 : ((c.toNat : Int) != 69) = true := by rw [bne_iff_ne]; omega
          have r69 : ((c.toNat : Int) == 69) = false := by rw [beq_eq_false_iff_ne]; omega
          have q43 : ((c.toNat : Int) != 43) = false := by rw [bne_eq_false_iff_eq]; omega
          have r43 : ((c.toNat : Int) == 43) = true := by rw [beq_iff_eq]; omega
          clear e43
          clear hdg
          go_wp2_with fail
          rw [HC.out]
          refine (HDG.out _).mono ?_
          rintro e w1 ⟨rfl, rfl⟩
          go_wp2_with fail
          refine (HNU.out _).mono ?_
          rintro e w1 ⟨rfl, rfl⟩
          cases bn with
          | true =>
            have hbe := HBE.out
            rw [if_pos rfl] at hbe
            have HBE2 := Lib.hid hbe
            clear hbe
            go_wp2
            go_round
            case rel => exact ⟨k + 1, by omega, by go_num, by rw [HBE2.out]; go_num⟩
            case measure => simp [intOf]; omega
          | false =>
            have hbe := HBE.out
            rw [if_neg (by decide)] at hbe
            have HBE2 := Lib.hid hbe
            clear hbe
            go_wp2
            go_round
            case rel => exact ⟨k + 1, by omega, by go_num, by rw [HBE2.out]⟩
            case measure => simp [intOf]; omega
        by_cases e45 : c.toNat = 45
        · have q46 : ((c.toNat : Int) != 46) = true := by rw [bne_iff_ne]; omega
          have r46 : ((c.toNat : Int) == 46) = false := by rw [beq_eq_false_iff_ne]; omega
          have q101 : ((c.toNat : Int) != 101) = true := by rw [bne_iff_ne]; omega
          have r101 : ((c.toNat : Int) == 101) = false := by rw [beq_eq_false_iff_ne]; omega
          have q69 : ((c.toNat : Int) != 69) = true := by rw [bne_iff_ne]; omega
          have r69 : ((c.toNat : Int) == 69) = false := by rw [beq_eq_false_iff_ne]; omega
          have q43 : ((c.toNat : Int) != 43) = true := by rw [bne_iff_ne]; omega
          have r43 : ((c.toNat : Int) == 43) = false := by rw [beq_eq_false_iff_ne]; omega
          have q45 : ((c.toNat : Int) != 45) = false := by rw [bne_eq_false_iff_eq]; omega
          have r45 : ((c.toNat : Int) == 45) = true := by rw [beq_iff_eq]; omega
          clear e45
          clear hdg
          go_wp2_with fail
          rw [HC.out]
          refine (HDG.out _).mono ?_
          rintro e w1 ⟨rfl, rfl⟩
          go_wp2_with fail
          refine (HNU.out _).mono ?_
          rintro e w1 ⟨rfl, rfl⟩
          cases bn with
          | true =>
            have hbe := HBE.out
            rw [if_pos rfl] at hbe
            have HBE2 := Lib.hid hbe
            clear hbe
            go_wp2
            go_round
            case rel => exact ⟨k + 1, by omega, by go_num, by rw [HBE2.out]; go_num⟩
            case measure => simp [intOf]; omega
          | false =>
            have hbe := HBE.out
            rw [if_neg (by decide)] at hbe
            have HBE2 := Lib.hid hbe
            clear hbe
            go_wp2
            go_round
            case rel => exact ⟨k + 1, by omega, by go_num, by rw [HBE2.out]⟩
            case measure => simp [intOf]; omega
        have q46 : ((c.toNat : Int) != 46) = true := by rw [bne_iff_ne]; omega
        have r46 : ((c.toNat : Int) == 46) = false := by rw [beq_eq_false_iff_ne]; omega
        have q101 : ((c.toNat : Int) != 101) = true := by rw [bne_iff_ne]; omega
        have r101 : ((c.toNat : Int) == 101) = false := by rw [beq_eq_false_iff_ne]; omega
        have q69 : ((c.toNat : Int) != 69) = true := by rw [bne_iff_ne]; omega
        have r69 : ((c.toNat : Int) == 69) = false := by rw [beq_eq_false_iff_ne]; omega
        have q43 : ((c.toNat : Int) != 43) = true := by rw [bne_iff_ne]; omega
        have r43 : ((c.toNat : Int) == 43) = false := by rw [beq_eq_false_iff_ne]; omega
        have q45 : ((c.toNat : Int) != 45) = true := by rw [bne_iff_ne]; omega
        have r45 : ((c.toNat : Int) == 45) = false := by rw [beq_eq_false_iff_ne]; omega
        have hok : okC c = false := by
          unfold okC
          rw [hdg, Bool.false_or]
          unfold setP
          rw [List.contains_eq_mem, decide_eq_false_iff_not]
          intro hm
          simp only [List.mem_cons, List.not_mem_nil, or_false] at hm
          rcases hm with rfl | rfl | rfl | rfl | rfl
          · exact e46 rfl
          · exact e101 rfl
          · exact e69 rfl
          · exact e43 rfl
          · exact e45 rfl
        have hfin : bestF L k = numF L := best_num k (by omega) (num_stop HX.out hok)
        have HFIN := Lib.hid (hfin.trans HRR.out)
        clear hok hfin e46 e101 e69 e43 e45 hdg
        go_wp2_with fail
        rw [HC.out]
        refine (HDG.out _).mono ?_
        rintro e w1 ⟨rfl, rfl⟩
        go_wp2
        go_ret
        exact ⟨by rw [HFIN.out]; rfl, rfl⟩
    · have hi : ¬ (k : Int) + 1 ≤ (s.size : Int) := by omega
      have HFIN := Lib.hid ((best_num k (by omega) (by have := num_le L; omega)).trans HRR.out)
      go_wp2
      go_ret
      exact ⟨by rw [HFIN.out]; rfl, rfl⟩
end Go.Proofs.YtcnmghkmognhoaaDoor
