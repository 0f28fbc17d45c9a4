/- The document's side: words. -/
import Derived.Test.YtcnmghkmognhoaaDoorQa
namespace Go.Proofs.YtcnmghkmognhoaaDoor
open Go.RowKit Go.Shelf

set_option maxRecDepth 100000 in
set_option maxHeartbeats 4000000 in
theorem rword_loop (s : ByteArray) (hs : s.size ≤ 100000) (w : World) (hf : headP fstP s.data.toList = true) : Calls Tryd.prog 63 #[.string s] w fun e w' => e = .returned (.int .i64 (wordF s.data.toList : Nat)) ∧ w = w' := by
  obtain ⟨L, hL⟩ : ∃ L, s.data.toList = L := ⟨_, rfl⟩
  have hLs : L.length = s.size := by rw [← hL]; exact size_list s
  rw [hL] at hf ⊢
  obtain ⟨R, hR⟩ : ∃ R, runF wrdP L = R := ⟨_, rfl⟩
  have hw : wordF L = R := by unfold wordF; rw [if_pos hf, hR]
  rw [hw]
  have hlt : 0 < s.size := by
    rw [← hLs]
    cases L with
    | nil => simp [headP] at hf
    | cons x t => simp
  have hne : ¬ s.toList = [] := by rw [ByteArray.toList_eq, hL]; intro e; rw [e] at hLs; simp at hLs; omega
  have hne2 : s.toList.isEmpty = false := by rw [List.isEmpty_eq_false_iff]; exact hne
  have hdx := drop_get s 0 hlt
  rw [List.drop_zero, hL] at hdx
  obtain ⟨c0, hc0⟩ : ∃ c, s[0] = c := ⟨_, rfl⟩
  rw [hc0] at hdx
  have hf0 : fstP c0 = true := by rw [hdx] at hf; exact hf
  have hfc : letP c0 = true ∨ (letP c0 = false ∧ (((s[0]'hlt).toNat : Int) != 95) = false) ∨ (letP c0 = false ∧ (((s[0]'hlt).toNat : Int) != 95) = true ∧ (((s[0]'hlt).toNat : Int) != 36) = false) := by
    rw [hc0]
    unfold fstP at hf0
    rw [Bool.or_eq_true] at hf0
    rcases hf0 with h | h
    · exact .inl h
    · have : c0 = 95 ∨ c0 = 36 := by simpa [setP] using h
      rcases this with rfl | rfl
      · exact .inr (.inl ⟨by decide, by decide⟩)
      · exact .inr (.inr ⟨by decide, by decide, by decide⟩)
  have HC0 := Lib.hid hc0
  have HL := Lib.hid hL
  have HLS := Lib.hid hLs
  have HR := Lib.hid hR
  have HLT0 := Lib.hid (fun W => letter_any c0 W)
  have hlti : (0 : Int) < (s.size : Int) := by omega
  clear hL hf hR hw hdx hc0 hf0
  rcases hfc with h | ⟨h, h95⟩ | ⟨h, h95, h36⟩
  all_goals
    rw [h] at HLT0
    clear h
    go_enter Tryd.func63, Tryd.ntmps63
    go_wp2_with fail
    rw [HC0.out]
    refine (HLT0.out _).mono ?_
    rintro e w1 ⟨rfl, rfl⟩
    go_wp2_with fail
    clear HLT0
    go_loop [3] (fun n => ∃ k : Nat, k ≤ s.size ∧ n = .int .i64 (k : Int) ∧ Hid (k + runF wrdP (L.drop k) = R)) (fun n => s.size - (intOf n).toNat)
    case atStart => exact ⟨0, by omega, rfl, Lib.hid (by rw [List.drop_zero, HR.out]; omega)⟩
    case round =>
      obtain ⟨k, hk, rfl, HD⟩ := hrel
      by_cases hlt : k < s.size
      · have hi1 : (k : Int) < (s.size : Int) := by omega
        have hi0 : (0 : Int) ≤ (k : Int) := by omega
        have hdx := drop_get s k hlt
        rw [HL.out] at hdx
        obtain ⟨c, hc⟩ : ∃ c, s[k] = c := ⟨_, rfl⟩
        rw [hc] at hdx
        have hd := HD.out
        rw [hdx, runF] at hd
        have HDD := Lib.hid hd
        have HC := Lib.hid hc
        obtain ⟨lt, hlt9⟩ : ∃ b, letP c = b := ⟨_, rfl⟩
        obtain ⟨dg, hdg9⟩ : ∃ b, digP c = b := ⟨_, rfl⟩
        have HDG := Lib.hid (fun W => digit_any c W)
        have HLT := Lib.hid (fun W => letter_any c W)
        rw [hdg9] at HDG
        rw [hlt9] at HLT
        clear hdx hc hd HD
        cases lt with
        | true =>
          have HD2 : Hid (k + 1 + runF wrdP (L.drop (k + 1)) = R) := Lib.hid (by rw [← HDD.out, if_pos (by unfold wrdP; rw [hlt9]; rfl)]; omega)
          clear hlt9 hdg9
          go_wp2_with fail
          rw [HC.out]
          refine (HLT.out _).mono ?_
          rintro e w1 ⟨rfl, rfl⟩
          go_wp2_with fail
          go_round
          case rel => exact ⟨k + 1, by omega, by go_num, HD2⟩
          case measure => simp [intOf]; omega
        | false =>
          cases dg with
          | true =>
            have HD2 : Hid (k + 1 + runF wrdP (L.drop (k + 1)) = R) := Lib.hid (by rw [← HDD.out, if_pos (by unfold wrdP; rw [hdg9]; simp)]; omega)
            clear hlt9 hdg9
            go_wp2_with fail
            rw [HC.out]
            refine (HLT.out _).mono ?_
            rintro e w1 ⟨rfl, rfl⟩
            go_wp2_with fail
            rw [HC.out]
            refine (HDG.out _).mono ?_
            rintro e w1 ⟨rfl, rfl⟩
            go_wp2_with fail
            go_round
            case rel => exact ⟨k + 1, by omega, by go_num, HD2⟩
            case measure => simp [intOf]; omega
          | false =>
            by_cases e95 : c.toNat = 95
            · have HD2 : Hid (k + 1 + runF wrdP (L.drop (k + 1)) = R) := Lib.hid (by rw [← HDD.out, if_pos (by unfold wrdP; rw [show c = 95 from UInt8.toNat_inj.1 e95]; rfl)]; omega)
              have q95 : (((s[k]'hlt).toNat : Int) != 95) = false := by rw [HC.out, bne_eq_false_iff_eq]; omega
              have r95 : (((s[k]'hlt).toNat : Int) == 95) = true := by rw [HC.out, beq_iff_eq]; omega
              clear e95 hlt9 hdg9
              go_wp2_with fail
              rw [HC.out]
              refine (HLT.out _).mono ?_
              rintro e w1 ⟨rfl, rfl⟩
              go_wp2_with fail
              rw [HC.out]
              refine (HDG.out _).mono ?_
              rintro e w1 ⟨rfl, rfl⟩
              go_wp2_with fail
              go_round
              case rel => exact ⟨k + 1, by omega, by go_num, HD2⟩
              case measure => simp [intOf]; omega
            by_cases e46 : c.toNat = 46
            · have HD2 : Hid (k + 1 + runF wrdP (L.drop (k + 1)) = R) := Lib.hid (by rw [← HDD.out, if_pos (by unfold wrdP; rw [show c = 46 from UInt8.toNat_inj.1 e46]; rfl)]; omega)
              have q95 : (((s[k]'hlt).toNat : Int) != 95) = true := by rw [HC.out, bne_iff_ne]; omega
              have r95 : (((s[k]'hlt).toNat : Int) == 95) = false := by rw [HC.out, beq_eq_false_iff_ne]; omega
              have q46 : (((s[k]'hlt).toNat : Int) != 46) = false := by rw [HC.out, bne_eq_false_iff_eq]; omega
              have r46 : (((s[k]'hlt).toNat : Int) == 46) = true := by rw [HC.out, beq_iff_eq]; omega
              clear e46 hlt9 hdg9
              go_wp2_with fail
              rw [HC.out]
              refine (HLT.out _).mono ?_
              rintro e w1 ⟨rfl, rfl⟩
              go_wp2_with fail
              rw [HC.out]
              refine (HDG.out _).mono ?_
              rintro e w1 ⟨rfl, rfl⟩
              go_wp2_with fail
              go_round
              case rel => exact ⟨k + 1, by omega, by go_num, HD2⟩
              case measure => simp [intOf]; omega
            by_cases e36 : c.toNat = 36
            · have HD2 : Hid (k + 1 + runF wrdP (L.drop (k + 1)) = R) := Lib.hid (by rw [← HDD.out, if_pos (by unfold wrdP; rw [show c = 36 from UInt8.toNat_inj.1 e36]; rfl)]; omega)
              have q95 : (((s[k]'hlt).toNat : Int) != 95) = true := by rw [HC.out, bne_iff_ne]; omega
              have r95 : (((s[k]'hlt).toNat : Int) == 95) = false := by rw [HC.out, beq_eq_false_iff_ne]; omega
              have q46 : (((s[k]'hlt).toNat : Int) != 46) = true := by rw [HC.out, bne_iff_ne]; omega
              have r46 : (((s[k]'hlt).toNat : Int) == 46) = false := by rw [HC.out, beq_eq_false_iff_ne]; omega
              have q36 : (((s[k]'hlt).toNat : Int) != 36) = false := by rw [HC.out, bne_eq_false_iff_eq]; omega
              have r36 : (((s[k]'hlt).toNat : Int) == 36) = true := by rw [HC.out, beq_iff_eq]; omega
              clear e36 hlt9 hdg9
              go_wp2_with fail
              rw [HC.out]
              refine (HLT.out _).mono ?_
              rintro e w1 ⟨rfl, rfl⟩
              go_wp2_with fail
              rw [HC.out]
              refine (HDG.out _).mono ?_
              rintro e w1 ⟨rfl, rfl⟩
              go_wp2_with fail
              go_round
              case rel => exact ⟨k + 1, by omega, by go_num, HD2⟩
              case measure => simp [intOf]; omega
            have hno : wrdP c = false := by
              unfold wrdP
              rw [hlt9, hdg9, Bool.false_or, Bool.false_or]
              unfold setP
              rw [List.contains_eq_mem, decide_eq_false_iff_not]
              intro hm
              simp only [List.mem_cons, List.not_mem_nil, or_false] at hm
              rcases hm with rfl | rfl | rfl
              · exact e95 rfl
              · exact e46 rfl
              · exact e36 rfl
            have HD2 : Hid (R = k) := Lib.hid (by rw [← HDD.out, hno, if_neg (by decide)]; omega)
            have q95 : (((s[k]'hlt).toNat : Int) != 95) = true := by rw [HC.out, bne_iff_ne]; omega
            have r95 : (((s[k]'hlt).toNat : Int) == 95) = false := by rw [HC.out, beq_eq_false_iff_ne]; omega
            have q46 : (((s[k]'hlt).toNat : Int) != 46) = true := by rw [HC.out, bne_iff_ne]; omega
            have r46 : (((s[k]'hlt).toNat : Int) == 46) = false := by rw [HC.out, beq_eq_false_iff_ne]; omega
            have q36 : (((s[k]'hlt).toNat : Int) != 36) = true := by rw [HC.out, bne_iff_ne]; omega
            have r36 : (((s[k]'hlt).toNat : Int) == 36) = false := by rw [HC.out, beq_eq_false_iff_ne]; omega
            clear hno e95 e46 e36 hlt9 hdg9
            go_wp2_with fail
            rw [HC.out]
            refine (HLT.out _).mono ?_
            rintro e w1 ⟨rfl, rfl⟩
            go_wp2_with fail
            rw [HC.out]
            refine (HDG.out _).mono ?_
            rintro e w1 ⟨rfl, rfl⟩
            go_wp2
            go_ret
            exact ⟨by rw [HD2.out]; rfl, rfl⟩
      · have hi : ¬ (k : Int) < (s.size : Int) := by omega
        have hd := HD.out
        rw [List.drop_eq_nil_of_le (by rw [HLS.out]; omega), runF] at hd
        have HD2 : Hid (R = k) := Lib.hid (by omega)
        clear hd HD
        go_wp2
        go_ret
        exact ⟨by rw [HD2.out]; rfl, rfl⟩
theorem rword_any (s : ByteArray) (hs : s.size ≤ 100000) (w : World) : Calls Tryd.prog 63 #[.string s] w fun e w' => e = .returned (.int .i64 (wordF s.data.toList : Nat)) ∧ w = w' := by
  by_cases hf : headP fstP s.data.toList = true
  · exact rword_loop s hs w hf
  · have hw : wordF s.data.toList = 0 := by unfold wordF; rw [if_neg hf]
    rw [hw]
    by_cases hlt : 0 < s.size
    · have hdx := drop_get s 0 hlt
      rw [List.drop_zero] at hdx
      have hne : ¬ s.toList = [] := by rw [ByteArray.toList_eq, hdx]; simp
      have hne2 : s.toList.isEmpty = false := by rw [List.isEmpty_eq_false_iff]; exact hne
      obtain ⟨c, hc⟩ : ∃ c, s[0] = c := ⟨_, rfl⟩
      rw [hc] at hdx
      have hfc : fstP c = false := by rw [hdx] at hf; simpa [headP] using hf
      unfold fstP at hfc
      rw [Bool.or_eq_false_iff] at hfc
      have h95 : c.toNat ≠ 95 := fun e => by
        rw [show c = 95 from UInt8.toNat_inj.1 e] at hfc
        cases hfc.2
      have h36 : c.toNat ≠ 36 := fun e => by
        rw [show c = 36 from UInt8.toNat_inj.1 e] at hfc
        cases hfc.2
      have q95 : (((s[0]'hlt).toNat : Int) != 95) = true := by rw [hc, bne_iff_ne]; omega
      have q36 : (((s[0]'hlt).toNat : Int) != 36) = true := by rw [hc, bne_iff_ne]; omega
      have HLT := Lib.hid (fun W => letter_any c W)
      rw [hfc.1] at HLT
      have HC := Lib.hid hc
      have hlti : (0 : Int) < (s.size : Int) := by omega
      clear hf hw hdx hc hfc h95 h36
      go_enter Tryd.func63, Tryd.ntmps63
      go_wp2_with fail
      rw [HC.out]
      refine (HLT.out _).mono ?_
      rintro e w1 ⟨rfl, rfl⟩
      go_wp2
      go_ret
      exact ⟨rfl, rfl⟩
    · have he : s = ⟨#[]⟩ := str_nil (by omega)
      have hne : s.toList = [] := by rw [ByteArray.toList_eq, he]
      have hne2 : s.toList.isEmpty = true := by rw [hne]; rfl
      clear hf hw he hlt
      go_enter Tryd.func63, Tryd.ntmps63
      go_wp2
      go_ret
      exact ⟨rfl, rfl⟩
end Go.Proofs.YtcnmghkmognhoaaDoor
