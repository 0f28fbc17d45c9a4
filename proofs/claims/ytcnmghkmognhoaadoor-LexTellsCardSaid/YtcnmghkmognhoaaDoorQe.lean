/- The document's side: marks. -/
import Derived.Test.YtcnmghkmognhoaaDoorQd
namespace Go.Proofs.YtcnmghkmognhoaaDoor
open Go.RowKit Go.Shelf

theorem row_split (l : List UInt8) (b : Nat) : isRowF (l.drop b) = (decide (1 ≤ runF digP (l.drop b)) && decide (runF digP (l.drop b) ≤ 7) && !(headP (fun x => x == 48) (l.drop b)) && decide (b + runF digP (l.drop b) = l.length)) := by
  have h1 := runF_le digP (l.drop b)
  have h2 : (l.drop b).length = l.length - b := List.length_drop
  unfold isRowF
  by_cases he : runF digP (l.drop b) = (l.drop b).length
  · rw [he, h2]
    by_cases h3 : 1 ≤ l.length - b
    · by_cases h4 : l.length - b ≤ 7
      · rw [decide_eq_true (And.intro h3 h4), decide_eq_true h3, decide_eq_true h4, decide_eq_true rfl, decide_eq_true (by omega)]; simp
      · rw [decide_eq_false (fun h => h4 h.2), decide_eq_false h4]; simp
    · rw [decide_eq_false (fun h => h3 h.1), decide_eq_false h3]; simp
  · rw [decide_eq_false he]
    by_cases h5 : b + runF digP (l.drop b) = l.length
    · exact absurd (by omega) he
    · rw [decide_eq_false h5]; simp
set_option maxRecDepth 100000 in
set_option maxHeartbeats 4000000 in
theorem rmark_any (s : ByteArray) (hs : s.size ≤ 100000) (w : World) : Calls Tryd.prog 29 #[.string s] w fun e w' => e = .returned (.bool (isMarkF s.data.toList)) ∧ w = w' := by
  obtain ⟨L, hL⟩ : ∃ L, s.data.toList = L := ⟨_, rfl⟩
  have hLs : L.length = s.size := by rw [← hL]; exact size_list s
  rw [hL]
  obtain ⟨R, hR⟩ : ∃ R, isMarkF L = R := ⟨_, rfl⟩
  rw [hR]
  by_cases hfx : headP (fun x => x == 36) L = true
  · have hlt : 0 < s.size := by
      rw [← hLs]
      cases L with
      | nil => simp [headP] at hfx
      | cons x t => simp
    have hdx := drop_get s 0 hlt
    rw [List.drop_zero, hL] at hdx
    have q0 : ((s[0].toNat : Int) == 36) = true := by
      rw [hdx] at hfx
      have : s[0] = 36 := by simpa [headP] using hfx
      rw [this]; decide
    have hcd : cutD L = L.drop 1 := by unfold cutD; rw [if_pos hfx]
    obtain ⟨n, hn⟩ : ∃ n, runF letP (L.drop 1) = n := ⟨_, rfl⟩
    obtain ⟨a, ha⟩ : ∃ a, 1 + n = a := ⟨_, rfl⟩
    have hRD : R = (if 3 < n then false else if n = 0 then true && isRowF (L.drop a) else if L.drop a = [] then true else isRowF (cutD (L.drop a))) := by
      rw [← hR]; unfold isMarkF; simp only [hfx, hcd, hn, List.drop_drop, ha]
    have has : a ≤ s.size := by
      have h1 := runF_le letP (L.drop 1)
      rw [hn, List.length_drop, hLs] at h1; omega
    have hae : (1 : Int) + (n : Int) = (a : Int) := by omega
    have hr0 : ∀ W, Calls Tryd.prog 66 #[.string s, .int .i64 1, .bool true] W fun e w' => e = .returned (.int .i64 (n : Int)) ∧ W = w' := fun W => by
      have := rrun_any s 1 (by omega) hs true W
      rw [if_pos rfl, hL, hn] at this
      exact this
    have hlti : (0 : Int) < (s.size : Int) := by omega
    have HRD := Lib.hid hRD
    have HL := Lib.hid hL
    have HLS := Lib.hid hLs
    have HR0 := Lib.hid hr0
    clear hR hRD hL hLs hr0 hn hcd hfx hdx ha
    go_enter Tryd.func29, Tryd.ntmps29
    go_wp2_with fail
    refine (HR0.out _).mono ?_
    rintro e w1 ⟨rfl, rfl⟩
    clear HR0
    by_cases h3 : 3 < n
    · have hRf : R = false := by rw [HRD.out, if_pos h3]
      have h3i : (3 : Int) < (n : Int) := by omega
      subst hRf
      clear h3 HRD
      go_wp2
      go_ret
      exact ⟨rfl, rfl⟩
    have h3i : ¬ (3 : Int) < (n : Int) := by omega
    have hRe := HRD.out
    rw [if_neg h3] at hRe
    clear HRD h3
    by_cases h0 : n = 0
    · rw [if_pos h0] at hRe
      have h0i : ((n : Int) == 0) = true := by rw [beq_iff_eq]; omega
      have h0j : ¬ (0 : Int) < (n : Int) := by omega
      rw [Bool.true_and] at hRe
      clear h0
      obtain ⟨b, rfl⟩ : ∃ b, b = a := ⟨_, rfl⟩
      have hbs : b ≤ s.size := by omega
      obtain ⟨m, hm⟩ : ∃ m, runF digP (L.drop b) = m := ⟨_, rfl⟩
      have hml : b + m ≤ s.size := by
        have h1 := runF_le digP (L.drop b)
        rw [hm, List.length_drop, HLS.out] at h1
        omega
      have hr2 : ∀ W, Calls Tryd.prog 66 #[.string s, .int .i64 (b : Int), .bool false] W fun e w' => e = .returned (.int .i64 (m : Int)) ∧ W = w' := fun W => by
        have := rrun_any s b hbs hs false W
        rw [if_neg (by decide), HL.out, hm] at this
        exact this
      have HR2 := Lib.hid hr2
      rw [row_split, hm, HLS.out] at hRe
      clear hr2 hm
      go_wp2_with fail
      refine (HR2.out _).mono ?_
      rintro e w2 ⟨rfl, rfl⟩
      clear HR2
      by_cases hm1 : 1 ≤ m
      rotate_left
      · have hmi : ¬ (1 : Int) ≤ (m : Int) := by omega
        have hRf : R = false := by rw [hRe, decide_eq_false hm1]; rfl
        subst hRf
        clear hm1 hRe
        go_wp2
        go_ret
        exact ⟨rfl, rfl⟩
      have hmi : (1 : Int) ≤ (m : Int) := by omega
      by_cases hm7 : m ≤ 7
      rotate_left
      · have hmj : ¬ (m : Int) ≤ 7 := by omega
        have hRf : R = false := by rw [hRe, decide_eq_false hm7, Bool.and_false]; rfl
        subst hRf
        clear hm7 hm1 hRe
        go_wp2
        go_ret
        exact ⟨rfl, rfl⟩
      have hmj : (m : Int) ≤ 7 := by omega
      have hblt : b < s.size := by omega
      have hbi : (b : Int) < (s.size : Int) := by omega
      have hbj : (0 : Int) ≤ (b : Int) := by omega
      have hdx := drop_get s b hblt
      rw [HL.out] at hdx
      obtain ⟨c9, hc9⟩ : ∃ c, s[b] = c := ⟨_, rfl⟩
      rw [hc9] at hdx
      rw [decide_eq_true hm1, decide_eq_true hm7, hdx] at hRe
      by_cases hz : c9 = 48
      · have hRf : R = false := by rw [hRe, hz]; rfl
        have hz' : ((s[b].toNat : Int) != 48) = false := by rw [hc9, hz]; decide
        subst hRf
        clear hm7 hm1 hRe hz hdx hc9
        go_wp2
        go_ret
        exact ⟨rfl, rfl⟩
      have hzn : c9.toNat ≠ 48 := fun e => hz (UInt8.toNat_inj.1 e)
      have hz' : ((s[b].toNat : Int) != 48) = true := by rw [hc9, bne_iff_ne]; omega
      have hRe2 : R = decide (b + m = s.size) := by
        rw [hRe]
        have : headP (fun x => x == 48) (c9 :: L.drop (b + 1)) = false := by simpa [headP] using hz
        rw [this]; rfl
      obtain ⟨tot, htot⟩ : ∃ k : Nat, b + m = k := ⟨_, rfl⟩
      rw [htot] at hRe2
      have htt : (b : Int) + (m : Int) = (tot : Int) := by omega
      have htc : (((tot : Int) == (s.size : Int)) = true ∧ R = true) ∨ (((tot : Int) == (s.size : Int)) = false ∧ R = false) := by
        by_cases h : tot = s.size
        · exact .inl ⟨by rw [beq_iff_eq]; omega, by rw [hRe2, decide_eq_true h]⟩
        · exact .inr ⟨by rw [beq_eq_false_iff_ne]; omega, by rw [hRe2, decide_eq_false h]⟩
      clear hRe2 hRe htot hz hzn hdx hc9 hm1 hm7
      rcases htc with ⟨hte, rfl⟩ | ⟨hte, rfl⟩
      all_goals
        go_wp2
        go_ret
        exact ⟨rfl, rfl⟩
    rw [if_neg h0] at hRe
    have h0i : ((n : Int) == 0) = false := by rw [beq_eq_false_iff_ne]; omega
    have h0j : (0 : Int) < (n : Int) := by omega
    by_cases hend : a = s.size
    · have hei : ((a : Int) == (s.size : Int)) = true := by rw [beq_iff_eq]; omega
      rw [List.drop_eq_nil_of_le (by rw [HLS.out]; omega), if_pos rfl] at hRe
      subst hRe
      clear hend h0
      go_wp2
      go_ret
      exact ⟨rfl, rfl⟩
    have hei : ((a : Int) == (s.size : Int)) = false := by rw [beq_eq_false_iff_ne]; omega
    have halt : a < s.size := by omega
    have hai : (a : Int) < (s.size : Int) := by omega
    have haj : (0 : Int) ≤ (a : Int) := by omega
    have hda := drop_get s a halt
    rw [HL.out] at hda
    obtain ⟨c8, hc8⟩ : ∃ c, s[a] = c := ⟨_, rfl⟩
    rw [hc8] at hda
    rw [if_neg (by rw [hda]; simp)] at hRe
    by_cases hd : c8 = 36
    · have hd' : ((s[a].toNat : Int) == 36) = true := by rw [hc8, hd]; decide
      obtain ⟨b, hb⟩ : ∃ b, a + 1 = b := ⟨_, rfl⟩
      have hbe : (a : Int) + 1 = (b : Int) := by omega
      have hbs : b ≤ s.size := by omega
      rw [hda, hd, show cutD (36 :: L.drop (a + 1)) = L.drop b by rw [← hb]; rfl] at hRe
      clear hd hda hc8 hb h0
      obtain ⟨m, hm⟩ : ∃ m, runF digP (L.drop b) = m := ⟨_, rfl⟩
      have hml : b + m ≤ s.size := by
        have h1 := runF_le digP (L.drop b)
        rw [hm, List.length_drop, HLS.out] at h1
        omega
      have hr2 : ∀ W, Calls Tryd.prog 66 #[.string s, .int .i64 (b : Int), .bool false] W fun e w' => e = .returned (.int .i64 (m : Int)) ∧ W = w' := fun W => by
        have := rrun_any s b hbs hs false W
        rw [if_neg (by decide), HL.out, hm] at this
        exact this
      have HR2 := Lib.hid hr2
      rw [row_split, hm, HLS.out] at hRe
      clear hr2 hm
      go_wp2_with fail
      refine (HR2.out _).mono ?_
      rintro e w2 ⟨rfl, rfl⟩
      clear HR2
      by_cases hm1 : 1 ≤ m
      rotate_left
      · have hmi : ¬ (1 : Int) ≤ (m : Int) := by omega
        have hRf : R = false := by rw [hRe, decide_eq_false hm1]; rfl
        subst hRf
        clear hm1 hRe
        go_wp2
        go_ret
        exact ⟨rfl, rfl⟩
      have hmi : (1 : Int) ≤ (m : Int) := by omega
      by_cases hm7 : m ≤ 7
      rotate_left
      · have hmj : ¬ (m : Int) ≤ 7 := by omega
        have hRf : R = false := by rw [hRe, decide_eq_false hm7, Bool.and_false]; rfl
        subst hRf
        clear hm7 hm1 hRe
        go_wp2
        go_ret
        exact ⟨rfl, rfl⟩
      have hmj : (m : Int) ≤ 7 := by omega
      have hblt : b < s.size := by omega
      have hbi : (b : Int) < (s.size : Int) := by omega
      have hbj : (0 : Int) ≤ (b : Int) := by omega
      have hdx := drop_get s b hblt
      rw [HL.out] at hdx
      obtain ⟨c9, hc9⟩ : ∃ c, s[b] = c := ⟨_, rfl⟩
      rw [hc9] at hdx
      rw [decide_eq_true hm1, decide_eq_true hm7, hdx] at hRe
      by_cases hz : c9 = 48
      · have hRf : R = false := by rw [hRe, hz]; rfl
        have hz' : ((s[b].toNat : Int) != 48) = false := by rw [hc9, hz]; decide
        subst hRf
        clear hm7 hm1 hRe hz hdx hc9
        go_wp2
        go_ret
        exact ⟨rfl, rfl⟩
      have hzn : c9.toNat ≠ 48 := fun e => hz (UInt8.toNat_inj.1 e)
      have hz' : ((s[b].toNat : Int) != 48) = true := by rw [hc9, bne_iff_ne]; omega
      have hRe2 : R = decide (b + m = s.size) := by
        rw [hRe]
        have : headP (fun x => x == 48) (c9 :: L.drop (b + 1)) = false := by simpa [headP] using hz
        rw [this]; rfl
      obtain ⟨tot, htot⟩ : ∃ k : Nat, b + m = k := ⟨_, rfl⟩
      rw [htot] at hRe2
      have htt : (b : Int) + (m : Int) = (tot : Int) := by omega
      have htc : (((tot : Int) == (s.size : Int)) = true ∧ R = true) ∨ (((tot : Int) == (s.size : Int)) = false ∧ R = false) := by
        by_cases h : tot = s.size
        · exact .inl ⟨by rw [beq_iff_eq]; omega, by rw [hRe2, decide_eq_true h]⟩
        · exact .inr ⟨by rw [beq_eq_false_iff_ne]; omega, by rw [hRe2, decide_eq_false h]⟩
      clear hRe2 hRe htot hz hzn hdx hc9 hm1 hm7
      rcases htc with ⟨hte, rfl⟩ | ⟨hte, rfl⟩
      all_goals
        go_wp2
        go_ret
        exact ⟨rfl, rfl⟩
    have hdn : c8.toNat ≠ 36 := fun e => hd (UInt8.toNat_inj.1 e)
    have hd' : ((s[a].toNat : Int) == 36) = false := by rw [hc8, beq_eq_false_iff_ne]; omega
    have hcut : cutD (L.drop a) = L.drop a  := by rw [hda]; unfold cutD; rw [if_neg (by simpa [headP] using hd)]
    rw [hcut] at hRe
    clear hd hdn hcut hda hc8 h0
    obtain ⟨b, rfl⟩ : ∃ b, b = a := ⟨_, rfl⟩
    have hbs : b ≤ s.size := by omega
    obtain ⟨m, hm⟩ : ∃ m, runF digP (L.drop b) = m := ⟨_, rfl⟩
    have hml : b + m ≤ s.size := by
      have h1 := runF_le digP (L.drop b)
      rw [hm, List.length_drop, HLS.out] at h1
      omega
    have hr2 : ∀ W, Calls Tryd.prog 66 #[.string s, .int .i64 (b : Int), .bool false] W fun e w' => e = .returned (.int .i64 (m : Int)) ∧ W = w' := fun W => by
      have := rrun_any s b hbs hs false W
      rw [if_neg (by decide), HL.out, hm] at this
      exact this
    have HR2 := Lib.hid hr2
    rw [row_split, hm, HLS.out] at hRe
    clear hr2 hm
    go_wp2_with fail
    refine (HR2.out _).mono ?_
    rintro e w2 ⟨rfl, rfl⟩
    clear HR2
    by_cases hm1 : 1 ≤ m
    rotate_left
    · have hmi : ¬ (1 : Int) ≤ (m : Int) := by omega
      have hRf : R = false := by rw [hRe, decide_eq_false hm1]; rfl
      subst hRf
      clear hm1 hRe
      go_wp2
      go_ret
      exact ⟨rfl, rfl⟩
    have hmi : (1 : Int) ≤ (m : Int) := by omega
    by_cases hm7 : m ≤ 7
    rotate_left
    · have hmj : ¬ (m : Int) ≤ 7 := by omega
      have hRf : R = false := by rw [hRe, decide_eq_false hm7, Bool.and_false]; rfl
      subst hRf
      clear hm7 hm1 hRe
      go_wp2
      go_ret
      exact ⟨rfl, rfl⟩
    have hmj : (m : Int) ≤ 7 := by omega
    have hblt : b < s.size := by omega
    have hbi : (b : Int) < (s.size : Int) := by omega
    have hbj : (0 : Int) ≤ (b : Int) := by omega
    have hdx := drop_get s b hblt
    rw [HL.out] at hdx
    obtain ⟨c9, hc9⟩ : ∃ c, s[b] = c := ⟨_, rfl⟩
    rw [hc9] at hdx
    rw [decide_eq_true hm1, decide_eq_true hm7, hdx] at hRe
    by_cases hz : c9 = 48
    · have hRf : R = false := by rw [hRe, hz]; rfl
      have hz' : ((s[b].toNat : Int) != 48) = false := by rw [hc9, hz]; decide
      subst hRf
      clear hm7 hm1 hRe hz hdx hc9
      go_wp2
      go_ret
      exact ⟨rfl, rfl⟩
    have hzn : c9.toNat ≠ 48 := fun e => hz (UInt8.toNat_inj.1 e)
    have hz' : ((s[b].toNat : Int) != 48) = true := by rw [hc9, bne_iff_ne]; omega
    have hRe2 : R = decide (b + m = s.size) := by
      rw [hRe]
      have : headP (fun x => x == 48) (c9 :: L.drop (b + 1)) = false := by simpa [headP] using hz
      rw [this]; rfl
    obtain ⟨tot, htot⟩ : ∃ k : Nat, b + m = k := ⟨_, rfl⟩
    rw [htot] at hRe2
    have htt : (b : Int) + (m : Int) = (tot : Int) := by omega
    have htc : (((tot : Int) == (s.size : Int)) = true ∧ R = true) ∨ (((tot : Int) == (s.size : Int)) = false ∧ R = false) := by
      by_cases h : tot = s.size
      · exact .inl ⟨by rw [beq_iff_eq]; omega, by rw [hRe2, decide_eq_true h]⟩
      · exact .inr ⟨by rw [beq_eq_false_iff_ne]; omega, by rw [hRe2, decide_eq_false h]⟩
    clear hRe2 hRe htot hz hzn hdx hc9 hm1 hm7
    rcases htc with ⟨hte, rfl⟩ | ⟨hte, rfl⟩
    all_goals
      go_wp2
      go_ret
      exact ⟨rfl, rfl⟩
  · have hfx' : headP (fun x => x == 36) L = false := by simpa using hfx
    have hno : (¬ (0 : Int) < (s.size : Int)) ∨ ((0 : Int) < (s.size : Int) ∧ ∃ hlt : 0 < s.size, ((s[0].toNat : Int) == 36) = false) := by
      by_cases hlt : 0 < s.size
      · refine .inr ⟨by omega, hlt, ?_⟩
        have hdx := drop_get s 0 hlt
        rw [List.drop_zero, hL] at hdx
        rw [hdx] at hfx'
        have h1 : s[0] ≠ 36 := by simpa [headP] using hfx'
        have h2 : s[0].toNat ≠ 36 := fun e => h1 (UInt8.toNat_inj.1 e)
        rw [beq_eq_false_iff_ne]; omega
      · exact .inl (by omega)
    have hcd : cutD L = L := by unfold cutD; rw [if_neg hfx]
    obtain ⟨n, hn⟩ : ∃ n, runF letP L = n := ⟨_, rfl⟩
    have hRD : R = (if 3 < n then false else if n = 0 then false && isRowF (L.drop n) else if L.drop n = [] then false else isRowF (cutD (L.drop n))) := by
      rw [← hR]; unfold isMarkF; simp only [hfx', hcd, hn]
    have has : n ≤ s.size := by
      have h1 := runF_le letP L
      rw [hn, hLs] at h1; omega
    have hr0 : ∀ W, Calls Tryd.prog 66 #[.string s, .int .i64 0, .bool true] W fun e w' => e = .returned (.int .i64 (n : Int)) ∧ W = w' := fun W => by
      have := rrun_any s 0 (by omega) hs true W
      rw [if_pos rfl, List.drop_zero, hL, hn] at this
      exact this
    have HRD := Lib.hid hRD
    have HL := Lib.hid hL
    have HLS := Lib.hid hLs
    have HR0 := Lib.hid hr0
    clear hR hRD hL hLs hr0 hn hcd hfx hfx'
    rcases hno with hno | ⟨hlti, hlt, q0⟩
    · have hn0 : n = 0 := by omega
      have hRf : R = false := by rw [HRD.out, hn0]; rfl
      have h0i : ((n : Int) == 0) = true := by rw [beq_iff_eq]; omega
      have h0j : ¬ (0 : Int) < (n : Int) := by omega
      have h3i : ¬ (3 : Int) < (n : Int) := by omega
      subst hRf
      clear hn0 HRD
      go_enter Tryd.func29, Tryd.ntmps29
      go_wp2_with fail
      refine (HR0.out _).mono ?_
      rintro e w1 ⟨rfl, rfl⟩
      clear HR0
      go_wp2
      go_ret
      exact ⟨rfl, rfl⟩
    · go_enter Tryd.func29, Tryd.ntmps29
      go_wp2_with fail
      refine (HR0.out _).mono ?_
      rintro e w1 ⟨rfl, rfl⟩
      clear HR0
      by_cases h3 : 3 < n
      · have hRf : R = false := by rw [HRD.out, if_pos h3]
        have h3i : (3 : Int) < (n : Int) := by omega
        subst hRf
        clear h3 HRD
        go_wp2
        all_goals go_ret
        all_goals exact ⟨rfl, rfl⟩
      have h3i : ¬ (3 : Int) < (n : Int) := by omega
      have hRe := HRD.out
      rw [if_neg h3] at hRe
      clear HRD h3
      by_cases h0 : n = 0
      · rw [if_pos h0] at hRe
        have h0i : ((n : Int) == 0) = true := by rw [beq_iff_eq]; omega
        have h0j : ¬ (0 : Int) < (n : Int) := by omega
        rw [Bool.false_and] at hRe
        subst hRe
        clear h0
        go_wp2
        all_goals go_ret
        all_goals exact ⟨rfl, rfl⟩
      rw [if_neg h0] at hRe
      have h0i : ((n : Int) == 0) = false := by rw [beq_eq_false_iff_ne]; omega
      have h0j : (0 : Int) < (n : Int) := by omega
      by_cases hend : n = s.size
      · have hei : ((n : Int) == (s.size : Int)) = true := by rw [beq_iff_eq]; omega
        rw [List.drop_eq_nil_of_le (by rw [HLS.out]; omega), if_pos rfl] at hRe
        subst hRe
        clear hend h0
        go_wp2
        all_goals go_ret
        all_goals exact ⟨rfl, rfl⟩
      have hei : ((n : Int) == (s.size : Int)) = false := by rw [beq_eq_false_iff_ne]; omega
      have halt : n < s.size := by omega
      have hai : (n : Int) < (s.size : Int) := by omega
      have haj : (0 : Int) ≤ (n : Int) := by omega
      have hda := drop_get s n halt
      rw [HL.out] at hda
      obtain ⟨c8, hc8⟩ : ∃ c, s[n] = c := ⟨_, rfl⟩
      rw [hc8] at hda
      rw [if_neg (by rw [hda]; simp)] at hRe
      by_cases hd : c8 = 36
      · have hd' : ((s[n].toNat : Int) == 36) = true := by rw [hc8, hd]; decide
        obtain ⟨b, hb⟩ : ∃ b, n + 1 = b := ⟨_, rfl⟩
        have hbe : (n : Int) + 1 = (b : Int) := by omega
        have hbs : b ≤ s.size := by omega
        rw [hda, hd, show cutD (36 :: L.drop (n + 1)) = L.drop b by rw [← hb]; rfl] at hRe
        clear hd hda hc8 hb h0
        obtain ⟨m, hm⟩ : ∃ m, runF digP (L.drop b) = m := ⟨_, rfl⟩
        have hml : b + m ≤ s.size := by
          have h1 := runF_le digP (L.drop b)
          rw [hm, List.length_drop, HLS.out] at h1
          omega
        have hr2 : ∀ W, Calls Tryd.prog 66 #[.string s, .int .i64 (b : Int), .bool false] W fun e w' => e = .returned (.int .i64 (m : Int)) ∧ W = w' := fun W => by
          have := rrun_any s b hbs hs false W
          rw [if_neg (by decide), HL.out, hm] at this
          exact this
        have HR2 := Lib.hid hr2
        rw [row_split, hm, HLS.out] at hRe
        clear hr2 hm
        go_wp2_with fail
        refine (HR2.out _).mono ?_
        rintro e w2 ⟨rfl, rfl⟩
        clear HR2
        by_cases hm1 : 1 ≤ m
        rotate_left
        · have hmi : ¬ (1 : Int) ≤ (m : Int) := by omega
          have hRf : R = false := by rw [hRe, decide_eq_false hm1]; rfl
          subst hRf
          clear hm1 hRe
          go_wp2
          all_goals go_ret
          all_goals exact ⟨rfl, rfl⟩
        have hmi : (1 : Int) ≤ (m : Int) := by omega
        by_cases hm7 : m ≤ 7
        rotate_left
        · have hmj : ¬ (m : Int) ≤ 7 := by omega
          have hRf : R = false := by rw [hRe, decide_eq_false hm7, Bool.and_false]; rfl
          subst hRf
          clear hm7 hm1 hRe
          go_wp2
          all_goals go_ret
          all_goals exact ⟨rfl, rfl⟩
        have hmj : (m : Int) ≤ 7 := by omega
        have hblt : b < s.size := by omega
        have hbi : (b : Int) < (s.size : Int) := by omega
        have hbj : (0 : Int) ≤ (b : Int) := by omega
        have hdx := drop_get s b hblt
        rw [HL.out] at hdx
        obtain ⟨c9, hc9⟩ : ∃ c, s[b] = c := ⟨_, rfl⟩
        rw [hc9] at hdx
        rw [decide_eq_true hm1, decide_eq_true hm7, hdx] at hRe
        by_cases hz : c9 = 48
        · have hRf : R = false := by rw [hRe, hz]; rfl
          have hz' : ((s[b].toNat : Int) != 48) = false := by rw [hc9, hz]; decide
          subst hRf
          clear hm7 hm1 hRe hz hdx hc9
          go_wp2
          all_goals go_ret
          all_goals exact ⟨rfl, rfl⟩
        have hzn : c9.toNat ≠ 48 := fun e => hz (UInt8.toNat_inj.1 e)
        have hz' : ((s[b].toNat : Int) != 48) = true := by rw [hc9, bne_iff_ne]; omega
        have hRe2 : R = decide (b + m = s.size) := by
          rw [hRe]
          have : headP (fun x => x == 48) (c9 :: L.drop (b + 1)) = false := by simpa [headP] using hz
          rw [this]; rfl
        obtain ⟨tot, htot⟩ : ∃ k : Nat, b + m = k := ⟨_, rfl⟩
        rw [htot] at hRe2
        have htt : (b : Int) + (m : Int) = (tot : Int) := by omega
        have htc : (((tot : Int) == (s.size : Int)) = true ∧ R = true) ∨ (((tot : Int) == (s.size : Int)) = false ∧ R = false) := by
          by_cases h : tot = s.size
          · exact .inl ⟨by rw [beq_iff_eq]; omega, by rw [hRe2, decide_eq_true h]⟩
          · exact .inr ⟨by rw [beq_eq_false_iff_ne]; omega, by rw [hRe2, decide_eq_false h]⟩
        clear hRe2 hRe htot hz hzn hdx hc9 hm1 hm7
        rcases htc with ⟨hte, rfl⟩ | ⟨hte, rfl⟩
        all_goals
          go_wp2
          all_goals go_ret
          all_goals exact ⟨rfl, rfl⟩
      have hdn : c8.toNat ≠ 36 := fun e => hd (UInt8.toNat_inj.1 e)
      have hd' : ((s[n].toNat : Int) == 36) = false := by rw [hc8, beq_eq_false_iff_ne]; omega
      have hcut : cutD (L.drop n) = L.drop n  := by rw [hda]; unfold cutD; rw [if_neg (by simpa [headP] using hd)]
      rw [hcut] at hRe
      clear hd hdn hcut hda hc8 h0
      obtain ⟨b, rfl⟩ : ∃ b, b = n := ⟨_, rfl⟩
      have hbs : b ≤ s.size := by omega
      obtain ⟨m, hm⟩ : ∃ m, runF digP (L.drop b) = m := ⟨_, rfl⟩
      have hml : b + m ≤ s.size := by
        have h1 := runF_le digP (L.drop b)
        rw [hm, List.length_drop, HLS.out] at h1
        omega
      have hr2 : ∀ W, Calls Tryd.prog 66 #[.string s, .int .i64 (b : Int), .bool false] W fun e w' => e = .returned (.int .i64 (m : Int)) ∧ W = w' := fun W => by
        have := rrun_any s b hbs hs false W
        rw [if_neg (by decide), HL.out, hm] at this
        exact this
      have HR2 := Lib.hid hr2
      rw [row_split, hm, HLS.out] at hRe
      clear hr2 hm
      go_wp2_with fail
      refine (HR2.out _).mono ?_
      rintro e w2 ⟨rfl, rfl⟩
      clear HR2
      by_cases hm1 : 1 ≤ m
      rotate_left
      · have hmi : ¬ (1 : Int) ≤ (m : Int) := by omega
        have hRf : R = false := by rw [hRe, decide_eq_false hm1]; rfl
        subst hRf
        clear hm1 hRe
        go_wp2
        all_goals go_ret
        all_goals exact ⟨rfl, rfl⟩
      have hmi : (1 : Int) ≤ (m : Int) := by omega
      by_cases hm7 : m ≤ 7
      rotate_left
      · have hmj : ¬ (m : Int) ≤ 7 := by omega
        have hRf : R = false := by rw [hRe, decide_eq_false hm7, Bool.and_false]; rfl
        subst hRf
        clear hm7 hm1 hRe
        go_wp2
        all_goals go_ret
        all_goals exact ⟨rfl, rfl⟩
      have hmj : (m : Int) ≤ 7 := by omega
      have hblt : b < s.size := by omega
      have hbi : (b : Int) < (s.size : Int) := by omega
      have hbj : (0 : Int) ≤ (b : Int) := by omega
      have hdx := drop_get s b hblt
      rw [HL.out] at hdx
      obtain ⟨c9, hc9⟩ : ∃ c, s[b] = c := ⟨_, rfl⟩
      rw [hc9] at hdx
      rw [decide_eq_true hm1, decide_eq_true hm7, hdx] at hRe
      by_cases hz : c9 = 48
      · have hRf : R = false := by rw [hRe, hz]; rfl
        have hz' : ((s[b].toNat : Int) != 48) = false := by rw [hc9, hz]; decide
        subst hRf
        clear hm7 hm1 hRe hz hdx hc9
        go_wp2
        all_goals go_ret
        all_goals exact ⟨rfl, rfl⟩
      have hzn : c9.toNat ≠ 48 := fun e => hz (UInt8.toNat_inj.1 e)
      have hz' : ((s[b].toNat : Int) != 48) = true := by rw [hc9, bne_iff_ne]; omega
      have hRe2 : R = decide (b + m = s.size) := by
        rw [hRe]
        have : headP (fun x => x == 48) (c9 :: L.drop (b + 1)) = false := by simpa [headP] using hz
        rw [this]; rfl
      obtain ⟨tot, htot⟩ : ∃ k : Nat, b + m = k := ⟨_, rfl⟩
      rw [htot] at hRe2
      have htt : (b : Int) + (m : Int) = (tot : Int) := by omega
      have htc : (((tot : Int) == (s.size : Int)) = true ∧ R = true) ∨ (((tot : Int) == (s.size : Int)) = false ∧ R = false) := by
        by_cases h : tot = s.size
        · exact .inl ⟨by rw [beq_iff_eq]; omega, by rw [hRe2, decide_eq_true h]⟩
        · exact .inr ⟨by rw [beq_eq_false_iff_ne]; omega, by rw [hRe2, decide_eq_false h]⟩
      clear hRe2 hRe htot hz hzn hdx hc9 hm1 hm7
      rcases htc with ⟨hte, rfl⟩ | ⟨hte, rfl⟩
      all_goals
        go_wp2
        all_goals go_ret
        all_goals exact ⟨rfl, rfl⟩
end Go.Proofs.YtcnmghkmognhoaaDoor
