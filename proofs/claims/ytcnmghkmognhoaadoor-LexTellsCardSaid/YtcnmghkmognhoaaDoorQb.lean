/- The document's side: numbers. -/
import Derived.Test.YtcnmghkmognhoaaDoorQa
import Derived.Test.YtcnmghkmognhoaaDoorMn
namespace Go.Proofs.YtcnmghkmognhoaaDoor
open Go.RowKit Go.Shelf

set_option maxRecDepth 100000 in
set_option maxHeartbeats 4000000 in
theorem isnum_any (s : ByteArray) (hs : s.size ≤ 100000) (w : World) : Calls Tryd.prog 27 #[.string s] w fun e w' => e = .returned (.bool (isNumF s.data.toList)) ∧ w = w' := by
  obtain ⟨L, hL⟩ : ∃ L, s.data.toList = L := ⟨_, rfl⟩
  have hLs : L.length = s.size := by rw [← hL]; exact size_list s
  rw [hL]
  obtain ⟨R, hR⟩ : ∃ R, isNumF L = R := ⟨_, rfl⟩
  rw [hR]
  have hRD : R = ((if dotF L = true then decide (0 < frcF L) else decide (runF digP L ≠ 0)) && (if expF L = true then decide (0 < m2F L) && decide (numA L + 1 + sgnF L + m2F L = s.size) else decide (numA L = s.size))) := by rw [← hR, ← hLs]; rfl
  obtain ⟨n0, hn0⟩ : ∃ n, runF digP L = n := ⟨_, rfl⟩
  have hn0s : n0 ≤ s.size := by rw [← hn0, ← hLs]; exact runF_le _ _
  have hr0 : ∀ W, Calls Tryd.prog 66 #[.string s, .int .i64 0, .bool false] W fun e w' => e = .returned (.int .i64 (n0 : Int)) ∧ W = w' := fun W => by
    have := rrun_any s 0 (by omega) hs false W
    rw [if_neg (by decide), List.drop_zero, hL, hn0] at this
    exact this
  rw [hn0] at hRD
  have HRD := Lib.hid hRD
  have HL := Lib.hid hL
  have HLS := Lib.hid hLs
  have HN0 := Lib.hid hn0
  have HR0 := Lib.hid hr0
  clear hR hRD hL hLs hn0 hr0
  go_enter Tryd.func27, Tryd.ntmps27
  go_wp2_with fail
  refine (HR0.out _).mono ?_
  rintro e w1 ⟨rfl, rfl⟩
  clear HR0
  have hd0i : (0 : Int) ≤ (n0 : Int) := by omega
  by_cases hdot : dotF L = true
  · have hlt := dot_lt hdot
    rw [HN0.out, HLS.out] at hlt
    have hlti : (n0 : Int) < (s.size : Int) := by omega
    have hdx := drop_get s n0 hlt
    rw [HL.out] at hdx
    obtain ⟨c, hc⟩ : ∃ c, s[n0] = c := ⟨_, rfl⟩
    rw [hc] at hdx
    have hc46 : c = 46 := by
      have h9 := hdot
      unfold dotF at h9
      rw [HN0.out, hdx] at h9
      simpa [headP, setP] using h9
    have q0 : ((s[n0].toNat : Int) == 46) = true := by rw [hc, hc46]; decide
    obtain ⟨m, hm⟩ : ∃ m, frcF L = m := ⟨_, rfl⟩
    have hmm := hm
    unfold frcF at hmm
    rw [HN0.out] at hmm
    have hml : n0 + 1 + m ≤ s.size := by
      have h1 := runF_le digP (L.drop (n0 + 1))
      rw [hmm, List.length_drop, HLS.out] at h1
      omega
    have hr1 : ∀ W, Calls Tryd.prog 66 #[.string s, .int .i64 ((n0 : Int) + 1), .bool false] W fun e w' => e = .returned (.int .i64 (m : Int)) ∧ W = w' := fun W => by
      have := rrun_any s (n0 + 1) (by omega) hs false W
      rw [if_neg (by decide), HL.out, hmm] at this
      simpa using this
    have HR1 := Lib.hid hr1
    have HMF := Lib.hid hm
    have HDOT := Lib.hid hdot
    clear hdx hc hc46 hmm hr1 hm hdot
    go_wp2_with fail
    refine (HR1.out _).mono ?_
    rintro e w1 ⟨rfl, rfl⟩
    clear HR1
    by_cases hm0 : m = 0
    · have hRf : R = false := by rw [HRD.out, HDOT.out, HMF.out, hm0]; rfl
      subst hRf
      subst hm0
      clear HRD HMF
      go_wp2
      go_ret
      exact ⟨rfl, rfl⟩
    · have hm0i : ((m : Int) == 0) = false := by rw [beq_eq_false_iff_ne]; omega
      have hm0j : ¬ (m : Int) = 0 := by omega
      obtain ⟨n1, hn1⟩ : ∃ n, n0 + 1 + m = n := ⟨_, rfl⟩
      have HN1 : Hid (numA L = n1) := Lib.hid (by rw [numA_eq, HDOT.out, HMF.out, HN0.out, if_pos ⟨rfl, by omega⟩]; exact hn1)
      have hfst : (if dotF L = true then decide (0 < frcF L) else decide (n0 ≠ 0)) = true := by rw [HDOT.out, HMF.out, if_pos rfl]; simp; omega
      have hs1 : (n0 : Int) + 1 + (m : Int) = (n1 : Int) := by omega
      have hs2 : ((n0 : Int) + (m : Int) == 0) = false := by rw [beq_eq_false_iff_ne]; omega
      have hs3 : ¬ (n0 : Int) + (m : Int) = 0 := by omega
      clear hn1 hm0
      have hRe : R = (if expF L = true then decide (0 < m2F L) && decide (n1 + 1 + sgnF L + m2F L = s.size) else decide (n1 = s.size)) := by rw [HRD.out, hfst, Bool.true_and, HN1.out]
      have hexp : expF L = headP (setP [69, 101]) (L.drop n1) := by unfold expF; rw [HN1.out]
      clear hfst
      by_cases hx : n1 < s.size
      rotate_left
      · have hxi : ¬ (n1 : Int) < (s.size : Int) := by omega
        have hen : n1 = s.size := by omega
        have hRt : R = true := by
          rw [hRe, hexp, List.drop_eq_nil_of_le (by rw [HLS.out]; omega)]
          simp [headP, hen]
        have hei : ((n1 : Int) == (s.size : Int)) = true := by rw [beq_iff_eq]; omega
        subst hRt
        clear hRe hexp hx hen
        go_wp2
        go_ret
        exact ⟨rfl, rfl⟩
      have hxi : (n1 : Int) < (s.size : Int) := by omega
      have hx0 : (0 : Int) ≤ (n1 : Int) := by omega
      have hdx := drop_get s n1 hx
      rw [HL.out] at hdx
      obtain ⟨c1, hc1⟩ : ∃ c, s[n1] = c := ⟨_, rfl⟩
      rw [hc1] at hdx
      have hexp2 : expF L = setP [69, 101] c1 := by rw [hexp, hdx]; rfl
      have HC1 := Lib.hid hc1
      clear hdx hc1 hexp
      by_cases hE : expF L = true
      rotate_left
      · have hE' : expF L = false := by simpa using hE
        have hn9 : c1.toNat ≠ 69 ∧ c1.toNat ≠ 101 := by
          rw [hE'] at hexp2
          constructor
          · intro e; rw [UInt8.toNat_inj.1 (show c1.toNat = (69 : UInt8).toNat from e)] at hexp2; cases hexp2
          · intro e; rw [UInt8.toNat_inj.1 (show c1.toNat = (101 : UInt8).toNat from e)] at hexp2; cases hexp2
        have q1 : ((s[n1].toNat : Int) == 69) = false := by rw [HC1.out, beq_eq_false_iff_ne]; omega
        have q2 : ((s[n1].toNat : Int) == 101) = false := by rw [HC1.out, beq_eq_false_iff_ne]; omega
        have hei : ((n1 : Int) == (s.size : Int)) = false := by rw [beq_eq_false_iff_ne]; omega
        have hRt : R = false := by rw [hRe, hE']; simp; omega
        subst hRt
        clear hRe hexp2 hE hE' hn9
        go_wp2
        go_ret
        exact ⟨rfl, rfl⟩
      rw [hE] at hexp2
      rw [if_pos hE] at hRe
      have hn9 : c1.toNat = 69 ∨ (c1.toNat ≠ 69 ∧ c1.toNat = 101) := by
        have : c1 = 69 ∨ c1 = 101 := by simpa [setP] using hexp2.symm
        rcases this with rfl | rfl
        · exact .inl rfl
        · exact .inr ⟨by decide, rfl⟩
      have hq : ((s[n1].toNat : Int) == 69) = true ∨ (((s[n1].toNat : Int) == 69) = false ∧ ((s[n1].toNat : Int) == 101) = true) := by
        rw [HC1.out]
        rcases hn9 with h | ⟨h, h'⟩
        · exact .inl (by rw [beq_iff_eq]; omega)
        · exact .inr ⟨by rw [beq_eq_false_iff_ne]; omega, by rw [beq_iff_eq]; omega⟩
      obtain ⟨sg, hsg⟩ : ∃ k, sgnF L = k := ⟨_, rfl⟩
      obtain ⟨m2, hm2⟩ : ∃ k, m2F L = k := ⟨_, rfl⟩
      have hsg1 := hsg
      have hm2' := hm2
      unfold sgnF at hsg1
      unfold m2F at hm2'
      rw [hsg] at hm2'
      rw [HN1.out] at hsg1 hm2'
      rw [hsg, hm2] at hRe
      have hsle : n1 + 1 + sg ≤ s.size := by
        have h1 := runF_le (setP [43, 45]) ((L.drop (n1 + 1)).take 1)
        rw [hsg1] at h1
        have h2 : ((L.drop (n1 + 1)).take 1).length ≤ L.length - (n1 + 1) := by simp; omega
        rw [HLS.out] at h2
        omega
      have hsle1 : sg ≤ 1 := by rw [← hsg]; exact sgn_le L
      rw [List.drop_drop] at hm2'
      have hr2 : ∀ W, Calls Tryd.prog 66 #[.string s, .int .i64 ((n1 + 1 + sg : Nat) : Int), .bool false] W fun e w' => e = .returned (.int .i64 (m2 : Int)) ∧ W = w' := fun W => by
        have := rrun_any s (n1 + 1 + sg) hsle hs false W
        rw [if_neg (by decide), HL.out, hm2'] at this
        exact this
      have HR2 := Lib.hid hr2
      have HRE := Lib.hid hRe
      have HM2B : Hid (m2 ≤ 100000) := Lib.hid (by
        have := runF_le digP (L.drop (n1 + 1 + sg))
        rw [hm2', List.length_drop, HLS.out] at this; omega)
      have HSG1 := Lib.hid hsg1
      have hn1p : n1 + 1 ≤ s.size := by omega
      clear hr2 hRe hsg hm2 hm2' hsg1 hexp2 hE hn9
      -- the sign
      have hsgn : (¬ n1 + 1 < s.size ∧ sg = 0) ∨ (∃ hlt : n1 + 1 < s.size, (((s[n1 + 1].toNat : Int) == 43) = true ∧ sg = 1) ∨ (((s[n1 + 1].toNat : Int) == 43) = false ∧ ((s[n1 + 1].toNat : Int) == 45) = true ∧ sg = 1) ∨ (((s[n1 + 1].toNat : Int) == 43) = false ∧ ((s[n1 + 1].toNat : Int) == 45) = false ∧ sg = 0)) := by
        by_cases hlt : n1 + 1 < s.size
        · refine .inr ⟨hlt, ?_⟩
          have hdx := drop_get s (n1 + 1) hlt
          rw [HL.out] at hdx
          have h9 := HSG1.out
          rw [hdx, List.take_succ_cons, List.take_zero, runF, runF] at h9
          obtain ⟨c2, hc2⟩ : ∃ c, s[n1 + 1] = c := ⟨_, rfl⟩
          rw [hc2] at h9 ⊢
          by_cases h43 : c2 = 43
          · subst h43
            exact .inl ⟨by decide, by rw [← h9]; rfl⟩
          · by_cases h45 : c2 = 45
            · subst h45
              exact .inr (.inl ⟨by decide, by decide, by rw [← h9]; rfl⟩)
            · have k1 : c2.toNat ≠ 43 := fun e => h43 (UInt8.toNat_inj.1 e)
              have k2 : c2.toNat ≠ 45 := fun e => h45 (UInt8.toNat_inj.1 e)
              have hset : setP [43, 45] c2 = false := by simp [setP, h43, h45]
              rw [hset] at h9
              exact .inr (.inr ⟨by rw [beq_eq_false_iff_ne]; omega, by rw [beq_eq_false_iff_ne]; omega, by rw [← h9]; rfl⟩)
        · refine .inl ⟨hlt, ?_⟩
          have h9 := HSG1.out
          rw [List.drop_eq_nil_of_le (by rw [HLS.out]; omega)] at h9
          rw [← h9]; rfl
      clear HSG1
      by_cases hm0 : m2 = 0
      · have hRf : R = false := by rw [HRE.out, hm0]; rfl
        subst hRf
        subst hm0
        clear HRE
        rcases hsgn with ⟨hns, rfl⟩ | ⟨hlt, ⟨k1, rfl⟩ | ⟨k1, k2, rfl⟩ | ⟨k1, k2, rfl⟩⟩
        · have hnsi : ¬ (n1 : Int) + 1 < (s.size : Int) := by omega
          clear hns
          rcases hq with q1 | ⟨q1, q2⟩
          all_goals
            go_wp2_with fail
            refine (HR2.out _).mono ?_
            rintro e w9 ⟨rfl, rfl⟩
            go_wp2
            go_ret
            exact ⟨rfl, rfl⟩
        all_goals
          have hlti : (n1 : Int) + 1 < (s.size : Int) := by omega
          have hlt0 : (0 : Int) ≤ (n1 : Int) + 1 := by omega
          rcases hq with q1 | ⟨q1, q2⟩
          all_goals
            go_wp2_with fail
            refine (HR2.out _).mono ?_
            rintro e w9 ⟨rfl, rfl⟩
            go_wp2
            go_ret
            exact ⟨rfl, rfl⟩
      · have hm0i : ((m2 : Int) == 0) = false := by rw [beq_eq_false_iff_ne]; omega
        have hm0j : ¬ (m2 : Int) = 0 := by omega
        have hRe2 : R = decide (n1 + 1 + sg + m2 = s.size) := by
          rw [HRE.out, decide_eq_true (show 0 < m2 by omega), Bool.true_and]
        have HRE2 := Lib.hid hRe2
        clear hRe2 HRE hm0
        have hm2b := HM2B.out
        obtain ⟨tot, htot⟩ : ∃ k : Nat, n1 + 1 + sg + m2 = k := ⟨_, rfl⟩
        rw [htot] at HRE2
        have htc : (((tot : Int) == (s.size : Int)) = true ∧ R = true) ∨ (((tot : Int) == (s.size : Int)) = false ∧ R = false) := by
          by_cases h : tot = s.size
          · exact .inl ⟨by rw [beq_iff_eq]; omega, by rw [HRE2.out, decide_eq_true h]⟩
          · exact .inr ⟨by rw [beq_eq_false_iff_ne]; omega, by rw [HRE2.out, decide_eq_false h]⟩
        clear HRE2 HM2B
        rcases hsgn with ⟨hns, rfl⟩ | ⟨hlt, ⟨k1, rfl⟩ | ⟨k1, k2, rfl⟩ | ⟨k1, k2, rfl⟩⟩
        · have hnsi : ¬ (n1 : Int) + 1 < (s.size : Int) := by omega
          have htt : (n1 : Int) + 1 + (m2 : Int) = (tot : Int) := by omega
          clear hns htot
          rcases htc with ⟨hte, rfl⟩ | ⟨hte, rfl⟩
          all_goals
            rcases hq with q1 | ⟨q1, q2⟩
            all_goals
              go_wp2_with fail
              refine (HR2.out _).mono ?_
              rintro e w9 ⟨rfl, rfl⟩
              go_wp2
              go_ret
              exact ⟨rfl, rfl⟩
        · have hlti : (n1 : Int) + 1 < (s.size : Int) := by omega
          have hlt0 : (0 : Int) ≤ (n1 : Int) + 1 := by omega
          have htt : (n1 : Int) + 1 + 1 + (m2 : Int) = (tot : Int) := by omega
          have htt2 : (n1 : Int) + 2 + (m2 : Int) = (tot : Int) := by omega
          clear htot
          rcases htc with ⟨hte, rfl⟩ | ⟨hte, rfl⟩
          all_goals
            rcases hq with q1 | ⟨q1, q2⟩
            all_goals
              go_wp2_with fail
              refine (HR2.out _).mono ?_
              rintro e w9 ⟨rfl, rfl⟩
              go_wp2
              go_ret
              exact ⟨rfl, rfl⟩
        · have hlti : (n1 : Int) + 1 < (s.size : Int) := by omega
          have hlt0 : (0 : Int) ≤ (n1 : Int) + 1 := by omega
          have htt : (n1 : Int) + 1 + 1 + (m2 : Int) = (tot : Int) := by omega
          have htt2 : (n1 : Int) + 2 + (m2 : Int) = (tot : Int) := by omega
          clear htot
          rcases htc with ⟨hte, rfl⟩ | ⟨hte, rfl⟩
          all_goals
            rcases hq with q1 | ⟨q1, q2⟩
            all_goals
              go_wp2_with fail
              refine (HR2.out _).mono ?_
              rintro e w9 ⟨rfl, rfl⟩
              go_wp2
              go_ret
              exact ⟨rfl, rfl⟩
        · have hlti : (n1 : Int) + 1 < (s.size : Int) := by omega
          have hlt0 : (0 : Int) ≤ (n1 : Int) + 1 := by omega
          have htt : (n1 : Int) + 1 + (m2 : Int) = (tot : Int) := by omega
          clear htot
          rcases htc with ⟨hte, rfl⟩ | ⟨hte, rfl⟩
          all_goals
            rcases hq with q1 | ⟨q1, q2⟩
            all_goals
              go_wp2_with fail
              refine (HR2.out _).mono ?_
              rintro e w9 ⟨rfl, rfl⟩
              go_wp2
              go_ret
              exact ⟨rfl, rfl⟩
  · have hdot' : dotF L = false := by simpa using hdot
    have hno : (¬ n0 < s.size) ∨ ∃ hlt : n0 < s.size, ((s[n0].toNat : Int) == 46) = false := by
      by_cases hlt : n0 < s.size
      · refine .inr ⟨hlt, ?_⟩
        have hdx := drop_get s n0 hlt
        rw [HL.out] at hdx
        obtain ⟨c, hc⟩ : ∃ c, s[n0] = c := ⟨_, rfl⟩
        rw [hc] at hdx ⊢
        have h9 := hdot'
        unfold dotF at h9
        rw [HN0.out, hdx] at h9
        have hcn : c ≠ 46 := fun e => by subst e; cases h9
        have : c.toNat ≠ 46 := fun e => hcn (UInt8.toNat_inj.1 e)
        rw [beq_eq_false_iff_ne]; omega
      · exact .inl hlt
    have HN1 : Hid (numA L = n0) := Lib.hid (by rw [numA_eq, hdot', HN0.out]; simp)
    by_cases h0 : n0 = 0
    · have hRf : R = false := by rw [HRD.out, hdot', h0]; rfl
      subst hRf
      subst h0
      clear HRD hdot hdot'
      rcases hno with hno | ⟨hlt, q0⟩
      · have hnoi : ¬ (0 : Int) < (s.size : Int) := by omega
        clear hno
        go_wp2
        go_ret
        exact ⟨rfl, rfl⟩
      · have hlti : (0 : Int) < (s.size : Int) := by omega
        go_wp2
        go_ret
        exact ⟨rfl, rfl⟩
    · have h0i : ((n0 : Int) == 0) = false := by rw [beq_eq_false_iff_ne]; omega
      have h0j : ¬ (n0 : Int) = 0 := by omega
      have hfst : (if dotF L = true then decide (0 < frcF L) else decide (n0 ≠ 0)) = true := by rw [hdot', if_neg (by decide)]; simp; exact h0
      obtain ⟨n1, rfl⟩ : ∃ n1, n1 = n0 := ⟨_, rfl⟩
      clear hdot hdot' h0
      rcases hno with hno | ⟨hlt, q0⟩
      · have hnoi : ¬ (n1 : Int) < (s.size : Int) := by omega
        have hRe : R = (if expF L = true then decide (0 < m2F L) && decide (n1 + 1 + sgnF L + m2F L = s.size) else decide (n1 = s.size)) := by rw [HRD.out, hfst, Bool.true_and, HN1.out]
        have hexp : expF L = headP (setP [69, 101]) (L.drop n1) := by unfold expF; rw [HN1.out]
        have hen : n1 = s.size := by omega
        have hRt : R = true := by
          rw [hRe, hexp, List.drop_eq_nil_of_le (by rw [HLS.out]; omega)]
          simp [headP, hen]
        have hei : ((n1 : Int) == (s.size : Int)) = true := by rw [beq_iff_eq]; omega
        subst hRt
        clear hRe hexp hen hfst hno
        go_wp2
        go_ret
        exact ⟨rfl, rfl⟩
      · have hlti9 : (n1 : Int) < (s.size : Int) := by omega
        have hRe : R = (if expF L = true then decide (0 < m2F L) && decide (n1 + 1 + sgnF L + m2F L = s.size) else decide (n1 = s.size)) := by rw [HRD.out, hfst, Bool.true_and, HN1.out]
        have hexp : expF L = headP (setP [69, 101]) (L.drop n1) := by unfold expF; rw [HN1.out]
        clear hfst
        have hx : n1 < s.size := hlt
        have hxi : (n1 : Int) < (s.size : Int) := by omega
        have hx0 : (0 : Int) ≤ (n1 : Int) := by omega
        have hdx := drop_get s n1 hx
        rw [HL.out] at hdx
        obtain ⟨c1, hc1⟩ : ∃ c, s[n1] = c := ⟨_, rfl⟩
        rw [hc1] at hdx
        have hexp2 : expF L = setP [69, 101] c1 := by rw [hexp, hdx]; rfl
        have HC1 := Lib.hid hc1
        clear hdx hc1 hexp
        by_cases hE : expF L = true
        rotate_left
        · have hE' : expF L = false := by simpa using hE
          have hn9 : c1.toNat ≠ 69 ∧ c1.toNat ≠ 101 := by
            rw [hE'] at hexp2
            constructor
            · intro e; rw [UInt8.toNat_inj.1 (show c1.toNat = (69 : UInt8).toNat from e)] at hexp2; cases hexp2
            · intro e; rw [UInt8.toNat_inj.1 (show c1.toNat = (101 : UInt8).toNat from e)] at hexp2; cases hexp2
          have q1 : ((s[n1].toNat : Int) == 69) = false := by rw [HC1.out, beq_eq_false_iff_ne]; omega
          have q2 : ((s[n1].toNat : Int) == 101) = false := by rw [HC1.out, beq_eq_false_iff_ne]; omega
          have hei : ((n1 : Int) == (s.size : Int)) = false := by rw [beq_eq_false_iff_ne]; omega
          have hRt : R = false := by rw [hRe, hE']; simp; omega
          subst hRt
          clear hRe hexp2 hE hE' hn9
          go_wp2
          go_ret
          exact ⟨rfl, rfl⟩
        rw [hE] at hexp2
        rw [if_pos hE] at hRe
        have hn9 : c1.toNat = 69 ∨ (c1.toNat ≠ 69 ∧ c1.toNat = 101) := by
          have : c1 = 69 ∨ c1 = 101 := by simpa [setP] using hexp2.symm
          rcases this with rfl | rfl
          · exact .inl rfl
          · exact .inr ⟨by decide, rfl⟩
        have hq : ((s[n1].toNat : Int) == 69) = true ∨ (((s[n1].toNat : Int) == 69) = false ∧ ((s[n1].toNat : Int) == 101) = true) := by
          rw [HC1.out]
          rcases hn9 with h | ⟨h, h'⟩
          · exact .inl (by rw [beq_iff_eq]; omega)
          · exact .inr ⟨by rw [beq_eq_false_iff_ne]; omega, by rw [beq_iff_eq]; omega⟩
        obtain ⟨sg, hsg⟩ : ∃ k, sgnF L = k := ⟨_, rfl⟩
        obtain ⟨m2, hm2⟩ : ∃ k, m2F L = k := ⟨_, rfl⟩
        have hsg1 := hsg
        have hm2' := hm2
        unfold sgnF at hsg1
        unfold m2F at hm2'
        rw [hsg] at hm2'
        rw [HN1.out] at hsg1 hm2'
        rw [hsg, hm2] at hRe
        have hsle : n1 + 1 + sg ≤ s.size := by
          have h1 := runF_le (setP [43, 45]) ((L.drop (n1 + 1)).take 1)
          rw [hsg1] at h1
          have h2 : ((L.drop (n1 + 1)).take 1).length ≤ L.length - (n1 + 1) := by simp; omega
          rw [HLS.out] at h2
          omega
        have hsle1 : sg ≤ 1 := by rw [← hsg]; exact sgn_le L
        rw [List.drop_drop] at hm2'
        have hr2 : ∀ W, Calls Tryd.prog 66 #[.string s, .int .i64 ((n1 + 1 + sg : Nat) : Int), .bool false] W fun e w' => e = .returned (.int .i64 (m2 : Int)) ∧ W = w' := fun W => by
          have := rrun_any s (n1 + 1 + sg) hsle hs false W
          rw [if_neg (by decide), HL.out, hm2'] at this
          exact this
        have HR2 := Lib.hid hr2
        have HRE := Lib.hid hRe
        have HM2B : Hid (m2 ≤ 100000) := Lib.hid (by
          have := runF_le digP (L.drop (n1 + 1 + sg))
          rw [hm2', List.length_drop, HLS.out] at this; omega)
        have HSG1 := Lib.hid hsg1
        have hn1p : n1 + 1 ≤ s.size := by omega
        clear hr2 hRe hsg hm2 hm2' hsg1 hexp2 hE hn9
        -- the sign
        have hsgn : (¬ n1 + 1 < s.size ∧ sg = 0) ∨ (∃ hlt : n1 + 1 < s.size, (((s[n1 + 1].toNat : Int) == 43) = true ∧ sg = 1) ∨ (((s[n1 + 1].toNat : Int) == 43) = false ∧ ((s[n1 + 1].toNat : Int) == 45) = true ∧ sg = 1) ∨ (((s[n1 + 1].toNat : Int) == 43) = false ∧ ((s[n1 + 1].toNat : Int) == 45) = false ∧ sg = 0)) := by
          by_cases hlt : n1 + 1 < s.size
          · refine .inr ⟨hlt, ?_⟩
            have hdx := drop_get s (n1 + 1) hlt
            rw [HL.out] at hdx
            have h9 := HSG1.out
            rw [hdx, List.take_succ_cons, List.take_zero, runF, runF] at h9
            obtain ⟨c2, hc2⟩ : ∃ c, s[n1 + 1] = c := ⟨_, rfl⟩
            rw [hc2] at h9 ⊢
            by_cases h43 : c2 = 43
            · subst h43
              exact .inl ⟨by decide, by rw [← h9]; rfl⟩
            · by_cases h45 : c2 = 45
              · subst h45
                exact .inr (.inl ⟨by decide, by decide, by rw [← h9]; rfl⟩)
              · have k1 : c2.toNat ≠ 43 := fun e => h43 (UInt8.toNat_inj.1 e)
                have k2 : c2.toNat ≠ 45 := fun e => h45 (UInt8.toNat_inj.1 e)
                have hset : setP [43, 45] c2 = false := by simp [setP, h43, h45]
                rw [hset] at h9
                exact .inr (.inr ⟨by rw [beq_eq_false_iff_ne]; omega, by rw [beq_eq_false_iff_ne]; omega, by rw [← h9]; rfl⟩)
          · refine .inl ⟨hlt, ?_⟩
            have h9 := HSG1.out
            rw [List.drop_eq_nil_of_le (by rw [HLS.out]; omega)] at h9
            rw [← h9]; rfl
        clear HSG1
        by_cases hm0 : m2 = 0
        · have hRf : R = false := by rw [HRE.out, hm0]; rfl
          subst hRf
          subst hm0
          clear HRE
          rcases hsgn with ⟨hns, rfl⟩ | ⟨hlt, ⟨k1, rfl⟩ | ⟨k1, k2, rfl⟩ | ⟨k1, k2, rfl⟩⟩
          · have hnsi : ¬ (n1 : Int) + 1 < (s.size : Int) := by omega
            clear hns
            rcases hq with q1 | ⟨q1, q2⟩
            all_goals
              go_wp2_with fail
              refine (HR2.out _).mono ?_
              rintro e w9 ⟨rfl, rfl⟩
              go_wp2
              go_ret
              exact ⟨rfl, rfl⟩
          all_goals
            have hlti : (n1 : Int) + 1 < (s.size : Int) := by omega
            have hlt0 : (0 : Int) ≤ (n1 : Int) + 1 := by omega
            rcases hq with q1 | ⟨q1, q2⟩
            all_goals
              go_wp2_with fail
              refine (HR2.out _).mono ?_
              rintro e w9 ⟨rfl, rfl⟩
              go_wp2
              go_ret
              exact ⟨rfl, rfl⟩
        · have hm0i : ((m2 : Int) == 0) = false := by rw [beq_eq_false_iff_ne]; omega
          have hm0j : ¬ (m2 : Int) = 0 := by omega
          have hRe2 : R = decide (n1 + 1 + sg + m2 = s.size) := by
            rw [HRE.out, decide_eq_true (show 0 < m2 by omega), Bool.true_and]
          have HRE2 := Lib.hid hRe2
          clear hRe2 HRE hm0
          have hm2b := HM2B.out
          obtain ⟨tot, htot⟩ : ∃ k : Nat, n1 + 1 + sg + m2 = k := ⟨_, rfl⟩
          rw [htot] at HRE2
          have htc : (((tot : Int) == (s.size : Int)) = true ∧ R = true) ∨ (((tot : Int) == (s.size : Int)) = false ∧ R = false) := by
            by_cases h : tot = s.size
            · exact .inl ⟨by rw [beq_iff_eq]; omega, by rw [HRE2.out, decide_eq_true h]⟩
            · exact .inr ⟨by rw [beq_eq_false_iff_ne]; omega, by rw [HRE2.out, decide_eq_false h]⟩
          clear HRE2 HM2B
          rcases hsgn with ⟨hns, rfl⟩ | ⟨hlt, ⟨k1, rfl⟩ | ⟨k1, k2, rfl⟩ | ⟨k1, k2, rfl⟩⟩
          · have hnsi : ¬ (n1 : Int) + 1 < (s.size : Int) := by omega
            have htt : (n1 : Int) + 1 + (m2 : Int) = (tot : Int) := by omega
            clear hns htot
            rcases htc with ⟨hte, rfl⟩ | ⟨hte, rfl⟩
            all_goals
              rcases hq with q1 | ⟨q1, q2⟩
              all_goals
                go_wp2_with fail
                refine (HR2.out _).mono ?_
                rintro e w9 ⟨rfl, rfl⟩
                go_wp2
                go_ret
                exact ⟨rfl, rfl⟩
          · have hlti : (n1 : Int) + 1 < (s.size : Int) := by omega
            have hlt0 : (0 : Int) ≤ (n1 : Int) + 1 := by omega
            have htt : (n1 : Int) + 1 + 1 + (m2 : Int) = (tot : Int) := by omega
            have htt2 : (n1 : Int) + 2 + (m2 : Int) = (tot : Int) := by omega
            clear htot
            rcases htc with ⟨hte, rfl⟩ | ⟨hte, rfl⟩
            all_goals
              rcases hq with q1 | ⟨q1, q2⟩
              all_goals
                go_wp2_with fail
                refine (HR2.out _).mono ?_
                rintro e w9 ⟨rfl, rfl⟩
                go_wp2
                go_ret
                exact ⟨rfl, rfl⟩
          · have hlti : (n1 : Int) + 1 < (s.size : Int) := by omega
            have hlt0 : (0 : Int) ≤ (n1 : Int) + 1 := by omega
            have htt : (n1 : Int) + 1 + 1 + (m2 : Int) = (tot : Int) := by omega
            have htt2 : (n1 : Int) + 2 + (m2 : Int) = (tot : Int) := by omega
            clear htot
            rcases htc with ⟨hte, rfl⟩ | ⟨hte, rfl⟩
            all_goals
              rcases hq with q1 | ⟨q1, q2⟩
              all_goals
                go_wp2_with fail
                refine (HR2.out _).mono ?_
                rintro e w9 ⟨rfl, rfl⟩
                go_wp2
                go_ret
                exact ⟨rfl, rfl⟩
          · have hlti : (n1 : Int) + 1 < (s.size : Int) := by omega
            have hlt0 : (0 : Int) ≤ (n1 : Int) + 1 := by omega
            have htt : (n1 : Int) + 1 + (m2 : Int) = (tot : Int) := by omega
            clear htot
            rcases htc with ⟨hte, rfl⟩ | ⟨hte, rfl⟩
            all_goals
              rcases hq with q1 | ⟨q1, q2⟩
              all_goals
                go_wp2_with fail
                refine (HR2.out _).mono ?_
                rintro e w9 ⟨rfl, rfl⟩
                go_wp2
                go_ret
                exact ⟨rfl, rfl⟩
end Go.Proofs.YtcnmghkmognhoaaDoor
