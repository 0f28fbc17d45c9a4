/- The document's side: the next token. -/
import Derived.Test.YtcnmghkmognhoaaDoorQh
import Derived.Test.YtcnmghkmognhoaaDoorQc
namespace Go.Proofs.YtcnmghkmognhoaaDoor
open Go.RowKit Go.Shelf

def NextOut (w : World) (L : List UInt8) (e : Ending) (w' : World) : Prop :=
  ∃ tk : Tok, e = .returned (.tuple #[tokV tk, .int .i64 (((firstF L).2 : Nat) : Int)]) ∧ ((firstF L).2 ≠ 0 → tk = (firstF L).1) ∧ Below w.heap.size w w'
theorem nextOut_yes {w w' : World} {L : List UInt8} {k a : Int} {t : List UInt8} {n : Nat} {b : ByteArray} (hf : firstF L = (⟨k, t, a⟩, n)) (hb : b.data.toList = t) (h : Below w.heap.size w w') :
    NextOut w L (.returned (.tuple #[.agg #[.int .i64 k, .string b, .int .i64 a], .int .i64 (n : Int)])) w' :=
  ⟨⟨k, t, a⟩, by rw [hf]; unfold tokV; subst hb; simp only [bs_eta], fun _ => by rw [hf], h⟩
theorem nextOut_no {w w' : World} {L : List UInt8} {k a : Int} {b : ByteArray} (hf : (firstF L).2 = 0) (h : Below w.heap.size w w') :
    NextOut w L (.returned (.tuple #[.agg #[.int .i64 k, .string b, .int .i64 a], .int .i64 0])) w' :=
  ⟨⟨k, b.data.toList, a⟩, by rw [hf]; unfold tokV; simp only [bs_eta]; rfl, fun h => absurd hf h, h⟩
theorem rfault_len : ∀ k, k < 10 → (faultT k).length ≤ 7 := by decide
theorem rsign_len : ∀ k, k < 21 → (signL.getD k []).length ≤ 2 := by decide
set_option maxRecDepth 100000 in
set_option maxHeartbeats 4000000 in
theorem rnext_any (s : ByteArray) (h0 : 1 ≤ s.size) (hs : s.size ≤ 100000) (w : World) : Calls Tryd.prog 26 #[.string s] w fun e w' => NextOut w s.data.toList e w' := by
  obtain ⟨L, hL⟩ : ∃ L, s.data.toList = L := ⟨_, rfl⟩
  have hLs : L.length = s.size := by rw [← hL]; exact size_list s
  rw [hL]
  obtain ⟨n, hn⟩ : ∃ n, numF L = n := ⟨_, rfl⟩
  have hnle : n ≤ s.size := by rw [← hn, ← hLs]; exact num_le L
  have hnum := fun W => rnum_any s hs W
  rw [hL, hn] at hnum
  obtain ⟨m, hm⟩ : ∃ m, wordF L = m := ⟨_, rfl⟩
  have hmle : m ≤ s.size := by rw [← hm, ← hLs]; exact word_le L
  have hword := fun W => rword_any s hs W
  rw [hL, hm] at hword
  have HL := Lib.hid hL
  have HLS := Lib.hid hLs
  have HN := Lib.hid hn
  have HM := Lib.hid hm
  have HNUM := Lib.hid hnum
  have HWORD := Lib.hid hword
  have hb0 : Below w.heap.size w (w.alloc (.cells #[.int .i64 0, .string ⟨#[]⟩, .int .i64 0] 35)) := (Below.refl _ _).alloc (Nat.le_refl _) _
  have hz0 := heap_alloc_new w (.cells #[.int .i64 0, .string ⟨#[]⟩, .int .i64 0] 35)
  obtain ⟨W0, hW0⟩ : ∃ W0, w.alloc (.cells #[.int .i64 0, .string ⟨#[]⟩, .int .i64 0] 35) = W0 := ⟨_, rfl⟩
  rw [hW0] at hb0 hz0
  have hsz0 : W0.heap.size = w.heap.size + 1 := by rw [← hW0]; simp
  have HB0 := Lib.hid hb0
  have HZ0 := Lib.hid hz0
  have HW0 := Lib.hid hW0
  have HSZ0 := Lib.hid hsz0
  obtain ⟨c0, c1, c2, f0, f1, f2⟩ := box3 hz0
  clear hb0 hz0 hW0 hL hn hLs hm hnum hword hsz0
  go_enter Tryd.func26, Tryd.ntmps26
  go_wp2_with fail
  rw [HW0.out]
  refine (HNUM.out _).mono ?_
  rintro e w1 ⟨rfl, rfl⟩
  clear HNUM HW0
  by_cases hnp : 0 < n
  · have hni : (0 : Int) < (n : Int) := by omega
    have hni0 : (0 : Int) ≤ (n : Int) := by omega
    have hni1 : (n : Int) ≤ (s.size : Int) := by omega
    have hF : firstF L = (⟨1, L.take n, 0⟩, n) := by unfold firstF; rw [HN.out, if_pos hnp]
    have hcut : (s.extract 0 n).data.toList = L.take n := by rw [cut_head, HL.out]
    have HF := Lib.hid hF
    have HC := Lib.hid hcut
    clear hF hcut hnp
    go_wp2_with fail
    have hfin := set3 (.int .i64 1) (.string (s.extract 0 n)) (.int .i64 0) HZ0.out
    obtain ⟨r0, r1, r2, _⟩ := box3 hfin
    exact bodyPost_ret (v := .tuple #[.agg #[.int .i64 1, .string (s.extract 0 n), .int .i64 0], .int .i64 (n : Int)]) (by simp [results, Tryd.f26, go_sem, r0, r1, r2]) rfl (nextOut_yes HF.out HC.out (below3 _ _ _ HB0.out (Nat.le_refl _)))
  have hni : ¬ (0 : Int) < (n : Int) := by omega
  have HNP := Lib.hid (show ¬ 0 < numF L by rw [HN.out]; exact hnp)
  clear hnp
  go_wp2_with fail
  refine (HWORD.out _).mono ?_
  rintro e w1 ⟨rfl, rfl⟩
  clear HWORD hni
  by_cases hmp : 0 < m
  · have hmi : (0 : Int) < (m : Int) := by omega
    have hmi0 : (0 : Int) ≤ (m : Int) := by omega
    have hmi1 : (m : Int) ≤ (s.size : Int) := by omega
    have hF : firstF L = wordT (L.take m) := by rw [first_word HNP.out (by rw [HM.out]; exact hmp), HM.out]
    have hcut : (s.extract 0 m).data.toList = L.take m := by rw [cut_head, HL.out]
    have hlen : (L.take m).length = m := by rw [List.length_take, HLS.out]; omega
    have hself : wordF (L.take m) = m := by have := word_take_self L; rw [HM.out] at this; exact this
    have hmk := fun W => rmark_any (s.extract 0 m) (by rw [ByteArray.size_extract]; omega) W
    have hnm := fun W => rname_any (s.extract 0 m) (by rw [ByteArray.size_extract]; omega) W
    rw [hcut] at hmk hnm
    obtain ⟨mk, hmk9⟩ : ∃ b, isMarkF (L.take m) = b := ⟨_, rfl⟩
    obtain ⟨nm, hnm9⟩ : ∃ b, isNameF (L.take m) = b := ⟨_, rfl⟩
    rw [hmk9] at hmk
    rw [hnm9] at hnm
    have hnm8 : nm = (!mk && !((L.take m).contains 36)) := by
      rw [← hnm9]
      unfold isNameF
      rw [hself, hlen, hmk9, decide_eq_true rfl, decide_eq_true (show m ≠ 0 by omega)]
      rfl
    unfold wordT at hF
    rw [hmk9, hlen] at hF
    have HMK := Lib.hid hmk
    have HNM := Lib.hid hnm
    have HC := Lib.hid hcut
    clear hcut hlen hself hmk hnm hmk9 hnm9 hmp
    go_wp2_with fail
    refine (HMK.out _).mono ?_
    rintro e w1 ⟨rfl, rfl⟩
    clear HMK
    cases mk with
    | true =>
      rw [if_pos rfl] at hF
      have HF := Lib.hid hF
      clear hF hnm8 HNM
      go_wp2_with fail
      have hfin := set3 (.int .i64 4) (.string (s.extract 0 m)) (.int .i64 0) HZ0.out
      obtain ⟨r0, r1, r2, _⟩ := box3 hfin
      exact bodyPost_ret (v := .tuple #[.agg #[.int .i64 4, .string (s.extract 0 m), .int .i64 0], .int .i64 (m : Int)]) (by simp [results, Tryd.f26, go_sem, r0, r1, r2]) rfl (nextOut_yes HF.out HC.out (below3 _ _ _ HB0.out (Nat.le_refl _)))
    | false =>
      rw [if_neg (by decide)] at hF
      rw [Bool.not_false, Bool.true_and] at hnm8
      go_wp2_with fail
      refine (HNM.out _).mono ?_
      rintro e w1 ⟨rfl, rfl⟩
      clear HNM
      cases nm with
      | true =>
        have h36 : (L.take m).contains 36 = false := by simpa using hnm8.symm
        rw [h36, if_neg (by decide)] at hF
        have HF := Lib.hid hF
        clear hF hnm8 h36
        go_wp2_with fail
        have hfin := set3 (.int .i64 3) (.string (s.extract 0 m)) (.int .i64 0) HZ0.out
        obtain ⟨r0, r1, r2, _⟩ := box3 hfin
        exact bodyPost_ret (v := .tuple #[.agg #[.int .i64 3, .string (s.extract 0 m), .int .i64 0], .int .i64 (m : Int)]) (by simp [results, Tryd.f26, go_sem, r0, r1, r2]) rfl (nextOut_yes HF.out HC.out (below3 _ _ _ HB0.out (Nat.le_refl _)))
      | false =>
        have h36 : (L.take m).contains 36 = true := by simpa using hnm8.symm
        rw [h36, if_pos rfl] at hF
        have HF : Hid ((firstF L).2 = 0) := Lib.hid (by rw [hF])
        clear hF hnm8 h36
        go_wp2_with fail
        have hfin := set3 (.int .i64 0) (.string ⟨#[]⟩) (.int .i64 0) HZ0.out
        obtain ⟨r0, r1, r2, _⟩ := box3 hfin
        exact bodyPost_ret (v := .tuple #[.agg #[.int .i64 0, .string ⟨#[]⟩, .int .i64 0], .int .i64 0]) (by simp [results, Tryd.f26, go_sem, r0, r1, r2]) rfl (nextOut_no HF.out (below3 _ _ _ HB0.out (Nat.le_refl _)))
  have hmi : ¬ (0 : Int) < (m : Int) := by omega
  have HMP := Lib.hid (show ¬ 0 < wordF L by rw [HM.out]; exact hmp)
  clear hmp
  have hlt0 : 0 < s.size := by omega
  have hsi : (0 : Int) < (s.size : Int) := by omega
  have hdx := drop_get s 0 hlt0
  rw [List.drop_zero, HL.out] at hdx
  by_cases hq : s[0] = 34
  · have hqi : (((s[0]'hlt0).toNat : Int) == 34) = true := by rw [hq]; decide
    have hhead : headP (fun x => x == 34) L = true := by rw [hdx, hq]; rfl
    have htx := fun W => rtext_any s h0 hs W
    rw [HL.out] at htx
    obtain ⟨q, hqq⟩ : ∃ q, textF L = q := ⟨_, rfl⟩
    rw [hqq] at htx
    have hF : firstF L = if q = 0 then (⟨0, [], 0⟩, 0) else (⟨2, meantF ((L.take (q - 1)).drop 1), 0⟩, q) := by
      unfold firstF
      rw [if_neg HNP.out, if_neg HMP.out, if_pos hhead, hqq]
    obtain ⟨tx, htx9⟩ : ∃ tx : ByteArray, (if q = 0 then ⟨#[]⟩ else ⟨(meantF ((L.take (q - 1)).drop 1)).toArray⟩) = tx := ⟨_, rfl⟩
    rw [htx9] at htx
    have HTX := Lib.hid htx
    clear hdx hq hhead hqq htx
    by_cases hq0 : q = 0
    · rw [if_pos hq0] at hF
      have HF : Hid ((firstF L).2 = 0) := Lib.hid (by rw [hF])
      subst hq0
      clear hF htx9
      go_wp2_with fail
      refine (HTX.out _).mono ?_
      rintro e w1 ⟨rfl, rfl⟩
      clear HTX
      go_wp2_with fail
      have hfin := set3 (.int .i64 2) (.string tx) (.int .i64 0) HZ0.out
      obtain ⟨r0, r1, r2, _⟩ := box3 hfin
      exact bodyPost_ret (v := .tuple #[.agg #[.int .i64 2, .string tx, .int .i64 0], .int .i64 0]) (by simp [results, Tryd.f26, go_sem, r0, r1, r2]) rfl (nextOut_no HF.out (below3 _ _ _ HB0.out (Nat.le_refl _)))
    · rw [if_neg hq0] at hF htx9
      have HF := Lib.hid hF
      have HC : Hid (tx.data.toList = meantF ((L.take (q - 1)).drop 1)) := Lib.hid (by rw [← htx9])
      clear hF htx9 hq0
      go_wp2_with fail
      refine (HTX.out _).mono ?_
      rintro e w1 ⟨rfl, rfl⟩
      clear HTX
      go_wp2_with fail
      have hfin := set3 (.int .i64 2) (.string tx) (.int .i64 0) HZ0.out
      obtain ⟨r0, r1, r2, _⟩ := box3 hfin
      exact bodyPost_ret (v := .tuple #[.agg #[.int .i64 2, .string tx, .int .i64 0], .int .i64 (q : Int)]) (by simp [results, Tryd.f26, go_sem, r0, r1, r2]) rfl (nextOut_yes HF.out HC.out (below3 _ _ _ HB0.out (Nat.le_refl _)))
  have hqn : (s[0]'hlt0).toNat ≠ 34 := fun e => hq (UInt8.toNat_inj.1 e)
  have hqi : (((s[0]'hlt0).toNat : Int) == 34) = false := by rw [beq_eq_false_iff_ne]; omega
  have hhead : headP (fun x => x == 34) L = false := by rw [hdx]; simpa [headP] using hq
  have HFF : Hid (firstF L = if faultF L ≠ [] then (⟨6, faultF L, 0⟩, (faultF L).length) else (⟨5, L.take (signF L), 0⟩, signF L)) := Lib.hid (by
    unfold firstF
    rw [if_neg HNP.out, if_neg HMP.out, hhead]
    rfl)
  clear hdx hq hqn hhead HNP HMP HN HM
  have hb1 := HB0.out.alloc HB0.out.size (.cells fltC 9)
  have hz1 := heap_alloc_new W0 (.cells fltC 9)
  have hzz : (W0.alloc (.cells fltC 9)).heap[w.heap.size]? = some (.cells #[.int .i64 0, .string ⟨#[]⟩, .int .i64 0] 35 (0, 0)) := by
    rw [Below.heap_alloc _ _ _ (by rw [HSZ0.out]; omega)]; exact HZ0.out
  obtain ⟨W1, hW1⟩ : ∃ W1, W0.alloc (.cells fltC 9) = W1 := ⟨_, rfl⟩
  rw [hW1] at hb1 hz1 hzz
  rw [HSZ0.out] at hz1
  have hsz1 : W1.heap.size = w.heap.size + 2 := by rw [← hW1]; simp [HSZ0.out]
  have HW1 := Lib.hid hW1
  have HB1 := Lib.hid hb1
  have HZ1 := Lib.hid hzz
  have HL1 := Lib.hid hz1
  have HSZ1 := Lib.hid hsz1
  clear c0 c1 c2 f0 f1 f2 hW1 hb1 hz1 hzz hsz1
  go_wp2_with fail
  refine (rfaults_any _).mono ?_
  rw [HSZ0.out, HW1.out]
  rintro e w1 ⟨rfl, hw1⟩
  have hw1 := hw1.symm
  subst hw1
  clear HW1 HZ0 HB0
  go_wp2_with fail
  go_loop [9] (fun x => ∃ k : Nat, 1 ≤ k ∧ k ≤ 10 ∧ x = .int .i64 (k : Int) ∧ Hid (∀ j, 1 ≤ j → j < k → faultP L j = false)) (fun x => 10 - (intOf x).toNat)
  case atStart => exact ⟨1, by omega, by omega, rfl, Lib.hid (fun j h1 h2 => absurd h1 (by omega))⟩
  case round =>
    obtain ⟨k, hk1, hk, rfl, HJ⟩ := hrel
    by_cases hlt : k < 10
    · have hi1 : (k : Int) < 10 := by omega
      have hi0 : (0 : Int) ≤ (k : Int) := by omega
      have hcell := flt_cell HL1.out k hlt
      have hbg := fun W => rbegins_any s (fT k) hs (by have := size_list (fT k); rw [fT_list] at this; have h9 := rfault_len k hlt; omega) true W
      obtain ⟨fb, hfb⟩ : ∃ fb, fT k = fb := ⟨_, rfl⟩
      have hfl : fb.data.toList = faultT k := by rw [← hfb]; rfl
      rw [fT_list, HL.out, if_pos rfl] at hbg
      obtain ⟨yes, hyes⟩ : ∃ b, faultP L k = b := ⟨_, rfl⟩
      rw [show (faultT k).isPrefixOf (L.map foldB) = yes from hyes] at hbg
      rw [hfb] at hbg hcell
      have HBG := Lib.hid hbg
      clear hbg hfb
      cases yes with
      | false =>
        have HJ2 : Hid (∀ j, 1 ≤ j → j < k + 1 → faultP L j = false) := Lib.hid (fun j h1 h2 => by
          by_cases hjk : j < k
          · exact HJ.out j h1 hjk
          · obtain rfl : j = k := by omega
            exact hyes)
        clear hyes HJ hfl
        go_wp2_with fail
        refine (HBG.out _).mono ?_
        rintro e w1 ⟨rfl, rfl⟩
        go_wp2
        go_round
        case rel => exact ⟨k + 1, by omega, by omega, by go_num, HJ2⟩
        case measure => simp [intOf]; omega
      | true =>
        have hfk := faultF_found hk1 hlt hyes HJ.out
        have hne : faultF L ≠ [] := by rw [hfk]; obtain ⟨t, ht⟩ := faultT_head hk1 hlt; rw [ht]; simp
        have hF := HFF.out
        rw [if_pos hne, hfk, ← hfl] at hF
        have hflen : fb.data.toList.length = fb.size := size_list fb
        rw [hflen] at hF
        have HF9 := Lib.hid hF
        have HF : Hid (∀ W, But w.heap.size W1 W → W.cell? ⟨w.heap.size + 1, k, none⟩ = some (.string fb)) := Lib.hid fun W hW => hW.cell hcell (by simp)
        obtain ⟨c0, c1, c2, f0, f1, f2⟩ := box3 HZ1.out
        clear hfk hne hF hflen hfl hyes HJ HFF
        go_wp2_with fail
        refine (HBG.out _).mono ?_
        rintro e w1 ⟨rfl, rfl⟩
        clear HBG
        go_wp2_with fail
        refine wp_region_held_drew (S := But w.heap.size W1) (by kernel_rfl) (But.drew _ _) (fun hS => ?_)
        refine wpAnyH_take (i := 0) (v := ?v0d) rfl (by kernel_rfl) (by kernel_rfl) (by kernel_rfl) (fun _ _ _ h => h) (Or.inl ⟨by kernel_rfl, ?h0d⟩) (But.drew _ _) ?_
        case h0d => (rintro w2 hb; have e0 := HF.out w2 hb; go_simp; try with_reducible rfl)
        refine wpAnyH_take (i := 1) (v := ?v1d) rfl (by kernel_rfl) (by kernel_rfl) (by kernel_rfl) (fun _ _ _ h => h) (Or.inl ⟨by kernel_rfl, ?h1d⟩) (But.drew _ _) ?_
        case h1d => (rintro w2 hb; have e0 := HF.out w2 hb; go_simp; try with_reducible rfl)
        refine wpAnyH_take (i := 2) (v := ?v2d) rfl (by kernel_rfl) (by kernel_rfl) (by kernel_rfl) (fun _ _ _ h => h) (Or.inl ⟨by kernel_rfl, ?h2d⟩) (But.drew _ _) ?_
        case h2d => (rintro w2 hb; have e0 := HF.out w2 hb; go_simp; try with_reducible rfl)
        refine wpAnyH_take (i := 3) (v := ?v3d) rfl (by kernel_rfl) (by kernel_rfl) (by kernel_rfl) (fun _ _ _ h => h) (Or.inl ⟨by kernel_rfl, ?h3d⟩) (But.drew _ _) ?_
        case h3d => (rintro w2 hb; have e0 := HF.out w2 hb; go_simp; try with_reducible rfl)
        refine wpAnyH_take (i := 4) (v := ?v4d) rfl (by kernel_rfl) (by kernel_rfl) (by kernel_rfl) (fun _ _ _ h => h) (Or.inl ⟨by kernel_rfl, ?h4d⟩) (But.drew _ _) ?_
        case h4d => (rintro w2 hb; have e0 := HF.out w2 hb; go_simp; try with_reducible rfl)
        refine wpAnyH_take (i := 5) (v := ?v5d) rfl (by kernel_rfl) (by kernel_rfl) (by kernel_rfl) (fun _ _ _ h => h) (Or.inl ⟨by kernel_rfl, ?h5d⟩) (But.drew _ _) ?_
        case h5d => (rintro w2 hb; have e0 := HF.out w2 hb; go_simp; try with_reducible rfl)
        refine wpAnyH_take (i := 6) (v := ?v6d) rfl (by kernel_rfl) (by kernel_rfl) (by kernel_rfl) (fun _ _ _ h => h) (Or.inl ⟨by kernel_rfl, ?h6d⟩) (But.drew _ _) ?_
        case h6d => (rintro w2 hb; have e0 := HF.out w2 hb; go_simp; try with_reducible rfl)
        refine wpAnyH_take (i := 7) (v := ?v7d) rfl (by kernel_rfl) (by kernel_rfl) (by kernel_rfl) (fun _ _ _ h => h) (Or.inl ⟨by kernel_rfl, ?h7d⟩) (But.drew _ _) ?_
        case h7d => (rintro w2 hb; have e0 := HF.out w2 hb; go_simp; try with_reducible rfl)
        refine wpAnyH_take (i := 8) (v := ?v8d) rfl (by kernel_rfl) (by kernel_rfl) (by kernel_rfl) (fun _ _ _ h => h) (Or.inl ⟨by kernel_rfl, ?h8d⟩) (But.drew _ _) ?_
        case h8d => (rintro w2 hb; have e0 := HF.out w2 hb; go_simp; try with_reducible rfl)
        refine wpAnyH_take (i := 9) (v := ?v9d) rfl (by kernel_rfl) (by kernel_rfl) (by kernel_rfl) (fun _ _ _ h => h) (Or.inl ⟨by kernel_rfl, ?h9d⟩) (But.drew _ _) ?_
        case h9d => (rintro w2 hb; have e0 := HF.out w2 hb; go_simp; try with_reducible rfl)
        refine wpAnyH_ready (rs := [10]) (by kernel_rfl) (by simp) (AllReadyH.cons rfl (fun K hK => ?_) AllReadyH.nil)
        go_simp
        go_wp2_with (fail)
        refine hK.out _ _ ((((But.drew _ _).set 0 _).set 1 _).set 2 _) (fun hS10 => ?_); clear hK K
        refine wpAnyH_take (i := 11) (v := ?v11d) rfl (by kernel_rfl) (by kernel_rfl) (by kernel_rfl) (fun _ _ _ h => h) (Or.inl ⟨by kernel_rfl, ?h11d⟩) hS10 ?_
        case h11d => (rintro w2 hb; have e0 := HF.out w2 hb; go_simp; try with_reducible rfl)
        refine wpAnyH_done (by kernel_rfl) ?_ _
        go_simp
        go_wp2_with fail
        have hfin := set3 (.int .i64 6) (.string fb) (.int .i64 0) HZ1.out
        obtain ⟨r0, r1, r2, _⟩ := box3 hfin
        exact bodyPost_ret (v := .tuple #[.agg #[.int .i64 6, .string fb, .int .i64 0], .int .i64 (fb.size : Int)]) (by simp [results, Tryd.f26, go_sem, r0, r1, r2]) rfl (nextOut_yes HF9.out rfl ((below3 _ _ _ HB1.out (Nat.le_refl _)).drew))
    · have hi1 : ¬ (k : Int) < 10 := by omega
      have hfno := faultF_no (l := L) (fun j h1 h2 => HJ.out j h1 (by omega))
      have hF := HFF.out
      rw [hfno, if_neg (by simp)] at hF
      have HF5 := Lib.hid hF
      have hb2 := HB1.out.alloc HB1.out.size (.cells sgnC 9)
      have hz2 := heap_alloc_new W1 (.cells sgnC 9)
      have hzz : (W1.alloc (.cells sgnC 9)).heap[w.heap.size]? = some (.cells #[.int .i64 0, .string ⟨#[]⟩, .int .i64 0] 35 (0, 0)) := by
        rw [Below.heap_alloc _ _ _ (by rw [HSZ1.out]; omega)]; exact HZ1.out
      obtain ⟨W2, hW2⟩ : ∃ W2, W1.alloc (.cells sgnC 9) = W2 := ⟨_, rfl⟩
      rw [hW2] at hb2 hz2 hzz
      rw [HSZ1.out] at hz2
      have HW2 := Lib.hid hW2
      have HB2 := Lib.hid hb2
      have HZ2 := Lib.hid hzz
      have HL2 := Lib.hid hz2
      clear hW2 hb2 hz2 hzz hfno hF HFF HJ hlt HB1 HZ1 HL1
      go_wp2_with fail
      refine (rsigns_any _).mono ?_
      rw [HSZ1.out, HW2.out]
      rintro e w1 ⟨rfl, hw1⟩
      have hw1 := hw1.symm
      subst hw1
      clear HW2
      go_wp2_with fail
      go_loop [11] (fun x => ∃ j : Nat, j ≤ 21 ∧ x = .int .i64 (j : Int) ∧ Hid (∀ i, i < j → signP L i = false)) (fun x => 21 - (intOf x).toNat)
      case atStart => exact ⟨0, by omega, rfl, Lib.hid (fun i h => absurd h (by omega))⟩
      case round =>
        obtain ⟨j, hj, rfl, HK⟩ := hrel
        by_cases hlt : j < 21
        · have hj1 : (j : Int) < 21 := by omega
          have hj0 : (0 : Int) ≤ (j : Int) := by omega
          have hcell := sgn_cell HL2.out j hlt
          have hbg := fun W => rbegins_any s (sB j) hs (by have := size_list (sB j); rw [show (sB j).data.toList = signL.getD j [] from rfl] at this; have h9 := rsign_len j hlt; omega) false W
          obtain ⟨fb, hfb⟩ : ∃ fb, sB j = fb := ⟨_, rfl⟩
          have hfl : fb.data.toList = signL.getD j [] := by rw [← hfb]; rfl
          rw [show (sB j).data.toList = signL.getD j [] from rfl, HL.out, if_neg (by decide)] at hbg
          obtain ⟨yes, hyes⟩ : ∃ b, signP L j = b := ⟨_, rfl⟩
          rw [show (signL.getD j []).isPrefixOf (L.map id) = yes from hyes] at hbg
          rw [hfb] at hbg hcell
          have HBG := Lib.hid hbg
          clear hbg hfb
          cases yes with
          | false =>
            have HK2 : Hid (∀ i, i < j + 1 → signP L i = false) := Lib.hid (fun i h2 => by
              by_cases hij : i < j
              · exact HK.out i hij
              · obtain rfl : i = j := by omega
                exact hyes)
            clear hyes HK hfl
            go_wp2_with fail
            refine (HBG.out _).mono ?_
            rintro e w1 ⟨rfl, rfl⟩
            go_wp2
            go_round
            case rel => exact ⟨j + 1, by omega, by go_num, HK2⟩
            case measure => simp [intOf]; omega
          | true =>
            have hfk := signF_found hlt hyes HK.out
            have hF := HF5.out
            rw [hfk.1, hfk.2, ← hfl] at hF
            have hflen : fb.data.toList.length = fb.size := size_list fb
            rw [hflen] at hF
            have HF9 := Lib.hid hF
            have HF : Hid (∀ W, But w.heap.size W2 W → W.cell? ⟨w.heap.size + 2, j, none⟩ = some (.string fb)) := Lib.hid fun W hW => hW.cell hcell (by simp)
            obtain ⟨c0, c1, c2, f0, f1, f2⟩ := box3 HZ2.out
            clear hfk hF hflen hfl hyes HK
            go_wp2_with fail
            refine (HBG.out _).mono ?_
            rintro e w1 ⟨rfl, rfl⟩
            clear HBG
            go_wp2_with fail
            refine wp_region_held_drew (S := But w.heap.size W2) (by kernel_rfl) (But.drew _ _) (fun hS => ?_)
            refine wpAnyH_take (i := 0) (v := ?v0b) rfl (by kernel_rfl) (by kernel_rfl) (by kernel_rfl) (fun _ _ _ h => h) (Or.inl ⟨by kernel_rfl, ?h0b⟩) (But.drew _ _) ?_
            case h0b => (rintro w2 hb; have e0 := HF.out w2 hb; go_simp; try with_reducible rfl)
            refine wpAnyH_take (i := 1) (v := ?v1b) rfl (by kernel_rfl) (by kernel_rfl) (by kernel_rfl) (fun _ _ _ h => h) (Or.inl ⟨by kernel_rfl, ?h1b⟩) (But.drew _ _) ?_
            case h1b => (rintro w2 hb; have e0 := HF.out w2 hb; go_simp; try with_reducible rfl)
            refine wpAnyH_take (i := 2) (v := ?v2b) rfl (by kernel_rfl) (by kernel_rfl) (by kernel_rfl) (fun _ _ _ h => h) (Or.inl ⟨by kernel_rfl, ?h2b⟩) (But.drew _ _) ?_
            case h2b => (rintro w2 hb; have e0 := HF.out w2 hb; go_simp; try with_reducible rfl)
            refine wpAnyH_take (i := 3) (v := ?v3b) rfl (by kernel_rfl) (by kernel_rfl) (by kernel_rfl) (fun _ _ _ h => h) (Or.inl ⟨by kernel_rfl, ?h3b⟩) (But.drew _ _) ?_
            case h3b => (rintro w2 hb; have e0 := HF.out w2 hb; go_simp; try with_reducible rfl)
            refine wpAnyH_take (i := 4) (v := ?v4b) rfl (by kernel_rfl) (by kernel_rfl) (by kernel_rfl) (fun _ _ _ h => h) (Or.inl ⟨by kernel_rfl, ?h4b⟩) (But.drew _ _) ?_
            case h4b => (rintro w2 hb; have e0 := HF.out w2 hb; go_simp; try with_reducible rfl)
            refine wpAnyH_take (i := 5) (v := ?v5b) rfl (by kernel_rfl) (by kernel_rfl) (by kernel_rfl) (fun _ _ _ h => h) (Or.inl ⟨by kernel_rfl, ?h5b⟩) (But.drew _ _) ?_
            case h5b => (rintro w2 hb; have e0 := HF.out w2 hb; go_simp; try with_reducible rfl)
            refine wpAnyH_take (i := 6) (v := ?v6b) rfl (by kernel_rfl) (by kernel_rfl) (by kernel_rfl) (fun _ _ _ h => h) (Or.inl ⟨by kernel_rfl, ?h6b⟩) (But.drew _ _) ?_
            case h6b => (rintro w2 hb; have e0 := HF.out w2 hb; go_simp; try with_reducible rfl)
            refine wpAnyH_take (i := 7) (v := ?v7b) rfl (by kernel_rfl) (by kernel_rfl) (by kernel_rfl) (fun _ _ _ h => h) (Or.inl ⟨by kernel_rfl, ?h7b⟩) (But.drew _ _) ?_
            case h7b => (rintro w2 hb; have e0 := HF.out w2 hb; go_simp; try with_reducible rfl)
            refine wpAnyH_take (i := 8) (v := ?v8b) rfl (by kernel_rfl) (by kernel_rfl) (by kernel_rfl) (fun _ _ _ h => h) (Or.inl ⟨by kernel_rfl, ?h8b⟩) (But.drew _ _) ?_
            case h8b => (rintro w2 hb; have e0 := HF.out w2 hb; go_simp; try with_reducible rfl)
            refine wpAnyH_take (i := 9) (v := ?v9b) rfl (by kernel_rfl) (by kernel_rfl) (by kernel_rfl) (fun _ _ _ h => h) (Or.inl ⟨by kernel_rfl, ?h9b⟩) (But.drew _ _) ?_
            case h9b => (rintro w2 hb; have e0 := HF.out w2 hb; go_simp; try with_reducible rfl)
            refine wpAnyH_ready (rs := [10]) (by kernel_rfl) (by simp) (AllReadyH.cons rfl (fun K hK => ?_) AllReadyH.nil)
            go_simp
            go_wp2_with (fail)
            refine hK.out _ _ ((((But.drew _ _).set 0 _).set 1 _).set 2 _) (fun hS10 => ?_); clear hK K
            refine wpAnyH_take (i := 11) (v := ?v11b) rfl (by kernel_rfl) (by kernel_rfl) (by kernel_rfl) (fun _ _ _ h => h) (Or.inl ⟨by kernel_rfl, ?h11b⟩) hS10 ?_
            case h11b => (rintro w2 hb; have e0 := HF.out w2 hb; go_simp; try with_reducible rfl)
            refine wpAnyH_done (by kernel_rfl) ?_ _
            go_simp
            go_wp2_with fail
            have hfin := set3 (.int .i64 5) (.string fb) (.int .i64 0) HZ2.out
            obtain ⟨r0, r1, r2, _⟩ := box3 hfin
            exact bodyPost_ret (v := .tuple #[.agg #[.int .i64 5, .string fb, .int .i64 0], .int .i64 (fb.size : Int)]) (by simp [results, Tryd.f26, go_sem, r0, r1, r2]) rfl (nextOut_yes HF9.out rfl ((below3 _ _ _ HB2.out (Nat.le_refl _)).drew))
        · have hj1 : ¬ (j : Int) < 21 := by omega
          have hsn := signF_no (l := L) (fun i h => HK.out i (by omega))
          have HF : Hid ((firstF L).2 = 0) := Lib.hid (by rw [HF5.out, hsn])
          obtain ⟨c0, c1, c2, f0, f1, f2⟩ := box3 HZ2.out
          clear hsn HK hlt
          go_wp2_with fail
          have hfin := set3 (.int .i64 0) (.string ⟨#[]⟩) (.int .i64 0) HZ2.out
          obtain ⟨r0, r1, r2, _⟩ := box3 hfin
          exact bodyPost_ret (v := .tuple #[.agg #[.int .i64 0, .string ⟨#[]⟩, .int .i64 0], .int .i64 0]) (by simp [results, Tryd.f26, go_sem, r0, r1, r2]) rfl (nextOut_no HF.out (below3 _ _ _ HB2.out (Nat.le_refl _)))
end Go.Proofs.YtcnmghkmognhoaaDoor
