/- The token with which a text begins. -/
import Derived.Test.YtcnmghkmognhoaaDoorNa
namespace Go.Proofs.YtcnmghkmognhoaaDoor
open Go.RowKit Go.Shelf

theorem tsz_ge : ∀ (n : Nat) (l : List UInt8) (k : Nat), l.length ≤ n → k + 1 ≤ tszF l k ∨ tszF l k = 0
  | 0, l, k, hn => by
    have : l = [] := List.eq_nil_of_length_eq_zero (by omega)
    subst this; simp [tszF]
  | n + 1, [], k, _ => by simp [tszF]
  | n + 1, [x], k, _ => by
    by_cases hx : x = 34
    · subst hx; simp [tszF]
    · simp [tszF, hx]
  | n + 1, x :: y :: u, k, hn => by
    simp only [List.length_cons] at hn
    by_cases hx : x = 34
    · subst hx
      by_cases hy : y = 34
      · subst hy
        rw [tsz_two]
        have := tsz_ge n u (k + 2) (by omega); omega
      · rw [tsz_one hy]; omega
    · rw [tsz_ne hx]
      have := tsz_ge n (y :: u) (k + 1) (by simp only [List.length_cons]; omega)
      omega
theorem first_word {l : List UInt8} (h1 : ¬ 0 < numF l) (h2 : 0 < wordF l) : firstF l = wordT (l.take (wordF l)) := by
  unfold firstF
  rw [if_neg h1, if_pos h2]
  rfl
def firstV (l : List UInt8) : Value := .tuple #[tokV (firstF l).1, .int .i64 (((firstF l).2 : Nat) : Int)]
theorem firstV_of {l : List UInt8} {k : Int} {t : List UInt8} {n : Nat} (h : firstF l = (⟨k, t, 0⟩, n)) : firstV l = .tuple #[.agg #[.int .i64 k, .string ⟨t.toArray⟩, .int .i64 0], .int .i64 (n : Int)] := by unfold firstV; rw [h]; rfl
set_option maxRecDepth 100000 in
set_option maxHeartbeats 2000000 in
theorem first_any (s : ByteArray) (hs : s.size ≤ 100000) (h1 : 1 ≤ s.size) (w : World) (he : Env w) :
    Calls Tryd.prog 25 #[.string s] w fun e w' => e = .returned (firstV s.data.toList) ∧ Below w.heap.size w w' := by
  obtain ⟨L, hL⟩ : ∃ L, s.data.toList = L := ⟨_, rfl⟩
  have hLs : L.length = s.size := by rw [← hL]; exact size_list s
  rw [hL]
  obtain ⟨V, hV⟩ : ∃ V, firstV L = V := ⟨_, rfl⟩
  rw [hV]
  have HV := Lib.hid hV
  have HL := Lib.hid hL
  have HE := Lib.hid he
  obtain ⟨n, hn⟩ : ∃ n, numF L = n := ⟨_, rfl⟩
  have hnle : n ≤ s.size := by rw [← hn, ← hLs]; exact num_le L
  have HN := Lib.hid hn
  have HNUM := Lib.hid (fun W => num_any s hs W)
  rw [hL, hn] at HNUM
  have hb0 : Below w.heap.size w (w.alloc (.cells #[.int .i64 0, .string ⟨#[]⟩, .int .i64 0] 39)) := (Below.refl _ _).alloc (Nat.le_refl _) _
  have hz0 := heap_alloc_new w (.cells #[.int .i64 0, .string ⟨#[]⟩, .int .i64 0] 39)
  obtain ⟨W0, hW0⟩ : ∃ W0, w.alloc (.cells #[.int .i64 0, .string ⟨#[]⟩, .int .i64 0] 39) = W0 := ⟨_, rfl⟩
  rw [hW0] at hb0 hz0
  have HB0 := Lib.hid hb0
  have HZ0 := Lib.hid hz0
  have HW0 := Lib.hid hW0
  have HLS := Lib.hid hLs
  clear hb0 hz0 hW0 hV hL he hn hLs
  go_enter Tryd.func25, Tryd.ntmps25
  go_wp2_with fail
  rw [HW0.out]
  refine (HNUM.out _).mono ?_
  rintro e w1 ⟨rfl, hb1⟩
  have hz1 := (hb1.block _ (Array.getElem?_eq_some_iff.1 HZ0.out).1).trans HZ0.out
  have HB1 := Lib.hid (HB0.out.trans (hb1.mono HB0.out.size))
  have HZ1 := Lib.hid hz1
  clear hb1 HNUM HW0 HB0 HZ0
  by_cases hnp : 0 < n
  · have hni : (0 : Int) < (n : Int) := by omega
    have hni0 : (0 : Int) ≤ (n : Int) := by omega
    have hni1 : (n : Int) ≤ (s.size : Int) := by omega
    have hF : firstF L = (⟨1, L.take n, 0⟩, n) := by unfold firstF; rw [HN.out, if_pos hnp]
    have hVe := firstV_of hF
    have hcut : (⟨(L.take n).toArray⟩ : ByteArray) = s.extract 0 n := by rw [← HL.out, ← cut_head, bs_eta]
    rw [hcut, HV.out] at hVe
    have HVE := Lib.hid hVe
    obtain ⟨c0, c1, c2, f0, f1, f2⟩ := box3 hz1
    clear hF hVe hcut hnp hz1
    go_wp2_with fail
    have hfin := set3 (.int .i64 1) (.string (s.extract 0 n)) (.int .i64 0) HZ1.out
    obtain ⟨r0, r1, r2, _⟩ := box3 hfin
    exact bodyPost_ret (v := .tuple #[.agg #[.int .i64 1, .string (s.extract 0 n), .int .i64 0], .int .i64 (n : Int)]) (by simp [results, Tryd.f25, go_sem, r0, r1, r2]) rfl ⟨by rw [HVE.out], below3 _ _ _ HB1.out (Nat.le_refl _)⟩
  have hni : ¬ (0 : Int) < (n : Int) := by omega
  have HNP := Lib.hid (show ¬ 0 < numF L by rw [HN.out]; exact hnp)
  clear hz1 hnp
  obtain ⟨m, hm⟩ : ∃ m, wordF L = m := ⟨_, rfl⟩
  have hmle : m ≤ s.size := by rw [← hm, ← HLS.out]; exact word_le L
  have HM := Lib.hid hm
  have hword := word_any s hs w1
  rw [HL.out, hm] at hword
  have HWORD := Lib.hid hword
  clear hm hword
  go_wp2_with fail
  refine HWORD.out.mono ?_
  rintro e w2 ⟨rfl, hb2⟩
  have hz2 := (hb2.block _ (Array.getElem?_eq_some_iff.1 HZ1.out).1).trans HZ1.out
  have HB2 := Lib.hid (HB1.out.trans (hb2.mono HB1.out.size))
  have HZ2 := Lib.hid hz2
  clear hb2 HWORD HB1 HZ1 hni
  by_cases hmp : 0 < m
  · have hmi : (0 : Int) < (m : Int) := by omega
    have hmi0 : (0 : Int) ≤ (m : Int) := by omega
    have hmi1 : (m : Int) ≤ (s.size : Int) := by omega
    have hF : firstF L = wordT (L.take m) := by rw [first_word HNP.out (by rw [HM.out]; exact hmp), HM.out]
    have htok := tokw_any (s.extract 0 m) (by rw [ByteArray.size_extract]; omega) w2
    rw [cut_head, HL.out, ← hF] at htok
    obtain ⟨⟨k, t, a⟩, q, hfq⟩ : ∃ tk q, firstF L = (tk, q) := ⟨_, _, rfl⟩
    rw [hfq] at htok
    have hVe : V = .tuple #[.agg #[.int .i64 k, .string ⟨t.toArray⟩, .int .i64 a], .int .i64 (q : Int)] := by rw [← HV.out]; unfold firstV; rw [hfq]; rfl
    simp only [tokV] at htok
    obtain ⟨ts, hts⟩ : ∃ ts : ByteArray, ⟨t.toArray⟩ = ts := ⟨_, rfl⟩
    rw [hts] at htok hVe
    have HTOK := Lib.hid htok
    have HVE := Lib.hid hVe
    clear hF htok hfq hVe hts hmp hz2
    go_wp2_with fail
    refine HTOK.out.mono ?_
    rintro e w3 ⟨rfl, hb3⟩
    have hz3 := (hb3.block _ (Array.getElem?_eq_some_iff.1 HZ2.out).1).trans HZ2.out
    have HB3 := Lib.hid (HB2.out.trans (hb3.mono HB2.out.size))
    have HZ3 := Lib.hid hz3
    obtain ⟨c0, c1, c2, f0, f1, f2⟩ := box3 hz3
    clear hb3 hz3 HTOK
    go_wp2_with fail
    have hfin := set3 (.int .i64 k) (.string ts) (.int .i64 a) HZ3.out
    obtain ⟨r0, r1, r2, _⟩ := box3 hfin
    exact bodyPost_ret (v := .tuple #[.agg #[.int .i64 k, .string ts, .int .i64 a], .int .i64 (q : Int)]) (by simp [results, Tryd.f25, go_sem, r0, r1, r2]) rfl ⟨by rw [HVE.out], below3 _ _ _ HB3.out (Nat.le_refl _)⟩
  have hmi : ¬ (0 : Int) < (m : Int) := by omega
  have HMP := Lib.hid (show ¬ 0 < wordF L by rw [HM.out]; exact hmp)
  clear hz2 hmp
  have hlt : 0 < s.size := by omega
  have hlti : (0 : Int) < (s.size : Int) := by omega
  have hd := drop_get s 0 hlt
  rw [List.drop_zero] at hd
  obtain ⟨c, hc⟩ : ∃ c, s[0] = c := ⟨_, rfl⟩
  rw [hc, HL.out] at hd
  have hhead : headP (fun x => x == 34) L = (c == 34) := by rw [hd]; rfl
  have HHEAD := Lib.hid hhead
  have HC := Lib.hid hc
  clear hd hc hhead
  by_cases hq : c = 34
  · have hqi : ((s[0].toNat : Int) == 34) = true := by rw [HC.out, hq]; decide
    have htx := text_any s hs h1 w2
    obtain ⟨q, hqt⟩ : ∃ q, textF L = q := ⟨_, rfl⟩
    rw [HL.out, hqt] at htx
    have hqle : q ≤ s.size := by
      rw [← hqt]
      have := tsz_le _ (L.drop 1) 1 (Nat.le_refl _)
      rw [List.length_drop, HLS.out] at this
      unfold textF
      omega
    have hhd : headP (fun x => x == 34) L = true := by rw [HHEAD.out, hq]; rfl
    have HHD := Lib.hid hhd
    have HTX := Lib.hid htx
    have HQT := Lib.hid hqt
    clear htx hqt hhd hq
    go_wp2_with fail
    refine HTX.out.mono ?_
    rintro e w3 ⟨rfl, hb3⟩
    have hz3 := (hb3.block _ (Array.getElem?_eq_some_iff.1 HZ2.out).1).trans HZ2.out
    have HB3 := Lib.hid (HB2.out.trans (hb3.mono HB2.out.size))
    have HZ3 := Lib.hid hz3
    clear hb3 HTX
    by_cases hq0 : q = 0
    · subst hq0
      have hF : firstF L = (⟨0, [], 0⟩, 0) := by unfold firstF; rw [if_neg HNP.out, if_neg HMP.out, if_pos HHD.out, HQT.out, if_pos rfl]
      have hVe := firstV_of hF
      rw [HV.out] at hVe
      have HVE := Lib.hid hVe
      obtain ⟨c0, c1, c2, f0, f1, f2⟩ := box3 hz3
      clear hF hVe hz3
      go_wp2_with fail
      have hfin := set3 (.int .i64 0) (.string ⟨#[]⟩) (.int .i64 0) HZ3.out
      obtain ⟨r0, r1, r2, _⟩ := box3 hfin
      exact bodyPost_ret (v := .tuple #[.agg #[.int .i64 0, .string ⟨#[]⟩, .int .i64 0], .int .i64 0]) (by simp [results, Tryd.f25, go_sem, r0, r1, r2]) rfl ⟨by rw [HVE.out]; rfl, below3 _ _ _ HB3.out (Nat.le_refl _)⟩
    · have hq0i : ((q : Int) == 0) = false := by rw [beq_eq_false_iff_ne]; omega
      have hq0j : ¬ (q : Int) = 0 := by omega
      have hF : firstF L = (⟨2, meantF ((L.take (q - 1)).drop 1), 0⟩, q) := by unfold firstF; rw [if_neg HNP.out, if_neg HMP.out, if_pos HHD.out, HQT.out, if_neg hq0]
      have hq2 : 2 ≤ q := by
        rcases Nat.lt_or_ge q 2 with h | h
        · exfalso
          have h9 := HQT.out
          have h3 : 1 + 1 ≤ tszF (L.drop 1) 1 ∨ tszF (L.drop 1) 1 = 0 := tsz_ge _ (L.drop 1) 1 (Nat.le_refl _)
          unfold textF at h9
          omega
        · exact h
      have hmea := meant_any (s.extract 1 (q - 1)) (by rw [ByteArray.size_extract]; omega) w3 (HE.out.below HB3.out)
      rw [cut_mid, HL.out] at hmea
      have hVe := firstV_of hF
      rw [HV.out] at hVe
      obtain ⟨ts, hts⟩ : ∃ ts : ByteArray, ⟨(meantF ((L.take (q - 1)).drop 1)).toArray⟩ = ts := ⟨_, rfl⟩
      rw [hts] at hmea hVe
      have HVE := Lib.hid hVe
      have HMEA := Lib.hid hmea
      have hwr : (q : Int) - 1 = ((q - 1 : Nat) : Int) := by omega
      have hi1 : (1 : Int) ≤ ((q - 1 : Nat) : Int) := by omega
      have hi2 : ((q - 1 : Nat) : Int) ≤ (s.size : Int) := by omega
      obtain ⟨q1, hq1⟩ : ∃ q1, q - 1 = q1 := ⟨_, rfl⟩
      rw [hq1] at HMEA hwr hi1 hi2
      clear hF hVe hts hmea hz3 hq0 hq1
      go_wp2_with fail
      refine HMEA.out.mono ?_
      rintro e w4 ⟨rfl, hb4⟩
      have hz4 := (hb4.block _ (Array.getElem?_eq_some_iff.1 HZ3.out).1).trans HZ3.out
      have HB4 := Lib.hid (HB3.out.trans (hb4.mono HB3.out.size))
      have HZ4 := Lib.hid hz4
      obtain ⟨c0, c1, c2, f0, f1, f2⟩ := box3 hz4
      clear hb4 hz4 HMEA hwr hi1 hi2
      go_wp2_with fail
      have hfin := set3 (.int .i64 2) (.string ts) (.int .i64 0) HZ4.out
      obtain ⟨r0, r1, r2, _⟩ := box3 hfin
      exact bodyPost_ret (v := .tuple #[.agg #[.int .i64 2, .string ts, .int .i64 0], .int .i64 (q : Int)]) (by simp [results, Tryd.f25, go_sem, r0, r1, r2]) rfl ⟨by rw [HVE.out], below3 _ _ _ HB4.out (Nat.le_refl _)⟩
  have hqn : c.toNat ≠ 34 := fun e => hq (UInt8.toNat_inj.1 e)
  have hqi : ((s[0].toNat : Int) == 34) = false := by rw [HC.out, beq_eq_false_iff_ne]; omega
  have hqj : ¬ (s[0].toNat : Int) = 34 := by rw [HC.out]; omega
  have hhd : ¬ headP (fun x => x == 34) L = true := by rw [HHEAD.out]; simpa using hq
  have HHD := Lib.hid hhd
  have hfa := fault_any s hs w2 (HE.out.below HB2.out)
  rw [HL.out] at hfa
  obtain ⟨fl, hfl⟩ : ∃ fl, faultF L = fl := ⟨_, rfl⟩
  rw [hfl] at hfa
  obtain ⟨fb, hfb⟩ : ∃ fb : ByteArray, ⟨fl.toArray⟩ = fb := ⟨_, rfl⟩
  rw [hfb] at hfa
  have HFA := Lib.hid hfa
  have HFL := Lib.hid hfl
  have HFB := Lib.hid hfb
  clear hq hqn hhd hfa hfl hfb
  go_wp2_with fail
  refine HFA.out.mono ?_
  rintro e w3 ⟨rfl, hb3⟩
  have hz3 := (hb3.block _ (Array.getElem?_eq_some_iff.1 HZ2.out).1).trans HZ2.out
  have HB3 := Lib.hid (HB2.out.trans (hb3.mono HB2.out.size))
  have HZ3 := Lib.hid hz3
  clear hb3 HFA hqi hqj
  by_cases hf0 : fl = []
  · have hne : fb.toList = [] := by rw [ByteArray.toList_eq, ← HFB.out, hf0]
    have hne2 : (!fb.toList.isEmpty) = false := by rw [hne]; rfl
    obtain ⟨g, hg⟩ : ∃ g, signF L = g := ⟨_, rfl⟩
    have hgle : g ≤ s.size := by rw [← hg, ← HLS.out]; exact sign_le L
    have hsg := sign_any s hs h1 w3
    rw [HL.out, hg] at hsg
    have hF : firstF L = (⟨5, L.take g, 0⟩, g) := by unfold firstF; rw [if_neg HNP.out, if_neg HMP.out, if_neg HHD.out, HFL.out, hf0, if_neg (by simp), hg]
    have hVe := firstV_of hF
    have hcut : (⟨(L.take g).toArray⟩ : ByteArray) = s.extract 0 g := by rw [← HL.out, ← cut_head, bs_eta]
    rw [hcut, HV.out] at hVe
    have HVE := Lib.hid hVe
    have HSG := Lib.hid hsg
    have hg0 : (0 : Int) ≤ (g : Int) := by omega
    have hg1 : (g : Int) ≤ (s.size : Int) := by omega
    clear hg hsg hF hVe hcut hf0 hz3
    go_wp2_with fail
    refine HSG.out.mono ?_
    rintro e w4 ⟨rfl, hb4⟩
    have hz4 := (hb4.block _ (Array.getElem?_eq_some_iff.1 HZ3.out).1).trans HZ3.out
    have HB4 := Lib.hid (HB3.out.trans (hb4.mono HB3.out.size))
    have HZ4 := Lib.hid hz4
    obtain ⟨c0, c1, c2, f0, f1, f2⟩ := box3 hz4
    clear hb4 hz4 HSG hne hne2
    go_wp2_with fail
    have hfin := set3 (.int .i64 5) (.string (s.extract 0 g)) (.int .i64 0) HZ4.out
    obtain ⟨r0, r1, r2, _⟩ := box3 hfin
    exact bodyPost_ret (v := .tuple #[.agg #[.int .i64 5, .string (s.extract 0 g), .int .i64 0], .int .i64 (g : Int)]) (by simp [results, Tryd.f25, go_sem, r0, r1, r2]) rfl ⟨by rw [HVE.out], below3 _ _ _ HB4.out (Nat.le_refl _)⟩
  · have hne : ¬ fb.toList = [] := by rw [ByteArray.toList_eq, ← HFB.out]; exact hf0
    have hne2 : (!fb.toList.isEmpty) = true := by rw [Bool.not_eq_true', List.isEmpty_eq_false_iff]; exact hne
    have hF : firstF L = (⟨6, fl, 0⟩, fl.length) := by unfold firstF; rw [if_neg HNP.out, if_neg HMP.out, if_neg HHD.out, HFL.out, if_pos hf0]
    have hVe := firstV_of hF
    have hfsz : fl.length = fb.size := by rw [← size_list fb, ← HFB.out]
    rw [HFB.out, HV.out, hfsz] at hVe
    have HVE := Lib.hid hVe
    obtain ⟨c0, c1, c2, f0, f1, f2⟩ := box3 hz3
    clear hF hVe hf0 hz3 hfsz
    go_wp2_with fail
    have hfin := set3 (.int .i64 6) (.string fb) (.int .i64 0) HZ3.out
    obtain ⟨r0, r1, r2, _⟩ := box3 hfin
    exact bodyPost_ret (v := .tuple #[.agg #[.int .i64 6, .string fb, .int .i64 0], .int .i64 (fb.size : Int)]) (by simp [results, Tryd.f25, go_sem, r0, r1, r2]) rfl ⟨by rw [HVE.out], below3 _ _ _ HB3.out (Nat.le_refl _)⟩
end Go.Proofs.YtcnmghkmognhoaaDoor
