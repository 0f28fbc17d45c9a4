/- Whether a word is a mark; the token that a word is. -/
import Derived.Test.YtcnmghkmognhoaaDoorF
namespace Go.Proofs.YtcnmghkmognhoaaDoor
open Go.RowKit Go.Shelf

theorem bs_eta (s : ByteArray) : (⟨s.data.toList.toArray⟩ : ByteArray) = s := by
  apply ByteArray.ext; simp
theorem str_nil {s : ByteArray} (h : s.size = 0) : s = ⟨#[]⟩ := by
  apply ByteArray.ext
  exact Array.eq_empty_of_size_eq_zero h
set_option maxRecDepth 100000 in
set_option maxHeartbeats 1000000 in
theorem row_any (s : ByteArray) (hs : s.size ≤ 100000) (w : World) : Calls Tryd.prog 114 #[.string s] w fun e w' => e = .returned (.bool (isRowF s.data.toList)) ∧ Below w.heap.size w w' := by
  obtain ⟨R, hR⟩ : ∃ R, isRowF s.data.toList = R := ⟨_, rfl⟩
  rw [hR]
  have hsz := size_list s
  have HR := Lib.hid hR
  clear hR
  by_cases h1 : 1 ≤ s.size
  rotate_left
  · have hRf : R = false := by rw [← HR.out]; unfold isRowF; rw [hsz]; simp; omega
    have h1' : ¬ (1 : Int) ≤ (s.size : Int) := by omega
    have h0 : s.size = 0 := by omega
    obtain rfl := str_nil h0
    subst hRf
    clear hsz h1 h1' h0 hs
    go_enter Tryd.func114, Tryd.ntmps114
    go_wp2
    go_ret
    exact ⟨rfl, Below.refl _ _⟩
  have h1i : (1 : Int) ≤ (s.size : Int) := by omega
  have h1j : (0 : Int) < (s.size : Int) := by omega
  by_cases h2 : s.size ≤ 7
  rotate_left
  · have hRf : R = false := by rw [← HR.out]; unfold isRowF; rw [hsz]; simp; omega
    have h2' : ¬ (s.size : Int) ≤ 7 := by omega
    subst hRf
    clear hsz h2
    go_enter Tryd.func114, Tryd.ntmps114
    go_wp2
    go_ret
    exact ⟨rfl, Below.refl _ _⟩
  have h2i : (s.size : Int) ≤ 7 := by omega
  have hlt : 0 < s.size := by omega
  have hd := drop_get s 0 hlt
  rw [List.drop_zero] at hd
  obtain ⟨c, hc⟩ : ∃ c, s[0] = c := ⟨_, rfl⟩
  rw [hc] at hd
  obtain ⟨t, ht⟩ : ∃ t, s.data.toList.drop (0 + 1) = t := ⟨_, rfl⟩
  rw [ht] at hd
  by_cases h3 : c = 48
  · have hRf : R = false := by rw [← HR.out]; unfold isRowF; rw [hd, h3]; simp [headP]
    have h3' : ((s[0].toNat : Int) != 48) = false := by rw [hc, h3]; decide
    subst hRf
    clear hsz hd hc ht h3 h1 h2
    go_enter Tryd.func114, Tryd.ntmps114
    go_wp2
    go_ret
    exact ⟨rfl, Below.refl _ _⟩
  · have h3n : c.toNat ≠ 48 := fun e => h3 (UInt8.toNat_inj.1 e)
    have h3' : ((s[0].toNat : Int) != 48) = true := by rw [hc, bne_iff_ne]; omega
    obtain ⟨n, hn⟩ : ∃ n, runF digP s.data.toList = n := ⟨_, rfl⟩
    have hRe : R = decide (n = s.size) := by
      rw [← HR.out]
      unfold isRowF
      rw [hn, hsz]
      have : headP (fun x => x == 48) s.data.toList = false := by rw [hd]; simpa [headP] using h3
      rw [this]
      simp [h1, h2]
    have HN := Lib.hid hn
    clear hd hc ht h3 h3n hn
    go_enter Tryd.func114, Tryd.ntmps114
    go_wp2_with fail
    refine (between_any 48 57 w).mono ?_
    rintro e w1 ⟨v3, rfl, hk3, hb1⟩
    have HK3 := Lib.hid (show KindIs w1 v3 digP from hk3)
    have HB1 := Lib.hid hb1
    clear hk3 hb1
    go_wp2_with fail
    refine (run_any s hs v3 digP w1 HK3.out).mono ?_
    rw [HN.out]
    rintro e w2 ⟨rfl, hb2⟩
    have HB2 := Lib.hid (HB1.out.trans (hb2.mono HB1.out.size))
    clear hb2
    by_cases h4 : n = s.size
    · have h4' : ((n : Int) == (s.size : Int)) = true := by rw [beq_iff_eq]; omega
      rw [decide_eq_true h4] at hRe
      subst hRe
      clear h4
      go_wp2
      go_ret
      exact ⟨rfl, HB2.out⟩
    · have h4' : ((n : Int) == (s.size : Int)) = false := by rw [beq_eq_false_iff_ne]; omega
      rw [decide_eq_false h4] at hRe
      subst hRe
      go_wp2
      go_ret
      exact ⟨rfl, HB2.out⟩
theorem head_prefix (l : List UInt8) : Lib.hasPrefix l [36] = headP (fun x => x == 36) l := by
  unfold Lib.hasPrefix headP
  cases l with
  | nil => rfl
  | cons x t => simp [List.isPrefixOf]; exact Bool.beq_comm
theorem trim_cut (l : List UInt8) : Lib.trimPrefix l [36] = cutD l := by
  unfold Lib.trimPrefix cutD
  rw [head_prefix]
  rfl
set_option maxRecDepth 100000 in
set_option maxHeartbeats 2000000 in
theorem mark_any (s : ByteArray) (hs : s.size ≤ 100000) (w : World) : Calls Tryd.prog 90 #[.string s] w fun e w' => e = .returned (.bool (isMarkF s.data.toList)) ∧ Below w.heap.size w w' := by
  obtain ⟨R, hR⟩ : ∃ R, isMarkF s.data.toList = R := ⟨_, rfl⟩
  rw [hR]
  obtain ⟨fx, hfx⟩ : ∃ b, headP (fun x => x == 36) s.data.toList = b := ⟨_, rfl⟩
  have hcut := Tryd.strings_CutPrefix s ⟨#[36]⟩
  rw [show (⟨#[36]⟩ : ByteArray).data.toList = [36] from rfl, trim_cut, head_prefix, hfx] at hcut
  obtain ⟨r0, hr0⟩ : ∃ r0 : ByteArray, (⟨(cutD s.data.toList).toArray⟩ : ByteArray) = r0 := ⟨_, rfl⟩
  have hr0l : r0.data.toList = cutD s.data.toList := by rw [← hr0]
  rw [hr0] at hcut
  have hr0s : r0.size ≤ s.size := by
    rw [← size_list r0, hr0l, ← size_list s]
    unfold cutD
    split
    · simp
    · exact Nat.le_refl _
  obtain ⟨n, hn⟩ : ∃ n, runF letP r0.data.toList = n := ⟨_, rfl⟩
  have hnle : n ≤ r0.size := by rw [← hn, ← size_list r0]; exact runF_le _ _
  obtain ⟨rs, hrs⟩ : ∃ rs, r0.extract n r0.size = rs := ⟨_, rfl⟩
  have hrsl : rs.data.toList = r0.data.toList.drop n := by rw [← hrs, cut_end]
  have hrss : rs.size ≤ r0.size := by rw [← hrs, ByteArray.size_extract]; omega
  have hRe : R = (if 3 < n then false else if n = 0 then fx && isRowF rs.data.toList else if rs.data.toList = [] then fx else isRowF (cutD rs.data.toList)) := by
    rw [← hR]
    unfold isMarkF
    simp only [hfx, ← hr0l, hn, ← hrsl]
  have HCUT := Lib.hid hcut
  have HN := Lib.hid hn
  have HRS := Lib.hid hrs
  have hn0 : (0 : Int) ≤ (n : Int) := by omega
  have hn1 : (n : Int) ≤ (r0.size : Int) := by omega
  clear hcut hR hfx hr0 hr0l hn hrs hrsl
  go_enter Tryd.func90, Tryd.ntmps90
  go_wp2_with fail
  refine (HCUT.out w).mono ?_
  rintro e w0 ⟨rfl, rfl⟩
  clear HCUT
  go_wp2_with fail
  refine (between_any 97 122 _).mono ?_
  rintro e w1 ⟨v4, rfl, hk4, hb1⟩
  obtain ⟨M4, c4, rfl⟩ := hk4.fn
  have HK4 := Lib.hid hk4
  have HB1 := Lib.hid hb1
  clear hk4 hb1
  go_wp2_with fail
  refine (between_any 65 90 w1).mono ?_
  rintro e w2 ⟨v5, rfl, hk5, hb2⟩
  obtain ⟨M5, c5, rfl⟩ := hk5.fn
  have HK5 := Lib.hid (kinds_two (t := 120) (HK4.out.later hb2) hk5)
  have HB2 := Lib.hid (HB1.out.trans (hb2.mono HB1.out.size))
  clear hk5 hb2 HK4
  go_wp2_with fail
  refine (either_any _ _ 2 rfl (by omega) _ HK5.out).mono ?_
  rintro e w3 ⟨v3, rfl, hk3, hb3⟩
  have HK3 : Hid (KindIs w3 v3 letP) := Lib.hid (hk3.ext (fun x => by simp [anyK, letP]))
  have HB3 := Lib.hid ((HB2.out.alloc HB2.out.size _).trans (hb3.mono (by have := HB2.out.size; simp; omega)))
  clear hk3 hb3 HK5
  go_wp2_with fail
  refine (run_any r0 (by omega) v3 letP w3 HK3.out).mono ?_
  rw [HN.out]
  rintro e w4 ⟨rfl, hb4⟩
  have HB4 := Lib.hid (HB3.out.trans (hb4.mono HB3.out.size))
  clear hb4
  by_cases h3 : 3 < n
  · rw [if_pos h3] at hRe
    subst hRe
    have h3i : (3 : Int) < (n : Int) := by omega
    clear h3
    go_wp2
    go_ret
    exact ⟨rfl, HB4.out⟩
  rw [if_neg h3] at hRe
  have h3i : ¬ (3 : Int) < (n : Int) := by omega
  by_cases h0 : n = 0
  · rw [if_pos h0] at hRe
    subst h0
    have HRE := Lib.hid hRe
    clear hRe h3
    cases fx with
    | false =>
      have hRf : R = false := HRE.out
      subst hRf
      go_wp2
      go_ret
      exact ⟨rfl, HB4.out⟩
    | true =>
      go_wp2_with fail
      have hrr : r0 = rs := by
        rw [← HRS.out]
        exact (ByteArray.ext (Array.toList_inj.1 (cut_end r0 0))).symm
      refine (row_any r0 (by omega) w4).mono ?_
      rintro e w5 ⟨rfl, hb5⟩
      rw [hrr, show isRowF rs.data.toList = R by rw [HRE.out]; rfl]
      have HB5 := Lib.hid (HB4.out.trans (hb5.mono HB4.out.size))
      clear hb5 hrr
      go_wp2
      go_ret
      exact ⟨rfl, HB5.out⟩
  rw [if_neg h0] at hRe
  have h0i : ((n : Int) == 0) = false := by rw [beq_eq_false_iff_ne]; omega
  have h0j : ¬ (n : Int) = 0 := by omega
  by_cases he : rs.data.toList = []
  · rw [if_pos he] at hRe
    have he2 : (r0.extract n r0.size).toList = [] := by rw [HRS.out, ByteArray.toList_eq, he]
    subst hRe
    clear he h0 h3
    go_wp2
    go_ret
    exact ⟨rfl, HB4.out⟩
  · rw [if_neg he] at hRe
    have he2 : ¬ (r0.extract n r0.size).toList = [] := by rw [HRS.out, ByteArray.toList_eq]; exact he
    have he3 : (r0.extract n r0.size).toList.isEmpty = false := by rw [List.isEmpty_eq_false_iff]; exact he2
    have htr := Tryd.strings_TrimPrefix rs ⟨#[36]⟩
    rw [show (⟨#[36]⟩ : ByteArray).data.toList = [36] from rfl, trim_cut] at htr
    obtain ⟨r2, hr2⟩ : ∃ r2 : ByteArray, (⟨(cutD rs.data.toList).toArray⟩ : ByteArray) = r2 := ⟨_, rfl⟩
    have hr2l : r2.data.toList = cutD rs.data.toList := by rw [← hr2]
    have hr2s : r2.size ≤ rs.size := by
      rw [← size_list r2, hr2l, ← size_list rs]
      unfold cutD
      split
      · simp
      · exact Nat.le_refl _
    rw [hr2] at htr
    rw [← hr2l] at hRe
    have HTR := Lib.hid htr
    have HRE := Lib.hid hRe
    clear htr hr2 hr2l hRe he h0 h3
    go_wp2_with fail
    rw [HRS.out]
    refine (HTR.out w4).mono ?_
    rintro e w5 ⟨rfl, rfl⟩
    clear he2
    go_wp2_with fail
    refine (row_any r2 (by omega) _).mono ?_
    rintro e w6 ⟨rfl, hb6⟩
    rw [← HRE.out]
    have HB6 := Lib.hid (HB4.out.trans (hb6.mono HB4.out.size))
    clear hb6
    go_wp2
    go_ret
    exact ⟨rfl, HB6.out⟩
end Go.Proofs.YtcnmghkmognhoaaDoor
