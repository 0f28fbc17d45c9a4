/- How long the number is with which a text begins. -/
import Derived.Test.YtcnmghkmognhoaaDoorD
import Derived.Test.YtcnmghkmognhoaaDoorB
import Derived.Deep.RegionHeld3
import Derived.Shelf.RegionOpen
import Derived.IntWalk
namespace Go.Proofs.YtcnmghkmognhoaaDoor
open Go.RowKit Go.Shelf

theorem dig_kind {w : World} {v : Value} (h : KindIs w v (betP 48 57)) : KindIs w v digP := h
set_option maxRecDepth 100000 in
set_option maxHeartbeats 2000000 in
theorem num_any (s : ByteArray) (hs : s.size ≤ 100000) (w : World) : Calls Tryd.prog 55 #[.string s] w fun e w' => e = .returned (.int .i64 (numF s.data.toList : Nat)) ∧ Below w.heap.size w w' := by
  obtain ⟨L, hL⟩ : ∃ L, s.data.toList = L := ⟨_, rfl⟩
  have hLs : L.length = s.size := by rw [← hL]; exact size_list s
  have hle := num_le L
  have hlA := numA_le L
  have HL := Lib.hid hL
  obtain ⟨n0, hn0⟩ : ∃ n0, runF digP L = n0 := ⟨_, rfl⟩
  obtain ⟨m, hm⟩ : ∃ m, runF digP (afterF L n0 (setP [46])) = m := ⟨_, rfl⟩
  have hn0s : n0 ≤ s.size := by rw [← hn0, ← hLs]; exact runF_le _ _
  have hms : 0 < m → n0 + 1 + m ≤ s.size := fun h => by
    rw [← hm] at h ⊢
    rw [← hLs]
    exact after_le _ _ L n0 h
  have hA : numA L = if 0 < m then n0 + 1 + m else n0 := by unfold numA; rw [hn0]; simp only [hm]
  obtain ⟨R, hR⟩ : ∃ R, numF L = R := ⟨_, rfl⟩
  have HN0 := Lib.hid hn0
  have HM := Lib.hid hm
  have HA := Lib.hid hA
  have HR := Lib.hid hR
  have HLS := Lib.hid hLs
  rw [hL, hR]
  clear hL hn0 hm hA hR hle hlA hLs
  go_enter Tryd.func55, Tryd.ntmps55
  go_wp2_with fail
  refine (between_any 48 57 w).mono ?_
  rintro e w1 ⟨v3, rfl, hk3, hb1⟩
  have HK3 := Lib.hid (dig_kind hk3)
  have HB1 := Lib.hid hb1
  clear hk3 hb1
  go_wp2_with fail
  refine (run_any s hs v3 digP w1 HK3.out).mono ?_
  rw [HL.out, HN0.out]
  rintro e w2 ⟨rfl, hb2⟩
  have HB2 := Lib.hid (HB1.out.trans (hb2.mono HB1.out.size))
  have HK3' := Lib.hid (HK3.out.later hb2)
  clear hb2 HK3
  go_wp2_with fail
  refine (oneOf_any ⟨#[46]⟩ w2).mono ?_
  rintro e w3 ⟨v4, rfl, hk4, hb3⟩
  have HK4 := Lib.hid hk4
  have HB3 := Lib.hid (HB2.out.trans (hb3.mono HB2.out.size))
  have HK3 := Lib.hid (HK3'.out.later hb3)
  clear hk4 hb3 HK3'
  go_wp2_with fail
  refine (after_any s n0 hn0s hs v4 _ w3 HK4.out).mono ?_
  rintro e w4 ⟨⟨t, rfl, ht, hts⟩, hb4⟩
  rw [HL.out] at ht
  have HT := Lib.hid ht
  have HB4 := Lib.hid (HB3.out.trans (hb4.mono HB3.out.size))
  have HK3' := Lib.hid (HK3.out.later hb4)
  clear ht hb4 HK3 HK4
  go_wp2_with fail
  refine (run_any t (by omega) v3 digP w4 HK3'.out).mono ?_
  rw [HT.out, HM.out]
  rintro e w5 ⟨rfl, hb5⟩
  have HB5 := Lib.hid (HB4.out.trans (hb5.mono HB4.out.size))
  have HK5 := Lib.hid (HK3'.out.later hb5)
  clear hb5 HK3' HT hts
  obtain ⟨n1, hn1⟩ : ∃ n1, numA L = n1 := ⟨_, rfl⟩
  have HN1 := Lib.hid hn1
  have hn1s : n1 ≤ s.size := by rw [← hn1, ← HLS.out]; exact numA_le L
  have hn1e : n1 = if 0 < m then n0 + 1 + m else n0 := by rw [← hn1]; exact HA.out
  clear hn1
  by_cases hm0 : 0 < m
  · rw [if_pos hm0] at hn1e
    have hms' := hms hm0
    have hq : (n0 : Int) + (1 + (m : Int)) = (n1 : Int) := by omega
    clear hn1e hms
    go_wp2_with fail
    by_cases hz : n1 = 0
    · have hRz : R = 0 := by rw [← HR.out]; unfold numF; rw [HN1.out]; simp [hz]
      subst hRz
      subst hz
      refine wp_region_held_drew (S := fun X => Below w5.heap.size w5 X) (by kernel_rfl) ((Below.refl _ _).drew) (fun hS => ?_)
      refine wpAnyH_take (i := 0) (v := ?v0ap) rfl (by kernel_rfl) (by kernel_rfl) (by kernel_rfl) (fun _ _ _ h => h) (Or.inl ⟨by kernel_rfl, ?h0ap⟩) hS ?_
      case h0ap => (rintro w2 hb; go_simp; try with_reducible rfl)
      refine wpAnyH_take (i := 1) (v := .bool true) rfl (by kernel_rfl) (by kernel_rfl) (by kernel_rfl) (fun _ _ _ h => h) (Or.inl ⟨by kernel_rfl, ?h1ap⟩) hS ?_
      case h1ap => (rintro w2 hb; go_simp; try with_reducible rfl)
      refine wpAnyH_take (i := 2) (v := .bool true) rfl (by kernel_rfl) (by kernel_rfl) (by kernel_rfl) (fun _ _ _ h => h) (Or.inl ⟨by kernel_rfl, ?h2ap⟩) hS ?_
      case h2ap => (rintro w2 hb; go_simp; try with_reducible rfl)
      refine wpAnyH_take (i := 3) (v := undef) rfl (by kernel_rfl) (by kernel_rfl) (by kernel_rfl) (fun _ _ _ h => h) (Or.inr ⟨by kernel_rfl, rfl⟩) hS ?_
      refine wpAnyH_take (i := 4) (v := undef) rfl (by kernel_rfl) (by kernel_rfl) (by kernel_rfl) (fun _ _ _ h => h) (Or.inr ⟨by kernel_rfl, rfl⟩) hS ?_
      refine wpAnyH_take (i := 5) (v := undef) rfl (by kernel_rfl) (by kernel_rfl) (by kernel_rfl) (fun _ _ _ h => h) (Or.inr ⟨by kernel_rfl, rfl⟩) hS ?_
      refine wpAnyH_take (i := 6) (v := undef) rfl (by kernel_rfl) (by kernel_rfl) (by kernel_rfl) (fun _ _ _ h => h) (Or.inr ⟨by kernel_rfl, rfl⟩) hS ?_
      refine wpAnyH_take (i := 7) (v := undef) rfl (by kernel_rfl) (by kernel_rfl) (by kernel_rfl) (fun _ _ _ h => h) (Or.inr ⟨by kernel_rfl, rfl⟩) hS ?_
      refine wpAnyH_take (i := 8) (v := undef) rfl (by kernel_rfl) (by kernel_rfl) (by kernel_rfl) (fun _ _ _ h => h) (Or.inr ⟨by kernel_rfl, rfl⟩) hS ?_
      refine wpAnyH_take (i := 9) (v := .bool true) rfl (by kernel_rfl) (by kernel_rfl) (by kernel_rfl) (fun _ _ _ h => h) (Or.inl ⟨by kernel_rfl, ?h9ap⟩) hS ?_
      case h9ap => (rintro w2 hb; go_simp; try with_reducible rfl)
      refine wpAnyH_done (by kernel_rfl) ?_ _
      go_simp
      go_wp2
      go_ret
      exact ⟨rfl, HB5.out.drew⟩
    obtain ⟨hd, hhd⟩ : ∃ b, headP (setP [69, 101]) (L.drop n1) = b := ⟨_, rfl⟩
    have hnz : ((n1 : Int) == 0) = false := by rw [beq_eq_false_iff_ne]; omega
    have hc1 := cut_end s n1
    rw [HL.out] at hc1
    have HC1 := Lib.hid hc1
    have HH := Lib.hid hhd
    have hp0 : (0 : Int) ≤ (n1 : Int) := by omega
    have hp1 : (n1 : Int) ≤ (s.size : Int) := by omega
    have hnn : ¬ (n1 : Int) = 0 := by omega
    clear hc1 hhd hq hms'
    refine wp_region_held_drew (S := fun X => Below w5.heap.size w5 X) (by kernel_rfl) ((Below.refl _ _).drew) (fun hS => ?_)
    refine wpAnyH_take (i := 0) (v := ?v0bp) rfl (by kernel_rfl) (by kernel_rfl) (by kernel_rfl) (fun _ _ _ h => h) (Or.inl ⟨by kernel_rfl, ?h0bp⟩) hS ?_
    case h0bp => (rintro w2 hb; go_simp; try with_reducible rfl)
    refine wpAnyH_take (i := 1) (v := .bool false) rfl (by kernel_rfl) (by kernel_rfl) (by kernel_rfl) (fun _ _ _ h => h) (Or.inl ⟨by kernel_rfl, ?h1bp⟩) hS ?_
    case h1bp => (rintro w2 hb; go_simp; try with_reducible rfl)
    refine wpAnyH_take (i := 2) (v := .bool false) rfl (by kernel_rfl) (by kernel_rfl) (by kernel_rfl) (fun _ _ _ h => h) (Or.inl ⟨by kernel_rfl, ?h2bp⟩) hS ?_
    case h2bp => (rintro w2 hb; go_simp; try with_reducible rfl)
    refine wpAnyH_take (i := 4) (v := ?v4bp) rfl (by kernel_rfl) (by kernel_rfl) (by kernel_rfl) (fun _ _ _ h => h) (Or.inl ⟨by kernel_rfl, ?h4bp⟩) hS ?_
    case h4bp => (rintro w2 hb; go_simp; try with_reducible rfl)
    refine wpAnyH_take (i := 5) (v := ?v5bp) rfl (by kernel_rfl) (by kernel_rfl) (by kernel_rfl) (fun _ _ _ h => h) (Or.inl ⟨by kernel_rfl, ?h5bp⟩) hS ?_
    case h5bp => (rintro w2 hb; go_simp; try with_reducible rfl)
    refine wpAnyH_take (i := 6) (v := ?v6bp) rfl (by kernel_rfl) (by kernel_rfl) (by kernel_rfl) (fun _ _ _ h => h) (Or.inl ⟨by kernel_rfl, ?h6bp⟩) hS ?_
    case h6bp => (rintro w2 hb; go_simp; try with_reducible rfl)
    refine wpAnyH_ready (rs := [3]) (by kernel_rfl) (by simp) (AllReadyH.cons rfl (fun K hK => ?_) AllReadyH.nil)
    go_simp
    go_wp2_with (go_at_call 87; refine (oneOf_any ⟨#[69, 101]⟩ _).mono ?_; rintro e x1 ⟨v5, rfl, hk5, hU⟩; have HK6 := Lib.hid hk5; have HU := Lib.hid hU; clear hk5 hU)
    refine hK.out _ _ (hS.trans (HU.out.mono hS.size)) (fun hS3 => ?_); clear hK K
    refine wpAnyH_ready (rs := [7]) (by kernel_rfl) (by simp) (AllReadyH.cons rfl (fun K hK => ?_) AllReadyH.nil)
    go_simp
    go_wp2_with (go_at_call 88; refine (begins_any (s.extract n1 s.size) v5 _ _ HK6.out).mono ?_; rw [HC1.out, HH.out]; rintro e x2 ⟨rfl, hU⟩; have HU2 := Lib.hid hU; clear hU)
    refine hK.out _ _ (hS3.trans (HU2.out.mono hS3.size)) (fun hS7 => ?_); clear hK K
    refine wpAnyH_take (i := 8) (v := .bool (!hd)) rfl (by kernel_rfl) (by kernel_rfl) (by kernel_rfl) (fun _ _ _ h => h) (Or.inl ⟨by kernel_rfl, ?h8bp⟩) hS7 ?_
    case h8bp => (rintro w2 hb; go_simp; try with_reducible rfl)
    refine wpAnyH_take (i := 9) (v := .bool (!hd)) rfl (by kernel_rfl) (by kernel_rfl) (by kernel_rfl) (fun _ _ _ h => h) (Or.inl ⟨by kernel_rfl, ?h9bp⟩) hS7 ?_
    case h9bp => (rintro w2 hb; go_simp; try with_reducible rfl)
    refine wpAnyH_done (by kernel_rfl) ?_ _
    go_simp
    have HX2 := Lib.hid (HB5.out.trans (hS7.mono HB5.out.size))
    have HK8 := Lib.hid (HK5.out.later hS7)
    cases hd with
    | false =>
      have hRz : R = n1 := by rw [← HR.out]; unfold numF; rw [HN1.out]; simp [HH.out]
      subst hRz
      go_wp2
      go_ret
      exact ⟨rfl, HX2.out⟩
    | true =>
      have hk2 : n1 + 1 ≤ s.size := by
        have : L.drop n1 ≠ [] := fun e => by have := HH.out; rw [e] at this; simp [headP] at this
        have := List.length_pos_iff.2 this
        have h9 := HLS.out
        simp at this; omega
      have hwr : IntKind.i64.wrap ((n1 : Int) + 1) = (n1 : Int) + 1 := by rw [IntKind.wrap_i64]; omega
      have hp2 : (0 : Int) ≤ (n1 : Int) + 1 := by omega
      have hp3 : (n1 : Int) + 1 ≤ (s.size : Int) := by omega
      clear hS hS3 hS7
      go_wp2_with fail
      obtain ⟨rs, hrs⟩ : ∃ rs, s.extract (n1 + 1) s.size = rs := ⟨_, rfl⟩
      obtain ⟨rl, hrl⟩ : ∃ rl, L.drop (n1 + 1) = rl := ⟨_, rfl⟩
      have hrsl : rs.data.toList = rl := by rw [← hrs, cut_end, HL.out, hrl]
      have hrsz : rs.size = s.size - (n1 + 1) := by rw [← hrs, ByteArray.size_extract]; omega
      obtain ⟨mn, hmn⟩ : ∃ mn : Nat, min 1 (rs.size : Int) = (mn : Int) := ⟨min 1 rs.size, by omega⟩
      have hmn2 : mn = min 1 rs.size := by omega
      have hc2 : (rs.extract 0 mn).data.toList = rl.take 1 := by
        rw [cut_head, hrsl, hmn2, ← size_list rs, hrsl]
        rcases Nat.lt_or_ge rl.length 1 with h | h
        · have : rl = [] := List.eq_nil_of_length_eq_zero (by omega)
          rw [this]; rfl
        · rw [Nat.min_eq_left h]
      obtain ⟨sg, hsg⟩ : ∃ sg, runF (setP [43, 45]) (rl.take 1) = sg := ⟨_, rfl⟩
      have hsgle : sg ≤ rs.size := by
        rw [← hsg]
        have h1 := runF_le (setP [43, 45]) (rl.take 1)
        have h2 : (rl.take 1).length ≤ rl.length := by simp; omega
        have h3 := size_list rs
        rw [hrsl] at h3
        omega
      have HC2 := Lib.hid hc2
      have HSG := Lib.hid hsg
      have HMS := Lib.hid (show (rs.extract 0 mn).size ≤ 100000 by rw [ByteArray.size_extract]; omega)
      have HRSL := Lib.hid hrsl
      have HRL := Lib.hid hrl
      have hmq : mn ≤ rs.size := by omega
      have hm0' : (0 : Int) ≤ (mn : Int) := by omega
      have hm1' : (mn : Int) ≤ (rs.size : Int) := by omega
      have hrs6 : rs.size ≤ s.size := by omega
      rw [hrs]
      clear hc2 hsg hrsl hrl hrsz hrs hmn2 hwr hp2 hp3
      refine wp_region_held_drew (S := fun X => Below x2.heap.size x2 X) (by kernel_rfl) ((Below.refl _ _).drew) (fun hS => ?_)
      refine wpAnyH_take (i := 0) (v := ?v0cp) rfl (by kernel_rfl) (by kernel_rfl) (by kernel_rfl) (fun _ _ _ h => h) (Or.inl ⟨by kernel_rfl, ?h0cp⟩) hS ?_
      case h0cp => (rintro w2 hb; go_simp; try with_reducible rfl)
      refine wpAnyH_take (i := 1) (v := ?v1cp) rfl (by kernel_rfl) (by kernel_rfl) (by kernel_rfl) (fun _ _ _ h => h) (Or.inl ⟨by kernel_rfl, ?h1cp⟩) hS ?_
      case h1cp => (rintro w2 hb; go_simp; try with_reducible rfl)
      refine wpAnyH_take (i := 2) (v := ?v2cp) rfl (by kernel_rfl) (by kernel_rfl) (by kernel_rfl) (fun _ _ _ h => h) (Or.inl ⟨by kernel_rfl, ?h2cp⟩) hS ?_
      case h2cp => (rintro w2 hb; go_simp; try with_reducible rfl)
      refine wpAnyH_take (i := 3) (v := ?v3cp) rfl (by kernel_rfl) (by kernel_rfl) (by kernel_rfl) (fun _ _ _ h => h) (Or.inl ⟨by kernel_rfl, ?h3cp⟩) hS ?_
      case h3cp => (rintro w2 hb; go_simp; try with_reducible rfl)
      refine wpAnyH_take (i := 4) (v := ?v4cp) rfl (by kernel_rfl) (by kernel_rfl) (by kernel_rfl) (fun _ _ _ h => h) (Or.inl ⟨by kernel_rfl, ?h4cp⟩) hS ?_
      case h4cp => (rintro w2 hb; go_simp; try with_reducible rfl)
      refine wpAnyH_ready (rs := [5]) (by kernel_rfl) (by simp) (AllReadyH.cons rfl (fun K hK => ?_) AllReadyH.nil)
      go_simp
      go_wp2_with (go_at_call 87; refine (oneOf_any ⟨#[43, 45]⟩ _).mono ?_; rintro e x3 ⟨v6, rfl, hk6, hU⟩; have HK7 := Lib.hid hk6; have HU := Lib.hid hU; clear hk6 hU)
      refine hK.out _ _ (hS.trans (HU.out.mono hS.size)) (fun hS5 => ?_); clear hK K
      refine wpAnyH_ready (rs := [6]) (by kernel_rfl) (by simp) (AllReadyH.cons rfl (fun K hK => ?_) AllReadyH.nil)
      go_simp
      go_wp2_with (go_at_call 85; refine (run_any (rs.extract 0 mn) HMS.out v6 _ _ HK7.out).mono ?_; rw [HC2.out, HSG.out]; rintro e x4 ⟨rfl, hU⟩; have HU2 := Lib.hid hU; clear hU)
      refine hK.out _ _ (hS5.trans (HU2.out.mono hS5.size)) (fun hS6 => ?_); clear hK K
      refine wpAnyH_take (i := 7) (v := ?v7cp) rfl (by kernel_rfl) (by kernel_rfl) (by kernel_rfl) (fun _ _ _ h => h) (Or.inl ⟨by kernel_rfl, ?h7cp⟩) hS6 ?_
      case h7cp => (rintro w2 hb; go_simp; try with_reducible rfl)
      refine wpAnyH_done (by kernel_rfl) ?_ _
      go_simp
      have HX4 := Lib.hid (HX2.out.trans (hS6.mono HX2.out.size))
      have HK9 := Lib.hid (HK8.out.later hS6)
      have hs0 : (0 : Int) ≤ (sg : Int) := by omega
      have hs1 : (sg : Int) ≤ (rs.size : Int) := by omega
      obtain ⟨m2, hm2⟩ : ∃ m2, runF digP (rl.drop sg) = m2 := ⟨_, rfl⟩
      have hc3 := cut_end rs sg
      rw [HRSL.out] at hc3
      have HC3 := Lib.hid hc3
      have HM2 := Lib.hid hm2
      have hm2le : m2 ≤ rs.size - sg := by
        rw [← hm2]
        have h1 := runF_le digP (rl.drop sg)
        have h3 := size_list rs
        rw [HRSL.out] at h3
        rw [List.length_drop] at h1; omega
      have hRe : R = if 0 < m2 then n1 + 1 + sg + m2 else n1 := by
        rw [← HR.out]
        unfold numF
        simp only [HN1.out, HH.out, HRL.out, HSG.out, HM2.out]
        rw [if_neg]
        rintro (h | h)
        · omega
        · cases h
      clear hS hS5 hS6 hm0' hm1' hmn hc3 hm2
      go_wp2_with fail
      refine (run_any (rs.extract sg rs.size) (by rw [ByteArray.size_extract]; omega) v3 digP _ HK9.out).mono ?_
      rw [HC3.out, HM2.out]
      rintro e x5 ⟨rfl, hb9⟩
      have HX5 := Lib.hid (HX4.out.trans (hb9.mono HX4.out.size))
      clear hb9
      by_cases hmm : 0 < m2
      · rw [if_pos hmm] at hRe
        have hfin : (n1 : Int) + (1 + (sg : Int) + (m2 : Int)) = (R : Int) := by omega
        clear hRe
        go_wp2
        go_ret
        exact ⟨rfl, HX5.out⟩
      · rw [if_neg hmm] at hRe
        subst hRe
        go_wp2
        go_ret
        exact ⟨rfl, HX5.out⟩
  · rw [if_neg hm0] at hn1e
    subst hn1e
    clear hms
    go_wp2_with fail
    by_cases hz : n1 = 0
    · have hRz : R = 0 := by rw [← HR.out]; unfold numF; rw [HN1.out]; simp [hz]
      subst hRz
      subst hz
      refine wp_region_held_drew (S := fun X => Below w5.heap.size w5 X) (by kernel_rfl) ((Below.refl _ _).drew) (fun hS => ?_)
      refine wpAnyH_take (i := 0) (v := ?v0aq) rfl (by kernel_rfl) (by kernel_rfl) (by kernel_rfl) (fun _ _ _ h => h) (Or.inl ⟨by kernel_rfl, ?h0aq⟩) hS ?_
      case h0aq => (rintro w2 hb; go_simp; try with_reducible rfl)
      refine wpAnyH_take (i := 1) (v := .bool true) rfl (by kernel_rfl) (by kernel_rfl) (by kernel_rfl) (fun _ _ _ h => h) (Or.inl ⟨by kernel_rfl, ?h1aq⟩) hS ?_
      case h1aq => (rintro w2 hb; go_simp; try with_reducible rfl)
      refine wpAnyH_take (i := 2) (v := .bool true) rfl (by kernel_rfl) (by kernel_rfl) (by kernel_rfl) (fun _ _ _ h => h) (Or.inl ⟨by kernel_rfl, ?h2aq⟩) hS ?_
      case h2aq => (rintro w2 hb; go_simp; try with_reducible rfl)
      refine wpAnyH_take (i := 3) (v := undef) rfl (by kernel_rfl) (by kernel_rfl) (by kernel_rfl) (fun _ _ _ h => h) (Or.inr ⟨by kernel_rfl, rfl⟩) hS ?_
      refine wpAnyH_take (i := 4) (v := undef) rfl (by kernel_rfl) (by kernel_rfl) (by kernel_rfl) (fun _ _ _ h => h) (Or.inr ⟨by kernel_rfl, rfl⟩) hS ?_
      refine wpAnyH_take (i := 5) (v := undef) rfl (by kernel_rfl) (by kernel_rfl) (by kernel_rfl) (fun _ _ _ h => h) (Or.inr ⟨by kernel_rfl, rfl⟩) hS ?_
      refine wpAnyH_take (i := 6) (v := undef) rfl (by kernel_rfl) (by kernel_rfl) (by kernel_rfl) (fun _ _ _ h => h) (Or.inr ⟨by kernel_rfl, rfl⟩) hS ?_
      refine wpAnyH_take (i := 7) (v := undef) rfl (by kernel_rfl) (by kernel_rfl) (by kernel_rfl) (fun _ _ _ h => h) (Or.inr ⟨by kernel_rfl, rfl⟩) hS ?_
      refine wpAnyH_take (i := 8) (v := undef) rfl (by kernel_rfl) (by kernel_rfl) (by kernel_rfl) (fun _ _ _ h => h) (Or.inr ⟨by kernel_rfl, rfl⟩) hS ?_
      refine wpAnyH_take (i := 9) (v := .bool true) rfl (by kernel_rfl) (by kernel_rfl) (by kernel_rfl) (fun _ _ _ h => h) (Or.inl ⟨by kernel_rfl, ?h9aq⟩) hS ?_
      case h9aq => (rintro w2 hb; go_simp; try with_reducible rfl)
      refine wpAnyH_done (by kernel_rfl) ?_ _
      go_simp
      go_wp2
      go_ret
      exact ⟨rfl, HB5.out.drew⟩
    obtain ⟨hd, hhd⟩ : ∃ b, headP (setP [69, 101]) (L.drop n1) = b := ⟨_, rfl⟩
    have hnz : ((n1 : Int) == 0) = false := by rw [beq_eq_false_iff_ne]; omega
    have hc1 := cut_end s n1
    rw [HL.out] at hc1
    have HC1 := Lib.hid hc1
    have HH := Lib.hid hhd
    have hp0 : (0 : Int) ≤ (n1 : Int) := by omega
    have hp1 : (n1 : Int) ≤ (s.size : Int) := by omega
    have hnn : ¬ (n1 : Int) = 0 := by omega
    clear hc1 hhd
    refine wp_region_held_drew (S := fun X => Below w5.heap.size w5 X) (by kernel_rfl) ((Below.refl _ _).drew) (fun hS => ?_)
    refine wpAnyH_take (i := 0) (v := ?v0bq) rfl (by kernel_rfl) (by kernel_rfl) (by kernel_rfl) (fun _ _ _ h => h) (Or.inl ⟨by kernel_rfl, ?h0bq⟩) hS ?_
    case h0bq => (rintro w2 hb; go_simp; try with_reducible rfl)
    refine wpAnyH_take (i := 1) (v := .bool false) rfl (by kernel_rfl) (by kernel_rfl) (by kernel_rfl) (fun _ _ _ h => h) (Or.inl ⟨by kernel_rfl, ?h1bq⟩) hS ?_
    case h1bq => (rintro w2 hb; go_simp; try with_reducible rfl)
    refine wpAnyH_take (i := 2) (v := .bool false) rfl (by kernel_rfl) (by kernel_rfl) (by kernel_rfl) (fun _ _ _ h => h) (Or.inl ⟨by kernel_rfl, ?h2bq⟩) hS ?_
    case h2bq => (rintro w2 hb; go_simp; try with_reducible rfl)
    refine wpAnyH_take (i := 4) (v := ?v4bq) rfl (by kernel_rfl) (by kernel_rfl) (by kernel_rfl) (fun _ _ _ h => h) (Or.inl ⟨by kernel_rfl, ?h4bq⟩) hS ?_
    case h4bq => (rintro w2 hb; go_simp; try with_reducible rfl)
    refine wpAnyH_take (i := 5) (v := ?v5bq) rfl (by kernel_rfl) (by kernel_rfl) (by kernel_rfl) (fun _ _ _ h => h) (Or.inl ⟨by kernel_rfl, ?h5bq⟩) hS ?_
    case h5bq => (rintro w2 hb; go_simp; try with_reducible rfl)
    refine wpAnyH_take (i := 6) (v := ?v6bq) rfl (by kernel_rfl) (by kernel_rfl) (by kernel_rfl) (fun _ _ _ h => h) (Or.inl ⟨by kernel_rfl, ?h6bq⟩) hS ?_
    case h6bq => (rintro w2 hb; go_simp; try with_reducible rfl)
    refine wpAnyH_ready (rs := [3]) (by kernel_rfl) (by simp) (AllReadyH.cons rfl (fun K hK => ?_) AllReadyH.nil)
    go_simp
    go_wp2_with (go_at_call 87; refine (oneOf_any ⟨#[69, 101]⟩ _).mono ?_; rintro e x1 ⟨v5, rfl, hk5, hU⟩; have HK6 := Lib.hid hk5; have HU := Lib.hid hU; clear hk5 hU)
    refine hK.out _ _ (hS.trans (HU.out.mono hS.size)) (fun hS3 => ?_); clear hK K
    refine wpAnyH_ready (rs := [7]) (by kernel_rfl) (by simp) (AllReadyH.cons rfl (fun K hK => ?_) AllReadyH.nil)
    go_simp
    go_wp2_with (go_at_call 88; refine (begins_any (s.extract n1 s.size) v5 _ _ HK6.out).mono ?_; rw [HC1.out, HH.out]; rintro e x2 ⟨rfl, hU⟩; have HU2 := Lib.hid hU; clear hU)
    refine hK.out _ _ (hS3.trans (HU2.out.mono hS3.size)) (fun hS7 => ?_); clear hK K
    refine wpAnyH_take (i := 8) (v := .bool (!hd)) rfl (by kernel_rfl) (by kernel_rfl) (by kernel_rfl) (fun _ _ _ h => h) (Or.inl ⟨by kernel_rfl, ?h8bq⟩) hS7 ?_
    case h8bq => (rintro w2 hb; go_simp; try with_reducible rfl)
    refine wpAnyH_take (i := 9) (v := .bool (!hd)) rfl (by kernel_rfl) (by kernel_rfl) (by kernel_rfl) (fun _ _ _ h => h) (Or.inl ⟨by kernel_rfl, ?h9bq⟩) hS7 ?_
    case h9bq => (rintro w2 hb; go_simp; try with_reducible rfl)
    refine wpAnyH_done (by kernel_rfl) ?_ _
    go_simp
    have HX2 := Lib.hid (HB5.out.trans (hS7.mono HB5.out.size))
    have HK8 := Lib.hid (HK5.out.later hS7)
    cases hd with
    | false =>
      have hRz : R = n1 := by rw [← HR.out]; unfold numF; rw [HN1.out]; simp [HH.out]
      subst hRz
      go_wp2
      go_ret
      exact ⟨rfl, HX2.out⟩
    | true =>
      have hk2 : n1 + 1 ≤ s.size := by
        have : L.drop n1 ≠ [] := fun e => by have := HH.out; rw [e] at this; simp [headP] at this
        have := List.length_pos_iff.2 this
        have h9 := HLS.out
        simp at this; omega
      have hwr : IntKind.i64.wrap ((n1 : Int) + 1) = (n1 : Int) + 1 := by rw [IntKind.wrap_i64]; omega
      have hp2 : (0 : Int) ≤ (n1 : Int) + 1 := by omega
      have hp3 : (n1 : Int) + 1 ≤ (s.size : Int) := by omega
      clear hS hS3 hS7
      go_wp2_with fail
      obtain ⟨rs, hrs⟩ : ∃ rs, s.extract (n1 + 1) s.size = rs := ⟨_, rfl⟩
      obtain ⟨rl, hrl⟩ : ∃ rl, L.drop (n1 + 1) = rl := ⟨_, rfl⟩
      have hrsl : rs.data.toList = rl := by rw [← hrs, cut_end, HL.out, hrl]
      have hrsz : rs.size = s.size - (n1 + 1) := by rw [← hrs, ByteArray.size_extract]; omega
      obtain ⟨mn, hmn⟩ : ∃ mn : Nat, min 1 (rs.size : Int) = (mn : Int) := ⟨min 1 rs.size, by omega⟩
      have hmn2 : mn = min 1 rs.size := by omega
      have hc2 : (rs.extract 0 mn).data.toList = rl.take 1 := by
        rw [cut_head, hrsl, hmn2, ← size_list rs, hrsl]
        rcases Nat.lt_or_ge rl.length 1 with h | h
        · have : rl = [] := List.eq_nil_of_length_eq_zero (by omega)
          rw [this]; rfl
        · rw [Nat.min_eq_left h]
      obtain ⟨sg, hsg⟩ : ∃ sg, runF (setP [43, 45]) (rl.take 1) = sg := ⟨_, rfl⟩
      have hsgle : sg ≤ rs.size := by
        rw [← hsg]
        have h1 := runF_le (setP [43, 45]) (rl.take 1)
        have h2 : (rl.take 1).length ≤ rl.length := by simp; omega
        have h3 := size_list rs
        rw [hrsl] at h3
        omega
      have HC2 := Lib.hid hc2
      have HSG := Lib.hid hsg
      have HMS := Lib.hid (show (rs.extract 0 mn).size ≤ 100000 by rw [ByteArray.size_extract]; omega)
      have HRSL := Lib.hid hrsl
      have HRL := Lib.hid hrl
      have hmq : mn ≤ rs.size := by omega
      have hm0' : (0 : Int) ≤ (mn : Int) := by omega
      have hm1' : (mn : Int) ≤ (rs.size : Int) := by omega
      have hrs6 : rs.size ≤ s.size := by omega
      rw [hrs]
      clear hc2 hsg hrsl hrl hrsz hrs hmn2 hwr hp2 hp3
      refine wp_region_held_drew (S := fun X => Below x2.heap.size x2 X) (by kernel_rfl) ((Below.refl _ _).drew) (fun hS => ?_)
      refine wpAnyH_take (i := 0) (v := ?v0cq) rfl (by kernel_rfl) (by kernel_rfl) (by kernel_rfl) (fun _ _ _ h => h) (Or.inl ⟨by kernel_rfl, ?h0cq⟩) hS ?_
      case h0cq => (rintro w2 hb; go_simp; try with_reducible rfl)
      refine wpAnyH_take (i := 1) (v := ?v1cq) rfl (by kernel_rfl) (by kernel_rfl) (by kernel_rfl) (fun _ _ _ h => h) (Or.inl ⟨by kernel_rfl, ?h1cq⟩) hS ?_
      case h1cq => (rintro w2 hb; go_simp; try with_reducible rfl)
      refine wpAnyH_take (i := 2) (v := ?v2cq) rfl (by kernel_rfl) (by kernel_rfl) (by kernel_rfl) (fun _ _ _ h => h) (Or.inl ⟨by kernel_rfl, ?h2cq⟩) hS ?_
      case h2cq => (rintro w2 hb; go_simp; try with_reducible rfl)
      refine wpAnyH_take (i := 3) (v := ?v3cq) rfl (by kernel_rfl) (by kernel_rfl) (by kernel_rfl) (fun _ _ _ h => h) (Or.inl ⟨by kernel_rfl, ?h3cq⟩) hS ?_
      case h3cq => (rintro w2 hb; go_simp; try with_reducible rfl)
      refine wpAnyH_take (i := 4) (v := ?v4cq) rfl (by kernel_rfl) (by kernel_rfl) (by kernel_rfl) (fun _ _ _ h => h) (Or.inl ⟨by kernel_rfl, ?h4cq⟩) hS ?_
      case h4cq => (rintro w2 hb; go_simp; try with_reducible rfl)
      refine wpAnyH_ready (rs := [5]) (by kernel_rfl) (by simp) (AllReadyH.cons rfl (fun K hK => ?_) AllReadyH.nil)
      go_simp
      go_wp2_with (go_at_call 87; refine (oneOf_any ⟨#[43, 45]⟩ _).mono ?_; rintro e x3 ⟨v6, rfl, hk6, hU⟩; have HK7 := Lib.hid hk6; have HU := Lib.hid hU; clear hk6 hU)
      refine hK.out _ _ (hS.trans (HU.out.mono hS.size)) (fun hS5 => ?_); clear hK K
      refine wpAnyH_ready (rs := [6]) (by kernel_rfl) (by simp) (AllReadyH.cons rfl (fun K hK => ?_) AllReadyH.nil)
      go_simp
      go_wp2_with (go_at_call 85; refine (run_any (rs.extract 0 mn) HMS.out v6 _ _ HK7.out).mono ?_; rw [HC2.out, HSG.out]; rintro e x4 ⟨rfl, hU⟩; have HU2 := Lib.hid hU; clear hU)
      refine hK.out _ _ (hS5.trans (HU2.out.mono hS5.size)) (fun hS6 => ?_); clear hK K
      refine wpAnyH_take (i := 7) (v := ?v7cq) rfl (by kernel_rfl) (by kernel_rfl) (by kernel_rfl) (fun _ _ _ h => h) (Or.inl ⟨by kernel_rfl, ?h7cq⟩) hS6 ?_
      case h7cq => (rintro w2 hb; go_simp; try with_reducible rfl)
      refine wpAnyH_done (by kernel_rfl) ?_ _
      go_simp
      have HX4 := Lib.hid (HX2.out.trans (hS6.mono HX2.out.size))
      have HK9 := Lib.hid (HK8.out.later hS6)
      have hs0 : (0 : Int) ≤ (sg : Int) := by omega
      have hs1 : (sg : Int) ≤ (rs.size : Int) := by omega
      obtain ⟨m2, hm2⟩ : ∃ m2, runF digP (rl.drop sg) = m2 := ⟨_, rfl⟩
      have hc3 := cut_end rs sg
      rw [HRSL.out] at hc3
      have HC3 := Lib.hid hc3
      have HM2 := Lib.hid hm2
      have hm2le : m2 ≤ rs.size - sg := by
        rw [← hm2]
        have h1 := runF_le digP (rl.drop sg)
        have h3 := size_list rs
        rw [HRSL.out] at h3
        rw [List.length_drop] at h1; omega
      have hRe : R = if 0 < m2 then n1 + 1 + sg + m2 else n1 := by
        rw [← HR.out]
        unfold numF
        simp only [HN1.out, HH.out, HRL.out, HSG.out, HM2.out]
        rw [if_neg]
        rintro (h | h)
        · omega
        · cases h
      clear hS hS5 hS6 hm0' hm1' hmn hc3 hm2
      go_wp2_with fail
      refine (run_any (rs.extract sg rs.size) (by rw [ByteArray.size_extract]; omega) v3 digP _ HK9.out).mono ?_
      rw [HC3.out, HM2.out]
      rintro e x5 ⟨rfl, hb9⟩
      have HX5 := Lib.hid (HX4.out.trans (hb9.mono HX4.out.size))
      clear hb9
      by_cases hmm : 0 < m2
      · rw [if_pos hmm] at hRe
        have hfin : (n1 : Int) + (1 + (sg : Int) + (m2 : Int)) = (R : Int) := by omega
        clear hRe
        go_wp2
        go_ret
        exact ⟨rfl, HX5.out⟩
      · rw [if_neg hmm] at hRe
        subst hRe
        go_wp2
        go_ret
        exact ⟨rfl, HX5.out⟩
end Go.Proofs.YtcnmghkmognhoaaDoor
