/- The fault with which a text begins. -/
import Derived.Test.YtcnmghkmognhoaaDoorL
namespace Go.Proofs.YtcnmghkmognhoaaDoor
open Go.RowKit Go.Shelf

theorem faultF_at {l : List UInt8} {k : Nat} (hh : headP (setP [35]) l = true) (h1 : 1 ≤ k) (hk : k < 10) (he : faultAt l k = true) (hn : ∀ j, 1 ≤ j → j < k → faultAt l j = false) : faultF l = faultT k := by
  unfold faultF
  rw [if_pos hh, (List.find?_range'_eq_some (i := k)).2 ⟨he, by simp [List.mem_range'_1]; omega, fun j h hj => by simp [hn j h hj]⟩]
  rfl
theorem faultF_none {l : List UInt8} (hn : ∀ j, 1 ≤ j → j < 10 → faultAt l j = false) : faultF l = [] := by
  unfold faultF
  split
  · rw [List.find?_eq_none.2 (fun j hj => by
      simp [List.mem_range'_1] at hj
      simp [hn j (by omega) (by omega)])]
    rfl
  · rfl
set_option maxRecDepth 100000 in
set_option maxHeartbeats 2000000 in
theorem fault_any (s : ByteArray) (hs : s.size ≤ 100000) (w : World) (he : Env w) : Calls Tryd.prog 60 #[.string s] w fun e w' => e = .returned (.string ⟨(faultF s.data.toList).toArray⟩) ∧ Below w.heap.size w w' := by
  obtain ⟨R, hR⟩ : ∃ R : ByteArray, (⟨(faultF s.data.toList).toArray⟩ : ByteArray) = R := ⟨_, rfl⟩
  rw [hR]
  have HR := Lib.hid hR
  have HE := Lib.hid he
  clear hR he
  go_enter Tryd.func60, Tryd.ntmps60
  go_wp2_with fail
  refine (oneOf_any ⟨#[35]⟩ w).mono ?_
  rintro e w1 ⟨v5, rfl, hk5, hb1⟩
  have HK5 : Hid (KindIs w1 v5 (setP [35])) := Lib.hid hk5
  have HB1 := Lib.hid hb1
  clear hk5 hb1
  go_wp2_with fail
  obtain ⟨hd, hhd⟩ : ∃ b, headP (setP [35]) s.data.toList = b := ⟨_, rfl⟩
  have HH := Lib.hid hhd
  refine (begins_any s v5 (setP [35]) w1 HK5.out).mono ?_
  rw [hhd]
  clear hhd
  rintro e w2 ⟨rfl, hb2⟩
  have HB2 := Lib.hid (HB1.out.trans (hb2.mono HB1.out.size))
  clear hb2 HK5
  cases hd with
  | false =>
    have hRz : R = ⟨#[]⟩ := by rw [← HR.out]; unfold faultF; rw [HH.out]; rfl
    subst hRz
    go_wp2
    go_ret
    exact ⟨rfl, HB2.out⟩
  | true =>
    go_wp2_with fail
    go_loopw [3] (fun i wr => ∃ k : Nat, 1 ≤ k ∧ k ≤ 10 ∧ i = .int .i64 (k : Int) ∧ Below w.heap.size w wr ∧ Hid (∀ j, 1 ≤ j → j < k → faultAt s.data.toList j = false)) (fun i _ => 10 - (intOf i).toNat)
    case atStart => exact ⟨1, by omega, by omega, rfl, HB2.out, Lib.hid (fun j h1 h2 => absurd h2 (by omega))⟩
    case round =>
      obtain ⟨k, hk1, hk, rfl, hB, HN⟩ := hrel
      have HB := Lib.hid hB
      clear hB
      by_cases hlt : k < 10
      · have hi : (k : Int) ≤ 9 := by omega
        have hi0 : (0 : Int) ≤ (k : Int) := by omega
        go_wp2_with fail
        refine (ftext_any k hlt wr (HE.out.below HB.out)).mono ?_
        rintro e w3 ⟨rfl, rfl⟩
        obtain ⟨tk, htk⟩ : ∃ t, fT k = t := ⟨_, rfl⟩
        have htl : tk.data.toList = faultT k := by rw [← htk]; rfl
        have htz : tk.size = (faultT k).length := by rw [← size_list tk, htl]
        rw [htk]
        by_cases hl : tk.size ≤ s.size
        · obtain ⟨q, hq⟩ : ∃ q, faultOfF (s.data.toList.take tk.size) = q := ⟨_, rfl⟩
          have hfa : faultAt s.data.toList k = (q == k) := by
            unfold faultAt
            rw [← htz, hq, size_list]
            simp [hl]
          have hcall := faultOf_any (s.extract 0 tk.size) (by rw [ByteArray.size_extract]; omega) wr (HE.out.below HB.out)
          rw [cut_head, hq] at hcall
          have HCALL := Lib.hid hcall
          have HFA := Lib.hid hfa
          have HTL := Lib.hid htl
          have hl1 : (tk.size : Int) ≤ (s.size : Int) := by omega
          have hl0 : (0 : Int) ≤ (tk.size : Int) := by omega
          clear hq hfa hcall htk htl htz
          go_wp2_with fail
          refine HCALL.out.mono ?_
          rintro e w4 ⟨rfl, hb4⟩
          have HB4 := Lib.hid (HB.out.trans (hb4.mono HB.out.size))
          clear hb4 HCALL
          by_cases hqk : q = k
          · have hq1 : ((q : Int) == (k : Int)) = true := by rw [beq_iff_eq]; omega
            have hRk : R = tk := by
              rw [← HR.out, faultF_at HH.out hk1 hlt (by rw [HFA.out, hqk]; simp) HN.out, ← HTL.out]
            subst hRk
            clear hqk hl
            go_wp2
            go_ret
            exact ⟨rfl, HB4.out⟩
          · have hq1 : ((q : Int) == (k : Int)) = false := by rw [beq_eq_false_iff_ne]; omega
            have HNQ := Lib.hid hqk
            clear hqk hl
            go_wp2
            go_roundw
            case rel => exact ⟨k + 1, by omega, by omega, by simp, HB4.out, Lib.hid (fun j h1 h2 => by
              by_cases hjk : j < k
              · exact HN.out j h1 hjk
              · obtain rfl : j = k := by omega
                rw [HFA.out]
                simpa using HNQ.out)⟩
            case measure => simp [intOf]; omega
        · have hl1 : ¬ (tk.size : Int) ≤ (s.size : Int) := by omega
          have hfa : faultAt s.data.toList k = false := by
            unfold faultAt
            rw [← htz, size_list]
            simp [hl]
          have HFA := Lib.hid hfa
          clear hfa htk htl htz hl
          go_wp2
          go_roundw
          case rel => exact ⟨k + 1, by omega, by omega, by simp, HB.out, Lib.hid (fun j h1 h2 => by
            by_cases hjk : j < k
            · exact HN.out j h1 hjk
            · obtain rfl : j = k := by omega
              exact HFA.out)⟩
          case measure => simp [intOf]; omega
      · obtain rfl : k = 10 := by omega
        have hRz : R = ⟨#[]⟩ := by rw [← HR.out, faultF_none HN.out]
        subst hRz
        go_wp2
        go_ret
        exact ⟨rfl, HB.out⟩
end Go.Proofs.YtcnmghkmognhoaaDoor
