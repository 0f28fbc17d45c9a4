/- How long the sign is with which a text begins. -/
import Derived.Test.YtcnmghkmognhoaaDoorH
namespace Go.Proofs.YtcnmghkmognhoaaDoor
open Go.RowKit Go.Shelf

def twoB (k : Nat) : ByteArray := if k = 0 then ⟨#[60, 62]⟩ else if k = 1 then ⟨#[60, 61]⟩ else ⟨#[62, 61]⟩
theorem twoB_size (k : Nat) : (twoB k).size = 2 := by unfold twoB; split; rfl; split <;> rfl
def isTwo (l : List UInt8) (k : Nat) : Bool := Lib.hasPrefix l (twoB k).data.toList
theorem sign_two (l : List UInt8) : signF l = if isTwo l 0 || isTwo l 1 || isTwo l 2 then 2 else runF (setP signS) (l.take 1) := rfl
set_option maxRecDepth 100000 in
set_option maxHeartbeats 1000000 in
theorem sign_any (s : ByteArray) (hs : s.size ≤ 100000) (h0 : 1 ≤ s.size) (w : World) : Calls Tryd.prog 61 #[.string s] w fun e w' => e = .returned (.int .i64 (signF s.data.toList : Nat)) ∧ Below w.heap.size w w' := by
  obtain ⟨R, hR⟩ : ∃ R, signF s.data.toList = R := ⟨_, rfl⟩
  rw [hR]
  rw [sign_two] at hR
  have HR := Lib.hid hR
  have hc := cut_head s 1
  have HC := Lib.hid (congrArg (runF (setP signS)) hc)
  have hs1 : (1 : Int) ≤ (s.size : Int) := by omega
  have hb0 : Below w.heap.size w (w.alloc (.cells #[.string ⟨#[60, 62]⟩, .string ⟨#[60, 61]⟩, .string ⟨#[62, 61]⟩] 9)) := (Below.refl _ _).alloc (Nat.le_refl _) _
  have hz0 := heap_alloc_new w (.cells #[.string ⟨#[60, 62]⟩, .string ⟨#[60, 61]⟩, .string ⟨#[62, 61]⟩] 9)
  obtain ⟨W0, hW0⟩ : ∃ W0, w.alloc (.cells #[.string ⟨#[60, 62]⟩, .string ⟨#[60, 61]⟩, .string ⟨#[62, 61]⟩] 9) = W0 := ⟨_, rfl⟩
  rw [hW0] at hb0 hz0
  have HB0 := Lib.hid hb0
  have HZ0 := Lib.hid hz0
  have HW0 := Lib.hid hW0
  clear hR hc hb0 hz0 hW0
  go_enter Tryd.func61, Tryd.ntmps61
  go_wp2_with fail
  rw [HW0.out]
  clear HW0
  go_loopw [7] (fun n wr => ∃ k : Nat, k ≤ 3 ∧ n = .int .i64 (k : Int) ∧ wr = W0 ∧ Hid (∀ j, j < k → isTwo s.data.toList j = false)) (fun n _ => 3 - (intOf n).toNat)
  case atStart => exact ⟨0, by omega, rfl, rfl, Lib.hid (fun j hj => absurd hj (by omega))⟩
  case round =>
    obtain ⟨k, hk, rfl, rfl, HN⟩ := hrel
    by_cases hlt : k < 3
    · have hcell : wr.cell? ⟨w.heap.size, k, none⟩ = some (.string (twoB k)) := by
        obtain ⟨c0, c1, c2, _⟩ := box3 HZ0.out
        obtain rfl | rfl | rfl : k = 0 ∨ k = 1 ∨ k = 2 := by omega
        · exact c0
        · exact c1
        · exact c2
      have hpre := Tryd.strings_HasPrefix s (twoB k) wr
      obtain ⟨q, hq⟩ : ∃ q, isTwo s.data.toList k = q := ⟨_, rfl⟩
      rw [show Lib.hasPrefix s.data.toList (twoB k).data.toList = q from hq] at hpre
      have htsz := twoB_size k
      obtain ⟨tb, htb⟩ : ∃ tb, twoB k = tb := ⟨_, rfl⟩
      rw [htb] at hcell hpre htsz
      have HPRE := Lib.hid hpre
      have HQ := Lib.hid hq
      have hi : (k : Int) < 3 := by omega
      have hi0 : (0 : Int) ≤ (k : Int) := by omega
      have hts : (tb.size : Int) = 2 := by omega
      clear hpre hq htb
      go_wp2_with fail
      refine HPRE.out.mono ?_
      rintro e w1 ⟨rfl, rfl⟩
      cases q with
      | true =>
        have hRt : R = 2 := by
          rw [← HR.out, if_pos]
          obtain rfl | rfl | rfl : k = 0 ∨ k = 1 ∨ k = 2 := by omega
          all_goals simp [HQ.out]
        subst hRt
        clear htsz
        go_wp2
        go_ret
        exact ⟨rfl, HB0.out⟩
      | false =>
        go_wp2_with fail
        go_roundw
        case rel => exact ⟨k + 1, by omega, by simp, (by first | rfl | trivial), Lib.hid (fun j hj => by
          by_cases hjk : j < k
          · exact HN.out j hjk
          · obtain rfl : j = k := by omega
            exact HQ.out)⟩
        case measure => simp [intOf]; omega
    · obtain rfl : k = 3 := by omega
      have hRe : runF (setP signS) (s.data.toList.take 1) = R := by
        rw [← HR.out, HN.out 0 (by omega), HN.out 1 (by omega), HN.out 2 (by omega)]
        rfl
      rw [hRe] at HC
      clear hRe hlt
      go_wp2_with fail
      refine wp_region_held_drew (S := fun X => Below wr.heap.size wr X) (by kernel_rfl) ((Below.refl _ _).drew) (fun hS => ?_)
      refine wpAnyH_take (i := 0) (v := ?v0a) rfl (by kernel_rfl) (by kernel_rfl) (by kernel_rfl) (fun _ _ _ h => h) (Or.inl ⟨by kernel_rfl, ?h0a⟩) hS ?_
      case h0a => (rintro w2 hb; go_simp; try with_reducible rfl)
      refine wpAnyH_take (i := 1) (v := ?v1a) rfl (by kernel_rfl) (by kernel_rfl) (by kernel_rfl) (fun _ _ _ h => h) (Or.inl ⟨by kernel_rfl, ?h1a⟩) hS ?_
      case h1a => (rintro w2 hb; go_simp; try with_reducible rfl)
      refine wpAnyH_ready (rs := [2]) (by kernel_rfl) (by simp) (AllReadyH.cons rfl (fun K hK => ?_) AllReadyH.nil)
      go_simp
      go_wp2_with (go_at_call 87; refine (oneOf_any ⟨#[43, 45, 42, 47, 94, 38, 61, 60, 62, 37, 40, 41, 123, 125, 44, 59, 58, 35]⟩ _).mono ?_; rintro e x1 ⟨v5, rfl, hk5, hU⟩; have HK6 : Hid (KindIs x1 v5 (setP signS)) := Lib.hid hk5; have HU := Lib.hid hU; clear hk5 hU)
      refine hK.out _ _ (hS.trans (HU.out.mono hS.size)) (fun hS2 => ?_); clear hK K
      refine wpAnyH_ready (rs := [3]) (by kernel_rfl) (by simp) (AllReadyH.cons rfl (fun K hK => ?_) AllReadyH.nil)
      go_simp
      go_wp2_with (go_at_call 85; refine (run_any (s.extract 0 1) (by rw [ByteArray.size_extract]; omega) v5 _ _ HK6.out).mono ?_; rw [HC.out]; rintro e x2 ⟨rfl, hU⟩; have HU2 := Lib.hid hU; clear hU)
      refine hK.out _ _ (hS2.trans (HU2.out.mono hS2.size)) (fun hS3 => ?_); clear hK K
      refine wpAnyH_take (i := 4) (v := ?v4a) rfl (by kernel_rfl) (by kernel_rfl) (by kernel_rfl) (fun _ _ _ h => h) (Or.inl ⟨by kernel_rfl, ?h4a⟩) hS3 ?_
      case h4a => (rintro w2 hb; go_simp; try with_reducible rfl)
      refine wpAnyH_done (by kernel_rfl) ?_ _
      go_simp
      go_wp2
      go_ret
      exact ⟨rfl, HB0.out.trans (hS3.mono HB0.out.size)⟩
end Go.Proofs.YtcnmghkmognhoaaDoor
