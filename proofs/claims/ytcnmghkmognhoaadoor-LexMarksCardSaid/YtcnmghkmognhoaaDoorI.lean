/- How long the text in quotes is with which a text begins. -/
import Derived.Test.YtcnmghkmognhoaaDoorH
namespace Go.Proofs.YtcnmghkmognhoaaDoor
open Go.RowKit Go.Shelf

theorem set34 (x : UInt8) : setP [34] x = (x == 34) := by rw [Bool.eq_iff_iff]; simp [setP]
theorem tsz_at (c : UInt8) (t : List UInt8) (k : Nat) : tszF (c :: t) k = if c = 34 then (if headP (setP [34]) t = true then tszF (t.drop 1) (k + 2) else k + 1) else tszF t (k + 1) := by
  by_cases h : c = 34
  · subst h
    rw [if_pos rfl]
    cases t with
    | nil => simp [tszF, headP]
    | cons y u =>
      by_cases hy : y = 34
      · subst hy
        rw [tsz_two, if_pos (by show setP [34] 34 = true; decide)]
        rfl
      · rw [tsz_one hy, if_neg (by show ¬ setP [34] y = true; rw [set34]; simpa using hy)]
  · rw [if_neg h, tsz_ne h]
set_option maxRecDepth 100000 in
set_option maxHeartbeats 1000000 in
theorem text_any (s : ByteArray) (hs : s.size ≤ 100000) (h0 : 1 ≤ s.size) (w : World) : Calls Tryd.prog 58 #[.string s] w fun e w' => e = .returned (.int .i64 (textF s.data.toList : Nat)) ∧ Below w.heap.size w w' := by
  obtain ⟨R, hR⟩ : ∃ R, textF s.data.toList = R := ⟨_, rfl⟩
  rw [hR]
  have HR := Lib.hid hR
  clear hR
  go_enter Tryd.func58, Tryd.ntmps58
  go_wp2_with fail
  refine (oneOf_any ⟨#[34]⟩ w).mono ?_
  rintro e w1 ⟨v3, rfl, hk3, hb1⟩
  have HK3 : Hid (KindIs w1 v3 (setP [34])) := Lib.hid hk3
  have HB1 := Lib.hid hb1
  clear hk3 hb1
  go_wp2_with fail
  go_loopw [4] (fun n wr => ∃ k : Nat, 1 ≤ k ∧ k ≤ s.size ∧ n = .int .i64 (k : Int) ∧ Hid (tszF (s.data.toList.drop k) k = R) ∧ Below w1.heap.size w1 wr) (fun n _ => s.size - (intOf n).toNat)
  case atStart => exact ⟨1, by omega, by omega, rfl, HR, Below.refl _ _⟩
  case round =>
    obtain ⟨k, hk1, hk, rfl, HD, hB⟩ := hrel
    have HB := Lib.hid hB
    clear hB
    by_cases hlt : k < s.size
    · have hd := HD.out
      rw [drop_get s _ hlt, tsz_at] at hd
      have hi : (k : Int) < (s.size : Int) := by omega
      have hi0 : (0 : Int) ≤ (k : Int) := by omega
      have hi1 : (0 : Int) ≤ (k : Int) + 1 := by omega
      have hi2 : (k : Int) + 1 ≤ (s.size : Int) := by omega
      have hwr : IntKind.i64.wrap ((k : Int) + 1) = (k : Int) + 1 := by rw [IntKind.wrap_i64]; omega
      obtain ⟨c, hc⟩ : ∃ c, s[k] = c := ⟨_, rfl⟩
      rw [hc] at hd
      have HC := Lib.hid hc
      have HK4 := HK3.out.later HB.out
      obtain ⟨M, caps, hv, hE, hK⟩ := id HK4
      subst hv
      have HKK := Lib.hid hK
      have HK5 := Lib.hid HK4
      have HDD := Lib.hid hd
      clear hd hc HD hK HK4
      go_wp2_with fail
      refine (HKK.out _ (Below.refl _ _) _).mono ?_
      rw [HC.out, set34]
      rintro e w2 ⟨rfl, hb2⟩
      have HB2 := Lib.hid (HB.out.trans (hb2.mono HB.out.size))
      have HK6 := Lib.hid (HK5.out.later hb2)
      clear hb2 HKK
      have hd := HDD.out
      by_cases hc4 : c = 34
      · have hb : (c == 34) = true := by simpa using hc4
        rw [if_pos hc4] at hd
        obtain ⟨q, hq⟩ : ∃ q, headP (setP [34]) (s.data.toList.drop (k + 1)) = q := ⟨_, rfl⟩
        rw [hq] at hd
        have HD2 := Lib.hid hd
        have hbeg := begins_any (s.extract (k + 1) s.size) (.func (.func M) #[] caps) (setP [34]) w2 HK6.out
        rw [cut_end, hq] at hbeg
        have HBEG := Lib.hid hbeg
        have HQ := Lib.hid hq
        rw [hb]
        clear hd hq hbeg hc4 hb HDD
        go_wp2_with fail
        refine HBEG.out.mono ?_
        rintro e w3 ⟨rfl, hb3⟩
        have HB3 := Lib.hid (HB2.out.trans (hb3.mono HB2.out.size))
        clear hb3
        have hd := HD2.out
        cases q with
        | true =>
          rw [if_pos rfl, List.drop_drop] at hd
          have HD3 := Lib.hid hd
          have hk2 : k + 2 ≤ s.size := by
            have : s.data.toList.drop (k + 1) ≠ [] := fun e => by have := HQ.out; rw [e] at this; simp [headP] at this
            have := List.length_pos_iff.2 this
            rw [List.length_drop, size_list] at this; omega
          clear hd
          go_wp2
          go_roundw
          case rel => exact ⟨k + 2, by omega, by omega, by go_num, HD3, HB3.out⟩
          case measure => simp [intOf]; omega
        | false =>
          rw [if_neg (by decide)] at hd
          subst hd
          go_wp2
          go_ret
          exact ⟨rfl, HB1.out.trans (HB3.out.mono HB1.out.size)⟩
      · have hb : (c == 34) = false := by simpa using hc4
        rw [if_neg hc4] at hd
        have HD2 := Lib.hid hd
        rw [hb]
        clear hd hc4 hb HDD
        go_wp2_with fail
        go_roundw
        case rel => exact ⟨k + 1, by omega, by omega, by simp, HD2, HB2.out⟩
        case measure => simp [intOf]; omega
    · have hd := HD.out
      rw [List.drop_eq_nil_of_le (Nat.le_trans (Nat.le_of_eq (size_list s)) (show s.size ≤ k by omega)), tszF] at hd
      have hi : ¬ (k : Int) < (s.size : Int) := by omega
      subst hd
      go_wp2
      go_ret
      exact ⟨rfl, HB1.out.trans (HB.out.mono HB1.out.size)⟩
end Go.Proofs.YtcnmghkmognhoaaDoor
