/- The document's side: texts. -/
import Derived.Test.YtcnmghkmognhoaaDoorQf
namespace Go.Proofs.YtcnmghkmognhoaaDoor
open Go.RowKit Go.Shelf

theorem tsz_gt (L : List UInt8) : ∀ (f : Nat) (l : List UInt8) (k : Nat), l.length ≤ f → tszF l k = 0 ∨ k + 1 ≤ tszF l k
  | 0, l, k, h => by cases l with
    | nil => exact .inl rfl
    | cons x t => simp at h
  | f + 1, l, k, h => by
    match l with
    | [] => exact .inl rfl
    | [x] =>
      rw [tszF]
      split
      · exact .inr (Nat.le_refl _)
      · exact .inl rfl
    | x :: y :: u =>
      rw [tszF]
      split
      · split
        · rcases tsz_gt L f u (k + 2) (by simp at h; omega) with h1 | h1
          · exact .inl h1
          · exact .inr (by omega)
        · exact .inr (Nat.le_refl _)
      · rcases tsz_gt L f (y :: u) (k + 1) (by simp at h ⊢; omega) with h1 | h1
        · exact .inl h1
        · exact .inr (by omega)
theorem tsz_gt' (l : List UInt8) (k : Nat) : tszF l k = 0 ∨ k + 1 ≤ tszF l k := tsz_gt [] l.length l k (Nat.le_refl _)
theorem rmeant_ne {x : UInt8} (h : x ≠ 34) (l : List UInt8) : meantF (x :: l) = x :: meantF l := by
  cases l with
  | nil => rfl
  | cons y u => rw [meantF, if_neg (fun e => h e.1)]
theorem rmeant_two (l : List UInt8) : meantF (34 :: 34 :: l) = 34 :: meantF l := by rw [meantF, if_pos ⟨rfl, rfl⟩]
theorem take_drop_cons {L : List UInt8} {k r : Nat} {x : UInt8} {t : List UInt8} (hd : L.drop k = x :: t) (hr : k < r) : (L.take r).drop k = x :: (L.take r).drop (k + 1) := by
  rw [List.drop_take, List.drop_take, hd]
  obtain ⟨j, rfl⟩ : ∃ j, r = k + 1 + j := ⟨r - (k + 1), by omega⟩
  rw [show k + 1 + j - k = j + 1 by omega, show k + 1 + j - (k + 1) = j by omega, List.take_succ_cons, show L.drop (k + 1) = t by rw [show k + 1 = k + 1 from rfl, ← List.drop_drop (i := 1), hd]; rfl]
set_option maxRecDepth 100000 in
set_option maxHeartbeats 4000000 in
theorem rtext_any (s : ByteArray) (h0 : 1 ≤ s.size) (hs : s.size ≤ 100000) (w : World) :
    Calls Tryd.prog 64 #[.string s] w fun e w' => e = .returned (.tuple #[.string (if textF s.data.toList = 0 then ⟨#[]⟩ else ⟨(meantF ((s.data.toList.take (textF s.data.toList - 1)).drop 1)).toArray⟩), .int .i64 (textF s.data.toList : Nat)]) ∧ w = w' := by
  obtain ⟨L, hL⟩ : ∃ L, s.data.toList = L := ⟨_, rfl⟩
  have hLs : L.length = s.size := by rw [← hL]; exact size_list s
  rw [hL]
  obtain ⟨R, hR⟩ : ∃ R, textF L = R := ⟨_, rfl⟩
  rw [hR]
  obtain ⟨M, hM⟩ : ∃ M, meantF ((L.take (R - 1)).drop 1) = M := ⟨_, rfl⟩
  rw [hM]
  unfold textF at hR
  obtain ⟨OUT, hO⟩ : ∃ o : ByteArray, (if R = 0 then ⟨#[]⟩ else ⟨M.toArray⟩) = o := ⟨_, rfl⟩
  rw [hO]
  have HO := Lib.hid hO
  clear hO
  have HL := Lib.hid hL
  have HLS := Lib.hid hLs
  have HR := Lib.hid hR
  have HM := Lib.hid hM
  clear hL hLs hR hM
  go_enter Tryd.func64, Tryd.ntmps64
  go_wp2_with fail
  go_loop [4, 5] (fun o n => ∃ (b : ByteArray) (k : Nat), o = .string b ∧ 1 ≤ k ∧ k ≤ s.size ∧ n = .int .i64 (k : Int) ∧ Hid (b.size + 1 ≤ k) ∧ Hid (tszF (L.drop k) k = R) ∧ Hid (R ≠ 0 → b.data.toList ++ meantF ((L.take (R - 1)).drop k) = M)) (fun _ n => s.size - (intOf n).toNat)
  case atStart => exact ⟨⟨#[]⟩, 1, rfl, by omega, by omega, rfl, Lib.hid (Nat.le_refl 1), Lib.hid HR.out, Lib.hid (fun _ => by rw [HM.out]; rfl)⟩
  case round =>
    obtain ⟨b, k, rfl, hk1, hk, rfl, HB, HD, HE⟩ := hrel
    by_cases hlt : k < s.size
    · have hi1 : (k : Int) < (s.size : Int) := by omega
      have hi0 : (0 : Int) ≤ (k : Int) := by omega
      have hdx := drop_get s k hlt
      rw [HL.out] at hdx
      obtain ⟨x, hx⟩ : ∃ c, s[k] = c := ⟨_, rfl⟩
      rw [hx] at hdx
      have hd := HD.out
      rw [hdx] at hd
      by_cases hq : x = 34
      · subst hq
        have hn : (((s[k]'hlt).toNat : Int) != 34) = false := by rw [hx]; decide
        by_cases hl2 : k + 1 < s.size
        · have hi2 : (k : Int) + 1 < (s.size : Int) := by omega
          have hi3 : (0 : Int) ≤ (k : Int) + 1 := by omega
          have hdy := drop_get s (k + 1) hl2
          rw [HL.out] at hdy
          obtain ⟨y, hy⟩ : ∃ c, s[k + 1] = c := ⟨_, rfl⟩
          rw [hy] at hdy
          rw [hdy] at hd
          by_cases hq2 : y = 34
          · subst hq2
            have hn2 : (((s[k + 1]'hl2).toNat : Int) == 34) = true := by rw [hy]; decide
            rw [tsz_two] at hd
            have HD2 := Lib.hid hd
            have HB2 : Hid ((b ++ ⟨#[34]⟩ : ByteArray).size + 1 ≤ k + 2) := Lib.hid (by rw [ByteArray.size_append]; have : (⟨#[34]⟩ : ByteArray).size = 1 := rfl; have := HB.out; omega)
            have HE2 : Hid (R ≠ 0 → (b ++ ⟨#[34]⟩ : ByteArray).data.toList ++ meantF ((L.take (R - 1)).drop (k + 2)) = M) := Lib.hid (fun hr => by
              rw [← HE.out hr]
              have h9 := tsz_gt' (L.drop (k + 1 + 1)) (k + 2)
              rw [hd] at h9
              rw [take_drop_cons (hdx.trans (by rw [hdy])) (by omega), take_drop_cons hdy (by omega), rmeant_two]
              simp [ByteArray.data_append])
            clear hd hdy hdx hx hy HE HD
            have hb9 := HB.out
            clear HB
            go_wp2
            go_round
            case rel => exact ⟨_, k + 2, rfl, by omega, by omega, by go_num, HB2, HD2, HE2⟩
            case measure => simp [intOf]; omega
          · have hyn : y.toNat ≠ 34 := fun e => hq2 (UInt8.toNat_inj.1 e)
            have hn2 : (((s[k + 1]'hl2).toNat : Int) == 34) = false := by rw [hy, beq_eq_false_iff_ne]; omega
            rw [tsz_one hq2] at hd
            have hr0 : ¬ R = 0 := by omega
            have hbe : b = OUT := by
              rw [← HO.out, if_neg hr0]
              rw [← HE.out hr0, ← hd, show k + 1 - 1 = k by omega, List.drop_eq_nil_of_le (by simp; omega)]
              simp [meantF]
            have HRE : Hid (((k : Int) + 1) = (R : Int)) := Lib.hid (by omega)
            subst hbe
            clear hd hdy hdx hx hy HE HD HB HO hyn hq2
            go_wp2
            go_ret2
            exact ⟨by rw [← HRE.out]; rfl, rfl⟩
        · have hi2 : ¬ (k : Int) + 1 < (s.size : Int) := by omega
          rw [List.drop_eq_nil_of_le (by rw [HLS.out]; omega)] at hd
          have hd9 : k + 1 = R := by rw [← hd]; rfl
          have hr0 : ¬ R = 0 := by omega
          have hbe : b = OUT := by
            rw [← HO.out, if_neg hr0]
            rw [← HE.out hr0, ← hd9, show k + 1 - 1 = k by omega, List.drop_eq_nil_of_le (by simp; omega)]
            simp [meantF]
          have HRE : Hid (((k : Int) + 1) = (R : Int)) := Lib.hid (by omega)
          subst hbe
          clear hd hd9 hdx hx HE HD HB HO hl2
          go_wp2
          go_ret2
          exact ⟨by rw [← HRE.out]; rfl, rfl⟩
      · have hxn : x.toNat ≠ 34 := fun e => hq (UInt8.toNat_inj.1 e)
        have hn : (((s[k]'hlt).toNat : Int) != 34) = true := by rw [hx, bne_iff_ne]; omega
        rw [tsz_ne hq] at hd
        have HD2 := Lib.hid hd
        have hxe : (s.extract k (k + 1)).data.toList = [x] := by
          rw [ByteArray.data_extract, Array.toList_extract, List.extract_eq_take_drop, HL.out, hdx, show k + 1 - k = 1 by omega]
          rfl
        have HB2 : Hid ((b ++ s.extract k (k + 1)).size + 1 ≤ k + 1) := Lib.hid (by rw [ByteArray.size_append, ByteArray.size_extract]; have := HB.out; omega)
        have HE2 : Hid (R ≠ 0 → (b ++ s.extract k (k + 1)).data.toList ++ meantF ((L.take (R - 1)).drop (k + 1)) = M) := Lib.hid (fun hr => by
          rw [← HE.out hr]
          have h9 := tsz_gt' (L.drop (k + 1)) (k + 1)
          rw [hd] at h9
          rw [take_drop_cons hdx (by omega), rmeant_ne hq, ByteArray.data_append, Array.toList_append, hxe]
          simp)
        clear hd hdx hx HE HD hxe hxn hq
        have hb9 := HB.out
        clear HB
        go_wp2
        go_round
        case rel => exact ⟨_, k + 1, rfl, by omega, by omega, by go_num, HB2, HD2, HE2⟩
        case measure => simp [intOf]; omega
    · have hi : ¬ (k : Int) < (s.size : Int) := by omega
      have hr0 : R = 0 := by rw [← HD.out, List.drop_eq_nil_of_le (by rw [HLS.out]; omega)]; rfl
      have hbe : ⟨#[]⟩ = OUT := by rw [← HO.out, if_pos hr0]
      subst hr0
      subst hbe
      clear HD HE HB HO hlt
      go_wp2
      exact bodyPost_ret (v := .tuple #[.string ⟨#[]⟩, .int .i64 0]) (by simp [results, Tryd.f64, go_sem]) rfl ⟨rfl, rfl⟩
end Go.Proofs.YtcnmghkmognhoaaDoor
