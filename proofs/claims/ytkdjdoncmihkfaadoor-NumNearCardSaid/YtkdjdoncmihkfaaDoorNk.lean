/- Walk over num.Text, of a number whose first digit stands behind the point; the examples. -/
import Derived.Test.YtkdjdoncmihkfaaDoorNl
namespace Go.Proofs.YtkdjdoncmihkfaaDoor
open Go.RowKit

theorem ret_str {a b : ByteArray} (h : a = b) : Ending.returned (.string a) = .returned (.string b) := by rw [h]
def asc (l : List UInt8) : List UInt8 := l.map fun x => x + 48
def midT (D : List UInt8) (k : Nat) : List UInt8 := asc (D.take k) ++ D.drop k
theorem midT_len (D : List UInt8) (k : Nat) : (midT D k).length = D.length := by simp [midT, asc]; omega
theorem midT_get {D : List UInt8} {k : Nat} (hk : k < D.length) : (midT D k)[k]? = some D[k] := by
  rw [midT, List.getElem?_append_right (by simp [asc]; omega)]
  simp [asc, Nat.min_eq_left (Nat.le_of_lt hk)]
theorem midT_set {D : List UInt8} {k : Nat} (hk : k < D.length) : (midT D k).set k (D[k] + 48) = midT D (k + 1) := by
  unfold midT
  rw [List.set_append_right _ _ (by simp [asc]; omega)]
  rw [show k - (asc (D.take k)).length = 0 by simp [asc]; omega, List.drop_eq_getElem_cons hk, List.set_cons_zero, List.take_succ_eq_append_getElem hk]
  unfold asc
  rw [List.map_append, List.append_assoc]; rfl
theorem rep_one (x : UInt8) : ∀ n, Lib.repeatL [x] n = List.replicate n x
  | 0 => rfl
  | n + 1 => by rw [Lib.repeatL, rep_one x n, List.replicate_succ]; rfl
theorem add48 (x : UInt8) (h : x.toNat ≤ 9) : IntKind.u8.wrap ((x.toNat : Int) + 48) = ((x + 48).toNat : Int) := by
  have : (x + 48).toNat = x.toNat + 48 := by rw [UInt8.toNat_add]; simp; omega
  rw [this, IntKind.wrap_u8]; omega

set_option maxRecDepth 1000000 in
set_option maxHeartbeats 2000000 in
/-- Text, of a number whose first digit stands behind the point -/
theorem text_low (m e : Int) (hr : rightB m e = true) (hm : m ≠ 0) (he : e < 0) (hl : ((digs m).length : Int) ≤ -e) (w : World) (ht : Tab w) (R : List UInt8)
    (hR : R = (if m < 0 then [45] else []) ++ ([48, 46] ++ (List.replicate (-e - (digs m).length).toNat 48 ++ asc (digs m)))) :
    Calls Tryd.prog 41 #[numV m e] w fun r w' => r = .returned (.string ⟨R.toArray⟩) ∧ Below w.heap.size w w' := by
  obtain ⟨ba, bb1, bb2⟩ := right_bounds hr
  have R1 : Hid (∀ w1, Calls Tryd.prog 17 #[.agg #[.int .i64 m, .int .i64 e]] w1 fun r w' => r = .returned (.bool true) ∧ Below w1.heap.size w1 w') := by
    intro w1; have := right_any m e (by omega) (by omega) (by omega) w1; rw [hr] at this; exact this
  obtain ⟨d1, d2, d3⟩ := digs_val m
  have dl := digs_length m (by omega) (by omega)
  obtain ⟨ng, hng⟩ : ∃ ng, ng = decide (m < 0) := ⟨_, rfl⟩
  have D1 : Hid (∀ w1, Tab w1 → Calls Tryd.prog 47 #[.int .i64 m] w1 fun e w' => ∃ v, e = .returned (.tuple #[.bool ng, v]) ∧ Own w' w1.heap.size v (digs m) ∧ Below w1.heap.size w1 w') := by
    intro w1 h; rw [hng]; exact digits_any m (by omega) (by omega) w1 h
  obtain ⟨D, hD⟩ : ∃ A, A = digs m := ⟨_, rfl⟩
  rw [← hD] at D1 d2 dl hl hR
  have HR : Hid (R = (if ng = true then [45] else []) ++ ([48, 46] ++ (List.replicate (-e - D.length).toNat 48 ++ asc D))) := by
    rw [hR, hng]; show _ = _; simp
  have HD := Lib.hid d2
  have hm0 : (m == 0) = false := by rw [beq_eq_false_iff_ne]; exact hm
  have HT := Lib.hid ht
  clear hr hm ba d1 d2 d3 hD ht hR hng
  unfold numV
  go_enter Tryd.func41, Tryd.ntmps41
  go_wp2_with fail
  refine (R1.out _).mono ?_
  rintro e w1 ⟨rfl, hb1⟩
  have S0 := Slot.new w m e
  have S1 := S0.below hb1 (by simp)
  have q1 := below_slot hb1
  have hz1 : w.heap.size < w1.heap.size := by have := hb1.size; simp at this; omega
  clear S0 hb1 R1
  obtain ⟨p0, p1, p2, p3⟩ := id S1
  go_wp2_with fail
  refine (D1.out _ (HT.out.below q1)).mono ?_
  rintro e w2 ⟨v, rfl, hown, hb2⟩
  have S2 := S1.below hb2 hz1
  have q2 := q1.trans (hb2.mono (by omega))
  obtain ⟨B, hB⟩ : ∃ B, B = w1.heap.size := ⟨_, rfl⟩
  rw [← hB] at hown
  have hz2 : w.heap.size < B := by rw [hB]; exact hz1
  have hz3 : B ≤ w2.heap.size := by rw [hB]; exact hb2.size
  clear S1 hb2 D1 p0 p1 p2 p3 q1 hz1 hB HT
  obtain ⟨g, cp, rfl⟩ := id hown.2
  go_wp2_with fail
  go_loopw [21] (fun i wr => ∃ (k : Nat), i = .int .i64 k ∧ k ≤ D.length ∧ Own wr B (.slice (some ⟨g, 0, none⟩) D.length cp) (midT D k) ∧ Below B w2 wr) (fun i _ => D.length - (intOf i).toNat)
  case atStart => exact ⟨0, rfl, by omega, hown, Below.refl _ _⟩
  case round =>
    obtain ⟨k, rfl, hk, hownk, hbk⟩ := hrel
    have Sr := S2.below hbk hz2
    have qr := q2.trans (hbk.mono (by omega))
    clear hown S2 q2
    by_cases hkl : k < D.length
    · obtain ⟨hc, hf⟩ := hownk.at (midT_get hkl)
      have hst := hownk.stored k (D[k] + 48)
      rw [midT_set hkl] at hst
      have hx9 : (D[k]).toNat ≤ 9 := HD.out _ (List.getElem_mem hkl)
      obtain ⟨x, hx⟩ : ∃ x, x = D[k] := ⟨_, rfl⟩
      rw [← hx] at hc hst hx9
      have hw := add48 x hx9
      have HS := Lib.hid hst
      have HB := Lib.hid hbk
      clear hst hx hownk hbk
      go_wp2
      go_roundw
      case rel => exact ⟨k + 1, by go_num, by omega, HS.out.1, HB.out.trans HS.out.2⟩
      case measure => simp [intOf]; omega
    · have hfull : midT D k = asc D := by
        unfold midT; rw [List.take_of_length_le (by omega), List.drop_eq_nil_of_le (by omega)]; simp
      rw [hfull] at hownk
      have hasc : (asc D).length = D.length := by simp [asc]
      have hcv := own_conv hownk hasc.symm
      obtain ⟨p0, p1, p2, p3⟩ := Sr
      obtain ⟨P, hP⟩ : ∃ P, P = asc D := ⟨_, rfl⟩
      have HR2 := HR.out
      rw [← hP] at hcv hasc HR2
      have HR3 := Lib.hid HR2
      obtain ⟨n, hn⟩ : ∃ n : Nat, (n : Int) = -e - D.length := ⟨(-e - D.length).toNat, by omega⟩
      have hn40 : n ≤ 40 := by omega
      have HN := Lib.hid hn
      obtain ⟨Z, hZ⟩ : ∃ Z, Z = List.replicate n (48 : UInt8) := ⟨_, rfl⟩
      have hZl : Z.length = n := by rw [hZ]; simp
      have HR4 : Hid (R = (if ng = true then [45] else []) ++ ([48, 46] ++ (Z ++ P))) := by
        have := HR3.out
        rw [← hn] at this
        show _ = _
        rw [hZ]; simpa using this
      have RP : Hid (Calls Tryd.prog 70 #[.string ⟨#[48]⟩, .int .i64 (n : Int)] wr fun e w' => e = .returned (.string ⟨Z.toArray⟩) ∧ Below wr.heap.size wr w') := by
        have := Tryd.strings_Repeat ⟨#[48]⟩ n wr (by omega) (by show 1 * n ≤ _; omega)
        rw [show (⟨#[48]⟩ : ByteArray).data.toList = [48] from rfl, rep_one, ← hZ] at this
        exact this
      have hPl : P.length ≤ 21 := by omega
      clear hfull hownk hbk hP HR HR2 HR3 HD hn hZ
      go_wp2_with fail
      rw [show (-e - (D.length : Int)) = (n : Int) from HN.out.symm]
      refine RP.out.mono ?_
      rintro e w4 ⟨rfl, hb4⟩
      have hb5 := qr.trans (hb4.mono (by have := qr.size; omega))
      clear hb4 RP
      cases ng with
      | true =>
        go_wp2
        go_ret
        exact ⟨ret_str (by rw [HR4.out]; apply ByteArray.ext; simp [ByteArray.data_append]), hb5⟩
      | false =>
        go_wp2
        go_ret
        exact ⟨ret_str (by rw [HR4.out]; apply ByteArray.ext; simp [ByteArray.data_append]), hb5⟩

theorem digs_5 : digs 5 = [5] := by
  unfold digs Lib.itoa
  rw [if_neg (by decide), show (5 : Int).toNat = 5 from rfl, Lib.decDigits, dif_pos (by decide)]
  rfl
theorem digs_0 : digs 0 = [] := by
  unfold digs Lib.itoa
  rw [if_neg (by decide), show (0 : Int).toNat = 0 from rfl, Lib.decDigits, dif_pos (by decide)]
  rfl
theorem text_5 (w : World) (ht : Tab w) : Calls Tryd.prog 41 #[.agg #[.int .i64 5, .int .i64 (-3)]] w fun r w' => r = .returned (.string ⟨#[48, 46, 48, 48, 53]⟩) ∧ Below w.heap.size w w' := by
  have hr : rightB 5 (-3) = true := by
    unfold rightB
    rw [if_neg (by decide), if_neg (by decide)]
    have : nd (5 : Int).natAbs = 1 := by rw [show (5 : Int).natAbs = 5 from rfl, nd, dif_neg (by decide), show 5 / 10 = 0 from rfl, nd_zero]
    rw [this]; decide
  exact text_low 5 (-3) hr (by decide) (by decide) (by rw [digs_5]; decide) w ht [48, 46, 48, 48, 53] (by rw [digs_5]; rfl)
theorem make_123 : makeL 12300 (-2) = (123, 0, true) := by
  have hd : digs 12300 = [1, 2, 3, 0, 0] := by
    unfold digs Lib.itoa
    rw [if_neg (by decide), show (12300 : Int).toNat = 12300 from rfl]
    rw [Lib.decDigits, dif_neg (by decide), Lib.decDigits, dif_neg (by decide), Lib.decDigits, dif_neg (by decide), Lib.decDigits, dif_neg (by decide), Lib.decDigits, dif_pos (by decide)]
    rfl
  unfold makeL
  rw [hd]
  decide
theorem div_13 : divL 1 0 3 0 = (333333333333333, -15, true) := by
  unfold divL
  rw [show ((((1 : Int).natAbs / (3 : Int).natAbs : Nat)) : Int) = 0 from rfl, digs_0]
  decide
end Go.Proofs.YtkdjdoncmihkfaaDoor
