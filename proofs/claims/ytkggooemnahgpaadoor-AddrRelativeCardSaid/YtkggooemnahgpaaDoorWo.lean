/- Walks over the document's part and Relative, over addr.meant and the document's half. -/
import Derived.Test.YtkggooemnahgpaaDoorWn
namespace Go.Proofs.YtkggooemnahgpaaDoor
open Go.RowKit

theorem itoa_neg (n : Int) (h : 0 < n) : Lib.itoa (-n) = 45 :: Lib.itoa n := by
  unfold Lib.itoa
  rw [if_pos (by omega), if_neg (by omega)]
  congr 2
  omega

theorem part_any (p f : Int) (fix : Bool) (h0 : 0 ≤ p) (h1 : p ≤ 9999998) (h2 : 0 ≤ f) (h3 : f ≤ 9999998) (w : World) :
    Calls Tryd.prog 39 #[.int .i64 p, .bool fix, .int .i64 f] w fun e w' => e = .returned (.string ⟨(seenL p f fix).toArray⟩) ∧ w = w' := by
  unfold seenL
  cases fix with
  | true =>
    go_enter Tryd.func39, Tryd.ntmps39
    go_wp2_with fail
    refine (rnum_any _ (by omega) (by omega) _).mono ?_
    rintro e w1 ⟨rfl, rfl⟩
    go_wp2
    go_ret
    exact ⟨by simp, rfl⟩
  | false =>
    by_cases h : p = f
    · subst h
      go_enter Tryd.func39, Tryd.ntmps39
      go_wp2
      go_ret
      exact ⟨by simp, rfl⟩
    · have hb : (p == f) = false := by rw [beq_eq_false_iff_ne]; exact h
      by_cases hlt : p < f
      · have e := itoa_neg (f - p) (by omega)
        have E := Lib.hid (show Lib.itoa (p - f) = 45 :: Lib.itoa (f - p) by rw [← e]; congr 1; omega)
        clear e
        have hlen := Lib.itoa_length_le (f - p) (by omega) (by omega)
        go_enter Tryd.func39, Tryd.ntmps39
        go_wp2_with fail
        refine (rnum_any _ (by omega) (by omega) _).mono ?_
        rintro e w1 ⟨rfl, rfl⟩
        go_wp2
        go_ret
        refine ⟨ret_str ?_, rfl⟩
        rw [E.out]
        simp only [str_app]
        simp
      · have hlen := Lib.itoa_length_le (p - f) (by omega) (by omega)
        go_enter Tryd.func39, Tryd.ntmps39
        go_wp2_with fail
        refine (rnum_any _ (by omega) (by omega) _).mono ?_
        rintro e w1 ⟨rfl, rfl⟩
        go_wp2
        go_ret
        refine ⟨ret_str ?_, rfl⟩
        simp only [str_app]
        simp

/-- what a reading of one half comes to -/
def MeantR (o : Option (Int × Bool)) (v : Value) : Prop := match o with
  | some (p, fx) => v = .tuple #[.int .i64 p, .bool fx, .bool true]
  | none => ∃ (p : Int) (fx : Bool), v = .tuple #[.int .i64 p, .bool fx, .bool false]
/-- one half of a mark as seen from a place -/
def halfL (l : List UInt8) (f : Int) : Option (Int × Bool) :=
  if l = [] then some (f, false) else
  if Lib.hasPrefix l [91] then
    (if Lib.hasSuffix (Lib.trimPrefix l [91]) [93] then
      (if Lib.hasPrefix (Lib.trimSuffix (Lib.trimPrefix l [91]) [93]) [45] then (numL (Lib.trimPrefix (Lib.trimSuffix (Lib.trimPrefix l [91]) [93]) [45])).map fun n => (f + -n, false)
       else (numL (Lib.trimPrefix (Lib.trimSuffix (Lib.trimPrefix l [91]) [93]) [45])).map fun n => (f + n, false))
     else none)
  else (numL l).map fun n => (n - 1, true)

def MeantC (o : Option (Int × Bool)) (w : World) (e : Ending) (w' : World) : Prop := (∃ v, e = .returned v ∧ MeantR o v) ∧ Below w.heap.size w w'

theorem numL_le (l : List UInt8) : 0 ≤ (numL l).getD 0 ∧ (numL l).getD 0 ≤ 9999999 := by
  cases h : numL l with
  | none => exact ⟨by decide, by decide⟩
  | some m => have := numL_bound l m h; exact ⟨by rw [Option.getD_some]; omega, by rw [Option.getD_some]; omega⟩

set_option maxHeartbeats 1600000 in
theorem meant_any (s : ByteArray) (f : Int) (h0 : 0 ≤ f) (h1 : f ≤ 9999998) (hs : s.size ≤ 1000) (w : World) :
    Calls Tryd.prog 37 #[.string s, .int .i64 f] w (MeantC (halfL s.data.toList f) w) := by
  by_cases hz : s.size = 0
  · have he := empty_of s hz
    subst he
    go_enter Tryd.func37, Tryd.ntmps37
    go_wp2_with fail
    go_ret3
    exact ⟨⟨_, rfl, rfl⟩, Below.refl _ _⟩
  · have hne := not_empty s (by omega)
    have hnil : s.data.toList ≠ [] := fun e => hz (by rw [← size_list, e]; rfl)
    unfold halfL
    rw [if_neg hnil]
    clear hnil
    cases hb : Lib.hasPrefix s.data.toList [91] with
    | false =>
      rw [if_neg (by decide)]
      obtain ⟨n, hn⟩ : ∃ n, (numL s.data.toList).getD 0 = n := ⟨_, rfl⟩
      have hr := numL_le s.data.toList
      rw [hn] at hr
      obtain ⟨b, hbb⟩ : ∃ b, (numL s.data.toList).isSome = b := ⟨_, rfl⟩
      have HN := Lib.hid hn
      have HB := Lib.hid hbb
      have HP := Lib.hid hb
      clear hn hbb hb hz
      obtain ⟨r1, r2⟩ := hr
      go_enter Tryd.func37, Tryd.ntmps37
      go_wp2_with fail
      refine (Tryd.strings_CutPrefix _ _ _).mono ?_
      rw [show (⟨#[91]⟩ : ByteArray).data.toList = [91] from rfl, HP.out]
      rintro e w' ⟨rfl, rfl⟩
      go_wp2_with fail
      refine (number_any _ _).mono ?_
      rw [digR_eq, HN.out, HB.out]
      rintro e w1 ⟨rfl, hb1⟩
      go_wp2_with fail
      go_ret3
      refine ⟨⟨_, rfl, ?_⟩, hb1⟩
      have e1 := HN.out
      have e2 := HB.out
      cases hq : numL s.data.toList with
      | none => rw [hq] at e2; rw [← e2]; exact ⟨_, _, rfl⟩
      | some m => rw [hq] at e1 e2; rw [← e1, ← e2]; rfl
    | true =>
      rw [if_pos rfl]
      obtain ⟨t, ht⟩ : ∃ t, Lib.trimPrefix s.data.toList [91] = t := ⟨_, rfl⟩
      have htl : t.length ≤ 1000 := by
        have := trim_len s.data.toList [91]
        rw [ht, size_list] at this; omega
      rw [ht]
      obtain ⟨u, hu⟩ : ∃ u, Lib.trimSuffix t [93] = u := ⟨_, rfl⟩
      obtain ⟨eb, heb⟩ : ∃ eb, Lib.hasSuffix t [93] = eb := ⟨_, rfl⟩
      obtain ⟨v, hv⟩ : ∃ v, Lib.trimPrefix u [45] = v := ⟨_, rfl⟩
      obtain ⟨mb, hmb⟩ : ∃ mb, Lib.hasPrefix u [45] = mb := ⟨_, rfl⟩
      rw [hu, heb, hv, hmb]
      obtain ⟨n, hn⟩ : ∃ n, (numL v).getD 0 = n := ⟨_, rfl⟩
      have hr := numL_le v
      rw [hn] at hr
      obtain ⟨b, hbb⟩ : ∃ b, (numL v).isSome = b := ⟨_, rfl⟩
      have HN := Lib.hid hn
      have HB := Lib.hid hbb
      have HP := Lib.hid hb
      have HT := Lib.hid ht
      have HU := Lib.hid hu
      have HE := Lib.hid heb
      have HV := Lib.hid hv
      have HM := Lib.hid hmb
      clear hn hbb hb hz ht hu heb hv hmb
      obtain ⟨r1, r2⟩ := hr
      cases mb <;> cases eb <;> cases b
      all_goals
        go_enter Tryd.func37, Tryd.ntmps37
        go_wp2_with fail
        refine (Tryd.strings_CutPrefix _ _ _).mono ?_
        rw [show (⟨#[91]⟩ : ByteArray).data.toList = [91] from rfl, HP.out, HT.out]
        rintro e w' ⟨rfl, rfl⟩
        go_wp2_with fail
        refine (Tryd.strings_CutSuffix _ _ _ (by show t.length ≤ _; omega)).mono ?_
        rw [show (⟨#[93]⟩ : ByteArray).data.toList = [93] from rfl, show (⟨t.toArray⟩ : ByteArray).data.toList = t from rfl, HU.out, HE.out]
        rintro e w' ⟨rfl, rfl⟩
        go_wp2_with fail
        refine (Tryd.strings_CutPrefix _ _ _).mono ?_
        rw [show (⟨#[45]⟩ : ByteArray).data.toList = [45] from rfl, show (⟨u.toArray⟩ : ByteArray).data.toList = u from rfl, HV.out, HM.out]
        rintro e w' ⟨rfl, rfl⟩
        go_wp2_with fail
        refine (number_any _ _).mono ?_
        rw [show (⟨v.toArray⟩ : ByteArray).data.toList = v from rfl, digR_eq, HN.out, HB.out]
        rintro e w1 ⟨rfl, hb1⟩
        go_wp2_with fail
        go_ret3
        refine ⟨⟨_, rfl, ?_⟩, hb1⟩
        have e1 := HN.out
        have e2 := HB.out
        cases hq : numL v with
        | none =>
          rw [hq] at e2
          first | (cases e2; done) | exact ⟨_, _, rfl⟩
        | some m =>
          rw [hq] at e1 e2
          first | (cases e2; done) | (rw [← e1]; first | rfl | exact ⟨_, _, rfl⟩)
end Go.Proofs.YtkggooemnahgpaaDoor
