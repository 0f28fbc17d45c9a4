/- Walk over the document's half. -/
import Derived.Test.YtkggooemnahgpaaDoorWo
namespace Go.Proofs.YtkggooemnahgpaaDoor
open Go.RowKit

/-- what stands between a bracket ahead and one behind -/
theorem half_mid (s : ByteArray) : (s.extract 1 (s.size - 1)).data.toList = (s.data.toList.drop 1).take (s.size - 2) := by
  rw [Lib.extract_data]; rfl
theorem half_mid1 (s : ByteArray) : ((s.extract 1 (s.size - 1)).extract 1 (s.size - 1 - 1)).data.toList = ((s.data.toList.drop 1).take (s.size - 2)).drop 1 := by
  rw [Lib.extract_data, half_mid s]
  apply List.take_of_length_le
  simp only [List.length_drop, List.length_take, size_list]; omega

theorem rhalf_last (s : ByteArray) (f : Int) (w : World) (hs : s.size ≤ 1000) (hs3 : 1 ≤ s.size) (e0 : ((s[0].toNat : Int) == 91) = true) (he : s.toList.isEmpty = false) (hl : ¬ (s[s.size - 1].toNat : Int) = 93) :
    Calls Tryd.prog 38 #[.string s, .int .i64 f] w (MeantC none w) := by
  go_enter Tryd.func38, Tryd.ntmps38
  go_wp2_with fail
  go_ret3
  exact ⟨⟨_, rfl, _, _, rfl⟩, Below.refl _ _⟩

theorem rhalf_short (s : ByteArray) (f : Int) (w : World) (hs : 1 ≤ s.size) (hs3 : s.size < 3) (e0 : ((s[0].toNat : Int) == 91) = true) (he : s.toList.isEmpty = false) :
    Calls Tryd.prog 38 #[.string s, .int .i64 f] w (MeantC none w) := by
  go_enter Tryd.func38, Tryd.ntmps38
  go_wp2_with fail
  all_goals
    go_ret3
    exact ⟨⟨_, rfl, _, _, rfl⟩, Below.refl _ _⟩

theorem rhalf_minus (s : ByteArray) (f : Int) (h0 : 0 ≤ f) (h1 : f ≤ 9999998) (w : World) (hs : s.size ≤ 1000) (hs3 : 3 ≤ s.size) (e0 : ((s[0].toNat : Int) == 91) = true) (he : s.toList.isEmpty = false) (hl : (s[s.size - 1].toNat : Int) = 93)
    (hm : ∀ h, ((((s.extract 1 (s.size - 1))[0]'h).toNat : Int) == 45) = true) (q : Option Int) (hq : numL (((s.data.toList.drop 1).take (s.size - 2)).drop 1) = q) :
    Calls Tryd.prog 38 #[.string s, .int .i64 f] w (MeantC (q.map fun n => (f + -n, false)) w) := by
  have HQ := Lib.hid hq
  have hr := numL_le (((s.data.toList.drop 1).take (s.size - 2)).drop 1)
  rw [hq] at hr
  clear hq
  cases q with
  | none =>
    clear hr
    go_enter Tryd.func38, Tryd.ntmps38
    go_wp2_with fail
    refine (rcount_any _ _).mono ?_
    rw [half_mid1 s, HQ.out, Option.getD_none]
    rintro e w' ⟨rfl, rfl⟩
    go_wp2_with fail
    go_ret3
    exact ⟨⟨_, rfl, _, _, rfl⟩, Below.refl _ _⟩
  | some m =>
    have hm1 := (numL_bound _ _ HQ.out).1
    have hm2 := (numL_bound _ _ HQ.out).2
    clear hr
    go_enter Tryd.func38, Tryd.ntmps38
    go_wp2_with fail
    refine (rcount_any _ _).mono ?_
    rw [half_mid1 s, HQ.out, Option.getD_some]
    rintro e w' ⟨rfl, rfl⟩
    go_wp2_with fail
    go_ret3
    refine ⟨⟨_, rfl, ?_⟩, Below.refl _ _⟩
    show Value.tuple #[.int .i64 (f - m), .bool false, .bool (decide (0 < m))] = .tuple #[.int .i64 (f + -m), .bool false, .bool true]
    rw [decide_eq_true (show 0 < m by omega), Int.sub_eq_add_neg]

theorem rhalf_plus (s : ByteArray) (f : Int) (h0 : 0 ≤ f) (h1 : f ≤ 9999998) (w : World) (hs : s.size ≤ 1000) (hs3 : 3 ≤ s.size) (e0 : ((s[0].toNat : Int) == 91) = true) (he : s.toList.isEmpty = false) (hl : (s[s.size - 1].toNat : Int) = 93)
    (hm : ∀ h, ((((s.extract 1 (s.size - 1))[0]'h).toNat : Int) == 45) = false) (q : Option Int) (hq : numL ((s.data.toList.drop 1).take (s.size - 2)) = q) :
    Calls Tryd.prog 38 #[.string s, .int .i64 f] w (MeantC (q.map fun n => (f + n, false)) w) := by
  have HQ := Lib.hid hq
  clear hq
  cases q with
  | none =>
    go_enter Tryd.func38, Tryd.ntmps38
    go_wp2_with fail
    refine (rcount_any _ _).mono ?_
    rw [half_mid s, HQ.out, Option.getD_none]
    rintro e w' ⟨rfl, rfl⟩
    go_wp2_with fail
    go_ret3
    exact ⟨⟨_, rfl, _, _, rfl⟩, Below.refl _ _⟩
  | some m =>
    have hm1 := (numL_bound _ _ HQ.out).1
    have hm2 := (numL_bound _ _ HQ.out).2
    go_enter Tryd.func38, Tryd.ntmps38
    go_wp2_with fail
    refine (rcount_any _ _).mono ?_
    rw [half_mid s, HQ.out, Option.getD_some]
    rintro e w' ⟨rfl, rfl⟩
    go_wp2_with fail
    go_ret3
    refine ⟨⟨_, rfl, ?_⟩, Below.refl _ _⟩
    show Value.tuple #[.int .i64 (f + m), .bool false, .bool (decide (0 < m))] = .tuple #[.int .i64 (f + m), .bool false, .bool true]
    rw [decide_eq_true (show 0 < m by omega)]

theorem rhalf_fixed (s : ByteArray) (f : Int) (w : World) (hs : 1 ≤ s.size) (e0 : ((s[0].toNat : Int) == 91) = false) (he : s.toList.isEmpty = false) (q : Option Int) (hq : numL s.data.toList = q) :
    Calls Tryd.prog 38 #[.string s, .int .i64 f] w (MeantC (q.map fun n => (n - 1, true)) w) := by
  have HQ := Lib.hid hq
  clear hq
  cases q with
  | none =>
    go_enter Tryd.func38, Tryd.ntmps38
    go_wp2_with fail
    refine (rcount_any _ _).mono ?_
    rw [HQ.out, Option.getD_none]
    rintro e w' ⟨rfl, rfl⟩
    go_wp2_with fail
    go_ret3
    exact ⟨⟨_, rfl, _, _, rfl⟩, Below.refl _ _⟩
  | some m =>
    have hm1 := (numL_bound _ _ HQ.out).1
    have hm2 := (numL_bound _ _ HQ.out).2
    go_enter Tryd.func38, Tryd.ntmps38
    go_wp2_with fail
    refine (rcount_any _ _).mono ?_
    rw [HQ.out, Option.getD_some]
    rintro e w' ⟨rfl, rfl⟩
    go_wp2_with fail
    go_ret3
    refine ⟨⟨_, rfl, ?_⟩, Below.refl _ _⟩
    show Value.tuple #[.int .i64 (m - 1), .bool true, .bool (decide (0 < m))] = .tuple #[.int .i64 (m - 1), .bool true, .bool true]
    rw [decide_eq_true (show 0 < m by omega)]

theorem rhalf_empty (f : Int) (w : World) : Calls Tryd.prog 38 #[.string ⟨#[]⟩, .int .i64 f] w (MeantC (some (f, false)) w) := by
  go_enter Tryd.func38, Tryd.ntmps38
  go_wp2_with fail
  go_ret3
  exact ⟨⟨_, rfl, rfl⟩, Below.refl _ _⟩

theorem prefix_head (c d : UInt8) (t : List UInt8) : Lib.hasPrefix (c :: t) [d] = (d == c) := by simp [Lib.hasPrefix, List.isPrefixOf]
theorem get_zero (s : ByteArray) (c : UInt8) (t : List UInt8) (h : s.data.toList = c :: t) (h0 : 0 < s.size) : s[0] = c := by
  have := drop_get s 0 h0
  rw [List.drop_zero, h] at this
  injection this with e _
  exact e.symm
theorem suffix_last (x : List UInt8) (y : UInt8) : Lib.hasSuffix (x ++ [y]) [93] = (y == 93) ∧ (y = 93 → Lib.trimSuffix (x ++ [y]) [93] = x) := by
  have e : Lib.hasSuffix (x ++ [y]) [93] = (y == 93) := by
    unfold Lib.hasSuffix
    rw [Bool.eq_iff_iff, List.isSuffixOf_iff_suffix, beq_iff_eq]
    constructor
    · rintro ⟨z, hz⟩
      have := congrArg List.getLast? hz
      simpa using this.symm
    · rintro rfl; exact ⟨x, rfl⟩
  refine ⟨e, fun h => ?_⟩
  unfold Lib.trimSuffix
  rw [e, h]
  simp

/-- the document's half, at every string -/
theorem rhalf_any (s : ByteArray) (f : Int) (h0 : 0 ≤ f) (h1 : f ≤ 9999998) (hs : s.size ≤ 1000) (w : World) :
    Calls Tryd.prog 38 #[.string s, .int .i64 f] w (MeantC (halfL s.data.toList f) w) := by
  cases hl : s.data.toList with
  | nil =>
    have hz : s.size = 0 := by rw [← size_list, hl]; rfl
    have he := empty_of s hz
    subst he
    exact rhalf_empty f w
  | cons c t =>
    have hz : s.size = t.length + 1 := by rw [← size_list, hl]; rfl
    have hp : 0 < s.size := by omega
    have hc : s[0] = c := get_zero s c t hl hp
    have hne := not_empty s hp
    unfold halfL
    rw [if_neg (by simp), prefix_head]
    by_cases h91 : c = 91
    · subst h91
      rw [if_pos (by decide)]
      have ht : Lib.trimPrefix (91 :: t) [91] = t := by simp [Lib.trimPrefix, Lib.hasPrefix]
      rw [ht]
      have e0 : ((s[0].toNat : Int) == 91) = true := by rw [hc]; rfl
      rcases List.eq_nil_or_concat t with rfl | ⟨x, y, rfl⟩
      · rw [if_neg (by decide)]
        exact rhalf_short s f w (by omega) (by rw [hz]; simp) e0 hne
      · rw [List.concat_eq_append] at *
        obtain ⟨s1, s2⟩ := suffix_last x y
        rw [s1]
        have hlast : s[s.size - 1]'(by omega) = y := by
          rw [← get_list s (s.size - 1) (by omega)]
          simp only [hl, hz]
          simp
        by_cases hy : y = 93
        · rw [if_pos (by rw [hy]; rfl), s2 hy]
          have hly : (s[s.size - 1].toNat : Int) = 93 := by rw [hlast, hy]; rfl
          have hx : (s.data.toList.drop 1).take (s.size - 2) = x := by
            rw [hl, hz]; simp
          cases x with
          | nil =>
            rw [if_neg (by decide)]
            have hq : numL (Lib.trimPrefix [] [45]) = none := rfl
            rw [hq]
            exact rhalf_short s f w (by omega) (by rw [hz]; simp) e0 hne
          | cons a z =>
            have h3 : 3 ≤ s.size := by rw [hz]; simp
            have hmid : ∀ h, (s.extract 1 (s.size - 1))[0]'h = a := fun h => by
              refine get_zero _ a z ?_ h
              rw [half_mid s, hx]
            rw [prefix_head]
            by_cases h45 : a = 45
            · subst h45
              rw [if_pos (by decide)]
              have hv : Lib.trimPrefix (45 :: z) [45] = z := by simp [Lib.trimPrefix, Lib.hasPrefix]
              rw [hv]
              exact rhalf_minus s f h0 h1 w hs h3 e0 hne hly (fun h => by rw [hmid h]; rfl) _ (by rw [hx]; rfl)
            · have hb : ((45 : UInt8) == a) = false := by rw [beq_eq_false_iff_ne]; exact fun e => h45 e.symm
              rw [hb, if_neg (by decide)]
              have hv : Lib.trimPrefix (a :: z) [45] = a :: z := by
                unfold Lib.trimPrefix
                rw [prefix_head, hb]; rfl
              rw [hv]
              refine rhalf_plus s f h0 h1 w hs h3 e0 hne hly (fun h => ?_) _ (by rw [hx])
              rw [hmid h, beq_eq_false_iff_ne]
              intro e
              exact h45 (UInt8.toNat_inj.1 (show a.toNat = 45 by omega))
        · have hb : (y == 93) = false := by rw [beq_eq_false_iff_ne]; exact hy
          rw [hb, if_neg (by decide)]
          refine rhalf_last s f w hs (by omega) e0 hne (fun e => hy ?_)
          rw [hlast] at e
          exact UInt8.toNat_inj.1 (show y.toNat = 93 by omega)
    · have hb : ((91 : UInt8) == c) = false := by rw [beq_eq_false_iff_ne]; exact fun e => h91 e.symm
      rw [hb, if_neg (by decide)]
      refine rhalf_fixed s f w (by omega) ?_ hne _ (by rw [hl])
      rw [hc, beq_eq_false_iff_ne]
      intro e
      exact h91 (UInt8.toNat_inj.1 (show c.toNat = 91 by omega))
end Go.Proofs.YtkggooemnahgpaaDoor
