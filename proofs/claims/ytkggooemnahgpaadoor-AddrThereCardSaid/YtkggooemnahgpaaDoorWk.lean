/- Walks over the document's Text and Parse. -/
import Derived.Test.YtkggooemnahgpaaDoorWj
import Derived.Deep.DeepCutAuto
import Derived.Test.YtkggooemnahgpaaDoorWh
namespace Go.Proofs.YtkggooemnahgpaaDoor
open Go.RowKit

theorem letters_right (c : Int) (h0 : 0 ≤ c) (h1 : c ≤ 18277) : ∀ w, Calls Tryd.prog 13 #[.int .i64 c] w fun e w' => e = .returned (.string ⟨(letL c).toArray⟩) ∧ w = w' := fun w => by
  have := rletters_any c w
  unfold letS at this
  rwa [if_pos (by simp [rightB, h0, h1])] at this

set_option maxHeartbeats 1600000 in
set_option maxRecDepth 100000 in
/-- the document's Text, at every mark -/
theorem rtext_any (r c : Int) (fr fc : Bool) (w : World) : Calls Tryd.prog 17 #[markV r c fr fc] w fun e w' => e = .returned (.string ⟨(textL r c fr fc).toArray⟩) ∧ Below w.heap.size w w' := by
  unfold textL
  have hb0 : Below w.heap.size w (w.alloc (.cells #[.int .i64 r, .int .i64 c, .bool fr, .bool fc] 32)) := (Below.refl _ _).alloc (Nat.le_refl _) _
  have H0 := Lib.hid hb0
  clear hb0
  cases h : rightB r c with
  | false =>
    unfold markV
    go_enter Tryd.func17, Tryd.ntmps17
    go_wp2_with fail
    refine (rright_any r c fr fc _).mono ?_
    rw [h]
    rintro e w1 ⟨rfl, hb1⟩
    go_wp2_with fail
    go_ret
    exact ⟨rfl, H0.out.trans (hb1.mono H0.out.size)⟩
  | true =>
    have g1 : 0 ≤ r ∧ r ≤ 9999998 ∧ 0 ≤ c ∧ c ≤ 18277 := by simpa [rightB] using h
    obtain ⟨a1, a2, a3, a4⟩ := g1
    have l2 := letL_len c
    have l4 := Lib.itoa_length_le (r + 1) (by omega) (by omega)
    have hl := letters_right c a3 a4
    have HL := Lib.hid hl
    clear hl
    unfold markV
    cases fr <;> cases fc
    all_goals
      go_enter Tryd.func17, Tryd.ntmps17
      go_wp2_with fail
      refine (rright_any r c _ _ _).mono ?_
      rw [h]
      rintro e w1 ⟨rfl, hb1⟩
      obtain ⟨c0, c1, c2, c3, f0, f1, f2, f3, hz⟩ := four hb1
      have hb2 := H0.out.trans (hb1.mono H0.out.size)
      clear hb1
      go_wp2_with fail
      refine (HL.out _).mono ?_
      rintro e w' ⟨rfl, rfl⟩
      go_wp2_with fail
      refine (rnum_any _ (by omega) (by omega) _).mono ?_
      rintro e w' ⟨rfl, rfl⟩
      go_wp2_with fail
      go_ret
      refine ⟨ret_str ?_, hb2⟩
      simp only [str_app]
      simp [dol]

/-- how many letters stand ahead -/
def lets : List UInt8 → Nat
  | [] => 0
  | c :: t => if (capN c.toNat).isSome then lets t + 1 else 0
theorem lets_le : ∀ l : List UInt8, lets l ≤ l.length
  | [] => Nat.le_refl _
  | c :: t => by unfold lets; split <;> simp [lets_le t]
theorem lets_drop : ∀ (l : List UInt8) (p : Nat), p ≤ lets l → lets (l.drop p) = lets l - p
  | l, 0, _ => by simp
  | [], p + 1, h => by simp [lets] at h
  | c :: t, p + 1, h => by
    rw [List.drop_succ_cons]
    by_cases hc : (capN c.toNat).isSome = true
    · have e : lets (c :: t) = lets t + 1 := by rw [lets, if_pos hc]
      rw [e] at h ⊢
      rw [lets_drop t p (by omega)]; omega
    · have e : lets (c :: t) = 0 := by rw [lets, if_neg hc]
      rw [e] at h; omega

/-- what stands behind a '$', if one stands ahead -/
def opened (l t : List UInt8) (b : Bool) : Prop := (b = true ∧ l = 36 :: t) ∨ (b = false ∧ l = t ∧ t.head? ≠ some 36)
theorem opened_of (l : List UInt8) : opened l (Lib.trimPrefix l [36]) (Lib.hasPrefix l [36]) := by
  cases l with
  | nil => exact .inr ⟨rfl, rfl, by simp [Lib.trimPrefix, Lib.hasPrefix]⟩
  | cons c t =>
    by_cases h : c = 36
    · subst h
      exact .inl ⟨by simp [Lib.hasPrefix], by simp [Lib.trimPrefix, Lib.hasPrefix]⟩
    · have e : Lib.hasPrefix (c :: t) [36] = false := by simp [Lib.hasPrefix, List.isPrefixOf]; exact fun h' => h h'.symm
      refine .inr ⟨e, by simp [Lib.trimPrefix, e], ?_⟩
      simp [Lib.trimPrefix, e, h]

theorem lets_at (l : List UInt8) (p : Nat) (hp : p < l.length) (h : p ≤ lets l) : (capN (l[p]).toNat).isSome = decide (p < lets l) := by
  have e := lets_drop l p h
  rw [List.drop_eq_getElem_cons hp] at e
  by_cases hc : (capN (l[p]).toNat).isSome = true
  · rw [lets, if_pos hc] at e
    rw [hc]; symm; exact decide_eq_true (by omega)
  · rw [lets, if_neg hc] at e
    rw [Bool.not_eq_true] at hc
    rw [hc]; symm; exact decide_eq_false (by omega)

/-- the mark that a text tells, as the document reads it -/
def rparseL (l : List UInt8) : Option (Int × Int × Bool × Bool) :=
  match columnL ((Lib.trimPrefix l [36]).take (lets (Lib.trimPrefix l [36]))) with
  | none => none
  | some c => match numL (Lib.trimPrefix ((Lib.trimPrefix l [36]).drop (lets (Lib.trimPrefix l [36]))) [36]) with
    | none => none
    | some m => some (m - 1, c, Lib.hasPrefix ((Lib.trimPrefix l [36]).drop (lets (Lib.trimPrefix l [36]))) [36], Lib.hasPrefix l [36])

/-- a mark out of its parts -/
def comb (o q : Option Int) (b' b : Bool) : Option (Int × Int × Bool × Bool) := match o with | none => none | some c => match q with | none => none | some m => some (m - 1, c, b', b)

theorem ext_one (c : UInt8) (t : List UInt8) : (⟨(c :: t).toArray⟩ : ByteArray).extract 1 (t.length + 1) = ⟨t.toArray⟩ := by
  apply ByteArray.ext
  apply Array.toList_inj.1
  rw [Lib.extract_data]
  simp
theorem ext_one' (c : UInt8) (u : ByteArray) : (⟨(c :: u.data.toList).toArray⟩ : ByteArray).extract 1 (u.size + 1) = u := by
  have := ext_one c u.data.toList
  rw [size_list] at this
  rw [this]
theorem take_u (u : ByteArray) (k : Nat) : (u.extract 0 k).data.toList = u.data.toList.take k := by
  rw [Lib.extract_data]; simp
theorem drop_u (u : ByteArray) (k : Nat) (l : List UInt8) (h : u.data.toList.drop k = l) : u.extract k u.size = ⟨l.toArray⟩ := by
  apply ByteArray.ext
  apply Array.toList_inj.1
  rw [Lib.extract_data, h]
  apply List.take_of_length_le
  rw [← h, List.length_drop, size_list]; omega
theorem ext_lit (c : UInt8) (t : List UInt8) : (⟨(c :: t).toArray⟩ : ByteArray).extract 1 (t.length + 1) = ⟨t.toArray⟩ := ext_one c t
theorem mk_list (u : ByteArray) : (⟨u.data.toList.toArray⟩ : ByteArray) = u := by cases u; simp
theorem get_list (u : ByteArray) (p : Nat) (h : p < u.size) : u.data.toList[p]'(by rw [size_list]; exact h) = u[p] := by
  simp; rfl

set_option maxHeartbeats 3200000 in
set_option maxRecDepth 100000 in
theorem rparse_t (u : ByteArray) (w : World) (hlen : u.size ≤ 1000) (v : List UInt8) (b' : Bool) (hv : opened (u.data.toList.drop (lets u.data.toList)) v b') (o : Option Int) (ho : columnL (u.data.toList.take (lets u.data.toList)) = o) (q : Option Int) (hq : numL v = q) :
    Calls Tryd.prog 16 #[.string ⟨(36 :: u.data.toList).toArray⟩] w fun e w' => e = .returned (parseR (comb o q b' true)) ∧ Below w.heap.size w w' := by
  have HV := Lib.hid hv
  have HO := Lib.hid ho
  have HQ := Lib.hid hq
  clear hv ho hq
  have hz : u.data.toList.length = u.size := size_list u
  have hsz : u.data.toList.length ≤ 1000 := by omega
  have HZ := Lib.hid hz
  clear hz
  have e36 : ∀ h, ((((⟨(36 :: u.data.toList).toArray⟩ : ByteArray)[0]'h).toNat : Int) == 36) = true := fun _ => rfl
  go_enter Tryd.func16, Tryd.ntmps16
  go_wp2_with fail
  rw [ext_one']
  go_loop [5] (fun i => ∃ p : Nat, i = .int .i64 p ∧ p ≤ lets u.data.toList ∧ p ≤ u.size) (fun i => u.size - (intOf i).toNat)
  case atStart => exact ⟨0, rfl, Nat.zero_le _, Nat.zero_le _⟩
  case round =>
    obtain ⟨p, rfl, hp, hpu⟩ := hrel
    by_cases hlt : p < u.size
    · have hat := lets_at u.data.toList p (by rw [HZ.out]; exact hlt) hp
      rw [get_list u p hlt] at hat
      have HA := Lib.hid hat
      clear hat
      have HP := Lib.hid hp
      clear hp
      go_wp2_with fail
      refine (capital_any _ (u[p]).toNat_lt _).mono ?_
      by_cases hc : p < lets u.data.toList
      · obtain ⟨d, hd⟩ := Option.isSome_iff_exists.1 (HA.out.trans (decide_eq_true hc))
        obtain ⟨r1, r2⟩ := capN_range _ _ hd
        rw [hd, Option.getD_some]
        clear hd
        have HC := Lib.hid hc
        clear hc
        rintro e w' ⟨rfl, rfl⟩
        go_wp2_with fail
        go_round
        case rel => exact ⟨p + 1, by go_num, HC.out, by omega⟩
        case measure => simp [intOf]; omega
      · have hn : capN (u[p]).toNat = none := by
          have := HA.out.trans (decide_eq_false hc)
          cases h : capN (u[p]).toNat with
          | none => rfl
          | some d => rw [h] at this; cases this
        rw [hn, Option.getD_none]
        clear hn
        have hk : p = lets u.data.toList := by have := HP.out; omega
        have HO' := Lib.hid (show columnL (u.data.toList.take p) = o by rw [hk]; exact HO.out)
        have HV' := Lib.hid (show opened (u.data.toList.drop p) v b' by rw [hk]; exact HV.out)
        clear hk hc
        rintro e w' ⟨rfl, rfl⟩
        go_wp2_with fail
        refine (rcolumn_any _ _).mono ?_
        rw [take_u, HO'.out, digR_eq]
        rintro e w' ⟨rfl, rfl⟩
        go_upto_region 10 with (fail)
        rcases HV'.out with ⟨hb', hd⟩ | ⟨hb', hd, hh⟩
        · rw [drop_u u _ _ hd]
          subst hb'
          have e37 : ∀ h, ((((⟨(36 :: v).toArray⟩ : ByteArray)[0]'h).toNat : Int) == 36) = true := fun _ => rfl
          have hvl : v.length ≤ 1000 := by
            have := congrArg List.length hd
            rw [List.length_drop, List.length_cons] at this
            omega
          clear hd
          go_wp2_with fail
          refine (rcount_any _ _).mono ?_
          rw [ext_lit, show (⟨v.toArray⟩ : ByteArray).data.toList = v from rfl, HQ.out]
          rintro e w' ⟨rfl, rfl⟩
          cases o with
          | none =>
            go_wp2_with fail
            refine bodyPost_ret (v := .tuple #[.agg #[.int .i64 0, .int .i64 0, .bool false, .bool false], .bool false]) (by simp [results, Tryd.results16, go_sem]) rfl ⟨rfl, ?_⟩
            exact ((Below.refl _ _).alloc (Nat.le_refl _) _).alloc (by simp) _
          | some c0 =>
            cases q with
            | none =>
              go_wp2_with fail
              refine bodyPost_ret (v := .tuple #[.agg #[.int .i64 0, .int .i64 0, .bool false, .bool false], .bool false]) (by simp [results, Tryd.results16, go_sem]) rfl ⟨rfl, ?_⟩
              exact ((Below.refl _ _).alloc (Nat.le_refl _) _).alloc (by simp) _
            | some m =>
              have hm := numL_bound _ _ HQ.out
              have hm0 : (m == 0) = false := by rw [beq_eq_false_iff_ne]; omega
              obtain ⟨hm1, hm2⟩ := hm
              go_wp2_with fail
              refine bodyPost_ret (v := .tuple #[.agg #[.int .i64 (m - 1), .int .i64 c0, .bool true, .bool true], .bool true]) (by simp [results, Tryd.results16, go_sem]) rfl ⟨rfl, ?_⟩
              exact ((Below.refl _ _).alloc (Nat.le_refl _) _).alloc (by simp) _
        · rw [drop_u u _ _ hd]
          subst hb'
          have hvl : v.length ≤ 1000 := by
            have := congrArg List.length hd
            rw [List.length_drop] at this
            omega
          clear hd
          cases v with
          | nil =>
            go_wp2_with fail
            refine (rcount_any _ _).mono ?_
            rw [show (⟨#[]⟩ : ByteArray).data.toList = [] from rfl, HQ.out]
            rintro e w' ⟨rfl, rfl⟩
            cases o with
            | none =>
              go_wp2_with fail
              refine bodyPost_ret (v := .tuple #[.agg #[.int .i64 0, .int .i64 0, .bool false, .bool false], .bool false]) (by simp [results, Tryd.results16, go_sem]) rfl ⟨rfl, ?_⟩
              exact ((Below.refl _ _).alloc (Nat.le_refl _) _).alloc (by simp) _
            | some c0 =>
              cases q with
              | none =>
                go_wp2_with fail
                refine bodyPost_ret (v := .tuple #[.agg #[.int .i64 0, .int .i64 0, .bool false, .bool false], .bool false]) (by simp [results, Tryd.results16, go_sem]) rfl ⟨rfl, ?_⟩
                exact ((Below.refl _ _).alloc (Nat.le_refl _) _).alloc (by simp) _
              | some m =>
                have hm := numL_bound _ _ HQ.out
                have hm0 : (m == 0) = false := by rw [beq_eq_false_iff_ne]; omega
                obtain ⟨hm1, hm2⟩ := hm
                go_wp2_with fail
                refine bodyPost_ret (v := .tuple #[.agg #[.int .i64 (m - 1), .int .i64 c0, .bool false, .bool true], .bool true]) (by simp [results, Tryd.results16, go_sem]) rfl ⟨rfl, ?_⟩
                exact ((Below.refl _ _).alloc (Nat.le_refl _) _).alloc (by simp) _
          | cons c v =>
            have hne : c ≠ 36 := fun e => hh (by rw [e]; rfl)
            have e37 : ∀ h, ((((⟨(c :: v).toArray⟩ : ByteArray)[0]'h).toNat : Int) == 36) = false := fun _ => by
              rw [beq_eq_false_iff_ne]
              intro e
              exact hne (UInt8.toNat_inj.1 (show c.toNat = 36 by
                have : (c.toNat : Int) = 36 := e
                omega))
            clear hh
            go_wp2_with fail
            refine (rcount_any _ _).mono ?_
            rw [show (⟨(c :: v).toArray⟩ : ByteArray).data.toList = c :: v from rfl, HQ.out]
            rintro e w' ⟨rfl, rfl⟩
            cases o with
            | none =>
              go_wp2_with fail
              refine bodyPost_ret (v := .tuple #[.agg #[.int .i64 0, .int .i64 0, .bool false, .bool false], .bool false]) (by simp [results, Tryd.results16, go_sem]) rfl ⟨rfl, ?_⟩
              exact ((Below.refl _ _).alloc (Nat.le_refl _) _).alloc (by simp) _
            | some c0 =>
              cases q with
              | none =>
                go_wp2_with fail
                refine bodyPost_ret (v := .tuple #[.agg #[.int .i64 0, .int .i64 0, .bool false, .bool false], .bool false]) (by simp [results, Tryd.results16, go_sem]) rfl ⟨rfl, ?_⟩
                exact ((Below.refl _ _).alloc (Nat.le_refl _) _).alloc (by simp) _
              | some m =>
                have hm := numL_bound _ _ HQ.out
                have hm0 : (m == 0) = false := by rw [beq_eq_false_iff_ne]; omega
                obtain ⟨hm1, hm2⟩ := hm
                go_wp2_with fail
                refine bodyPost_ret (v := .tuple #[.agg #[.int .i64 (m - 1), .int .i64 c0, .bool false, .bool true], .bool true]) (by simp [results, Tryd.results16, go_sem]) rfl ⟨rfl, ?_⟩
                exact ((Below.refl _ _).alloc (Nat.le_refl _) _).alloc (by simp) _
    · have hk : p = lets u.data.toList := by
        have := lets_le u.data.toList
        rw [size_list] at this
        omega
      have HO' := Lib.hid (show columnL (u.data.toList.take p) = o by rw [hk]; exact HO.out)
      have HV' := Lib.hid (show opened (u.data.toList.drop p) v b' by rw [hk]; exact HV.out)
      clear hk hp
      go_wp2_with fail
      refine (rcolumn_any _ _).mono ?_
      rw [take_u, HO'.out, digR_eq]
      rintro e w' ⟨rfl, rfl⟩
      go_upto_region 10 with (fail)
      rcases HV'.out with ⟨hb', hd⟩ | ⟨hb', hd, hh⟩
      · rw [drop_u u _ _ hd]
        subst hb'
        have e37 : ∀ h, ((((⟨(36 :: v).toArray⟩ : ByteArray)[0]'h).toNat : Int) == 36) = true := fun _ => rfl
        have hvl : v.length ≤ 1000 := by
          have := congrArg List.length hd
          rw [List.length_drop, List.length_cons] at this
          omega
        clear hd
        go_wp2_with fail
        refine (rcount_any _ _).mono ?_
        rw [ext_lit, show (⟨v.toArray⟩ : ByteArray).data.toList = v from rfl, HQ.out]
        rintro e w' ⟨rfl, rfl⟩
        cases o with
        | none =>
          go_wp2_with fail
          refine bodyPost_ret (v := .tuple #[.agg #[.int .i64 0, .int .i64 0, .bool false, .bool false], .bool false]) (by simp [results, Tryd.results16, go_sem]) rfl ⟨rfl, ?_⟩
          exact ((Below.refl _ _).alloc (Nat.le_refl _) _).alloc (by simp) _
        | some c0 =>
          cases q with
          | none =>
            go_wp2_with fail
            refine bodyPost_ret (v := .tuple #[.agg #[.int .i64 0, .int .i64 0, .bool false, .bool false], .bool false]) (by simp [results, Tryd.results16, go_sem]) rfl ⟨rfl, ?_⟩
            exact ((Below.refl _ _).alloc (Nat.le_refl _) _).alloc (by simp) _
          | some m =>
            have hm := numL_bound _ _ HQ.out
            have hm0 : (m == 0) = false := by rw [beq_eq_false_iff_ne]; omega
            obtain ⟨hm1, hm2⟩ := hm
            go_wp2_with fail
            refine bodyPost_ret (v := .tuple #[.agg #[.int .i64 (m - 1), .int .i64 c0, .bool true, .bool true], .bool true]) (by simp [results, Tryd.results16, go_sem]) rfl ⟨rfl, ?_⟩
            exact ((Below.refl _ _).alloc (Nat.le_refl _) _).alloc (by simp) _
      · rw [drop_u u _ _ hd]
        subst hb'
        have hvl : v.length ≤ 1000 := by
          have := congrArg List.length hd
          rw [List.length_drop] at this
          omega
        clear hd
        cases v with
        | nil =>
          go_wp2_with fail
          refine (rcount_any _ _).mono ?_
          rw [show (⟨#[]⟩ : ByteArray).data.toList = [] from rfl, HQ.out]
          rintro e w' ⟨rfl, rfl⟩
          cases o with
          | none =>
            go_wp2_with fail
            refine bodyPost_ret (v := .tuple #[.agg #[.int .i64 0, .int .i64 0, .bool false, .bool false], .bool false]) (by simp [results, Tryd.results16, go_sem]) rfl ⟨rfl, ?_⟩
            exact ((Below.refl _ _).alloc (Nat.le_refl _) _).alloc (by simp) _
          | some c0 =>
            cases q with
            | none =>
              go_wp2_with fail
              refine bodyPost_ret (v := .tuple #[.agg #[.int .i64 0, .int .i64 0, .bool false, .bool false], .bool false]) (by simp [results, Tryd.results16, go_sem]) rfl ⟨rfl, ?_⟩
              exact ((Below.refl _ _).alloc (Nat.le_refl _) _).alloc (by simp) _
            | some m =>
              have hm := numL_bound _ _ HQ.out
              have hm0 : (m == 0) = false := by rw [beq_eq_false_iff_ne]; omega
              obtain ⟨hm1, hm2⟩ := hm
              go_wp2_with fail
              refine bodyPost_ret (v := .tuple #[.agg #[.int .i64 (m - 1), .int .i64 c0, .bool false, .bool true], .bool true]) (by simp [results, Tryd.results16, go_sem]) rfl ⟨rfl, ?_⟩
              exact ((Below.refl _ _).alloc (Nat.le_refl _) _).alloc (by simp) _
        | cons c v =>
          have hne : c ≠ 36 := fun e => hh (by rw [e]; rfl)
          have e37 : ∀ h, ((((⟨(c :: v).toArray⟩ : ByteArray)[0]'h).toNat : Int) == 36) = false := fun _ => by
            rw [beq_eq_false_iff_ne]
            intro e
            exact hne (UInt8.toNat_inj.1 (show c.toNat = 36 by
              have : (c.toNat : Int) = 36 := e
              omega))
          clear hh
          go_wp2_with fail
          refine (rcount_any _ _).mono ?_
          rw [show (⟨(c :: v).toArray⟩ : ByteArray).data.toList = c :: v from rfl, HQ.out]
          rintro e w' ⟨rfl, rfl⟩
          cases o with
          | none =>
            go_wp2_with fail
            refine bodyPost_ret (v := .tuple #[.agg #[.int .i64 0, .int .i64 0, .bool false, .bool false], .bool false]) (by simp [results, Tryd.results16, go_sem]) rfl ⟨rfl, ?_⟩
            exact ((Below.refl _ _).alloc (Nat.le_refl _) _).alloc (by simp) _
          | some c0 =>
            cases q with
            | none =>
              go_wp2_with fail
              refine bodyPost_ret (v := .tuple #[.agg #[.int .i64 0, .int .i64 0, .bool false, .bool false], .bool false]) (by simp [results, Tryd.results16, go_sem]) rfl ⟨rfl, ?_⟩
              exact ((Below.refl _ _).alloc (Nat.le_refl _) _).alloc (by simp) _
            | some m =>
              have hm := numL_bound _ _ HQ.out
              have hm0 : (m == 0) = false := by rw [beq_eq_false_iff_ne]; omega
              obtain ⟨hm1, hm2⟩ := hm
              go_wp2_with fail
              refine bodyPost_ret (v := .tuple #[.agg #[.int .i64 (m - 1), .int .i64 c0, .bool false, .bool true], .bool true]) (by simp [results, Tryd.results16, go_sem]) rfl ⟨rfl, ?_⟩
              exact ((Below.refl _ _).alloc (Nat.le_refl _) _).alloc (by simp) _

set_option maxHeartbeats 3200000 in
set_option maxRecDepth 100000 in
theorem rparse_f (u : ByteArray) (w : World) (hu0 : 0 < u.size) (hu1 : (u[0]).toNat ≠ 36) (hlen : u.size ≤ 1000) (v : List UInt8) (b' : Bool) (hv : opened (u.data.toList.drop (lets u.data.toList)) v b') (o : Option Int) (ho : columnL (u.data.toList.take (lets u.data.toList)) = o) (q : Option Int) (hq : numL v = q) :
    Calls Tryd.prog 16 #[.string u] w fun e w' => e = .returned (parseR (comb o q b' false)) ∧ Below w.heap.size w w' := by
  have HV := Lib.hid hv
  have HO := Lib.hid ho
  have HQ := Lib.hid hq
  clear hv ho hq
  have hz : u.data.toList.length = u.size := size_list u
  have hsz : u.data.toList.length ≤ 1000 := by omega
  have HZ := Lib.hid hz
  clear hz
  have e36 : (((u[0]).toNat : Int) == 36) = false := by rw [beq_eq_false_iff_ne]; omega
  clear hu1
  go_enter Tryd.func16, Tryd.ntmps16
  go_wp2_with fail
  go_loop [5] (fun i => ∃ p : Nat, i = .int .i64 p ∧ p ≤ lets u.data.toList ∧ p ≤ u.size) (fun i => u.size - (intOf i).toNat)
  case atStart => exact ⟨0, rfl, Nat.zero_le _, Nat.zero_le _⟩
  case round =>
    obtain ⟨p, rfl, hp, hpu⟩ := hrel
    by_cases hlt : p < u.size
    · have hat := lets_at u.data.toList p (by rw [HZ.out]; exact hlt) hp
      rw [get_list u p hlt] at hat
      have HA := Lib.hid hat
      clear hat
      have HP := Lib.hid hp
      clear hp
      go_wp2_with fail
      refine (capital_any _ (u[p]).toNat_lt _).mono ?_
      by_cases hc : p < lets u.data.toList
      · obtain ⟨d, hd⟩ := Option.isSome_iff_exists.1 (HA.out.trans (decide_eq_true hc))
        obtain ⟨r1, r2⟩ := capN_range _ _ hd
        rw [hd, Option.getD_some]
        clear hd
        have HC := Lib.hid hc
        clear hc
        rintro e w' ⟨rfl, rfl⟩
        go_wp2_with fail
        go_round
        case rel => exact ⟨p + 1, by go_num, HC.out, by omega⟩
        case measure => simp [intOf]; omega
      · have hn : capN (u[p]).toNat = none := by
          have := HA.out.trans (decide_eq_false hc)
          cases h : capN (u[p]).toNat with
          | none => rfl
          | some d => rw [h] at this; cases this
        rw [hn, Option.getD_none]
        clear hn
        have hk : p = lets u.data.toList := by have := HP.out; omega
        have HO' := Lib.hid (show columnL (u.data.toList.take p) = o by rw [hk]; exact HO.out)
        have HV' := Lib.hid (show opened (u.data.toList.drop p) v b' by rw [hk]; exact HV.out)
        clear hk hc
        rintro e w' ⟨rfl, rfl⟩
        go_wp2_with fail
        refine (rcolumn_any _ _).mono ?_
        rw [take_u, HO'.out, digR_eq]
        rintro e w' ⟨rfl, rfl⟩
        go_upto_region 10 with (fail)
        rcases HV'.out with ⟨hb', hd⟩ | ⟨hb', hd, hh⟩
        · rw [drop_u u _ _ hd]
          subst hb'
          have e37 : ∀ h, ((((⟨(36 :: v).toArray⟩ : ByteArray)[0]'h).toNat : Int) == 36) = true := fun _ => rfl
          have hvl : v.length ≤ 1000 := by
            have := congrArg List.length hd
            rw [List.length_drop, List.length_cons] at this
            omega
          clear hd
          go_wp2_with fail
          refine (rcount_any _ _).mono ?_
          rw [ext_lit, show (⟨v.toArray⟩ : ByteArray).data.toList = v from rfl, HQ.out]
          rintro e w' ⟨rfl, rfl⟩
          cases o with
          | none =>
            go_wp2_with fail
            refine bodyPost_ret (v := .tuple #[.agg #[.int .i64 0, .int .i64 0, .bool false, .bool false], .bool false]) (by simp [results, Tryd.results16, go_sem]) rfl ⟨rfl, ?_⟩
            exact ((Below.refl _ _).alloc (Nat.le_refl _) _).alloc (by simp) _
          | some c0 =>
            cases q with
            | none =>
              go_wp2_with fail
              refine bodyPost_ret (v := .tuple #[.agg #[.int .i64 0, .int .i64 0, .bool false, .bool false], .bool false]) (by simp [results, Tryd.results16, go_sem]) rfl ⟨rfl, ?_⟩
              exact ((Below.refl _ _).alloc (Nat.le_refl _) _).alloc (by simp) _
            | some m =>
              have hm := numL_bound _ _ HQ.out
              have hm0 : (m == 0) = false := by rw [beq_eq_false_iff_ne]; omega
              obtain ⟨hm1, hm2⟩ := hm
              go_wp2_with fail
              refine bodyPost_ret (v := .tuple #[.agg #[.int .i64 (m - 1), .int .i64 c0, .bool true, .bool false], .bool true]) (by simp [results, Tryd.results16, go_sem]) rfl ⟨rfl, ?_⟩
              exact ((Below.refl _ _).alloc (Nat.le_refl _) _).alloc (by simp) _
        · rw [drop_u u _ _ hd]
          subst hb'
          have hvl : v.length ≤ 1000 := by
            have := congrArg List.length hd
            rw [List.length_drop] at this
            omega
          clear hd
          cases v with
          | nil =>
            go_wp2_with fail
            refine (rcount_any _ _).mono ?_
            rw [show (⟨#[]⟩ : ByteArray).data.toList = [] from rfl, HQ.out]
            rintro e w' ⟨rfl, rfl⟩
            cases o with
            | none =>
              go_wp2_with fail
              refine bodyPost_ret (v := .tuple #[.agg #[.int .i64 0, .int .i64 0, .bool false, .bool false], .bool false]) (by simp [results, Tryd.results16, go_sem]) rfl ⟨rfl, ?_⟩
              exact ((Below.refl _ _).alloc (Nat.le_refl _) _).alloc (by simp) _
            | some c0 =>
              cases q with
              | none =>
                go_wp2_with fail
                refine bodyPost_ret (v := .tuple #[.agg #[.int .i64 0, .int .i64 0, .bool false, .bool false], .bool false]) (by simp [results, Tryd.results16, go_sem]) rfl ⟨rfl, ?_⟩
                exact ((Below.refl _ _).alloc (Nat.le_refl _) _).alloc (by simp) _
              | some m =>
                have hm := numL_bound _ _ HQ.out
                have hm0 : (m == 0) = false := by rw [beq_eq_false_iff_ne]; omega
                obtain ⟨hm1, hm2⟩ := hm
                go_wp2_with fail
                refine bodyPost_ret (v := .tuple #[.agg #[.int .i64 (m - 1), .int .i64 c0, .bool false, .bool false], .bool true]) (by simp [results, Tryd.results16, go_sem]) rfl ⟨rfl, ?_⟩
                exact ((Below.refl _ _).alloc (Nat.le_refl _) _).alloc (by simp) _
          | cons c v =>
            have hne : c ≠ 36 := fun e => hh (by rw [e]; rfl)
            have e37 : ∀ h, ((((⟨(c :: v).toArray⟩ : ByteArray)[0]'h).toNat : Int) == 36) = false := fun _ => by
              rw [beq_eq_false_iff_ne]
              intro e
              exact hne (UInt8.toNat_inj.1 (show c.toNat = 36 by
                have : (c.toNat : Int) = 36 := e
                omega))
            clear hh
            go_wp2_with fail
            refine (rcount_any _ _).mono ?_
            rw [show (⟨(c :: v).toArray⟩ : ByteArray).data.toList = c :: v from rfl, HQ.out]
            rintro e w' ⟨rfl, rfl⟩
            cases o with
            | none =>
              go_wp2_with fail
              refine bodyPost_ret (v := .tuple #[.agg #[.int .i64 0, .int .i64 0, .bool false, .bool false], .bool false]) (by simp [results, Tryd.results16, go_sem]) rfl ⟨rfl, ?_⟩
              exact ((Below.refl _ _).alloc (Nat.le_refl _) _).alloc (by simp) _
            | some c0 =>
              cases q with
              | none =>
                go_wp2_with fail
                refine bodyPost_ret (v := .tuple #[.agg #[.int .i64 0, .int .i64 0, .bool false, .bool false], .bool false]) (by simp [results, Tryd.results16, go_sem]) rfl ⟨rfl, ?_⟩
                exact ((Below.refl _ _).alloc (Nat.le_refl _) _).alloc (by simp) _
              | some m =>
                have hm := numL_bound _ _ HQ.out
                have hm0 : (m == 0) = false := by rw [beq_eq_false_iff_ne]; omega
                obtain ⟨hm1, hm2⟩ := hm
                go_wp2_with fail
                refine bodyPost_ret (v := .tuple #[.agg #[.int .i64 (m - 1), .int .i64 c0, .bool false, .bool false], .bool true]) (by simp [results, Tryd.results16, go_sem]) rfl ⟨rfl, ?_⟩
                exact ((Below.refl _ _).alloc (Nat.le_refl _) _).alloc (by simp) _
    · have hk : p = lets u.data.toList := by
        have := lets_le u.data.toList
        rw [size_list] at this
        omega
      have HO' := Lib.hid (show columnL (u.data.toList.take p) = o by rw [hk]; exact HO.out)
      have HV' := Lib.hid (show opened (u.data.toList.drop p) v b' by rw [hk]; exact HV.out)
      clear hk hp
      go_wp2_with fail
      refine (rcolumn_any _ _).mono ?_
      rw [take_u, HO'.out, digR_eq]
      rintro e w' ⟨rfl, rfl⟩
      go_upto_region 10 with (fail)
      rcases HV'.out with ⟨hb', hd⟩ | ⟨hb', hd, hh⟩
      · rw [drop_u u _ _ hd]
        subst hb'
        have e37 : ∀ h, ((((⟨(36 :: v).toArray⟩ : ByteArray)[0]'h).toNat : Int) == 36) = true := fun _ => rfl
        have hvl : v.length ≤ 1000 := by
          have := congrArg List.length hd
          rw [List.length_drop, List.length_cons] at this
          omega
        clear hd
        go_wp2_with fail
        refine (rcount_any _ _).mono ?_
        rw [ext_lit, show (⟨v.toArray⟩ : ByteArray).data.toList = v from rfl, HQ.out]
        rintro e w' ⟨rfl, rfl⟩
        cases o with
        | none =>
          go_wp2_with fail
          refine bodyPost_ret (v := .tuple #[.agg #[.int .i64 0, .int .i64 0, .bool false, .bool false], .bool false]) (by simp [results, Tryd.results16, go_sem]) rfl ⟨rfl, ?_⟩
          exact ((Below.refl _ _).alloc (Nat.le_refl _) _).alloc (by simp) _
        | some c0 =>
          cases q with
          | none =>
            go_wp2_with fail
            refine bodyPost_ret (v := .tuple #[.agg #[.int .i64 0, .int .i64 0, .bool false, .bool false], .bool false]) (by simp [results, Tryd.results16, go_sem]) rfl ⟨rfl, ?_⟩
            exact ((Below.refl _ _).alloc (Nat.le_refl _) _).alloc (by simp) _
          | some m =>
            have hm := numL_bound _ _ HQ.out
            have hm0 : (m == 0) = false := by rw [beq_eq_false_iff_ne]; omega
            obtain ⟨hm1, hm2⟩ := hm
            go_wp2_with fail
            refine bodyPost_ret (v := .tuple #[.agg #[.int .i64 (m - 1), .int .i64 c0, .bool true, .bool false], .bool true]) (by simp [results, Tryd.results16, go_sem]) rfl ⟨rfl, ?_⟩
            exact ((Below.refl _ _).alloc (Nat.le_refl _) _).alloc (by simp) _
      · rw [drop_u u _ _ hd]
        subst hb'
        have hvl : v.length ≤ 1000 := by
          have := congrArg List.length hd
          rw [List.length_drop] at this
          omega
        clear hd
        cases v with
        | nil =>
          go_wp2_with fail
          refine (rcount_any _ _).mono ?_
          rw [show (⟨#[]⟩ : ByteArray).data.toList = [] from rfl, HQ.out]
          rintro e w' ⟨rfl, rfl⟩
          cases o with
          | none =>
            go_wp2_with fail
            refine bodyPost_ret (v := .tuple #[.agg #[.int .i64 0, .int .i64 0, .bool false, .bool false], .bool false]) (by simp [results, Tryd.results16, go_sem]) rfl ⟨rfl, ?_⟩
            exact ((Below.refl _ _).alloc (Nat.le_refl _) _).alloc (by simp) _
          | some c0 =>
            cases q with
            | none =>
              go_wp2_with fail
              refine bodyPost_ret (v := .tuple #[.agg #[.int .i64 0, .int .i64 0, .bool false, .bool false], .bool false]) (by simp [results, Tryd.results16, go_sem]) rfl ⟨rfl, ?_⟩
              exact ((Below.refl _ _).alloc (Nat.le_refl _) _).alloc (by simp) _
            | some m =>
              have hm := numL_bound _ _ HQ.out
              have hm0 : (m == 0) = false := by rw [beq_eq_false_iff_ne]; omega
              obtain ⟨hm1, hm2⟩ := hm
              go_wp2_with fail
              refine bodyPost_ret (v := .tuple #[.agg #[.int .i64 (m - 1), .int .i64 c0, .bool false, .bool false], .bool true]) (by simp [results, Tryd.results16, go_sem]) rfl ⟨rfl, ?_⟩
              exact ((Below.refl _ _).alloc (Nat.le_refl _) _).alloc (by simp) _
        | cons c v =>
          have hne : c ≠ 36 := fun e => hh (by rw [e]; rfl)
          have e37 : ∀ h, ((((⟨(c :: v).toArray⟩ : ByteArray)[0]'h).toNat : Int) == 36) = false := fun _ => by
            rw [beq_eq_false_iff_ne]
            intro e
            exact hne (UInt8.toNat_inj.1 (show c.toNat = 36 by
              have : (c.toNat : Int) = 36 := e
              omega))
          clear hh
          go_wp2_with fail
          refine (rcount_any _ _).mono ?_
          rw [show (⟨(c :: v).toArray⟩ : ByteArray).data.toList = c :: v from rfl, HQ.out]
          rintro e w' ⟨rfl, rfl⟩
          cases o with
          | none =>
            go_wp2_with fail
            refine bodyPost_ret (v := .tuple #[.agg #[.int .i64 0, .int .i64 0, .bool false, .bool false], .bool false]) (by simp [results, Tryd.results16, go_sem]) rfl ⟨rfl, ?_⟩
            exact ((Below.refl _ _).alloc (Nat.le_refl _) _).alloc (by simp) _
          | some c0 =>
            cases q with
            | none =>
              go_wp2_with fail
              refine bodyPost_ret (v := .tuple #[.agg #[.int .i64 0, .int .i64 0, .bool false, .bool false], .bool false]) (by simp [results, Tryd.results16, go_sem]) rfl ⟨rfl, ?_⟩
              exact ((Below.refl _ _).alloc (Nat.le_refl _) _).alloc (by simp) _
            | some m =>
              have hm := numL_bound _ _ HQ.out
              have hm0 : (m == 0) = false := by rw [beq_eq_false_iff_ne]; omega
              obtain ⟨hm1, hm2⟩ := hm
              go_wp2_with fail
              refine bodyPost_ret (v := .tuple #[.agg #[.int .i64 (m - 1), .int .i64 c0, .bool false, .bool false], .bool true]) (by simp [results, Tryd.results16, go_sem]) rfl ⟨rfl, ?_⟩
              exact ((Below.refl _ _).alloc (Nat.le_refl _) _).alloc (by simp) _

theorem rparse_none (w : World) : Calls Tryd.prog 16 #[.string ⟨#[]⟩] w fun e w' => e = .returned (parseR none) ∧ Below w.heap.size w w' := by
  go_enter Tryd.func16, Tryd.ntmps16
  go_wp2_with fail
  refine wp_loop_rounds 1 ?_
  rw [rounds_succ]
  go_wp2_with fail
  refine (rcolumn_any _ _).mono ?_
  rw [show columnL (ByteArray.empty).data.toList = none from rfl]
  unfold digR
  rintro e w' ⟨rfl, rfl⟩
  go_wp2_with fail
  refine (rcount_any _ _).mono ?_
  rw [show numL _ = none from rfl]
  rintro e w' ⟨rfl, rfl⟩
  go_wp2_with fail
  refine bodyPost_ret (v := .tuple #[.agg #[.int .i64 0, .int .i64 0, .bool false, .bool false], .bool false]) (by simp [results, Tryd.results16, go_sem]) rfl ⟨rfl, ?_⟩
  exact ((Below.refl _ _).alloc (Nat.le_refl _) _).alloc (by simp) _

theorem rparseL_comb (l : List UInt8) : rparseL l = comb (columnL ((Lib.trimPrefix l [36]).take (lets (Lib.trimPrefix l [36])))) (numL (Lib.trimPrefix ((Lib.trimPrefix l [36]).drop (lets (Lib.trimPrefix l [36]))) [36])) (Lib.hasPrefix ((Lib.trimPrefix l [36]).drop (lets (Lib.trimPrefix l [36]))) [36]) (Lib.hasPrefix l [36]) := by
  unfold rparseL comb
  cases columnL ((Lib.trimPrefix l [36]).take (lets (Lib.trimPrefix l [36]))) with
  | none => rfl
  | some c => cases numL (Lib.trimPrefix ((Lib.trimPrefix l [36]).drop (lets (Lib.trimPrefix l [36]))) [36]) <;> rfl

/-- the document's Parse, at every string of at most 1000 bytes -/
theorem rparse_any (s : ByteArray) (w : World) (hs : s.size ≤ 1000) : Calls Tryd.prog 16 #[.string s] w fun e w' => e = .returned (parseR (rparseL s.data.toList)) ∧ Below w.heap.size w w' := by
  rw [rparseL_comb]
  rcases opened_of s.data.toList with ⟨hb, hl⟩ | ⟨hb, hl, hh⟩
  · rw [hb]
    generalize hT : Lib.trimPrefix s.data.toList [36] = t at *
    have hu : (⟨t.toArray⟩ : ByteArray).data.toList = t := rfl
    have hsz : (⟨t.toArray⟩ : ByteArray).size ≤ 1000 := by
      have h1 := congrArg List.length hl
      rw [size_list, List.length_cons] at h1
      show t.length ≤ 1000
      omega
    have := rparse_t ⟨t.toArray⟩ w hsz _ _ (opened_of _) _ rfl _ rfl
    rw [hu, ← hl, mk_list] at this
    exact this
  · rw [hb]
    rw [← hl] at hh ⊢
    by_cases h0 : s.size = 0
    · have he := empty_of s h0
      subst he
      exact rparse_none w
    · have hp : 0 < s.size := by omega
      refine rparse_f s w hp (fun e => hh ?_) hs _ _ (opened_of _) _ rfl _ rfl
      have := drop_get s 0 hp
      rw [List.drop_zero] at this
      rw [this, List.head?_cons, show s[0] = 36 from UInt8.toNat_inj.1 e]
end Go.Proofs.YtkggooemnahgpaaDoor
