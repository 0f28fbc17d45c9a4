/- The document's side: what begins so; names. -/
import Derived.Test.YtcnmghkmognhoaaDoorQe
namespace Go.Proofs.YtcnmghkmognhoaaDoor
open Go.RowKit Go.Shelf

theorem fold_num {x : UInt8} (h1 : 97 ≤ x.toNat) (h2 : x.toNat ≤ 122) : (foldB x).toNat = x.toNat - 32 := by
  unfold foldB
  rw [if_pos ⟨h1, h2⟩, UInt8.toNat_add, UInt8.toNat_sub]
  simp
  omega
set_option maxRecDepth 100000 in
set_option maxHeartbeats 2000000 in
theorem rbegins_any (s t : ByteArray) (hs : s.size ≤ 100000) (ht : t.size ≤ 100000) (fd : Bool) (w : World) :
    Calls Tryd.prog 65 #[.string s, .string t, .bool fd] w fun e w' => e = .returned (.bool (t.data.toList.isPrefixOf (s.data.toList.map (if fd = true then foldB else id)))) ∧ w = w' := by
  obtain ⟨g, hg⟩ : ∃ g, (if fd = true then foldB else id) = g := ⟨_, rfl⟩
  rw [hg]
  obtain ⟨L, hL⟩ : ∃ L, s.data.toList = L := ⟨_, rfl⟩
  obtain ⟨T, hT⟩ : ∃ T, t.data.toList = T := ⟨_, rfl⟩
  have hLs : L.length = s.size := by rw [← hL]; exact size_list s
  have hTs : T.length = t.size := by rw [← hT]; exact size_list t
  rw [hL, hT]
  obtain ⟨R, hR⟩ : ∃ R, T.isPrefixOf (L.map g) = R := ⟨_, rfl⟩
  rw [hR]
  by_cases hsz : s.size < t.size
  · have hszi : (s.size : Int) < (t.size : Int) := by omega
    have hRf : R = false := by
      rw [← hR]
      cases hp : T.isPrefixOf (L.map g) with
      | false => rfl
      | true =>
        have := (List.isPrefixOf_iff_prefix.1 hp).length_le
        rw [List.length_map] at this
        omega
    subst hRf
    clear hR hL hT hLs hTs hg hsz
    go_enter Tryd.func65, Tryd.ntmps65
    go_wp2
    go_ret
    exact ⟨rfl, rfl⟩
  have hszi : ¬ (s.size : Int) < (t.size : Int) := by omega
  have HL := Lib.hid hL
  have HT := Lib.hid hT
  have HLS := Lib.hid hLs
  have HTS := Lib.hid hTs
  have HR := Lib.hid hR
  have HG := Lib.hid hg
  clear hL hT hLs hTs hR hg
  go_enter Tryd.func65, Tryd.ntmps65
  go_wp2_with fail
  go_loop [7] (fun n => ∃ k : Nat, k ≤ t.size ∧ n = .int .i64 (k : Int) ∧ Hid ((T.drop k).isPrefixOf ((L.drop k).map g) = R)) (fun n => t.size - (intOf n).toNat)
  case atStart => exact ⟨0, by omega, rfl, Lib.hid (by rw [List.drop_zero, List.drop_zero, HR.out])⟩
  case round =>
    obtain ⟨k, hk, rfl, HD⟩ := hrel
    by_cases hlt : k < t.size
    · have hks : k < s.size := by omega
      have hi1 : (k : Int) < (t.size : Int) := by omega
      have hi2 : (k : Int) < (s.size : Int) := by omega
      have hi0 : (0 : Int) ≤ (k : Int) := by omega
      have hdx := drop_get s k hks
      have hdy := drop_get t k hlt
      rw [HL.out] at hdx
      rw [HT.out] at hdy
      obtain ⟨x, hx⟩ : ∃ c, s[k] = c := ⟨_, rfl⟩
      obtain ⟨y, hy⟩ : ∃ c, t[k] = c := ⟨_, rfl⟩
      rw [hx] at hdx
      rw [hy] at hdy
      have hd := HD.out
      rw [hdx, hdy, List.map_cons, List.isPrefixOf] at hd
      have HDD : Hid ((g x == y && (T.drop (k + 1)).isPrefixOf ((L.drop (k + 1)).map g)) = R) := Lib.hid (by rw [← hd, show (g x == y) = (y == g x) from Bool.beq_comm])
      have HX := Lib.hid hx
      have HY := Lib.hid hy
      obtain ⟨vv, hvv⟩ : ∃ v, (g x).toNat = v := ⟨_, rfl⟩
      clear hdx hdy hd HD hx hy
      cases fd with
      | false =>
        have hve : vv = x.toNat := by rw [← hvv, ← HG.out, if_neg (by decide)]; rfl
        by_cases hcy : vv = y.toNat
        · have hxy : (g x == y) = true := by rw [beq_iff_eq]; exact UInt8.toNat_inj.1 (by omega)
          have HD2 : Hid ((T.drop (k + 1)).isPrefixOf ((L.drop (k + 1)).map g) = R) := Lib.hid (by rw [← HDD.out, hxy, Bool.true_and])
          have hq : (((s[k]'hks).toNat : Int) != ((t[k]'hlt).toNat : Int)) = false := by rw [HX.out, HY.out, bne_eq_false_iff_eq]; omega
          clear hcy hxy hvv
          go_wp2
          go_round
          case rel => exact ⟨k + 1, by omega, by go_num, HD2⟩
          case measure => simp [intOf]; omega
        · have hxy : (g x == y) = false := by rw [beq_eq_false_iff_ne]; intro e; rw [e] at hvv; exact hcy hvv.symm
          have hRf : R = false := by rw [← HDD.out, hxy, Bool.false_and]
          have hq : (((s[k]'hks).toNat : Int) != ((t[k]'hlt).toNat : Int)) = true := by rw [HX.out, HY.out, bne_iff_ne]; omega
          subst hRf
          clear hcy hxy hvv HDD
          go_wp2
          go_ret
          exact ⟨rfl, rfl⟩
      | true =>
        have hgx : g x = foldB x := by rw [← HG.out, if_pos rfl]
        by_cases h97 : 97 ≤ x.toNat
        · have h97i : (97 : Int) ≤ ((s[k]'hks).toNat : Int) := by rw [HX.out]; omega
          by_cases h122 : x.toNat ≤ 122
          · have h122i : ((s[k]'hks).toNat : Int) ≤ 122 := by rw [HX.out]; omega
            have hve : vv = x.toNat - 32 := by rw [← hvv, hgx]; exact fold_num h97 h122
            clear hgx
            by_cases hcy : vv = y.toNat
            · have hxy : (g x == y) = true := by rw [beq_iff_eq]; exact UInt8.toNat_inj.1 (by omega)
              have HD2 : Hid ((T.drop (k + 1)).isPrefixOf ((L.drop (k + 1)).map g) = R) := Lib.hid (by rw [← HDD.out, hxy, Bool.true_and])
              have hq : ((((s[k]'hks).toNat : Int) - 32) != ((t[k]'hlt).toNat : Int)) = false := by rw [HX.out, HY.out, bne_eq_false_iff_eq]; omega
              clear hcy hxy hvv
              go_wp2
              go_round
              case rel => exact ⟨k + 1, by omega, by go_num, HD2⟩
              case measure => simp [intOf]; omega
            · have hxy : (g x == y) = false := by rw [beq_eq_false_iff_ne]; intro e; rw [e] at hvv; exact hcy hvv.symm
              have hRf : R = false := by rw [← HDD.out, hxy, Bool.false_and]
              have hq : ((((s[k]'hks).toNat : Int) - 32) != ((t[k]'hlt).toNat : Int)) = true := by rw [HX.out, HY.out, bne_iff_ne]; omega
              subst hRf
              clear hcy hxy hvv HDD
              go_wp2
              go_ret
              exact ⟨rfl, rfl⟩
          · have h122i : ¬ ((s[k]'hks).toNat : Int) ≤ 122 := by rw [HX.out]; omega
            have hve : vv = x.toNat := by rw [← hvv, hgx]; unfold foldB; rw [if_neg (by omega)]
            clear hgx
            by_cases hcy : vv = y.toNat
            · have hxy : (g x == y) = true := by rw [beq_iff_eq]; exact UInt8.toNat_inj.1 (by omega)
              have HD2 : Hid ((T.drop (k + 1)).isPrefixOf ((L.drop (k + 1)).map g) = R) := Lib.hid (by rw [← HDD.out, hxy, Bool.true_and])
              have hq : (((s[k]'hks).toNat : Int) != ((t[k]'hlt).toNat : Int)) = false := by rw [HX.out, HY.out, bne_eq_false_iff_eq]; omega
              clear hcy hxy hvv
              go_wp2
              go_round
              case rel => exact ⟨k + 1, by omega, by go_num, HD2⟩
              case measure => simp [intOf]; omega
            · have hxy : (g x == y) = false := by rw [beq_eq_false_iff_ne]; intro e; rw [e] at hvv; exact hcy hvv.symm
              have hRf : R = false := by rw [← HDD.out, hxy, Bool.false_and]
              have hq : (((s[k]'hks).toNat : Int) != ((t[k]'hlt).toNat : Int)) = true := by rw [HX.out, HY.out, bne_iff_ne]; omega
              subst hRf
              clear hcy hxy hvv HDD
              go_wp2
              go_ret
              exact ⟨rfl, rfl⟩
        · have h97i : ¬ (97 : Int) ≤ ((s[k]'hks).toNat : Int) := by rw [HX.out]; omega
          have hve : vv = x.toNat := by rw [← hvv, hgx]; unfold foldB; rw [if_neg (by omega)]
          clear hgx
          by_cases hcy : vv = y.toNat
          · have hxy : (g x == y) = true := by rw [beq_iff_eq]; exact UInt8.toNat_inj.1 (by omega)
            have HD2 : Hid ((T.drop (k + 1)).isPrefixOf ((L.drop (k + 1)).map g) = R) := Lib.hid (by rw [← HDD.out, hxy, Bool.true_and])
            have hq : (((s[k]'hks).toNat : Int) != ((t[k]'hlt).toNat : Int)) = false := by rw [HX.out, HY.out, bne_eq_false_iff_eq]; omega
            clear hcy hxy hvv
            go_wp2
            go_round
            case rel => exact ⟨k + 1, by omega, by go_num, HD2⟩
            case measure => simp [intOf]; omega
          · have hxy : (g x == y) = false := by rw [beq_eq_false_iff_ne]; intro e; rw [e] at hvv; exact hcy hvv.symm
            have hRf : R = false := by rw [← HDD.out, hxy, Bool.false_and]
            have hq : (((s[k]'hks).toNat : Int) != ((t[k]'hlt).toNat : Int)) = true := by rw [HX.out, HY.out, bne_iff_ne]; omega
            subst hRf
            clear hcy hxy hvv HDD
            go_wp2
            go_ret
            exact ⟨rfl, rfl⟩
    · have hi : ¬ (k : Int) < (t.size : Int) := by omega
      have hRt : R = true := by rw [← HD.out, List.drop_eq_nil_of_le (by rw [HTS.out]; omega)]; rfl
      subst hRt
      clear HD
      go_wp2
      go_ret
      exact ⟨rfl, rfl⟩
def isNameF (l : List UInt8) : Bool := decide (wordF l = l.length) && decide (l.length ≠ 0) && !(isMarkF l) && !(l.contains 36)
set_option maxRecDepth 100000 in
set_option maxHeartbeats 2000000 in
theorem rname_any (s : ByteArray) (hs : s.size ≤ 100000) (w : World) : Calls Tryd.prog 28 #[.string s] w fun e w' => e = .returned (.bool (isNameF s.data.toList)) ∧ w = w' := by
  have hW := fun W => rword_any s hs W
  have hM := fun W => rmark_any s hs W
  obtain ⟨L, hL⟩ : ∃ L, s.data.toList = L := ⟨_, rfl⟩
  have hLs : L.length = s.size := by rw [← hL]; exact size_list s
  rw [hL] at hW hM ⊢
  obtain ⟨R, hR⟩ : ∃ R, isNameF L = R := ⟨_, rfl⟩
  rw [hR]
  obtain ⟨v, hv⟩ : ∃ v, wordF L = v := ⟨_, rfl⟩
  obtain ⟨mk, hmk⟩ : ∃ v, isMarkF L = v := ⟨_, rfl⟩
  rw [hv] at hW
  rw [hmk] at hM
  have hRD : (decide (v = s.size) && decide (s.size ≠ 0) && !mk && !(L.contains 36)) = R := by rw [← hR]; unfold isNameF; rw [hv, hmk, hLs]
  have HL := Lib.hid hL
  have HLS := Lib.hid hLs
  have HW := Lib.hid hW
  have HM := Lib.hid hM
  clear hL hLs hW hM hR hv hmk
  by_cases h1 : v = s.size
  rotate_left
  · have h1i : ((v : Int) != (s.size : Int)) = true := by rw [bne_iff_ne]; omega
    have hRf : R = false := by rw [← hRD, decide_eq_false h1]; rfl
    subst hRf
    clear hRD h1
    go_enter Tryd.func28, Tryd.ntmps28
    go_wp2_with fail
    refine (HW.out _).mono ?_
    rintro e w1 ⟨rfl, rfl⟩
    go_wp2
    go_ret
    exact ⟨rfl, rfl⟩
  have h1i : ((v : Int) != (s.size : Int)) = false := by rw [bne_eq_false_iff_eq]; omega
  rw [decide_eq_true h1, Bool.true_and] at hRD
  by_cases h2 : s.size = 0
  · have h2i : ((s.size : Int) == 0) = true := by rw [beq_iff_eq]; omega
    have hRf : R = false := by rw [← hRD, decide_eq_false (fun h => h h2)]; rfl
    subst hRf
    clear hRD h1 h2
    go_enter Tryd.func28, Tryd.ntmps28
    go_wp2_with fail
    refine (HW.out _).mono ?_
    rintro e w1 ⟨rfl, rfl⟩
    go_wp2
    go_ret
    exact ⟨rfl, rfl⟩
  have h2i : ((s.size : Int) == 0) = false := by rw [beq_eq_false_iff_ne]; omega
  rw [decide_eq_true h2, Bool.true_and] at hRD
  cases mk with
  | true =>
    have hRf : R = false := by rw [← hRD]; rfl
    subst hRf
    clear hRD h1 h2
    go_enter Tryd.func28, Tryd.ntmps28
    go_wp2_with fail
    refine (HW.out _).mono ?_
    rintro e w1 ⟨rfl, rfl⟩
    go_wp2_with fail
    refine (HM.out _).mono ?_
    rintro e w1 ⟨rfl, rfl⟩
    go_wp2
    go_ret
    exact ⟨rfl, rfl⟩
  | false =>
    have HRD : Hid ((!(L.contains 36)) = R) := Lib.hid (by rw [← hRD]; rfl)
    clear hRD h1 h2
    go_enter Tryd.func28, Tryd.ntmps28
    go_wp2_with fail
    refine (HW.out _).mono ?_
    rintro e w1 ⟨rfl, rfl⟩
    go_wp2_with fail
    refine (HM.out _).mono ?_
    rintro e w1 ⟨rfl, rfl⟩
    clear HW HM
    go_wp2_with fail
    go_loop [3] (fun n => ∃ k : Nat, k ≤ s.size ∧ n = .int .i64 (k : Int) ∧ Hid ((!((L.drop k).contains 36)) = R)) (fun n => s.size - (intOf n).toNat)
    case atStart => exact ⟨0, by omega, rfl, Lib.hid (by rw [List.drop_zero, HRD.out])⟩
    case round =>
      obtain ⟨k, hk, rfl, HD⟩ := hrel
      by_cases hlt : k < s.size
      · have hi1 : (k : Int) < (s.size : Int) := by omega
        have hi0 : (0 : Int) ≤ (k : Int) := by omega
        have hdx := drop_get s k hlt
        rw [HL.out] at hdx
        obtain ⟨x, hx⟩ : ∃ c, s[k] = c := ⟨_, rfl⟩
        rw [hx] at hdx
        have hd := HD.out
        rw [hdx, List.contains_cons] at hd
        by_cases h36 : x = 36
        · have hq : ((s[k].toNat : Int) == 36) = true := by rw [hx, h36]; decide
          have hRf : R = false := by rw [← hd, h36]; rfl
          subst hRf
          clear hd hdx hx h36 HD
          go_wp2
          go_ret
          exact ⟨rfl, rfl⟩
        · have h36n : x.toNat ≠ 36 := fun e => h36 (UInt8.toNat_inj.1 e)
          have hq : ((s[k].toNat : Int) == 36) = false := by rw [hx, beq_eq_false_iff_ne]; omega
          have HD2 : Hid ((!((L.drop (k + 1)).contains 36)) = R) := Lib.hid (by
            have : ((36 : UInt8) == x) = false := by rw [beq_eq_false_iff_ne]; exact fun e => h36 e.symm
            rw [this, Bool.false_or] at hd
            exact hd)
          clear hd hdx hx h36 h36n HD
          go_wp2
          go_round
          case rel => exact ⟨k + 1, by omega, by go_num, HD2⟩
          case measure => simp [intOf]; omega
      · have hi : ¬ (k : Int) < (s.size : Int) := by omega
        have hRt : R = true := by rw [← HD.out, List.drop_eq_nil_of_le (by rw [HLS.out]; omega)]; rfl
        subst hRt
        clear HD
        go_wp2
        go_ret
        exact ⟨rfl, rfl⟩
end Go.Proofs.YtcnmghkmognhoaaDoor
