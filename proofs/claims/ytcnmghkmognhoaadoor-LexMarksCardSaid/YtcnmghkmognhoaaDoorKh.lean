/- The law LexMarks: the text of any mark that may be is one mark, and is read as that mark. -/
import Derived.Test.YtcnmghkmognhoaaDoorKg
import Derived.Laws.IdiomStrings
namespace Go.Proofs.YtcnmghkmognhoaaDoor
open Go.RowKit Go.Shelf

set_option maxRecDepth 100000 in
set_option maxHeartbeats 2000000 in
theorem marks_out (r c : Int) (fr fc : Bool) (h : r < 0 ∨ (¬ r < 0 ∧ 9999998 < r) ∨ (¬ r < 0 ∧ ¬ 9999998 < r ∧ c < 0) ∨ (¬ r < 0 ∧ ¬ 9999998 < r ∧ ¬ c < 0 ∧ 18277 < c)) (w : World) (he : Env w) :
    Calls Tryd.prog 8 #[.agg #[.int .i64 r, .int .i64 c, .bool fr, .bool fc]] w fun e w' => e = .returned (.bool true) ∧ Below w.heap.size w w' := by
  have HE := Lib.hid he
  have hb0 : Below w.heap.size w (w.alloc (.cells #[.int .i64 r, .int .i64 c, .bool fr, .bool fc] 44)) := (Below.refl _ _).alloc (Nat.le_refl _) _
  have HB0 := Lib.hid hb0
  have HE0 := Lib.hid (he.below hb0)
  clear he hb0
  rcases h with h | ⟨h1, h⟩ | ⟨h1, h2, h⟩ | ⟨h1, h2, h3, h⟩
  all_goals
    go_enter Tryd.func8, Tryd.ntmps8
    go_wp2_with fail
    refine (awake_any _ HE0.out).mono ?_
    rintro e w1 ⟨rfl, hb1⟩
    obtain ⟨c0, c1, c2, c3, f0, f1, f2, f3, hz⟩ := Addr.four hb1
    have HB1 := Lib.hid (HB0.out.trans (hb1.mono HB0.out.size))
    have HE1 := Lib.hid (HE0.out.below hb1)
    clear hb1
    go_wp2_with fail
    refine (awake_any _ HE1.out).mono ?_
    rintro e w2 ⟨rfl, hb2⟩
    have HB2 := Lib.hid (HB1.out.trans (hb2.mono HB1.out.size))
    clear hb2
    go_wp2
    go_ret
    exact ⟨rfl, HB2.out⟩
theorem mark_eq (r c : Int) (fr fc : Bool) (w : World) : (binOp .eql 44 (.agg #[.int .i64 r, .int .i64 c, .bool fr, .bool fc]) (.agg #[.int .i64 r, .int .i64 c, .bool fr, .bool fc])).run Tryd.prog w = .ok (.bool true) w := by
  go_simp
set_option maxRecDepth 100000 in
set_option maxHeartbeats 2000000 in
theorem marks_in (r c : Int) (fr fc : Bool) (h1 : ¬ r < 0) (h2 : ¬ 9999998 < r) (h3 : ¬ c < 0) (h4 : ¬ 18277 < c) (w : World) (he : Env w) (ht : Addr.Tab w) :
    Calls Tryd.prog 8 #[.agg #[.int .i64 r, .int .i64 c, .bool fr, .bool fc]] w fun e w' => e = .returned (.bool true) ∧ Below w.heap.size w w' := by
  have HE := Lib.hid he
  have hb0 : Below w.heap.size w (w.alloc (.cells #[.int .i64 r, .int .i64 c, .bool fr, .bool fc] 44)) := (Below.refl _ _).alloc (Nat.le_refl _) _
  have HB0 := Lib.hid hb0
  have HE0 := Lib.hid (he.below hb0)
  have HT0 := Lib.hid (ht.below hb0)
  have hrt : Addr.rightB r c = true := by unfold Addr.rightB; rw [decide_eq_true_eq]; omega
  have hpt := Addr.parse_text r c fr fc hrt
  obtain ⟨hm1, hm2, x, t, hm3, hm4, hm5, hm6, hm7⟩ := Addr.mark_facts r c fr fc (by omega) (by omega) (by omega) (by omega)
  have hlex := Addr.mark_lex hm1 hm2 hm3 hm4 hm5 hm6 hm7
  have hlen : (Addr.textL r c fr fc).length ≤ 100 := by
    unfold Addr.textL
    rw [if_pos hrt]
    have l1 := Addr.dol_len fc
    have l2 := Addr.letL_len c
    have l3 := Addr.dol_len fr
    have l4 := Lib.itoa_length_le (r + 1) (by omega) (by omega)
    simp only [List.length_append]
    omega
  have HTX := Lib.hid (fun W (hW : Addr.Tab W) => Addr.text_any r c fr fc W hW)
  unfold Addr.markV at HTX
  obtain ⟨L, hL⟩ : ∃ L, Addr.textL r c fr fc = L := ⟨_, rfl⟩
  rw [hL] at hpt hlex hlen HTX
  obtain ⟨S, hS⟩ : ∃ S : ByteArray, (⟨L.toArray⟩ : ByteArray) = S := ⟨_, rfl⟩
  have hSL : S.data.toList = L := by rw [← hS]
  have hSs : S.size ≤ 100 := by rw [← size_list S, hSL]; exact hlen
  rw [hS] at HTX
  have HLX := Lib.hid (fun W (hW : Env W) => lex_any S (by omega) W hW)
  have HPA := Lib.hid (fun W => Addr.parse_any S W)
  rw [hSL] at HLX HPA
  rw [hpt] at HPA
  unfold Addr.parseR at HPA
  have HLEX := Lib.hid hlex
  have HS := Lib.hid hS
  have heq := fun W => mark_eq r c fr fc W
  have HEQ := Lib.hid heq
  clear he hb0 ht hrt hpt hm1 hm2 hm3 hm4 hm5 hm6 hm7 hlex hlen hL hS hSL hSs heq HE
  go_enter Tryd.func8, Tryd.ntmps8
  go_wp2_with fail
  refine (awake_any _ HE0.out).mono ?_
  rintro e w1 ⟨rfl, hb1⟩
  obtain ⟨c0, c1, c2, c3, f0, f1, f2, f3, hz⟩ := Addr.four hb1
  have HB1 := Lib.hid (HB0.out.trans (hb1.mono HB0.out.size))
  have HE1 := Lib.hid (HE0.out.below hb1)
  have HT1 := Lib.hid (HT0.out.below hb1)
  have HC1 := Lib.hid (And.intro c0 (And.intro c1 (And.intro c2 c3)))
  have HZ1 := Lib.hid hz
  clear hb1 HE0 HT0
  go_wp2_with fail
  refine (HTX.out _ HT1.out).mono ?_
  rintro e w2 ⟨rfl, hb2⟩
  have HB2 := Lib.hid (HB1.out.trans (hb2.mono HB1.out.size))
  have HE2 := Lib.hid (HE1.out.below hb2)
  have HC2 : Hid (_ ∧ _ ∧ _ ∧ _) := Lib.hid (And.intro ((hb2.cell (p := ⟨w.heap.size, 0, none⟩) HZ1.out).trans HC1.out.1) (And.intro ((hb2.cell (p := ⟨w.heap.size, 1, none⟩) HZ1.out).trans HC1.out.2.1) (And.intro ((hb2.cell (p := ⟨w.heap.size, 2, none⟩) HZ1.out).trans HC1.out.2.2.1) ((hb2.cell (p := ⟨w.heap.size, 3, none⟩) HZ1.out).trans HC1.out.2.2.2))))
  have HZ2 := Lib.hid (Nat.lt_of_lt_of_le HZ1.out hb2.size)
  clear hb2 HE1 HT1 HC1 HZ1 c0 c1 c2 c3 f0 f1 f2 f3 hz
  go_wp2_with fail
  refine (HLX.out _ HE2.out).mono ?_
  rintro e w3 ⟨ha, hb3⟩
  rw [HLEX.out] at ha
  obtain ⟨va, rfl, hra⟩ := ha
  obtain ⟨A3, ca, rfl, hca, hIa⟩ := tok_of_own hra
  obtain ⟨ga, oa, rfl, hga, k0, k1, k2⟩ := hIa 0 _ rfl
  have hca2 : (2 : Int) ≤ (ca : Int) := by simp at hca; omega
  simp only [Nat.zero_mul, Nat.add_zero, HS.out] at k0 k1 k2
  have HB3 := Lib.hid (HB2.out.trans (hb3.mono HB2.out.size))
  have c0 := (hb3.cell (p := ⟨w.heap.size, 0, none⟩) HZ2.out).trans HC2.out.1
  have c1 := (hb3.cell (p := ⟨w.heap.size, 1, none⟩) HZ2.out).trans HC2.out.2.1
  have c2 := (hb3.cell (p := ⟨w.heap.size, 2, none⟩) HZ2.out).trans HC2.out.2.2.1
  have c3 := (hb3.cell (p := ⟨w.heap.size, 3, none⟩) HZ2.out).trans HC2.out.2.2.2
  have HC3 := Lib.hid (And.intro c0 (And.intro c1 (And.intro c2 c3)))
  have HZ3 := Lib.hid (Nat.lt_of_lt_of_le HZ2.out hb3.size)
  clear hra hIa hb3 hca HE2 HZ2 HC2 hga HLEX c0 c1 c2 c3
  go_wp2_with fail
  refine (HPA.out _).mono ?_
  rintro e w4 ⟨rfl, hb4⟩
  have c0 := (hb4.cell (p := ⟨w.heap.size, 0, none⟩) HZ3.out).trans HC3.out.1
  have c1 := (hb4.cell (p := ⟨w.heap.size, 1, none⟩) HZ3.out).trans HC3.out.2.1
  have c2 := (hb4.cell (p := ⟨w.heap.size, 2, none⟩) HZ3.out).trans HC3.out.2.2.1
  have c3 := (hb4.cell (p := ⟨w.heap.size, 3, none⟩) HZ3.out).trans HC3.out.2.2.2
  have HB4 := Lib.hid (HB3.out.trans (hb4.mono HB3.out.size))
  have hz4 := Nat.lt_of_lt_of_le HZ3.out hb4.size
  have HZ4 := Lib.hid hz4
  clear hb4 k0 k1 k2 hca2
  go_wp2
  go_ret
  exact ⟨rfl, HB4.out.alloc HB4.out.size _⟩
theorem marks_any (r c : Int) (fr fc : Bool) (w : World) (he : Env w) (ht : Addr.Tab w) :
    Calls Tryd.prog 8 #[.agg #[.int .i64 r, .int .i64 c, .bool fr, .bool fc]] w fun e w' => e = .returned (.bool true) ∧ Below w.heap.size w w' := by
  by_cases h1 : r < 0
  · exact marks_out r c fr fc (.inl h1) w he
  by_cases h2 : 9999998 < r
  · exact marks_out r c fr fc (.inr (.inl ⟨h1, h2⟩)) w he
  by_cases h3 : c < 0
  · exact marks_out r c fr fc (.inr (.inr (.inl ⟨h1, h2, h3⟩))) w he
  by_cases h4 : 18277 < c
  · exact marks_out r c fr fc (.inr (.inr (.inr ⟨h1, h2, h3, h4⟩))) w he
  exact marks_in r c fr fc h1 h2 h3 h4 w he ht
end Go.Proofs.YtcnmghkmognhoaaDoor
