/- Walk over the law AddrThere. -/
import Derived.Test.YtkggooemnahgpaaDoorWu
namespace Go.Proofs.YtkggooemnahgpaaDoor
open Go.RowKit

theorem text_plain (r c : Int) (fr fc : Bool) (t : List UInt8) (h : textL r c fr fc = t) (w : World) (ht : Tab w) : Calls Tryd.prog 14 #[.agg #[.int .i64 r, .int .i64 c, .bool fr, .bool fc]] w fun e w' => e = .returned (.string ⟨t.toArray⟩) ∧ Below w.heap.size w w' := h ▸ text_any r c fr fc w ht

theorem there_none (r c : Int) (fr fc : Bool) (pr pc dn rt : Int) (w : World) (ht : Tab w) (h : (rightB r c && rightB pr pc) = false) :
    Calls Tryd.prog 8 #[markV r c fr fc, .int .i64 pr, .int .i64 pc, .int .i64 dn, .int .i64 rt] w fun e w' => e = .returned (.bool true) ∧ Below w.heap.size w w' := by
  have hb0 := below_new w (.cells #[.int .i64 r, .int .i64 c, .bool fr, .bool fc] 28)
  have ht0 := ht.below hb0
  have hk0 := MarkAt.new w r c fr fc 28
  have HT := Lib.hid (relL_none r c fr fc pr pc h)
  have H0 := Lib.hid hb0
  have HK0 := Lib.hid hk0
  clear hb0 hk0 h
  unfold markV
  go_enter Tryd.func8, Tryd.ntmps8
  go_wp2_with fail
  refine (awake_any _ ht0).mono ?_
  rintro e w1 ⟨rfl, hb1⟩
  obtain ⟨c0, c1, c2, c3, hz⟩ := HK0.out.later hb1
  have ht1 := ht0.below hb1
  have hb2 := H0.out.trans (hb1.mono H0.out.size)
  clear hb1 ht0
  go_wp2_with fail
  refine (relative_any r c fr fc pr pc _ ht1).mono ?_
  rw [HT.out]
  rintro e w2 ⟨rfl, hb3⟩
  go_wp2_with fail
  go_ret
  exact ⟨rfl, hb2.trans (hb3.mono hb2.size)⟩

theorem textL_ne (r c : Int) (fr fc : Bool) (h : rightB r c = true) : (textL r c fr fc).isEmpty = false := by
  have g : 0 ≤ r ∧ r ≤ 9999998 ∧ 0 ≤ c ∧ c ≤ 18277 := by simpa [rightB] using h
  unfold textL
  rw [if_pos h]
  obtain ⟨d, v, hv, _⟩ := itoa_head (r + 1) (by omega)
  rw [hv]
  cases dol fc ++ letL c ++ dol fr <;> rfl

set_option maxHeartbeats 1600000 in
theorem there_out (r c : Int) (fr fc : Bool) (pr pc dn rt : Int) (w : World) (ht : Tab w) (h : rightB r c = true) (h' : rightB pr pc = true) (hd : rightB dn rt = false) :
    Calls Tryd.prog 8 #[markV r c fr fc, .int .i64 pr, .int .i64 pc, .int .i64 dn, .int .i64 rt] w fun e w' => e = .returned (.bool true) ∧ Below w.heap.size w w' := by
  have hb0 := below_new w (.cells #[.int .i64 r, .int .i64 c, .bool fr, .bool fc] 28)
  have ht0 := ht.below hb0
  have hk0 := MarkAt.new w r c fr fc 28
  obtain ⟨t, hT⟩ : ∃ t, relL r c fr fc pr pc = t := ⟨_, rfl⟩
  have hte := relL_ne r c fr fc pr pc h h'
  rw [hT] at hte
  have HT := Lib.hid hT
  have H0 := Lib.hid hb0
  have HK0 := Lib.hid hk0
  have HX := Lib.hid (show textL dn rt false false = [] by unfold textL; rw [hd]; rfl)
  clear hb0 hk0 hT h h' hd
  unfold markV
  go_enter Tryd.func8, Tryd.ntmps8
  go_wp2_with fail
  refine (awake_any _ ht0).mono ?_
  rintro e w1 ⟨rfl, hb1⟩
  obtain ⟨c0, c1, c2, c3, hz⟩ := HK0.out.later hb1
  have ht1 := ht0.below hb1
  have hb2 := H0.out.trans (hb1.mono H0.out.size)
  clear hb1 ht0
  go_wp2_with fail
  refine (relative_any r c fr fc pr pc _ ht1).mono ?_
  rw [HT.out]
  rintro e w2 ⟨rfl, hb3⟩
  have ht2 := ht1.below hb3
  have hb4 := hb2.trans (hb3.mono hb2.size)
  clear hb3 hb2 ht1 c0 c1 c2 c3 hz
  go_wp2_with fail
  refine (text_plain dn rt false false _ HX.out _ ht2).mono ?_
  rintro e w3 ⟨rfl, hb5⟩
  go_wp2_with fail
  go_ret
  exact ⟨rfl, hb4.trans (hb5.mono hb4.size)⟩

set_option maxHeartbeats 6400000 in
set_option maxRecDepth 100000 in
theorem there_yes (r c : Int) (fr fc : Bool) (pr pc dn rt : Int) (w : World) (ht : Tab w) (hsh : w.ShapedOpen Tryd.prog) (h : rightB r c = true) (h' : rightB pr pc = true) (hd : rightB dn rt = true) (hw : rightB (if fr then r else r + (dn - pr)) (if fc then c else c + (rt - pc)) = true) :
    Calls Tryd.prog 8 #[markV r c fr fc, .int .i64 pr, .int .i64 pc, .int .i64 dn, .int .i64 rt] w fun e w' => e = .returned (.bool true) ∧ Below w.heap.size w w' := by
  have g1 : 0 ≤ r ∧ r ≤ 9999998 ∧ 0 ≤ c ∧ c ≤ 18277 := by simpa [rightB] using h
  have g2 : 0 ≤ pr ∧ pr ≤ 9999998 ∧ 0 ≤ pc ∧ pc ≤ 18277 := by simpa [rightB] using h'
  have g3 : 0 ≤ dn ∧ dn ≤ 9999998 ∧ 0 ≤ rt ∧ rt ≤ 18277 := by simpa [rightB] using hd
  obtain ⟨a1, a2, a3, a4⟩ := g1
  obtain ⟨a5, a6, a7, a8⟩ := g2
  obtain ⟨b1, b2, b3, b4⟩ := g3
  have hb0 := below_new w (.cells #[.int .i64 r, .int .i64 c, .bool fr, .bool fc] 28)
  have ht0 := ht.below hb0
  have hk0 := MarkAt.new w r c fr fc 28
  have hA := abs_rel r c fr fc pr pc dn rt h h' hd
  rw [hw] at hA
  have hF : ((0 ≤ (if fr then r else r + (dn - pr)) ∧ (if fr then r else r + (dn - pr)) ≤ 9999998) ∧ (0 ≤ (if fc then c else c + (rt - pc)) ∧ (if fc then c else c + (rt - pc)) ≤ 18277)) := by
    have h0 : 0 ≤ (if fr then r else r + (dn - pr)) ∧ (if fr then r else r + (dn - pr)) ≤ 9999998 ∧ 0 ≤ (if fc then c else c + (rt - pc)) ∧ (if fc then c else c + (rt - pc)) ≤ 18277 := by simpa [rightB] using hw
    exact ⟨⟨h0.1, h0.2.1⟩, h0.2.2⟩
  obtain ⟨t, hT⟩ : ∃ t, relL r c fr fc pr pc = t := ⟨_, rfl⟩
  have hte := relL_ne r c fr fc pr pc h h'
  have htl := relL_len r c fr fc pr pc
  rw [hT] at hte hA htl
  obtain ⟨x, hX⟩ : ∃ x, textL dn rt false false = x := ⟨_, rfl⟩
  have hxe := textL_ne dn rt false false hd
  rw [hX] at hxe
  have HT := Lib.hid hT
  have H0 := Lib.hid hb0
  have HK0 := Lib.hid hk0
  have HX := Lib.hid hX
  have HA := Lib.hid hA
  have HL := Lib.hid htl
  have HF := Lib.hid hF
  clear hF hw
  clear hb0 hk0 hT h h' hd hX hA htl
  unfold markV
  cases fr <;> cases fc
  all_goals
    simp only [Bool.false_eq_true, if_false, if_true] at HA HF
    obtain ⟨⟨q1, q2⟩, q3, q4⟩ := HF.out
    go_enter Tryd.func8, Tryd.ntmps8
    go_wp2_with fail
    refine (awake_any _ ht0).mono ?_
    rintro e w1 ⟨rfl, hb1⟩
    obtain ⟨c0, c1, c2, c3, hz⟩ := HK0.out.later hb1
    have ht1 := ht0.below hb1
    have hb2 := H0.out.trans (hb1.mono H0.out.size)
    clear hb1 ht0
    go_wp2_with fail
    refine (relative_any r c _ _ pr pc _ ht1).mono ?_
    rw [HT.out]
    rintro e w2 ⟨rfl, hb3⟩
    have hk2 := MarkAt.later ⟨c0, c1, c2, c3, hz⟩ hb3
    have ht2 := ht1.below hb3
    have hb4 := hb2.trans (hb3.mono hb2.size)
    clear hb3 hb2 ht1 c0 c1 c2 c3 hz
    have HK2 := Lib.hid hk2
    clear hk2
    go_wp2_with fail
    refine (text_plain dn rt false false _ HX.out _ ht2).mono ?_
    rintro e w3 ⟨rfl, hb5⟩
    obtain ⟨c0, c1, c2, c3, hz⟩ := HK2.out.later hb5
    have hb6 := hb4.trans (hb5.mono hb4.size)
    clear hb5 hb4 ht2
    have HB := Lib.hid hb6
    have hsh3 := shaped_below hsh hb6
    clear hb6
    go_wp2_with fail
    refine (absolute_any ⟨t.toArray⟩ dn rt _ HL.out (shaped_below hsh3 (below_new _ _))).mono ?_
    rw [show (⟨t.toArray⟩ : ByteArray).data.toList = t from rfl, HA.out]
    unfold parseR
    rintro e w4 ⟨rfl, hb7⟩
    obtain ⟨d0, d1, d2, d3, hy⟩ := MarkAt.later (hb := hb7) (h := MarkAt.new _ _ _ _ _ _)
    have hE := HB.out.trans ((below4 hb7).mono HB.out.size)
    have HE := Lib.hid hE
    clear hb7 hE c0 c1 c2 c3 hz
    go_wp2_with fail
    go_ret
    exact ⟨rfl, HE.out.trans ((below_new _ _).mono HE.out.size)⟩

set_option maxHeartbeats 6400000 in
set_option maxRecDepth 100000 in
theorem there_no (r c : Int) (fr fc : Bool) (pr pc dn rt : Int) (w : World) (ht : Tab w) (hsh : w.ShapedOpen Tryd.prog) (h : rightB r c = true) (h' : rightB pr pc = true) (hd : rightB dn rt = true) (hw : rightB (if fr then r else r + (dn - pr)) (if fc then c else c + (rt - pc)) = false) :
    Calls Tryd.prog 8 #[markV r c fr fc, .int .i64 pr, .int .i64 pc, .int .i64 dn, .int .i64 rt] w fun e w' => e = .returned (.bool true) ∧ Below w.heap.size w w' := by
  have g1 : 0 ≤ r ∧ r ≤ 9999998 ∧ 0 ≤ c ∧ c ≤ 18277 := by simpa [rightB] using h
  have g2 : 0 ≤ pr ∧ pr ≤ 9999998 ∧ 0 ≤ pc ∧ pc ≤ 18277 := by simpa [rightB] using h'
  have g3 : 0 ≤ dn ∧ dn ≤ 9999998 ∧ 0 ≤ rt ∧ rt ≤ 18277 := by simpa [rightB] using hd
  obtain ⟨a1, a2, a3, a4⟩ := g1
  obtain ⟨a5, a6, a7, a8⟩ := g2
  obtain ⟨b1, b2, b3, b4⟩ := g3
  have hb0 := below_new w (.cells #[.int .i64 r, .int .i64 c, .bool fr, .bool fc] 28)
  have ht0 := ht.below hb0
  have hk0 := MarkAt.new w r c fr fc 28
  have hA := abs_rel r c fr fc pr pc dn rt h h' hd
  rw [hw] at hA
  have hF : ¬ ((0 ≤ (if fr then r else r + (dn - pr)) ∧ (if fr then r else r + (dn - pr)) ≤ 9999998) ∧ (0 ≤ (if fc then c else c + (rt - pc)) ∧ (if fc then c else c + (rt - pc)) ≤ 18277)) := by
    intro h0
    have : rightB (if fr then r else r + (dn - pr)) (if fc then c else c + (rt - pc)) = true := decide_eq_true ⟨h0.1.1, h0.1.2, h0.2⟩
    rw [hw] at this; cases this
  obtain ⟨t, hT⟩ : ∃ t, relL r c fr fc pr pc = t := ⟨_, rfl⟩
  have hte := relL_ne r c fr fc pr pc h h'
  have htl := relL_len r c fr fc pr pc
  rw [hT] at hte hA htl
  obtain ⟨x, hX⟩ : ∃ x, textL dn rt false false = x := ⟨_, rfl⟩
  have hxe := textL_ne dn rt false false hd
  rw [hX] at hxe
  have HT := Lib.hid hT
  have H0 := Lib.hid hb0
  have HK0 := Lib.hid hk0
  have HX := Lib.hid hX
  have HA := Lib.hid hA
  have HL := Lib.hid htl
  have HF := Lib.hid hF
  clear hF hw
  clear hb0 hk0 hT h h' hd hX hA htl
  unfold markV
  cases fr <;> cases fc
  all_goals
    simp only [Bool.false_eq_true, if_false, if_true] at HA HF
    go_enter Tryd.func8, Tryd.ntmps8
    go_wp2_with fail
    refine (awake_any _ ht0).mono ?_
    rintro e w1 ⟨rfl, hb1⟩
    obtain ⟨c0, c1, c2, c3, hz⟩ := HK0.out.later hb1
    have ht1 := ht0.below hb1
    have hb2 := H0.out.trans (hb1.mono H0.out.size)
    clear hb1 ht0
    go_wp2_with fail
    refine (relative_any r c _ _ pr pc _ ht1).mono ?_
    rw [HT.out]
    rintro e w2 ⟨rfl, hb3⟩
    have hk2 := MarkAt.later ⟨c0, c1, c2, c3, hz⟩ hb3
    have ht2 := ht1.below hb3
    have hb4 := hb2.trans (hb3.mono hb2.size)
    clear hb3 hb2 ht1 c0 c1 c2 c3 hz
    have HK2 := Lib.hid hk2
    clear hk2
    go_wp2_with fail
    refine (text_plain dn rt false false _ HX.out _ ht2).mono ?_
    rintro e w3 ⟨rfl, hb5⟩
    obtain ⟨c0, c1, c2, c3, hz⟩ := HK2.out.later hb5
    have hb6 := hb4.trans (hb5.mono hb4.size)
    clear hb5 hb4 ht2
    have HB := Lib.hid hb6
    have hsh3 := shaped_below hsh hb6
    clear hb6
    go_wp2_with fail
    refine (absolute_any ⟨t.toArray⟩ dn rt _ HL.out (shaped_below hsh3 (below_new _ _))).mono ?_
    rw [show (⟨t.toArray⟩ : ByteArray).data.toList = t from rfl, HA.out]
    unfold parseR
    rintro e w4 ⟨rfl, hb7⟩
    obtain ⟨d0, d1, d2, d3, hy⟩ := MarkAt.later (hb := hb7) (h := MarkAt.new _ _ _ _ _ _)
    have hE := HB.out.trans ((below4 hb7).mono HB.out.size)
    have HE := Lib.hid hE
    clear hb7 hE c0 c1 c2 c3 hz
    go_wp2_with fail
    all_goals first
      | (go_ret; exact ⟨rfl, HE.out.trans ((below_new _ _).mono HE.out.size)⟩)
      | (exfalso; have := HF.out; omega)

/-- AddrThere, at every input -/
theorem there_any (r c : Int) (fr fc : Bool) (pr pc dn rt : Int) (w : World) (ht : Tab w) (hsh : w.ShapedOpen Tryd.prog) :
    Calls Tryd.prog 8 #[markV r c fr fc, .int .i64 pr, .int .i64 pc, .int .i64 dn, .int .i64 rt] w fun e w' => e = .returned (.bool true) ∧ Below w.heap.size w w' := by
  cases h : (rightB r c && rightB pr pc) with
  | false => exact there_none r c fr fc pr pc dn rt w ht h
  | true =>
    have h2 : rightB r c = true ∧ rightB pr pc = true := by simpa using h
    cases hd : rightB dn rt with
    | false => exact there_out r c fr fc pr pc dn rt w ht h2.1 h2.2 hd
    | true =>
      cases hw : rightB (if fr then r else r + (dn - pr)) (if fc then c else c + (rt - pc)) with
      | false => exact there_no r c fr fc pr pc dn rt w ht hsh h2.1 h2.2 hd hw
      | true => exact there_yes r c fr fc pr pc dn rt w ht hsh h2.1 h2.2 hd hw
end Go.Proofs.YtkggooemnahgpaaDoor
