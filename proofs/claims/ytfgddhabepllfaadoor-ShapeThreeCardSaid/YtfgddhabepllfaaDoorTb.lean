/- ShapeThree: it comes to the same which two are joined first. -/
import Derived.Test.YtfgddhabepllfaaDoorTa
namespace Go.Proofs.YtfgddhabepllfaaDoor
open Go.RowKit

set_option maxRecDepth 100000 in
set_option maxHeartbeats 20000000 in
theorem three_in (a b c : NAr) {va vb vc : Value} (w : World) (he : Env w) (hva : ValAt w.heap.size w va a.l) (hvb : ValAt w.heap.size w vb b.l) (hvc : ValAt w.heap.size w vc c.l) (oka : a.ok) (okb : b.ok) (okc : c.ok)
    (hs1 : smallB a.l = true) (hs2 : smallB b.l = true) (hs3 : smallB c.l = true) :
    Calls Tryd.prog 10 #[arV a.r a.c va, arV b.r b.c vb, arV c.r c.c vc] w fun e w' => e = .returned (.bool true) ∧ Below w.heap.size w w' := by
  obtain ⟨W0, hW0⟩ : ∃ W0, ((w.alloc (.cells #[.int .i64 (a.r : Int), .int .i64 (a.c : Int), va] 25)).alloc (.cells #[.int .i64 (b.r : Int), .int .i64 (b.c : Int), vb] 25)).alloc (.cells #[.int .i64 (c.r : Int), .int .i64 (c.c : Int), vc] 25) = W0 := ⟨_, rfl⟩
  have hb0 : Below w.heap.size w W0 := by rw [← hW0]; exact (((Below.refl _ _).alloc (Nat.le_refl _) _).alloc (by simp) _).alloc (by simp; omega) _
  have hx0 : W0.heap[w.heap.size]? = some (.cells #[.int .i64 (a.r : Int), .int .i64 (a.c : Int), va] 25 (0, 0)) := by rw [← hW0]; exact (Below.heap_alloc _ _ _ (by simp; omega)).trans two_old
  have hx1 : W0.heap[w.heap.size + 1]? = some (.cells #[.int .i64 (b.r : Int), .int .i64 (b.c : Int), vb] 25 (0, 0)) := by rw [← hW0]; exact (Below.heap_alloc _ _ _ (by simp)).trans two_new
  have hx2 : W0.heap[w.heap.size + 1 + 1]? = some (.cells #[.int .i64 (c.r : Int), .int .i64 (c.c : Int), vc] 25 (0, 0)) := by rw [← hW0]; have := heap_alloc_new ((w.alloc (.cells #[.int .i64 (a.r : Int), .int .i64 (a.c : Int), va] 25)).alloc (.cells #[.int .i64 (b.r : Int), .int .i64 (b.c : Int), vb] 25)) (.cells #[.int .i64 (c.r : Int), .int .i64 (c.c : Int), vc] 25); simpa using this
  have HW0 := Lib.hid hW0
  have HB0 := Lib.hid hb0
  have HX0 := Lib.hid hx0
  have HX1 := Lib.hid hx1
  have HX2 := Lib.hid hx2
  have HA := Lib.hid (fun W (hW : Below w.heap.size w W) => awake_any W (he.below hW))
  have HSA := Lib.hid (fun W (hW : Below w.heap.size w W) => small_any _ a.r a.c va a.l W hW.size (hva.below hW))
  rw [hs1] at HSA
  have HRA := Lib.hid (fun W (hW : Below w.heap.size w W) => rrighta_any _ a.r a.c va a.l (by have := oka.dims; omega) W hW.size (hva.below hW))
  rw [show rightA ⟨(a.r : Int), (a.c : Int), a.l⟩ = true from oka.1] at HRA
  have HOKA := Lib.hid oka
  have HVA := Lib.hid hva
  have HSB := Lib.hid (fun W (hW : Below w.heap.size w W) => small_any _ b.r b.c vb b.l W hW.size (hvb.below hW))
  rw [hs2] at HSB
  have HRB := Lib.hid (fun W (hW : Below w.heap.size w W) => rrighta_any _ b.r b.c vb b.l (by have := okb.dims; omega) W hW.size (hvb.below hW))
  rw [show rightA ⟨(b.r : Int), (b.c : Int), b.l⟩ = true from okb.1] at HRB
  have HOKB := Lib.hid okb
  have HVB := Lib.hid hvb
  have HSC := Lib.hid (fun W (hW : Below w.heap.size w W) => small_any _ c.r c.c vc c.l W hW.size (hvc.below hW))
  rw [hs3] at HSC
  have HRC := Lib.hid (fun W (hW : Below w.heap.size w W) => rrighta_any _ c.r c.c vc c.l (by have := okc.dims; omega) W hW.size (hvc.below hW))
  rw [show rightA ⟨(c.r : Int), (c.c : Int), c.l⟩ = true from okc.1] at HRC
  have HOKC := Lib.hid okc
  have HVC := Lib.hid hvc
  have HJ1 := Lib.hid (bes_joins w he)
  have HJ2 := Lib.hid (bel_joins w he)
  obtain ⟨A1, cp1, rfl, _⟩ := id hva
  obtain ⟨A2, cp2, rfl, _⟩ := id hvb
  obtain ⟨A3, cp3, rfl, _⟩ := id hvc
  clear hs1 hs2 hs3 he hva hvb hvc hW0 hb0 hx0 hx1 hx2 oka okb okc
  unfold arV at *
  go_enter Tryd.func10, Tryd.ntmps10
  go_wp2_with fail
  rw [HW0.out]
  refine (HA.out _ HB0.out).mono ?_
  rintro e w1 ⟨rfl, hb1⟩
  have HC1 := Lib.hid hb1
  clear hb1
  obtain ⟨a0, a1, a2, _⟩ := box3 (box_kept HX0.out HC1.out (Nat.le_refl _))
  obtain ⟨b0, b1, b2, _⟩ := box3 (box_kept HX1.out HC1.out (Nat.le_refl _))
  obtain ⟨c0, c1, c2, _⟩ := box3 (box_kept HX2.out HC1.out (Nat.le_refl _))
  go_wp2_with fail
  refine (HSA.out _ (HB0.out.trans (HC1.out.mono HB0.out.size))).mono ?_
  rintro e w2 ⟨rfl, hb2⟩
  have HC2 := Lib.hid (HC1.out.trans (hb2.mono HC1.out.size))
  clear hb2 a0 a1 a2 b0 b1 b2 c0 c1 c2
  obtain ⟨a0, a1, a2, _⟩ := box3 (box_kept HX0.out HC2.out (Nat.le_refl _))
  obtain ⟨b0, b1, b2, _⟩ := box3 (box_kept HX1.out HC2.out (Nat.le_refl _))
  obtain ⟨c0, c1, c2, _⟩ := box3 (box_kept HX2.out HC2.out (Nat.le_refl _))
  go_wp2_with fail
  refine (HSB.out _ (HB0.out.trans (HC2.out.mono HB0.out.size))).mono ?_
  rintro e w3 ⟨rfl, hb3⟩
  have HC3 := Lib.hid (HC2.out.trans (hb3.mono HC2.out.size))
  clear hb3 a0 a1 a2 b0 b1 b2 c0 c1 c2
  obtain ⟨a0, a1, a2, _⟩ := box3 (box_kept HX0.out HC3.out (Nat.le_refl _))
  obtain ⟨b0, b1, b2, _⟩ := box3 (box_kept HX1.out HC3.out (Nat.le_refl _))
  obtain ⟨c0, c1, c2, _⟩ := box3 (box_kept HX2.out HC3.out (Nat.le_refl _))
  go_wp2_with fail
  refine (HSC.out _ (HB0.out.trans (HC3.out.mono HB0.out.size))).mono ?_
  rintro e w4 ⟨rfl, hb4⟩
  have HC4 := Lib.hid (HC3.out.trans (hb4.mono HC3.out.size))
  clear hb4 a0 a1 a2 b0 b1 b2 c0 c1 c2
  obtain ⟨a0, a1, a2, _⟩ := box3 (box_kept HX0.out HC4.out (Nat.le_refl _))
  obtain ⟨b0, b1, b2, _⟩ := box3 (box_kept HX1.out HC4.out (Nat.le_refl _))
  obtain ⟨c0, c1, c2, _⟩ := box3 (box_kept HX2.out HC4.out (Nat.le_refl _))
  go_wp2_with fail
  refine (HRA.out _ (HB0.out.trans (HC4.out.mono HB0.out.size))).mono ?_
  rintro e w5 ⟨rfl, hb5⟩
  have HC5 := Lib.hid (HC4.out.trans (hb5.mono HC4.out.size))
  clear hb5 a0 a1 a2 b0 b1 b2 c0 c1 c2
  obtain ⟨a0, a1, a2, _⟩ := box3 (box_kept HX0.out HC5.out (Nat.le_refl _))
  obtain ⟨b0, b1, b2, _⟩ := box3 (box_kept HX1.out HC5.out (Nat.le_refl _))
  obtain ⟨c0, c1, c2, _⟩ := box3 (box_kept HX2.out HC5.out (Nat.le_refl _))
  go_wp2_with fail
  refine (HRB.out _ (HB0.out.trans (HC5.out.mono HB0.out.size))).mono ?_
  rintro e w6 ⟨rfl, hb6⟩
  have HC6 := Lib.hid (HC5.out.trans (hb6.mono HC5.out.size))
  clear hb6 a0 a1 a2 b0 b1 b2 c0 c1 c2
  obtain ⟨a0, a1, a2, _⟩ := box3 (box_kept HX0.out HC6.out (Nat.le_refl _))
  obtain ⟨b0, b1, b2, _⟩ := box3 (box_kept HX1.out HC6.out (Nat.le_refl _))
  obtain ⟨c0, c1, c2, _⟩ := box3 (box_kept HX2.out HC6.out (Nat.le_refl _))
  go_wp2_with fail
  refine (HRC.out _ (HB0.out.trans (HC6.out.mono HB0.out.size))).mono ?_
  rintro e w7 ⟨rfl, hb7⟩
  have HC7 := Lib.hid (HC6.out.trans (hb7.mono HC6.out.size))
  clear hb7 a0 a1 a2 b0 b1 b2 c0 c1 c2
  obtain ⟨a0, a1, a2, _⟩ := box3 (box_kept HX0.out HC7.out (Nat.le_refl _))
  obtain ⟨b0, b1, b2, _⟩ := box3 (box_kept HX1.out HC7.out (Nat.le_refl _))
  obtain ⟨c0, c1, c2, _⟩ := box3 (box_kept HX2.out HC7.out (Nat.le_refl _))
  clear a0 a1 a2 b0 b1 b2 c0 c1 c2
  go_wp2_with fail
  obtain ⟨W5, hW5⟩ : ∃ W5, w7.alloc (.cells #[.func (.func 31) #[] #[], .func (.func 32) #[] #[]] 48) = W5 := ⟨_, rfl⟩
  have hb5 : Below w7.heap.size w7 W5 := by rw [← hW5]; exact Nm.alloc_below _ _
  have hf5 : W5.heap[w7.heap.size]? = some (.cells #[.func (.func 31) #[] #[], .func (.func 32) #[] #[]] 48 (0, 0)) := by rw [← hW5]; exact heap_alloc_new _ _
  rw [hW5]
  have HC8 := Lib.hid (HC7.out.trans (hb5.mono HC7.out.size))
  have HF5 := Lib.hid hf5
  have HB5 := Lib.hid (HB0.out.trans (HC8.out.mono HB0.out.size))
  have HZA := Lib.hid (box_kept HX0.out HC8.out (Nat.le_refl _))
  have HZB := Lib.hid (box_kept HX1.out HC8.out (Nat.le_refl _))
  have HZC := Lib.hid (box_kept HX2.out HC8.out (Nat.le_refl _))
  clear hW5 hb5 hf5 HC1 HC2 HC3 HC4 HC5 HC6 HC7 HC8 HX0 HX1 HX2 HA HSA HSB HSC HRA HRB HRC
  go_loopw [45] (fun i wr => ∃ k : Nat, k ≤ 2 ∧ i = .int .i64 (k : Int) ∧ Below W5.heap.size W5 wr) (fun i _ => 2 - (intOf i).toNat)
  case atStart => exact ⟨0, by omega, rfl, Below.refl _ _⟩
  case round =>
    obtain ⟨k, hk, rfl, hB⟩ := hrel
    have HB := Lib.hid hB
    by_cases hlt : k < 2
    · obtain ⟨N, J, hJ, hcell⟩ : ∃ N J, Joins w N J ∧ W5.cell? ⟨w7.heap.size, k, none⟩ = some (.func (.func N) #[] #[]) := by
        obtain rfl | rfl : k = 0 ∨ k = 1 := by omega
        · exact ⟨31, besJ, HJ1.out, by simp [World.cell?, HF5.out]⟩
        · exact ⟨32, belJ, HJ2.out, by simp [World.cell?, HF5.out]⟩
      have hcw := (hB.cell (p := ⟨w7.heap.size, k, none⟩) (cell_lt hcell)).trans hcell
      have HJ := Lib.hid hJ
      have hE := hJ.ent
      have hass := hJ.assoc a b c HOKA.out HOKB.out HOKC.out
      have hi : (k : Int) < 2 := by omega
      have hi0 : (0 : Int) ≤ (k : Int) := by omega
      obtain ⟨a0, a1, a2, _⟩ := box3 (box_kept HZA.out hB (Nat.le_refl _))
      obtain ⟨b0, b1, b2, _⟩ := box3 (box_kept HZB.out hB (Nat.le_refl _))
      obtain ⟨c0, c1, c2, _⟩ := box3 (box_kept HZC.out hB (Nat.le_refl _))
      clear hB hcell hJ
      cases hx : J a b with
      | none =>
        have hy : ((J b c).bind fun y => J a y) = none := by rw [← hass, hx]; rfl
        have Hx1 := Lib.hid hx
        clear hass hx
        cases hy1 : J b c with
        | none =>
          have Hy1 := Lib.hid hy1
          clear hy hy1
          go_wp2_with fail
          refine (HJ.out.run a b _ _ _ HOKA.out HOKB.out (HB5.out.trans (HB.out.mono HB5.out.size)) ((HVA.out.below (HB5.out.trans (HB.out.mono HB5.out.size))).mono (HB5.out.trans (HB.out.mono HB5.out.size)).size) ((HVB.out.below (HB5.out.trans (HB.out.mono HB5.out.size))).mono (HB5.out.trans (HB.out.mono HB5.out.size)).size)).mono ?_
          rintro e ux1 hj
          rw [Hx1.out] at hj
          obtain ⟨v1, rfl, hv1, hb1⟩ := hj
          obtain ⟨Ax1, cx1, rfl, _⟩ := id hv1
          unfold arV zA
          simp only [List.length_nil]
          have hal := Nm.alloc_below ux1 (.cells #[.int .i64 0, .int .i64 0, .slice Ax1 0 cx1] 25)
          have HUx := Lib.hid (HB.out.trans ((hb1.trans (hal.mono hb1.size)).mono HB.out.size))
          clear hv1 hb1 hal
          clear a0 a1 a2 b0 b1 b2 c0 c1 c2
          obtain ⟨a0, a1, a2, _⟩ := box3 (box_kept HZA.out HUx.out (Nat.le_refl _))
          obtain ⟨b0, b1, b2, _⟩ := box3 (box_kept HZB.out HUx.out (Nat.le_refl _))
          obtain ⟨c0, c1, c2, _⟩ := box3 (box_kept HZC.out HUx.out (Nat.le_refl _))
          go_wp2_with fail
          refine (HJ.out.run b c _ _ _ HOKB.out HOKC.out (HB5.out.trans (HUx.out.mono HB5.out.size)) ((HVB.out.below (HB5.out.trans (HUx.out.mono HB5.out.size))).mono (HB5.out.trans (HUx.out.mono HB5.out.size)).size) ((HVC.out.below (HB5.out.trans (HUx.out.mono HB5.out.size))).mono (HB5.out.trans (HUx.out.mono HB5.out.size)).size)).mono ?_
          rintro e uy1 hj
          rw [Hy1.out] at hj
          obtain ⟨v1, rfl, hv1, hb1⟩ := hj
          obtain ⟨Ay1, cy1, rfl, _⟩ := id hv1
          unfold arV zA
          simp only [List.length_nil]
          have hal := Nm.alloc_below uy1 (.cells #[.int .i64 0, .int .i64 0, .slice Ay1 0 cy1] 25)
          have HUy := Lib.hid (HUx.out.trans ((hb1.trans (hal.mono hb1.size)).mono HUx.out.size))
          clear hv1 hb1 hal
          clear a0 a1 a2 b0 b1 b2 c0 c1 c2
          obtain ⟨a0, a1, a2, _⟩ := box3 (box_kept HZA.out HUy.out (Nat.le_refl _))
          obtain ⟨b0, b1, b2, _⟩ := box3 (box_kept HZB.out HUy.out (Nat.le_refl _))
          obtain ⟨c0, c1, c2, _⟩ := box3 (box_kept HZC.out HUy.out (Nat.le_refl _))
          go_wp2
          go_roundw
          case rel => exact ⟨k + 1, by omega, by simp, HUy.out⟩
          case measure => simp [intOf]; omega
        | some y =>
          have Hy2 : Hid (J a y = none) := Lib.hid (by rw [hy1] at hy; exact hy)
          have HOKY := Lib.hid (HJ.out.ok b c y HOKB.out HOKC.out hy1)
          have Hy1 := Lib.hid hy1
          clear hy hy1
          go_wp2_with fail
          refine (HJ.out.run a b _ _ _ HOKA.out HOKB.out (HB5.out.trans (HB.out.mono HB5.out.size)) ((HVA.out.below (HB5.out.trans (HB.out.mono HB5.out.size))).mono (HB5.out.trans (HB.out.mono HB5.out.size)).size) ((HVB.out.below (HB5.out.trans (HB.out.mono HB5.out.size))).mono (HB5.out.trans (HB.out.mono HB5.out.size)).size)).mono ?_
          rintro e ux1 hj
          rw [Hx1.out] at hj
          obtain ⟨v1, rfl, hv1, hb1⟩ := hj
          obtain ⟨Ax1, cx1, rfl, _⟩ := id hv1
          unfold arV zA
          simp only [List.length_nil]
          have hal := Nm.alloc_below ux1 (.cells #[.int .i64 0, .int .i64 0, .slice Ax1 0 cx1] 25)
          have HUx := Lib.hid (HB.out.trans ((hb1.trans (hal.mono hb1.size)).mono HB.out.size))
          clear hv1 hb1 hal
          clear a0 a1 a2 b0 b1 b2 c0 c1 c2
          obtain ⟨a0, a1, a2, _⟩ := box3 (box_kept HZA.out HUx.out (Nat.le_refl _))
          obtain ⟨b0, b1, b2, _⟩ := box3 (box_kept HZB.out HUx.out (Nat.le_refl _))
          obtain ⟨c0, c1, c2, _⟩ := box3 (box_kept HZC.out HUx.out (Nat.le_refl _))
          go_wp2_with fail
          refine (HJ.out.run b c _ _ _ HOKB.out HOKC.out (HB5.out.trans (HUx.out.mono HB5.out.size)) ((HVB.out.below (HB5.out.trans (HUx.out.mono HB5.out.size))).mono (HB5.out.trans (HUx.out.mono HB5.out.size)).size) ((HVC.out.below (HB5.out.trans (HUx.out.mono HB5.out.size))).mono (HB5.out.trans (HUx.out.mono HB5.out.size)).size)).mono ?_
          rintro e uy1 hj
          rw [Hy1.out] at hj
          obtain ⟨v1, rfl, hv1, hb1⟩ := hj
          obtain ⟨Ay1, cy1, rfl, _⟩ := id hv1
          unfold arV NAr.ar
          simp only
          have hal := Nm.alloc_below uy1 (.cells #[.int .i64 (y.r : Int), .int .i64 (y.c : Int), .slice Ay1 y.l.length cy1] 25)
          have HUy := Lib.hid (HUx.out.trans ((hb1.trans (hal.mono hb1.size)).mono HUx.out.size))
          have HLEy := Lib.hid (Nat.le_trans HUx.out.size hb1.size)
          have HPy := Lib.hid (heap_alloc_new uy1 (.cells #[.int .i64 (y.r : Int), .int .i64 (y.c : Int), .slice Ay1 y.l.length cy1] 25))
          have HVY := Lib.hid ((hv1.below hal).mono hal.size)
          clear hv1 hb1 hal
          clear a0 a1 a2 b0 b1 b2 c0 c1 c2
          obtain ⟨a0, a1, a2, _⟩ := box3 (box_kept HZA.out HUy.out (Nat.le_refl _))
          obtain ⟨b0, b1, b2, _⟩ := box3 (box_kept HZB.out HUy.out (Nat.le_refl _))
          obtain ⟨c0, c1, c2, _⟩ := box3 (box_kept HZC.out HUy.out (Nat.le_refl _))
          obtain ⟨p0, p1, p2, g0, g1, g2⟩ := box3 HPy.out
          go_wp2_with fail
          refine (HJ.out.run a y _ _ _ HOKA.out HOKY.out (HB5.out.trans (HUy.out.mono HB5.out.size)) ((HVA.out.below (HB5.out.trans (HUy.out.mono HB5.out.size))).mono (HB5.out.trans (HUy.out.mono HB5.out.size)).size) HVY.out).mono ?_
          rintro e uy2 hj
          rw [Hy2.out] at hj
          obtain ⟨v2, rfl, hv2, hb2⟩ := hj
          obtain ⟨Ay2, cy2, rfl, _⟩ := id hv2
          unfold arV zA
          simp only [List.length_nil]
          have hpz := box_kept HPy.out hb2 (Nat.le_refl _)
          have HPSy := Lib.hid (set3 (.int .i64 0) (.int .i64 0) (.slice Ay2 0 cy2) hpz)
          have hst := below3 (.int .i64 0) (.int .i64 0) (.slice Ay2 0 cy2) (Below.refl uy1.heap.size uy2) (Nat.le_refl _)
          have HUSy := Lib.hid (below3 (.int .i64 0) (.int .i64 0) (.slice Ay2 0 cy2) (HUy.out.trans (hb2.mono HUy.out.size)) HLEy.out)
          clear p0 p1 p2 g0 g1 g2
          obtain ⟨p0, p1, p2, g0, g1, g2⟩ := box3 hpz
          clear hpz hv2 hst
          clear a0 a1 a2 b0 b1 b2 c0 c1 c2
          obtain ⟨a0, a1, a2, _⟩ := box3 (box_kept HZA.out HUSy.out (Nat.le_refl _))
          obtain ⟨b0, b1, b2, _⟩ := box3 (box_kept HZB.out HUSy.out (Nat.le_refl _))
          obtain ⟨c0, c1, c2, _⟩ := box3 (box_kept HZC.out HUSy.out (Nat.le_refl _))
          go_wp2
          go_roundw
          case rel => exact ⟨k + 1, by omega, by simp, HUSy.out⟩
          case measure => simp [intOf]; omega
      | some x =>
        have HOKX := Lib.hid (HJ.out.ok a b x HOKA.out HOKB.out hx)
        have Hx1 := Lib.hid hx
        rw [hx] at hass
        simp only [Option.bind_some] at hass
        clear hx
        cases hx2 : J x c with
        | none =>
          have hy : ((J b c).bind fun y => J a y) = none := by rw [← hass, hx2]
          have Hx2 := Lib.hid hx2
          clear hass hx2
          cases hy1 : J b c with
          | none =>
            have Hy1 := Lib.hid hy1
            clear hy hy1
            go_wp2_with fail
            refine (HJ.out.run a b _ _ _ HOKA.out HOKB.out (HB5.out.trans (HB.out.mono HB5.out.size)) ((HVA.out.below (HB5.out.trans (HB.out.mono HB5.out.size))).mono (HB5.out.trans (HB.out.mono HB5.out.size)).size) ((HVB.out.below (HB5.out.trans (HB.out.mono HB5.out.size))).mono (HB5.out.trans (HB.out.mono HB5.out.size)).size)).mono ?_
            rintro e ux1 hj
            rw [Hx1.out] at hj
            obtain ⟨v1, rfl, hv1, hb1⟩ := hj
            obtain ⟨Ax1, cx1, rfl, _⟩ := id hv1
            unfold arV NAr.ar
            simp only
            have hal := Nm.alloc_below ux1 (.cells #[.int .i64 (x.r : Int), .int .i64 (x.c : Int), .slice Ax1 x.l.length cx1] 25)
            have HUx := Lib.hid (HB.out.trans ((hb1.trans (hal.mono hb1.size)).mono HB.out.size))
            have HLEx := Lib.hid (Nat.le_trans HB.out.size hb1.size)
            have HPx := Lib.hid (heap_alloc_new ux1 (.cells #[.int .i64 (x.r : Int), .int .i64 (x.c : Int), .slice Ax1 x.l.length cx1] 25))
            have HVX := Lib.hid ((hv1.below hal).mono hal.size)
            clear hv1 hb1 hal
            clear a0 a1 a2 b0 b1 b2 c0 c1 c2
            obtain ⟨a0, a1, a2, _⟩ := box3 (box_kept HZA.out HUx.out (Nat.le_refl _))
            obtain ⟨b0, b1, b2, _⟩ := box3 (box_kept HZB.out HUx.out (Nat.le_refl _))
            obtain ⟨c0, c1, c2, _⟩ := box3 (box_kept HZC.out HUx.out (Nat.le_refl _))
            obtain ⟨p0, p1, p2, g0, g1, g2⟩ := box3 HPx.out
            go_wp2_with fail
            refine (HJ.out.run x c _ _ _ HOKX.out HOKC.out (HB5.out.trans (HUx.out.mono HB5.out.size)) HVX.out ((HVC.out.below (HB5.out.trans (HUx.out.mono HB5.out.size))).mono (HB5.out.trans (HUx.out.mono HB5.out.size)).size)).mono ?_
            rintro e ux2 hj
            rw [Hx2.out] at hj
            obtain ⟨v2, rfl, hv2, hb2⟩ := hj
            obtain ⟨Ax2, cx2, rfl, _⟩ := id hv2
            unfold arV zA
            simp only [List.length_nil]
            have hpz := box_kept HPx.out hb2 (Nat.le_refl _)
            have HPSx := Lib.hid (set3 (.int .i64 0) (.int .i64 0) (.slice Ax2 0 cx2) hpz)
            have hst := below3 (.int .i64 0) (.int .i64 0) (.slice Ax2 0 cx2) (Below.refl ux1.heap.size ux2) (Nat.le_refl _)
            have HUSx := Lib.hid (below3 (.int .i64 0) (.int .i64 0) (.slice Ax2 0 cx2) (HUx.out.trans (hb2.mono HUx.out.size)) HLEx.out)
            clear p0 p1 p2 g0 g1 g2
            obtain ⟨p0, p1, p2, g0, g1, g2⟩ := box3 hpz
            clear hpz hv2 hst
            clear a0 a1 a2 b0 b1 b2 c0 c1 c2
            obtain ⟨a0, a1, a2, _⟩ := box3 (box_kept HZA.out HUSx.out (Nat.le_refl _))
            obtain ⟨b0, b1, b2, _⟩ := box3 (box_kept HZB.out HUSx.out (Nat.le_refl _))
            obtain ⟨c0, c1, c2, _⟩ := box3 (box_kept HZC.out HUSx.out (Nat.le_refl _))
            go_wp2_with fail
            refine (HJ.out.run b c _ _ _ HOKB.out HOKC.out (HB5.out.trans (HUSx.out.mono HB5.out.size)) ((HVB.out.below (HB5.out.trans (HUSx.out.mono HB5.out.size))).mono (HB5.out.trans (HUSx.out.mono HB5.out.size)).size) ((HVC.out.below (HB5.out.trans (HUSx.out.mono HB5.out.size))).mono (HB5.out.trans (HUSx.out.mono HB5.out.size)).size)).mono ?_
            rintro e uy1 hj
            rw [Hy1.out] at hj
            obtain ⟨v1, rfl, hv1, hb1⟩ := hj
            obtain ⟨Ay1, cy1, rfl, _⟩ := id hv1
            unfold arV zA
            simp only [List.length_nil]
            have hal := Nm.alloc_below uy1 (.cells #[.int .i64 0, .int .i64 0, .slice Ay1 0 cy1] 25)
            have HUy := Lib.hid (HUSx.out.trans ((hb1.trans (hal.mono hb1.size)).mono HUSx.out.size))
            clear hv1 hb1 hal
            clear a0 a1 a2 b0 b1 b2 c0 c1 c2
            obtain ⟨a0, a1, a2, _⟩ := box3 (box_kept HZA.out HUy.out (Nat.le_refl _))
            obtain ⟨b0, b1, b2, _⟩ := box3 (box_kept HZB.out HUy.out (Nat.le_refl _))
            obtain ⟨c0, c1, c2, _⟩ := box3 (box_kept HZC.out HUy.out (Nat.le_refl _))
            go_wp2
            go_roundw
            case rel => exact ⟨k + 1, by omega, by simp, HUy.out⟩
            case measure => simp [intOf]; omega
          | some y =>
            have Hy2 : Hid (J a y = none) := Lib.hid (by rw [hy1] at hy; exact hy)
            have HOKY := Lib.hid (HJ.out.ok b c y HOKB.out HOKC.out hy1)
            have Hy1 := Lib.hid hy1
            clear hy hy1
            go_wp2_with fail
            refine (HJ.out.run a b _ _ _ HOKA.out HOKB.out (HB5.out.trans (HB.out.mono HB5.out.size)) ((HVA.out.below (HB5.out.trans (HB.out.mono HB5.out.size))).mono (HB5.out.trans (HB.out.mono HB5.out.size)).size) ((HVB.out.below (HB5.out.trans (HB.out.mono HB5.out.size))).mono (HB5.out.trans (HB.out.mono HB5.out.size)).size)).mono ?_
            rintro e ux1 hj
            rw [Hx1.out] at hj
            obtain ⟨v1, rfl, hv1, hb1⟩ := hj
            obtain ⟨Ax1, cx1, rfl, _⟩ := id hv1
            unfold arV NAr.ar
            simp only
            have hal := Nm.alloc_below ux1 (.cells #[.int .i64 (x.r : Int), .int .i64 (x.c : Int), .slice Ax1 x.l.length cx1] 25)
            have HUx := Lib.hid (HB.out.trans ((hb1.trans (hal.mono hb1.size)).mono HB.out.size))
            have HLEx := Lib.hid (Nat.le_trans HB.out.size hb1.size)
            have HPx := Lib.hid (heap_alloc_new ux1 (.cells #[.int .i64 (x.r : Int), .int .i64 (x.c : Int), .slice Ax1 x.l.length cx1] 25))
            have HVX := Lib.hid ((hv1.below hal).mono hal.size)
            clear hv1 hb1 hal
            clear a0 a1 a2 b0 b1 b2 c0 c1 c2
            obtain ⟨a0, a1, a2, _⟩ := box3 (box_kept HZA.out HUx.out (Nat.le_refl _))
            obtain ⟨b0, b1, b2, _⟩ := box3 (box_kept HZB.out HUx.out (Nat.le_refl _))
            obtain ⟨c0, c1, c2, _⟩ := box3 (box_kept HZC.out HUx.out (Nat.le_refl _))
            obtain ⟨p0, p1, p2, g0, g1, g2⟩ := box3 HPx.out
            go_wp2_with fail
            refine (HJ.out.run x c _ _ _ HOKX.out HOKC.out (HB5.out.trans (HUx.out.mono HB5.out.size)) HVX.out ((HVC.out.below (HB5.out.trans (HUx.out.mono HB5.out.size))).mono (HB5.out.trans (HUx.out.mono HB5.out.size)).size)).mono ?_
            rintro e ux2 hj
            rw [Hx2.out] at hj
            obtain ⟨v2, rfl, hv2, hb2⟩ := hj
            obtain ⟨Ax2, cx2, rfl, _⟩ := id hv2
            unfold arV zA
            simp only [List.length_nil]
            have hpz := box_kept HPx.out hb2 (Nat.le_refl _)
            have HPSx := Lib.hid (set3 (.int .i64 0) (.int .i64 0) (.slice Ax2 0 cx2) hpz)
            have hst := below3 (.int .i64 0) (.int .i64 0) (.slice Ax2 0 cx2) (Below.refl ux1.heap.size ux2) (Nat.le_refl _)
            have HUSx := Lib.hid (below3 (.int .i64 0) (.int .i64 0) (.slice Ax2 0 cx2) (HUx.out.trans (hb2.mono HUx.out.size)) HLEx.out)
            clear p0 p1 p2 g0 g1 g2
            obtain ⟨p0, p1, p2, g0, g1, g2⟩ := box3 hpz
            clear hpz hv2 hst
            clear a0 a1 a2 b0 b1 b2 c0 c1 c2
            obtain ⟨a0, a1, a2, _⟩ := box3 (box_kept HZA.out HUSx.out (Nat.le_refl _))
            obtain ⟨b0, b1, b2, _⟩ := box3 (box_kept HZB.out HUSx.out (Nat.le_refl _))
            obtain ⟨c0, c1, c2, _⟩ := box3 (box_kept HZC.out HUSx.out (Nat.le_refl _))
            go_wp2_with fail
            refine (HJ.out.run b c _ _ _ HOKB.out HOKC.out (HB5.out.trans (HUSx.out.mono HB5.out.size)) ((HVB.out.below (HB5.out.trans (HUSx.out.mono HB5.out.size))).mono (HB5.out.trans (HUSx.out.mono HB5.out.size)).size) ((HVC.out.below (HB5.out.trans (HUSx.out.mono HB5.out.size))).mono (HB5.out.trans (HUSx.out.mono HB5.out.size)).size)).mono ?_
            rintro e uy1 hj
            rw [Hy1.out] at hj
            obtain ⟨v1, rfl, hv1, hb1⟩ := hj
            obtain ⟨Ay1, cy1, rfl, _⟩ := id hv1
            unfold arV NAr.ar
            simp only
            have hal := Nm.alloc_below uy1 (.cells #[.int .i64 (y.r : Int), .int .i64 (y.c : Int), .slice Ay1 y.l.length cy1] 25)
            have HUy := Lib.hid (HUSx.out.trans ((hb1.trans (hal.mono hb1.size)).mono HUSx.out.size))
            have HLEy := Lib.hid (Nat.le_trans HUSx.out.size hb1.size)
            have HPy := Lib.hid (heap_alloc_new uy1 (.cells #[.int .i64 (y.r : Int), .int .i64 (y.c : Int), .slice Ay1 y.l.length cy1] 25))
            have HVY := Lib.hid ((hv1.below hal).mono hal.size)
            clear hv1 hb1 hal
            clear a0 a1 a2 b0 b1 b2 c0 c1 c2
            obtain ⟨a0, a1, a2, _⟩ := box3 (box_kept HZA.out HUy.out (Nat.le_refl _))
            obtain ⟨b0, b1, b2, _⟩ := box3 (box_kept HZB.out HUy.out (Nat.le_refl _))
            obtain ⟨c0, c1, c2, _⟩ := box3 (box_kept HZC.out HUy.out (Nat.le_refl _))
            obtain ⟨p0, p1, p2, g0, g1, g2⟩ := box3 HPy.out
            go_wp2_with fail
            refine (HJ.out.run a y _ _ _ HOKA.out HOKY.out (HB5.out.trans (HUy.out.mono HB5.out.size)) ((HVA.out.below (HB5.out.trans (HUy.out.mono HB5.out.size))).mono (HB5.out.trans (HUy.out.mono HB5.out.size)).size) HVY.out).mono ?_
            rintro e uy2 hj
            rw [Hy2.out] at hj
            obtain ⟨v2, rfl, hv2, hb2⟩ := hj
            obtain ⟨Ay2, cy2, rfl, _⟩ := id hv2
            unfold arV zA
            simp only [List.length_nil]
            have hpz := box_kept HPy.out hb2 (Nat.le_refl _)
            have HPSy := Lib.hid (set3 (.int .i64 0) (.int .i64 0) (.slice Ay2 0 cy2) hpz)
            have hst := below3 (.int .i64 0) (.int .i64 0) (.slice Ay2 0 cy2) (Below.refl uy1.heap.size uy2) (Nat.le_refl _)
            have HUSy := Lib.hid (below3 (.int .i64 0) (.int .i64 0) (.slice Ay2 0 cy2) (HUy.out.trans (hb2.mono HUy.out.size)) HLEy.out)
            clear p0 p1 p2 g0 g1 g2
            obtain ⟨p0, p1, p2, g0, g1, g2⟩ := box3 hpz
            clear hpz hv2 hst
            clear a0 a1 a2 b0 b1 b2 c0 c1 c2
            obtain ⟨a0, a1, a2, _⟩ := box3 (box_kept HZA.out HUSy.out (Nat.le_refl _))
            obtain ⟨b0, b1, b2, _⟩ := box3 (box_kept HZB.out HUSy.out (Nat.le_refl _))
            obtain ⟨c0, c1, c2, _⟩ := box3 (box_kept HZC.out HUSy.out (Nat.le_refl _))
            go_wp2
            go_roundw
            case rel => exact ⟨k + 1, by omega, by simp, HUSy.out⟩
            case measure => simp [intOf]; omega
        | some z =>
          have HOKZ := Lib.hid (HJ.out.ok x c z HOKX.out HOKC.out hx2)
          have hy : ((J b c).bind fun y => J a y) = some z := by rw [← hass, hx2]
          have Hx2 := Lib.hid hx2
          clear hass hx2
          obtain ⟨y, hy1, hy2⟩ := Option.bind_eq_some_iff.1 hy
          have HOKY := Lib.hid (HJ.out.ok b c y HOKB.out HOKC.out hy1)
          have Hy1 := Lib.hid hy1
          have Hy2 := Lib.hid hy2
          clear hy hy1 hy2
          go_wp2_with fail
          refine (HJ.out.run a b _ _ _ HOKA.out HOKB.out (HB5.out.trans (HB.out.mono HB5.out.size)) ((HVA.out.below (HB5.out.trans (HB.out.mono HB5.out.size))).mono (HB5.out.trans (HB.out.mono HB5.out.size)).size) ((HVB.out.below (HB5.out.trans (HB.out.mono HB5.out.size))).mono (HB5.out.trans (HB.out.mono HB5.out.size)).size)).mono ?_
          rintro e ux1 hj
          rw [Hx1.out] at hj
          obtain ⟨v1, rfl, hv1, hb1⟩ := hj
          obtain ⟨Ax1, cx1, rfl, _⟩ := id hv1
          unfold arV NAr.ar
          simp only
          have hal := Nm.alloc_below ux1 (.cells #[.int .i64 (x.r : Int), .int .i64 (x.c : Int), .slice Ax1 x.l.length cx1] 25)
          have HUx := Lib.hid (HB.out.trans ((hb1.trans (hal.mono hb1.size)).mono HB.out.size))
          have HLEx := Lib.hid (Nat.le_trans HB.out.size hb1.size)
          have HPx := Lib.hid (heap_alloc_new ux1 (.cells #[.int .i64 (x.r : Int), .int .i64 (x.c : Int), .slice Ax1 x.l.length cx1] 25))
          have HVX := Lib.hid ((hv1.below hal).mono hal.size)
          clear hv1 hb1 hal
          clear a0 a1 a2 b0 b1 b2 c0 c1 c2
          obtain ⟨a0, a1, a2, _⟩ := box3 (box_kept HZA.out HUx.out (Nat.le_refl _))
          obtain ⟨b0, b1, b2, _⟩ := box3 (box_kept HZB.out HUx.out (Nat.le_refl _))
          obtain ⟨c0, c1, c2, _⟩ := box3 (box_kept HZC.out HUx.out (Nat.le_refl _))
          obtain ⟨p0, p1, p2, g0, g1, g2⟩ := box3 HPx.out
          go_wp2_with fail
          refine (HJ.out.run x c _ _ _ HOKX.out HOKC.out (HB5.out.trans (HUx.out.mono HB5.out.size)) HVX.out ((HVC.out.below (HB5.out.trans (HUx.out.mono HB5.out.size))).mono (HB5.out.trans (HUx.out.mono HB5.out.size)).size)).mono ?_
          rintro e ux2 hj
          rw [Hx2.out] at hj
          obtain ⟨v2, rfl, hv2, hb2⟩ := hj
          obtain ⟨Ax2, cx2, rfl, _⟩ := id hv2
          unfold arV NAr.ar
          simp only
          have hpz := box_kept HPx.out hb2 (Nat.le_refl _)
          have HPSx := Lib.hid (set3 (.int .i64 (z.r : Int)) (.int .i64 (z.c : Int)) (.slice Ax2 z.l.length cx2) hpz)
          have hst := below3 (.int .i64 (z.r : Int)) (.int .i64 (z.c : Int)) (.slice Ax2 z.l.length cx2) (Below.refl ux1.heap.size ux2) (Nat.le_refl _)
          have HUSx := Lib.hid (below3 (.int .i64 (z.r : Int)) (.int .i64 (z.c : Int)) (.slice Ax2 z.l.length cx2) (HUx.out.trans (hb2.mono HUx.out.size)) HLEx.out)
          have HVSx := Lib.hid ((hv2.set3 hpz (.int .i64 (z.r : Int)) (.int .i64 (z.c : Int)) (.slice Ax2 z.l.length cx2)).mono (only3 (w := ux2) (g := ux1.heap.size) (.int .i64 (z.r : Int)) (.int .i64 (z.c : Int)) (.slice Ax2 z.l.length cx2)).size)
          clear p0 p1 p2 g0 g1 g2
          obtain ⟨p0, p1, p2, g0, g1, g2⟩ := box3 hpz
          clear hpz hv2 hst
          clear a0 a1 a2 b0 b1 b2 c0 c1 c2
          obtain ⟨a0, a1, a2, _⟩ := box3 (box_kept HZA.out HUSx.out (Nat.le_refl _))
          obtain ⟨b0, b1, b2, _⟩ := box3 (box_kept HZB.out HUSx.out (Nat.le_refl _))
          obtain ⟨c0, c1, c2, _⟩ := box3 (box_kept HZC.out HUSx.out (Nat.le_refl _))
          have HP9 := Lib.hid HPSx.out
          have HV9 := Lib.hid HVSx.out
          clear HPSx HVSx
          go_wp2_with fail
          refine (HJ.out.run b c _ _ _ HOKB.out HOKC.out (HB5.out.trans (HUSx.out.mono HB5.out.size)) ((HVB.out.below (HB5.out.trans (HUSx.out.mono HB5.out.size))).mono (HB5.out.trans (HUSx.out.mono HB5.out.size)).size) ((HVC.out.below (HB5.out.trans (HUSx.out.mono HB5.out.size))).mono (HB5.out.trans (HUSx.out.mono HB5.out.size)).size)).mono ?_
          rintro e uy1 hj
          rw [Hy1.out] at hj
          obtain ⟨v1, rfl, hv1, hb1⟩ := hj
          obtain ⟨Ay1, cy1, rfl, _⟩ := id hv1
          unfold arV NAr.ar
          simp only
          have hal := Nm.alloc_below uy1 (.cells #[.int .i64 (y.r : Int), .int .i64 (y.c : Int), .slice Ay1 y.l.length cy1] 25)
          have HUy := Lib.hid (HUSx.out.trans ((hb1.trans (hal.mono hb1.size)).mono HUSx.out.size))
          have HLEy := Lib.hid (Nat.le_trans HUSx.out.size hb1.size)
          have HLT9 := Lib.hid (Nat.lt_of_lt_of_le (Array.getElem?_eq_some_iff.1 HP9.out).1 hb1.size)
          have HPy := Lib.hid (heap_alloc_new uy1 (.cells #[.int .i64 (y.r : Int), .int .i64 (y.c : Int), .slice Ay1 y.l.length cy1] 25))
          have HVY := Lib.hid ((hv1.below hal).mono hal.size)
          have HP9b := Lib.hid (box_kept HP9.out (hb1.trans (hal.mono hb1.size)) (Nat.le_refl _))
          have HV9b := Lib.hid ((HV9.out.below (hb1.trans (hal.mono hb1.size))).mono (hb1.trans (hal.mono hb1.size)).size)
          clear hv1 hb1 hal
          clear a0 a1 a2 b0 b1 b2 c0 c1 c2
          obtain ⟨a0, a1, a2, _⟩ := box3 (box_kept HZA.out HUy.out (Nat.le_refl _))
          obtain ⟨b0, b1, b2, _⟩ := box3 (box_kept HZB.out HUy.out (Nat.le_refl _))
          obtain ⟨c0, c1, c2, _⟩ := box3 (box_kept HZC.out HUy.out (Nat.le_refl _))
          obtain ⟨p0, p1, p2, g0, g1, g2⟩ := box3 HPy.out
          go_wp2_with fail
          refine (HJ.out.run a y _ _ _ HOKA.out HOKY.out (HB5.out.trans (HUy.out.mono HB5.out.size)) ((HVA.out.below (HB5.out.trans (HUy.out.mono HB5.out.size))).mono (HB5.out.trans (HUy.out.mono HB5.out.size)).size) HVY.out).mono ?_
          rintro e uy2 hj
          rw [Hy2.out] at hj
          obtain ⟨v2, rfl, hv2, hb2⟩ := hj
          obtain ⟨Ay2, cy2, rfl, _⟩ := id hv2
          unfold arV NAr.ar
          simp only
          have hpz := box_kept HPy.out hb2 (Nat.le_refl _)
          have HPSy := Lib.hid (set3 (.int .i64 (z.r : Int)) (.int .i64 (z.c : Int)) (.slice Ay2 z.l.length cy2) hpz)
          have hst := below3 (.int .i64 (z.r : Int)) (.int .i64 (z.c : Int)) (.slice Ay2 z.l.length cy2) (Below.refl uy1.heap.size uy2) (Nat.le_refl _)
          have HUSy := Lib.hid (below3 (.int .i64 (z.r : Int)) (.int .i64 (z.c : Int)) (.slice Ay2 z.l.length cy2) (HUy.out.trans (hb2.mono HUy.out.size)) HLEy.out)
          have HVSy := Lib.hid ((hv2.set3 hpz (.int .i64 (z.r : Int)) (.int .i64 (z.c : Int)) (.slice Ay2 z.l.length cy2)).mono (only3 (w := uy2) (g := uy1.heap.size) (.int .i64 (z.r : Int)) (.int .i64 (z.c : Int)) (.slice Ay2 z.l.length cy2)).size)
          have HP9c := Lib.hid (((only3 (w := uy2) (g := uy1.heap.size) (.int .i64 (z.r : Int)) (.int .i64 (z.c : Int)) (.slice Ay2 z.l.length cy2)).block _ (Array.getElem?_eq_some_iff.1 (box_kept HP9b.out hb2 (Nat.le_refl _))).1 (by have h1 := HLT9.out; show ¬ _ = _; omega)).trans (box_kept HP9b.out hb2 (Nat.le_refl _)))
          have HV9c := Lib.hid (((HV9b.out.below hb2).mono hb2.size).set3 hpz (.int .i64 (z.r : Int)) (.int .i64 (z.c : Int)) (.slice Ay2 z.l.length cy2))
          clear p0 p1 p2 g0 g1 g2
          obtain ⟨p0, p1, p2, g0, g1, g2⟩ := box3 hpz
          clear hpz hv2 hst
          clear a0 a1 a2 b0 b1 b2 c0 c1 c2
          obtain ⟨a0, a1, a2, _⟩ := box3 (box_kept HZA.out HUSy.out (Nat.le_refl _))
          obtain ⟨b0, b1, b2, _⟩ := box3 (box_kept HZB.out HUSy.out (Nat.le_refl _))
          obtain ⟨c0, c1, c2, _⟩ := box3 (box_kept HZC.out HUSy.out (Nat.le_refl _))
          obtain ⟨x0, x1, x2, _⟩ := box3 HP9c.out
          obtain ⟨y0, y1, y2, _⟩ := box3 HPSy.out
          have hsm := rsame_any _ (z.r : Int) (z.c : Int) (z.r : Int) (z.c : Int) _ _ z.l z.l (by have := HOKZ.out.dims; omega) _ (Nat.le_refl _) (HV9c.out.mono (only3 (w := uy2) (g := uy1.heap.size) (.int .i64 (z.r : Int)) (.int .i64 (z.c : Int)) (.slice Ay2 z.l.length cy2)).size) HVSy.out
          rw [sameA_refl] at hsm
          have HSM := Lib.hid hsm
          clear hsm
          go_wp2_with fail
          refine HSM.out.mono ?_
          rintro e u9 ⟨rfl, hb9⟩
          have HU9 := Lib.hid (HUSy.out.trans (hb9.mono HUSy.out.size))
          clear hb9
          go_wp2
          go_roundw
          case rel => exact ⟨k + 1, by omega, by simp, HU9.out⟩
          case measure => simp [intOf]; omega
    · obtain rfl : k = 2 := by omega
      go_wp2
      go_ret
      exact ⟨rfl, HB5.out.trans (HB.out.mono HB5.out.size)⟩
end Go.Proofs.YtfgddhabepllfaaDoor
