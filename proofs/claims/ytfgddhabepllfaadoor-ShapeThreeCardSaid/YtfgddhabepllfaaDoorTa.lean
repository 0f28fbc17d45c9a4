/- ShapeThree: it comes to the same which two are joined first. -/
import Derived.Test.YtfgddhabepllfaaDoorJa
namespace Go.Proofs.YtfgddhabepllfaaDoor
open Go.RowKit

set_option maxRecDepth 100000 in
set_option maxHeartbeats 8000000 in
theorem three_out (r1 k1 r2 k2 r3 k3 : Int) {va vb vc : Value} {la lb lc : List Vl} (z1 z2 z3 z4 z5 z6 : Bool) (h : z1 = false ∨ z2 = false ∨ z3 = false ∨ z4 = false ∨ z5 = false ∨ z6 = false) (w : World) (he : Env w) (hva : ValAt w.heap.size w va la) (hvb : ValAt w.heap.size w vb lb) (hvc : ValAt w.heap.size w vc lc)
    (hs1 : smallB la = z1) (hs2 : smallB lb = z2) (hs3 : smallB lc = z3) (hr1 : rightA ⟨r1, k1, la⟩ = z4) (hr2 : rightA ⟨r2, k2, lb⟩ = z5) (hr3 : rightA ⟨r3, k3, lc⟩ = z6) :
    Calls Tryd.prog 10 #[arV r1 k1 va, arV r2 k2 vb, arV r3 k3 vc] w fun e w' => e = .returned (.bool true) ∧ Below w.heap.size w w' := by
  obtain ⟨W0, hW0⟩ : ∃ W0, ((w.alloc (.cells #[.int .i64 r1, .int .i64 k1, va] 25)).alloc (.cells #[.int .i64 r2, .int .i64 k2, vb] 25)).alloc (.cells #[.int .i64 r3, .int .i64 k3, vc] 25) = W0 := ⟨_, rfl⟩
  have hb0 : Below w.heap.size w W0 := by rw [← hW0]; exact (((Below.refl _ _).alloc (Nat.le_refl _) _).alloc (by simp) _).alloc (by simp; omega) _
  have hx0 : W0.heap[w.heap.size]? = some (.cells #[.int .i64 r1, .int .i64 k1, va] 25 (0, 0)) := by rw [← hW0]; exact (Below.heap_alloc _ _ _ (by simp; omega)).trans two_old
  have hx1 : W0.heap[w.heap.size + 1]? = some (.cells #[.int .i64 r2, .int .i64 k2, vb] 25 (0, 0)) := by rw [← hW0]; exact (Below.heap_alloc _ _ _ (by simp)).trans two_new
  have hx2 : W0.heap[w.heap.size + 1 + 1]? = some (.cells #[.int .i64 r3, .int .i64 k3, vc] 25 (0, 0)) := by rw [← hW0]; have := heap_alloc_new ((w.alloc (.cells #[.int .i64 r1, .int .i64 k1, va] 25)).alloc (.cells #[.int .i64 r2, .int .i64 k2, vb] 25)) (.cells #[.int .i64 r3, .int .i64 k3, vc] 25); simpa using this
  have HW0 := Lib.hid hW0
  have HB0 := Lib.hid hb0
  have HX0 := Lib.hid hx0
  have HX1 := Lib.hid hx1
  have HX2 := Lib.hid hx2
  have HA := Lib.hid (fun W (hW : Below w.heap.size w W) => awake_any W (he.below hW))
  have HSA := Lib.hid (fun W (hW : Below w.heap.size w W) => small_any _ r1 k1 va la W hW.size (hva.below hW))
  rw [hs1] at HSA
  have HRA : Hid (z1 = true → ∀ W, Below w.heap.size w W → Calls Tryd.prog 15 #[arV r1 k1 va] W fun e w' => e = .returned (.bool z4) ∧ Below W.heap.size W w') := Lib.hid (fun h1 W hW => by
    rw [← hr1]
    refine rrighta_any _ r1 k1 va la ?_ W hW.size (hva.below hW)
    rw [h1] at hs1
    unfold smallB at hs1
    rw [Bool.and_eq_true, decide_eq_true_eq] at hs1
    omega)
  have HSB := Lib.hid (fun W (hW : Below w.heap.size w W) => small_any _ r2 k2 vb lb W hW.size (hvb.below hW))
  rw [hs2] at HSB
  have HRB : Hid (z2 = true → ∀ W, Below w.heap.size w W → Calls Tryd.prog 15 #[arV r2 k2 vb] W fun e w' => e = .returned (.bool z5) ∧ Below W.heap.size W w') := Lib.hid (fun h1 W hW => by
    rw [← hr2]
    refine rrighta_any _ r2 k2 vb lb ?_ W hW.size (hvb.below hW)
    rw [h1] at hs2
    unfold smallB at hs2
    rw [Bool.and_eq_true, decide_eq_true_eq] at hs2
    omega)
  have HSC := Lib.hid (fun W (hW : Below w.heap.size w W) => small_any _ r3 k3 vc lc W hW.size (hvc.below hW))
  rw [hs3] at HSC
  have HRC : Hid (z3 = true → ∀ W, Below w.heap.size w W → Calls Tryd.prog 15 #[arV r3 k3 vc] W fun e w' => e = .returned (.bool z6) ∧ Below W.heap.size W w') := Lib.hid (fun h1 W hW => by
    rw [← hr3]
    refine rrighta_any _ r3 k3 vc lc ?_ W hW.size (hvc.below hW)
    rw [h1] at hs3
    unfold smallB at hs3
    rw [Bool.and_eq_true, decide_eq_true_eq] at hs3
    omega)
  obtain ⟨A1, cp1, rfl, _⟩ := id hva
  obtain ⟨A2, cp2, rfl, _⟩ := id hvb
  obtain ⟨A3, cp3, rfl, _⟩ := id hvc
  have HH := Lib.hid h
  clear hs1 hs2 hs3 hr1 hr2 hr3 he hva hvb hvc hW0 hb0 hx0 hx1 hx2 h
  unfold arV at *
  go_enter Tryd.func10, Tryd.ntmps10
  go_wp2_with fail
  rw [HW0.out]
  refine (HA.out _ HB0.out).mono ?_
  rintro e w1 ⟨rfl, hb1⟩
  have HC1 := Lib.hid hb1
  clear hb1
  obtain ⟨a0, a1, a2, _⟩ := box3 (box_kept HX0.out HC1.out (Nat.le_refl _))
  obtain ⟨b0, b1, b2, _⟩ := box3 (box_kept HX1.out HC1.out (Nat.le_refl _))
  obtain ⟨c0, c1, c2, _⟩ := box3 (box_kept HX2.out HC1.out (Nat.le_refl _))
  go_wp2_with fail
  refine (HSA.out _ (HB0.out.trans (HC1.out.mono HB0.out.size))).mono ?_
  rintro e w2 ⟨rfl, hb2⟩
  have HC2 := Lib.hid (HC1.out.trans (hb2.mono HC1.out.size))
  clear hb2 a0 a1 a2 b0 b1 b2 c0 c1 c2
  obtain ⟨a0, a1, a2, _⟩ := box3 (box_kept HX0.out HC2.out (Nat.le_refl _))
  obtain ⟨b0, b1, b2, _⟩ := box3 (box_kept HX1.out HC2.out (Nat.le_refl _))
  obtain ⟨c0, c1, c2, _⟩ := box3 (box_kept HX2.out HC2.out (Nat.le_refl _))
  cases z1 with
  | false =>
    go_wp2
    go_ret
    exact ⟨rfl, HB0.out.trans (HC2.out.mono HB0.out.size)⟩
  | true =>
    go_wp2_with fail
    refine (HSB.out _ (HB0.out.trans (HC2.out.mono HB0.out.size))).mono ?_
    rintro e w3 ⟨rfl, hb3⟩
    have HC3 := Lib.hid (HC2.out.trans (hb3.mono HC2.out.size))
    clear hb3 a0 a1 a2 b0 b1 b2 c0 c1 c2
    obtain ⟨a0, a1, a2, _⟩ := box3 (box_kept HX0.out HC3.out (Nat.le_refl _))
    obtain ⟨b0, b1, b2, _⟩ := box3 (box_kept HX1.out HC3.out (Nat.le_refl _))
    obtain ⟨c0, c1, c2, _⟩ := box3 (box_kept HX2.out HC3.out (Nat.le_refl _))
    cases z2 with
    | false =>
      go_wp2
      go_ret
      exact ⟨rfl, HB0.out.trans (HC3.out.mono HB0.out.size)⟩
    | true =>
      go_wp2_with fail
      refine (HSC.out _ (HB0.out.trans (HC3.out.mono HB0.out.size))).mono ?_
      rintro e w4 ⟨rfl, hb4⟩
      have HC4 := Lib.hid (HC3.out.trans (hb4.mono HC3.out.size))
      clear hb4 a0 a1 a2 b0 b1 b2 c0 c1 c2
      obtain ⟨a0, a1, a2, _⟩ := box3 (box_kept HX0.out HC4.out (Nat.le_refl _))
      obtain ⟨b0, b1, b2, _⟩ := box3 (box_kept HX1.out HC4.out (Nat.le_refl _))
      obtain ⟨c0, c1, c2, _⟩ := box3 (box_kept HX2.out HC4.out (Nat.le_refl _))
      cases z3 with
      | false =>
        go_wp2
        go_ret
        exact ⟨rfl, HB0.out.trans (HC4.out.mono HB0.out.size)⟩
      | true =>
        have HRA2 := Lib.hid (HRA.out (by first | trivial | rfl))
        have HRB2 := Lib.hid (HRB.out (by first | trivial | rfl))
        have HRC2 := Lib.hid (HRC.out (by first | trivial | rfl))
        go_wp2_with fail
        refine (HRA2.out _ (HB0.out.trans (HC4.out.mono HB0.out.size))).mono ?_
        rintro e w5 ⟨rfl, hb5⟩
        have HC5 := Lib.hid (HC4.out.trans (hb5.mono HC4.out.size))
        clear hb5 a0 a1 a2 b0 b1 b2 c0 c1 c2
        obtain ⟨a0, a1, a2, _⟩ := box3 (box_kept HX0.out HC5.out (Nat.le_refl _))
        obtain ⟨b0, b1, b2, _⟩ := box3 (box_kept HX1.out HC5.out (Nat.le_refl _))
        obtain ⟨c0, c1, c2, _⟩ := box3 (box_kept HX2.out HC5.out (Nat.le_refl _))
        cases z4 with
        | false =>
          go_wp2
          go_ret
          exact ⟨rfl, HB0.out.trans (HC5.out.mono HB0.out.size)⟩
        | true =>
          go_wp2_with fail
          refine (HRB2.out _ (HB0.out.trans (HC5.out.mono HB0.out.size))).mono ?_
          rintro e w6 ⟨rfl, hb6⟩
          have HC6 := Lib.hid (HC5.out.trans (hb6.mono HC5.out.size))
          clear hb6 a0 a1 a2 b0 b1 b2 c0 c1 c2
          obtain ⟨a0, a1, a2, _⟩ := box3 (box_kept HX0.out HC6.out (Nat.le_refl _))
          obtain ⟨b0, b1, b2, _⟩ := box3 (box_kept HX1.out HC6.out (Nat.le_refl _))
          obtain ⟨c0, c1, c2, _⟩ := box3 (box_kept HX2.out HC6.out (Nat.le_refl _))
          cases z5 with
          | false =>
            go_wp2
            go_ret
            exact ⟨rfl, HB0.out.trans (HC6.out.mono HB0.out.size)⟩
          | true =>
            go_wp2_with fail
            refine (HRC2.out _ (HB0.out.trans (HC6.out.mono HB0.out.size))).mono ?_
            rintro e w7 ⟨rfl, hb7⟩
            have HC7 := Lib.hid (HC6.out.trans (hb7.mono HC6.out.size))
            clear hb7 a0 a1 a2 b0 b1 b2 c0 c1 c2
            obtain ⟨a0, a1, a2, _⟩ := box3 (box_kept HX0.out HC7.out (Nat.le_refl _))
            obtain ⟨b0, b1, b2, _⟩ := box3 (box_kept HX1.out HC7.out (Nat.le_refl _))
            obtain ⟨c0, c1, c2, _⟩ := box3 (box_kept HX2.out HC7.out (Nat.le_refl _))
            cases z6 with
            | false =>
              go_wp2
              go_ret
              exact ⟨rfl, HB0.out.trans (HC7.out.mono HB0.out.size)⟩
            | true => rcases HH.out with h | h | h | h | h | h <;> cases h
end Go.Proofs.YtfgddhabepllfaaDoor
