/- ShapeMakes: of any values, and any shape, the array, or that there is none. -/
import Derived.Test.YtfgddhabepllfaaDoorOa
namespace Go.Proofs.YtfgddhabepllfaaDoor
open Go.RowKit

theorem one_len (x : Vl) : (oneA x).l.length ≤ 1 := by unfold oneA badA; split <;> simp
theorem zA_wrong : rightA ⟨0, 0, []⟩ = false := rfl
set_option maxRecDepth 100000 in
set_option maxHeartbeats 8000000 in
theorem makes_out (r c : Int) {v : Value} {l : List Vl} (w : World) (he : Env w) (hv : ValAt w.heap.size w v l) (_hwf : WfL l) (hs : smallB l = false) :
    Calls Tryd.prog 3 #[.int .i64 r, .int .i64 c, v] w fun e w' => e = .returned (.bool true) ∧ Below w.heap.size w w' := by
  have HA := Lib.hid (awake_any w he)
  have HS := Lib.hid (fun W (hW : Below w.heap.size w W) => small_any _ r c v l W hW.size (hv.below hW))
  rw [hs] at HS
  obtain ⟨A, cp, rfl, _⟩ := id hv
  clear hs hv he
  unfold arV at *
  go_enter Tryd.func3, Tryd.ntmps3
  go_wp2_with fail
  refine HA.out.mono ?_
  rintro e w1 ⟨rfl, hb1⟩
  have HB2 := Lib.hid (hb1.alloc hb1.size (.cells #[.int .i64 r, .int .i64 c, .slice A l.length cp] 25))
  clear hb1
  go_wp2_with fail
  refine (HS.out _ HB2.out).mono ?_
  rintro e w2 ⟨rfl, hb2⟩
  have HB3 := Lib.hid (HB2.out.trans (hb2.mono HB2.out.size))
  clear hb2
  go_wp2
  go_ret
  exact ⟨rfl, HB3.out⟩
set_option maxRecDepth 100000 in
set_option maxHeartbeats 8000000 in
theorem makes_yes (r c : Int) {v : Value} {l : List Vl} (w : World) (he : Env w) (hv : ValAt w.heap.size w v l) (hwf : WfL l) (hs : smallB l = true) (hr : rightA ⟨r, c, l⟩ = true) :
    Calls Tryd.prog 3 #[.int .i64 r, .int .i64 c, v] w fun e w' => e = .returned (.bool true) ∧ Below w.heap.size w w' := by
  have HA := Lib.hid (awake_any w he)
  have HS := Lib.hid (fun W (hW : Below w.heap.size w W) => small_any _ r c v l W hW.size (hv.below hW))
  rw [hs] at HS
  have hlen : l.length ≤ 300 := by
    unfold smallB at hs
    rw [Bool.and_eq_true, decide_eq_true_eq] at hs
    exact hs.1
  have HRR := Lib.hid (fun W (hW : Below w.heap.size w W) => rrighta_any _ r c v l (by omega) W hW.size (hv.below hW))
  rw [hr] at HRR
  have HPR := Lib.hid (fun W (hW : Below w.heap.size w W) => righta_any _ r c v l (by omega) hwf W hW.size (hv.below hW) (he.below hW))
  rw [hr] at HPR
  have HM := Lib.hid (fun W (hW : Below w.heap.size w W) => make_yes _ r c v l hr hwf W (he.below hW) hW.size (hv.below hW))
  have HSA := Lib.hid (fun W (hW : Below w.heap.size w W) => psame_any _ r c r c v v l l (by omega) W hW.size (hv.below hW) (hv.below hW))
  have HSB := Lib.hid (fun W (hW : Below w.heap.size w W) => rsame_any _ r c r c v v l l (by omega) W hW.size (hv.below hW) (hv.below hW))
  rw [sameA_refl] at HSA HSB
  have HVV := Lib.hid hv
  have HWF := Lib.hid hwf
  have HE := Lib.hid he
  have HSBA := Lib.hid (fun W u (hW : Below w.heap.size w W) (hu : ValAt W.heap.size W u l) => rsame_any _ r c r c u v l l (by omega) W (Nat.le_refl _) hu ((hv.below hW).mono hW.size))
  rw [sameA_refl] at HSBA
  have HRB0 := Lib.hid (fun W u n (hW : Below w.heap.size w W) (hn : n ≤ W.heap.size) (hu : ValAt n W u l) => righta_any _ r c u l (by omega) hwf W hn hu (he.below hW))
  rw [hr] at HRB0
  obtain ⟨A, cp, rfl, hcp, _⟩ := id hv
  clear hs hr he hv hwf
  unfold arV at *
  go_enter Tryd.func3, Tryd.ntmps3
  go_wp2_with fail
  refine HA.out.mono ?_
  rintro e w1 ⟨rfl, hb1⟩
  have HB2 := Lib.hid (hb1.alloc hb1.size (.cells #[.int .i64 r, .int .i64 c, .slice A l.length cp] 25))
  have HX2 := Lib.hid (heap_alloc_new w1 (.cells #[.int .i64 r, .int .i64 c, .slice A l.length cp] 25))
  clear hb1
  go_wp2_with fail
  refine (HS.out _ HB2.out).mono ?_
  rintro e w2 ⟨rfl, hb2⟩
  have HB3 := Lib.hid (HB2.out.trans (hb2.mono HB2.out.size))
  have HX3 := Lib.hid (box_kept HX2.out hb2 (Nat.le_refl _))
  clear hb2 HX2
  go_wp2_with fail
  refine (HM.out _ HB3.out).mono ?_
  rintro e w3 ⟨v3, rfl, hv3, hb3⟩
  obtain ⟨A3, cp3, rfl, _⟩ := id hv3
  unfold arV
  simp only
  have hal := Nm.alloc_below w3 (.cells #[.int .i64 r, .int .i64 c, .slice A3 l.length cp3] 25)
  have HB4 := Lib.hid (HB3.out.trans ((hb3.trans (hal.mono hb3.size)).mono HB3.out.size))
  have HX4 := Lib.hid (box_kept HX3.out (hb3.trans (hal.mono hb3.size)) (Nat.le_refl _))
  have HXB4 := Lib.hid (heap_alloc_new w3 (.cells #[.int .i64 r, .int .i64 c, .slice A3 l.length cp3] 25))
  have HV4 := Lib.hid ((hv3.below hal).mono hal.size)
  obtain ⟨a0, a1, a2, _⟩ := box3 HX4.out
  clear hb3 hv3 hal HX3
  go_wp2_with fail
  refine (HRR.out _ HB4.out).mono ?_
  rintro e w5 ⟨rfl, hb5⟩
  have HB5 := Lib.hid (HB4.out.trans (hb5.mono HB4.out.size))
  have HX5 := Lib.hid (box_kept HX4.out hb5 (Nat.le_refl _))
  have HXB5 := Lib.hid (box_kept HXB4.out hb5 (Nat.le_refl _))
  have HV5 := Lib.hid ((HV4.out.below hb5).mono hb5.size)
  clear a0 a1 a2 hb5 HX4 HXB4 HV4
  obtain ⟨a0, a1, a2, _⟩ := box3 HX5.out
  go_wp2_with fail
  refine (HPR.out _ HB5.out).mono ?_
  rintro e w6 ⟨rfl, hb6⟩
  have HB6 := Lib.hid (HB5.out.trans (hb6.mono HB5.out.size))
  have HX6 := Lib.hid (box_kept HX5.out hb6 (Nat.le_refl _))
  have HXB6 := Lib.hid (box_kept HXB5.out hb6 (Nat.le_refl _))
  have HV6 := Lib.hid ((HV5.out.below hb6).mono hb6.size)
  clear a0 a1 a2 hb6 HX5 HXB5 HV5
  obtain ⟨a0, a1, a2, _⟩ := box3 HX6.out
  obtain ⟨b0, b1, b2, _⟩ := box3 HXB6.out
  go_wp2_with fail
  refine (HSBA.out _ _ HB6.out HV6.out).mono ?_
  rintro e w8 ⟨rfl, hb8⟩
  have HB8 := Lib.hid (HB6.out.trans (hb8.mono HB6.out.size))
  have HXA8 := Lib.hid (box_kept HX6.out hb8 (Nat.le_refl _))
  have HXB8 := Lib.hid (box_kept HXB6.out hb8 (Nat.le_refl _))
  have HV8 := Lib.hid ((HV6.out.below hb8).mono hb8.size)
  have HE8 := Lib.hid (HE.out.below HB8.out)
  have HRB := Lib.hid (fun W (hW : Below w8.heap.size w8 W) => HRB0.out W _ _ (HB8.out.trans (hW.mono HB8.out.size)) hW.size (HV8.out.below hW))
  clear a0 a1 a2 b0 b1 b2 hb8 HX6 HXB6 HV6
  go_wp2_with fail
  go_loopw [61] (fun i wr => ∃ k : Nat, k ≤ l.length ∧ i = .int .i64 (k : Int) ∧ Below w8.heap.size w8 wr) (fun i _ => l.length - (intOf i).toNat)
  case atStart => exact ⟨0, by omega, rfl, Below.refl _ _⟩
  case round =>
    obtain ⟨k, hk, rfl, hB⟩ := hrel
    have HB := Lib.hid hB
    clear hB
    by_cases hlt : k < l.length
    · obtain ⟨g, o, c9, hvv, hc9, k0, k1, k2, k3, k4, k5⟩ := HVV.out.get (HB8.out.trans (HB.out.mono HB8.out.size)) hlt
      simp only [Value.slice.injEq, true_and] at hvv
      obtain ⟨rfl, rfl⟩ := hvv
      have hwx := HWF.out _ (gt_mem hlt)
      obtain ⟨x, hx⟩ : ∃ x, gt l k = x := ⟨_, rfl⟩
      rw [hx] at k0 k1 k2 k3 k4 k5 hwx
      have HO1 := Lib.hid (fun W hW => one_any x hwx W hW)
      have HO2 := Lib.hid (fun W => rone_any x W)
      have hol := one_len x
      obtain ⟨⟨yr, yc, yl⟩, hy⟩ : ∃ y, oneA x = y := ⟨_, rfl⟩
      rw [hy] at HO1 HO2 hol
      simp only at hol
      have HSM := Lib.hid (fun W u1 u2 (n : Nat) (hn : n ≤ W.heap.size) (h1 : ValAt n W u1 yl) (h2 : ValAt n W u2 yl) => rsame_any n yr yc yr yc u1 u2 yl yl (by omega) W hn h1 h2)
      simp only [sameA_refl] at HSM
      obtain ⟨xk, xm, xe, xt, xb, xf⟩ := x
      unfold vV at HO1 HO2
      simp only at k0 k1 k2 k3 k4 k5 HO1 HO2
      have hi : (k : Int) < (l.length : Int) := by omega
      have hi0 : (0 : Int) ≤ (k : Int) := by omega
      obtain ⟨wa, hwa⟩ : ∃ wa, wr.alloc (.cells #[.int .i64 xk, .int .i64 xm, .int .i64 xe, .string xt, .bool xb, .int .i64 xf] 34) = wa := ⟨_, rfl⟩
      have HAL : Hid (Below wr.heap.size wr wa) := Lib.hid (by rw [← hwa]; exact Nm.alloc_below _ _)
      have HXA : Hid (wa.heap[wr.heap.size]? = some (.cells #[.int .i64 xk, .int .i64 xm, .int .i64 xe, .string xt, .bool xb, .int .i64 xf] 34 (0, 0))) := Lib.hid (by rw [← hwa]; exact heap_alloc_new _ _)
      have HWA := Lib.hid hwa
      clear hwx hx hol hy hwa hc9
      go_wp2_with fail
      rw [HWA.out]
      refine wp_region_held_drew (S := fun X => Below wa.heap.size wa X) (by kernel_rfl) ((Below.refl _ _).drew) (fun hS => ?_)
      refine wpAnyH_take (i := 0) (v := ?v0l) rfl (by kernel_rfl) (by kernel_rfl) (by kernel_rfl) (fun _ _ _ h => h) (Or.inl ⟨by kernel_rfl, ?h0l⟩) hS ?_
      case h0l => (rintro w2 hb; obtain ⟨q0, q1, q2, q3, q4, q5, _⟩ := box6 (box_kept HXA.out hb (Nat.le_refl _)); go_simp; try with_reducible rfl)
      refine wpAnyH_take (i := 2) (v := ?v2l) rfl (by kernel_rfl) (by kernel_rfl) (by kernel_rfl) (fun _ _ _ h => h) (Or.inl ⟨by kernel_rfl, ?h2l⟩) hS ?_
      case h2l => (rintro w2 hb; obtain ⟨q0, q1, q2, q3, q4, q5, _⟩ := box6 (box_kept HXA.out hb (Nat.le_refl _)); go_simp; try with_reducible rfl)
      refine wpAnyH_ready (rs := [1]) (by kernel_rfl) (by simp) (AllReadyH.cons rfl (fun K hK => ?_) AllReadyH.nil)
      go_simp
      go_wp2_with (go_at_call 18; refine (HO1.out _ (HE8.out.below (HB.out.trans (HAL.out.trans (hS.mono HAL.out.size) |> fun h => h.mono HB.out.size)))).mono ?_; rintro e1 x1 ⟨v1, rfl, hv1, hb1⟩; obtain ⟨A1', c1', rfl, _⟩ := id hv1; unfold arV)
      refine hK.out _ _ ((hS.trans (hb1.mono hS.size))) (fun hS1 => ?_); clear hK K
      refine wpAnyH_ready (rs := [3]) (by kernel_rfl) (by simp) (AllReadyH.cons rfl (fun K hK => ?_) AllReadyH.nil)
      go_simp
      go_wp2_with (go_at_call 19; refine (HO2.out _).mono ?_; rintro e3 x3 ⟨v3, rfl, hv3, hb3⟩; obtain ⟨A3', c3', rfl, _⟩ := id hv3; unfold arV)
      refine hK.out _ _ ((hS1.trans (hb3.mono hS1.size))) (fun hS3 => ?_); clear hK K
      refine wpAnyH_ready (rs := [4]) (by kernel_rfl) (by simp) (AllReadyH.cons rfl (fun K hK => ?_) AllReadyH.nil)
      go_simp
      go_wp2_with (go_at_call 17; refine (HSM.out _ _ _ _ (Nat.le_refl _) ((hv1.below hb3).mono hb3.size) hv3).mono ?_; rintro e4 x4 ⟨rfl, hb4⟩)
      refine hK.out _ _ ((hS3.trans (hb4.mono hS3.size))) (fun hS4 => ?_); clear hK K
      refine wpAnyH_take (i := 5) (v := .bool false) rfl (by kernel_rfl) (by kernel_rfl) (by kernel_rfl) (fun _ _ _ h => h) (Or.inl ⟨by kernel_rfl, ?h5l⟩) hS4 ?_
      case h5l => (rintro w2 hb; obtain ⟨q0, q1, q2, q3, q4, q5, _⟩ := box6 (box_kept HXA.out hb (Nat.le_refl _)); go_simp; try with_reducible rfl)
      refine wpAnyH_done (by kernel_rfl) ?_ _
      go_simp
      go_wp2
      go_roundw
      case rel => exact ⟨k + 1, by omega, by simp, HB.out.trans ((HAL.out.trans (hS4.mono HAL.out.size)).mono HB.out.size)⟩
      case measure => simp [intOf]; omega
    · obtain rfl : k = l.length := by omega
      have hi : ¬ (l.length : Int) < (l.length : Int) := by omega
      go_wp2_with fail
      refine wp_region_held_drew (S := fun X => Below wr.heap.size wr X) (by kernel_rfl) ((Below.refl _ _).drew) (fun hS => ?_)
      refine wpAnyH_take (i := 0) (v := ?v0r) rfl (by kernel_rfl) (by kernel_rfl) (by kernel_rfl) (fun _ _ _ h => h) (Or.inl ⟨by kernel_rfl, ?h0r⟩) hS ?_
      case h0r => (rintro w2 hb; obtain ⟨a0, a1, a2, _⟩ := box3 (box_kept (box_kept HXA8.out HB.out (Nat.le_refl _)) hb (Nat.le_refl _)); obtain ⟨b0, b1, b2, _⟩ := box3 (box_kept (box_kept HXB8.out HB.out (Nat.le_refl _)) hb (Nat.le_refl _)); go_simp; try with_reducible rfl)
      refine wpAnyH_take (i := 1) (v := ?v1r) rfl (by kernel_rfl) (by kernel_rfl) (by kernel_rfl) (fun _ _ _ h => h) (Or.inl ⟨by kernel_rfl, ?h1r⟩) hS ?_
      case h1r => (rintro w2 hb; obtain ⟨a0, a1, a2, _⟩ := box3 (box_kept (box_kept HXA8.out HB.out (Nat.le_refl _)) hb (Nat.le_refl _)); obtain ⟨b0, b1, b2, _⟩ := box3 (box_kept (box_kept HXB8.out HB.out (Nat.le_refl _)) hb (Nat.le_refl _)); go_simp; try with_reducible rfl)
      refine wpAnyH_take (i := 3) (v := ?v3r) rfl (by kernel_rfl) (by kernel_rfl) (by kernel_rfl) (fun _ _ _ h => h) (Or.inl ⟨by kernel_rfl, ?h3r⟩) hS ?_
      case h3r => (rintro w2 hb; obtain ⟨a0, a1, a2, _⟩ := box3 (box_kept (box_kept HXA8.out HB.out (Nat.le_refl _)) hb (Nat.le_refl _)); obtain ⟨b0, b1, b2, _⟩ := box3 (box_kept (box_kept HXB8.out HB.out (Nat.le_refl _)) hb (Nat.le_refl _)); go_simp; try with_reducible rfl)
      refine wpAnyH_take (i := 4) (v := ?v4r) rfl (by kernel_rfl) (by kernel_rfl) (by kernel_rfl) (fun _ _ _ h => h) (Or.inl ⟨by kernel_rfl, ?h4r⟩) hS ?_
      case h4r => (rintro w2 hb; obtain ⟨a0, a1, a2, _⟩ := box3 (box_kept (box_kept HXA8.out HB.out (Nat.le_refl _)) hb (Nat.le_refl _)); obtain ⟨b0, b1, b2, _⟩ := box3 (box_kept (box_kept HXB8.out HB.out (Nat.le_refl _)) hb (Nat.le_refl _)); go_simp; try with_reducible rfl)
      refine wpAnyH_ready (rs := [2]) (by kernel_rfl) (by simp) (AllReadyH.cons rfl (fun K hK => ?_) AllReadyH.nil)
      go_simp
      go_wp2_with (go_at_call 20; refine (HSA.out _ (HB8.out.trans ((HB.out.trans (hS.mono HB.out.size)).mono HB8.out.size))).mono ?_; rintro e2 x2 ⟨rfl, hb2⟩)
      refine hK.out _ _ ((hS.trans (hb2.mono hS.size))) (fun hS2 => ?_); clear hK K
      refine wpAnyH_ready (rs := [5]) (by kernel_rfl) (by simp) (AllReadyH.cons rfl (fun K hK => ?_) AllReadyH.nil)
      go_simp
      go_wp2_with (go_at_call 17; refine (HSB.out _ (HB8.out.trans ((HB.out.trans (hS2.mono HB.out.size)).mono HB8.out.size))).mono ?_; rintro e5 x5 ⟨rfl, hb5⟩)
      refine hK.out _ _ ((hS2.trans (hb5.mono hS2.size))) (fun hS5 => ?_); clear hK K
      refine wpAnyH_take (i := 6) (v := .bool true) rfl (by kernel_rfl) (by kernel_rfl) (by kernel_rfl) (fun _ _ _ h => h) (Or.inl ⟨by kernel_rfl, ?h6r⟩) hS5 ?_
      case h6r => (rintro w2 hb; obtain ⟨a0, a1, a2, _⟩ := box3 (box_kept (box_kept HXA8.out HB.out (Nat.le_refl _)) hb (Nat.le_refl _)); obtain ⟨b0, b1, b2, _⟩ := box3 (box_kept (box_kept HXB8.out HB.out (Nat.le_refl _)) hb (Nat.le_refl _)); go_simp; try with_reducible rfl)
      refine wpAnyH_take (i := 7) (v := .bool true) rfl (by kernel_rfl) (by kernel_rfl) (by kernel_rfl) (fun _ _ _ h => h) (Or.inl ⟨by kernel_rfl, ?h7r⟩) hS5 ?_
      case h7r => (rintro w2 hb; obtain ⟨a0, a1, a2, _⟩ := box3 (box_kept (box_kept HXA8.out HB.out (Nat.le_refl _)) hb (Nat.le_refl _)); obtain ⟨b0, b1, b2, _⟩ := box3 (box_kept (box_kept HXB8.out HB.out (Nat.le_refl _)) hb (Nat.le_refl _)); go_simp; try with_reducible rfl)
      refine wpAnyH_take (i := 8) (v := ?v8r) rfl (by kernel_rfl) (by kernel_rfl) (by kernel_rfl) (fun _ _ _ h => h) (Or.inl ⟨by kernel_rfl, ?h8r⟩) hS5 ?_
      case h8r => (rintro w2 hb; obtain ⟨a0, a1, a2, _⟩ := box3 (box_kept (box_kept HXA8.out HB.out (Nat.le_refl _)) hb (Nat.le_refl _)); obtain ⟨b0, b1, b2, _⟩ := box3 (box_kept (box_kept HXB8.out HB.out (Nat.le_refl _)) hb (Nat.le_refl _)); go_simp; try with_reducible rfl)
      refine wpAnyH_take (i := 10) (v := ?v10r) rfl (by kernel_rfl) (by kernel_rfl) (by kernel_rfl) (fun _ _ _ h => h) (Or.inl ⟨by kernel_rfl, ?h10r⟩) hS5 ?_
      case h10r => (rintro w2 hb; obtain ⟨a0, a1, a2, _⟩ := box3 (box_kept (box_kept HXA8.out HB.out (Nat.le_refl _)) hb (Nat.le_refl _)); obtain ⟨b0, b1, b2, _⟩ := box3 (box_kept (box_kept HXB8.out HB.out (Nat.le_refl _)) hb (Nat.le_refl _)); go_simp; try with_reducible rfl)
      refine wpAnyH_ready (rs := [9]) (by kernel_rfl) (by simp) (AllReadyH.cons rfl (fun K hK => ?_) AllReadyH.nil)
      go_simp
      go_wp2_with (go_at_call 16; refine (HRB.out _ (HB.out.trans (hS5.mono HB.out.size))).mono ?_; rintro e9 x9 ⟨rfl, hb9⟩)
      refine hK.out _ _ ((hS5.trans (hb9.mono hS5.size))) (fun hS9 => ?_); clear hK K
      refine wpAnyH_take (i := 11) (v := .bool true) rfl (by kernel_rfl) (by kernel_rfl) (by kernel_rfl) (fun _ _ _ h => h) (Or.inl ⟨by kernel_rfl, ?h11r⟩) hS9 ?_
      case h11r => (rintro w2 hb; obtain ⟨a0, a1, a2, _⟩ := box3 (box_kept (box_kept HXA8.out HB.out (Nat.le_refl _)) hb (Nat.le_refl _)); obtain ⟨b0, b1, b2, _⟩ := box3 (box_kept (box_kept HXB8.out HB.out (Nat.le_refl _)) hb (Nat.le_refl _)); go_simp; try with_reducible rfl)
      refine wpAnyH_take (i := 12) (v := .bool true) rfl (by kernel_rfl) (by kernel_rfl) (by kernel_rfl) (fun _ _ _ h => h) (Or.inl ⟨by kernel_rfl, ?h12r⟩) hS9 ?_
      case h12r => (rintro w2 hb; obtain ⟨a0, a1, a2, _⟩ := box3 (box_kept (box_kept HXA8.out HB.out (Nat.le_refl _)) hb (Nat.le_refl _)); obtain ⟨b0, b1, b2, _⟩ := box3 (box_kept (box_kept HXB8.out HB.out (Nat.le_refl _)) hb (Nat.le_refl _)); go_simp; try with_reducible rfl)
      refine wpAnyH_take (i := 13) (v := .bool true) rfl (by kernel_rfl) (by kernel_rfl) (by kernel_rfl) (fun _ _ _ h => h) (Or.inl ⟨by kernel_rfl, ?h13r⟩) hS9 ?_
      case h13r => (rintro w2 hb; obtain ⟨a0, a1, a2, _⟩ := box3 (box_kept (box_kept HXA8.out HB.out (Nat.le_refl _)) hb (Nat.le_refl _)); obtain ⟨b0, b1, b2, _⟩ := box3 (box_kept (box_kept HXB8.out HB.out (Nat.le_refl _)) hb (Nat.le_refl _)); go_simp; try with_reducible rfl)
      refine wpAnyH_done (by kernel_rfl) ?_ _
      go_simp
      go_wp2
      go_ret
      exact ⟨rfl, HB8.out.trans ((HB.out.trans (hS9.mono HB.out.size)).mono HB8.out.size)⟩
set_option maxRecDepth 100000 in
set_option maxHeartbeats 8000000 in
theorem makes_no (r c : Int) {v : Value} {l : List Vl} (w : World) (he : Env w) (hv : ValAt w.heap.size w v l) (hwf : WfL l) (hs : smallB l = true) (hr : rightA ⟨r, c, l⟩ = false) :
    Calls Tryd.prog 3 #[.int .i64 r, .int .i64 c, v] w fun e w' => e = .returned (.bool true) ∧ Below w.heap.size w w' := by
  have HA := Lib.hid (awake_any w he)
  have HS := Lib.hid (fun W (hW : Below w.heap.size w W) => small_any _ r c v l W hW.size (hv.below hW))
  rw [hs] at HS
  have hlen : l.length ≤ 300 := by
    unfold smallB at hs
    rw [Bool.and_eq_true, decide_eq_true_eq] at hs
    exact hs.1
  have HRR := Lib.hid (fun W (hW : Below w.heap.size w W) => rrighta_any _ r c v l (by omega) W hW.size (hv.below hW))
  rw [hr] at HRR
  have HPR := Lib.hid (fun W (hW : Below w.heap.size w W) => righta_any _ r c v l (by omega) hwf W hW.size (hv.below hW) (he.below hW))
  rw [hr] at HPR
  have HM := Lib.hid (fun W (hW : Below w.heap.size w W) => make_no _ r c v l (by omega) hr hwf W (he.below hW) hW.size (hv.below hW))
  have HSA := Lib.hid (fun W (hW : Below w.heap.size w W) => psame_any _ r c r c v v l l (by omega) W hW.size (hv.below hW) (hv.below hW))
  have HSB := Lib.hid (fun W (hW : Below w.heap.size w W) => rsame_any _ r c r c v v l l (by omega) W hW.size (hv.below hW) (hv.below hW))
  rw [sameA_refl] at HSA HSB
  have HVV := Lib.hid hv
  have HWF := Lib.hid hwf
  have HE := Lib.hid he
  have HSBA := Lib.hid (fun W u (hu : ValAt W.heap.size W u []) => rsame_any _ 0 0 0 0 u (.slice none 0 0) [] [] (by decide) W (Nat.le_refl _) hu (.nil _ _))
  rw [sameA_refl] at HSBA
  have HRB0 := Lib.hid (fun W u n (hW : Below w.heap.size w W) (hn : n ≤ W.heap.size) (hu : ValAt n W u []) => righta_any _ 0 0 u [] (by decide) (fun x hx => by simp at hx) W hn hu (he.below hW))
  rw [zA_wrong] at HRB0
  obtain ⟨A, cp, rfl, hcp, _⟩ := id hv
  clear hs hr he hv hwf
  unfold arV at *
  go_enter Tryd.func3, Tryd.ntmps3
  go_wp2_with fail
  refine HA.out.mono ?_
  rintro e w1 ⟨rfl, hb1⟩
  have HB2 := Lib.hid (hb1.alloc hb1.size (.cells #[.int .i64 r, .int .i64 c, .slice A l.length cp] 25))
  have HX2 := Lib.hid (heap_alloc_new w1 (.cells #[.int .i64 r, .int .i64 c, .slice A l.length cp] 25))
  clear hb1
  go_wp2_with fail
  refine (HS.out _ HB2.out).mono ?_
  rintro e w2 ⟨rfl, hb2⟩
  have HB3 := Lib.hid (HB2.out.trans (hb2.mono HB2.out.size))
  have HX3 := Lib.hid (box_kept HX2.out hb2 (Nat.le_refl _))
  clear hb2 HX2
  go_wp2_with fail
  refine (HM.out _ HB3.out).mono ?_
  rintro e w3 ⟨v3, rfl, hv3, hb3⟩
  obtain ⟨A3, cp3, rfl, _⟩ := id hv3
  unfold arV zA
  simp only [List.length_nil]
  have hal := Nm.alloc_below w3 (.cells #[.int .i64 0, .int .i64 0, .slice A3 0 cp3] 25)
  have HB4 := Lib.hid (HB3.out.trans ((hb3.trans (hal.mono hb3.size)).mono HB3.out.size))
  have HX4 := Lib.hid (box_kept HX3.out (hb3.trans (hal.mono hb3.size)) (Nat.le_refl _))
  have HXB4 := Lib.hid (heap_alloc_new w3 (.cells #[.int .i64 0, .int .i64 0, .slice A3 0 cp3] 25))
  have HV4 := Lib.hid ((hv3.below hal).mono hal.size)
  obtain ⟨a0, a1, a2, _⟩ := box3 HX4.out
  clear hb3 hv3 hal HX3
  go_wp2_with fail
  refine (HRR.out _ HB4.out).mono ?_
  rintro e w5 ⟨rfl, hb5⟩
  have HB5 := Lib.hid (HB4.out.trans (hb5.mono HB4.out.size))
  have HX5 := Lib.hid (box_kept HX4.out hb5 (Nat.le_refl _))
  have HXB5 := Lib.hid (box_kept HXB4.out hb5 (Nat.le_refl _))
  have HV5 := Lib.hid ((HV4.out.below hb5).mono hb5.size)
  clear a0 a1 a2 hb5 HX4 HXB4 HV4
  obtain ⟨a0, a1, a2, _⟩ := box3 HX5.out
  go_wp2_with fail
  refine (HPR.out _ HB5.out).mono ?_
  rintro e w6 ⟨rfl, hb6⟩
  have HB6 := Lib.hid (HB5.out.trans (hb6.mono HB5.out.size))
  have HX6 := Lib.hid (box_kept HX5.out hb6 (Nat.le_refl _))
  have HXB6 := Lib.hid (box_kept HXB5.out hb6 (Nat.le_refl _))
  have HV6 := Lib.hid ((HV5.out.below hb6).mono hb6.size)
  clear a0 a1 a2 hb6 HX5 HXB5 HV5
  obtain ⟨a0, a1, a2, _⟩ := box3 HX6.out
  obtain ⟨b0, b1, b2, _⟩ := box3 HXB6.out
  go_wp2_with fail
  refine (HSBA.out _ _ HV6.out).mono ?_
  rintro e w8 ⟨rfl, hb8⟩
  have HB8 := Lib.hid (HB6.out.trans (hb8.mono HB6.out.size))
  have HXA8 := Lib.hid (box_kept HX6.out hb8 (Nat.le_refl _))
  have HXB8 := Lib.hid (box_kept HXB6.out hb8 (Nat.le_refl _))
  have HV8 := Lib.hid ((HV6.out.below hb8).mono hb8.size)
  have HE8 := Lib.hid (HE.out.below HB8.out)
  have HRB := Lib.hid (fun W (hW : Below w8.heap.size w8 W) => HRB0.out W _ _ (HB8.out.trans (hW.mono HB8.out.size)) hW.size (HV8.out.below hW))
  clear a0 a1 a2 b0 b1 b2 hb8 HX6 HXB6 HV6
  go_wp2_with fail
  go_loopw [61] (fun i wr => ∃ k : Nat, k ≤ l.length ∧ i = .int .i64 (k : Int) ∧ Below w8.heap.size w8 wr) (fun i _ => l.length - (intOf i).toNat)
  case atStart => exact ⟨0, by omega, rfl, Below.refl _ _⟩
  case round =>
    obtain ⟨k, hk, rfl, hB⟩ := hrel
    have HB := Lib.hid hB
    clear hB
    by_cases hlt : k < l.length
    · obtain ⟨g, o, c9, hvv, hc9, k0, k1, k2, k3, k4, k5⟩ := HVV.out.get (HB8.out.trans (HB.out.mono HB8.out.size)) hlt
      simp only [Value.slice.injEq, true_and] at hvv
      obtain ⟨rfl, rfl⟩ := hvv
      have hwx := HWF.out _ (gt_mem hlt)
      obtain ⟨x, hx⟩ : ∃ x, gt l k = x := ⟨_, rfl⟩
      rw [hx] at k0 k1 k2 k3 k4 k5 hwx
      have HO1 := Lib.hid (fun W hW => one_any x hwx W hW)
      have HO2 := Lib.hid (fun W => rone_any x W)
      have hol := one_len x
      obtain ⟨⟨yr, yc, yl⟩, hy⟩ : ∃ y, oneA x = y := ⟨_, rfl⟩
      rw [hy] at HO1 HO2 hol
      simp only at hol
      have HSM := Lib.hid (fun W u1 u2 (n : Nat) (hn : n ≤ W.heap.size) (h1 : ValAt n W u1 yl) (h2 : ValAt n W u2 yl) => rsame_any n yr yc yr yc u1 u2 yl yl (by omega) W hn h1 h2)
      simp only [sameA_refl] at HSM
      obtain ⟨xk, xm, xe, xt, xb, xf⟩ := x
      unfold vV at HO1 HO2
      simp only at k0 k1 k2 k3 k4 k5 HO1 HO2
      have hi : (k : Int) < (l.length : Int) := by omega
      have hi0 : (0 : Int) ≤ (k : Int) := by omega
      obtain ⟨wa, hwa⟩ : ∃ wa, wr.alloc (.cells #[.int .i64 xk, .int .i64 xm, .int .i64 xe, .string xt, .bool xb, .int .i64 xf] 34) = wa := ⟨_, rfl⟩
      have HAL : Hid (Below wr.heap.size wr wa) := Lib.hid (by rw [← hwa]; exact Nm.alloc_below _ _)
      have HXA : Hid (wa.heap[wr.heap.size]? = some (.cells #[.int .i64 xk, .int .i64 xm, .int .i64 xe, .string xt, .bool xb, .int .i64 xf] 34 (0, 0))) := Lib.hid (by rw [← hwa]; exact heap_alloc_new _ _)
      have HWA := Lib.hid hwa
      clear hwx hx hol hy hwa hc9
      go_wp2_with fail
      rw [HWA.out]
      refine wp_region_held_drew (S := fun X => Below wa.heap.size wa X) (by kernel_rfl) ((Below.refl _ _).drew) (fun hS => ?_)
      refine wpAnyH_take (i := 0) (v := ?v0l) rfl (by kernel_rfl) (by kernel_rfl) (by kernel_rfl) (fun _ _ _ h => h) (Or.inl ⟨by kernel_rfl, ?h0l⟩) hS ?_
      case h0l => (rintro w2 hb; obtain ⟨q0, q1, q2, q3, q4, q5, _⟩ := box6 (box_kept HXA.out hb (Nat.le_refl _)); go_simp; try with_reducible rfl)
      refine wpAnyH_take (i := 2) (v := ?v2l) rfl (by kernel_rfl) (by kernel_rfl) (by kernel_rfl) (fun _ _ _ h => h) (Or.inl ⟨by kernel_rfl, ?h2l⟩) hS ?_
      case h2l => (rintro w2 hb; obtain ⟨q0, q1, q2, q3, q4, q5, _⟩ := box6 (box_kept HXA.out hb (Nat.le_refl _)); go_simp; try with_reducible rfl)
      refine wpAnyH_ready (rs := [1]) (by kernel_rfl) (by simp) (AllReadyH.cons rfl (fun K hK => ?_) AllReadyH.nil)
      go_simp
      go_wp2_with (go_at_call 18; refine (HO1.out _ (HE8.out.below (HB.out.trans (HAL.out.trans (hS.mono HAL.out.size) |> fun h => h.mono HB.out.size)))).mono ?_; rintro e1 x1 ⟨v1, rfl, hv1, hb1⟩; obtain ⟨A1', c1', rfl, _⟩ := id hv1; unfold arV)
      refine hK.out _ _ ((hS.trans (hb1.mono hS.size))) (fun hS1 => ?_); clear hK K
      refine wpAnyH_ready (rs := [3]) (by kernel_rfl) (by simp) (AllReadyH.cons rfl (fun K hK => ?_) AllReadyH.nil)
      go_simp
      go_wp2_with (go_at_call 19; refine (HO2.out _).mono ?_; rintro e3 x3 ⟨v3, rfl, hv3, hb3⟩; obtain ⟨A3', c3', rfl, _⟩ := id hv3; unfold arV)
      refine hK.out _ _ ((hS1.trans (hb3.mono hS1.size))) (fun hS3 => ?_); clear hK K
      refine wpAnyH_ready (rs := [4]) (by kernel_rfl) (by simp) (AllReadyH.cons rfl (fun K hK => ?_) AllReadyH.nil)
      go_simp
      go_wp2_with (go_at_call 17; refine (HSM.out _ _ _ _ (Nat.le_refl _) ((hv1.below hb3).mono hb3.size) hv3).mono ?_; rintro e4 x4 ⟨rfl, hb4⟩)
      refine hK.out _ _ ((hS3.trans (hb4.mono hS3.size))) (fun hS4 => ?_); clear hK K
      refine wpAnyH_take (i := 5) (v := .bool false) rfl (by kernel_rfl) (by kernel_rfl) (by kernel_rfl) (fun _ _ _ h => h) (Or.inl ⟨by kernel_rfl, ?h5l⟩) hS4 ?_
      case h5l => (rintro w2 hb; obtain ⟨q0, q1, q2, q3, q4, q5, _⟩ := box6 (box_kept HXA.out hb (Nat.le_refl _)); go_simp; try with_reducible rfl)
      refine wpAnyH_done (by kernel_rfl) ?_ _
      go_simp
      go_wp2
      go_roundw
      case rel => exact ⟨k + 1, by omega, by simp, HB.out.trans ((HAL.out.trans (hS4.mono HAL.out.size)).mono HB.out.size)⟩
      case measure => simp [intOf]; omega
    · obtain rfl : k = l.length := by omega
      have hi : ¬ (l.length : Int) < (l.length : Int) := by omega
      go_wp2_with fail
      refine wp_region_held_drew (S := fun X => Below wr.heap.size wr X) (by kernel_rfl) ((Below.refl _ _).drew) (fun hS => ?_)
      refine wpAnyH_take (i := 0) (v := ?v0s) rfl (by kernel_rfl) (by kernel_rfl) (by kernel_rfl) (fun _ _ _ h => h) (Or.inl ⟨by kernel_rfl, ?h0s⟩) hS ?_
      case h0s => (rintro w2 hb; obtain ⟨a0, a1, a2, _⟩ := box3 (box_kept (box_kept HXA8.out HB.out (Nat.le_refl _)) hb (Nat.le_refl _)); obtain ⟨b0, b1, b2, _⟩ := box3 (box_kept (box_kept HXB8.out HB.out (Nat.le_refl _)) hb (Nat.le_refl _)); go_simp; try with_reducible rfl)
      refine wpAnyH_take (i := 1) (v := ?v1s) rfl (by kernel_rfl) (by kernel_rfl) (by kernel_rfl) (fun _ _ _ h => h) (Or.inl ⟨by kernel_rfl, ?h1s⟩) hS ?_
      case h1s => (rintro w2 hb; obtain ⟨a0, a1, a2, _⟩ := box3 (box_kept (box_kept HXA8.out HB.out (Nat.le_refl _)) hb (Nat.le_refl _)); obtain ⟨b0, b1, b2, _⟩ := box3 (box_kept (box_kept HXB8.out HB.out (Nat.le_refl _)) hb (Nat.le_refl _)); go_simp; try with_reducible rfl)
      refine wpAnyH_take (i := 3) (v := ?v3s) rfl (by kernel_rfl) (by kernel_rfl) (by kernel_rfl) (fun _ _ _ h => h) (Or.inl ⟨by kernel_rfl, ?h3s⟩) hS ?_
      case h3s => (rintro w2 hb; obtain ⟨a0, a1, a2, _⟩ := box3 (box_kept (box_kept HXA8.out HB.out (Nat.le_refl _)) hb (Nat.le_refl _)); obtain ⟨b0, b1, b2, _⟩ := box3 (box_kept (box_kept HXB8.out HB.out (Nat.le_refl _)) hb (Nat.le_refl _)); go_simp; try with_reducible rfl)
      refine wpAnyH_take (i := 4) (v := ?v4s) rfl (by kernel_rfl) (by kernel_rfl) (by kernel_rfl) (fun _ _ _ h => h) (Or.inl ⟨by kernel_rfl, ?h4s⟩) hS ?_
      case h4s => (rintro w2 hb; obtain ⟨a0, a1, a2, _⟩ := box3 (box_kept (box_kept HXA8.out HB.out (Nat.le_refl _)) hb (Nat.le_refl _)); obtain ⟨b0, b1, b2, _⟩ := box3 (box_kept (box_kept HXB8.out HB.out (Nat.le_refl _)) hb (Nat.le_refl _)); go_simp; try with_reducible rfl)
      refine wpAnyH_ready (rs := [2]) (by kernel_rfl) (by simp) (AllReadyH.cons rfl (fun K hK => ?_) AllReadyH.nil)
      go_simp
      go_wp2_with (go_at_call 20; refine (HSA.out _ (HB8.out.trans ((HB.out.trans (hS.mono HB.out.size)).mono HB8.out.size))).mono ?_; rintro e2 x2 ⟨rfl, hb2⟩)
      refine hK.out _ _ ((hS.trans (hb2.mono hS.size))) (fun hS2 => ?_); clear hK K
      refine wpAnyH_ready (rs := [5]) (by kernel_rfl) (by simp) (AllReadyH.cons rfl (fun K hK => ?_) AllReadyH.nil)
      go_simp
      go_wp2_with (go_at_call 17; refine (HSB.out _ (HB8.out.trans ((HB.out.trans (hS2.mono HB.out.size)).mono HB8.out.size))).mono ?_; rintro e5 x5 ⟨rfl, hb5⟩)
      refine hK.out _ _ ((hS2.trans (hb5.mono hS2.size))) (fun hS5 => ?_); clear hK K
      refine wpAnyH_take (i := 6) (v := .bool true) rfl (by kernel_rfl) (by kernel_rfl) (by kernel_rfl) (fun _ _ _ h => h) (Or.inl ⟨by kernel_rfl, ?h6s⟩) hS5 ?_
      case h6s => (rintro w2 hb; obtain ⟨a0, a1, a2, _⟩ := box3 (box_kept (box_kept HXA8.out HB.out (Nat.le_refl _)) hb (Nat.le_refl _)); obtain ⟨b0, b1, b2, _⟩ := box3 (box_kept (box_kept HXB8.out HB.out (Nat.le_refl _)) hb (Nat.le_refl _)); go_simp; try with_reducible rfl)
      refine wpAnyH_take (i := 7) (v := .bool true) rfl (by kernel_rfl) (by kernel_rfl) (by kernel_rfl) (fun _ _ _ h => h) (Or.inl ⟨by kernel_rfl, ?h7s⟩) hS5 ?_
      case h7s => (rintro w2 hb; obtain ⟨a0, a1, a2, _⟩ := box3 (box_kept (box_kept HXA8.out HB.out (Nat.le_refl _)) hb (Nat.le_refl _)); obtain ⟨b0, b1, b2, _⟩ := box3 (box_kept (box_kept HXB8.out HB.out (Nat.le_refl _)) hb (Nat.le_refl _)); go_simp; try with_reducible rfl)
      refine wpAnyH_take (i := 8) (v := ?v8s) rfl (by kernel_rfl) (by kernel_rfl) (by kernel_rfl) (fun _ _ _ h => h) (Or.inl ⟨by kernel_rfl, ?h8s⟩) hS5 ?_
      case h8s => (rintro w2 hb; obtain ⟨a0, a1, a2, _⟩ := box3 (box_kept (box_kept HXA8.out HB.out (Nat.le_refl _)) hb (Nat.le_refl _)); obtain ⟨b0, b1, b2, _⟩ := box3 (box_kept (box_kept HXB8.out HB.out (Nat.le_refl _)) hb (Nat.le_refl _)); go_simp; try with_reducible rfl)
      refine wpAnyH_take (i := 10) (v := ?v10s) rfl (by kernel_rfl) (by kernel_rfl) (by kernel_rfl) (fun _ _ _ h => h) (Or.inl ⟨by kernel_rfl, ?h10s⟩) hS5 ?_
      case h10s => (rintro w2 hb; obtain ⟨a0, a1, a2, _⟩ := box3 (box_kept (box_kept HXA8.out HB.out (Nat.le_refl _)) hb (Nat.le_refl _)); obtain ⟨b0, b1, b2, _⟩ := box3 (box_kept (box_kept HXB8.out HB.out (Nat.le_refl _)) hb (Nat.le_refl _)); go_simp; try with_reducible rfl)
      refine wpAnyH_ready (rs := [9]) (by kernel_rfl) (by simp) (AllReadyH.cons rfl (fun K hK => ?_) AllReadyH.nil)
      go_simp
      go_wp2_with (go_at_call 16; refine (HRB.out _ (HB.out.trans (hS5.mono HB.out.size))).mono ?_; rintro e9 x9 ⟨rfl, hb9⟩)
      refine hK.out _ _ ((hS5.trans (hb9.mono hS5.size))) (fun hS9 => ?_); clear hK K
      refine wpAnyH_take (i := 11) (v := .bool true) rfl (by kernel_rfl) (by kernel_rfl) (by kernel_rfl) (fun _ _ _ h => h) (Or.inl ⟨by kernel_rfl, ?h11s⟩) hS9 ?_
      case h11s => (rintro w2 hb; obtain ⟨a0, a1, a2, _⟩ := box3 (box_kept (box_kept HXA8.out HB.out (Nat.le_refl _)) hb (Nat.le_refl _)); obtain ⟨b0, b1, b2, _⟩ := box3 (box_kept (box_kept HXB8.out HB.out (Nat.le_refl _)) hb (Nat.le_refl _)); go_simp; try with_reducible rfl)
      refine wpAnyH_take (i := 12) (v := .bool true) rfl (by kernel_rfl) (by kernel_rfl) (by kernel_rfl) (fun _ _ _ h => h) (Or.inl ⟨by kernel_rfl, ?h12s⟩) hS9 ?_
      case h12s => (rintro w2 hb; obtain ⟨a0, a1, a2, _⟩ := box3 (box_kept (box_kept HXA8.out HB.out (Nat.le_refl _)) hb (Nat.le_refl _)); obtain ⟨b0, b1, b2, _⟩ := box3 (box_kept (box_kept HXB8.out HB.out (Nat.le_refl _)) hb (Nat.le_refl _)); go_simp; try with_reducible rfl)
      refine wpAnyH_take (i := 13) (v := .bool true) rfl (by kernel_rfl) (by kernel_rfl) (by kernel_rfl) (fun _ _ _ h => h) (Or.inl ⟨by kernel_rfl, ?h13s⟩) hS9 ?_
      case h13s => (rintro w2 hb; obtain ⟨a0, a1, a2, _⟩ := box3 (box_kept (box_kept HXA8.out HB.out (Nat.le_refl _)) hb (Nat.le_refl _)); obtain ⟨b0, b1, b2, _⟩ := box3 (box_kept (box_kept HXB8.out HB.out (Nat.le_refl _)) hb (Nat.le_refl _)); go_simp; try with_reducible rfl)
      refine wpAnyH_done (by kernel_rfl) ?_ _
      go_simp
      go_wp2
      go_ret
      exact ⟨rfl, HB8.out.trans ((HB.out.trans (hS9.mono HB.out.size)).mono HB8.out.size)⟩
theorem makes_any (r c : Int) {v : Value} {l : List Vl} {w : World} (hv : ValAt w.heap.size w v l) (hwf : WfL l) (w' : World) (he : Env w') (hw : w' = w := by rfl) :
    Calls Tryd.prog 3 #[.int .i64 r, .int .i64 c, v] w fun e w2 => e = .returned (.bool true) ∧ Below w.heap.size w w2 := by
  subst hw
  cases hs : smallB l with
  | false => exact makes_out r c w' he hv hwf hs
  | true =>
    cases hr : rightA ⟨r, c, l⟩ with
    | true => exact makes_yes r c w' he hv hwf hs hr
    | false => exact makes_no r c w' he hv hwf hs hr
end Go.Proofs.YtfgddhabepllfaaDoor
