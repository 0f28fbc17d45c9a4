/- Below. -/
import Derived.Test.YtfgddhabepllfaaDoorR
namespace Go.Proofs.YtfgddhabepllfaaDoor
open Go.RowKit

set_option maxRecDepth 100000 in
set_option maxHeartbeats 4000000 in
theorem below_no {ra ca rb cb n : Nat} {la lb : List Vl} {va vb : Value} (hra : rightA ⟨ra, ca, la⟩ = true) (hrb : rightA ⟨rb, cb, lb⟩ = true) (hwa : WfL la) (hwb : WfL lb) {M N : Int} {L : List Vl} (w : World) (he : Env w) (hn : n ≤ w.heap.size) (hva : ValAt n w va la) (hvb : ValAt n w vb lb)
    (hbes : ∀ X v1 v2, Below w.heap.size w X → ValAt X.heap.size X v1 (turnL ra ca la) → ValAt X.heap.size X v2 (turnL rb cb lb) → Calls Tryd.prog 31 #[arV ca ra v1, arV cb rb v2] X (ArOut2 X ⟨M, N, L⟩ false)) :
    Calls Tryd.prog 32 #[arV ra ca va, arV rb cb vb] w (ArOut2 w zA false) := by
  obtain ⟨hla, hRCa, _, _, _, _, _⟩ := right_nat hra
  obtain ⟨hlb, hRCb, _, _, _, _, _⟩ := right_nat hrb
  obtain ⟨Q, hQ⟩ : ∃ Q, (ArOut2 w zA false) = Q := ⟨_, rfl⟩
  rw [hQ]
  have HQ := Lib.hid hQ
  obtain ⟨W0, hW0⟩ : ∃ W0, ((w.alloc (.cells #[.int .i64 (ra : Int), .int .i64 (ca : Int), va] 25)).alloc (.cells #[.int .i64 (rb : Int), .int .i64 (cb : Int), vb] 25)).alloc (.cells #[.int .i64 0, .int .i64 0, .slice none 0 0] 25) = W0 := ⟨_, rfl⟩
  have hb0 : Below w.heap.size w W0 := by rw [← hW0]; exact (((Below.refl _ _).alloc (Nat.le_refl _) _).alloc (by simp) _).alloc (by simp; omega) _
  have hx0 : W0.heap[w.heap.size]? = some (.cells #[.int .i64 (ra : Int), .int .i64 (ca : Int), va] 25 (0, 0)) := by rw [← hW0]; exact (Below.heap_alloc _ _ _ (by simp; omega)).trans two_old
  have hx1 : W0.heap[w.heap.size + 1]? = some (.cells #[.int .i64 (rb : Int), .int .i64 (cb : Int), vb] 25 (0, 0)) := by rw [← hW0]; exact (Below.heap_alloc _ _ _ (by simp)).trans two_new
  have hx3 : W0.heap[w.heap.size + 1 + 1]? = some (.cells #[.int .i64 0, .int .i64 0, .slice none 0 0] 25 (0, 0)) := by rw [← hW0]; have := heap_alloc_new ((w.alloc (.cells #[.int .i64 (ra : Int), .int .i64 (ca : Int), va] 25)).alloc (.cells #[.int .i64 (rb : Int), .int .i64 (cb : Int), vb] 25)) (.cells #[.int .i64 0, .int .i64 0, .slice none 0 0] 25); simpa using this
  have HW0 := Lib.hid hW0
  have HB0 := Lib.hid hb0
  have HX0 := Lib.hid hx0
  have HX1 := Lib.hid hx1
  have HX3 := Lib.hid hx3
  have HRA := Lib.hid (fun W (hW : Below w.heap.size w W) => righta_any n ra ca va la (by omega) hwa W (Nat.le_trans hn hW.size) (hva.below (hW.mono hn)) (he.below hW))
  rw [hra] at HRA
  have HRB := Lib.hid (fun W (hW : Below w.heap.size w W) => righta_any n rb cb vb lb (by omega) hwb W (Nat.le_trans hn hW.size) (hvb.below (hW.mono hn)) (he.below hW))
  rw [hrb] at HRB
  have HTA0 := Lib.hid (fun W (hW : Below w.heap.size w W) => turn_any hra hwa W (he.below hW) (Nat.le_trans hn hW.size) (hva.below (hW.mono hn)))
  have HTB0 := Lib.hid (fun W (hW : Below w.heap.size w W) => turn_any hrb hwb W (he.below hW) (Nat.le_trans hn hW.size) (hvb.below (hW.mono hn)))
  have HE := Lib.hid he
  obtain ⟨TA, hTA⟩ : ∃ TA, turnL ra ca la = TA := ⟨_, rfl⟩
  obtain ⟨TB, hTB⟩ : ∃ TB, turnL rb cb lb = TB := ⟨_, rfl⟩
  have HBES0 := Lib.hid hbes
  rw [hTA] at HTA0 HBES0
  rw [hTB] at HTB0 HBES0
  obtain ⟨A1, cp1, rfl, _⟩ := id hva
  obtain ⟨A2, cp2, rfl, _⟩ := id hvb
  clear hQ hra hrb hwa hwb hla hlb hRCa hRCb he hn hva hvb hbes hW0 hb0 hx0 hx1 hx3 hTA hTB
  unfold arV at *
  go_enter Tryd.func32, Tryd.ntmps32
  go_wp2_with fail
  rw [HW0.out]
  refine (HRA.out _ HB0.out).mono ?_
  rintro e w1 ⟨rfl, hb1⟩
  have HY0 := Lib.hid (box_kept HX0.out hb1 (Nat.le_refl _))
  have hx1 := box_kept HX1.out hb1 (Nat.le_refl _)
  have HY1 := Lib.hid hx1
  have HY3 := Lib.hid (box_kept HX3.out hb1 (Nat.le_refl _))
  have HB1 := Lib.hid (HB0.out.trans (hb1.mono HB0.out.size))
  obtain ⟨b0, b1, b2, _⟩ := box3 hx1
  clear hb1 hx1 HX0 HX1 HX3
  go_wp2_with fail
  refine (HRB.out _ HB1.out).mono ?_
  rintro e w2 ⟨rfl, hb2⟩
  have HZ0 := Lib.hid (box_kept HY0.out hb2 (Nat.le_refl _))
  have HZ1 := Lib.hid (box_kept HY1.out hb2 (Nat.le_refl _))
  have HZ3 := Lib.hid (box_kept HY3.out hb2 (Nat.le_refl _))
  have HB2 := Lib.hid (HB1.out.trans (hb2.mono HB1.out.size))
  have HTA := Lib.hid (fun X (hX : Below w2.heap.size w2 X) => HTA0.out X (HB2.out.trans (hX.mono HB2.out.size)))
  have HTB := Lib.hid (fun X (hX : Below w2.heap.size w2 X) => HTB0.out X (HB2.out.trans (hX.mono HB2.out.size)))
  have HBES := Lib.hid (fun X v1 v2 (hX : Below w2.heap.size w2 X) => HBES0.out X v1 v2 (HB2.out.trans (hX.mono HB2.out.size)))
  clear b0 b1 b2 hb2 HY0 HY1 HY3 HTA0 HTB0 HBES0 HRA HRB
  go_wp2_with fail
  refine wp_region_held_drew (S := fun X => Below w2.heap.size w2 X) (by kernel_rfl) ((Below.refl _ _).drew) (fun hS => ?_)
  obtain ⟨W2, hW2⟩ : ∃ W2, w2.drew = W2 := ⟨_, rfl⟩
  rw [hW2] at hS ⊢
  clear hW2
  refine wpAnyH_take (i := 0) (v := ?v0q) rfl (by kernel_rfl) (by kernel_rfl) (by kernel_rfl) (fun _ _ _ h => h) (Or.inl ⟨by kernel_rfl, ?h0q⟩) hS ?_
  case h0q => (rintro w9 hb9; obtain ⟨a0, a1, a2, _⟩ := box3 (box_kept HZ0.out hb9 (Nat.le_refl _)); obtain ⟨b0, b1, b2, _⟩ := box3 (box_kept HZ1.out hb9 (Nat.le_refl _)); go_simp; try with_reducible rfl)
  refine wpAnyH_take (i := 2) (v := ?v2q) rfl (by kernel_rfl) (by kernel_rfl) (by kernel_rfl) (fun _ _ _ h => h) (Or.inl ⟨by kernel_rfl, ?h2q⟩) hS ?_
  case h2q => (rintro w9 hb9; obtain ⟨a0, a1, a2, _⟩ := box3 (box_kept HZ0.out hb9 (Nat.le_refl _)); obtain ⟨b0, b1, b2, _⟩ := box3 (box_kept HZ1.out hb9 (Nat.le_refl _)); go_simp; try with_reducible rfl)
  refine wpAnyH_ready (rs := [1, 8]) (by kernel_rfl) (by simp) (AllReadyH.cons rfl (fun K hK => ?_) (AllReadyH.cons rfl (fun K hK => ?_) AllReadyH.nil))
  · go_simp
    go_wp2_with fail
    refine (HTA.out _ hS).mono ?_
    rintro e x1 ⟨v1, rfl, hv1, hbx1⟩
    obtain ⟨A1', cp1', rfl, _⟩ := id hv1
    have hs1 := hS.trans (hbx1.mono hS.size)
    have HV1 := Lib.hid hv1
    clear hbx1 hv1
    unfold arV
    refine hK.out _ _ hs1 (fun hS1 => ?_); clear hK K
    refine wpAnyH_ready (rs := [3, 8]) (by kernel_rfl) (by simp) (AllReadyH.cons rfl (fun K hK => ?_) (AllReadyH.cons rfl (fun K hK => ?_) AllReadyH.nil))
    · go_simp
      go_wp2_with fail
      refine (HTB.out _ hS1).mono ?_
      rintro e x3 ⟨v3, rfl, hv3, hbx3⟩
      obtain ⟨A3', cp3', rfl, _⟩ := id hv3
      have hs3 := hS1.trans (hbx3.mono hS1.size)
      have HV1b := Lib.hid ((HV1.out.below hbx3).mono hbx3.size)
      have HV3 := Lib.hid hv3
      clear hbx3 hv3 HV1
      have HV1 := Lib.hid HV1b.out
      clear HV1b
      unfold arV
      refine hK.out _ _ hs3 (fun hS3 => ?_); clear hK K
      refine wpAnyH_ready (rs := [4, 8]) (by kernel_rfl) (by simp) (AllReadyH.cons rfl (fun K hK => ?_) (AllReadyH.cons rfl (fun K hK => ?_) AllReadyH.nil))
      · go_simp
        go_wp2_with fail
        refine (HBES.out _ _ _ hS3 HV1.out HV3.out).mono ?_
        rintro e x4 ⟨v4, rfl, hv4, hbx4⟩
        obtain ⟨A4', cp4', rfl, _⟩ := id hv4
        have hs4 := hS3.trans (hbx4.mono hS3.size)
        have HV4 := Lib.hid hv4
        clear hbx4 hv4
        unfold arV
        refine hK.out _ _ hs4 (fun hS4 => ?_); clear hK K
        refine wpAnyH_take (i := 5) (v := ?v5qccc) rfl (by kernel_rfl) (by kernel_rfl) (by kernel_rfl) (fun _ _ _ h => h) (Or.inl ⟨by kernel_rfl, ?h5qccc⟩) hS4 ?_
        case h5qccc => (rintro w9 hb9; obtain ⟨a0, a1, a2, _⟩ := box3 (box_kept HZ0.out hb9 (Nat.le_refl _)); obtain ⟨b0, b1, b2, _⟩ := box3 (box_kept HZ1.out hb9 (Nat.le_refl _)); go_simp; try with_reducible rfl)
        refine wpAnyH_take (i := 6) (v := ?v6qccc) rfl (by kernel_rfl) (by kernel_rfl) (by kernel_rfl) (fun _ _ _ h => h) (Or.inl ⟨by kernel_rfl, ?h6qccc⟩) hS4 ?_
        case h6qccc => (rintro w9 hb9; obtain ⟨a0, a1, a2, _⟩ := box3 (box_kept HZ0.out hb9 (Nat.le_refl _)); obtain ⟨b0, b1, b2, _⟩ := box3 (box_kept HZ1.out hb9 (Nat.le_refl _)); go_simp; try with_reducible rfl)
        refine wpAnyH_take (i := 7) (v := ?v7qccc) rfl (by kernel_rfl) (by kernel_rfl) (by kernel_rfl) (fun _ _ _ h => h) (Or.inl ⟨by kernel_rfl, ?h7qccc⟩) hS4 ?_
        case h7qccc => (rintro w9 hb9; obtain ⟨a0, a1, a2, _⟩ := box3 (box_kept HZ0.out hb9 (Nat.le_refl _)); obtain ⟨b0, b1, b2, _⟩ := box3 (box_kept HZ1.out hb9 (Nat.le_refl _)); go_simp; try with_reducible rfl)
        refine wpAnyH_ready (rs := [8]) (by kernel_rfl) (by simp) (AllReadyH.cons rfl (fun K hK => ?_) AllReadyH.nil)
        go_simp
        have hbxa := Nm.alloc_below x4 (.cells #[.int .i64 0, .int .i64 0, .slice none 0 0] 25)
        have HP := Lib.hid (heap_alloc_new x4 (.cells #[.int .i64 0, .int .i64 0, .slice none 0 0] 25))
        have HPW := Lib.hid (hS4.size)
        have HV4b := Lib.hid ((HV4.out.below hbxa).mono hbxa.size)
        clear HV4
        have HV4 := Lib.hid HV4b.out
        clear HV4b
        refine hK.out _ _ (hS4.alloc hS4.size _) (fun hS8 => ?_); clear hK K hbxa
        obtain ⟨xa, hxa⟩ : ∃ xa, x4.alloc (.cells #[.int .i64 0, .int .i64 0, .slice none 0 0] 25) = xa := ⟨_, rfl⟩
        rw [hxa] at HP hS8 HV4 ⊢
        clear hxa
        refine wpAnyH_ready (rs := [9]) (by kernel_rfl) (by simp) (AllReadyH.cons rfl (fun K hK => ?_) AllReadyH.nil)
        obtain ⟨p0, p1, p2, g0, g1, g2⟩ := box3 HP.out
        go_simp
        have HPS := Lib.hid (set3 (.int .i64 M) (.int .i64 N) (.slice A4' L.length cp4') HP.out)
        have HVS := Lib.hid (HV4.out.set3 HP.out (.int .i64 M) (.int .i64 N) (.slice A4' L.length cp4'))
        have HSS := Lib.hid (below3 (.int .i64 M) (.int .i64 N) (.slice A4' L.length cp4') hS8 HPW.out)
        refine hK.out _ _ HSS.out (fun hS9 => ?_); clear hK K p0 p1 p2 g0 g1 g2
        have hzz := (only3 (w := xa) (g := x4.heap.size) (.int .i64 M) (.int .i64 N) (.slice A4' L.length cp4')).size
        refine wpAnyH_take (i := 10) (v := ?v10qccc) rfl (by kernel_rfl) (by kernel_rfl) (by kernel_rfl) (fun _ _ _ h => h) (Or.inl ⟨by kernel_rfl, ?h10qccc⟩) hS9 ?_
        case h10qccc => (rintro w9 hb9; obtain ⟨a0, a1, a2, _⟩ := box3 (box_kept HZ0.out hb9 (Nat.le_refl _)); obtain ⟨b0, b1, b2, _⟩ := box3 (box_kept HZ1.out hb9 (Nat.le_refl _)); go_simp; try with_reducible rfl)
        refine wpAnyH_done (by kernel_rfl) ?_ _
        go_simp
        have HVT := Lib.hid (HVS.out.mono hzz)
        clear hzz HVS
        obtain ⟨W9, hW9⟩ : ∃ W9, (((xa.setCell ⟨x4.heap.size, 0, none⟩ (.int .i64 M)).setCell ⟨x4.heap.size, 1, none⟩ (.int .i64 N)).setCell ⟨x4.heap.size, 2, none⟩ (.slice A4' L.length cp4')) = W9 := ⟨_, rfl⟩
        rw [hW9] at HPS HVT HSS ⊢
        clear hW9 hS9
        have hz9 := box_kept HZ3.out HSS.out (Nat.le_refl _)
        have HZ9 := Lib.hid hz9
        obtain ⟨d0, d1, d2, f0, f1, f2⟩ := box3 hz9
        clear hz9
        go_wp2
        obtain ⟨r0, r1, r2, _⟩ := box3 (set3 (.int .i64 0) (.int .i64 0) (.slice none 0 0) HZ9.out)
        have hfin := ArOut2.store (w := w) (a := zA) (b := false) (.nil _ _) (HB2.out.trans (HSS.out.mono HB2.out.size)) HZ9.out (by omega)
        rw [HQ.out] at hfin
        exact bodyPost_ret (v := .tuple #[arV 0 0 (.slice none 0 0), .bool false]) (by simp [results, Tryd.f32, go_sem, arV, r0, r1, r2]) rfl hfin
      · go_simp
        have hbxa := Nm.alloc_below x3 (.cells #[.int .i64 0, .int .i64 0, .slice none 0 0] 25)
        have HP := Lib.hid (heap_alloc_new x3 (.cells #[.int .i64 0, .int .i64 0, .slice none 0 0] 25))
        have HPW := Lib.hid (hS3.size)
        have HV1b := Lib.hid ((HV1.out.below hbxa).mono hbxa.size)
        clear HV1
        have HV1 := Lib.hid HV1b.out
        clear HV1b
        have HV3b := Lib.hid ((HV3.out.below hbxa).mono hbxa.size)
        clear HV3
        have HV3 := Lib.hid HV3b.out
        clear HV3b
        refine hK.out _ _ (hS3.alloc hS3.size _) (fun hS8 => ?_); clear hK K hbxa
        obtain ⟨xa, hxa⟩ : ∃ xa, x3.alloc (.cells #[.int .i64 0, .int .i64 0, .slice none 0 0] 25) = xa := ⟨_, rfl⟩
        rw [hxa] at HP hS8 HV1 HV3 ⊢
        clear hxa
        refine wpAnyH_ready (rs := [4]) (by kernel_rfl) (by simp) (AllReadyH.cons rfl (fun K hK => ?_) AllReadyH.nil)
        go_simp
        go_wp2_with fail
        refine (HBES.out _ _ _ hS8 HV1.out HV3.out).mono ?_
        rintro e x4 ⟨v4, rfl, hv4, hbx4⟩
        obtain ⟨A4', cp4', rfl, _⟩ := id hv4
        have hs4 := hS8.trans (hbx4.mono hS8.size)
        have HP1 := Lib.hid (box_kept HP.out hbx4 (Nat.le_refl _))
        clear HP
        have HP := Lib.hid HP1.out
        clear HP1
        have HV4 := Lib.hid hv4
        clear hbx4 hv4
        unfold arV
        refine hK.out _ _ hs4 (fun hS4 => ?_); clear hK K
        refine wpAnyH_take (i := 5) (v := ?v5qcca) rfl (by kernel_rfl) (by kernel_rfl) (by kernel_rfl) (fun _ _ _ h => h) (Or.inl ⟨by kernel_rfl, ?h5qcca⟩) hS4 ?_
        case h5qcca => (rintro w9 hb9; obtain ⟨a0, a1, a2, _⟩ := box3 (box_kept HZ0.out hb9 (Nat.le_refl _)); obtain ⟨b0, b1, b2, _⟩ := box3 (box_kept HZ1.out hb9 (Nat.le_refl _)); go_simp; try with_reducible rfl)
        refine wpAnyH_take (i := 6) (v := ?v6qcca) rfl (by kernel_rfl) (by kernel_rfl) (by kernel_rfl) (fun _ _ _ h => h) (Or.inl ⟨by kernel_rfl, ?h6qcca⟩) hS4 ?_
        case h6qcca => (rintro w9 hb9; obtain ⟨a0, a1, a2, _⟩ := box3 (box_kept HZ0.out hb9 (Nat.le_refl _)); obtain ⟨b0, b1, b2, _⟩ := box3 (box_kept HZ1.out hb9 (Nat.le_refl _)); go_simp; try with_reducible rfl)
        refine wpAnyH_take (i := 7) (v := ?v7qcca) rfl (by kernel_rfl) (by kernel_rfl) (by kernel_rfl) (fun _ _ _ h => h) (Or.inl ⟨by kernel_rfl, ?h7qcca⟩) hS4 ?_
        case h7qcca => (rintro w9 hb9; obtain ⟨a0, a1, a2, _⟩ := box3 (box_kept HZ0.out hb9 (Nat.le_refl _)); obtain ⟨b0, b1, b2, _⟩ := box3 (box_kept HZ1.out hb9 (Nat.le_refl _)); go_simp; try with_reducible rfl)
        refine wpAnyH_ready (rs := [9]) (by kernel_rfl) (by simp) (AllReadyH.cons rfl (fun K hK => ?_) AllReadyH.nil)
        obtain ⟨p0, p1, p2, g0, g1, g2⟩ := box3 HP.out
        go_simp
        have HPS := Lib.hid (set3 (.int .i64 M) (.int .i64 N) (.slice A4' L.length cp4') HP.out)
        have HVS := Lib.hid (HV4.out.set3 HP.out (.int .i64 M) (.int .i64 N) (.slice A4' L.length cp4'))
        have HSS := Lib.hid (below3 (.int .i64 M) (.int .i64 N) (.slice A4' L.length cp4') hS4 HPW.out)
        refine hK.out _ _ HSS.out (fun hS9 => ?_); clear hK K p0 p1 p2 g0 g1 g2
        have hzz := (only3 (w := x4) (g := x3.heap.size) (.int .i64 M) (.int .i64 N) (.slice A4' L.length cp4')).size
        refine wpAnyH_take (i := 10) (v := ?v10qcca) rfl (by kernel_rfl) (by kernel_rfl) (by kernel_rfl) (fun _ _ _ h => h) (Or.inl ⟨by kernel_rfl, ?h10qcca⟩) hS9 ?_
        case h10qcca => (rintro w9 hb9; obtain ⟨a0, a1, a2, _⟩ := box3 (box_kept HZ0.out hb9 (Nat.le_refl _)); obtain ⟨b0, b1, b2, _⟩ := box3 (box_kept HZ1.out hb9 (Nat.le_refl _)); go_simp; try with_reducible rfl)
        refine wpAnyH_done (by kernel_rfl) ?_ _
        go_simp
        have HVT := Lib.hid (HVS.out.mono hzz)
        clear hzz HVS
        obtain ⟨W9, hW9⟩ : ∃ W9, (((x4.setCell ⟨x3.heap.size, 0, none⟩ (.int .i64 M)).setCell ⟨x3.heap.size, 1, none⟩ (.int .i64 N)).setCell ⟨x3.heap.size, 2, none⟩ (.slice A4' L.length cp4')) = W9 := ⟨_, rfl⟩
        rw [hW9] at HPS HVT HSS ⊢
        clear hW9 hS9
        have hz9 := box_kept HZ3.out HSS.out (Nat.le_refl _)
        have HZ9 := Lib.hid hz9
        obtain ⟨d0, d1, d2, f0, f1, f2⟩ := box3 hz9
        clear hz9
        go_wp2
        obtain ⟨r0, r1, r2, _⟩ := box3 (set3 (.int .i64 0) (.int .i64 0) (.slice none 0 0) HZ9.out)
        have hfin := ArOut2.store (w := w) (a := zA) (b := false) (.nil _ _) (HB2.out.trans (HSS.out.mono HB2.out.size)) HZ9.out (by omega)
        rw [HQ.out] at hfin
        exact bodyPost_ret (v := .tuple #[arV 0 0 (.slice none 0 0), .bool false]) (by simp [results, Tryd.f32, go_sem, arV, r0, r1, r2]) rfl hfin
    · go_simp
      have hbxa := Nm.alloc_below x1 (.cells #[.int .i64 0, .int .i64 0, .slice none 0 0] 25)
      have HP := Lib.hid (heap_alloc_new x1 (.cells #[.int .i64 0, .int .i64 0, .slice none 0 0] 25))
      have HPW := Lib.hid (hS1.size)
      have HV1b := Lib.hid ((HV1.out.below hbxa).mono hbxa.size)
      clear HV1
      have HV1 := Lib.hid HV1b.out
      clear HV1b
      refine hK.out _ _ (hS1.alloc hS1.size _) (fun hS8 => ?_); clear hK K hbxa
      obtain ⟨xa, hxa⟩ : ∃ xa, x1.alloc (.cells #[.int .i64 0, .int .i64 0, .slice none 0 0] 25) = xa := ⟨_, rfl⟩
      rw [hxa] at HP hS8 HV1 ⊢
      clear hxa
      refine wpAnyH_ready (rs := [3]) (by kernel_rfl) (by simp) (AllReadyH.cons rfl (fun K hK => ?_) AllReadyH.nil)
      go_simp
      go_wp2_with fail
      refine (HTB.out _ hS8).mono ?_
      rintro e x3 ⟨v3, rfl, hv3, hbx3⟩
      obtain ⟨A3', cp3', rfl, _⟩ := id hv3
      have hs3 := hS8.trans (hbx3.mono hS8.size)
      have HV1b := Lib.hid ((HV1.out.below hbx3).mono hbx3.size)
      have HP1 := Lib.hid (box_kept HP.out hbx3 (Nat.le_refl _))
      clear HP
      have HP := Lib.hid HP1.out
      clear HP1
      have HV3 := Lib.hid hv3
      clear hbx3 hv3 HV1
      have HV1 := Lib.hid HV1b.out
      clear HV1b
      unfold arV
      refine hK.out _ _ hs3 (fun hS3 => ?_); clear hK K
      refine wpAnyH_ready (rs := [4]) (by kernel_rfl) (by simp) (AllReadyH.cons rfl (fun K hK => ?_) AllReadyH.nil)
      go_simp
      go_wp2_with fail
      refine (HBES.out _ _ _ hS3 HV1.out HV3.out).mono ?_
      rintro e x4 ⟨v4, rfl, hv4, hbx4⟩
      obtain ⟨A4', cp4', rfl, _⟩ := id hv4
      have hs4 := hS3.trans (hbx4.mono hS3.size)
      have HP1 := Lib.hid (box_kept HP.out hbx4 (Nat.le_refl _))
      clear HP
      have HP := Lib.hid HP1.out
      clear HP1
      have HV4 := Lib.hid hv4
      clear hbx4 hv4
      unfold arV
      refine hK.out _ _ hs4 (fun hS4 => ?_); clear hK K
      refine wpAnyH_take (i := 5) (v := ?v5qca) rfl (by kernel_rfl) (by kernel_rfl) (by kernel_rfl) (fun _ _ _ h => h) (Or.inl ⟨by kernel_rfl, ?h5qca⟩) hS4 ?_
      case h5qca => (rintro w9 hb9; obtain ⟨a0, a1, a2, _⟩ := box3 (box_kept HZ0.out hb9 (Nat.le_refl _)); obtain ⟨b0, b1, b2, _⟩ := box3 (box_kept HZ1.out hb9 (Nat.le_refl _)); go_simp; try with_reducible rfl)
      refine wpAnyH_take (i := 6) (v := ?v6qca) rfl (by kernel_rfl) (by kernel_rfl) (by kernel_rfl) (fun _ _ _ h => h) (Or.inl ⟨by kernel_rfl, ?h6qca⟩) hS4 ?_
      case h6qca => (rintro w9 hb9; obtain ⟨a0, a1, a2, _⟩ := box3 (box_kept HZ0.out hb9 (Nat.le_refl _)); obtain ⟨b0, b1, b2, _⟩ := box3 (box_kept HZ1.out hb9 (Nat.le_refl _)); go_simp; try with_reducible rfl)
      refine wpAnyH_take (i := 7) (v := ?v7qca) rfl (by kernel_rfl) (by kernel_rfl) (by kernel_rfl) (fun _ _ _ h => h) (Or.inl ⟨by kernel_rfl, ?h7qca⟩) hS4 ?_
      case h7qca => (rintro w9 hb9; obtain ⟨a0, a1, a2, _⟩ := box3 (box_kept HZ0.out hb9 (Nat.le_refl _)); obtain ⟨b0, b1, b2, _⟩ := box3 (box_kept HZ1.out hb9 (Nat.le_refl _)); go_simp; try with_reducible rfl)
      refine wpAnyH_ready (rs := [9]) (by kernel_rfl) (by simp) (AllReadyH.cons rfl (fun K hK => ?_) AllReadyH.nil)
      obtain ⟨p0, p1, p2, g0, g1, g2⟩ := box3 HP.out
      go_simp
      have HPS := Lib.hid (set3 (.int .i64 M) (.int .i64 N) (.slice A4' L.length cp4') HP.out)
      have HVS := Lib.hid (HV4.out.set3 HP.out (.int .i64 M) (.int .i64 N) (.slice A4' L.length cp4'))
      have HSS := Lib.hid (below3 (.int .i64 M) (.int .i64 N) (.slice A4' L.length cp4') hS4 HPW.out)
      refine hK.out _ _ HSS.out (fun hS9 => ?_); clear hK K p0 p1 p2 g0 g1 g2
      have hzz := (only3 (w := x4) (g := x1.heap.size) (.int .i64 M) (.int .i64 N) (.slice A4' L.length cp4')).size
      refine wpAnyH_take (i := 10) (v := ?v10qca) rfl (by kernel_rfl) (by kernel_rfl) (by kernel_rfl) (fun _ _ _ h => h) (Or.inl ⟨by kernel_rfl, ?h10qca⟩) hS9 ?_
      case h10qca => (rintro w9 hb9; obtain ⟨a0, a1, a2, _⟩ := box3 (box_kept HZ0.out hb9 (Nat.le_refl _)); obtain ⟨b0, b1, b2, _⟩ := box3 (box_kept HZ1.out hb9 (Nat.le_refl _)); go_simp; try with_reducible rfl)
      refine wpAnyH_done (by kernel_rfl) ?_ _
      go_simp
      have HVT := Lib.hid (HVS.out.mono hzz)
      clear hzz HVS
      obtain ⟨W9, hW9⟩ : ∃ W9, (((x4.setCell ⟨x1.heap.size, 0, none⟩ (.int .i64 M)).setCell ⟨x1.heap.size, 1, none⟩ (.int .i64 N)).setCell ⟨x1.heap.size, 2, none⟩ (.slice A4' L.length cp4')) = W9 := ⟨_, rfl⟩
      rw [hW9] at HPS HVT HSS ⊢
      clear hW9 hS9
      have hz9 := box_kept HZ3.out HSS.out (Nat.le_refl _)
      have HZ9 := Lib.hid hz9
      obtain ⟨d0, d1, d2, f0, f1, f2⟩ := box3 hz9
      clear hz9
      go_wp2
      obtain ⟨r0, r1, r2, _⟩ := box3 (set3 (.int .i64 0) (.int .i64 0) (.slice none 0 0) HZ9.out)
      have hfin := ArOut2.store (w := w) (a := zA) (b := false) (.nil _ _) (HB2.out.trans (HSS.out.mono HB2.out.size)) HZ9.out (by omega)
      rw [HQ.out] at hfin
      exact bodyPost_ret (v := .tuple #[arV 0 0 (.slice none 0 0), .bool false]) (by simp [results, Tryd.f32, go_sem, arV, r0, r1, r2]) rfl hfin
  · go_simp
    have hbxa := Nm.alloc_below W2 (.cells #[.int .i64 0, .int .i64 0, .slice none 0 0] 25)
    have HP := Lib.hid (heap_alloc_new W2 (.cells #[.int .i64 0, .int .i64 0, .slice none 0 0] 25))
    have HPW := Lib.hid (hS.size)
    refine hK.out _ _ (hS.alloc hS.size _) (fun hS8 => ?_); clear hK K hbxa
    obtain ⟨xa, hxa⟩ : ∃ xa, W2.alloc (.cells #[.int .i64 0, .int .i64 0, .slice none 0 0] 25) = xa := ⟨_, rfl⟩
    rw [hxa] at HP hS8 ⊢
    clear hxa
    refine wpAnyH_ready (rs := [1]) (by kernel_rfl) (by simp) (AllReadyH.cons rfl (fun K hK => ?_) AllReadyH.nil)
    go_simp
    go_wp2_with fail
    refine (HTA.out _ hS8).mono ?_
    rintro e x1 ⟨v1, rfl, hv1, hbx1⟩
    obtain ⟨A1', cp1', rfl, _⟩ := id hv1
    have hs1 := hS8.trans (hbx1.mono hS8.size)
    have HP1 := Lib.hid (box_kept HP.out hbx1 (Nat.le_refl _))
    clear HP
    have HP := Lib.hid HP1.out
    clear HP1
    have HV1 := Lib.hid hv1
    clear hbx1 hv1
    unfold arV
    refine hK.out _ _ hs1 (fun hS1 => ?_); clear hK K
    refine wpAnyH_ready (rs := [3]) (by kernel_rfl) (by simp) (AllReadyH.cons rfl (fun K hK => ?_) AllReadyH.nil)
    go_simp
    go_wp2_with fail
    refine (HTB.out _ hS1).mono ?_
    rintro e x3 ⟨v3, rfl, hv3, hbx3⟩
    obtain ⟨A3', cp3', rfl, _⟩ := id hv3
    have hs3 := hS1.trans (hbx3.mono hS1.size)
    have HV1b := Lib.hid ((HV1.out.below hbx3).mono hbx3.size)
    have HP1 := Lib.hid (box_kept HP.out hbx3 (Nat.le_refl _))
    clear HP
    have HP := Lib.hid HP1.out
    clear HP1
    have HV3 := Lib.hid hv3
    clear hbx3 hv3 HV1
    have HV1 := Lib.hid HV1b.out
    clear HV1b
    unfold arV
    refine hK.out _ _ hs3 (fun hS3 => ?_); clear hK K
    refine wpAnyH_ready (rs := [4]) (by kernel_rfl) (by simp) (AllReadyH.cons rfl (fun K hK => ?_) AllReadyH.nil)
    go_simp
    go_wp2_with fail
    refine (HBES.out _ _ _ hS3 HV1.out HV3.out).mono ?_
    rintro e x4 ⟨v4, rfl, hv4, hbx4⟩
    obtain ⟨A4', cp4', rfl, _⟩ := id hv4
    have hs4 := hS3.trans (hbx4.mono hS3.size)
    have HP1 := Lib.hid (box_kept HP.out hbx4 (Nat.le_refl _))
    clear HP
    have HP := Lib.hid HP1.out
    clear HP1
    have HV4 := Lib.hid hv4
    clear hbx4 hv4
    unfold arV
    refine hK.out _ _ hs4 (fun hS4 => ?_); clear hK K
    refine wpAnyH_take (i := 5) (v := ?v5qa) rfl (by kernel_rfl) (by kernel_rfl) (by kernel_rfl) (fun _ _ _ h => h) (Or.inl ⟨by kernel_rfl, ?h5qa⟩) hS4 ?_
    case h5qa => (rintro w9 hb9; obtain ⟨a0, a1, a2, _⟩ := box3 (box_kept HZ0.out hb9 (Nat.le_refl _)); obtain ⟨b0, b1, b2, _⟩ := box3 (box_kept HZ1.out hb9 (Nat.le_refl _)); go_simp; try with_reducible rfl)
    refine wpAnyH_take (i := 6) (v := ?v6qa) rfl (by kernel_rfl) (by kernel_rfl) (by kernel_rfl) (fun _ _ _ h => h) (Or.inl ⟨by kernel_rfl, ?h6qa⟩) hS4 ?_
    case h6qa => (rintro w9 hb9; obtain ⟨a0, a1, a2, _⟩ := box3 (box_kept HZ0.out hb9 (Nat.le_refl _)); obtain ⟨b0, b1, b2, _⟩ := box3 (box_kept HZ1.out hb9 (Nat.le_refl _)); go_simp; try with_reducible rfl)
    refine wpAnyH_take (i := 7) (v := ?v7qa) rfl (by kernel_rfl) (by kernel_rfl) (by kernel_rfl) (fun _ _ _ h => h) (Or.inl ⟨by kernel_rfl, ?h7qa⟩) hS4 ?_
    case h7qa => (rintro w9 hb9; obtain ⟨a0, a1, a2, _⟩ := box3 (box_kept HZ0.out hb9 (Nat.le_refl _)); obtain ⟨b0, b1, b2, _⟩ := box3 (box_kept HZ1.out hb9 (Nat.le_refl _)); go_simp; try with_reducible rfl)
    refine wpAnyH_ready (rs := [9]) (by kernel_rfl) (by simp) (AllReadyH.cons rfl (fun K hK => ?_) AllReadyH.nil)
    obtain ⟨p0, p1, p2, g0, g1, g2⟩ := box3 HP.out
    go_simp
    have HPS := Lib.hid (set3 (.int .i64 M) (.int .i64 N) (.slice A4' L.length cp4') HP.out)
    have HVS := Lib.hid (HV4.out.set3 HP.out (.int .i64 M) (.int .i64 N) (.slice A4' L.length cp4'))
    have HSS := Lib.hid (below3 (.int .i64 M) (.int .i64 N) (.slice A4' L.length cp4') hS4 HPW.out)
    refine hK.out _ _ HSS.out (fun hS9 => ?_); clear hK K p0 p1 p2 g0 g1 g2
    have hzz := (only3 (w := x4) (g := W2.heap.size) (.int .i64 M) (.int .i64 N) (.slice A4' L.length cp4')).size
    refine wpAnyH_take (i := 10) (v := ?v10qa) rfl (by kernel_rfl) (by kernel_rfl) (by kernel_rfl) (fun _ _ _ h => h) (Or.inl ⟨by kernel_rfl, ?h10qa⟩) hS9 ?_
    case h10qa => (rintro w9 hb9; obtain ⟨a0, a1, a2, _⟩ := box3 (box_kept HZ0.out hb9 (Nat.le_refl _)); obtain ⟨b0, b1, b2, _⟩ := box3 (box_kept HZ1.out hb9 (Nat.le_refl _)); go_simp; try with_reducible rfl)
    refine wpAnyH_done (by kernel_rfl) ?_ _
    go_simp
    have HVT := Lib.hid (HVS.out.mono hzz)
    clear hzz HVS
    obtain ⟨W9, hW9⟩ : ∃ W9, (((x4.setCell ⟨W2.heap.size, 0, none⟩ (.int .i64 M)).setCell ⟨W2.heap.size, 1, none⟩ (.int .i64 N)).setCell ⟨W2.heap.size, 2, none⟩ (.slice A4' L.length cp4')) = W9 := ⟨_, rfl⟩
    rw [hW9] at HPS HVT HSS ⊢
    clear hW9 hS9
    have hz9 := box_kept HZ3.out HSS.out (Nat.le_refl _)
    have HZ9 := Lib.hid hz9
    obtain ⟨d0, d1, d2, f0, f1, f2⟩ := box3 hz9
    clear hz9
    go_wp2
    obtain ⟨r0, r1, r2, _⟩ := box3 (set3 (.int .i64 0) (.int .i64 0) (.slice none 0 0) HZ9.out)
    have hfin := ArOut2.store (w := w) (a := zA) (b := false) (.nil _ _) (HB2.out.trans (HSS.out.mono HB2.out.size)) HZ9.out (by omega)
    rw [HQ.out] at hfin
    exact bodyPost_ret (v := .tuple #[arV 0 0 (.slice none 0 0), .bool false]) (by simp [results, Tryd.f32, go_sem, arV, r0, r1, r2]) rfl hfin
end Go.Proofs.YtfgddhabepllfaaDoor
