/- ShapeParts, where all may be and is not too great. -/
import Derived.Test.YtfgddhabepllfaaDoorZa
namespace Go.Proofs.YtfgddhabepllfaaDoor
open Go.RowKit

set_option maxRecDepth 100000 in
set_option maxHeartbeats 20000000 in
theorem parts_yes {ra ca rb cb : Nat} {va vb : Value} {la lb : List Vl} (w : World) (he : Env w) (hva : ValAt w.heap.size w va la) (hvb : ValAt w.heap.size w vb lb) (hwa : WfL la) (hwb : WfL lb)
    (hs1 : smallB la = true) (hs2 : smallB lb = true) (hra : rightA ⟨ra, ca, la⟩ = true) (hrb : rightA ⟨rb, cb, lb⟩ = true) (hf : fitsB ((max ra rb : Nat) : Int) ((ca + cb : Nat) : Int) = true) :
    Calls Tryd.prog 6 #[arV ra ca va, arV rb cb vb] w fun e w' => e = .returned (.bool true) ∧ Below w.heap.size w w' := by
  obtain ⟨W0, hW0⟩ : ∃ W0, (w.alloc (.cells #[.int .i64 (ra : Int), .int .i64 (ca : Int), va] 25)).alloc (.cells #[.int .i64 (rb : Int), .int .i64 (cb : Int), vb] 25) = W0 := ⟨_, rfl⟩
  have hb0 : Below w.heap.size w W0 := by rw [← hW0]; exact two_below
  have hx0 : W0.heap[w.heap.size]? = some (.cells #[.int .i64 (ra : Int), .int .i64 (ca : Int), va] 25 (0, 0)) := by rw [← hW0]; exact two_old
  have hx1 : W0.heap[w.heap.size + 1]? = some (.cells #[.int .i64 (rb : Int), .int .i64 (cb : Int), vb] 25 (0, 0)) := by rw [← hW0]; exact two_new
  have HW0 := Lib.hid hW0
  have HB0 := Lib.hid hb0
  have HX0 := Lib.hid hx0
  have HX1 := Lib.hid hx1
  have HA := Lib.hid (fun W (hW : Below w.heap.size w W) => awake_any W (he.below hW))
  have HSA := Lib.hid (fun W (hW : Below w.heap.size w W) => small_any _ ra ca va la W hW.size (hva.below hW))
  have HSB := Lib.hid (fun W (hW : Below w.heap.size w W) => small_any _ rb cb vb lb W hW.size (hvb.below hW))
  rw [hs1] at HSA
  rw [hs2] at HSB
  obtain ⟨hla, hRCa, hRa, hCa, hRa1, hCa1, _⟩ := right_nat hra
  obtain ⟨hlb, hRCb, hRb, hCb, hRb1, hCb1, _⟩ := right_nat hrb
  have HRA := Lib.hid (fun W (hW : Below w.heap.size w W) => rrighta_any _ ra ca va la (by omega) W hW.size (hva.below hW))
  have HRB := Lib.hid (fun W (hW : Below w.heap.size w W) => rrighta_any _ rb cb vb lb (by omega) W hW.size (hvb.below hW))
  rw [hra] at HRA
  rw [hrb] at HRB
  have HBE := Lib.hid (fun W (hW : Below w.heap.size w W) => bes_yes hra hrb hf hwa hwb W (he.below hW) hW.size (hva.below hW) (hvb.below hW))
  have hrx := right_bes hra hrb hf
  have hwx := wf_bes hla hlb hwa hwb
  have HTA := Lib.hid (fun W (hW : Below w.heap.size w W) => turn_any hra hwa W (he.below hW) hW.size (hva.below hW))
  have HTB := Lib.hid (fun W (hW : Below w.heap.size w W) => turn_any hrb hwb W (he.below hW) hW.size (hvb.below hW))
  have HBES := Lib.hid (fun W v1 v2 (hW : Below w.heap.size w W) (h1 : ValAt W.heap.size W v1 (turnL ra ca la)) (h2 : ValAt W.heap.size W v2 (turnL rb cb lb)) => bel_turned hra hrb hf hwa hwb W (he.below hW) (Nat.le_refl _) h1 h2)
  have HTY := Lib.hid (fun W v1 (hW : Below w.heap.size w W) n (hn : n ≤ W.heap.size) (h1 : ValAt n W v1 (turnL (max ra rb) (ca + cb) (besL ra ca la rb cb lb))) => turn_any (right_turn hrx) (wf_turn (right_nat hrx).1 hwx) W (he.below hW) hn h1)
  rw [turn_turn (right_nat hrx).1] at HTY
  have hpl := part_left (rb := rb) (cb := cb) (lb := lb) hla
  have hpr := part_right (ra := ra) (ca := ca) (la := la) hlb
  have HPL := Lib.hid (fun W v1 (hW : Below w.heap.size w W) n (hn : n ≤ W.heap.size) (h1 : ValAt n W v1 (besL ra ca la rb cb lb)) => part_yes (0 : Int) (0 : Int) (ra : Int) (ca : Int) hrx (decide_eq_true (by omega)) (decide_eq_true (by omega)) hwx W (he.below hW) hn h1)
  have HPR := Lib.hid (fun W v1 (hW : Below w.heap.size w W) n (hn : n ≤ W.heap.size) (h1 : ValAt n W v1 (besL ra ca la rb cb lb)) => part_yes (0 : Int) (ca : Int) (rb : Int) (cb : Int) hrx (decide_eq_true (by omega)) (decide_eq_true (by omega)) hwx W (he.below hW) hn h1)
  unfold partA at HPL HPR
  simp only [Int.toNat_natCast, show (0 : Int).toNat = 0 from rfl] at HPL HPR
  rw [hpl] at HPL
  rw [hpr] at HPR
  have HSP := Lib.hid (fun W n v1 (hW : Below w.heap.size w W) (hn : n ≤ W.heap.size) (hn2 : w.heap.size ≤ n) (h1 : ValAt n W v1 la) => rsame_any n ra ca ra ca v1 va la la (by omega) W hn h1 ((hva.below hW).mono hn2))
  have HSQ := Lib.hid (fun W n v1 (hW : Below w.heap.size w W) (hn : n ≤ W.heap.size) (hn2 : w.heap.size ≤ n) (h1 : ValAt n W v1 lb) => rsame_any n rb cb rb cb v1 vb lb lb (by omega) W hn h1 ((hvb.below hW).mono hn2))
  have HSX := Lib.hid (fun W n v1 v2 (hn : n ≤ W.heap.size) (h1 : ValAt n W v1 (besL ra ca la rb cb lb)) (h2 : ValAt n W v2 (besL ra ca la rb cb lb)) => rsame_any n ((max ra rb : Nat) : Int) ((ca + cb : Nat) : Int) ((max ra rb : Nat) : Int) ((ca + cb : Nat) : Int) v1 v2 _ _ (by have := (right_nat hrx).1; have := (right_nat hrx).2.1; omega) W hn h1 h2)
  simp only [sameA_refl] at HSP HSQ HSX
  obtain ⟨TA, hTA⟩ : ∃ TA, turnL ra ca la = TA := ⟨_, rfl⟩
  obtain ⟨TB, hTB⟩ : ∃ TB, turnL rb cb lb = TB := ⟨_, rfl⟩
  obtain ⟨XL, hXL⟩ : ∃ XL, besL ra ca la rb cb lb = XL := ⟨_, rfl⟩
  rw [hTA] at HTA HBES
  rw [hTB] at HTB HBES
  rw [hXL] at HBE HBES HTY HPL HPR HSX
  obtain ⟨M, hM⟩ : ∃ M, max ra rb = M := ⟨_, rfl⟩
  obtain ⟨cs, hcs⟩ : ∃ cs, ca + cb = cs := ⟨_, rfl⟩
  rw [hM, hcs] at HBE HBES HTY HPL HPR HSX
  obtain ⟨L, hL⟩ : ∃ L, turnL M cs XL = L := ⟨_, rfl⟩
  rw [hL] at HBES HTY
  obtain ⟨A1, cp1, rfl, _⟩ := id hva
  obtain ⟨A2, cp2, rfl, _⟩ := id hvb
  clear hs1 hs2 hra hrb hf he hva hvb hwa hwb hW0 hb0 hx0 hx1 hla hRCa hRa hCa hRa1 hCa1 hlb hRCb hRb hCb hRb1 hCb1 hrx hwx hpl hpr hTA hTB hXL hM hcs hL
  unfold arV at *
  go_enter Tryd.func6, Tryd.ntmps6
  go_wp2_with fail
  rw [HW0.out]
  refine (HA.out _ HB0.out).mono ?_
  rintro e w1 ⟨rfl, hb1⟩
  have HC1 := Lib.hid hb1
  clear hb1
  obtain ⟨a0, a1, a2, _⟩ := box3 (box_kept HX0.out HC1.out (Nat.le_refl _))
  obtain ⟨b0, b1, b2, _⟩ := box3 (box_kept HX1.out HC1.out (Nat.le_refl _))
  go_wp2_with fail
  refine (HSA.out _ (HB0.out.trans (HC1.out.mono HB0.out.size))).mono ?_
  rintro e w2 ⟨rfl, hb2⟩
  have HC2 := Lib.hid (HC1.out.trans (hb2.mono HC1.out.size))
  clear hb2 a0 a1 a2 b0 b1 b2
  obtain ⟨a0, a1, a2, _⟩ := box3 (box_kept HX0.out HC2.out (Nat.le_refl _))
  obtain ⟨b0, b1, b2, _⟩ := box3 (box_kept HX1.out HC2.out (Nat.le_refl _))
  go_wp2_with fail
  refine (HSB.out _ (HB0.out.trans (HC2.out.mono HB0.out.size))).mono ?_
  rintro e w3 ⟨rfl, hb3⟩
  have HC3 := Lib.hid (HC2.out.trans (hb3.mono HC2.out.size))
  clear hb3 a0 a1 a2 b0 b1 b2
  obtain ⟨a0, a1, a2, _⟩ := box3 (box_kept HX0.out HC3.out (Nat.le_refl _))
  obtain ⟨b0, b1, b2, _⟩ := box3 (box_kept HX1.out HC3.out (Nat.le_refl _))
  go_wp2_with fail
  refine (HRA.out _ (HB0.out.trans (HC3.out.mono HB0.out.size))).mono ?_
  rintro e w4 ⟨rfl, hb4⟩
  have HC4 := Lib.hid (HC3.out.trans (hb4.mono HC3.out.size))
  clear hb4 a0 a1 a2 b0 b1 b2
  obtain ⟨a0, a1, a2, _⟩ := box3 (box_kept HX0.out HC4.out (Nat.le_refl _))
  obtain ⟨b0, b1, b2, _⟩ := box3 (box_kept HX1.out HC4.out (Nat.le_refl _))
  go_wp2_with fail
  refine (HRB.out _ (HB0.out.trans (HC4.out.mono HB0.out.size))).mono ?_
  rintro e w5 ⟨rfl, hb5⟩
  have HC5 := Lib.hid (HC4.out.trans (hb5.mono HC4.out.size))
  clear hb5 a0 a1 a2 b0 b1 b2
  obtain ⟨a0, a1, a2, _⟩ := box3 (box_kept HX0.out HC5.out (Nat.le_refl _))
  obtain ⟨b0, b1, b2, _⟩ := box3 (box_kept HX1.out HC5.out (Nat.le_refl _))
  go_wp2_with fail
  refine (HBE.out _ (HB0.out.trans (HC5.out.mono HB0.out.size))).mono ?_
  rintro e w6 ⟨v6, rfl, hv6, hb6⟩
  obtain ⟨A6, cp6, rfl, _⟩ := id hv6
  unfold arV
  try simp only
  have hbx := Nm.alloc_below w6 (.cells #[.int .i64 (M : Int), .int .i64 (cs : Int), .slice A6 XL.length cp6] 25)
  have HC6 := Lib.hid (HC5.out.trans ((hb6.trans (hbx.mono hb6.size)).mono HC5.out.size))
  have HX6 := Lib.hid (heap_alloc_new w6 (.cells #[.int .i64 (M : Int), .int .i64 (cs : Int), .slice A6 XL.length cp6] 25))
  have HV6 := Lib.hid ((hv6.below hbx).mono hbx.size)
  clear a0 a1 a2 b0 b1 b2 hv6 hb6 hbx
  obtain ⟨a0, a1, a2, _⟩ := box3 (box_kept HX0.out HC6.out (Nat.le_refl _))
  obtain ⟨b0, b1, b2, _⟩ := box3 (box_kept HX1.out HC6.out (Nat.le_refl _))
  go_wp2_with fail
  refine (HPL.out _ _ (HB0.out.trans (HC6.out.mono HB0.out.size)) _ (Nat.le_refl _) HV6.out).mono ?_
  rintro e w7 ⟨v7, rfl, hv7, hb7⟩
  obtain ⟨A7, cp7, rfl, _⟩ := id hv7
  unfold arV
  try simp only
  have hbx := Nm.alloc_below w7 (.cells #[.int .i64 (ra : Int), .int .i64 (ca : Int), .slice A7 la.length cp7] 25)
  have hbz := hb7.trans (hbx.mono hb7.size)
  have HC7 := Lib.hid (HC6.out.trans (hbz.mono HC6.out.size))
  have HX7 := Lib.hid (heap_alloc_new w7 (.cells #[.int .i64 (ra : Int), .int .i64 (ca : Int), .slice A7 la.length cp7] 25))
  have HV7 := Lib.hid ((hv7.below hbx).mono hbx.size)
  have HX67 := Lib.hid (box_kept HX6.out hbz (Nat.le_refl _))
  have HV67 := Lib.hid ((HV6.out.below hbz).mono hbz.size)
  clear a0 a1 a2 b0 b1 b2 hv7 hb7 hbx hbz
  obtain ⟨a0, a1, a2, _⟩ := box3 (box_kept HX0.out HC7.out (Nat.le_refl _))
  obtain ⟨b0, b1, b2, _⟩ := box3 (box_kept HX1.out HC7.out (Nat.le_refl _))
  obtain ⟨c0, c1, c2, _⟩ := box3 HX67.out
  go_wp2_with fail
  refine (HPR.out _ _ (HB0.out.trans (HC7.out.mono HB0.out.size)) _ (Nat.le_refl _) HV67.out).mono ?_
  rintro e w8 ⟨v8, rfl, hv8, hb8⟩
  obtain ⟨A8, cp8, rfl, _⟩ := id hv8
  unfold arV
  try simp only
  obtain ⟨w9, hw9⟩ : ∃ w9, w8.alloc (.cells #[.int .i64 (rb : Int), .int .i64 (cb : Int), .slice A8 lb.length cp8] 25) = w9 := ⟨_, rfl⟩
  have hbx : Below w8.heap.size w8 w9 := by rw [← hw9]; exact Nm.alloc_below _ _
  have hbz := hb8.trans (hbx.mono hb8.size)
  have HC9 := Lib.hid (HC7.out.trans (hbz.mono HC7.out.size))
  have HX9 : Hid (w9.heap[w8.heap.size]? = some (.cells #[.int .i64 (rb : Int), .int .i64 (cb : Int), .slice A8 lb.length cp8] 25 (0, 0))) := Lib.hid (by rw [← hw9]; exact heap_alloc_new _ _)
  have HV9 := Lib.hid ((hv8.below hbx).mono hbx.size)
  have HX79 := Lib.hid (box_kept HX7.out hbz (Nat.le_refl _))
  have HV79 := Lib.hid ((HV7.out.below hbz).mono hbz.size)
  have HX69 := Lib.hid (box_kept HX67.out hbz (Nat.le_refl _))
  have HV69 := Lib.hid ((HV67.out.below hbz).mono hbz.size)
  have HW9 := Lib.hid hw9
  have HZ0 := Lib.hid (box_kept HX0.out HC9.out (Nat.le_refl _))
  have HZ1 := Lib.hid (box_kept HX1.out HC9.out (Nat.le_refl _))
  have HB9 := Lib.hid (HB0.out.trans (HC9.out.mono HB0.out.size))
  clear a0 a1 a2 b0 b1 b2 c0 c1 c2 hv8 hb8 hbx hbz hw9
  have HTA9 := Lib.hid (fun X (hX : Below w9.heap.size w9 X) => HTA.out X (HB9.out.trans (hX.mono HB9.out.size)))
  have HTB9 := Lib.hid (fun X (hX : Below w9.heap.size w9 X) => HTB.out X (HB9.out.trans (hX.mono HB9.out.size)))
  have HBES9 := Lib.hid (fun X v1 v2 (hX : Below w9.heap.size w9 X) => HBES.out X v1 v2 (HB9.out.trans (hX.mono HB9.out.size)))
  clear HTA HTB HBES
  have HTA := Lib.hid HTA9.out
  have HTB := Lib.hid HTB9.out
  have HBES := Lib.hid HBES9.out
  clear HTA9 HTB9 HBES9 HBE HPL HPR HSA HSB HRA HRB HA HX0 HX1 HX6 HX7 HX67 HV6 HV7 HV67 HC1 HC2 HC3 HC4 HC5 HC6 HC7
  go_wp2_with fail
  rw [HW9.out]
  refine wp_region_held_drew (S := fun X => Below w9.heap.size w9 X) (by kernel_rfl) ((Below.refl _ _).drew) (fun hS => ?_)
  obtain ⟨W2, hW2⟩ : ∃ W2, w9.drew = W2 := ⟨_, rfl⟩
  rw [hW2] at hS ⊢
  clear hW2
  refine wpAnyH_take (i := 0) (v := ?v0q) rfl (by kernel_rfl) (by kernel_rfl) (by kernel_rfl) (fun _ _ _ h => h) (Or.inl ⟨by kernel_rfl, ?h0q⟩) hS ?_
  case h0q => (rintro w9 hb9; obtain ⟨a0, a1, a2, _⟩ := box3 (box_kept HZ0.out hb9 (Nat.le_refl _)); obtain ⟨b0, b1, b2, _⟩ := box3 (box_kept HZ1.out hb9 (Nat.le_refl _)); go_simp; try with_reducible rfl)
  refine wpAnyH_take (i := 2) (v := ?v2q) rfl (by kernel_rfl) (by kernel_rfl) (by kernel_rfl) (fun _ _ _ h => h) (Or.inl ⟨by kernel_rfl, ?h2q⟩) hS ?_
  case h2q => (rintro w9 hb9; obtain ⟨a0, a1, a2, _⟩ := box3 (box_kept HZ0.out hb9 (Nat.le_refl _)); obtain ⟨b0, b1, b2, _⟩ := box3 (box_kept HZ1.out hb9 (Nat.le_refl _)); go_simp; try with_reducible rfl)
  refine wpAnyH_ready (rs := [1, 8]) (by kernel_rfl) (by simp) (AllReadyH.cons rfl (fun K hK => ?_) (AllReadyH.cons rfl (fun K hK => ?_) AllReadyH.nil))
  · go_simp
    go_wp2_with fail
    refine (HTA.out _ hS).mono ?_
    rintro e x1 ⟨v1, rfl, hv1, hbx1⟩
    obtain ⟨A1', cp1', rfl, _⟩ := id hv1
    have hs1 := hS.trans (hbx1.mono hS.size)
    have HV1 := Lib.hid hv1
    clear hbx1 hv1
    unfold arV
    refine hK.out _ _ hs1 (fun hS1 => ?_); clear hK K
    refine wpAnyH_ready (rs := [3, 8]) (by kernel_rfl) (by simp) (AllReadyH.cons rfl (fun K hK => ?_) (AllReadyH.cons rfl (fun K hK => ?_) AllReadyH.nil))
    · go_simp
      go_wp2_with fail
      refine (HTB.out _ hS1).mono ?_
      rintro e x3 ⟨v3, rfl, hv3, hbx3⟩
      obtain ⟨A3', cp3', rfl, _⟩ := id hv3
      have hs3 := hS1.trans (hbx3.mono hS1.size)
      have HV1b := Lib.hid ((HV1.out.below hbx3).mono hbx3.size)
      have HV3 := Lib.hid hv3
      clear hbx3 hv3 HV1
      have HV1 := Lib.hid HV1b.out
      clear HV1b
      unfold arV
      refine hK.out _ _ hs3 (fun hS3 => ?_); clear hK K
      refine wpAnyH_ready (rs := [4, 8]) (by kernel_rfl) (by simp) (AllReadyH.cons rfl (fun K hK => ?_) (AllReadyH.cons rfl (fun K hK => ?_) AllReadyH.nil))
      · go_simp
        go_wp2_with fail
        refine (HBES.out _ _ _ hS3 HV1.out HV3.out).mono ?_
        rintro e x4 ⟨v4, rfl, hv4, hbx4⟩
        obtain ⟨A4', cp4', rfl, _⟩ := id hv4
        have hs4 := hS3.trans (hbx4.mono hS3.size)
        have HV4 := Lib.hid hv4
        clear hbx4 hv4
        unfold arV
        refine hK.out _ _ hs4 (fun hS4 => ?_); clear hK K
        refine wpAnyH_take (i := 5) (v := ?v5qccc) rfl (by kernel_rfl) (by kernel_rfl) (by kernel_rfl) (fun _ _ _ h => h) (Or.inl ⟨by kernel_rfl, ?h5qccc⟩) hS4 ?_
        case h5qccc => (rintro w9 _; go_simp; try with_reducible rfl)
        refine wpAnyH_take (i := 6) (v := ?v6qccc) rfl (by kernel_rfl) (by kernel_rfl) (by kernel_rfl) (fun _ _ _ h => h) (Or.inl ⟨by kernel_rfl, ?h6qccc⟩) hS4 ?_
        case h6qccc => (rintro w9 _; go_simp; try with_reducible rfl)
        refine wpAnyH_take (i := 7) (v := ?v7qccc) rfl (by kernel_rfl) (by kernel_rfl) (by kernel_rfl) (fun _ _ _ h => h) (Or.inl ⟨by kernel_rfl, ?h7qccc⟩) hS4 ?_
        case h7qccc => (rintro w9 _; go_simp; try with_reducible rfl)
        refine wpAnyH_ready (rs := [8]) (by kernel_rfl) (by simp) (AllReadyH.cons rfl (fun K hK => ?_) AllReadyH.nil)
        go_simp
        have hbxa := Nm.alloc_below x4 (.cells #[.int .i64 0, .int .i64 0, .slice none 0 0] 25)
        have HP := Lib.hid (heap_alloc_new x4 (.cells #[.int .i64 0, .int .i64 0, .slice none 0 0] 25))
        have HPW := Lib.hid (hS4.size)
        have HV4b := Lib.hid ((HV4.out.below hbxa).mono hbxa.size)
        clear HV4
        have HV4 := Lib.hid HV4b.out
        clear HV4b
        refine hK.out _ _ (hS4.alloc hS4.size _) (fun hS8 => ?_); clear hK K hbxa
        obtain ⟨xa, hxa⟩ : ∃ xa, x4.alloc (.cells #[.int .i64 0, .int .i64 0, .slice none 0 0] 25) = xa := ⟨_, rfl⟩
        rw [hxa] at HP hS8 HV4 ⊢
        clear hxa
        refine wpAnyH_ready (rs := [9]) (by kernel_rfl) (by simp) (AllReadyH.cons rfl (fun K hK => ?_) AllReadyH.nil)
        obtain ⟨p0, p1, p2, g0, g1, g2⟩ := box3 HP.out
        go_simp
        have HPS := Lib.hid (set3 (.int .i64 (cs : Int)) (.int .i64 (M : Int)) (.slice A4' L.length cp4') HP.out)
        have HVS := Lib.hid (HV4.out.set3 HP.out (.int .i64 (cs : Int)) (.int .i64 (M : Int)) (.slice A4' L.length cp4'))
        have HSS := Lib.hid (below3 (.int .i64 (cs : Int)) (.int .i64 (M : Int)) (.slice A4' L.length cp4') hS8 HPW.out)
        refine hK.out _ _ HSS.out (fun hS9 => ?_); clear hK K p0 p1 p2 g0 g1 g2
        have hzz := (only3 (w := xa) (g := x4.heap.size) (.int .i64 (cs : Int)) (.int .i64 (M : Int)) (.slice A4' L.length cp4')).size
        refine wpAnyH_take (i := 10) (v := ?v10qccc) rfl (by kernel_rfl) (by kernel_rfl) (by kernel_rfl) (fun _ _ _ h => h) (Or.inl ⟨by kernel_rfl, ?h10qccc⟩) hS9 ?_
        case h10qccc => (rintro w9 _; go_simp; try with_reducible rfl)
        refine wpAnyH_done (by kernel_rfl) ?_ _
        go_simp
        have HVT := Lib.hid (HVS.out.mono hzz)
        clear hzz HVS
        obtain ⟨W9, hW9⟩ : ∃ W9, (((xa.setCell ⟨x4.heap.size, 0, none⟩ (.int .i64 (cs : Int))).setCell ⟨x4.heap.size, 1, none⟩ (.int .i64 (M : Int))).setCell ⟨x4.heap.size, 2, none⟩ (.slice A4' L.length cp4')) = W9 := ⟨_, rfl⟩
        rw [hW9] at HPS HVT HSS ⊢
        clear hW9 hS9
        go_wp2_with fail
        refine wp_region_held_drew (S := fun X => Below W9.heap.size W9 X) (by kernel_rfl) ((Below.refl _ _).drew) (fun hT => ?_)
        refine wpAnyH_take (i := 0) (v := .bool true) rfl (by kernel_rfl) (by kernel_rfl) (by kernel_rfl) (fun _ _ _ h => h) (Or.inl ⟨by kernel_rfl, ?h0e1⟩) hT ?_
        case h0e1 => (rintro w2 _; go_simp; try with_reducible rfl)
        refine wpAnyH_take (i := 1) (v := .bool true) rfl (by kernel_rfl) (by kernel_rfl) (by kernel_rfl) (fun _ _ _ h => h) (Or.inl ⟨by kernel_rfl, ?h1e1⟩) hT ?_
        case h1e1 => (rintro w2 _; go_simp; try with_reducible rfl)
        refine wpAnyH_take (i := 2) (v := .bool true) rfl (by kernel_rfl) (by kernel_rfl) (by kernel_rfl) (fun _ _ _ h => h) (Or.inl ⟨by kernel_rfl, ?h2e1⟩) hT ?_
        case h2e1 => (rintro w2 _; go_simp; try with_reducible rfl)
        refine wpAnyH_take (i := 3) (v := .bool true) rfl (by kernel_rfl) (by kernel_rfl) (by kernel_rfl) (fun _ _ _ h => h) (Or.inl ⟨by kernel_rfl, ?h3e1⟩) hT ?_
        case h3e1 => (rintro w2 _; go_simp; try with_reducible rfl)
        refine wpAnyH_take (i := 4) (v := .bool true) rfl (by kernel_rfl) (by kernel_rfl) (by kernel_rfl) (fun _ _ _ h => h) (Or.inl ⟨by kernel_rfl, ?h4e1⟩) hT ?_
        case h4e1 => (rintro w2 _; go_simp; try with_reducible rfl)
        refine wpAnyH_take (i := 5) (v := .bool true) rfl (by kernel_rfl) (by kernel_rfl) (by kernel_rfl) (fun _ _ _ h => h) (Or.inl ⟨by kernel_rfl, ?h5e1⟩) hT ?_
        case h5e1 => (rintro w2 _; go_simp; try with_reducible rfl)
        refine wpAnyH_take (i := 6) (v := .bool true) rfl (by kernel_rfl) (by kernel_rfl) (by kernel_rfl) (fun _ _ _ h => h) (Or.inl ⟨by kernel_rfl, ?h6e1⟩) hT ?_
        case h6e1 => (rintro w2 _; go_simp; try with_reducible rfl)
        refine wpAnyH_take (i := 7) (v := .bool true) rfl (by kernel_rfl) (by kernel_rfl) (by kernel_rfl) (fun _ _ _ h => h) (Or.inl ⟨by kernel_rfl, ?h7e1⟩) hT ?_
        case h7e1 => (rintro w2 _; go_simp; try with_reducible rfl)
        refine wpAnyH_take (i := 8) (v := ?v8e1) rfl (by kernel_rfl) (by kernel_rfl) (by kernel_rfl) (fun _ _ _ h => h) (Or.inl ⟨by kernel_rfl, ?h8e1⟩) hT ?_
        case h8e1 => (rintro w2 hb; obtain ⟨q0, q1, q2, _⟩ := box3 (box_kept (box_kept HX79.out HSS.out (Nat.le_refl _)) hb (Nat.le_refl _)); go_simp; try with_reducible rfl)
        refine wpAnyH_take (i := 9) (v := ?v9e1) rfl (by kernel_rfl) (by kernel_rfl) (by kernel_rfl) (fun _ _ _ h => h) (Or.inl ⟨by kernel_rfl, ?h9e1⟩) hT ?_
        case h9e1 => (rintro w2 hb; obtain ⟨q0, q1, q2, _⟩ := box3 (box_kept (box_kept HZ0.out HSS.out (Nat.le_refl _)) hb (Nat.le_refl _)); go_simp; try with_reducible rfl)
        refine wpAnyH_ready (rs := [10]) (by kernel_rfl) (by simp) (AllReadyH.cons rfl (fun K hK => ?_) AllReadyH.nil)
        go_simp
        go_wp2_with (go_at_call 17; refine (HSP.out _ w9.heap.size _ (HB9.out.trans ((HSS.out.trans (hT.mono HSS.out.size)).mono HB9.out.size)) (Nat.le_trans HSS.out.size hT.size) HB9.out.size (HV79.out.below (HSS.out.trans (hT.mono HSS.out.size)))).mono ?_; rintro e10 x10 ⟨rfl, hb10⟩)
        refine hK.out _ _ ((hT.trans (hb10.mono hT.size))) (fun hS10 => ?_); clear hK K
        refine wpAnyH_take (i := 11) (v := .bool true) rfl (by kernel_rfl) (by kernel_rfl) (by kernel_rfl) (fun _ _ _ h => h) (Or.inl ⟨by kernel_rfl, ?h11e1⟩) hS10 ?_
        case h11e1 => (rintro w2 _; go_simp; try with_reducible rfl)
        refine wpAnyH_take (i := 12) (v := .bool true) rfl (by kernel_rfl) (by kernel_rfl) (by kernel_rfl) (fun _ _ _ h => h) (Or.inl ⟨by kernel_rfl, ?h12e1⟩) hS10 ?_
        case h12e1 => (rintro w2 _; go_simp; try with_reducible rfl)
        refine wpAnyH_take (i := 13) (v := ?v13e1) rfl (by kernel_rfl) (by kernel_rfl) (by kernel_rfl) (fun _ _ _ h => h) (Or.inl ⟨by kernel_rfl, ?h13e1⟩) hS10 ?_
        case h13e1 => (rintro w2 hb; obtain ⟨q0, q1, q2, _⟩ := box3 (box_kept (box_kept HX9.out HSS.out (Nat.le_refl _)) hb (Nat.le_refl _)); go_simp; try with_reducible rfl)
        refine wpAnyH_take (i := 14) (v := ?v14e1) rfl (by kernel_rfl) (by kernel_rfl) (by kernel_rfl) (fun _ _ _ h => h) (Or.inl ⟨by kernel_rfl, ?h14e1⟩) hS10 ?_
        case h14e1 => (rintro w2 hb; obtain ⟨q0, q1, q2, _⟩ := box3 (box_kept (box_kept HZ1.out HSS.out (Nat.le_refl _)) hb (Nat.le_refl _)); go_simp; try with_reducible rfl)
        refine wpAnyH_ready (rs := [15]) (by kernel_rfl) (by simp) (AllReadyH.cons rfl (fun K hK => ?_) AllReadyH.nil)
        go_simp
        go_wp2_with (go_at_call 17; refine (HSQ.out _ w9.heap.size _ (HB9.out.trans ((HSS.out.trans (hS10.mono HSS.out.size)).mono HB9.out.size)) (Nat.le_trans HSS.out.size hS10.size) HB9.out.size (HV9.out.below (HSS.out.trans (hS10.mono HSS.out.size)))).mono ?_; rintro e15 x15 ⟨rfl, hb15⟩)
        refine hK.out _ _ ((hS10.trans (hb15.mono hS10.size))) (fun hS15 => ?_); clear hK K
        refine wpAnyH_take (i := 16) (v := .bool true) rfl (by kernel_rfl) (by kernel_rfl) (by kernel_rfl) (fun _ _ _ h => h) (Or.inl ⟨by kernel_rfl, ?h16e1⟩) hS15 ?_
        case h16e1 => (rintro w2 _; go_simp; try with_reducible rfl)
        refine wpAnyH_take (i := 17) (v := .bool true) rfl (by kernel_rfl) (by kernel_rfl) (by kernel_rfl) (fun _ _ _ h => h) (Or.inl ⟨by kernel_rfl, ?h17e1⟩) hS15 ?_
        case h17e1 => (rintro w2 _; go_simp; try with_reducible rfl)
        refine wpAnyH_take (i := 18) (v := ?v18e1) rfl (by kernel_rfl) (by kernel_rfl) (by kernel_rfl) (fun _ _ _ h => h) (Or.inl ⟨by kernel_rfl, ?h18e1⟩) hS15 ?_
        case h18e1 => (rintro w2 hb; obtain ⟨q0, q1, q2, _⟩ := box3 (box_kept HPS.out hb (Nat.le_refl _)); go_simp; try with_reducible rfl)
        refine wpAnyH_take (i := 20) (v := ?v20e1) rfl (by kernel_rfl) (by kernel_rfl) (by kernel_rfl) (fun _ _ _ h => h) (Or.inl ⟨by kernel_rfl, ?h20e1⟩) hS15 ?_
        case h20e1 => (rintro w2 hb; obtain ⟨q0, q1, q2, _⟩ := box3 (box_kept (box_kept HX69.out HSS.out (Nat.le_refl _)) hb (Nat.le_refl _)); go_simp; try with_reducible rfl)
        refine wpAnyH_ready (rs := [19]) (by kernel_rfl) (by simp) (AllReadyH.cons rfl (fun K hK => ?_) AllReadyH.nil)
        go_simp
        go_wp2_with (go_at_call 23; refine (HTY.out _ _ (HB9.out.trans ((HSS.out.trans (hS15.mono HSS.out.size)).mono HB9.out.size)) _ hS15.size (HVT.out.below hS15)).mono ?_; rintro e19 x19 ⟨v19, rfl, hv19, hb19⟩; obtain ⟨A19, cp19, rfl, _⟩ := id hv19; unfold arV)
        refine hK.out _ _ ((hS15.trans (hb19.mono hS15.size))) (fun hS19 => ?_); clear hK K
        refine wpAnyH_ready (rs := [21]) (by kernel_rfl) (by simp) (AllReadyH.cons rfl (fun K hK => ?_) AllReadyH.nil)
        go_simp
        go_wp2_with (go_at_call 17; refine (HSX.out _ _ _ _ (Nat.le_refl _) hv19 ((HV69.out.below (HSS.out.trans (hS19.mono HSS.out.size))).mono (Nat.le_trans HSS.out.size hS19.size))).mono ?_; rintro e21 x21 ⟨rfl, hb21⟩)
        refine hK.out _ _ ((hS19.trans (hb21.mono hS19.size))) (fun hS21 => ?_); clear hK K
        refine wpAnyH_take (i := 22) (v := .bool true) rfl (by kernel_rfl) (by kernel_rfl) (by kernel_rfl) (fun _ _ _ h => h) (Or.inl ⟨by kernel_rfl, ?h22e1⟩) hS21 ?_
        case h22e1 => (rintro w2 _; go_simp; try with_reducible rfl)
        refine wpAnyH_take (i := 23) (v := .bool true) rfl (by kernel_rfl) (by kernel_rfl) (by kernel_rfl) (fun _ _ _ h => h) (Or.inl ⟨by kernel_rfl, ?h23e1⟩) hS21 ?_
        case h23e1 => (rintro w2 _; go_simp; try with_reducible rfl)
        refine wpAnyH_done (by kernel_rfl) ?_ _
        go_simp
        go_wp2
        go_ret
        exact ⟨rfl, HB9.out.trans ((HSS.out.trans (hS21.mono HSS.out.size)).mono HB9.out.size)⟩
      · go_simp
        have hbxa := Nm.alloc_below x3 (.cells #[.int .i64 0, .int .i64 0, .slice none 0 0] 25)
        have HP := Lib.hid (heap_alloc_new x3 (.cells #[.int .i64 0, .int .i64 0, .slice none 0 0] 25))
        have HPW := Lib.hid (hS3.size)
        have HV1b := Lib.hid ((HV1.out.below hbxa).mono hbxa.size)
        clear HV1
        have HV1 := Lib.hid HV1b.out
        clear HV1b
        have HV3b := Lib.hid ((HV3.out.below hbxa).mono hbxa.size)
        clear HV3
        have HV3 := Lib.hid HV3b.out
        clear HV3b
        refine hK.out _ _ (hS3.alloc hS3.size _) (fun hS8 => ?_); clear hK K hbxa
        obtain ⟨xa, hxa⟩ : ∃ xa, x3.alloc (.cells #[.int .i64 0, .int .i64 0, .slice none 0 0] 25) = xa := ⟨_, rfl⟩
        rw [hxa] at HP hS8 HV1 HV3 ⊢
        clear hxa
        refine wpAnyH_ready (rs := [4]) (by kernel_rfl) (by simp) (AllReadyH.cons rfl (fun K hK => ?_) AllReadyH.nil)
        go_simp
        go_wp2_with fail
        refine (HBES.out _ _ _ hS8 HV1.out HV3.out).mono ?_
        rintro e x4 ⟨v4, rfl, hv4, hbx4⟩
        obtain ⟨A4', cp4', rfl, _⟩ := id hv4
        have hs4 := hS8.trans (hbx4.mono hS8.size)
        have HP1 := Lib.hid (box_kept HP.out hbx4 (Nat.le_refl _))
        clear HP
        have HP := Lib.hid HP1.out
        clear HP1
        have HV4 := Lib.hid hv4
        clear hbx4 hv4
        unfold arV
        refine hK.out _ _ hs4 (fun hS4 => ?_); clear hK K
        refine wpAnyH_take (i := 5) (v := ?v5qcca) rfl (by kernel_rfl) (by kernel_rfl) (by kernel_rfl) (fun _ _ _ h => h) (Or.inl ⟨by kernel_rfl, ?h5qcca⟩) hS4 ?_
        case h5qcca => (rintro w9 _; go_simp; try with_reducible rfl)
        refine wpAnyH_take (i := 6) (v := ?v6qcca) rfl (by kernel_rfl) (by kernel_rfl) (by kernel_rfl) (fun _ _ _ h => h) (Or.inl ⟨by kernel_rfl, ?h6qcca⟩) hS4 ?_
        case h6qcca => (rintro w9 _; go_simp; try with_reducible rfl)
        refine wpAnyH_take (i := 7) (v := ?v7qcca) rfl (by kernel_rfl) (by kernel_rfl) (by kernel_rfl) (fun _ _ _ h => h) (Or.inl ⟨by kernel_rfl, ?h7qcca⟩) hS4 ?_
        case h7qcca => (rintro w9 _; go_simp; try with_reducible rfl)
        refine wpAnyH_ready (rs := [9]) (by kernel_rfl) (by simp) (AllReadyH.cons rfl (fun K hK => ?_) AllReadyH.nil)
        obtain ⟨p0, p1, p2, g0, g1, g2⟩ := box3 HP.out
        go_simp
        have HPS := Lib.hid (set3 (.int .i64 (cs : Int)) (.int .i64 (M : Int)) (.slice A4' L.length cp4') HP.out)
        have HVS := Lib.hid (HV4.out.set3 HP.out (.int .i64 (cs : Int)) (.int .i64 (M : Int)) (.slice A4' L.length cp4'))
        have HSS := Lib.hid (below3 (.int .i64 (cs : Int)) (.int .i64 (M : Int)) (.slice A4' L.length cp4') hS4 HPW.out)
        refine hK.out _ _ HSS.out (fun hS9 => ?_); clear hK K p0 p1 p2 g0 g1 g2
        have hzz := (only3 (w := x4) (g := x3.heap.size) (.int .i64 (cs : Int)) (.int .i64 (M : Int)) (.slice A4' L.length cp4')).size
        refine wpAnyH_take (i := 10) (v := ?v10qcca) rfl (by kernel_rfl) (by kernel_rfl) (by kernel_rfl) (fun _ _ _ h => h) (Or.inl ⟨by kernel_rfl, ?h10qcca⟩) hS9 ?_
        case h10qcca => (rintro w9 _; go_simp; try with_reducible rfl)
        refine wpAnyH_done (by kernel_rfl) ?_ _
        go_simp
        have HVT := Lib.hid (HVS.out.mono hzz)
        clear hzz HVS
        obtain ⟨W9, hW9⟩ : ∃ W9, (((x4.setCell ⟨x3.heap.size, 0, none⟩ (.int .i64 (cs : Int))).setCell ⟨x3.heap.size, 1, none⟩ (.int .i64 (M : Int))).setCell ⟨x3.heap.size, 2, none⟩ (.slice A4' L.length cp4')) = W9 := ⟨_, rfl⟩
        rw [hW9] at HPS HVT HSS ⊢
        clear hW9 hS9
        go_wp2_with fail
        refine wp_region_held_drew (S := fun X => Below W9.heap.size W9 X) (by kernel_rfl) ((Below.refl _ _).drew) (fun hT => ?_)
        refine wpAnyH_take (i := 0) (v := .bool true) rfl (by kernel_rfl) (by kernel_rfl) (by kernel_rfl) (fun _ _ _ h => h) (Or.inl ⟨by kernel_rfl, ?h0e2⟩) hT ?_
        case h0e2 => (rintro w2 _; go_simp; try with_reducible rfl)
        refine wpAnyH_take (i := 1) (v := .bool true) rfl (by kernel_rfl) (by kernel_rfl) (by kernel_rfl) (fun _ _ _ h => h) (Or.inl ⟨by kernel_rfl, ?h1e2⟩) hT ?_
        case h1e2 => (rintro w2 _; go_simp; try with_reducible rfl)
        refine wpAnyH_take (i := 2) (v := .bool true) rfl (by kernel_rfl) (by kernel_rfl) (by kernel_rfl) (fun _ _ _ h => h) (Or.inl ⟨by kernel_rfl, ?h2e2⟩) hT ?_
        case h2e2 => (rintro w2 _; go_simp; try with_reducible rfl)
        refine wpAnyH_take (i := 3) (v := .bool true) rfl (by kernel_rfl) (by kernel_rfl) (by kernel_rfl) (fun _ _ _ h => h) (Or.inl ⟨by kernel_rfl, ?h3e2⟩) hT ?_
        case h3e2 => (rintro w2 _; go_simp; try with_reducible rfl)
        refine wpAnyH_take (i := 4) (v := .bool true) rfl (by kernel_rfl) (by kernel_rfl) (by kernel_rfl) (fun _ _ _ h => h) (Or.inl ⟨by kernel_rfl, ?h4e2⟩) hT ?_
        case h4e2 => (rintro w2 _; go_simp; try with_reducible rfl)
        refine wpAnyH_take (i := 5) (v := .bool true) rfl (by kernel_rfl) (by kernel_rfl) (by kernel_rfl) (fun _ _ _ h => h) (Or.inl ⟨by kernel_rfl, ?h5e2⟩) hT ?_
        case h5e2 => (rintro w2 _; go_simp; try with_reducible rfl)
        refine wpAnyH_take (i := 6) (v := .bool true) rfl (by kernel_rfl) (by kernel_rfl) (by kernel_rfl) (fun _ _ _ h => h) (Or.inl ⟨by kernel_rfl, ?h6e2⟩) hT ?_
        case h6e2 => (rintro w2 _; go_simp; try with_reducible rfl)
        refine wpAnyH_take (i := 7) (v := .bool true) rfl (by kernel_rfl) (by kernel_rfl) (by kernel_rfl) (fun _ _ _ h => h) (Or.inl ⟨by kernel_rfl, ?h7e2⟩) hT ?_
        case h7e2 => (rintro w2 _; go_simp; try with_reducible rfl)
        refine wpAnyH_take (i := 8) (v := ?v8e2) rfl (by kernel_rfl) (by kernel_rfl) (by kernel_rfl) (fun _ _ _ h => h) (Or.inl ⟨by kernel_rfl, ?h8e2⟩) hT ?_
        case h8e2 => (rintro w2 hb; obtain ⟨q0, q1, q2, _⟩ := box3 (box_kept (box_kept HX79.out HSS.out (Nat.le_refl _)) hb (Nat.le_refl _)); go_simp; try with_reducible rfl)
        refine wpAnyH_take (i := 9) (v := ?v9e2) rfl (by kernel_rfl) (by kernel_rfl) (by kernel_rfl) (fun _ _ _ h => h) (Or.inl ⟨by kernel_rfl, ?h9e2⟩) hT ?_
        case h9e2 => (rintro w2 hb; obtain ⟨q0, q1, q2, _⟩ := box3 (box_kept (box_kept HZ0.out HSS.out (Nat.le_refl _)) hb (Nat.le_refl _)); go_simp; try with_reducible rfl)
        refine wpAnyH_ready (rs := [10]) (by kernel_rfl) (by simp) (AllReadyH.cons rfl (fun K hK => ?_) AllReadyH.nil)
        go_simp
        go_wp2_with (go_at_call 17; refine (HSP.out _ w9.heap.size _ (HB9.out.trans ((HSS.out.trans (hT.mono HSS.out.size)).mono HB9.out.size)) (Nat.le_trans HSS.out.size hT.size) HB9.out.size (HV79.out.below (HSS.out.trans (hT.mono HSS.out.size)))).mono ?_; rintro e10 x10 ⟨rfl, hb10⟩)
        refine hK.out _ _ ((hT.trans (hb10.mono hT.size))) (fun hS10 => ?_); clear hK K
        refine wpAnyH_take (i := 11) (v := .bool true) rfl (by kernel_rfl) (by kernel_rfl) (by kernel_rfl) (fun _ _ _ h => h) (Or.inl ⟨by kernel_rfl, ?h11e2⟩) hS10 ?_
        case h11e2 => (rintro w2 _; go_simp; try with_reducible rfl)
        refine wpAnyH_take (i := 12) (v := .bool true) rfl (by kernel_rfl) (by kernel_rfl) (by kernel_rfl) (fun _ _ _ h => h) (Or.inl ⟨by kernel_rfl, ?h12e2⟩) hS10 ?_
        case h12e2 => (rintro w2 _; go_simp; try with_reducible rfl)
        refine wpAnyH_take (i := 13) (v := ?v13e2) rfl (by kernel_rfl) (by kernel_rfl) (by kernel_rfl) (fun _ _ _ h => h) (Or.inl ⟨by kernel_rfl, ?h13e2⟩) hS10 ?_
        case h13e2 => (rintro w2 hb; obtain ⟨q0, q1, q2, _⟩ := box3 (box_kept (box_kept HX9.out HSS.out (Nat.le_refl _)) hb (Nat.le_refl _)); go_simp; try with_reducible rfl)
        refine wpAnyH_take (i := 14) (v := ?v14e2) rfl (by kernel_rfl) (by kernel_rfl) (by kernel_rfl) (fun _ _ _ h => h) (Or.inl ⟨by kernel_rfl, ?h14e2⟩) hS10 ?_
        case h14e2 => (rintro w2 hb; obtain ⟨q0, q1, q2, _⟩ := box3 (box_kept (box_kept HZ1.out HSS.out (Nat.le_refl _)) hb (Nat.le_refl _)); go_simp; try with_reducible rfl)
        refine wpAnyH_ready (rs := [15]) (by kernel_rfl) (by simp) (AllReadyH.cons rfl (fun K hK => ?_) AllReadyH.nil)
        go_simp
        go_wp2_with (go_at_call 17; refine (HSQ.out _ w9.heap.size _ (HB9.out.trans ((HSS.out.trans (hS10.mono HSS.out.size)).mono HB9.out.size)) (Nat.le_trans HSS.out.size hS10.size) HB9.out.size (HV9.out.below (HSS.out.trans (hS10.mono HSS.out.size)))).mono ?_; rintro e15 x15 ⟨rfl, hb15⟩)
        refine hK.out _ _ ((hS10.trans (hb15.mono hS10.size))) (fun hS15 => ?_); clear hK K
        refine wpAnyH_take (i := 16) (v := .bool true) rfl (by kernel_rfl) (by kernel_rfl) (by kernel_rfl) (fun _ _ _ h => h) (Or.inl ⟨by kernel_rfl, ?h16e2⟩) hS15 ?_
        case h16e2 => (rintro w2 _; go_simp; try with_reducible rfl)
        refine wpAnyH_take (i := 17) (v := .bool true) rfl (by kernel_rfl) (by kernel_rfl) (by kernel_rfl) (fun _ _ _ h => h) (Or.inl ⟨by kernel_rfl, ?h17e2⟩) hS15 ?_
        case h17e2 => (rintro w2 _; go_simp; try with_reducible rfl)
        refine wpAnyH_take (i := 18) (v := ?v18e2) rfl (by kernel_rfl) (by kernel_rfl) (by kernel_rfl) (fun _ _ _ h => h) (Or.inl ⟨by kernel_rfl, ?h18e2⟩) hS15 ?_
        case h18e2 => (rintro w2 hb; obtain ⟨q0, q1, q2, _⟩ := box3 (box_kept HPS.out hb (Nat.le_refl _)); go_simp; try with_reducible rfl)
        refine wpAnyH_take (i := 20) (v := ?v20e2) rfl (by kernel_rfl) (by kernel_rfl) (by kernel_rfl) (fun _ _ _ h => h) (Or.inl ⟨by kernel_rfl, ?h20e2⟩) hS15 ?_
        case h20e2 => (rintro w2 hb; obtain ⟨q0, q1, q2, _⟩ := box3 (box_kept (box_kept HX69.out HSS.out (Nat.le_refl _)) hb (Nat.le_refl _)); go_simp; try with_reducible rfl)
        refine wpAnyH_ready (rs := [19]) (by kernel_rfl) (by simp) (AllReadyH.cons rfl (fun K hK => ?_) AllReadyH.nil)
        go_simp
        go_wp2_with (go_at_call 23; refine (HTY.out _ _ (HB9.out.trans ((HSS.out.trans (hS15.mono HSS.out.size)).mono HB9.out.size)) _ hS15.size (HVT.out.below hS15)).mono ?_; rintro e19 x19 ⟨v19, rfl, hv19, hb19⟩; obtain ⟨A19, cp19, rfl, _⟩ := id hv19; unfold arV)
        refine hK.out _ _ ((hS15.trans (hb19.mono hS15.size))) (fun hS19 => ?_); clear hK K
        refine wpAnyH_ready (rs := [21]) (by kernel_rfl) (by simp) (AllReadyH.cons rfl (fun K hK => ?_) AllReadyH.nil)
        go_simp
        go_wp2_with (go_at_call 17; refine (HSX.out _ _ _ _ (Nat.le_refl _) hv19 ((HV69.out.below (HSS.out.trans (hS19.mono HSS.out.size))).mono (Nat.le_trans HSS.out.size hS19.size))).mono ?_; rintro e21 x21 ⟨rfl, hb21⟩)
        refine hK.out _ _ ((hS19.trans (hb21.mono hS19.size))) (fun hS21 => ?_); clear hK K
        refine wpAnyH_take (i := 22) (v := .bool true) rfl (by kernel_rfl) (by kernel_rfl) (by kernel_rfl) (fun _ _ _ h => h) (Or.inl ⟨by kernel_rfl, ?h22e2⟩) hS21 ?_
        case h22e2 => (rintro w2 _; go_simp; try with_reducible rfl)
        refine wpAnyH_take (i := 23) (v := .bool true) rfl (by kernel_rfl) (by kernel_rfl) (by kernel_rfl) (fun _ _ _ h => h) (Or.inl ⟨by kernel_rfl, ?h23e2⟩) hS21 ?_
        case h23e2 => (rintro w2 _; go_simp; try with_reducible rfl)
        refine wpAnyH_done (by kernel_rfl) ?_ _
        go_simp
        go_wp2
        go_ret
        exact ⟨rfl, HB9.out.trans ((HSS.out.trans (hS21.mono HSS.out.size)).mono HB9.out.size)⟩
    · go_simp
      have hbxa := Nm.alloc_below x1 (.cells #[.int .i64 0, .int .i64 0, .slice none 0 0] 25)
      have HP := Lib.hid (heap_alloc_new x1 (.cells #[.int .i64 0, .int .i64 0, .slice none 0 0] 25))
      have HPW := Lib.hid (hS1.size)
      have HV1b := Lib.hid ((HV1.out.below hbxa).mono hbxa.size)
      clear HV1
      have HV1 := Lib.hid HV1b.out
      clear HV1b
      refine hK.out _ _ (hS1.alloc hS1.size _) (fun hS8 => ?_); clear hK K hbxa
      obtain ⟨xa, hxa⟩ : ∃ xa, x1.alloc (.cells #[.int .i64 0, .int .i64 0, .slice none 0 0] 25) = xa := ⟨_, rfl⟩
      rw [hxa] at HP hS8 HV1 ⊢
      clear hxa
      refine wpAnyH_ready (rs := [3]) (by kernel_rfl) (by simp) (AllReadyH.cons rfl (fun K hK => ?_) AllReadyH.nil)
      go_simp
      go_wp2_with fail
      refine (HTB.out _ hS8).mono ?_
      rintro e x3 ⟨v3, rfl, hv3, hbx3⟩
      obtain ⟨A3', cp3', rfl, _⟩ := id hv3
      have hs3 := hS8.trans (hbx3.mono hS8.size)
      have HV1b := Lib.hid ((HV1.out.below hbx3).mono hbx3.size)
      have HP1 := Lib.hid (box_kept HP.out hbx3 (Nat.le_refl _))
      clear HP
      have HP := Lib.hid HP1.out
      clear HP1
      have HV3 := Lib.hid hv3
      clear hbx3 hv3 HV1
      have HV1 := Lib.hid HV1b.out
      clear HV1b
      unfold arV
      refine hK.out _ _ hs3 (fun hS3 => ?_); clear hK K
      refine wpAnyH_ready (rs := [4]) (by kernel_rfl) (by simp) (AllReadyH.cons rfl (fun K hK => ?_) AllReadyH.nil)
      go_simp
      go_wp2_with fail
      refine (HBES.out _ _ _ hS3 HV1.out HV3.out).mono ?_
      rintro e x4 ⟨v4, rfl, hv4, hbx4⟩
      obtain ⟨A4', cp4', rfl, _⟩ := id hv4
      have hs4 := hS3.trans (hbx4.mono hS3.size)
      have HP1 := Lib.hid (box_kept HP.out hbx4 (Nat.le_refl _))
      clear HP
      have HP := Lib.hid HP1.out
      clear HP1
      have HV4 := Lib.hid hv4
      clear hbx4 hv4
      unfold arV
      refine hK.out _ _ hs4 (fun hS4 => ?_); clear hK K
      refine wpAnyH_take (i := 5) (v := ?v5qca) rfl (by kernel_rfl) (by kernel_rfl) (by kernel_rfl) (fun _ _ _ h => h) (Or.inl ⟨by kernel_rfl, ?h5qca⟩) hS4 ?_
      case h5qca => (rintro w9 _; go_simp; try with_reducible rfl)
      refine wpAnyH_take (i := 6) (v := ?v6qca) rfl (by kernel_rfl) (by kernel_rfl) (by kernel_rfl) (fun _ _ _ h => h) (Or.inl ⟨by kernel_rfl, ?h6qca⟩) hS4 ?_
      case h6qca => (rintro w9 _; go_simp; try with_reducible rfl)
      refine wpAnyH_take (i := 7) (v := ?v7qca) rfl (by kernel_rfl) (by kernel_rfl) (by kernel_rfl) (fun _ _ _ h => h) (Or.inl ⟨by kernel_rfl, ?h7qca⟩) hS4 ?_
      case h7qca => (rintro w9 _; go_simp; try with_reducible rfl)
      refine wpAnyH_ready (rs := [9]) (by kernel_rfl) (by simp) (AllReadyH.cons rfl (fun K hK => ?_) AllReadyH.nil)
      obtain ⟨p0, p1, p2, g0, g1, g2⟩ := box3 HP.out
      go_simp
      have HPS := Lib.hid (set3 (.int .i64 (cs : Int)) (.int .i64 (M : Int)) (.slice A4' L.length cp4') HP.out)
      have HVS := Lib.hid (HV4.out.set3 HP.out (.int .i64 (cs : Int)) (.int .i64 (M : Int)) (.slice A4' L.length cp4'))
      have HSS := Lib.hid (below3 (.int .i64 (cs : Int)) (.int .i64 (M : Int)) (.slice A4' L.length cp4') hS4 HPW.out)
      refine hK.out _ _ HSS.out (fun hS9 => ?_); clear hK K p0 p1 p2 g0 g1 g2
      have hzz := (only3 (w := x4) (g := x1.heap.size) (.int .i64 (cs : Int)) (.int .i64 (M : Int)) (.slice A4' L.length cp4')).size
      refine wpAnyH_take (i := 10) (v := ?v10qca) rfl (by kernel_rfl) (by kernel_rfl) (by kernel_rfl) (fun _ _ _ h => h) (Or.inl ⟨by kernel_rfl, ?h10qca⟩) hS9 ?_
      case h10qca => (rintro w9 _; go_simp; try with_reducible rfl)
      refine wpAnyH_done (by kernel_rfl) ?_ _
      go_simp
      have HVT := Lib.hid (HVS.out.mono hzz)
      clear hzz HVS
      obtain ⟨W9, hW9⟩ : ∃ W9, (((x4.setCell ⟨x1.heap.size, 0, none⟩ (.int .i64 (cs : Int))).setCell ⟨x1.heap.size, 1, none⟩ (.int .i64 (M : Int))).setCell ⟨x1.heap.size, 2, none⟩ (.slice A4' L.length cp4')) = W9 := ⟨_, rfl⟩
      rw [hW9] at HPS HVT HSS ⊢
      clear hW9 hS9
      go_wp2_with fail
      refine wp_region_held_drew (S := fun X => Below W9.heap.size W9 X) (by kernel_rfl) ((Below.refl _ _).drew) (fun hT => ?_)
      refine wpAnyH_take (i := 0) (v := .bool true) rfl (by kernel_rfl) (by kernel_rfl) (by kernel_rfl) (fun _ _ _ h => h) (Or.inl ⟨by kernel_rfl, ?h0e3⟩) hT ?_
      case h0e3 => (rintro w2 _; go_simp; try with_reducible rfl)
      refine wpAnyH_take (i := 1) (v := .bool true) rfl (by kernel_rfl) (by kernel_rfl) (by kernel_rfl) (fun _ _ _ h => h) (Or.inl ⟨by kernel_rfl, ?h1e3⟩) hT ?_
      case h1e3 => (rintro w2 _; go_simp; try with_reducible rfl)
      refine wpAnyH_take (i := 2) (v := .bool true) rfl (by kernel_rfl) (by kernel_rfl) (by kernel_rfl) (fun _ _ _ h => h) (Or.inl ⟨by kernel_rfl, ?h2e3⟩) hT ?_
      case h2e3 => (rintro w2 _; go_simp; try with_reducible rfl)
      refine wpAnyH_take (i := 3) (v := .bool true) rfl (by kernel_rfl) (by kernel_rfl) (by kernel_rfl) (fun _ _ _ h => h) (Or.inl ⟨by kernel_rfl, ?h3e3⟩) hT ?_
      case h3e3 => (rintro w2 _; go_simp; try with_reducible rfl)
      refine wpAnyH_take (i := 4) (v := .bool true) rfl (by kernel_rfl) (by kernel_rfl) (by kernel_rfl) (fun _ _ _ h => h) (Or.inl ⟨by kernel_rfl, ?h4e3⟩) hT ?_
      case h4e3 => (rintro w2 _; go_simp; try with_reducible rfl)
      refine wpAnyH_take (i := 5) (v := .bool true) rfl (by kernel_rfl) (by kernel_rfl) (by kernel_rfl) (fun _ _ _ h => h) (Or.inl ⟨by kernel_rfl, ?h5e3⟩) hT ?_
      case h5e3 => (rintro w2 _; go_simp; try with_reducible rfl)
      refine wpAnyH_take (i := 6) (v := .bool true) rfl (by kernel_rfl) (by kernel_rfl) (by kernel_rfl) (fun _ _ _ h => h) (Or.inl ⟨by kernel_rfl, ?h6e3⟩) hT ?_
      case h6e3 => (rintro w2 _; go_simp; try with_reducible rfl)
      refine wpAnyH_take (i := 7) (v := .bool true) rfl (by kernel_rfl) (by kernel_rfl) (by kernel_rfl) (fun _ _ _ h => h) (Or.inl ⟨by kernel_rfl, ?h7e3⟩) hT ?_
      case h7e3 => (rintro w2 _; go_simp; try with_reducible rfl)
      refine wpAnyH_take (i := 8) (v := ?v8e3) rfl (by kernel_rfl) (by kernel_rfl) (by kernel_rfl) (fun _ _ _ h => h) (Or.inl ⟨by kernel_rfl, ?h8e3⟩) hT ?_
      case h8e3 => (rintro w2 hb; obtain ⟨q0, q1, q2, _⟩ := box3 (box_kept (box_kept HX79.out HSS.out (Nat.le_refl _)) hb (Nat.le_refl _)); go_simp; try with_reducible rfl)
      refine wpAnyH_take (i := 9) (v := ?v9e3) rfl (by kernel_rfl) (by kernel_rfl) (by kernel_rfl) (fun _ _ _ h => h) (Or.inl ⟨by kernel_rfl, ?h9e3⟩) hT ?_
      case h9e3 => (rintro w2 hb; obtain ⟨q0, q1, q2, _⟩ := box3 (box_kept (box_kept HZ0.out HSS.out (Nat.le_refl _)) hb (Nat.le_refl _)); go_simp; try with_reducible rfl)
      refine wpAnyH_ready (rs := [10]) (by kernel_rfl) (by simp) (AllReadyH.cons rfl (fun K hK => ?_) AllReadyH.nil)
      go_simp
      go_wp2_with (go_at_call 17; refine (HSP.out _ w9.heap.size _ (HB9.out.trans ((HSS.out.trans (hT.mono HSS.out.size)).mono HB9.out.size)) (Nat.le_trans HSS.out.size hT.size) HB9.out.size (HV79.out.below (HSS.out.trans (hT.mono HSS.out.size)))).mono ?_; rintro e10 x10 ⟨rfl, hb10⟩)
      refine hK.out _ _ ((hT.trans (hb10.mono hT.size))) (fun hS10 => ?_); clear hK K
      refine wpAnyH_take (i := 11) (v := .bool true) rfl (by kernel_rfl) (by kernel_rfl) (by kernel_rfl) (fun _ _ _ h => h) (Or.inl ⟨by kernel_rfl, ?h11e3⟩) hS10 ?_
      case h11e3 => (rintro w2 _; go_simp; try with_reducible rfl)
      refine wpAnyH_take (i := 12) (v := .bool true) rfl (by kernel_rfl) (by kernel_rfl) (by kernel_rfl) (fun _ _ _ h => h) (Or.inl ⟨by kernel_rfl, ?h12e3⟩) hS10 ?_
      case h12e3 => (rintro w2 _; go_simp; try with_reducible rfl)
      refine wpAnyH_take (i := 13) (v := ?v13e3) rfl (by kernel_rfl) (by kernel_rfl) (by kernel_rfl) (fun _ _ _ h => h) (Or.inl ⟨by kernel_rfl, ?h13e3⟩) hS10 ?_
      case h13e3 => (rintro w2 hb; obtain ⟨q0, q1, q2, _⟩ := box3 (box_kept (box_kept HX9.out HSS.out (Nat.le_refl _)) hb (Nat.le_refl _)); go_simp; try with_reducible rfl)
      refine wpAnyH_take (i := 14) (v := ?v14e3) rfl (by kernel_rfl) (by kernel_rfl) (by kernel_rfl) (fun _ _ _ h => h) (Or.inl ⟨by kernel_rfl, ?h14e3⟩) hS10 ?_
      case h14e3 => (rintro w2 hb; obtain ⟨q0, q1, q2, _⟩ := box3 (box_kept (box_kept HZ1.out HSS.out (Nat.le_refl _)) hb (Nat.le_refl _)); go_simp; try with_reducible rfl)
      refine wpAnyH_ready (rs := [15]) (by kernel_rfl) (by simp) (AllReadyH.cons rfl (fun K hK => ?_) AllReadyH.nil)
      go_simp
      go_wp2_with (go_at_call 17; refine (HSQ.out _ w9.heap.size _ (HB9.out.trans ((HSS.out.trans (hS10.mono HSS.out.size)).mono HB9.out.size)) (Nat.le_trans HSS.out.size hS10.size) HB9.out.size (HV9.out.below (HSS.out.trans (hS10.mono HSS.out.size)))).mono ?_; rintro e15 x15 ⟨rfl, hb15⟩)
      refine hK.out _ _ ((hS10.trans (hb15.mono hS10.size))) (fun hS15 => ?_); clear hK K
      refine wpAnyH_take (i := 16) (v := .bool true) rfl (by kernel_rfl) (by kernel_rfl) (by kernel_rfl) (fun _ _ _ h => h) (Or.inl ⟨by kernel_rfl, ?h16e3⟩) hS15 ?_
      case h16e3 => (rintro w2 _; go_simp; try with_reducible rfl)
      refine wpAnyH_take (i := 17) (v := .bool true) rfl (by kernel_rfl) (by kernel_rfl) (by kernel_rfl) (fun _ _ _ h => h) (Or.inl ⟨by kernel_rfl, ?h17e3⟩) hS15 ?_
      case h17e3 => (rintro w2 _; go_simp; try with_reducible rfl)
      refine wpAnyH_take (i := 18) (v := ?v18e3) rfl (by kernel_rfl) (by kernel_rfl) (by kernel_rfl) (fun _ _ _ h => h) (Or.inl ⟨by kernel_rfl, ?h18e3⟩) hS15 ?_
      case h18e3 => (rintro w2 hb; obtain ⟨q0, q1, q2, _⟩ := box3 (box_kept HPS.out hb (Nat.le_refl _)); go_simp; try with_reducible rfl)
      refine wpAnyH_take (i := 20) (v := ?v20e3) rfl (by kernel_rfl) (by kernel_rfl) (by kernel_rfl) (fun _ _ _ h => h) (Or.inl ⟨by kernel_rfl, ?h20e3⟩) hS15 ?_
      case h20e3 => (rintro w2 hb; obtain ⟨q0, q1, q2, _⟩ := box3 (box_kept (box_kept HX69.out HSS.out (Nat.le_refl _)) hb (Nat.le_refl _)); go_simp; try with_reducible rfl)
      refine wpAnyH_ready (rs := [19]) (by kernel_rfl) (by simp) (AllReadyH.cons rfl (fun K hK => ?_) AllReadyH.nil)
      go_simp
      go_wp2_with (go_at_call 23; refine (HTY.out _ _ (HB9.out.trans ((HSS.out.trans (hS15.mono HSS.out.size)).mono HB9.out.size)) _ hS15.size (HVT.out.below hS15)).mono ?_; rintro e19 x19 ⟨v19, rfl, hv19, hb19⟩; obtain ⟨A19, cp19, rfl, _⟩ := id hv19; unfold arV)
      refine hK.out _ _ ((hS15.trans (hb19.mono hS15.size))) (fun hS19 => ?_); clear hK K
      refine wpAnyH_ready (rs := [21]) (by kernel_rfl) (by simp) (AllReadyH.cons rfl (fun K hK => ?_) AllReadyH.nil)
      go_simp
      go_wp2_with (go_at_call 17; refine (HSX.out _ _ _ _ (Nat.le_refl _) hv19 ((HV69.out.below (HSS.out.trans (hS19.mono HSS.out.size))).mono (Nat.le_trans HSS.out.size hS19.size))).mono ?_; rintro e21 x21 ⟨rfl, hb21⟩)
      refine hK.out _ _ ((hS19.trans (hb21.mono hS19.size))) (fun hS21 => ?_); clear hK K
      refine wpAnyH_take (i := 22) (v := .bool true) rfl (by kernel_rfl) (by kernel_rfl) (by kernel_rfl) (fun _ _ _ h => h) (Or.inl ⟨by kernel_rfl, ?h22e3⟩) hS21 ?_
      case h22e3 => (rintro w2 _; go_simp; try with_reducible rfl)
      refine wpAnyH_take (i := 23) (v := .bool true) rfl (by kernel_rfl) (by kernel_rfl) (by kernel_rfl) (fun _ _ _ h => h) (Or.inl ⟨by kernel_rfl, ?h23e3⟩) hS21 ?_
      case h23e3 => (rintro w2 _; go_simp; try with_reducible rfl)
      refine wpAnyH_done (by kernel_rfl) ?_ _
      go_simp
      go_wp2
      go_ret
      exact ⟨rfl, HB9.out.trans ((HSS.out.trans (hS21.mono HSS.out.size)).mono HB9.out.size)⟩
  · go_simp
    have hbxa := Nm.alloc_below W2 (.cells #[.int .i64 0, .int .i64 0, .slice none 0 0] 25)
    have HP := Lib.hid (heap_alloc_new W2 (.cells #[.int .i64 0, .int .i64 0, .slice none 0 0] 25))
    have HPW := Lib.hid (hS.size)
    refine hK.out _ _ (hS.alloc hS.size _) (fun hS8 => ?_); clear hK K hbxa
    obtain ⟨xa, hxa⟩ : ∃ xa, W2.alloc (.cells #[.int .i64 0, .int .i64 0, .slice none 0 0] 25) = xa := ⟨_, rfl⟩
    rw [hxa] at HP hS8 ⊢
    clear hxa
    refine wpAnyH_ready (rs := [1]) (by kernel_rfl) (by simp) (AllReadyH.cons rfl (fun K hK => ?_) AllReadyH.nil)
    go_simp
    go_wp2_with fail
    refine (HTA.out _ hS8).mono ?_
    rintro e x1 ⟨v1, rfl, hv1, hbx1⟩
    obtain ⟨A1', cp1', rfl, _⟩ := id hv1
    have hs1 := hS8.trans (hbx1.mono hS8.size)
    have HP1 := Lib.hid (box_kept HP.out hbx1 (Nat.le_refl _))
    clear HP
    have HP := Lib.hid HP1.out
    clear HP1
    have HV1 := Lib.hid hv1
    clear hbx1 hv1
    unfold arV
    refine hK.out _ _ hs1 (fun hS1 => ?_); clear hK K
    refine wpAnyH_ready (rs := [3]) (by kernel_rfl) (by simp) (AllReadyH.cons rfl (fun K hK => ?_) AllReadyH.nil)
    go_simp
    go_wp2_with fail
    refine (HTB.out _ hS1).mono ?_
    rintro e x3 ⟨v3, rfl, hv3, hbx3⟩
    obtain ⟨A3', cp3', rfl, _⟩ := id hv3
    have hs3 := hS1.trans (hbx3.mono hS1.size)
    have HV1b := Lib.hid ((HV1.out.below hbx3).mono hbx3.size)
    have HP1 := Lib.hid (box_kept HP.out hbx3 (Nat.le_refl _))
    clear HP
    have HP := Lib.hid HP1.out
    clear HP1
    have HV3 := Lib.hid hv3
    clear hbx3 hv3 HV1
    have HV1 := Lib.hid HV1b.out
    clear HV1b
    unfold arV
    refine hK.out _ _ hs3 (fun hS3 => ?_); clear hK K
    refine wpAnyH_ready (rs := [4]) (by kernel_rfl) (by simp) (AllReadyH.cons rfl (fun K hK => ?_) AllReadyH.nil)
    go_simp
    go_wp2_with fail
    refine (HBES.out _ _ _ hS3 HV1.out HV3.out).mono ?_
    rintro e x4 ⟨v4, rfl, hv4, hbx4⟩
    obtain ⟨A4', cp4', rfl, _⟩ := id hv4
    have hs4 := hS3.trans (hbx4.mono hS3.size)
    have HP1 := Lib.hid (box_kept HP.out hbx4 (Nat.le_refl _))
    clear HP
    have HP := Lib.hid HP1.out
    clear HP1
    have HV4 := Lib.hid hv4
    clear hbx4 hv4
    unfold arV
    refine hK.out _ _ hs4 (fun hS4 => ?_); clear hK K
    refine wpAnyH_take (i := 5) (v := ?v5qa) rfl (by kernel_rfl) (by kernel_rfl) (by kernel_rfl) (fun _ _ _ h => h) (Or.inl ⟨by kernel_rfl, ?h5qa⟩) hS4 ?_
    case h5qa => (rintro w9 _; go_simp; try with_reducible rfl)
    refine wpAnyH_take (i := 6) (v := ?v6qa) rfl (by kernel_rfl) (by kernel_rfl) (by kernel_rfl) (fun _ _ _ h => h) (Or.inl ⟨by kernel_rfl, ?h6qa⟩) hS4 ?_
    case h6qa => (rintro w9 _; go_simp; try with_reducible rfl)
    refine wpAnyH_take (i := 7) (v := ?v7qa) rfl (by kernel_rfl) (by kernel_rfl) (by kernel_rfl) (fun _ _ _ h => h) (Or.inl ⟨by kernel_rfl, ?h7qa⟩) hS4 ?_
    case h7qa => (rintro w9 _; go_simp; try with_reducible rfl)
    refine wpAnyH_ready (rs := [9]) (by kernel_rfl) (by simp) (AllReadyH.cons rfl (fun K hK => ?_) AllReadyH.nil)
    obtain ⟨p0, p1, p2, g0, g1, g2⟩ := box3 HP.out
    go_simp
    have HPS := Lib.hid (set3 (.int .i64 (cs : Int)) (.int .i64 (M : Int)) (.slice A4' L.length cp4') HP.out)
    have HVS := Lib.hid (HV4.out.set3 HP.out (.int .i64 (cs : Int)) (.int .i64 (M : Int)) (.slice A4' L.length cp4'))
    have HSS := Lib.hid (below3 (.int .i64 (cs : Int)) (.int .i64 (M : Int)) (.slice A4' L.length cp4') hS4 HPW.out)
    refine hK.out _ _ HSS.out (fun hS9 => ?_); clear hK K p0 p1 p2 g0 g1 g2
    have hzz := (only3 (w := x4) (g := W2.heap.size) (.int .i64 (cs : Int)) (.int .i64 (M : Int)) (.slice A4' L.length cp4')).size
    refine wpAnyH_take (i := 10) (v := ?v10qa) rfl (by kernel_rfl) (by kernel_rfl) (by kernel_rfl) (fun _ _ _ h => h) (Or.inl ⟨by kernel_rfl, ?h10qa⟩) hS9 ?_
    case h10qa => (rintro w9 _; go_simp; try with_reducible rfl)
    refine wpAnyH_done (by kernel_rfl) ?_ _
    go_simp
    have HVT := Lib.hid (HVS.out.mono hzz)
    clear hzz HVS
    obtain ⟨W9, hW9⟩ : ∃ W9, (((x4.setCell ⟨W2.heap.size, 0, none⟩ (.int .i64 (cs : Int))).setCell ⟨W2.heap.size, 1, none⟩ (.int .i64 (M : Int))).setCell ⟨W2.heap.size, 2, none⟩ (.slice A4' L.length cp4')) = W9 := ⟨_, rfl⟩
    rw [hW9] at HPS HVT HSS ⊢
    clear hW9 hS9
    go_wp2_with fail
    refine wp_region_held_drew (S := fun X => Below W9.heap.size W9 X) (by kernel_rfl) ((Below.refl _ _).drew) (fun hT => ?_)
    refine wpAnyH_take (i := 0) (v := .bool true) rfl (by kernel_rfl) (by kernel_rfl) (by kernel_rfl) (fun _ _ _ h => h) (Or.inl ⟨by kernel_rfl, ?h0e4⟩) hT ?_
    case h0e4 => (rintro w2 _; go_simp; try with_reducible rfl)
    refine wpAnyH_take (i := 1) (v := .bool true) rfl (by kernel_rfl) (by kernel_rfl) (by kernel_rfl) (fun _ _ _ h => h) (Or.inl ⟨by kernel_rfl, ?h1e4⟩) hT ?_
    case h1e4 => (rintro w2 _; go_simp; try with_reducible rfl)
    refine wpAnyH_take (i := 2) (v := .bool true) rfl (by kernel_rfl) (by kernel_rfl) (by kernel_rfl) (fun _ _ _ h => h) (Or.inl ⟨by kernel_rfl, ?h2e4⟩) hT ?_
    case h2e4 => (rintro w2 _; go_simp; try with_reducible rfl)
    refine wpAnyH_take (i := 3) (v := .bool true) rfl (by kernel_rfl) (by kernel_rfl) (by kernel_rfl) (fun _ _ _ h => h) (Or.inl ⟨by kernel_rfl, ?h3e4⟩) hT ?_
    case h3e4 => (rintro w2 _; go_simp; try with_reducible rfl)
    refine wpAnyH_take (i := 4) (v := .bool true) rfl (by kernel_rfl) (by kernel_rfl) (by kernel_rfl) (fun _ _ _ h => h) (Or.inl ⟨by kernel_rfl, ?h4e4⟩) hT ?_
    case h4e4 => (rintro w2 _; go_simp; try with_reducible rfl)
    refine wpAnyH_take (i := 5) (v := .bool true) rfl (by kernel_rfl) (by kernel_rfl) (by kernel_rfl) (fun _ _ _ h => h) (Or.inl ⟨by kernel_rfl, ?h5e4⟩) hT ?_
    case h5e4 => (rintro w2 _; go_simp; try with_reducible rfl)
    refine wpAnyH_take (i := 6) (v := .bool true) rfl (by kernel_rfl) (by kernel_rfl) (by kernel_rfl) (fun _ _ _ h => h) (Or.inl ⟨by kernel_rfl, ?h6e4⟩) hT ?_
    case h6e4 => (rintro w2 _; go_simp; try with_reducible rfl)
    refine wpAnyH_take (i := 7) (v := .bool true) rfl (by kernel_rfl) (by kernel_rfl) (by kernel_rfl) (fun _ _ _ h => h) (Or.inl ⟨by kernel_rfl, ?h7e4⟩) hT ?_
    case h7e4 => (rintro w2 _; go_simp; try with_reducible rfl)
    refine wpAnyH_take (i := 8) (v := ?v8e4) rfl (by kernel_rfl) (by kernel_rfl) (by kernel_rfl) (fun _ _ _ h => h) (Or.inl ⟨by kernel_rfl, ?h8e4⟩) hT ?_
    case h8e4 => (rintro w2 hb; obtain ⟨q0, q1, q2, _⟩ := box3 (box_kept (box_kept HX79.out HSS.out (Nat.le_refl _)) hb (Nat.le_refl _)); go_simp; try with_reducible rfl)
    refine wpAnyH_take (i := 9) (v := ?v9e4) rfl (by kernel_rfl) (by kernel_rfl) (by kernel_rfl) (fun _ _ _ h => h) (Or.inl ⟨by kernel_rfl, ?h9e4⟩) hT ?_
    case h9e4 => (rintro w2 hb; obtain ⟨q0, q1, q2, _⟩ := box3 (box_kept (box_kept HZ0.out HSS.out (Nat.le_refl _)) hb (Nat.le_refl _)); go_simp; try with_reducible rfl)
    refine wpAnyH_ready (rs := [10]) (by kernel_rfl) (by simp) (AllReadyH.cons rfl (fun K hK => ?_) AllReadyH.nil)
    go_simp
    go_wp2_with (go_at_call 17; refine (HSP.out _ w9.heap.size _ (HB9.out.trans ((HSS.out.trans (hT.mono HSS.out.size)).mono HB9.out.size)) (Nat.le_trans HSS.out.size hT.size) HB9.out.size (HV79.out.below (HSS.out.trans (hT.mono HSS.out.size)))).mono ?_; rintro e10 x10 ⟨rfl, hb10⟩)
    refine hK.out _ _ ((hT.trans (hb10.mono hT.size))) (fun hS10 => ?_); clear hK K
    refine wpAnyH_take (i := 11) (v := .bool true) rfl (by kernel_rfl) (by kernel_rfl) (by kernel_rfl) (fun _ _ _ h => h) (Or.inl ⟨by kernel_rfl, ?h11e4⟩) hS10 ?_
    case h11e4 => (rintro w2 _; go_simp; try with_reducible rfl)
    refine wpAnyH_take (i := 12) (v := .bool true) rfl (by kernel_rfl) (by kernel_rfl) (by kernel_rfl) (fun _ _ _ h => h) (Or.inl ⟨by kernel_rfl, ?h12e4⟩) hS10 ?_
    case h12e4 => (rintro w2 _; go_simp; try with_reducible rfl)
    refine wpAnyH_take (i := 13) (v := ?v13e4) rfl (by kernel_rfl) (by kernel_rfl) (by kernel_rfl) (fun _ _ _ h => h) (Or.inl ⟨by kernel_rfl, ?h13e4⟩) hS10 ?_
    case h13e4 => (rintro w2 hb; obtain ⟨q0, q1, q2, _⟩ := box3 (box_kept (box_kept HX9.out HSS.out (Nat.le_refl _)) hb (Nat.le_refl _)); go_simp; try with_reducible rfl)
    refine wpAnyH_take (i := 14) (v := ?v14e4) rfl (by kernel_rfl) (by kernel_rfl) (by kernel_rfl) (fun _ _ _ h => h) (Or.inl ⟨by kernel_rfl, ?h14e4⟩) hS10 ?_
    case h14e4 => (rintro w2 hb; obtain ⟨q0, q1, q2, _⟩ := box3 (box_kept (box_kept HZ1.out HSS.out (Nat.le_refl _)) hb (Nat.le_refl _)); go_simp; try with_reducible rfl)
    refine wpAnyH_ready (rs := [15]) (by kernel_rfl) (by simp) (AllReadyH.cons rfl (fun K hK => ?_) AllReadyH.nil)
    go_simp
    go_wp2_with (go_at_call 17; refine (HSQ.out _ w9.heap.size _ (HB9.out.trans ((HSS.out.trans (hS10.mono HSS.out.size)).mono HB9.out.size)) (Nat.le_trans HSS.out.size hS10.size) HB9.out.size (HV9.out.below (HSS.out.trans (hS10.mono HSS.out.size)))).mono ?_; rintro e15 x15 ⟨rfl, hb15⟩)
    refine hK.out _ _ ((hS10.trans (hb15.mono hS10.size))) (fun hS15 => ?_); clear hK K
    refine wpAnyH_take (i := 16) (v := .bool true) rfl (by kernel_rfl) (by kernel_rfl) (by kernel_rfl) (fun _ _ _ h => h) (Or.inl ⟨by kernel_rfl, ?h16e4⟩) hS15 ?_
    case h16e4 => (rintro w2 _; go_simp; try with_reducible rfl)
    refine wpAnyH_take (i := 17) (v := .bool true) rfl (by kernel_rfl) (by kernel_rfl) (by kernel_rfl) (fun _ _ _ h => h) (Or.inl ⟨by kernel_rfl, ?h17e4⟩) hS15 ?_
    case h17e4 => (rintro w2 _; go_simp; try with_reducible rfl)
    refine wpAnyH_take (i := 18) (v := ?v18e4) rfl (by kernel_rfl) (by kernel_rfl) (by kernel_rfl) (fun _ _ _ h => h) (Or.inl ⟨by kernel_rfl, ?h18e4⟩) hS15 ?_
    case h18e4 => (rintro w2 hb; obtain ⟨q0, q1, q2, _⟩ := box3 (box_kept HPS.out hb (Nat.le_refl _)); go_simp; try with_reducible rfl)
    refine wpAnyH_take (i := 20) (v := ?v20e4) rfl (by kernel_rfl) (by kernel_rfl) (by kernel_rfl) (fun _ _ _ h => h) (Or.inl ⟨by kernel_rfl, ?h20e4⟩) hS15 ?_
    case h20e4 => (rintro w2 hb; obtain ⟨q0, q1, q2, _⟩ := box3 (box_kept (box_kept HX69.out HSS.out (Nat.le_refl _)) hb (Nat.le_refl _)); go_simp; try with_reducible rfl)
    refine wpAnyH_ready (rs := [19]) (by kernel_rfl) (by simp) (AllReadyH.cons rfl (fun K hK => ?_) AllReadyH.nil)
    go_simp
    go_wp2_with (go_at_call 23; refine (HTY.out _ _ (HB9.out.trans ((HSS.out.trans (hS15.mono HSS.out.size)).mono HB9.out.size)) _ hS15.size (HVT.out.below hS15)).mono ?_; rintro e19 x19 ⟨v19, rfl, hv19, hb19⟩; obtain ⟨A19, cp19, rfl, _⟩ := id hv19; unfold arV)
    refine hK.out _ _ ((hS15.trans (hb19.mono hS15.size))) (fun hS19 => ?_); clear hK K
    refine wpAnyH_ready (rs := [21]) (by kernel_rfl) (by simp) (AllReadyH.cons rfl (fun K hK => ?_) AllReadyH.nil)
    go_simp
    go_wp2_with (go_at_call 17; refine (HSX.out _ _ _ _ (Nat.le_refl _) hv19 ((HV69.out.below (HSS.out.trans (hS19.mono HSS.out.size))).mono (Nat.le_trans HSS.out.size hS19.size))).mono ?_; rintro e21 x21 ⟨rfl, hb21⟩)
    refine hK.out _ _ ((hS19.trans (hb21.mono hS19.size))) (fun hS21 => ?_); clear hK K
    refine wpAnyH_take (i := 22) (v := .bool true) rfl (by kernel_rfl) (by kernel_rfl) (by kernel_rfl) (fun _ _ _ h => h) (Or.inl ⟨by kernel_rfl, ?h22e4⟩) hS21 ?_
    case h22e4 => (rintro w2 _; go_simp; try with_reducible rfl)
    refine wpAnyH_take (i := 23) (v := .bool true) rfl (by kernel_rfl) (by kernel_rfl) (by kernel_rfl) (fun _ _ _ h => h) (Or.inl ⟨by kernel_rfl, ?h23e4⟩) hS21 ?_
    case h23e4 => (rintro w2 _; go_simp; try with_reducible rfl)
    refine wpAnyH_done (by kernel_rfl) ?_ _
    go_simp
    go_wp2
    go_ret
    exact ⟨rfl, HB9.out.trans ((HSS.out.trans (hS21.mono HSS.out.size)).mono HB9.out.size)⟩
end Go.Proofs.YtfgddhabepllfaaDoor
