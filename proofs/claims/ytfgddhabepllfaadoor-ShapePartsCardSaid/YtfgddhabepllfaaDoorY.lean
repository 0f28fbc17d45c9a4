/- At; the example. -/
import Derived.Test.YtfgddhabepllfaaDoorX
namespace Go.Proofs.YtfgddhabepllfaaDoor
open Go.RowKit

set_option maxRecDepth 100000 in
set_option maxHeartbeats 2000000 in
theorem pat_any {R C n : Nat} {l : List Vl} {v : Value} (row col : Int) (x : Vl) (b : Bool) (hr : rightA ⟨R, C, l⟩ = true) (hwf : WfL l) (w : World) (he : Env w) (hn : n ≤ w.heap.size) (hv : ValAt n w v l)
    (hat : ∀ W, Below w.heap.size w W → Calls Tryd.prog 54 #[arV R C v, .int .i64 row, .int .i64 col] W fun e w' => e = .returned (.tuple #[vV x, .bool b]) ∧ Below W.heap.size W w') :
    Calls Tryd.prog 21 #[arV R C v, .int .i64 row, .int .i64 col] w fun e w' => e = .returned (.tuple #[vV x, .bool b]) ∧ Below w.heap.size w w' := by
  obtain ⟨hl, hRC, _, _, _, _, _⟩ := right_nat hr
  obtain ⟨W0, hW0⟩ : ∃ W0, (w.alloc (.cells #[.int .i64 (R : Int), .int .i64 (C : Int), v] 25)).alloc zO = W0 := ⟨_, rfl⟩
  have HB0 : Hid (Below w.heap.size w W0) := Lib.hid (by rw [← hW0]; exact two_below)
  have HX0 : Hid (W0.heap[w.heap.size]? = some (.cells #[.int .i64 (R : Int), .int .i64 (C : Int), v] 25 (0, 0))) := Lib.hid (by rw [← hW0]; exact two_old)
  have HX1 : Hid (W0.heap[w.heap.size + 1]? = some zO) := Lib.hid (by rw [← hW0]; exact two_new)
  have HW0 := Lib.hid hW0
  have HR := Lib.hid (fun W (hW : Below w.heap.size w W) => righta_any n R C v l (by omega) hwf W (Nat.le_trans hn hW.size) (hv.below (hW.mono hn)) (he.below hW))
  rw [hr] at HR
  have HAT := Lib.hid hat
  obtain ⟨A, cp, rfl, _⟩ := id hv
  obtain ⟨xk, xm, xe, xt, xb, xf⟩ := x
  clear hr hwf hl hRC he hn hv hW0 hat
  unfold zO vV arV at *
  simp only at HAT ⊢
  go_enter Tryd.func21, Tryd.ntmps21
  go_wp2_with fail
  rw [HW0.out]
  refine (HR.out _ HB0.out).mono ?_
  rintro e w1 ⟨rfl, hb1⟩
  have hx := box_kept HX0.out hb1 (Nat.le_refl _)
  have HY1 := Lib.hid (box_kept HX1.out hb1 (Nat.le_refl _))
  have HB1 := Lib.hid (HB0.out.trans (hb1.mono HB0.out.size))
  obtain ⟨c0, c1, c2, _⟩ := box3 hx
  clear hb1 hx
  go_wp2_with fail
  refine (HAT.out _ HB1.out).mono ?_
  rintro e w2 ⟨rfl, hb2⟩
  have hz := box_kept HY1.out hb2 (Nat.le_refl _)
  have HZ := Lib.hid hz
  have HB2 := Lib.hid (HB1.out.trans (hb2.mono HB1.out.size))
  obtain ⟨d0, d1, d2, d3, d4, d5, f0, f1, f2, f3, f4, f5⟩ := box6 hz
  clear hb2 hz c0 c1 c2
  go_wp2
  obtain ⟨r0, r1, r2, r3, r4, r5, _⟩ := box6 (set6 (.int .i64 xk) (.int .i64 xm) (.int .i64 xe) (.string xt) (.bool xb) (.int .i64 xf) HZ.out)
  exact bodyPost_ret (v := .tuple #[.agg #[.int .i64 xk, .int .i64 xm, .int .i64 xe, .string xt, .bool xb, .int .i64 xf], .bool b]) (by simp [results, Tryd.f21, go_sem, r0, r1, r2, r3, r4, r5]) rfl ⟨rfl, below6 _ _ _ _ _ _ HB2.out (by omega)⟩
def n1 : Vl := ⟨1, 1, 0, bs0, false, 0⟩
def n2 : Vl := ⟨1, 2, 0, bs0, false, 0⟩
theorem nd1 : Nm.nd 1 = 1 := by rw [Nm.nd, dif_neg (by decide), show 1 / 10 = 0 from rfl, Nm.nd_zero]
theorem nd2 : Nm.nd 2 = 1 := by rw [Nm.nd, dif_neg (by decide), show 2 / 10 = 0 from rfl, Nm.nd_zero]
theorem right_n1 : rightV n1 = true := by
  unfold n1
  rw [rk1, decide_eq_true ⟨rfl, rfl, rfl⟩, Bool.true_and]
  unfold Nm.rightB
  rw [if_neg (by decide), if_neg (by decide), show (1 : Int).natAbs = 1 from rfl, nd1]; decide
theorem right_n2 : rightV n2 = true := by
  unfold n2
  rw [rk1, decide_eq_true ⟨rfl, rfl, rfl⟩, Bool.true_and]
  unfold Nm.rightB
  rw [if_neg (by decide), if_neg (by decide), show (2 : Int).natAbs = 2 from rfl, nd2]; decide
theorem right_ex : rightA ⟨((1 : Nat) : Int), ((2 : Nat) : Int), [n1, n2]⟩ = true := by
  unfold rightA fitsB
  simp [right_n1, right_n2]
theorem wf_ex : WfL [n1, n2] := by
  intro x hx
  simp only [List.mem_cons, List.not_mem_nil, or_false] at hx
  rcases hx with rfl | rfl
  · unfold n1 WfV; simp only; omega
  · unfold n2 WfV; simp only; omega
theorem turn_ex : turnL 1 2 [n1, n2] = [n1, n2] := rfl
theorem right_ex2 : rightA ⟨((2 : Nat) : Int), ((1 : Nat) : Int), [n1, n2]⟩ = true := by have := right_turn right_ex; rwa [turn_ex] at this
def twoO (x y : Vl) : Obj := .cells #[.int .i64 x.k, .int .i64 x.m, .int .i64 x.e, .string x.t, .bool x.b, .int .i64 x.f, .int .i64 y.k, .int .i64 y.m, .int .i64 y.e, .string y.t, .bool y.b, .int .i64 y.f] 34
theorem val_two {w : World} {g : Nat} {x y : Vl} (h : w.heap[g]? = some (twoO x y)) : ValAt w.heap.size w (.slice (some ⟨g, 0, none⟩) 2 2) [x, y] := by
  refine ⟨_, _, rfl, Nat.le_refl _, fun k z hk => ⟨g, 0, rfl, (Array.getElem?_eq_some_iff.1 h).1, ?_⟩⟩
  unfold twoO at h
  match k, hk with
  | 0, hk =>
    simp at hk
    subst hk
    unfold CellV
    refine ⟨?_, ?_, ?_, ?_, ?_, ?_⟩ <;> simp [World.cell?, h]
  | 1, hk =>
    simp at hk
    subst hk
    unfold CellV
    refine ⟨?_, ?_, ?_, ?_, ?_, ?_⟩ <;> simp [World.cell?, h]
  | k + 2, hk => simp at hk
set_option maxRecDepth 100000 in
set_option maxHeartbeats 4000000 in
theorem awake_any (w : World) (he : Env w) : Calls Tryd.prog 12 #[] w fun e w' => e = .returned (.bool true) ∧ Below w.heap.size w w' := by
  have HE := Lib.hid he
  have HN1 := Lib.hid (fun W => num_any 1 W)
  have HN2 := Lib.hid (fun W => num_any 2 W)
  unfold vV at HN1 HN2
  simp only at HN1 HN2
  clear he
  go_enter Tryd.func12, Tryd.ntmps12
  go_wp2_with fail
  refine (HN1.out _).mono ?_
  rintro e w1 ⟨rfl, hb1⟩
  have HB1 := Lib.hid hb1
  clear hb1
  go_wp2_with fail
  refine (HN2.out _).mono ?_
  rintro e w2 ⟨rfl, hb2⟩
  have HB2 := Lib.hid (HB1.out.trans (hb2.mono HB1.out.size))
  clear hb2
  have HB3 := Lib.hid (HB2.out.alloc HB2.out.size (twoO n1 n2))
  have HV := Lib.hid (val_two (heap_alloc_new w2 (twoO n1 n2)))
  have HM := Lib.hid (make_yes _ 1 2 _ [n1, n2] right_ex wf_ex (w2.alloc (twoO n1 n2)) (HE.out.below HB3.out) (Nat.le_refl _) HV.out)
  unfold twoO n1 n2 at HB3 HM
  simp only at HB3 HM
  go_wp2_with fail
  refine HM.out.mono ?_
  rintro e w3 ⟨v3, rfl, hv3, hb3⟩
  have HB4 := Lib.hid (HB3.out.trans (hb3.mono HB3.out.size))
  have HV3 := Lib.hid hv3
  obtain ⟨A3, cp3, rfl, _⟩ := id hv3
  unfold arV
  simp only
  clear hb3 hv3 HV HM
  go_wp2_with fail
  have hbA := Nm.alloc_below w3 (.cells #[.int .i64 1, .int .i64 2, .slice A3 2 cp3] 25)
  have HA3 := Lib.hid (heap_alloc_new w3 (.cells #[.int .i64 1, .int .i64 2, .slice A3 2 cp3] 25))
  have HBA := Lib.hid (HB4.out.trans (hbA.mono HB4.out.size))
  have HVA := Lib.hid ((HV3.out.below hbA).mono hbA.size)
  have hT : Calls Tryd.prog 23 #[.agg #[.int .i64 1, .int .i64 2, .slice A3 2 cp3]] _ _ := turn_any (R := 1) (C := 2) right_ex wf_ex _ (HE.out.below HBA.out) (Nat.le_refl _) HVA.out
  rw [turn_ex] at hT
  have HT := Lib.hid hT
  clear hbA hT
  refine HT.out.mono ?_
  rintro e w4 ⟨v4, rfl, hv4, hb4⟩
  have HA4 := Lib.hid (box_kept HA3.out hb4 (Nat.le_refl _))
  have HVA4 := Lib.hid (HVA.out.below hb4)
  have HVA4' := Lib.hid (HVA4.out.mono hb4.size)
  have HB5 := Lib.hid (HBA.out.trans (hb4.mono HBA.out.size))
  have HV4 := Lib.hid hv4
  obtain ⟨A4, cp4, rfl, _⟩ := id hv4
  unfold arV
  simp only
  clear hb4 hv4 HT HA3 HVA HVA4
  go_wp2_with fail
  have hbC := Nm.alloc_below w4 (.cells #[.int .i64 2, .int .i64 1, .slice A4 2 cp4] 25)
  have HC4 := Lib.hid (heap_alloc_new w4 (.cells #[.int .i64 2, .int .i64 1, .slice A4 2 cp4] 25))
  have HA5 := Lib.hid (box_kept HA4.out hbC (Nat.le_refl _))
  have HBC := Lib.hid (HB5.out.trans (hbC.mono HB5.out.size))
  have HVC := Lib.hid ((HV4.out.below hbC).mono hbC.size)
  have HVA5 := Lib.hid ((HVA4'.out.below hbC).mono hbC.size)
  have hP : Calls Tryd.prog 21 #[.agg #[.int .i64 2, .int .i64 1, .slice A4 2 cp4], .int .i64 1, .int .i64 0] _ _ := pat_any (R := 2) (C := 1) 1 0 n2 true right_ex2 wf_ex _ (HE.out.below HBC.out) (Nat.le_refl _) HVC.out (fun W hW => at_in (i := 1) (j := 0) (R := 2) (C := 1) (l := [n1, n2]) (by decide) (by decide) rfl (by decide) W hW.size (HVC.out.below hW))
  unfold n2 vV at hP
  simp only at hP
  have HP := Lib.hid hP
  clear hbC hP
  refine HP.out.mono ?_
  rintro e w4b ⟨rfl, hb5⟩
  have HB6 := Lib.hid (HBC.out.trans (hb5.mono HBC.out.size))
  have hO := Nm.alloc_below w4b (.cells #[.int .i64 1, .int .i64 2, .int .i64 0, .string bs0, .bool false, .int .i64 0] 34)
  have hA6 := box_kept (box_kept HA5.out hb5 (Nat.le_refl _)) hO (Nat.le_refl _)
  have hC6 := box_kept (box_kept HC4.out hb5 (Nat.le_refl _)) hO (Nat.le_refl _)
  have hD6 := heap_alloc_new w4b (.cells #[.int .i64 1, .int .i64 2, .int .i64 0, .string bs0, .bool false, .int .i64 0] 34)
  have hva6 := (((HVA5.out.below hb5).mono hb5.size).below hO).mono hO.size
  have hvc6 := (((HVC.out.below hb5).mono hb5.size).below hO).mono hO.size
  have hb6 := HB6.out.trans (hO.mono HB6.out.size)
  clear hb5 HP HA5 HC4 HVA5 HVC hO
  go_wp2_with fail
  obtain ⟨w5, hw5⟩ : ∃ w5, w4b.alloc (.cells #[.int .i64 1, .int .i64 2, .int .i64 0, .string bs0, .bool false, .int .i64 0] 34) = w5 := ⟨_, rfl⟩
  rw [hw5] at hA6 hC6 hD6 hva6 hvc6 hb6 ⊢
  have HA := Lib.hid hA6
  have HBB := Lib.hid hC6
  have HC := Lib.hid hD6
  have HSA : Hid (∀ X, Below w5.heap.size w5 X → Calls Tryd.prog 20 #[.agg #[.int .i64 1, .int .i64 2, .slice A3 2 cp3], .agg #[.int .i64 1, .int .i64 2, .slice A3 2 cp3]] X fun e w' => e = .returned (.bool true) ∧ Below X.heap.size X w') := Lib.hid (fun X hX => psame_any _ 1 2 1 2 _ _ [n1, n2] [n1, n2] (by decide) X hX.size (hva6.below hX) (hva6.below hX))
  have HSB : Hid (∀ X, Below w5.heap.size w5 X → Calls Tryd.prog 20 #[.agg #[.int .i64 1, .int .i64 2, .slice A3 2 cp3], .agg #[.int .i64 2, .int .i64 1, .slice A4 2 cp4]] X fun e w' => e = .returned (.bool false) ∧ Below X.heap.size X w') := Lib.hid (fun X hX => by
    have := psame_any _ 1 2 2 1 _ _ [n1, n2] [n1, n2] (by decide) X hX.size (hva6.below hX) (hvc6.below hX)
    rwa [show sameA ⟨1, 2, [n1, n2]⟩ ⟨2, 1, [n1, n2]⟩ = false from rfl] at this)
  have HB7 := Lib.hid hb6
  clear hA6 hC6 hD6 hva6 hvc6 hb6 hw5
  refine wp_region_held_drew (S := fun X => Below w5.heap.size w5 X) (by kernel_rfl) ((Below.refl _ _).drew) (fun hS => ?_)
  refine wpAnyH_take (i := 0) (v := ?v0a) rfl (by kernel_rfl) (by kernel_rfl) (by kernel_rfl) (fun _ _ _ h => h) (Or.inl ⟨by kernel_rfl, ?h0a⟩) hS ?_
  case h0a => (rintro w2 hb; obtain ⟨a0, a1, a2, _⟩ := box3 (box_kept HA.out hb (Nat.le_refl _)); obtain ⟨b0, b1, b2, _⟩ := box3 (box_kept HBB.out hb (Nat.le_refl _)); obtain ⟨c0, c1, c2, c3, c4, c5, _⟩ := box6 (box_kept HC.out hb (Nat.le_refl _)); go_simp; try with_reducible rfl)
  refine wpAnyH_take (i := 1) (v := ?v1a) rfl (by kernel_rfl) (by kernel_rfl) (by kernel_rfl) (fun _ _ _ h => h) (Or.inl ⟨by kernel_rfl, ?h1a⟩) hS ?_
  case h1a => (rintro w2 hb; obtain ⟨a0, a1, a2, _⟩ := box3 (box_kept HA.out hb (Nat.le_refl _)); obtain ⟨b0, b1, b2, _⟩ := box3 (box_kept HBB.out hb (Nat.le_refl _)); obtain ⟨c0, c1, c2, c3, c4, c5, _⟩ := box6 (box_kept HC.out hb (Nat.le_refl _)); go_simp; try with_reducible rfl)
  refine wpAnyH_take (i := 2) (v := ?v2a) rfl (by kernel_rfl) (by kernel_rfl) (by kernel_rfl) (fun _ _ _ h => h) (Or.inl ⟨by kernel_rfl, ?h2a⟩) hS ?_
  case h2a => (rintro w2 hb; obtain ⟨a0, a1, a2, _⟩ := box3 (box_kept HA.out hb (Nat.le_refl _)); obtain ⟨b0, b1, b2, _⟩ := box3 (box_kept HBB.out hb (Nat.le_refl _)); obtain ⟨c0, c1, c2, c3, c4, c5, _⟩ := box6 (box_kept HC.out hb (Nat.le_refl _)); go_simp; try with_reducible rfl)
  refine wpAnyH_take (i := 3) (v := ?v3a) rfl (by kernel_rfl) (by kernel_rfl) (by kernel_rfl) (fun _ _ _ h => h) (Or.inl ⟨by kernel_rfl, ?h3a⟩) hS ?_
  case h3a => (rintro w2 hb; obtain ⟨a0, a1, a2, _⟩ := box3 (box_kept HA.out hb (Nat.le_refl _)); obtain ⟨b0, b1, b2, _⟩ := box3 (box_kept HBB.out hb (Nat.le_refl _)); obtain ⟨c0, c1, c2, c3, c4, c5, _⟩ := box6 (box_kept HC.out hb (Nat.le_refl _)); go_simp; try with_reducible rfl)
  refine wpAnyH_take (i := 4) (v := .bool true) rfl (by kernel_rfl) (by kernel_rfl) (by kernel_rfl) (fun _ _ _ h => h) (Or.inl ⟨by kernel_rfl, ?h4a⟩) hS ?_
  case h4a => (rintro w2 hb; obtain ⟨a0, a1, a2, _⟩ := box3 (box_kept HA.out hb (Nat.le_refl _)); obtain ⟨b0, b1, b2, _⟩ := box3 (box_kept HBB.out hb (Nat.le_refl _)); obtain ⟨c0, c1, c2, c3, c4, c5, _⟩ := box6 (box_kept HC.out hb (Nat.le_refl _)); go_simp; try with_reducible rfl)
  refine wpAnyH_take (i := 5) (v := .bool true) rfl (by kernel_rfl) (by kernel_rfl) (by kernel_rfl) (fun _ _ _ h => h) (Or.inl ⟨by kernel_rfl, ?h5a⟩) hS ?_
  case h5a => (rintro w2 hb; obtain ⟨a0, a1, a2, _⟩ := box3 (box_kept HA.out hb (Nat.le_refl _)); obtain ⟨b0, b1, b2, _⟩ := box3 (box_kept HBB.out hb (Nat.le_refl _)); obtain ⟨c0, c1, c2, c3, c4, c5, _⟩ := box6 (box_kept HC.out hb (Nat.le_refl _)); go_simp; try with_reducible rfl)
  refine wpAnyH_take (i := 6) (v := .bool true) rfl (by kernel_rfl) (by kernel_rfl) (by kernel_rfl) (fun _ _ _ h => h) (Or.inl ⟨by kernel_rfl, ?h6a⟩) hS ?_
  case h6a => (rintro w2 hb; obtain ⟨a0, a1, a2, _⟩ := box3 (box_kept HA.out hb (Nat.le_refl _)); obtain ⟨b0, b1, b2, _⟩ := box3 (box_kept HBB.out hb (Nat.le_refl _)); obtain ⟨c0, c1, c2, c3, c4, c5, _⟩ := box6 (box_kept HC.out hb (Nat.le_refl _)); go_simp; try with_reducible rfl)
  refine wpAnyH_take (i := 7) (v := ?v7a) rfl (by kernel_rfl) (by kernel_rfl) (by kernel_rfl) (fun _ _ _ h => h) (Or.inl ⟨by kernel_rfl, ?h7a⟩) hS ?_
  case h7a => (rintro w2 hb; obtain ⟨a0, a1, a2, _⟩ := box3 (box_kept HA.out hb (Nat.le_refl _)); obtain ⟨b0, b1, b2, _⟩ := box3 (box_kept HBB.out hb (Nat.le_refl _)); obtain ⟨c0, c1, c2, c3, c4, c5, _⟩ := box6 (box_kept HC.out hb (Nat.le_refl _)); go_simp; try with_reducible rfl)
  refine wpAnyH_take (i := 8) (v := ?v8a) rfl (by kernel_rfl) (by kernel_rfl) (by kernel_rfl) (fun _ _ _ h => h) (Or.inl ⟨by kernel_rfl, ?h8a⟩) hS ?_
  case h8a => (rintro w2 hb; obtain ⟨a0, a1, a2, _⟩ := box3 (box_kept HA.out hb (Nat.le_refl _)); obtain ⟨b0, b1, b2, _⟩ := box3 (box_kept HBB.out hb (Nat.le_refl _)); obtain ⟨c0, c1, c2, c3, c4, c5, _⟩ := box6 (box_kept HC.out hb (Nat.le_refl _)); go_simp; try with_reducible rfl)
  refine wpAnyH_take (i := 9) (v := .bool true) rfl (by kernel_rfl) (by kernel_rfl) (by kernel_rfl) (fun _ _ _ h => h) (Or.inl ⟨by kernel_rfl, ?h9a⟩) hS ?_
  case h9a => (rintro w2 hb; obtain ⟨a0, a1, a2, _⟩ := box3 (box_kept HA.out hb (Nat.le_refl _)); obtain ⟨b0, b1, b2, _⟩ := box3 (box_kept HBB.out hb (Nat.le_refl _)); obtain ⟨c0, c1, c2, c3, c4, c5, _⟩ := box6 (box_kept HC.out hb (Nat.le_refl _)); go_simp; try with_reducible rfl)
  refine wpAnyH_take (i := 10) (v := .bool true) rfl (by kernel_rfl) (by kernel_rfl) (by kernel_rfl) (fun _ _ _ h => h) (Or.inl ⟨by kernel_rfl, ?h10a⟩) hS ?_
  case h10a => (rintro w2 hb; obtain ⟨a0, a1, a2, _⟩ := box3 (box_kept HA.out hb (Nat.le_refl _)); obtain ⟨b0, b1, b2, _⟩ := box3 (box_kept HBB.out hb (Nat.le_refl _)); obtain ⟨c0, c1, c2, c3, c4, c5, _⟩ := box6 (box_kept HC.out hb (Nat.le_refl _)); go_simp; try with_reducible rfl)
  refine wpAnyH_take (i := 11) (v := .bool true) rfl (by kernel_rfl) (by kernel_rfl) (by kernel_rfl) (fun _ _ _ h => h) (Or.inl ⟨by kernel_rfl, ?h11a⟩) hS ?_
  case h11a => (rintro w2 hb; obtain ⟨a0, a1, a2, _⟩ := box3 (box_kept HA.out hb (Nat.le_refl _)); obtain ⟨b0, b1, b2, _⟩ := box3 (box_kept HBB.out hb (Nat.le_refl _)); obtain ⟨c0, c1, c2, c3, c4, c5, _⟩ := box6 (box_kept HC.out hb (Nat.le_refl _)); go_simp; try with_reducible rfl)
  refine wpAnyH_take (i := 12) (v := ?v12a) rfl (by kernel_rfl) (by kernel_rfl) (by kernel_rfl) (fun _ _ _ h => h) (Or.inl ⟨by kernel_rfl, ?h12a⟩) hS ?_
  case h12a => (rintro w2 hb; obtain ⟨a0, a1, a2, _⟩ := box3 (box_kept HA.out hb (Nat.le_refl _)); obtain ⟨b0, b1, b2, _⟩ := box3 (box_kept HBB.out hb (Nat.le_refl _)); obtain ⟨c0, c1, c2, c3, c4, c5, _⟩ := box6 (box_kept HC.out hb (Nat.le_refl _)); go_simp; try with_reducible rfl)
  refine wpAnyH_take (i := 13) (v := .bool true) rfl (by kernel_rfl) (by kernel_rfl) (by kernel_rfl) (fun _ _ _ h => h) (Or.inl ⟨by kernel_rfl, ?h13a⟩) hS ?_
  case h13a => (rintro w2 hb; obtain ⟨a0, a1, a2, _⟩ := box3 (box_kept HA.out hb (Nat.le_refl _)); obtain ⟨b0, b1, b2, _⟩ := box3 (box_kept HBB.out hb (Nat.le_refl _)); obtain ⟨c0, c1, c2, c3, c4, c5, _⟩ := box6 (box_kept HC.out hb (Nat.le_refl _)); go_simp; try with_reducible rfl)
  refine wpAnyH_take (i := 14) (v := .bool true) rfl (by kernel_rfl) (by kernel_rfl) (by kernel_rfl) (fun _ _ _ h => h) (Or.inl ⟨by kernel_rfl, ?h14a⟩) hS ?_
  case h14a => (rintro w2 hb; obtain ⟨a0, a1, a2, _⟩ := box3 (box_kept HA.out hb (Nat.le_refl _)); obtain ⟨b0, b1, b2, _⟩ := box3 (box_kept HBB.out hb (Nat.le_refl _)); obtain ⟨c0, c1, c2, c3, c4, c5, _⟩ := box6 (box_kept HC.out hb (Nat.le_refl _)); go_simp; try with_reducible rfl)
  refine wpAnyH_take (i := 15) (v := ?v15a) rfl (by kernel_rfl) (by kernel_rfl) (by kernel_rfl) (fun _ _ _ h => h) (Or.inl ⟨by kernel_rfl, ?h15a⟩) hS ?_
  case h15a => (rintro w2 hb; obtain ⟨a0, a1, a2, _⟩ := box3 (box_kept HA.out hb (Nat.le_refl _)); obtain ⟨b0, b1, b2, _⟩ := box3 (box_kept HBB.out hb (Nat.le_refl _)); obtain ⟨c0, c1, c2, c3, c4, c5, _⟩ := box6 (box_kept HC.out hb (Nat.le_refl _)); go_simp; try with_reducible rfl)
  refine wpAnyH_ready (rs := [16]) (by kernel_rfl) (by simp) (AllReadyH.cons rfl (fun K hK => ?_) AllReadyH.nil)
  go_simp
  go_wp2_with (go_at_call 46; refine (num_any 2 _).mono ?_; rintro e16 x16 ⟨rfl, hb16⟩; unfold vV)
  refine hK.out _ _ ((hS.trans (hb16.mono hS.size))) (fun hS16 => ?_); clear hK K
  refine wpAnyH_take (i := 17) (v := .bool true) rfl (by kernel_rfl) (by kernel_rfl) (by kernel_rfl) (fun _ _ _ h => h) (Or.inl ⟨by kernel_rfl, ?h17a⟩) hS16 ?_
  case h17a => (rintro w2 hb; obtain ⟨a0, a1, a2, _⟩ := box3 (box_kept HA.out hb (Nat.le_refl _)); obtain ⟨b0, b1, b2, _⟩ := box3 (box_kept HBB.out hb (Nat.le_refl _)); obtain ⟨c0, c1, c2, c3, c4, c5, _⟩ := box6 (box_kept HC.out hb (Nat.le_refl _)); go_simp; try with_reducible rfl)
  refine wpAnyH_take (i := 18) (v := .bool true) rfl (by kernel_rfl) (by kernel_rfl) (by kernel_rfl) (fun _ _ _ h => h) (Or.inl ⟨by kernel_rfl, ?h18a⟩) hS16 ?_
  case h18a => (rintro w2 hb; obtain ⟨a0, a1, a2, _⟩ := box3 (box_kept HA.out hb (Nat.le_refl _)); obtain ⟨b0, b1, b2, _⟩ := box3 (box_kept HBB.out hb (Nat.le_refl _)); obtain ⟨c0, c1, c2, c3, c4, c5, _⟩ := box6 (box_kept HC.out hb (Nat.le_refl _)); go_simp; try with_reducible rfl)
  refine wpAnyH_take (i := 19) (v := .bool true) rfl (by kernel_rfl) (by kernel_rfl) (by kernel_rfl) (fun _ _ _ h => h) (Or.inl ⟨by kernel_rfl, ?h19a⟩) hS16 ?_
  case h19a => (rintro w2 hb; obtain ⟨a0, a1, a2, _⟩ := box3 (box_kept HA.out hb (Nat.le_refl _)); obtain ⟨b0, b1, b2, _⟩ := box3 (box_kept HBB.out hb (Nat.le_refl _)); obtain ⟨c0, c1, c2, c3, c4, c5, _⟩ := box6 (box_kept HC.out hb (Nat.le_refl _)); go_simp; try with_reducible rfl)
  refine wpAnyH_take (i := 20) (v := ?v20a) rfl (by kernel_rfl) (by kernel_rfl) (by kernel_rfl) (fun _ _ _ h => h) (Or.inl ⟨by kernel_rfl, ?h20a⟩) hS16 ?_
  case h20a => (rintro w2 hb; obtain ⟨a0, a1, a2, _⟩ := box3 (box_kept HA.out hb (Nat.le_refl _)); obtain ⟨b0, b1, b2, _⟩ := box3 (box_kept HBB.out hb (Nat.le_refl _)); obtain ⟨c0, c1, c2, c3, c4, c5, _⟩ := box6 (box_kept HC.out hb (Nat.le_refl _)); go_simp; try with_reducible rfl)
  refine wpAnyH_take (i := 21) (v := ?v21a) rfl (by kernel_rfl) (by kernel_rfl) (by kernel_rfl) (fun _ _ _ h => h) (Or.inl ⟨by kernel_rfl, ?h21a⟩) hS16 ?_
  case h21a => (rintro w2 hb; obtain ⟨a0, a1, a2, _⟩ := box3 (box_kept HA.out hb (Nat.le_refl _)); obtain ⟨b0, b1, b2, _⟩ := box3 (box_kept HBB.out hb (Nat.le_refl _)); obtain ⟨c0, c1, c2, c3, c4, c5, _⟩ := box6 (box_kept HC.out hb (Nat.le_refl _)); go_simp; try with_reducible rfl)
  refine wpAnyH_ready (rs := [22]) (by kernel_rfl) (by simp) (AllReadyH.cons rfl (fun K hK => ?_) AllReadyH.nil)
  go_simp
  go_wp2_with (go_at_call 20; refine (HSA.out _ hS16).mono ?_; rintro e22 x22 ⟨rfl, hb22⟩)
  refine hK.out _ _ ((hS16.trans (hb22.mono hS16.size))) (fun hS22 => ?_); clear hK K
  refine wpAnyH_take (i := 23) (v := .bool true) rfl (by kernel_rfl) (by kernel_rfl) (by kernel_rfl) (fun _ _ _ h => h) (Or.inl ⟨by kernel_rfl, ?h23a⟩) hS22 ?_
  case h23a => (rintro w2 hb; obtain ⟨a0, a1, a2, _⟩ := box3 (box_kept HA.out hb (Nat.le_refl _)); obtain ⟨b0, b1, b2, _⟩ := box3 (box_kept HBB.out hb (Nat.le_refl _)); obtain ⟨c0, c1, c2, c3, c4, c5, _⟩ := box6 (box_kept HC.out hb (Nat.le_refl _)); go_simp; try with_reducible rfl)
  refine wpAnyH_take (i := 24) (v := .bool true) rfl (by kernel_rfl) (by kernel_rfl) (by kernel_rfl) (fun _ _ _ h => h) (Or.inl ⟨by kernel_rfl, ?h24a⟩) hS22 ?_
  case h24a => (rintro w2 hb; obtain ⟨a0, a1, a2, _⟩ := box3 (box_kept HA.out hb (Nat.le_refl _)); obtain ⟨b0, b1, b2, _⟩ := box3 (box_kept HBB.out hb (Nat.le_refl _)); obtain ⟨c0, c1, c2, c3, c4, c5, _⟩ := box6 (box_kept HC.out hb (Nat.le_refl _)); go_simp; try with_reducible rfl)
  refine wpAnyH_take (i := 25) (v := ?v25a) rfl (by kernel_rfl) (by kernel_rfl) (by kernel_rfl) (fun _ _ _ h => h) (Or.inl ⟨by kernel_rfl, ?h25a⟩) hS22 ?_
  case h25a => (rintro w2 hb; obtain ⟨a0, a1, a2, _⟩ := box3 (box_kept HA.out hb (Nat.le_refl _)); obtain ⟨b0, b1, b2, _⟩ := box3 (box_kept HBB.out hb (Nat.le_refl _)); obtain ⟨c0, c1, c2, c3, c4, c5, _⟩ := box6 (box_kept HC.out hb (Nat.le_refl _)); go_simp; try with_reducible rfl)
  refine wpAnyH_take (i := 26) (v := ?v26a) rfl (by kernel_rfl) (by kernel_rfl) (by kernel_rfl) (fun _ _ _ h => h) (Or.inl ⟨by kernel_rfl, ?h26a⟩) hS22 ?_
  case h26a => (rintro w2 hb; obtain ⟨a0, a1, a2, _⟩ := box3 (box_kept HA.out hb (Nat.le_refl _)); obtain ⟨b0, b1, b2, _⟩ := box3 (box_kept HBB.out hb (Nat.le_refl _)); obtain ⟨c0, c1, c2, c3, c4, c5, _⟩ := box6 (box_kept HC.out hb (Nat.le_refl _)); go_simp; try with_reducible rfl)
  refine wpAnyH_ready (rs := [27]) (by kernel_rfl) (by simp) (AllReadyH.cons rfl (fun K hK => ?_) AllReadyH.nil)
  go_simp
  go_wp2_with (go_at_call 20; refine (HSB.out _ hS22).mono ?_; rintro e27 x27 ⟨rfl, hb27⟩)
  refine hK.out _ _ ((hS22.trans (hb27.mono hS22.size))) (fun hS27 => ?_); clear hK K
  refine wpAnyH_take (i := 28) (v := .bool true) rfl (by kernel_rfl) (by kernel_rfl) (by kernel_rfl) (fun _ _ _ h => h) (Or.inl ⟨by kernel_rfl, ?h28a⟩) hS27 ?_
  case h28a => (rintro w2 hb; obtain ⟨a0, a1, a2, _⟩ := box3 (box_kept HA.out hb (Nat.le_refl _)); obtain ⟨b0, b1, b2, _⟩ := box3 (box_kept HBB.out hb (Nat.le_refl _)); obtain ⟨c0, c1, c2, c3, c4, c5, _⟩ := box6 (box_kept HC.out hb (Nat.le_refl _)); go_simp; try with_reducible rfl)
  refine wpAnyH_take (i := 29) (v := .bool true) rfl (by kernel_rfl) (by kernel_rfl) (by kernel_rfl) (fun _ _ _ h => h) (Or.inl ⟨by kernel_rfl, ?h29a⟩) hS27 ?_
  case h29a => (rintro w2 hb; obtain ⟨a0, a1, a2, _⟩ := box3 (box_kept HA.out hb (Nat.le_refl _)); obtain ⟨b0, b1, b2, _⟩ := box3 (box_kept HBB.out hb (Nat.le_refl _)); obtain ⟨c0, c1, c2, c3, c4, c5, _⟩ := box6 (box_kept HC.out hb (Nat.le_refl _)); go_simp; try with_reducible rfl)
  refine wpAnyH_take (i := 30) (v := .bool true) rfl (by kernel_rfl) (by kernel_rfl) (by kernel_rfl) (fun _ _ _ h => h) (Or.inl ⟨by kernel_rfl, ?h30a⟩) hS27 ?_
  case h30a => (rintro w2 hb; obtain ⟨a0, a1, a2, _⟩ := box3 (box_kept HA.out hb (Nat.le_refl _)); obtain ⟨b0, b1, b2, _⟩ := box3 (box_kept HBB.out hb (Nat.le_refl _)); obtain ⟨c0, c1, c2, c3, c4, c5, _⟩ := box6 (box_kept HC.out hb (Nat.le_refl _)); go_simp; try with_reducible rfl)
  refine wpAnyH_done (by kernel_rfl) ?_ _
  go_simp
  have HB8 := Lib.hid (HB7.out.trans (hS27.mono HB7.out.size))
  go_wp2
  go_ret
  exact ⟨rfl, HB8.out⟩
end Go.Proofs.YtfgddhabepllfaaDoor
