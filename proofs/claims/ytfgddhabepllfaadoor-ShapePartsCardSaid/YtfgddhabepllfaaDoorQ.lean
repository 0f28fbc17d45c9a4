/- Beside. -/
import Derived.Test.YtfgddhabepllfaaDoorP
import Derived.StillTailTactics
namespace Go.Proofs.YtfgddhabepllfaaDoor
open Go.RowKit

theorem max_if (a b : Nat) : (if a < b then (b : Int) else (a : Int)) = ((max a b : Nat) : Int) := by split <;> omega
set_option maxRecDepth 100000 in
set_option maxHeartbeats 2000000 in
theorem bes_no {ra ca rb cb n : Nat} {la lb : List Vl} {va vb : Value} (hra : rightA ⟨ra, ca, la⟩ = true) (hrb : rightA ⟨rb, cb, lb⟩ = true) (hf : fitsB ((max ra rb : Nat) : Int) ((ca + cb : Nat) : Int) = false) (hwa : WfL la) (hwb : WfL lb) (w : World) (he : Env w) (hn : n ≤ w.heap.size) (hva : ValAt n w va la) (hvb : ValAt n w vb lb) :
    Calls Tryd.prog 31 #[arV ra ca va, arV rb cb vb] w (ArOut2 w zA false) := by
  obtain ⟨R1, C1, e1, e2, hla, hRCa, hRa, hCa, _, _, _⟩ := right_dims hra
  obtain rfl : ra = R1 := by omega
  obtain rfl : ca = C1 := by omega
  clear e1 e2
  obtain ⟨R2, C2, e1, e2, hlb, hRCb, hRb, hCb, _, _, _⟩ := right_dims hrb
  obtain rfl : rb = R2 := by omega
  obtain rfl : cb = C2 := by omega
  clear e1 e2
  obtain ⟨Q, hQ⟩ : ∃ Q, ArOut2 w zA false = Q := ⟨_, rfl⟩
  rw [hQ]
  have HQ := Lib.hid hQ
  obtain ⟨W0, hW0⟩ : ∃ W0, ((w.alloc (.cells #[.int .i64 (ra : Int), .int .i64 (ca : Int), va] 25)).alloc (.cells #[.int .i64 (rb : Int), .int .i64 (cb : Int), vb] 25)).alloc (.cells #[.int .i64 0, .int .i64 0, .slice none 0 0] 25) = W0 := ⟨_, rfl⟩
  have hb0 : Below w.heap.size w W0 := by rw [← hW0]; exact (((Below.refl _ _).alloc (Nat.le_refl _) _).alloc (by simp) _).alloc (by simp; omega) _
  have hx0 : W0.heap[w.heap.size]? = some (.cells #[.int .i64 (ra : Int), .int .i64 (ca : Int), va] 25 (0, 0)) := by rw [← hW0]; exact (Below.heap_alloc _ _ _ (by simp; omega)).trans two_old
  have hx1 : W0.heap[w.heap.size + 1]? = some (.cells #[.int .i64 (rb : Int), .int .i64 (cb : Int), vb] 25 (0, 0)) := by rw [← hW0]; exact (Below.heap_alloc _ _ _ (by simp)).trans two_new
  have hx3 : W0.heap[w.heap.size + 1 + 1]? = some (.cells #[.int .i64 0, .int .i64 0, .slice none 0 0] 25 (0, 0)) := by rw [← hW0]; have := heap_alloc_new ((w.alloc (.cells #[.int .i64 (ra : Int), .int .i64 (ca : Int), va] 25)).alloc (.cells #[.int .i64 (rb : Int), .int .i64 (cb : Int), vb] 25)) (.cells #[.int .i64 0, .int .i64 0, .slice none 0 0] 25); simpa using this
  have HW0 := Lib.hid hW0
  have HB0 := Lib.hid hb0
  have HX0 := Lib.hid hx0
  have HX1 := Lib.hid hx1
  have HX3 := Lib.hid hx3
  have HRA := Lib.hid (fun W (hW : Below w.heap.size w W) => righta_any n ra ca va la (by omega) hwa W (Nat.le_trans hn hW.size) (hva.below (hW.mono hn)) (he.below hW))
  rw [hra] at HRA
  have HRB := Lib.hid (fun W (hW : Below w.heap.size w W) => righta_any n rb cb vb lb (by omega) hwb W (Nat.le_trans hn hW.size) (hvb.below (hW.mono hn)) (he.below hW))
  rw [hrb] at HRB
  have hmx := max_if ra rb
  have hfb := hf
  obtain ⟨M, hM⟩ : ∃ M, max ra rb = M := ⟨_, rfl⟩
  have hcs : IntKind.i64.wrap ((ca : Int) + (cb : Int)) = ((ca + cb : Nat) : Int) := by rw [IntKind.wrap_i64]; omega
  obtain ⟨cs, hcs0⟩ : ∃ cs, ca + cb = cs := ⟨_, rfl⟩
  rw [hM] at hmx hf
  rw [hcs0] at hcs hf
  have HF := Lib.hid (fun W => fits_any (M : Int) (cs : Int) W)
  rw [hf] at HF
  have HMX := Lib.hid hmx
  have HM := Lib.hid hM
  have HCS := Lib.hid hcs0
  obtain ⟨A1, cp1, rfl, _⟩ := id hva
  obtain ⟨A2, cp2, rfl, _⟩ := id hvb
  have hmf : ∀ (fn : Fn) (first cap : Array Value) (w : World), (Instr.makeFunc fn first cap).run Tryd.prog w = .ok (.func fn first cap) w := fun _ _ _ _ => rfl
  clear hQ hra hrb hwa hwb hla hlb hRCa hRa hCa hRCb hRb hCb he hn hva hvb hmx hM hcs0 hf hfb hW0 hb0 hx0 hx1 hx3
  unfold arV at *
  go_enter Tryd.func31, Tryd.ntmps31
  go_wp2_with fail
  rw [HW0.out]
  refine (HRA.out _ HB0.out).mono ?_
  rintro e w1 ⟨rfl, hb1⟩
  have HY0 := Lib.hid (box_kept HX0.out hb1 (Nat.le_refl _))
  have hx1 := box_kept HX1.out hb1 (Nat.le_refl _)
  have HY1 := Lib.hid hx1
  have HY3 := Lib.hid (box_kept HX3.out hb1 (Nat.le_refl _))
  have HB1 := Lib.hid (HB0.out.trans (hb1.mono HB0.out.size))
  obtain ⟨b0, b1, b2, _⟩ := box3 hx1
  clear hb1 hx1 HX0 HX1 HX3
  go_wp2_with fail
  refine (HRB.out _ HB1.out).mono ?_
  rintro e w2 ⟨rfl, hb2⟩
  have hz0 := box_kept HY0.out hb2 (Nat.le_refl _)
  have hz1 := box_kept HY1.out hb2 (Nat.le_refl _)
  have hz3 := box_kept HY3.out hb2 (Nat.le_refl _)
  have HZ0 := Lib.hid hz0
  have HZ1 := Lib.hid hz1
  have HZ3 := Lib.hid hz3
  have HB2 := Lib.hid (HB1.out.trans (hb2.mono HB1.out.size))
  clear b0 b1 b2 hb2 HY0 HY1 HY3
  obtain ⟨b0, b1, b2, _⟩ := box3 (w := w2.drew) hz1
  obtain ⟨a0, a1, a2, _⟩ := box3 (w := w2.drew) hz0
  obtain ⟨d0, d1, d2, f0, f1, f2⟩ := box3 (w := w2.drew) hz3
  clear hz0 hz1 hz3
  go_wp2_with fail
  refine wp_region_held_drew (S := fun X => X = w2.drew) (by kernel_rfl) rfl (fun hS => ?_)
  refine wpAnyH_take (i := 0) (v := ?v0b) rfl (by kernel_rfl) (by kernel_rfl) (by kernel_rfl) (fun _ _ _ h => h) (Or.inl ⟨by kernel_rfl, ?h0b⟩) hS ?_
  case h0b => (rintro w2 rfl; go_simp; try with_reducible rfl)
  refine wpAnyH_take (i := 1) (v := ?v1b) rfl (by kernel_rfl) (by kernel_rfl) (by kernel_rfl) (fun _ _ _ h => h) (Or.inl ⟨by kernel_rfl, ?h1b⟩) hS ?_
  case h1b => (rintro w2 rfl; go_simp; try with_reducible rfl)
  refine wpAnyH_take (i := 2) (v := ?v2b) rfl (by kernel_rfl) (by kernel_rfl) (by kernel_rfl) (fun _ _ _ h => h) (Or.inl ⟨by kernel_rfl, ?h2b⟩) hS ?_
  case h2b => (rintro w2 rfl; go_simp; try with_reducible rfl)
  refine wpAnyH_take (i := 3) (v := ?v3b) rfl (by kernel_rfl) (by kernel_rfl) (by kernel_rfl) (fun _ _ _ h => h) (Or.inl ⟨by kernel_rfl, ?h3b⟩) hS ?_
  case h3b => (rintro w2 rfl; go_simp; try with_reducible rfl)
  refine wpAnyH_take (i := 4) (v := .int .i64 (M : Int)) rfl (by kernel_rfl) (by kernel_rfl) (by kernel_rfl) (fun _ _ _ h => h) (Or.inl ⟨by kernel_rfl, ?h4b⟩) hS ?_
  case h4b => (rintro w2 rfl; go_simp; exact HMX.out)
  refine wpAnyH_take (i := 5) (v := ?v5b) rfl (by kernel_rfl) (by kernel_rfl) (by kernel_rfl) (fun _ _ _ h => h) (Or.inl ⟨by kernel_rfl, ?h5b⟩) hS ?_
  case h5b => (rintro w2 rfl; go_simp; try with_reducible rfl)
  refine wpAnyH_take (i := 6) (v := ?v6b) rfl (by kernel_rfl) (by kernel_rfl) (by kernel_rfl) (fun _ _ _ h => h) (Or.inl ⟨by kernel_rfl, ?h6b⟩) hS ?_
  case h6b => (rintro w2 rfl; go_simp; try with_reducible rfl)
  refine wpAnyH_take (i := 7) (v := ?v7b) rfl (by kernel_rfl) (by kernel_rfl) (by kernel_rfl) (fun _ _ _ h => h) (Or.inl ⟨by kernel_rfl, ?h7b⟩) hS ?_
  case h7b => (rintro w2 rfl; go_simp; try with_reducible rfl)
  refine wpAnyH_take (i := 8) (v := ?v8b) rfl (by kernel_rfl) (by kernel_rfl) (by kernel_rfl) (fun _ _ _ h => h) (Or.inl ⟨by kernel_rfl, ?h8b⟩) hS ?_
  case h8b => (rintro w2 rfl; go_simp; try with_reducible rfl)
  refine wpAnyH_take (i := 9) (v := .int .i64 (cs : Int)) rfl (by kernel_rfl) (by kernel_rfl) (by kernel_rfl) (fun _ _ _ h => h) (Or.inl ⟨by kernel_rfl, ?h9b⟩) hS ?_
  case h9b => (rintro w2 rfl; go_simp; try with_reducible rfl)
  refine wpAnyH_take (i := 10) (v := ?v10b) rfl (by kernel_rfl) (by kernel_rfl) (by kernel_rfl) (fun _ _ _ h => h) (Or.inl ⟨by kernel_rfl, ?h10b⟩) hS ?_
  case h10b => (rintro w2 rfl; go_simp; try with_reducible rfl)
  refine wpAnyH_take (i := 11) (v := ?v11b) rfl (by kernel_rfl) (by kernel_rfl) (by kernel_rfl) (fun _ _ _ h => h) (Or.inl ⟨by kernel_rfl, ?h11b⟩) hS ?_
  case h11b => (rintro w2 rfl; go_simp; try with_reducible rfl)
  refine wpAnyH_done (by kernel_rfl) ?_ _
  go_simp
  have hbd := HB2.out.drew
  have hz0 : w2.drew.heap[w.heap.size]? = _ := HZ0.out
  have hz1 : w2.drew.heap[w.heap.size + 1]? = _ := HZ1.out
  have hz3 : w2.drew.heap[w.heap.size + 1 + 1]? = _ := HZ3.out
  obtain ⟨W2, hW2⟩ : ∃ W2, w2.drew = W2 := ⟨_, rfl⟩
  rw [hW2] at hbd hz0 hz1 hz3 a0 a1 a2 b0 b1 b2 d0 d1 d2 f0 f1 f2 ⊢
  have HZ0' := Lib.hid hz0
  have HZ1' := Lib.hid hz1
  have HZ3' := Lib.hid hz3
  clear hz0 hz1 hz3
  have HBD := Lib.hid hbd
  clear hbd hW2 hS
  go_wp2_with fail
  refine (HF.out _).mono ?_
  rintro e w3 ⟨rfl, rfl⟩
  go_wp2
  obtain ⟨r0, r1, r2, _⟩ := box3 (set3 (.int .i64 0) (.int .i64 0) (.slice none 0 0) HZ3'.out)
  have hfin := ArOut2.store (w := w) (a := zA) (b := false) (.nil _ _) HBD.out HZ3'.out (by omega)
  rw [HQ.out] at hfin
  exact bodyPost_ret (v := .tuple #[arV 0 0 (.slice none 0 0), .bool false]) (by simp [results, Tryd.f31, go_sem, arV, r0, r1, r2]) rfl hfin
set_option maxRecDepth 100000 in
set_option maxHeartbeats 2000000 in
theorem bes_yes {ra ca rb cb n : Nat} {la lb : List Vl} {va vb : Value} (hra : rightA ⟨ra, ca, la⟩ = true) (hrb : rightA ⟨rb, cb, lb⟩ = true) (hf : fitsB ((max ra rb : Nat) : Int) ((ca + cb : Nat) : Int) = true) (hwa : WfL la) (hwb : WfL lb) (w : World) (he : Env w) (hn : n ≤ w.heap.size) (hva : ValAt n w va la) (hvb : ValAt n w vb lb) :
    Calls Tryd.prog 31 #[arV ra ca va, arV rb cb vb] w (ArOut2 w ⟨(max ra rb : Nat), (ca + cb : Nat), besL ra ca la rb cb lb⟩ true) := by
  obtain ⟨R1, C1, e1, e2, hla, hRCa, hRa, hCa, _, _, _⟩ := right_dims hra
  obtain rfl : ra = R1 := by omega
  obtain rfl : ca = C1 := by omega
  clear e1 e2
  obtain ⟨R2, C2, e1, e2, hlb, hRCb, hRb, hCb, _, _, _⟩ := right_dims hrb
  obtain rfl : rb = R2 := by omega
  obtain rfl : cb = C2 := by omega
  clear e1 e2
  obtain ⟨Q, hQ⟩ : ∃ Q, ArOut2 w ⟨(max ra rb : Nat), (ca + cb : Nat), besL ra ca la rb cb lb⟩ true = Q := ⟨_, rfl⟩
  rw [hQ]
  have HQ := Lib.hid hQ
  obtain ⟨W0, hW0⟩ : ∃ W0, ((w.alloc (.cells #[.int .i64 (ra : Int), .int .i64 (ca : Int), va] 25)).alloc (.cells #[.int .i64 (rb : Int), .int .i64 (cb : Int), vb] 25)).alloc (.cells #[.int .i64 0, .int .i64 0, .slice none 0 0] 25) = W0 := ⟨_, rfl⟩
  have hb0 : Below w.heap.size w W0 := by rw [← hW0]; exact (((Below.refl _ _).alloc (Nat.le_refl _) _).alloc (by simp) _).alloc (by simp; omega) _
  have hx0 : W0.heap[w.heap.size]? = some (.cells #[.int .i64 (ra : Int), .int .i64 (ca : Int), va] 25 (0, 0)) := by rw [← hW0]; exact (Below.heap_alloc _ _ _ (by simp; omega)).trans two_old
  have hx1 : W0.heap[w.heap.size + 1]? = some (.cells #[.int .i64 (rb : Int), .int .i64 (cb : Int), vb] 25 (0, 0)) := by rw [← hW0]; exact (Below.heap_alloc _ _ _ (by simp)).trans two_new
  have hx3 : W0.heap[w.heap.size + 1 + 1]? = some (.cells #[.int .i64 0, .int .i64 0, .slice none 0 0] 25 (0, 0)) := by rw [← hW0]; have := heap_alloc_new ((w.alloc (.cells #[.int .i64 (ra : Int), .int .i64 (ca : Int), va] 25)).alloc (.cells #[.int .i64 (rb : Int), .int .i64 (cb : Int), vb] 25)) (.cells #[.int .i64 0, .int .i64 0, .slice none 0 0] 25); simpa using this
  have HW0 := Lib.hid hW0
  have HB0 := Lib.hid hb0
  have HX0 := Lib.hid hx0
  have HX1 := Lib.hid hx1
  have HX3 := Lib.hid hx3
  have HRA := Lib.hid (fun W (hW : Below w.heap.size w W) => righta_any n ra ca va la (by omega) hwa W (Nat.le_trans hn hW.size) (hva.below (hW.mono hn)) (he.below hW))
  rw [hra] at HRA
  have HRB := Lib.hid (fun W (hW : Below w.heap.size w W) => righta_any n rb cb vb lb (by omega) hwb W (Nat.le_trans hn hW.size) (hvb.below (hW.mono hn)) (he.below hW))
  rw [hrb] at HRB
  have hmx := max_if ra rb
  have hfb := hf
  obtain ⟨M, hM⟩ : ∃ M, max ra rb = M := ⟨_, rfl⟩
  have hcs : IntKind.i64.wrap ((ca : Int) + (cb : Int)) = ((ca + cb : Nat) : Int) := by rw [IntKind.wrap_i64]; omega
  obtain ⟨cs, hcs0⟩ : ∃ cs, ca + cb = cs := ⟨_, rfl⟩
  rw [hM] at hmx hf
  rw [hcs0] at hcs hf
  have HT := Lib.hid (fun i j ba bb W (hj : j < ca + cb) (hW : Below w.heap.size w W) hba hbb => bes1_any (i := i) (ba := ba) (bb := bb) hj hla hlb hRCa hRCb (by have := fitsB_iff.1 hfb; omega) W (he.below hW) (Nat.le_trans hn hW.size) hba hbb (hva.below (hW.mono hn)) (hvb.below (hW.mono hn)))
  have hfi := fitsB_iff.1 hf
  have HRC := Lib.hid (show M * cs ≤ 4096 ∧ M ≤ 4096 ∧ cs ≤ 4096 by rw [← Int.natCast_mul] at hfi; omega)
  rw [hM, hcs0] at HQ
  rw [hcs0] at HT
  have hMM := hM
  clear hfi
  have HF := Lib.hid (fun W => fits_any (M : Int) (cs : Int) W)
  rw [hf] at HF
  have HMX := Lib.hid hmx
  have HM := Lib.hid hM
  have HCS := Lib.hid hcs0
  obtain ⟨A1, cp1, rfl, _⟩ := id hva
  obtain ⟨A2, cp2, rfl, _⟩ := id hvb
  have hmf : ∀ (fn : Fn) (first cap : Array Value) (w : World), (Instr.makeFunc fn first cap).run Tryd.prog w = .ok (.func fn first cap) w := fun _ _ _ _ => rfl
  clear hQ hra hrb hwa hwb hla hlb hRCa hRa hCa hRCb hRb hCb he hn hva hvb hmx hM hcs0 hf hfb hW0 hb0 hx0 hx1 hx3 hMM
  unfold arV at *
  go_enter Tryd.func31, Tryd.ntmps31
  go_wp2_with fail
  rw [HW0.out]
  refine (HRA.out _ HB0.out).mono ?_
  rintro e w1 ⟨rfl, hb1⟩
  have HY0 := Lib.hid (box_kept HX0.out hb1 (Nat.le_refl _))
  have hx1 := box_kept HX1.out hb1 (Nat.le_refl _)
  have HY1 := Lib.hid hx1
  have HY3 := Lib.hid (box_kept HX3.out hb1 (Nat.le_refl _))
  have HB1 := Lib.hid (HB0.out.trans (hb1.mono HB0.out.size))
  obtain ⟨b0, b1, b2, _⟩ := box3 hx1
  clear hb1 hx1 HX0 HX1 HX3
  go_wp2_with fail
  refine (HRB.out _ HB1.out).mono ?_
  rintro e w2 ⟨rfl, hb2⟩
  have hz0 := box_kept HY0.out hb2 (Nat.le_refl _)
  have hz1 := box_kept HY1.out hb2 (Nat.le_refl _)
  have hz3 := box_kept HY3.out hb2 (Nat.le_refl _)
  have HZ0 := Lib.hid hz0
  have HZ1 := Lib.hid hz1
  have HZ3 := Lib.hid hz3
  have HB2 := Lib.hid (HB1.out.trans (hb2.mono HB1.out.size))
  clear b0 b1 b2 hb2 HY0 HY1 HY3
  obtain ⟨b0, b1, b2, _⟩ := box3 (w := w2.drew) hz1
  obtain ⟨a0, a1, a2, _⟩ := box3 (w := w2.drew) hz0
  obtain ⟨d0, d1, d2, f0, f1, f2⟩ := box3 (w := w2.drew) hz3
  clear hz0 hz1 hz3
  go_wp2_with fail
  refine wp_region_held_drew (S := fun X => X = w2.drew) (by kernel_rfl) rfl (fun hS => ?_)
  refine wpAnyH_take (i := 0) (v := ?v0b) rfl (by kernel_rfl) (by kernel_rfl) (by kernel_rfl) (fun _ _ _ h => h) (Or.inl ⟨by kernel_rfl, ?h0b⟩) hS ?_
  case h0b => (rintro w2 rfl; go_simp; try with_reducible rfl)
  refine wpAnyH_take (i := 1) (v := ?v1b) rfl (by kernel_rfl) (by kernel_rfl) (by kernel_rfl) (fun _ _ _ h => h) (Or.inl ⟨by kernel_rfl, ?h1b⟩) hS ?_
  case h1b => (rintro w2 rfl; go_simp; try with_reducible rfl)
  refine wpAnyH_take (i := 2) (v := ?v2b) rfl (by kernel_rfl) (by kernel_rfl) (by kernel_rfl) (fun _ _ _ h => h) (Or.inl ⟨by kernel_rfl, ?h2b⟩) hS ?_
  case h2b => (rintro w2 rfl; go_simp; try with_reducible rfl)
  refine wpAnyH_take (i := 3) (v := ?v3b) rfl (by kernel_rfl) (by kernel_rfl) (by kernel_rfl) (fun _ _ _ h => h) (Or.inl ⟨by kernel_rfl, ?h3b⟩) hS ?_
  case h3b => (rintro w2 rfl; go_simp; try with_reducible rfl)
  refine wpAnyH_take (i := 4) (v := .int .i64 (M : Int)) rfl (by kernel_rfl) (by kernel_rfl) (by kernel_rfl) (fun _ _ _ h => h) (Or.inl ⟨by kernel_rfl, ?h4b⟩) hS ?_
  case h4b => (rintro w2 rfl; go_simp; exact HMX.out)
  refine wpAnyH_take (i := 5) (v := ?v5b) rfl (by kernel_rfl) (by kernel_rfl) (by kernel_rfl) (fun _ _ _ h => h) (Or.inl ⟨by kernel_rfl, ?h5b⟩) hS ?_
  case h5b => (rintro w2 rfl; go_simp; try with_reducible rfl)
  refine wpAnyH_take (i := 6) (v := ?v6b) rfl (by kernel_rfl) (by kernel_rfl) (by kernel_rfl) (fun _ _ _ h => h) (Or.inl ⟨by kernel_rfl, ?h6b⟩) hS ?_
  case h6b => (rintro w2 rfl; go_simp; try with_reducible rfl)
  refine wpAnyH_take (i := 7) (v := ?v7b) rfl (by kernel_rfl) (by kernel_rfl) (by kernel_rfl) (fun _ _ _ h => h) (Or.inl ⟨by kernel_rfl, ?h7b⟩) hS ?_
  case h7b => (rintro w2 rfl; go_simp; try with_reducible rfl)
  refine wpAnyH_take (i := 8) (v := ?v8b) rfl (by kernel_rfl) (by kernel_rfl) (by kernel_rfl) (fun _ _ _ h => h) (Or.inl ⟨by kernel_rfl, ?h8b⟩) hS ?_
  case h8b => (rintro w2 rfl; go_simp; try with_reducible rfl)
  refine wpAnyH_take (i := 9) (v := .int .i64 (cs : Int)) rfl (by kernel_rfl) (by kernel_rfl) (by kernel_rfl) (fun _ _ _ h => h) (Or.inl ⟨by kernel_rfl, ?h9b⟩) hS ?_
  case h9b => (rintro w2 rfl; go_simp; try with_reducible rfl)
  refine wpAnyH_take (i := 10) (v := ?v10b) rfl (by kernel_rfl) (by kernel_rfl) (by kernel_rfl) (fun _ _ _ h => h) (Or.inl ⟨by kernel_rfl, ?h10b⟩) hS ?_
  case h10b => (rintro w2 rfl; go_simp; try with_reducible rfl)
  refine wpAnyH_take (i := 11) (v := ?v11b) rfl (by kernel_rfl) (by kernel_rfl) (by kernel_rfl) (fun _ _ _ h => h) (Or.inl ⟨by kernel_rfl, ?h11b⟩) hS ?_
  case h11b => (rintro w2 rfl; go_simp; try with_reducible rfl)
  refine wpAnyH_done (by kernel_rfl) ?_ _
  go_simp
  have hbd := HB2.out.drew
  have hz0 : w2.drew.heap[w.heap.size]? = _ := HZ0.out
  have hz1 : w2.drew.heap[w.heap.size + 1]? = _ := HZ1.out
  have hz3 : w2.drew.heap[w.heap.size + 1 + 1]? = _ := HZ3.out
  obtain ⟨W2, hW2⟩ : ∃ W2, w2.drew = W2 := ⟨_, rfl⟩
  rw [hW2] at hbd hz0 hz1 hz3 a0 a1 a2 b0 b1 b2 d0 d1 d2 f0 f1 f2 ⊢
  have HZ0' := Lib.hid hz0
  have HZ1' := Lib.hid hz1
  have HZ3' := Lib.hid hz3
  clear hz0 hz1 hz3
  have HBD := Lib.hid hbd
  clear hbd hW2 hS
  go_wp2_with fail
  refine (HF.out _).mono ?_
  rintro e w3 ⟨rfl, rfl⟩
  go_wp2_with fail
  have hbld := build_pure (R := M) (C := cs) (N := 59) (caps := #[.pointer (some ⟨w.heap.size, 0, none⟩), .pointer (some ⟨w.heap.size + 1, 0, none⟩)]) (F := besF ra ca la rb cb lb) HRC.out.1 HRC.out.2.1 HRC.out.2.2 W2 (enters_of Tryd.func59 (by kernel_rfl) rfl) (fun i j W _ hj hW => HT.out i j _ _ W hj (HBD.out.trans (hW.mono HBD.out.size)) (box_kept HZ0'.out hW (Nat.le_refl _)) (box_kept HZ1'.out hW (Nat.le_refl _)))
  have hbl : bld M cs (besF ra ca la rb cb lb) = besL ra ca la rb cb lb := by unfold besL; rw [HM.out, HCS.out]
  obtain ⟨L, hL⟩ : ∃ L, besL ra ca la rb cb lb = L := ⟨_, rfl⟩
  rw [hbl, hL] at hbld
  rw [hL] at HQ
  clear hL hbl
  refine hbld.mono ?_
  clear hbld
  rintro e w4 ⟨v2, rfl, hv2, hb2⟩
  have HB4 := Lib.hid (HBD.out.trans (hb2.mono HBD.out.size))
  have hy2 := box_kept HZ3'.out hb2 (Nat.le_refl _)
  have HZ2 := Lib.hid hy2
  clear d0 d1 d2 f0 f1 f2
  obtain ⟨d0, d1, d2, f0, f1, f2⟩ := box3 hy2
  have HV := Lib.hid hv2
  obtain ⟨A3, cp3, rfl, _⟩ := id hv2
  clear hb2 hy2 hv2 a0 a1 a2 b0 b1 b2
  unfold arV
  go_wp2
  obtain ⟨r0, r1, r2, _⟩ := box3 (set3 (.int .i64 (M : Int)) (.int .i64 (cs : Int)) (.slice A3 L.length cp3) HZ2.out)
  have hfin := ArOut2.store (w := w) (a := ⟨M, cs, L⟩) (b := true) HV.out HB4.out HZ2.out (by omega)
  rw [HQ.out] at hfin
  exact bodyPost_ret (v := .tuple #[arV M cs (.slice A3 L.length cp3), .bool true]) (by simp [results, Tryd.f31, go_sem, arV, r0, r1, r2]) rfl hfin
end Go.Proofs.YtfgddhabepllfaaDoor
