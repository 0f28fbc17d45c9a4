/- Clone, Make, At. -/
import Derived.Test.YtfgddhabepllfaaDoorW
namespace Go.Proofs.YtfgddhabepllfaaDoor
open Go.RowKit

theorem flatV_one6 (l : List Vl) : ∀ u ∈ flatV l, u.oneCell' = true := by
  intro u hu
  unfold flatV at hu
  obtain ⟨e, _, he⟩ := List.mem_flatMap.1 hu
  exact one6 e u he
theorem val_cells {n : Nat} {w : World} {g o : Nat} {c : Nat} {l : List Vl} (h : ValAt n w (.slice (some ⟨g, o, none⟩) l.length c) l) : ∀ (j : Nat) (u : Value), (flatV l)[j]? = some u → w.cell? ((⟨g, o, none⟩ : Addr).add j) = some u := by
  intro j u hu
  obtain ⟨A, c', hv, _, hI⟩ := h
  simp only [Value.slice.injEq, true_and] at hv
  obtain ⟨rfl, _⟩ := hv
  have hj := (List.getElem?_eq_some_iff.1 hu).1
  rw [flatV_len] at hj
  obtain ⟨k, t, rfl, ht⟩ := place 6 j (by omega)
  have hk : k < l.length := by omega
  obtain ⟨g', o', e, hg, hC⟩ := hI k _ (List.getElem?_eq_getElem hk)
  injection e with e
  injection e with e1 e2
  subst e1 e2
  obtain ⟨f0, f1, f2, f3, f4, f5⟩ := flatV_at (List.getElem?_eq_getElem hk)
  have hadd : ∀ j, (⟨g, o, none⟩ : Addr).add j = ⟨g, o + j, none⟩ := fun j => by unfold Addr.add; split <;> simp_all
  rw [hadd]
  obtain ⟨c0, c1, c2, c3, c4, c5⟩ := hC
  obtain rfl | rfl | rfl | rfl | rfl | rfl : t = 0 ∨ t = 1 ∨ t = 2 ∨ t = 3 ∨ t = 4 ∨ t = 5 := by omega
  · rw [Nat.add_zero] at hu ⊢; rw [f0] at hu; cases hu; exact c0
  · rw [f1] at hu; cases hu; exact c1
  · rw [f2] at hu; cases hu; exact c2
  · rw [f3] at hu; cases hu; exact c3
  · rw [f4] at hu; cases hu; exact c4
  · rw [f5] at hu; cases hu; exact c5
theorem slice_eq22 (A : Option Addr) (n c : Nat) (w : World) : (binOp .eql 22 (.slice A n c) (.slice none 0 0)).run Tryd.prog w = .ok (.bool (decide (A = none))) w := by
  cases A <;> rfl
set_option maxRecDepth 100000 in
set_option maxHeartbeats 2000000 in
theorem clone_any (n : Nat) (v : Value) (l : List Vl) (w : World) (hn : n ≤ w.heap.size) (h : ValAt n w v l) (h1 : 1 ≤ l.length) (hlen : l.length ≤ 100000) :
    Calls Tryd.prog 47 #[v] w fun e w' => ∃ v', e = .returned v' ∧ ValAt w'.heap.size w' v' l ∧ Below w.heap.size w w' := by
  obtain ⟨i0, hj, hj0, hj1, hj2⟩ := info_parts info34
  obtain ⟨g, o, c, rfl, hc, _⟩ := h.get (Below.refl n w) (k := 0) (by omega)
  obtain ⟨Q, hQ⟩ : ∃ Q : Ending → World → Prop, (fun e w' => ∃ v', e = .returned v' ∧ ValAt w'.heap.size w' v' l ∧ Below w.heap.size w w') = Q := ⟨_, rfl⟩
  rw [hQ]
  have HQ := Lib.hid hQ
  have hb0 : Below w.heap.size w (w.alloc (.cells #[] 34)) := Nm.alloc_below _ _
  have hrow0 : (w.alloc (.cells #[] 34)).ownsRow w.heap.size 34 6 (.slice (some ⟨w.heap.size, 0, none⟩) 0 0) 0 [] := ⟨rfl, .inr ⟨w.heap.size, 0, #[], rfl, Nat.le_refl _, heap_alloc_new w _, Nat.le_refl _, by unfold maxLen; omega, rfl, rfl⟩⟩
  have hcells := val_cells (h.below (hb0.mono hn))
  have hse := slice_eq22 (some ⟨g, o, none⟩) l.length c
  simp only [reduceCtorEq, decide_false] at hse
  have HB0 := Lib.hid hb0
  have HR0 := Lib.hid hrow0
  have HCE := Lib.hid hcells
  clear hb0 hrow0 hcells h hQ hn hc
  go_enter Tryd.func47, Tryd.ntmps47
  go_wp2_with (at_builtin; refine wpList_append_own _ rfl _ _ 22 rfl w.heap.size 34 i0 (.agg #[.int .i64 0, .int .i64 0, .int .i64 0, .string ⟨#[]⟩, .bool false, .int .i64 0]) 6 56 Tryd.underlying22 hj hj0 hj1 hj2 rfl (by decide) _ _ _ rfl HR0.out ⟨g, o, none⟩ l.length c (flatV l) rfl (flatV_len l) HCE.out (flatV_one6 l) (by unfold maxLen; omega) (by omega) (by simp) ?_; intro v1 w3 hown1 hgrow1 hnil1; have HO1 := Lib.hid hown1; have HG1 := Lib.hid hgrow1; clear hown1 hgrow1 hnil1)
  have h9 := HO1.out
  rw [Nat.zero_add, List.nil_append] at h9
  have hfin : ∃ v', Ending.returned v1 = .returned v' ∧ ValAt w3.heap.size w3 v' l ∧ Below w.heap.size w w3 := ⟨v1, rfl, val_of_row h9 rfl, HB0.out.grown HG1.out (by simp) (fun k e => by injection e with e; simp only at e; omega)⟩
  have hfin2 : Q (.returned v1) w3 := by rw [← HQ.out]; exact hfin
  exact hfin2
set_option maxRecDepth 100000 in
set_option maxHeartbeats 2000000 in
theorem make_yes (n : Nat) (r c : Int) (v : Value) (l : List Vl) (hr : rightA ⟨r, c, l⟩ = true) (hwf : WfL l) (w : World) (he : Env w) (hn : n ≤ w.heap.size) (h : ValAt n w v l) :
    Calls Tryd.prog 14 #[.int .i64 r, .int .i64 c, v] w (ArOut2 w ⟨r, c, l⟩ true) := by
  obtain ⟨R, C, rfl, rfl, hl, hRC, hR, hC, h1, h2, _⟩ := right_dims hr
  have hl1 : 1 ≤ l.length := by rw [hl]; exact Nat.mul_pos h1 h2
  obtain ⟨Q, hQ⟩ : ∃ Q, ArOut2 w ⟨(R : Int), (C : Int), l⟩ true = Q := ⟨_, rfl⟩
  rw [hQ]
  have HQ := Lib.hid hQ
  obtain ⟨W0, hW0⟩ : ∃ W0, (w.alloc (.cells #[.int .i64 0, .int .i64 0, .slice none 0 0] 25)).alloc (.cells #[.int .i64 (R : Int), .int .i64 (C : Int), v] 25) = W0 := ⟨_, rfl⟩
  have HB0 : Hid (Below w.heap.size w W0) := Lib.hid (by rw [← hW0]; exact two_below)
  have HX0 : Hid (W0.heap[w.heap.size]? = some (.cells #[.int .i64 0, .int .i64 0, .slice none 0 0] 25 (0, 0))) := Lib.hid (by rw [← hW0]; exact two_old)
  have HX1 : Hid (W0.heap[w.heap.size + 1]? = some (.cells #[.int .i64 (R : Int), .int .i64 (C : Int), v] 25 (0, 0))) := Lib.hid (by rw [← hW0]; exact two_new)
  have HW0 := Lib.hid hW0
  have HR := Lib.hid (fun W (hW : Below w.heap.size w W) => righta_any n R C v l (by omega) hwf W (Nat.le_trans hn hW.size) (h.below (hW.mono hn)) (he.below hW))
  rw [hr] at HR
  have HCL := Lib.hid (fun W (hW : Below w.heap.size w W) => clone_any n v l W (Nat.le_trans hn hW.size) (h.below (hW.mono hn)) hl1 (by omega))
  obtain ⟨A, cp, rfl, _⟩ := id h
  clear hQ hr hwf hl hRC hR hC he hn h h1 h2 hl1 hW0
  unfold arV at *
  go_enter Tryd.func14, Tryd.ntmps14
  go_wp2_with fail
  rw [HW0.out]
  refine (HR.out _ HB0.out).mono ?_
  rintro e w1 ⟨rfl, hb1⟩
  have HY0 := Lib.hid (box_kept HX0.out hb1 (Nat.le_refl _))
  have HY1 := Lib.hid (box_kept HX1.out hb1 (Nat.le_refl _))
  have HB1 := Lib.hid (HB0.out.trans (hb1.mono HB0.out.size))
  clear hb1
  go_wp2_with fail
  refine (HCL.out _ HB1.out).mono ?_
  rintro e w2 ⟨v2, rfl, hv2, hb2⟩
  have hz0 := box_kept HY0.out hb2 (Nat.le_refl _)
  have hz1 := box_kept HY1.out hb2 (Nat.le_refl _)
  have HB2 := Lib.hid (HB1.out.trans (hb2.mono HB1.out.size))
  obtain ⟨A2, cp2, rfl, _⟩ := id hv2
  obtain ⟨d0, d1, d2, f0, f1, f2⟩ := box3 hz1
  have hs := set_last (.slice A2 l.length cp2) hz1
  have hon := Only.set (w := w2) (a := ⟨w.heap.size + 1, 2, none⟩) (.slice A2 l.length cp2)
  have hz3 := (hon.block w.heap.size (Array.getElem?_eq_some_iff.1 hz0).1 (by simp)).trans hz0
  have HV3 : Hid (ValAt (w2.setCell ⟨w.heap.size + 1, 2, none⟩ (.slice A2 l.length cp2)).heap.size (w2.setCell ⟨w.heap.size + 1, 2, none⟩ (.slice A2 l.length cp2)) (.slice A2 l.length cp2) l) := Lib.hid (by
    obtain ⟨A3, c3, hv3, hc3, hI3⟩ := hv2
    refine ⟨A3, c3, hv3, hc3, fun k x hk => ?_⟩
    obtain ⟨g, o, hA, hg, hC⟩ := hI3 k x hk
    have hne : g ≠ w.heap.size + 1 := fun e => hC.not_box (by rw [e]; exact hz1)
    exact ⟨g, o, hA, Nat.lt_of_lt_of_le hg hon.size, hC.kept (hon.block g hg hne)⟩)
  have HB3 := Lib.hid (HB2.out.setCell (p := ⟨w.heap.size + 1, 2, none⟩) (by simp) (.slice A2 l.length cp2))
  obtain ⟨e0, e1, e2, _⟩ := box3 hs
  obtain ⟨y0, y1, y2, h0, h1, h2⟩ := box3 hz3
  have HZ3 := Lib.hid hz3
  clear hb2 hv2 hz0 hz1 hs hon hz3
  go_wp2
  obtain ⟨r0, r1, r2, _⟩ := box3 (set3 (.int .i64 (R : Int)) (.int .i64 (C : Int)) (.slice A2 l.length cp2) HZ3.out)
  have hfin := ArOut2.store (w := w) (a := ⟨(R : Int), (C : Int), l⟩) (b := true) HV3.out HB3.out HZ3.out (by omega)
  rw [HQ.out] at hfin
  exact bodyPost_ret (v := .tuple #[arV R C (.slice A2 l.length cp2), .bool true]) (by simp [results, Tryd.f14, go_sem, arV, r0, r1, r2]) rfl hfin
end Go.Proofs.YtfgddhabepllfaaDoor
