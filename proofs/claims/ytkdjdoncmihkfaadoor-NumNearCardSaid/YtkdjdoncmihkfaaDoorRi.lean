/- The document's Plus, of one sign. -/
import Derived.Test.YtkdjdoncmihkfaaDoorRh
namespace Go.Proofs.YtkdjdoncmihkfaaDoor
open Go.RowKit

/-- two boxes and the result's three cells -/
structure B3 (w : World) (H : Nat) (na nb : Bool) (va vb : Value) (ea eb : Int) : Prop where
  bb : B2 w H na nb va vb ea eb
  r0 : w.cell? ⟨H + 1 + 1, 0, none⟩ = some (.bool false)
  r1 : w.cell? ⟨H + 1 + 1, 1, none⟩ = some (.slice none 0 0)
  r2 : w.cell? ⟨H + 1 + 1, 2, none⟩ = some (.int .i64 0)
  f0 : w.frozen? ⟨H + 1 + 1, 0, none⟩ = false
  f1 : w.frozen? ⟨H + 1 + 1, 1, none⟩ = false
  f2 : w.frozen? ⟨H + 1 + 1, 2, none⟩ = false
theorem B3.new (w : World) (na nb : Bool) (va vb : Value) (ea eb : Int) : B3 (((w.alloc (.cells #[.bool na, va, .int .i64 ea] 45)).alloc (.cells #[.bool nb, vb, .int .i64 eb] 45)).alloc (.cells #[.bool false, .slice none 0 0, .int .i64 0] 45)) w.heap.size na nb va vb ea eb := by
  have h := (B2.new w na nb va vb ea eb).below (alloc_below ((w.alloc (.cells #[.bool na, va, .int .i64 ea] 45)).alloc (.cells #[.bool nb, vb, .int .i64 eb] 45)) (.cells #[.bool false, .slice none 0 0, .int .i64 0] 45)) (by simp)
  obtain ⟨W, hW⟩ : ∃ W, W = ((w.alloc (.cells #[.bool na, va, .int .i64 ea] 45)).alloc (.cells #[.bool nb, vb, .int .i64 eb] 45)) := ⟨_, rfl⟩
  have e : w.heap.size + 1 + 1 = W.heap.size := by rw [hW]; simp
  rw [← hW] at h ⊢
  refine ⟨h, ?_, ?_, ?_, ?_, ?_, ?_⟩
  all_goals (rw [e]; simp)
theorem B3.below {w w' : World} {H : Nat} {na nb : Bool} {va vb : Value} {ea eb : Int} {C : Nat} (h : B3 w H na nb va vb ea eb) (hb : Below C w w') (hC : H + 1 + 1 < C) : B3 w' H na nb va vb ea eb :=
  ⟨h.bb.below hb (by omega), (hb.cell (p := ⟨H + 1 + 1, 0, none⟩) hC).trans h.r0, (hb.cell (p := ⟨H + 1 + 1, 1, none⟩) hC).trans h.r1, (hb.cell (p := ⟨H + 1 + 1, 2, none⟩) hC).trans h.r2, (hb.frozen (p := ⟨H + 1 + 1, 0, none⟩) hC).trans h.f0, (hb.frozen (p := ⟨H + 1 + 1, 1, none⟩) hC).trans h.f1, (hb.frozen (p := ⟨H + 1 + 1, 2, none⟩) hC).trans h.f2⟩
theorem below3b (w : World) (o p q : Obj) : Below w.heap.size w (((w.alloc o).alloc p).alloc q) := (two_below w o p).alloc (by simp; omega) _
theorem OwnD.lt {w : World} {B g n c : Nat} {l : List UInt8} (h : OwnD w B (.slice (some ⟨g, 0, none⟩) n c) l) : g < w.heap.size := (h.1.lt g rfl).2
set_option maxRecDepth 1000000 in
set_option maxHeartbeats 4000000 in
theorem plus_same (s : Bool) (va vb : Value) (ea eb : Int) (la lb : List UInt8) (w : World) (hva : Vd w va la) (hvb : Vd w vb lb) (hla : la.length ≤ 500) (hlb : lb.length ≤ 500) (h1 : -200 ≤ ea) (h2 : ea ≤ 200) (h3 : -200 ≤ eb) (h4 : eb ≤ 200) (dla : Dig la) (dlb : Dig lb) (m : Int) (hm : m = min ea eb) (x y : List UInt8) (n : Nat)
    (hn : n = max (la ++ List.replicate (ea - m).toNat 0).length (lb ++ List.replicate (eb - m).toNat 0).length) (hx : x = padL n (la ++ List.replicate (ea - m).toNat 0)) (hy : y = padL n (lb ++ List.replicate (eb - m).toNat 0)) :
    Calls Tryd.prog 44 #[.agg #[.bool s, va, .int .i64 ea], .agg #[.bool s, vb, .int .i64 eb]] w fun e w' => ∃ g c, e = .returned (.agg #[.bool s, .slice (some ⟨g, 0, none⟩) (n + 1) c, .int .i64 m]) ∧ OwnD w' w.heap.size (.slice (some ⟨g, 0, none⟩) (n + 1) c) (sumL x y) ∧ Below w.heap.size w w' := by
  obtain ⟨i0, hi, hz0, hz1, hz2⟩ := info_parts info3
  have hxl : x.length = n := by rw [hx]; exact padL_len (by omega)
  have hyl : y.length = n := by rw [hy]; exact padL_len (by omega)
  have hn5 : n ≤ 1000 := by rw [hn]; simp; omega
  have hdx : Dig x := by rw [hx]; exact padL_dig _ (wide_dig _ dla)
  have hdy : Dig y := by rw [hy]; exact padL_dig _ (wide_dig _ dlb)
  have HB := Lib.hid (B3.new w s s va vb ea eb)
  have hb3 := below3b w (.cells #[.bool s, va, .int .i64 ea] 45) (.cells #[.bool s, vb, .int .i64 eb] 45) (.cells #[.bool false, .slice none 0 0, .int .i64 0] 45)
  have LV : Hid (∀ w1, Below w.heap.size w w1 → Calls Tryd.prog 71 #[.agg #[.bool s, va, .int .i64 ea], .agg #[.bool s, vb, .int .i64 eb]] w1 fun e w' => ∃ g1 c1 g2 c2, e = .returned (.tuple #[.slice (some ⟨g1, 0, none⟩) n c1, .slice (some ⟨g2, 0, none⟩) n c2, .int .i64 m]) ∧ OwnD w' w1.heap.size (.slice (some ⟨g1, 0, none⟩) n c1) x ∧ OwnD w' w1.heap.size (.slice (some ⟨g2, 0, none⟩) n c2) y ∧ Below w1.heap.size w1 w') := fun w1 hb => by
    refine (level_any s s va vb ea eb la lb w1 (hva.below hb) (hvb.below hb) hla hlb h1 h2 h3 h4 m hm _ _ n rfl rfl hn).mono ?_
    rintro e w' ⟨v1, v2, rfl, o1, o2, q⟩
    rw [← hx] at o1
    rw [← hy] at o2
    obtain ⟨g1, c1, e1⟩ := o1.2
    obtain ⟨g2, c2, e2⟩ := o2.2
    rw [hxl] at e1
    rw [hyl] at e2
    subst e1 e2
    exact ⟨g1, c1, g2, c2, rfl, o1, o2, q⟩
  have hxy : x.length = y.length := by omega
  have hst := sumT_start x y
  rw [hxl] at hst
  have HST0 := Lib.hid hst
  have HDX := Lib.hid hdx
  have HDY := Lib.hid hdy
  have HXL := Lib.hid hxl
  have HYL := Lib.hid hyl
  have HXY := Lib.hid hxy
  clear hst hxl hyl hxy hdx hdy hx hy hn hm hva hvb hla hlb h1 h2 h3 h4 dla dlb
  go_enter Tryd.func44, Tryd.ntmps44
  go_wp2_with fail
  refine (LV.out _ hb3).mono ?_
  rintro e w1 ⟨g1, c1, g2, c2, rfl, o1, o2, q1⟩
  have S1 := HB.out.below q1 (by simp)
  have hz3 : w.heap.size + 1 + 1 < w1.heap.size := by have := q1.size; simp at this; omega
  have q2 : Below w.heap.size w w1 := hb3.trans (q1.mono hb3.size)
  obtain ⟨w2, hmk, hown0, hgr⟩ := run_make_full (P := Tryd.prog) w1 w1.heap.size 43 3 i0 (.int .i64 0) 1 Tryd.underlying43 hi hz0 hz1 .i64 .i64 (n + 1) (by rw [hz2]; omega) (by unfold maxLen; omega) (Nat.le_refl _)
  have hb1 : Below w1.heap.size w1 w2 := Below.grown (Below.refl _ _) hgr (Nat.le_refl _) (fun j hj => by cases hj)
  have hown1 := made_ownD hown0
  have hmk2 : (Instr.makeSlice 43 (.int .i64 ((n : Int) + 1)) (.int .i64 ((n : Int) + 1))).run Tryd.prog w1 = .ok (.slice (some ⟨w1.heap.size, 0, none⟩) (n + 1) (n + 1)) w2 := hmk
  rw [← HST0.out] at hown1
  have S2 := S1.below hb1 hz3
  have HX := Lib.hid o1
  have HY := Lib.hid o2
  have HSB := Lib.hid S1
  have hBx : g1 < w1.heap.size := o1.lt
  have hBy : g2 < w1.heap.size := o2.lt
  obtain ⟨⟨a0, a1, a2, b0, b1, b2⟩, r0, r1, r2, f0, f1, f2⟩ := S2
  clear S1 o1 o2 q1 hmk hown0 hgr HB LV hb3
  go_wp2_with fail
  clear a0 a1 a2 b0 b1 b2 r0 r1 r2 f0 f1 f2
  go_loopw [9, 10] (fun c' i' wr => ∃ (k : Nat), k ≤ n ∧ i' = .int .i64 ((k : Int) - 1) ∧ c' = .int .i64 (((addL (x.drop k) (y.drop k)).1 : Nat) : Int) ∧ OwnD wr w1.heap.size (.slice (some ⟨w1.heap.size, 0, none⟩) (n + 1) (n + 1)) (sumT x y k) ∧ Below w1.heap.size w1 wr) (fun _ i' _ => (intOf i' + 1).toNat)
  case atStart =>
    refine ⟨n, Nat.le_refl _, rfl, ?_, hown1, hb1⟩
    rw [List.drop_eq_nil_of_le (by rw [HXL.out]; omega), addL_nil]; rfl
  case round =>
    obtain ⟨k, hk, rfl, rfl, hown, hbw⟩ := hrel
    clear hown1 hb1 hmk2
    cases k with
    | zero =>
      have hc1 := addL_carry HXY.out HDX.out HDY.out 0
      have hst := hown.stored 0 (UInt8.ofNat (addL x y).1)
      rw [sumT_end] at hst
      obtain ⟨hcell, hfz⟩ := hown.at (k := 0) (x := 0) (by rw [sumT]; simp)
      rw [List.drop_zero, List.drop_zero] at hc1 ⊢
      obtain ⟨cc, hcc⟩ : ∃ cc, cc = (addL x y).1 := ⟨_, rfl⟩
      rw [← hcc] at hc1 hst ⊢
      rw [show ((UInt8.ofNat cc).toNat : Int) = (cc : Int) by rw [UInt8.toNat_ofNat']; omega] at hst
      have HST := Lib.hid hst
      have hbw3 := hbw.trans hst.2
      obtain ⟨⟨a0, a1, a2, b0, b1, b2⟩, r0, r1, r2, f0, f1, f2⟩ := HSB.out.below hbw3 hz3
      obtain ⟨⟨e0, e1, e2, e3, e4, e5⟩, s0, s1, s2, t0, t1, t2⟩ := HSB.out.below hbw hz3
      clear hst hown hcc
      go_wp2
      have k0 := cell3_0 (w := wr.setCell ⟨w1.heap.size, 0, none⟩ (.int .i64 (cc : Int))) (B := w.heap.size + 1 + 1) (by rw [r0]; rfl) (.bool s) (.slice (some ⟨w1.heap.size, 0, none⟩) (n + 1) (n + 1)) (.int .i64 m)
      have k1 := cell3_1 (w := wr.setCell ⟨w1.heap.size, 0, none⟩ (.int .i64 (cc : Int))) (B := w.heap.size + 1 + 1) (by rw [r1]; rfl) (.bool s) (.slice (some ⟨w1.heap.size, 0, none⟩) (n + 1) (n + 1)) (.int .i64 m)
      have k2 := cell3_2 (w := wr.setCell ⟨w1.heap.size, 0, none⟩ (.int .i64 (cc : Int))) (B := w.heap.size + 1 + 1) (by rw [r2]; rfl) (.bool s) (.slice (some ⟨w1.heap.size, 0, none⟩) (n + 1) (n + 1)) (.int .i64 m)
      have hO := HST.out.1
      refine bodyPost_ret (v := .agg #[.bool s, .slice (some ⟨w1.heap.size, 0, none⟩) (n + 1) (n + 1), .int .i64 m]) (by simp [results, Tryd.results44, go_sem, k0, k1, k2]) rfl ⟨_, _, rfl, ?_, ?_⟩
      · refine OwnD.mono (B := w1.heap.size) ?_ q2.size
        exact ⟨ownsRow_setCell_below (ownsRow_setCell_below (ownsRow_setCell_below hO.1 hz3 _) hz3 _) hz3 _, hO.2⟩
      · exact (((q2.trans (hbw3.mono q2.size)).setCell (p := ⟨w.heap.size + 1 + 1, 0, none⟩) (by show _ ≤ w.heap.size + 1 + 1; omega) _).setCell (p := ⟨w.heap.size + 1 + 1, 1, none⟩) (by show _ ≤ w.heap.size + 1 + 1; omega) _).setCell (p := ⟨w.heap.size + 1 + 1, 2, none⟩) (by show _ ≤ w.heap.size + 1 + 1; omega) _
    | succ k =>
      rw [show (((k + 1 : Nat) : Int) - 1) = (k : Int) by omega]
      have hkx : k < x.length := by rw [HXL.out]; omega
      have hky : k < y.length := by rw [HYL.out]; omega
      obtain ⟨s1, s2⟩ := sumT_step hkx hky
      have hc1 := addL_carry HXY.out HDX.out HDY.out (k + 1)
      have hcx := ((HX.out.below hbw).at (List.getElem?_eq_getElem hkx)).1
      have hcy := ((HY.out.below hbw).at (List.getElem?_eq_getElem hky)).1
      have hx9 : (x[k]).toNat ≤ 9 := HDX.out _ (List.getElem_mem hkx)
      have hy9 : (y[k]).toNat ≤ 9 := HDY.out _ (List.getElem_mem hky)
      obtain ⟨a, ha⟩ : ∃ a, a = (x[k]).toNat := ⟨_, rfl⟩
      obtain ⟨b, hb⟩ : ∃ b, b = (y[k]).toNat := ⟨_, rfl⟩
      obtain ⟨cc, hcc⟩ : ∃ cc, cc = (addL (x.drop (k + 1)) (y.drop (k + 1))).1 := ⟨_, rfl⟩
      rw [← ha, ← hb, ← hcc] at s1 s2
      rw [← ha] at hcx hx9
      rw [← hb] at hcy hy9
      rw [← hcc] at hc1 ⊢
      have e1 : IntKind.i64.wrap ((a : Int) + (b : Int)) = (a : Int) + b := by rw [IntKind.wrap_i64]; omega
      have e2 : IntKind.i64.wrap ((a : Int) + (b : Int) + (cc : Int)) = (a : Int) + b + cc := by rw [IntKind.wrap_i64]; omega
      have hki : (k : Int) < (n : Int) := by omega
      have hk0 : (0 : Int) ≤ (k : Int) := by omega
      clear ha hb hcc
      have HS1 := Lib.hid s1
      have HS2 := Lib.hid s2
      clear s1 s2
      go_wp2_with fail
      go_quiet (fail)
      obtain ⟨W2, hWe⟩ : ∃ W2, W2 = wr.drewN nq := ⟨_, rfl⟩
      have hown2 : OwnD W2 w1.heap.size (.slice (some ⟨w1.heap.size, 0, none⟩) (n + 1) (n + 1)) (sumT x y (k + 1)) := by rw [hWe]; exact hown.below (below_drewN (Below.refl _ wr) nq)
      have hbw2 : Below w1.heap.size w1 W2 := by rw [hWe]; exact below_drewN hbw nq
      rw [← hWe]
      obtain ⟨d, hd⟩ : ∃ d, d = a + b + cc := ⟨_, rfl⟩
      have hd27 : d ≤ 27 := by omega
      have hdi : (a : Int) + b + cc = (d : Int) := by omega
      have hst := hown2.stored (k + 1) (UInt8.ofNat (d % 10))
      rw [hd, HS2.out, ← hd, show ((UInt8.ofNat (d % 10)).toNat : Int) = (d : Int) % 10 by rw [UInt8.toNat_ofNat']; omega] at hst
      have hstl := sumT_len HXY.out HDX.out HDY.out (k := k + 1) (by rw [HXL.out]; omega)
      obtain ⟨hcell, hfz⟩ := hown2.at (k := k + 1) (x := (sumT x y (k + 1))[k + 1]'(by omega)) (List.getElem?_eq_getElem _)
      obtain ⟨z0, hz0'⟩ : ∃ z0, z0 = (((sumT x y (k + 1))[k + 1]'(by omega)).toNat : Int) := ⟨_, rfl⟩
      rw [← hz0'] at hcell
      have HST := Lib.hid hst
      have HC : Hid ((d : Int) / 10 = (((addL (x.drop k) (y.drop k)).1 : Nat) : Int)) := by have := HS1.out; show _ = _; rw [this, ← hd]; rfl
      rw [hdi]
      clear hst hown hown2 hWe hbw hz0' hstl hd hdi e1 e2 hcx hcy hx9 hy9 HS1 HS2
      go_wp2
      exact ⟨⟨k, by omega, rfl, by rw [HC.out], HST.out.1, hbw2.trans HST.out.2⟩, by simp [intOf]⟩

end Go.Proofs.YtkdjdoncmihkfaaDoor
