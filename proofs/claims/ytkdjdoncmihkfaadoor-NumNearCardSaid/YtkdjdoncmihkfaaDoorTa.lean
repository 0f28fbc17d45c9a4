/- The document's Times. -/
import Derived.Test.YtkdjdoncmihkfaaDoorRm
namespace Go.Proofs.YtkdjdoncmihkfaaDoor
open Go.RowKit

theorem prM_zero (k m : Nat) (p y : List UInt8) (q : Nat) : (prM k m p y q)[k]? = some 0 := by
  unfold prM
  rw [List.getElem?_append_left (by simp), List.getElem?_replicate, if_pos (by omega)]
set_option maxRecDepth 1000000 in
set_option maxHeartbeats 8000000 in
theorem times_any (na nb s : Bool) (hs : (na != nb) = s) (A1 A2 : Option Addr) (c1 c2 : Nat) (ea eb : Int) (x y : List UInt8) (n m : Nat) (w : World) (hxl : x.length = n) (hyl : y.length = m) (hdx : Dig x) (hdy : Dig y) (hn : n ≤ 10000) (hm : m ≤ 10000) (h1 : -200 ≤ ea) (h2 : ea ≤ 200) (h3 : -200 ≤ eb) (h4 : eb ≤ 200)
    (r1 : RdD w A1 x) (r2 : RdD w A2 y) :
    Calls Tryd.prog 46 #[.agg #[.bool na, .slice A1 n c1, .int .i64 ea], .agg #[.bool nb, .slice A2 m c2, .int .i64 eb]] w fun e w' => ∃ g c, e = .returned (.agg #[.bool s, .slice (some ⟨g, 0, none⟩) (n + m + 1) c, .int .i64 (ea + eb)]) ∧ OwnD w' w.heap.size (.slice (some ⟨g, 0, none⟩) (n + m + 1) c) (0 :: prodL x y) ∧ Below w.heap.size w w' := by
  obtain ⟨i0, hi, hz0, hz1, hz2⟩ := info_parts info3
  have HB := Lib.hid (B3.new w na nb (.slice A1 n c1) (.slice A2 m c2) ea eb)
  have hb3 := below3b w (.cells #[.bool na, .slice A1 n c1, .int .i64 ea] 45) (.cells #[.bool nb, .slice A2 m c2, .int .i64 eb] 45) (.cells #[.bool false, .slice none 0 0, .int .i64 0] 45)
  obtain ⟨W3, hW3⟩ : ∃ W3, W3 = ((w.alloc (.cells #[.bool na, .slice A1 n c1, .int .i64 ea] 45)).alloc (.cells #[.bool nb, .slice A2 m c2, .int .i64 eb] 45)).alloc (.cells #[.bool false, .slice none 0 0, .int .i64 0] 45) := ⟨_, rfl⟩
  have hWs : W3.heap.size = w.heap.size + 1 + 1 + 1 := by rw [hW3]; simp
  obtain ⟨w2, hmk, hown0, hgr⟩ := run_make_full (P := Tryd.prog) W3 W3.heap.size 43 3 i0 (.int .i64 0) 1 Tryd.underlying43 hi hz0 hz1 .i64 .i64 (n + m + 1) (by rw [hz2]; omega) (by unfold maxLen; omega) (Nat.le_refl _)
  have hb1 : Below W3.heap.size W3 w2 := Below.grown (Below.refl _ _) hgr (Nat.le_refl _) (fun j hj => by cases hj)
  have hown1 := made_ownD hown0
  rw [hWs] at hb1 hown1 hmk
  have hmk2 : (Instr.makeSlice 43 (.int .i64 ((n : Int) + (m : Int) + 1)) (.int .i64 ((n : Int) + (m : Int) + 1))).run Tryd.prog W3 = .ok (.slice (some ⟨w.heap.size + 1 + 1 + 1, 0, none⟩) (n + m + 1) (n + m + 1)) w2 := hmk
  have hst : OwnD w2 (w.heap.size + 1 + 1 + 1) (.slice (some ⟨w.heap.size + 1 + 1 + 1, 0, none⟩) (n + m + 1) (n + m + 1)) (0 :: prT x y n) := by
    have := prT_start x y
    rw [hxl, hyl] at this
    rw [this, ← List.replicate_succ]; exact hown1
  rw [← hW3] at HB hb3
  have hq3 : Below w.heap.size w W3 := hb3
  have HX : Hid (0 < n → ∃ b off, A1 = some ⟨b, off, none⟩ ∧ b < W3.heap.size ∧ ∀ j z, x[j]? = some z → W3.cell? ⟨b, off + j, none⟩ = some (.int .i64 (z.toNat : Int))) := by
    intro h
    rw [← hxl] at h
    exact (r1.below hb3) h
  have HY : Hid (0 < m → ∃ b off, A2 = some ⟨b, off, none⟩ ∧ b < W3.heap.size ∧ ∀ j z, y[j]? = some z → W3.cell? ⟨b, off + j, none⟩ = some (.int .i64 (z.toNat : Int))) := by
    intro h
    rw [← hyl] at h
    exact (r2.below hb3) h
  rw [hWs] at HX HY
  have HDX := Lib.hid hdx
  have HDY := Lib.hid hdy
  have HXL := Lib.hid hxl
  have HYL := Lib.hid hyl
  have HS := Lib.hid hs
  have HW3 := Lib.hid hW3
  have HQ3 := Lib.hid hq3
  have hwe : IntKind.i64.wrap (ea + eb) = ea + eb := by rw [IntKind.wrap_i64]; omega
  clear hmk hown0 hgr hown1 hdx hdy hxl hyl hs r1 r2 hb3 hq3 h1 h2 h3 h4
  subst hW3
  go_enter Tryd.func46, Tryd.ntmps46
  have hBB := HB.out
  obtain ⟨⟨a0, a1, a2, b0, b1, b2⟩, u0, u1, u2, f0, f1, f2⟩ := id hBB
  have hz3 : w.heap.size + 1 + 1 < w.heap.size + 1 + 1 + 1 := Nat.lt_succ_self _
  obtain ⟨⟨e0, e1, e2, d0, d1, d2⟩, v0, v1, v2, g0, g1, g2⟩ := HB.out.below hb1 hz3
  go_wp2_with fail
  clear a0 a1 a2 b0 b1 b2 u0 u1 u2 f0 f1 f2 e0 e1 e2 d0 d1 d2 v0 v1 v2 g0 g1 g2
  go_loopw [6] (fun i' wr => ∃ (k : Nat), k ≤ n ∧ i' = .int .i64 ((k : Int) - 1) ∧ OwnD wr (w.heap.size + 1 + 1 + 1) (.slice (some ⟨w.heap.size + 1 + 1 + 1, 0, none⟩) (n + m + 1) (n + m + 1)) (0 :: prT x y k) ∧ Below (w.heap.size + 1 + 1 + 1) (((w.alloc (.cells #[.bool na, .slice A1 n c1, .int .i64 ea] 45)).alloc (.cells #[.bool nb, .slice A2 m c2, .int .i64 eb] 45)).alloc (.cells #[.bool false, .slice none 0 0, .int .i64 0] 45)) wr) (fun i' _ => (intOf i' + 1).toNat)
  case atStart => exact ⟨n, Nat.le_refl _, rfl, hst, hb1⟩
  case round =>
    obtain ⟨k, hk, rfl, hown, hbw⟩ := hrel
    clear hst hb1 hmk2 hBB
    obtain ⟨⟨a0, a1, a2, b0, b1, b2⟩, u0, u1, u2, f0, f1, f2⟩ := HB.out.below hbw hz3
    cases k with
    | zero =>
      rw [prT, List.drop_zero, List.replicate_zero, List.nil_append] at hown
      have HO := Lib.hid hown
      have hs1 : (!na == nb) = s := by rw [← HS.out]; cases na <;> cases nb <;> rfl
      have hq := HQ3.out.trans (hbw.mono (by omega))
      clear hown
      go_wp2
      have k0 := cell3_0 (w := wr) (B := w.heap.size + 1 + 1) (by rw [u0]; rfl) (.bool s) (.slice (some ⟨w.heap.size + 1 + 1 + 1, 0, none⟩) (n + m + 1) (n + m + 1)) (.int .i64 (ea + eb))
      have k1 := cell3_1 (w := wr) (B := w.heap.size + 1 + 1) (by rw [u1]; rfl) (.bool s) (.slice (some ⟨w.heap.size + 1 + 1 + 1, 0, none⟩) (n + m + 1) (n + m + 1)) (.int .i64 (ea + eb))
      have k2 := cell3_2 (w := wr) (B := w.heap.size + 1 + 1) (by rw [u2]; rfl) (.bool s) (.slice (some ⟨w.heap.size + 1 + 1 + 1, 0, none⟩) (n + m + 1) (n + m + 1)) (.int .i64 (ea + eb))
      have hO := HO.out
      refine bodyPost_ret (v := .agg #[.bool s, .slice (some ⟨w.heap.size + 1 + 1 + 1, 0, none⟩) (n + m + 1) (n + m + 1), .int .i64 (ea + eb)]) (by simp [results, Tryd.results46, go_sem, k0, k1, k2]) rfl ⟨_, _, rfl, ?_, ?_⟩
      · refine OwnD.mono (B := w.heap.size + 1 + 1 + 1) ?_ (by omega)
        exact ⟨ownsRow_setCell_below (ownsRow_setCell_below (ownsRow_setCell_below hO.1 hz3 _) hz3 _) hz3 _, hO.2⟩
      · exact ((hq.setCell (p := ⟨w.heap.size + 1 + 1, 0, none⟩) (by show _ ≤ w.heap.size + 1 + 1; omega) _).setCell (p := ⟨w.heap.size + 1 + 1, 1, none⟩) (by show _ ≤ w.heap.size + 1 + 1; omega) _).setCell (p := ⟨w.heap.size + 1 + 1, 2, none⟩) (by show _ ≤ w.heap.size + 1 + 1; omega) _
    | succ k =>
      rw [show (((k + 1 : Nat) : Int) - 1) = (k : Int) by omega]
      obtain ⟨b1x, o1, rfl, hb1x, hcX⟩ := HX.out (by omega)
      have hkx : k < x.length := by rw [HXL.out]; omega
      have hx9 : (x[k]).toNat ≤ 9 := HDX.out _ (List.getElem_mem hkx)
      obtain ⟨P1, P2, P3⟩ := prodL_val (x.drop (k + 1)) y (HDX.out.drop _) HDY.out
      have hTk : prT x y k = List.replicate k 0 ++ (UInt8.ofNat (mulRow (x[k]).toNat y ((prodL (x.drop (k + 1)) y).take y.length)).1 :: ((mulRow (x[k]).toNat y ((prodL (x.drop (k + 1)) y).take y.length)).2 ++ (prodL (x.drop (k + 1)) y).drop y.length)) := by
        rw [prT, List.drop_eq_getElem_cons hkx, prodL]
      have hTk1 : prT x y (k + 1) = List.replicate (k + 1) 0 ++ prodL (x.drop (k + 1)) y := rfl
      obtain ⟨p, hp⟩ : ∃ p, p = prodL (x.drop (k + 1)) y := ⟨_, rfl⟩
      obtain ⟨a, ha⟩ : ∃ a, a = (x[k]).toNat := ⟨_, rfl⟩
      have hcx0 := hcX k (x[k]) (List.getElem?_eq_getElem hkx)
      rw [← ha] at hx9 hTk hcx0
      have HCX := Lib.hid hcx0
      rw [← hp] at P1 P2 hTk hTk1
      have hpl : p.length = n - (k + 1) + m := by rw [P1, List.length_drop, HXL.out, HYL.out]
      have hpy : y.length ≤ p.length := by rw [hpl, HYL.out]; omega
      rw [hTk1, ← prM_start k a p y, HYL.out] at hown
      have HTK := Lib.hid hTk
      have HPD := Lib.hid P2
      have HPY := Lib.hid hpy
      have HPL := Lib.hid hpl
      have hkn : (k : Int) < (n : Int) := by omega
      have hk0 : (0 : Int) ≤ (k : Int) := by omega
      clear P1 P2 P3 hTk hTk1 ha hp hpy hpl hcx0 hcX HX
      go_wp2_with fail
      clear a0 a1 a2 b0 b1 b2 u0 u1 u2 f0 f1 f2
      go_loopw [7, 8] (fun c' j' w5 => ∃ (q : Nat), q ≤ m ∧ j' = .int .i64 ((q : Int) - 1) ∧ c' = .int .i64 (((mulRow a (y.drop q) ((p.take y.length).drop q)).1 : Nat) : Int) ∧ OwnD w5 (w.heap.size + 1 + 1 + 1) (.slice (some ⟨w.heap.size + 1 + 1 + 1, 0, none⟩) (n + m + 1) (n + m + 1)) (0 :: prM k a p y q) ∧ Below (w.heap.size + 1 + 1 + 1) (((w.alloc (.cells #[.bool na, .slice (some ⟨b1x, o1, none⟩) n c1, .int .i64 ea] 45)).alloc (.cells #[.bool nb, .slice A2 m c2, .int .i64 eb] 45)).alloc (.cells #[.bool false, .slice none 0 0, .int .i64 0] 45)) w5) (fun _ j' _ => (intOf j' + 1).toNat)
      case atStart =>
        refine ⟨m, Nat.le_refl _, rfl, ?_, hown, hbw⟩
        rw [List.drop_eq_nil_of_le (by rw [HYL.out]; omega), mulRow_nil]; rfl
      case round =>
        obtain ⟨q, hq, rfl, rfl, hown2, hbw2⟩ := hrel
        clear hown hbw
        obtain ⟨⟨a0, a1, a2, b0, b1, b2⟩, u0, u1, u2, f0, f1, f2⟩ := HB.out.below hbw2 hz3
        cases q with
        | zero =>
          have hc9 := mulRow_carry hx9 HDY.out HPD.out HPY.out 0
          rw [List.drop_zero, List.drop_zero] at hc9 ⊢
          have hst := hown2.stored (k + 1) (UInt8.ofNat (mulRow a y (p.take y.length)).1)
          rw [List.set_cons_succ, prM_end, ← HTK.out] at hst
          obtain ⟨hcell, hfz⟩ := hown2.at (k := k + 1) (x := 0) (by rw [List.getElem?_cons_succ]; exact prM_zero k a p y 0)
          obtain ⟨cc, hcc⟩ : ∃ cc, cc = (mulRow a y (p.take y.length)).1 := ⟨_, rfl⟩
          rw [← hcc] at hc9 hst ⊢
          rw [show ((UInt8.ofNat cc).toNat : Int) = (cc : Int) by rw [UInt8.toNat_ofNat']; omega] at hst
          rw [show ((0 : UInt8).toNat : Int) = 0 from rfl] at hcell
          have HST := Lib.hid hst
          have ew : IntKind.i64.wrap (0 + (cc : Int)) = (cc : Int) := by rw [IntKind.wrap_i64]; omega
          have ew2 : IntKind.i64.wrap (cc : Int) = (cc : Int) := by rw [IntKind.wrap_i64]; omega
          have hkb : (k : Int) + 1 < (n : Int) + (m : Int) + 1 := by omega
          clear hst hown2 hcc a0 a1 a2 b0 b1 b2 u0 u1 u2 f0 f1 f2
          go_wp2
          exact ⟨⟨k, by omega, rfl, HST.out.1, hbw2.trans HST.out.2⟩, by simp [intOf]⟩
        | succ q =>
          rw [show (((q + 1 : Nat) : Int) - 1) = (q : Int) by omega]
          obtain ⟨b2x, o2, rfl, hb2x, hcY⟩ := HY.out (by omega)
          have hqy : q < y.length := by rw [HYL.out]; omega
          have hqp : q < p.length := by have := HPY.out; omega
          obtain ⟨s1, s2⟩ := prM_step (k := k) (m := a) hqy HPY.out
          have hc9 := mulRow_carry hx9 HDY.out HPD.out HPY.out (q + 1)
          have hcy := (hbw2.cell (p := ⟨b2x, o2 + q, none⟩) hb2x).trans (hcY q (y[q]) (List.getElem?_eq_getElem hqy))
          have hcx2 := (hbw2.cell (p := ⟨b1x, o1 + k, none⟩) hb1x).trans HCX.out
          have hy9 : (y[q]).toNat ≤ 9 := HDY.out _ (List.getElem_mem hqy)
          have hp9 : (p[q]).toNat ≤ 9 := HPD.out _ (List.getElem_mem hqp)
          obtain ⟨hcell, hfz⟩ := hown2.at (k := k + 1 + q + 1) (by rw [List.getElem?_cons_succ]; exact prM_get hqy HPY.out)
          have s3 : (0 :: prM k a p y (q + 1)).set (k + 1 + q + 1) (UInt8.ofNat (((p[q]'(by omega)).toNat + a * (y[q]).toNat + (mulRow a (y.drop (q + 1)) ((p.take y.length).drop (q + 1))).1) % 10)) = 0 :: prM k a p y q := by rw [List.set_cons_succ, s2]
          rw [show k + 1 + q + 1 = k + q + 2 by omega] at hcell hfz s3
          obtain ⟨b, hb⟩ : ∃ b, b = (y[q]).toNat := ⟨_, rfl⟩
          obtain ⟨o, ho⟩ : ∃ o, o = (p[q]).toNat := ⟨_, rfl⟩
          obtain ⟨cc, hcc⟩ : ∃ cc, cc = (mulRow a (y.drop (q + 1)) ((p.take y.length).drop (q + 1))).1 := ⟨_, rfl⟩
          rw [← hb, ← ho, ← hcc] at s1 s3
          rw [← hb] at hcy hy9
          rw [← ho] at hcell hp9
          rw [← hcc] at hc9 ⊢
          have HS1 := Lib.hid s1
          have HS2 := Lib.hid s3
          have hab : a * b ≤ 81 := Nat.le_trans (Nat.mul_le_mul hx9 hy9) (by decide)
          obtain ⟨ab, hab2⟩ : ∃ ab, ab = a * b := ⟨_, rfl⟩
          have hmul : (a : Int) * (b : Int) = (ab : Int) := by rw [hab2]; rfl
          have hqm : (q : Int) < (m : Int) := by omega
          have hq0 : (0 : Int) ≤ (q : Int) := by omega
          have hiq : (k : Int) + q + 2 < (n : Int) + m + 1 := by omega
          rw [← hab2] at hab
          have HAB := Lib.hid hab2
          clear s1 s2 s3 hb ho hcc hab2 hcY HY
          go_wp2_with fail
          go_quiet (fail)
          obtain ⟨W2, hWe⟩ : ∃ W2, W2 = wr.drewN nq := ⟨_, rfl⟩
          have hown3 : OwnD W2 (w.heap.size + 1 + 1 + 1) (.slice (some ⟨w.heap.size + 1 + 1 + 1, 0, none⟩) (n + m + 1) (n + m + 1)) (0 :: prM k a p y (q + 1)) := by rw [hWe]; exact hown2.below (below_drewN (Below.refl _ wr) nq)
          have hbw3 : Below (w.heap.size + 1 + 1 + 1) (((w.alloc (.cells #[.bool na, .slice (some ⟨b1x, o1, none⟩) n c1, .int .i64 ea] 45)).alloc (.cells #[.bool nb, .slice (some ⟨b2x, o2, none⟩) m c2, .int .i64 eb] 45)).alloc (.cells #[.bool false, .slice none 0 0, .int .i64 0] 45)) W2 := by rw [hWe]; exact below_drewN hbw2 nq
          rw [← hWe]
          obtain ⟨d, hd⟩ : ∃ d, d = o + ab + cc := ⟨_, rfl⟩
          have hd99 : d ≤ 99 := by omega
          have hdi : (o : Int) + ab + cc = (d : Int) := by omega
          have hst := hown3.stored (k + q + 2) (UInt8.ofNat (d % 10))
          rw [hd, HAB.out, HS2.out, ← HAB.out, ← hd, show ((UInt8.ofNat (d % 10)).toNat : Int) = (d : Int) % 10 by rw [UInt8.toNat_ofNat']; omega] at hst
          obtain ⟨hcell, hfz⟩ := hown3.at (k := k + 1 + q + 1) (by rw [List.getElem?_cons_succ]; exact prM_get (q := q) (by rw [HYL.out]; omega) HPY.out)
          rw [show k + 1 + q + 1 = k + q + 2 by omega] at hcell hfz
          obtain ⟨z0, hz0'⟩ : ∃ z0, z0 = ((p[q]'(by have := HPY.out; have := HYL.out; omega)).toNat : Int) := ⟨_, rfl⟩
          rw [← hz0'] at hcell
          have HST := Lib.hid hst
          have HC : Hid ((d : Int) / 10 = (((mulRow a (y.drop q) ((p.take y.length).drop q)).1 : Nat) : Int)) := by have := HS1.out; show _ = _; rw [this, ← HAB.out, ← hd]; rfl
          rw [hdi]
          clear hst hown2 hown3 hWe hbw2 hz0' hd hdi hcx2 hcy hx9 hy9 hp9 HS1 HS2 hmul HAB hab hc9 a0 a1 a2 b0 b1 b2 u0 u1 u2 f0 f1 f2
          go_wp2
          exact ⟨⟨q, by omega, rfl, by rw [HC.out], HST.out.1, hbw3.trans HST.out.2⟩, by simp [intOf]⟩
end Go.Proofs.YtkdjdoncmihkfaaDoor
