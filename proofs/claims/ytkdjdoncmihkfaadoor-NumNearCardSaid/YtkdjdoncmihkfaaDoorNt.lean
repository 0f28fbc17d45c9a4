/- Walk over num.sum. -/
import Derived.Test.YtkdjdoncmihkfaaDoorNs
namespace Go.Proofs.YtkdjdoncmihkfaaDoor
open Go.RowKit

/-- digits added from behind: what is carried, and the digits -/
def addL : List UInt8 → List UInt8 → Nat × List UInt8
  | x :: s, y :: t => ((x.toNat + y.toNat + (addL s t).1) / 10, UInt8.ofNat ((x.toNat + y.toNat + (addL s t).1) % 10) :: (addL s t).2)
  | _, _ => (0, [])
theorem addL_nil (y : List UInt8) : addL [] y = (0, []) := by unfold addL; rfl
theorem addL_val : ∀ (x y : List UInt8), x.length = y.length → Dig x → Dig y → (addL x y).1 ≤ 1 ∧ (addL x y).2.length = x.length ∧ Dig (addL x y).2 ∧ (addL x y).1 * 10 ^ x.length + valN (addL x y).2 = valN x + valN y
  | [], [], _, _, _ => by simp [addL, valN, Dig]
  | [], _ :: _, h, _, _ => by simp at h
  | _ :: _, [], h, _, _ => by simp at h
  | x :: s, y :: t, h, hx, hy => by
    have hl : s.length = t.length := by simpa using h
    obtain ⟨i1, i2, i3, i4⟩ := addL_val s t hl hx.cons.2 hy.cons.2
    have h1 := hx.cons.1
    have h2 := hy.cons.1
    rw [addL]
    obtain ⟨d, hd⟩ : ∃ d, d = x.toNat + y.toNat + (addL s t).1 := ⟨_, rfl⟩
    rw [← hd]
    have hof : (UInt8.ofNat (d % 10)).toNat = d % 10 := by rw [UInt8.toNat_ofNat']; omega
    refine ⟨by omega, by simp [i2], Dig.mk (by rw [hof]; omega) i3, ?_⟩
    simp only [valN_cons, hof, i2, List.length_cons, Nat.pow_succ, ← hl]
    have e1 : d / 10 * (10 ^ s.length * 10) + (d % 10 * 10 ^ s.length) = d * 10 ^ s.length := by
      rw [Nat.mul_comm (10 ^ s.length) 10, ← Nat.mul_assoc, ← Nat.add_mul]
      congr 1; omega
    have e2 : d * 10 ^ s.length = x.toNat * 10 ^ s.length + y.toNat * 10 ^ s.length + (addL s t).1 * 10 ^ s.length := by
      rw [hd, Nat.add_mul, Nat.add_mul]
    omega

def sumL (x y : List UInt8) : List UInt8 := UInt8.ofNat (addL x y).1 :: (addL x y).2
theorem sumL_val {x y : List UInt8} (h : x.length = y.length) (hx : Dig x) (hy : Dig y) : valN (sumL x y) = valN x + valN y ∧ Dig (sumL x y) ∧ (sumL x y).length = x.length + 1 := by
  obtain ⟨i1, i2, i3, i4⟩ := addL_val x y h hx hy
  have hof : (UInt8.ofNat (addL x y).1).toNat = (addL x y).1 := by rw [UInt8.toNat_ofNat']; omega
  refine ⟨by rw [sumL, valN_cons, hof, i2, i4], Dig.mk (by rw [hof]; omega) i3, by simp [sumL, i2]⟩

/-- the sum's state: k digits are left -/
def sumT (x y : List UInt8) (k : Nat) : List UInt8 := List.replicate (k + 1) 0 ++ (addL (x.drop k) (y.drop k)).2
theorem sumT_start (x y : List UInt8) : sumT x y x.length = List.replicate (x.length + 1) 0 := by
  unfold sumT
  rw [List.drop_eq_nil_of_le (Nat.le_refl _), addL_nil]; simp
theorem sumT_step {x y : List UInt8} {k : Nat} (hk : k < x.length) (hk2 : k < y.length) :
    (addL (x.drop k) (y.drop k)).1 = ((x[k]).toNat + (y[k]).toNat + (addL (x.drop (k + 1)) (y.drop (k + 1))).1) / 10 ∧
    (sumT x y (k + 1)).set (k + 1) (UInt8.ofNat (((x[k]).toNat + (y[k]).toNat + (addL (x.drop (k + 1)) (y.drop (k + 1))).1) % 10)) = sumT x y k := by
  unfold sumT
  rw [List.drop_eq_getElem_cons hk, List.drop_eq_getElem_cons hk2, addL]
  refine ⟨rfl, ?_⟩
  rw [show k + 1 + 1 = (k + 1) + 1 from rfl, List.replicate_succ', List.append_assoc, List.set_append_right _ _ (by simp)]
  simp
theorem sumT_end (x y : List UInt8) : (sumT x y 0).set 0 (UInt8.ofNat (addL x y).1) = sumL x y := by
  unfold sumT sumL; simp
theorem sumT_len {x y : List UInt8} (h : x.length = y.length) (hx : Dig x) (hy : Dig y) {k : Nat} (hk : k ≤ x.length) : (sumT x y k).length = x.length + 1 := by
  obtain ⟨_, i2, _, _⟩ := addL_val (x.drop k) (y.drop k) (by simp [h]) (hx.drop k) (hy.drop k)
  simp [sumT, i2]; omega
theorem addL_carry {x y : List UInt8} (h : x.length = y.length) (hx : Dig x) (hy : Dig y) (k : Nat) : (addL (x.drop k) (y.drop k)).1 ≤ 1 :=
  (addL_val (x.drop k) (y.drop k) (by simp [h]) (hx.drop k) (hy.drop k)).1

set_option maxRecDepth 1000000 in
set_option maxHeartbeats 4000000 in
theorem sum_any (gx cx gy cy n : Nat) (x y : List UInt8) (B : Nat) (w : World) (hxl : x.length = n) (hyl : y.length = n) (hdx : Dig x) (hdy : Dig y) (hn : n ≤ 100000)
    (ox : Own w B (.slice (some ⟨gx, 0, none⟩) n cx) x) (oy : Own w B (.slice (some ⟨gy, 0, none⟩) n cy) y) :
    Calls Tryd.prog 53 #[.slice (some ⟨gx, 0, none⟩) n cx, .slice (some ⟨gy, 0, none⟩) n cy] w fun r w' => ∃ g c, r = .returned (.slice (some ⟨g, 0, none⟩) (n + 1) c) ∧ Own w' w.heap.size (.slice (some ⟨g, 0, none⟩) (n + 1) c) (sumL x y) ∧ Below w.heap.size w w' := by
  obtain ⟨i0, hi, hz0, hz1, hz2⟩ := info_parts info5
  obtain ⟨w1, hmk, hown0, hgr⟩ := run_make_full (P := Tryd.prog) w w.heap.size 49 5 i0 (.int .u8 0) 1 Tryd.underlying49 hi hz0 hz1 .i64 .i64 (n + 1) (by rw [hz2]; omega) (by unfold maxLen; omega) (Nat.le_refl _)
  have hb1 : Below w.heap.size w w1 := Below.grown (Below.refl _ _) hgr (Nat.le_refl _) (fun j hj => by cases hj)
  have hown1 := made_own hown0
  have hmk2 : (Instr.makeSlice 49 (.int .i64 ((n : Int) + 1)) (.int .i64 ((n : Int) + 1))).run Tryd.prog w = .ok (.slice (some ⟨w.heap.size, 0, none⟩) (n + 1) (n + 1)) w1 := hmk
  have hxy : x.length = y.length := by omega
  have hst := sumT_start x y
  rw [hxl] at hst
  rw [← hst] at hown1
  have HX := Lib.hid ox
  have HY := Lib.hid oy
  have HDX := Lib.hid hdx
  have HDY := Lib.hid hdy
  have HXL := Lib.hid hxl
  have HYL := Lib.hid hyl
  have HXY := Lib.hid hxy
  have hBx : gx < w.heap.size := (ox.1.lt gx rfl).2
  have hBy : gy < w.heap.size := (oy.1.lt gy rfl).2
  clear hmk hown0 hgr ox oy hdx hdy hst hxl hyl hxy
  go_enter Tryd.func53, Tryd.ntmps53
  go_wp2_with fail
  go_loopw [6, 7] (fun c' i' wr => ∃ (k : Nat), k ≤ n ∧ i' = .int .i64 ((k : Int) - 1) ∧ c' = .int .u8 (((addL (x.drop k) (y.drop k)).1 : Nat) : Int) ∧ Own wr w.heap.size (.slice (some ⟨w.heap.size, 0, none⟩) (n + 1) (n + 1)) (sumT x y k) ∧ Below w.heap.size w wr) (fun _ i' _ => (intOf i' + 1).toNat)
  case atStart =>
    refine ⟨n, Nat.le_refl _, rfl, ?_, hown1, hb1⟩
    rw [List.drop_eq_nil_of_le (by rw [HXL.out]; omega), addL_nil]; rfl
  case round =>
    obtain ⟨k, hk, rfl, rfl, hown, hbw⟩ := hrel
    clear hown1 hb1 hmk2
    cases k with
    | zero =>
      have hc1 := addL_carry HXY.out HDX.out HDY.out 0
      have hst := hown.stored 0 (UInt8.ofNat (addL x y).1)
      rw [sumT_end] at hst
      obtain ⟨hcell, hfz⟩ := hown.at (k := 0) (x := 0) (by rw [sumT]; simp)
      rw [List.drop_zero, List.drop_zero] at hc1 ⊢
      obtain ⟨cc, hcc⟩ : ∃ cc, cc = (addL x y).1 := ⟨_, rfl⟩
      rw [← hcc] at hc1 hst ⊢
      rw [show ((UInt8.ofNat cc).toNat : Int) = (cc : Int) by rw [UInt8.toNat_ofNat']; omega] at hst
      have HST := Lib.hid hst
      clear hst hown hcc
      go_wp2
      go_ret
      exact ⟨_, _, rfl, HST.out.1, hbw.trans HST.out.2⟩
    | succ k =>
      rw [show (((k + 1 : Nat) : Int) - 1) = (k : Int) by omega]
      have hkx : k < x.length := by rw [HXL.out]; omega
      have hky : k < y.length := by rw [HYL.out]; omega
      obtain ⟨s1, s2⟩ := sumT_step hkx hky
      have hc1 := addL_carry HXY.out HDX.out HDY.out (k + 1)
      have hcx := ((HX.out.below hbw).at (List.getElem?_eq_getElem hkx)).1
      have hcy := ((HY.out.below hbw).at (List.getElem?_eq_getElem hky)).1
      have hx9 : (x[k]).toNat ≤ 9 := HDX.out _ (List.getElem_mem hkx)
      have hy9 : (y[k]).toNat ≤ 9 := HDY.out _ (List.getElem_mem hky)
      have hstl := sumT_len HXY.out HDX.out HDY.out (k := k + 1) (by rw [HXL.out]; omega)
      obtain ⟨hcell, hfz⟩ := hown.at (k := k + 1) (x := (sumT x y (k + 1))[k + 1]'(by omega)) (List.getElem?_eq_getElem _)
      obtain ⟨z0, hz0'⟩ : ∃ z0, z0 = (((sumT x y (k + 1))[k + 1]'(by omega)).toNat : Int) := ⟨_, rfl⟩
      rw [← hz0'] at hcell
      obtain ⟨a, ha⟩ : ∃ a, a = (x[k]).toNat := ⟨_, rfl⟩
      obtain ⟨b, hb⟩ : ∃ b, b = (y[k]).toNat := ⟨_, rfl⟩
      obtain ⟨cc, hcc⟩ : ∃ cc, cc = (addL (x.drop (k + 1)) (y.drop (k + 1))).1 := ⟨_, rfl⟩
      rw [← ha, ← hb, ← hcc] at s1 s2
      rw [← ha] at hcx hx9
      rw [← hb] at hcy hy9
      rw [← hcc] at hc1 ⊢
      have e1 : IntKind.u8.wrap ((a : Int) + (b : Int)) = (a : Int) + b := by rw [IntKind.wrap_u8]; omega
      have e2 : IntKind.u8.wrap ((a : Int) + (b : Int) + (cc : Int)) = (a : Int) + b + cc := by rw [IntKind.wrap_u8]; omega
      have hki : (k : Int) < (n : Int) := by omega
      have hk0 : (0 : Int) ≤ (k : Int) := by omega
      clear ha hb hcc hz0' hstl
      have HS1 := Lib.hid s1
      have HS2 := Lib.hid s2
      clear s1 s2 hcell hfz
      go_wp2_with fail
      go_quiet (fail)
      obtain ⟨W2, hWe⟩ : ∃ W2, W2 = wr.drewN nq := ⟨_, rfl⟩
      have hown2 : Own W2 w.heap.size (.slice (some ⟨w.heap.size, 0, none⟩) (n + 1) (n + 1)) (sumT x y (k + 1)) := by rw [hWe]; exact hown.below (below_drewN (Below.refl _ wr) nq)
      have hbw2 : Below w.heap.size w W2 := by rw [hWe]; exact below_drewN hbw nq
      rw [← hWe]
      obtain ⟨d, hd⟩ : ∃ d, d = a + b + cc := ⟨_, rfl⟩
      have hd27 : d ≤ 27 := by omega
      have hdi : (a : Int) + b + cc = (d : Int) := by omega
      have hst := hown2.stored (k + 1) (UInt8.ofNat (d % 10))
      rw [hd, HS2.out, ← hd, show ((UInt8.ofNat (d % 10)).toNat : Int) = (d : Int) % 10 by rw [UInt8.toNat_ofNat']; omega] at hst
      have hstl := sumT_len HXY.out HDX.out HDY.out (k := k + 1) (by rw [HXL.out]; omega)
      obtain ⟨hcell, hfz⟩ := hown2.at (k := k + 1) (x := (sumT x y (k + 1))[k + 1]'(by omega)) (List.getElem?_eq_getElem _)
      obtain ⟨z0, hz0'⟩ : ∃ z0, z0 = (((sumT x y (k + 1))[k + 1]'(by omega)).toNat : Int) := ⟨_, rfl⟩
      rw [← hz0'] at hcell
      have HST := Lib.hid hst
      have HC : Hid ((d : Int) / 10 = (((addL (x.drop k) (y.drop k)).1 : Nat) : Int)) := by have := HS1.out; show _ = _; rw [this, ← hd]; rfl
      rw [hdi]
      clear hst hown hown2 hWe hbw hz0' hstl hd hdi e1 e2 hcx hcy hx9 hy9 HS1 HS2
      go_wp2
      exact ⟨⟨k, by omega, rfl, by rw [HC.out], HST.out.1, hbw2.trans HST.out.2⟩, by simp [intOf]⟩
end Go.Proofs.YtkdjdoncmihkfaaDoor
