/- Walk over num.difference. -/
import Derived.Test.YtkdjdoncmihkfaaDoorNt
namespace Go.Proofs.YtkdjdoncmihkfaaDoor
open Go.RowKit

/-- digits taken away from behind: what is borrowed, and the digits -/
def subL : List UInt8 → List UInt8 → Nat × List UInt8
  | x :: s, y :: t => (1 - (x.toNat + 10 - y.toNat - (subL s t).1) / 10, UInt8.ofNat ((x.toNat + 10 - y.toNat - (subL s t).1) % 10) :: (subL s t).2)
  | _, _ => (0, [])
theorem subL_nil (y : List UInt8) : subL [] y = (0, []) := by unfold subL; rfl
theorem subL_val : ∀ (x y : List UInt8), x.length = y.length → Dig x → Dig y → (subL x y).1 ≤ 1 ∧ (subL x y).2.length = x.length ∧ Dig (subL x y).2 ∧ valN (subL x y).2 + valN y = valN x + (subL x y).1 * 10 ^ x.length
  | [], [], _, _, _ => by simp [subL, valN, Dig]
  | [], _ :: _, h, _, _ => by simp at h
  | _ :: _, [], h, _, _ => by simp at h
  | x :: s, y :: t, h, hx, hy => by
    have hl : s.length = t.length := by simpa using h
    obtain ⟨i1, i2, i3, i4⟩ := subL_val s t hl hx.cons.2 hy.cons.2
    have h1 := hx.cons.1
    have h2 := hy.cons.1
    rw [subL]
    obtain ⟨d, hd⟩ : ∃ d, d = x.toNat + 10 - y.toNat - (subL s t).1 := ⟨_, rfl⟩
    rw [← hd]
    have hof : (UInt8.ofNat (d % 10)).toNat = d % 10 := by rw [UInt8.toNat_ofNat']; omega
    refine ⟨by omega, by simp [i2], Dig.mk (by rw [hof]; omega) i3, ?_⟩
    simp only [valN_cons, hof, i2, List.length_cons, Nat.pow_succ, ← hl]
    obtain ⟨P, hP⟩ : ∃ P, P = 10 ^ s.length := ⟨_, rfl⟩
    obtain ⟨b, hb⟩ : ∃ b, b = (subL s t).1 := ⟨_, rfl⟩
    rw [← hP, ← hb] at i4
    rw [← hb] at hd i1
    rw [← hP]
    have e1 : d % 10 + y.toNat + b = x.toNat + (1 - d / 10) * 10 := by omega
    have e2 := congrArg (· * P) e1
    simp only [Nat.add_mul] at e2
    have e3 : (1 - d / 10) * 10 * P = (1 - d / 10) * (P * 10) := by rw [Nat.mul_assoc, Nat.mul_comm 10 P]
    omega
/-- the difference, where x isn't less -/
theorem diff_val {x y : List UInt8} (h : x.length = y.length) (hx : Dig x) (hy : Dig y) (hle : valN y ≤ valN x) : valN (subL x y).2 = valN x - valN y ∧ Dig (subL x y).2 ∧ (subL x y).2.length = x.length := by
  obtain ⟨i1, i2, i3, i4⟩ := subL_val x y h hx hy
  have l1 := i3.lt
  rw [i2] at l1
  have : (subL x y).1 = 0 := by
    by_cases hb : (subL x y).1 = 0
    · exact hb
    · have hb1 : (subL x y).1 = 1 := by omega
      rw [hb1] at i4; omega
  rw [this] at i4
  exact ⟨by omega, i3, i2⟩

/-- the difference's state: k digits are left -/
def diffT (x y : List UInt8) (k : Nat) : List UInt8 := List.replicate k 0 ++ (subL (x.drop k) (y.drop k)).2
theorem diffT_start (x y : List UInt8) : diffT x y x.length = List.replicate x.length 0 := by
  unfold diffT
  rw [List.drop_eq_nil_of_le (Nat.le_refl _), subL_nil]; simp
theorem diffT_step {x y : List UInt8} {k : Nat} (hk : k < x.length) (hk2 : k < y.length) :
    (subL (x.drop k) (y.drop k)).1 = 1 - ((x[k]).toNat + 10 - (y[k]).toNat - (subL (x.drop (k + 1)) (y.drop (k + 1))).1) / 10 ∧
    (diffT x y (k + 1)).set k (UInt8.ofNat (((x[k]).toNat + 10 - (y[k]).toNat - (subL (x.drop (k + 1)) (y.drop (k + 1))).1) % 10)) = diffT x y k := by
  unfold diffT
  rw [List.drop_eq_getElem_cons hk, List.drop_eq_getElem_cons hk2, subL]
  refine ⟨rfl, ?_⟩
  rw [List.replicate_succ', List.append_assoc, List.set_append_right _ _ (by simp)]
  simp
theorem diffT_end (x y : List UInt8) : diffT x y 0 = (subL x y).2 := by
  unfold diffT; simp
theorem diffT_len {x y : List UInt8} (h : x.length = y.length) (hx : Dig x) (hy : Dig y) {k : Nat} (hk : k ≤ x.length) : (diffT x y k).length = x.length := by
  obtain ⟨_, i2, _, _⟩ := subL_val (x.drop k) (y.drop k) (by simp [h]) (hx.drop k) (hy.drop k)
  simp [diffT, i2]; omega
theorem subL_carry {x y : List UInt8} (h : x.length = y.length) (hx : Dig x) (hy : Dig y) (k : Nat) : (subL (x.drop k) (y.drop k)).1 ≤ 1 :=
  (subL_val (x.drop k) (y.drop k) (by simp [h]) (hx.drop k) (hy.drop k)).1

set_option maxRecDepth 1000000 in
set_option maxHeartbeats 4000000 in
theorem diff_any (gx cx gy cy n : Nat) (x y : List UInt8) (B : Nat) (w : World) (hxl : x.length = n) (hyl : y.length = n) (hdx : Dig x) (hdy : Dig y) (hn : n ≤ 100000)
    (ox : Own w B (.slice (some ⟨gx, 0, none⟩) n cx) x) (oy : Own w B (.slice (some ⟨gy, 0, none⟩) n cy) y) :
    Calls Tryd.prog 54 #[.slice (some ⟨gx, 0, none⟩) n cx, .slice (some ⟨gy, 0, none⟩) n cy] w fun r w' => ∃ g c, r = .returned (.slice (some ⟨g, 0, none⟩) n c) ∧ Own w' w.heap.size (.slice (some ⟨g, 0, none⟩) n c) (subL x y).2 ∧ Below w.heap.size w w' := by
  obtain ⟨i0, hi, hz0, hz1, hz2⟩ := info_parts info5
  obtain ⟨w1, hmk, hown0, hgr⟩ := run_make_full (P := Tryd.prog) w w.heap.size 49 5 i0 (.int .u8 0) 1 Tryd.underlying49 hi hz0 hz1 .i64 .i64 n (by rw [hz2]; omega) (by unfold maxLen; omega) (Nat.le_refl _)
  have hb1 : Below w.heap.size w w1 := Below.grown (Below.refl _ _) hgr (Nat.le_refl _) (fun j hj => by cases hj)
  have hown1 := made_own hown0
  have hxy : x.length = y.length := by omega
  have hst := diffT_start x y
  rw [hxl] at hst
  rw [← hst] at hown1
  have HX := Lib.hid ox
  have HY := Lib.hid oy
  have HDX := Lib.hid hdx
  have HDY := Lib.hid hdy
  have HXL := Lib.hid hxl
  have HYL := Lib.hid hyl
  have HXY := Lib.hid hxy
  have hBx : gx < w.heap.size := (ox.1.lt gx rfl).2
  have hBy : gy < w.heap.size := (oy.1.lt gy rfl).2
  clear hown0 hgr ox oy hdx hdy hst hxl hyl hxy
  go_enter Tryd.func54, Tryd.ntmps54
  go_wp2_with fail
  go_loopw [6, 7] (fun c' i' wr => ∃ (k : Nat), k ≤ n ∧ i' = .int .i64 ((k : Int) - 1) ∧ c' = .int .u8 (((subL (x.drop k) (y.drop k)).1 : Nat) : Int) ∧ Own wr w.heap.size (.slice (some ⟨w.heap.size, 0, none⟩) n n) (diffT x y k) ∧ Below w.heap.size w wr) (fun _ i' _ => (intOf i' + 1).toNat)
  case atStart =>
    refine ⟨n, Nat.le_refl _, rfl, ?_, hown1, hb1⟩
    rw [List.drop_eq_nil_of_le (by rw [HXL.out]; omega), subL_nil]; rfl
  case round =>
    obtain ⟨k, hk, rfl, rfl, hown, hbw⟩ := hrel
    clear hown1 hb1 hmk
    cases k with
    | zero =>
      rw [diffT_end] at hown
      have HO := Lib.hid hown
      clear hown
      go_wp2
      go_ret
      exact ⟨_, _, rfl, HO.out, hbw⟩
    | succ k =>
      rw [show (((k + 1 : Nat) : Int) - 1) = (k : Int) by omega]
      have hkx : k < x.length := by rw [HXL.out]; omega
      have hky : k < y.length := by rw [HYL.out]; omega
      obtain ⟨s1, s2⟩ := diffT_step hkx hky
      have hc1 := subL_carry HXY.out HDX.out HDY.out (k + 1)
      have hcx := ((HX.out.below hbw).at (List.getElem?_eq_getElem hkx)).1
      have hcy := ((HY.out.below hbw).at (List.getElem?_eq_getElem hky)).1
      have hx9 : (x[k]).toNat ≤ 9 := HDX.out _ (List.getElem_mem hkx)
      have hy9 : (y[k]).toNat ≤ 9 := HDY.out _ (List.getElem_mem hky)
      obtain ⟨a, ha⟩ : ∃ a, a = (x[k]).toNat := ⟨_, rfl⟩
      obtain ⟨b, hb⟩ : ∃ b, b = (y[k]).toNat := ⟨_, rfl⟩
      obtain ⟨cc, hcc⟩ : ∃ cc, cc = (subL (x.drop (k + 1)) (y.drop (k + 1))).1 := ⟨_, rfl⟩
      rw [← ha, ← hb, ← hcc] at s1 s2
      rw [← ha] at hcx hx9
      rw [← hb] at hcy hy9
      rw [← hcc] at hc1 ⊢
      have e1 : IntKind.u8.wrap ((a : Int) + 10) = (a : Int) + 10 := by rw [IntKind.wrap_u8]; omega
      have e2 : IntKind.u8.wrap ((a : Int) + 10 - (b : Int)) = (a : Int) + 10 - b := by rw [IntKind.wrap_u8]; omega
      have e3 : IntKind.u8.wrap ((a : Int) + 10 - (b : Int) - (cc : Int)) = (a : Int) + 10 - b - cc := by rw [IntKind.wrap_u8]; omega
      have hki : (k : Int) < (n : Int) := by omega
      have hk0 : (0 : Int) ≤ (k : Int) := by omega
      clear ha hb hcc
      have HS1 := Lib.hid s1
      have HS2 := Lib.hid s2
      clear s1 s2
      go_wp2_with fail
      go_quiet (fail)
      obtain ⟨W2, hWe⟩ : ∃ W2, W2 = wr.drewN nq := ⟨_, rfl⟩
      have hown2 : Own W2 w.heap.size (.slice (some ⟨w.heap.size, 0, none⟩) n n) (diffT x y (k + 1)) := by rw [hWe]; exact hown.below (below_drewN (Below.refl _ wr) nq)
      have hbw2 : Below w.heap.size w W2 := by rw [hWe]; exact below_drewN hbw nq
      rw [← hWe]
      obtain ⟨d, hd⟩ : ∃ d, d = a + 10 - b - cc := ⟨_, rfl⟩
      have hd19 : d ≤ 19 := by omega
      have hdi : (a : Int) + 10 - b - cc = (d : Int) := by omega
      have hst := hown2.stored k (UInt8.ofNat (d % 10))
      rw [hd, HS2.out, ← hd, show ((UInt8.ofNat (d % 10)).toNat : Int) = (d : Int) % 10 by rw [UInt8.toNat_ofNat']; omega] at hst
      have hstl := diffT_len HXY.out HDX.out HDY.out (k := k + 1) (by rw [HXL.out]; omega)
      obtain ⟨hcell, hfz⟩ := hown2.at (k := k) (x := (diffT x y (k + 1))[k]'(by omega)) (List.getElem?_eq_getElem _)
      obtain ⟨z0, hz0'⟩ : ∃ z0, z0 = (((diffT x y (k + 1))[k]'(by omega)).toNat : Int) := ⟨_, rfl⟩
      rw [← hz0'] at hcell
      have HST := Lib.hid hst
      have HC : Hid (1 - (d : Int) / 10 = (((subL (x.drop k) (y.drop k)).1 : Nat) : Int)) := by have := HS1.out; show _ = _; rw [this, ← hd]; omega
      have e4 : IntKind.u8.wrap (1 - (d : Int) / 10) = 1 - (d : Int) / 10 := by rw [IntKind.wrap_u8]; omega
      rw [hdi]
      clear hst hown hown2 hWe hbw hz0' hstl hd hdi e1 e2 e3 hcx hcy hx9 hy9 HS1 HS2
      go_wp2
      exact ⟨⟨k, by omega, rfl, by rw [HC.out], HST.out.1, hbw2.trans HST.out.2⟩, by simp [intOf]⟩
end Go.Proofs.YtkdjdoncmihkfaaDoor
