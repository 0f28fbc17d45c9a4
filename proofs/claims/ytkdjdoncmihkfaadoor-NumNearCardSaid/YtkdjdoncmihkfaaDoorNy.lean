/- Walk over num.product. -/
import Derived.Test.YtkdjdoncmihkfaaDoorNx
namespace Go.Proofs.YtkdjdoncmihkfaaDoor
open Go.RowKit

/-- a row times a digit, put to another row, from behind: what is carried, and the digits -/
def mulRow (m : Nat) : List UInt8 → List UInt8 → Nat × List UInt8
  | y :: t, o :: s => ((o.toNat + m * y.toNat + (mulRow m t s).1) / 10, UInt8.ofNat ((o.toNat + m * y.toNat + (mulRow m t s).1) % 10) :: (mulRow m t s).2)
  | _, _ => (0, [])
theorem mulRow_nil (m : Nat) (s : List UInt8) : mulRow m [] s = (0, []) := by unfold mulRow; rfl
theorem mulRow_val {m : Nat} (hm : m ≤ 9) : ∀ (y s : List UInt8), y.length = s.length → Dig y → Dig s → (mulRow m y s).1 ≤ 9 ∧ (mulRow m y s).2.length = y.length ∧ Dig (mulRow m y s).2 ∧ (mulRow m y s).1 * 10 ^ y.length + valN (mulRow m y s).2 = valN s + m * valN y
  | [], [], _, _, _ => by simp [mulRow, valN, Dig]
  | [], _ :: _, h, _, _ => by simp at h
  | _ :: _, [], h, _, _ => by simp at h
  | y :: t, o :: s, h, hy, ho => by
    have hl : t.length = s.length := by simpa using h
    obtain ⟨i1, i2, i3, i4⟩ := mulRow_val hm t s hl hy.cons.2 ho.cons.2
    have h1 := hy.cons.1
    have h2 := ho.cons.1
    have h3 : m * y.toNat ≤ 81 := Nat.le_trans (Nat.mul_le_mul hm h1) (by decide)
    rw [mulRow]
    obtain ⟨d, hd⟩ : ∃ d, d = o.toNat + m * y.toNat + (mulRow m t s).1 := ⟨_, rfl⟩
    rw [← hd]
    have hof : (UInt8.ofNat (d % 10)).toNat = d % 10 := by rw [UInt8.toNat_ofNat']; omega
    refine ⟨by omega, by simp [i2], Dig.mk (by rw [hof]; omega) i3, ?_⟩
    simp only [valN_cons, hof, i2, List.length_cons, Nat.pow_succ, ← hl]
    have e1 : d / 10 * (10 ^ t.length * 10) + (d % 10 * 10 ^ t.length) = d * 10 ^ t.length := by
      rw [Nat.mul_comm (10 ^ t.length) 10, ← Nat.mul_assoc, ← Nat.add_mul]
      congr 1; omega
    have e2 : d * 10 ^ t.length = o.toNat * 10 ^ t.length + m * y.toNat * 10 ^ t.length + (mulRow m t s).1 * 10 ^ t.length := by
      rw [hd, Nat.add_mul, Nat.add_mul]
    have e3 : m * (y.toNat * 10 ^ t.length + valN t) = m * y.toNat * 10 ^ t.length + m * valN t := by rw [Nat.mul_add, Nat.mul_assoc]
    omega
/-- the product's digits -/
def prodL : List UInt8 → List UInt8 → List UInt8
  | [], y => List.replicate y.length 0
  | x :: t, y => UInt8.ofNat (mulRow x.toNat y ((prodL t y).take y.length)).1 :: ((mulRow x.toNat y ((prodL t y).take y.length)).2 ++ (prodL t y).drop y.length)
theorem prodL_val : ∀ (x y : List UInt8), Dig x → Dig y → (prodL x y).length = x.length + y.length ∧ Dig (prodL x y) ∧ valN (prodL x y) = valN x * valN y
  | [], y, _, hy => by
    refine ⟨by simp [prodL], dig_zeros _, ?_⟩
    rw [prodL, valN_zeros]; simp [valN]
  | x :: t, y, hx, hy => by
    obtain ⟨i1, i2, i3⟩ := prodL_val t y hx.cons.2 hy
    have hx9 := hx.cons.1
    obtain ⟨p, hp⟩ : ∃ p, p = prodL t y := ⟨_, rfl⟩
    rw [← hp] at i1 i2 i3
    have hpl : (p.take y.length).length = y.length := by rw [List.length_take]; omega
    obtain ⟨j1, j2, j3, j4⟩ := mulRow_val hx9 y (p.take y.length) hpl.symm hy (i2.take _)
    rw [prodL, ← hp]
    have hof : (UInt8.ofNat (mulRow x.toNat y (p.take y.length)).1).toNat = (mulRow x.toNat y (p.take y.length)).1 := by rw [UInt8.toNat_ofNat']; omega
    refine ⟨by simp [j2]; omega, Dig.mk (by rw [hof]; omega) (j3.append (i2.drop _)), ?_⟩
    rw [valN_cons, hof, valN_append, List.length_append, j2, List.length_drop, i1, show t.length + y.length - y.length = t.length by omega, valN_cons]
    have hsplit : valN p = valN (p.take y.length) * 10 ^ t.length + valN (p.drop y.length) := by
      conv => lhs; rw [← List.take_append_drop y.length p]
      rw [valN_append, List.length_drop, i1, show t.length + y.length - y.length = t.length by omega]
    rw [Nat.pow_add, ← Nat.mul_assoc]
    have e1 := congrArg (· * 10 ^ t.length) j4
    simp only [Nat.add_mul] at e1
    rw [i3] at hsplit
    have e2 : x.toNat * valN y * 10 ^ t.length = x.toNat * 10 ^ t.length * valN y := by rw [Nat.mul_right_comm]
    rw [Nat.add_mul]
    omega
/-- the state between two rounds of the outer loop -/
def prT (x y : List UInt8) (k : Nat) : List UInt8 := List.replicate k 0 ++ prodL (x.drop k) y
/-- the state between two rounds of the inner loop -/
def prM (k m : Nat) (p y : List UInt8) (q : Nat) : List UInt8 := List.replicate (k + 1) 0 ++ (p.take q ++ ((mulRow m (y.drop q) ((p.take y.length).drop q)).2 ++ p.drop y.length))
theorem prT_start (x y : List UInt8) : prT x y x.length = List.replicate (x.length + y.length) 0 := by
  unfold prT
  rw [List.drop_eq_nil_of_le (Nat.le_refl _), prodL, List.replicate_append_replicate]
theorem prM_start (k m : Nat) (p y : List UInt8) : prM k m p y y.length = List.replicate (k + 1) 0 ++ p := by
  unfold prM
  rw [List.drop_eq_nil_of_le (Nat.le_refl y.length), mulRow_nil, List.nil_append, List.take_append_drop]
theorem prM_get {k m : Nat} {p y : List UInt8} {q : Nat} (hq : q < y.length) (hp : y.length ≤ p.length) : (prM k m p y (q + 1))[k + 1 + q]? = some (p[q]'(by omega)) := by
  unfold prM
  rw [List.getElem?_append_right (by simp), List.length_replicate, show k + 1 + q - (k + 1) = q by omega, List.getElem?_append_left (by rw [List.length_take]; omega), List.getElem?_take, if_pos (by omega), List.getElem?_eq_getElem (by omega)]
theorem prM_step {k m : Nat} {p y : List UInt8} {q : Nat} (hq : q < y.length) (hp : y.length ≤ p.length) :
    (mulRow m (y.drop q) ((p.take y.length).drop q)).1 = ((p[q]'(by omega)).toNat + m * (y[q]).toNat + (mulRow m (y.drop (q + 1)) ((p.take y.length).drop (q + 1))).1) / 10 ∧
    (prM k m p y (q + 1)).set (k + 1 + q) (UInt8.ofNat (((p[q]'(by omega)).toNat + m * (y[q]).toNat + (mulRow m (y.drop (q + 1)) ((p.take y.length).drop (q + 1))).1) % 10)) = prM k m p y q := by
  have hpt : q < (p.take y.length).length := by rw [List.length_take]; omega
  have hg : (p.take y.length)[q] = p[q]'(by omega) := by simp
  unfold prM
  rw [List.drop_eq_getElem_cons hq, List.drop_eq_getElem_cons hpt, mulRow, hg]
  refine ⟨rfl, ?_⟩
  rw [List.set_append_right _ _ (by simp), List.length_replicate, show k + 1 + q - (k + 1) = q by omega, List.take_succ_eq_append_getElem (show q < p.length by omega), List.append_assoc, List.set_append_right _ _ (by rw [List.length_take]; omega), List.length_take, show q - min q p.length = 0 by omega]
  rfl
theorem prM_end (k m : Nat) (p y : List UInt8) : (prM k m p y 0).set k (UInt8.ofNat (mulRow m y (p.take y.length)).1) = List.replicate k 0 ++ (UInt8.ofNat (mulRow m y (p.take y.length)).1 :: ((mulRow m y (p.take y.length)).2 ++ p.drop y.length)) := by
  unfold prM
  rw [List.replicate_succ', List.append_assoc, List.set_append_right _ _ (by simp)]
  simp
theorem prM_len {k m : Nat} (hm : m ≤ 9) {p y : List UInt8} (hy : Dig y) (hpd : Dig p) {q : Nat} (hq : q ≤ y.length) (hp : y.length ≤ p.length) : (prM k m p y q).length = k + 1 + p.length := by
  obtain ⟨_, i2, _, _⟩ := mulRow_val hm (y.drop q) ((p.take y.length).drop q) (by simp; omega) (hy.drop q) ((hpd.take _).drop q)
  simp [prM, i2]; omega
theorem mulRow_carry {m : Nat} (hm : m ≤ 9) {p y : List UInt8} (hy : Dig y) (hpd : Dig p) (hp : y.length ≤ p.length) (q : Nat) : (mulRow m (y.drop q) ((p.take y.length).drop q)).1 ≤ 9 :=
  (mulRow_val hm (y.drop q) ((p.take y.length).drop q) (by simp; omega) (hy.drop q) ((hpd.take _).drop q)).1

set_option maxRecDepth 1000000 in
set_option maxHeartbeats 8000000 in
theorem product_any (gx cx gy cy n m : Nat) (x y : List UInt8) (B : Nat) (w : World) (hxl : x.length = n) (hyl : y.length = m) (hdx : Dig x) (hdy : Dig y) (hn : n ≤ 10000) (hm : m ≤ 10000)
    (ox : Own w B (.slice (some ⟨gx, 0, none⟩) n cx) x) (oy : Own w B (.slice (some ⟨gy, 0, none⟩) m cy) y) :
    Calls Tryd.prog 58 #[.slice (some ⟨gx, 0, none⟩) n cx, .slice (some ⟨gy, 0, none⟩) m cy] w fun r w' => ∃ g c, r = .returned (.slice (some ⟨g, 0, none⟩) (n + m) c) ∧ Own w' w.heap.size (.slice (some ⟨g, 0, none⟩) (n + m) c) (prodL x y) ∧ Below w.heap.size w w' := by
  obtain ⟨i0, hi, hz0, hz1, hz2⟩ := info_parts info5
  obtain ⟨w1, hmk, hown0, hgr⟩ := run_make_full (P := Tryd.prog) w w.heap.size 49 5 i0 (.int .u8 0) 1 Tryd.underlying49 hi hz0 hz1 .i64 .i64 (n + m) (by rw [hz2]; omega) (by unfold maxLen; omega) (Nat.le_refl _)
  have hb1 : Below w.heap.size w w1 := Below.grown (Below.refl _ _) hgr (Nat.le_refl _) (fun j hj => by cases hj)
  have hown1 := made_own hown0
  have hmk2 : (Instr.makeSlice 49 (.int .i64 ((n : Int) + (m : Int))) (.int .i64 ((n : Int) + (m : Int)))).run Tryd.prog w = .ok (.slice (some ⟨w.heap.size, 0, none⟩) (n + m) (n + m)) w1 := hmk
  have hst := prT_start x y
  rw [hxl, hyl] at hst
  rw [← hst] at hown1
  have HX := Lib.hid ox
  have HY := Lib.hid oy
  have HDX := Lib.hid hdx
  have HDY := Lib.hid hdy
  have HXL := Lib.hid hxl
  have HYL := Lib.hid hyl
  have hBx : gx < w.heap.size := (ox.1.lt gx rfl).2
  have hBy : gy < w.heap.size := (oy.1.lt gy rfl).2
  clear hmk hown0 hgr ox oy hdx hdy hst hxl hyl
  go_enter Tryd.func58, Tryd.ntmps58
  go_wp2_with fail
  go_loopw [6] (fun i' wr => ∃ (k : Nat), k ≤ n ∧ i' = .int .i64 ((k : Int) - 1) ∧ Own wr w.heap.size (.slice (some ⟨w.heap.size, 0, none⟩) (n + m) (n + m)) (prT x y k) ∧ Below w.heap.size w wr) (fun i' _ => (intOf i' + 1).toNat)
  case atStart => exact ⟨n, Nat.le_refl _, rfl, hown1, hb1⟩
  case round =>
    obtain ⟨k, hk, rfl, hown, hbw⟩ := hrel
    clear hown1 hb1 hmk2
    cases k with
    | zero =>
      rw [prT, List.drop_zero, List.replicate_zero, List.nil_append] at hown
      have HO := Lib.hid hown
      clear hown
      go_wp2
      go_ret
      exact ⟨_, _, rfl, HO.out, hbw⟩
    | succ k =>
      rw [show (((k + 1 : Nat) : Int) - 1) = (k : Int) by omega]
      have hkx : k < x.length := by rw [HXL.out]; omega
      have hcx := ((HX.out.below hbw).at (List.getElem?_eq_getElem hkx)).1
      have hx9 : (x[k]).toNat ≤ 9 := HDX.out _ (List.getElem_mem hkx)
      obtain ⟨P1, P2, P3⟩ := prodL_val (x.drop (k + 1)) y (HDX.out.drop _) HDY.out
      have hTk : prT x y k = List.replicate k 0 ++ (UInt8.ofNat (mulRow (x[k]).toNat y ((prodL (x.drop (k + 1)) y).take y.length)).1 :: ((mulRow (x[k]).toNat y ((prodL (x.drop (k + 1)) y).take y.length)).2 ++ (prodL (x.drop (k + 1)) y).drop y.length)) := by
        rw [prT, List.drop_eq_getElem_cons hkx, prodL]
      have hTk1 : prT x y (k + 1) = List.replicate (k + 1) 0 ++ prodL (x.drop (k + 1)) y := rfl
      obtain ⟨p, hp⟩ : ∃ p, p = prodL (x.drop (k + 1)) y := ⟨_, rfl⟩
      obtain ⟨a, ha⟩ : ∃ a, a = (x[k]).toNat := ⟨_, rfl⟩
      rw [← ha] at hcx hx9 hTk
      have HA := Lib.hid ha
      rw [← hp] at P1 P2 hTk hTk1
      have hpl : p.length = n - (k + 1) + m := by rw [P1, List.length_drop, HXL.out, HYL.out]
      have hpy : y.length ≤ p.length := by rw [hpl, HYL.out]; omega
      rw [hTk1, ← prM_start k a p y, HYL.out] at hown
      have HTK := Lib.hid hTk
      have HPD := Lib.hid P2
      have HPY := Lib.hid hpy
      have HPL := Lib.hid hpl
      have hkn : (k : Int) < (n : Int) := by omega
      have hk0 : (0 : Int) ≤ (k : Int) := by omega
      clear P1 P2 P3 hTk hTk1 ha hp hpy hpl
      go_wp2_with fail
      go_loopw [7, 8] (fun c' j' w5 => ∃ (q : Nat), q ≤ m ∧ j' = .int .i64 ((q : Int) - 1) ∧ c' = .int .i64 (((mulRow a (y.drop q) ((p.take y.length).drop q)).1 : Nat) : Int) ∧ Own w5 w.heap.size (.slice (some ⟨w.heap.size, 0, none⟩) (n + m) (n + m)) (prM k a p y q) ∧ Below w.heap.size w w5) (fun _ j' _ => (intOf j' + 1).toNat)
      case atStart =>
        refine ⟨m, Nat.le_refl _, rfl, ?_, hown, hbw⟩
        rw [List.drop_eq_nil_of_le (by rw [HYL.out]; omega), mulRow_nil]; rfl
      case round =>
        obtain ⟨q, hq, rfl, rfl, hown2, hbw2⟩ := hrel
        clear hown hbw
        cases q with
        | zero =>
          have hc9 := mulRow_carry hx9 HDY.out HPD.out HPY.out 0
          rw [List.drop_zero, List.drop_zero] at hc9 ⊢
          have hst := hown2.stored k (UInt8.ofNat (mulRow a y (p.take y.length)).1)
          rw [prM_end, ← HTK.out] at hst
          have hl0 := prM_len (k := k) hx9 HDY.out HPD.out (q := 0) (by omega) HPY.out
          obtain ⟨hcell, hfz⟩ := hown2.at (k := k) (x := (prM k a p y 0)[k]'(by omega)) (List.getElem?_eq_getElem _)
          obtain ⟨z0, hz0'⟩ : ∃ z0, z0 = (((prM k a p y 0)[k]'(by omega)).toNat : Int) := ⟨_, rfl⟩
          rw [← hz0'] at hcell
          obtain ⟨cc, hcc⟩ : ∃ cc, cc = (mulRow a y (p.take y.length)).1 := ⟨_, rfl⟩
          rw [← hcc] at hc9 hst ⊢
          rw [show ((UInt8.ofNat cc).toNat : Int) = (cc : Int) by rw [UInt8.toNat_ofNat']; omega] at hst
          have HST := Lib.hid hst
          have ew : IntKind.u8.wrap (cc : Int) = (cc : Int) := by rw [IntKind.wrap_u8]; omega
          have hkb : (k : Int) < (n : Int) + (m : Int) := by omega
          clear hst hown2 hcc hl0 hz0'
          go_wp2
          exact ⟨⟨k, by omega, rfl, HST.out.1, hbw2.trans HST.out.2⟩, by simp [intOf]⟩
        | succ q =>
          rw [show (((q + 1 : Nat) : Int) - 1) = (q : Int) by omega]
          have hqy : q < y.length := by rw [HYL.out]; omega
          have hqp : q < p.length := by have := HPY.out; omega
          obtain ⟨s1, s2⟩ := prM_step (k := k) (m := a) hqy HPY.out
          have hc9 := mulRow_carry hx9 HDY.out HPD.out HPY.out (q + 1)
          have hcy := ((HY.out.below hbw2).at (List.getElem?_eq_getElem hqy)).1
          have hcx2 := ((HX.out.below hbw2).at (List.getElem?_eq_getElem (show k < x.length by rw [HXL.out]; omega))).1
          have hy9 : (y[q]).toNat ≤ 9 := HDY.out _ (List.getElem_mem hqy)
          have hp9 : (p[q]).toNat ≤ 9 := HPD.out _ (List.getElem_mem hqp)
          obtain ⟨hcell, hfz⟩ := hown2.at (prM_get hqy HPY.out)
          rw [show k + 1 + q = k + q + 1 by omega] at hcell hfz s2
          rw [← HA.out] at hcx2
          obtain ⟨b, hb⟩ : ∃ b, b = (y[q]).toNat := ⟨_, rfl⟩
          obtain ⟨o, ho⟩ : ∃ o, o = (p[q]).toNat := ⟨_, rfl⟩
          obtain ⟨cc, hcc⟩ : ∃ cc, cc = (mulRow a (y.drop (q + 1)) ((p.take y.length).drop (q + 1))).1 := ⟨_, rfl⟩
          rw [← hb, ← ho, ← hcc] at s1 s2
          rw [← hb] at hcy hy9
          rw [← ho] at hcell hp9
          rw [← hcc] at hc9 ⊢
          have HS1 := Lib.hid s1
          have HS2 := Lib.hid s2
          have hab : a * b ≤ 81 := Nat.le_trans (Nat.mul_le_mul hx9 hy9) (by decide)
          obtain ⟨ab, hab2⟩ : ∃ ab, ab = a * b := ⟨_, rfl⟩
          have hmul : (a : Int) * (b : Int) = (ab : Int) := by rw [hab2]; rfl
          have hqm : (q : Int) < (m : Int) := by omega
          have hq0 : (0 : Int) ≤ (q : Int) := by omega
          have hiq : (k : Int) + q + 1 < (n : Int) + m := by omega
          rw [← hab2] at hab
          have HAB := Lib.hid hab2
          clear s1 s2 hb ho hcc hab2
          go_wp2_with fail
          go_quiet (fail)
          obtain ⟨W2, hWe⟩ : ∃ W2, W2 = wr.drewN nq := ⟨_, rfl⟩
          have hown3 : Own W2 w.heap.size (.slice (some ⟨w.heap.size, 0, none⟩) (n + m) (n + m)) (prM k a p y (q + 1)) := by rw [hWe]; exact hown2.below (below_drewN (Below.refl _ wr) nq)
          have hbw3 : Below w.heap.size w W2 := by rw [hWe]; exact below_drewN hbw2 nq
          rw [← hWe]
          obtain ⟨d, hd⟩ : ∃ d, d = o + ab + cc := ⟨_, rfl⟩
          have hd99 : d ≤ 99 := by omega
          have hdi : (o : Int) + ab + cc = (d : Int) := by omega
          have hst := hown3.stored (k + q + 1) (UInt8.ofNat (d % 10))
          rw [hd, HAB.out, HS2.out, ← HAB.out, ← hd, show ((UInt8.ofNat (d % 10)).toNat : Int) = (d : Int) % 10 by rw [UInt8.toNat_ofNat']; omega] at hst
          obtain ⟨hcell, hfz⟩ := hown3.at (prM_get (q := q) (by rw [HYL.out]; omega) HPY.out)
          rw [show k + 1 + q = k + q + 1 by omega] at hcell hfz
          obtain ⟨z0, hz0'⟩ : ∃ z0, z0 = ((p[q]'(by have := HPY.out; have := HYL.out; omega)).toNat : Int) := ⟨_, rfl⟩
          rw [← hz0'] at hcell
          have HST := Lib.hid hst
          have HC : Hid ((d : Int) / 10 = (((mulRow a (y.drop q) ((p.take y.length).drop q)).1 : Nat) : Int)) := by have := HS1.out; show _ = _; rw [this, ← HAB.out, ← hd]; rfl
          have ew : IntKind.u8.wrap ((d : Int) % 10) = (d : Int) % 10 := by rw [IntKind.wrap_u8]; omega
          rw [hdi]
          clear hst hown2 hown3 hWe hbw2 hz0' hd hdi hcx hcy hcx2 hx9 hy9 hp9 HS1 HS2 hmul HAB hab hc9
          go_wp2
          exact ⟨⟨q, by omega, rfl, by rw [HC.out], HST.out.1, hbw3.trans HST.out.2⟩, by simp [intOf]⟩
end Go.Proofs.YtkdjdoncmihkfaaDoor
