/- The document's Floor. -/
import Derived.Test.YtkdjdoncmihkfaaDoorFe
namespace Go.Proofs.YtkdjdoncmihkfaaDoor
open Go.RowKit

theorem take_val {l : List UInt8} (h : Dig l) {k : Nat} (hk : k ≤ l.length) : valN (l.take (l.length - k)) = valN l / 10 ^ k := by
  have hs : l = l.take (l.length - k) ++ l.drop (l.length - k) := (List.take_append_drop _ _).symm
  have hd : (l.drop (l.length - k)).length = k := by rw [List.length_drop]; omega
  have hlt := (h.drop (l.length - k)).lt
  rw [hd] at hlt
  have hv : valN l = valN (l.take (l.length - k)) * 10 ^ k + valN (l.drop (l.length - k)) := by
    conv => lhs; rw [hs]
    rw [valN_append, hd]
  rw [hv, Nat.mul_comm, Nat.mul_add_div (pow_pos10 k), Nat.div_eq_of_lt hlt, Nat.add_zero]
set_option maxHeartbeats 2000000 in
theorem rzero_yes (m e : Int) (hr : rightB m e = true) (w : World) : Calls Tryd.prog 62 #[numV m e] w fun r w' => r = .returned (numV m e) ∧ Below w.heap.size w w' := by
  have R1 : Hid (∀ w1, Calls Tryd.prog 18 #[.agg #[.int .i64 m, .int .i64 e]] w1 fun r w' => r = .returned (.bool true) ∧ Below w1.heap.size w1 w') := by
    intro w1; have := rright_any m e w1; rw [hr] at this; exact this
  clear hr
  unfold numV
  go_enter Tryd.func62, Tryd.ntmps62
  go_wp2_with fail
  refine (R1.out _).mono ?_
  rintro e w1 ⟨rfl, hb1⟩
  have hT0 := Duo.new w m e 0 0
  have hB0 := below2 w (.cells #[.int .i64 m, .int .i64 e] 24) (.cells #[.int .i64 0, .int .i64 0] 24)
  obtain ⟨hT1, hZ1⟩ := hT0.below hb1 (by simp)
  have hW1 := hB0.trans (hb1.mono hB0.size)
  clear hT0 hB0 hb1
  obtain ⟨⟨p0, p1, p2, p3⟩, p4, p5, p6, p7⟩ := hT1
  go_wp2
  refine bodyPost_ret (v := numV m e) (by simp [numV, results, Tryd.results62, go_sem, p4, p5]) rfl ⟨rfl, ?_⟩
  first | exact hW1 | exact slot_set2 hW1 (by omega) _ _

set_option maxHeartbeats 2000000 in
theorem rzero_no (m e : Int) (hr : rightB m e = false) (w : World) : Calls Tryd.prog 62 #[numV m e] w fun r w' => r = .returned (numV 0 0) ∧ Below w.heap.size w w' := by
  have R1 : Hid (∀ w1, Calls Tryd.prog 18 #[.agg #[.int .i64 m, .int .i64 e]] w1 fun r w' => r = .returned (.bool false) ∧ Below w1.heap.size w1 w') := by
    intro w1; have := rright_any m e w1; rw [hr] at this; exact this
  clear hr
  unfold numV
  go_enter Tryd.func62, Tryd.ntmps62
  go_wp2_with fail
  refine (R1.out _).mono ?_
  rintro e w1 ⟨rfl, hb1⟩
  have hT0 := Duo.new w m e 0 0
  have hB0 := below2 w (.cells #[.int .i64 m, .int .i64 e] 24) (.cells #[.int .i64 0, .int .i64 0] 24)
  obtain ⟨hT1, hZ1⟩ := hT0.below hb1 (by simp)
  have hW1 := hB0.trans (hb1.mono hB0.size)
  clear hT0 hB0 hb1
  obtain ⟨⟨p0, p1, p2, p3⟩, p4, p5, p6, p7⟩ := hT1
  go_wp2
  refine bodyPost_ret (v := numV 0 0) (by simp [numV, results, Tryd.results62, go_sem, p4, p5]) rfl ⟨rfl, ?_⟩
  first | exact hW1 | exact slot_set2 hW1 (by omega) _ _

set_option maxHeartbeats 2000000 in
theorem rfloor_no (m e : Int) (hr : rightB m e = false) (w : World) : Calls Tryd.prog 38 #[numV m e] w fun r w' => r = .returned (numV 0 0) ∧ Below w.heap.size w w' := by
  have R1 : Hid (∀ w1, Calls Tryd.prog 18 #[.agg #[.int .i64 m, .int .i64 e]] w1 fun r w' => r = .returned (.bool false) ∧ Below w1.heap.size w1 w') := by
    intro w1; have := rright_any m e w1; rw [hr] at this; exact this
  have Z1 : Hid (∀ w1, Calls Tryd.prog 62 #[.agg #[.int .i64 m, .int .i64 e]] w1 fun r w' => r = .returned (numV 0 0) ∧ Below w1.heap.size w1 w') := fun w1 => rzero_no m e hr w1
  clear hr
  unfold numV
  unfold numV at Z1
  go_enter Tryd.func38, Tryd.ntmps38
  go_wp2_with fail
  refine (R1.out _).mono ?_
  rintro x w1 ⟨rfl, hb1⟩
  have hT0 := Duo.new w m e 0 0
  have hB0 := below2 w (.cells #[.int .i64 m, .int .i64 e] 24) (.cells #[.int .i64 0, .int .i64 0] 24)
  obtain ⟨hT1, hZ1⟩ := hT0.below hb1 (by simp)
  have hW1 := hB0.trans (hb1.mono hB0.size)
  clear hT0 hB0 hb1
  obtain ⟨⟨p0, p1, p2, p3⟩, p4, p5, p6, p7⟩ := id hT1
  go_wp2_with fail
  refine (Z1.out _).mono ?_
  rintro x w2 ⟨rfl, hb2⟩
  obtain ⟨hT2, hZ2⟩ := hT1.below hb2 hZ1
  have hW2 := hW1.trans (hb2.mono hW1.size)
  clear hT1 hb2 p0 p1 p2 p3 p4 p5 p6 p7 hW1
  obtain ⟨⟨p0, p1, p2, p3⟩, p4, p5, p6, p7⟩ := id hT2
  go_wp2
  refine bodyPost_ret (v := numV 0 0) (by simp [numV, results, Tryd.results38, go_sem, p4, p5]) rfl ⟨rfl, ?_⟩
  exact slot_set2 hW2 (by omega) _ _

set_option maxHeartbeats 2000000 in
theorem rfloor_hi (m e : Int) (hr : rightB m e = true) (he : 0 ≤ e) (w : World) : Calls Tryd.prog 38 #[numV m e] w fun r w' => r = .returned (numV m e) ∧ Below w.heap.size w w' := by
  have R1 : Hid (∀ w1, Calls Tryd.prog 18 #[.agg #[.int .i64 m, .int .i64 e]] w1 fun r w' => r = .returned (.bool true) ∧ Below w1.heap.size w1 w') := by
    intro w1; have := rright_any m e w1; rw [hr] at this; exact this
  have Z1 : Hid (∀ w1, Calls Tryd.prog 62 #[.agg #[.int .i64 m, .int .i64 e]] w1 fun r w' => r = .returned (numV m e) ∧ Below w1.heap.size w1 w') := fun w1 => rzero_yes m e hr w1
  clear hr
  unfold numV
  unfold numV at Z1
  go_enter Tryd.func38, Tryd.ntmps38
  go_wp2_with fail
  refine (R1.out _).mono ?_
  rintro x w1 ⟨rfl, hb1⟩
  have hT0 := Duo.new w m e 0 0
  have hB0 := below2 w (.cells #[.int .i64 m, .int .i64 e] 24) (.cells #[.int .i64 0, .int .i64 0] 24)
  obtain ⟨hT1, hZ1⟩ := hT0.below hb1 (by simp)
  have hW1 := hB0.trans (hb1.mono hB0.size)
  clear hT0 hB0 hb1
  obtain ⟨⟨p0, p1, p2, p3⟩, p4, p5, p6, p7⟩ := id hT1
  go_wp2_with fail
  refine (Z1.out _).mono ?_
  rintro x w2 ⟨rfl, hb2⟩
  obtain ⟨hT2, hZ2⟩ := hT1.below hb2 hZ1
  have hW2 := hW1.trans (hb2.mono hW1.size)
  clear hT1 hb2 p0 p1 p2 p3 p4 p5 p6 p7 hW1
  obtain ⟨⟨p0, p1, p2, p3⟩, p4, p5, p6, p7⟩ := id hT2
  go_wp2
  refine bodyPost_ret (v := numV m e) (by simp [numV, results, Tryd.results38, go_sem, p4, p5]) rfl ⟨rfl, ?_⟩
  exact slot_set2 hW2 (by omega) _ _

/-- what the walk holds: besides the number's, the result's and the exact value's cells those of the whole one -/
structure Kg (w' : World) (H : Nat) (m e : Int) (B : Nat) (ng : Bool) (v u0 u1 u2 : Value) : Prop where
  kv : Kv w' H m e B ng v
  c0 : w'.cell? ⟨B + 1, 0, none⟩ = some u0
  c1 : w'.cell? ⟨B + 1, 1, none⟩ = some u1
  c2 : w'.cell? ⟨B + 1, 2, none⟩ = some u2
  f0 : w'.frozen? ⟨B + 1, 0, none⟩ = false
  f1 : w'.frozen? ⟨B + 1, 1, none⟩ = false
  f2 : w'.frozen? ⟨B + 1, 2, none⟩ = false
  lt2 : B + 1 < w'.heap.size
theorem Kg.below {w1 w2 : World} {H : Nat} {m e : Int} {B : Nat} {ng : Bool} {v u0 u1 u2 : Value} {C : Nat} (h : Kg w1 H m e B ng v u0 u1 u2) (hb : Below C w1 w2) (hC : B + 1 < C) : Kg w2 H m e B ng v u0 u1 u2 :=
  ⟨h.kv.below hb (by omega), (hb.cell (p := ⟨B + 1, 0, none⟩) hC).trans h.c0, (hb.cell (p := ⟨B + 1, 1, none⟩) hC).trans h.c1, (hb.cell (p := ⟨B + 1, 2, none⟩) hC).trans h.c2, (hb.frozen (p := ⟨B + 1, 0, none⟩) hC).trans h.f0, (hb.frozen (p := ⟨B + 1, 1, none⟩) hC).trans h.f1, (hb.frozen (p := ⟨B + 1, 2, none⟩) hC).trans h.f2, Nat.lt_of_lt_of_le h.lt2 hb.size⟩
theorem Kg.new {w1 : World} {H : Nat} {m e : Int} {B : Nat} {ng : Bool} {v : Value} (h : Kv w1 H m e B ng v) (hB : w1.heap.size = B + 1) (u0 u1 u2 : Value) : Kg (w1.alloc (.cells #[u0, u1, u2] 45)) H m e B ng v u0 u1 u2 := by
  refine ⟨h.below (alloc_below w1 _) h.lt, ?_, ?_, ?_, ?_, ?_, ?_, by simp [hB]⟩
  all_goals (rw [← hB]; simp)
theorem Kg.put1 {w1 : World} {H : Nat} {m e : Int} {B : Nat} {ng : Bool} {v u0 u1 u2 : Value} (h : Kg w1 H m e B ng v u0 u1 u2) (y : Value) : Kg (w1.setCell ⟨B + 1, 1, none⟩ y) H m e B ng v u0 y u2 := by
  have hb : Below (B + 1) w1 (w1.setCell ⟨B + 1, 1, none⟩ y) := (Below.refl _ _).setCell (p := ⟨B + 1, 1, none⟩) (Nat.le_refl _) _
  refine ⟨h.kv.below hb (Nat.lt_succ_self _), ?_, ?_, ?_, ?_, ?_, ?_, Nat.lt_of_lt_of_le h.lt2 hb.size⟩
  · rw [World.cell?_setCell_other _ _ _ _ (by simp)]; exact h.c0
  · exact World.cell?_setCell_same' _ _ _ (is_got h.c1)
  · rw [World.cell?_setCell_other _ _ _ _ (by simp)]; exact h.c2
  · rw [World.frozen?_setCell]; exact h.f0
  · rw [World.frozen?_setCell]; exact h.f1
  · rw [World.frozen?_setCell]; exact h.f2
theorem Kg.put3 {w1 : World} {H : Nat} {m e : Int} {B : Nat} {ng : Bool} {v u0 u1 u2 : Value} (h : Kg w1 H m e B ng v u0 u1 u2) (y0 y1 y2 : Value) : Kg (((w1.setCell ⟨B + 1, 0, none⟩ y0).setCell ⟨B + 1, 1, none⟩ y1).setCell ⟨B + 1, 2, none⟩ y2) H m e B ng v y0 y1 y2 := by
  have hb : Below (B + 1) w1 (((w1.setCell ⟨B + 1, 0, none⟩ y0).setCell ⟨B + 1, 1, none⟩ y1).setCell ⟨B + 1, 2, none⟩ y2) := (((Below.refl _ _).setCell (p := ⟨B + 1, 0, none⟩) (Nat.le_refl _) _).setCell (p := ⟨B + 1, 1, none⟩) (Nat.le_refl _) _).setCell (p := ⟨B + 1, 2, none⟩) (Nat.le_refl _) _
  refine ⟨h.kv.below hb (Nat.lt_succ_self _), cell3_0 (is_got h.c0) y0 y1 y2, cell3_1 (is_got h.c1) y0 y1 y2, cell3_2 (is_got h.c2) y0 y1 y2, ?_, ?_, ?_, Nat.lt_of_lt_of_le h.lt2 hb.size⟩
  · simpa [World.frozen?_setCell] using h.f0
  · simpa [World.frozen?_setCell] using h.f1
  · simpa [World.frozen?_setCell] using h.f2
theorem plus_one (s : Bool) (ea eb : Int) (la lb : List UInt8) (hla : la.length ≤ 500) (hlb : lb.length ≤ 500) (h1 : -200 ≤ ea) (h2 : ea ≤ 200) (h3 : -200 ≤ eb) (h4 : eb ≤ 200) (dla : Dig la) (dlb : Dig lb) (m : Int) (hm : m = min ea eb) :
    ∃ L : List UInt8, L.length ≤ 1001 ∧ Dig L ∧ valN L = valN la * 10 ^ (ea - m).toNat + valN lb * 10 ^ (eb - m).toNat ∧ ∀ va vb w, Vd w va la → Vd w vb lb → Calls Tryd.prog 44 #[.agg #[.bool s, va, .int .i64 ea], .agg #[.bool s, vb, .int .i64 eb]] w fun e w' => ∃ g c, e = .returned (.agg #[.bool s, .slice (some ⟨g, 0, none⟩) L.length c, .int .i64 m]) ∧ OwnD w' w.heap.size (.slice (some ⟨g, 0, none⟩) L.length c) L ∧ Below w.heap.size w w' := by
  obtain ⟨n, hn⟩ : ∃ n, n = max (la ++ List.replicate (ea - m).toNat 0).length (lb ++ List.replicate (eb - m).toNat 0).length := ⟨_, rfl⟩
  obtain ⟨x, hx⟩ : ∃ x, x = padL n (la ++ List.replicate (ea - m).toNat 0) := ⟨_, rfl⟩
  obtain ⟨y, hy⟩ : ∃ y, y = padL n (lb ++ List.replicate (eb - m).toNat 0) := ⟨_, rfl⟩
  have hxl : x.length = n := by rw [hx]; exact padL_len (by omega)
  have hyl : y.length = n := by rw [hy]; exact padL_len (by omega)
  have hn5 : n ≤ 1000 := by rw [hn]; simp; omega
  have hdx : Dig x := by rw [hx]; exact padL_dig _ (wide_dig _ dla)
  have hdy : Dig y := by rw [hy]; exact padL_dig _ (wide_dig _ dlb)
  have vx : valN x = valN la * 10 ^ (ea - m).toNat := by rw [hx, padL_val, wide_val]
  have vy : valN y = valN lb * 10 ^ (eb - m).toNat := by rw [hy, padL_val, wide_val]
  obtain ⟨v1, d1, l1⟩ := sumL_val (show x.length = y.length by omega) hdx hdy
  refine ⟨sumL x y, by omega, d1, by rw [v1, vx, vy], fun va vb w hva hvb => ?_⟩
  rw [show (sumL x y).length = n + 1 by omega]
  exact plus_same s va vb ea eb la lb w hva hvb hla hlb h1 h2 h3 h4 dla dlb m hm x y n hn hx hy
theorem lit1 (w : World) : Vd (w.alloc (.cells #[.int .i64 1] 3)) (.slice (some ⟨w.heap.size, 0, none⟩) 1 1) [1] := by
  refine .inr ⟨_, 0, 1, rfl, by simp, by omega, by simp, fun j x hx => ?_⟩
  cases j with
  | zero => simp at hx; subst hx; simp
  | succ j => simp at hx
set_option maxRecDepth 1000000 in
set_option maxHeartbeats 8000000 in
theorem rfloor_cut_neg (m e : Int) (hr : rightB m e = true) (D : List UInt8) (hD : D = digs m) (k n kk : Nat) (hk : e = -(k : Int)) (hk0 : 0 < k) (hl : D.length = n) (hlk : n = kk + k ∧ 0 < kk) (hm : m < 0) (K : List UInt8) (hK : K = D.take kk) (M E : Int) (ok : Bool) (hM : roundN true (m.natAbs / 10 ^ k + 1) 0 = (M, E, ok)) (w : World) :
    Calls Tryd.prog 38 #[numV m e] w fun r w' => r = .returned (numV M E) ∧ Below w.heap.size w w' := by
  have hkk0 : 0 < kk := hlk.2
  have hnk := hlk.1
  have R1 : Hid (∀ w1, Calls Tryd.prog 18 #[.agg #[.int .i64 m, .int .i64 e]] w1 fun r w' => r = .returned (.bool true) ∧ Below w1.heap.size w1 w') := by
    intro w1; have := rright_any m e w1; rw [hr] at this; exact this
  obtain ⟨ba, bb1, bb2⟩ := right_bounds hr
  have OF1 : Hid (∀ w1, Calls Tryd.prog 45 #[.agg #[.int .i64 m, .int .i64 e]] w1 fun r w' => ∃ v, r = .returned (.agg #[.bool true, v, .int .i64 e]) ∧ Vd w' v D ∧ Below w1.heap.size w1 w') := by
    intro w1
    have := of_any m e (by omega) (by omega) w1
    rw [show decide (m < 0) = true by simpa using hm] at this
    rw [hD]; exact this
  obtain ⟨a1, a2, a3⟩ := digs_val m
  rw [← hD] at a1 a2 a3
  have hn15 : n ≤ 21 := by rw [← hl, hD]; exact digs_length m (by omega) (by omega)
  have hn0 : 0 < n := by
    rw [← hl, hD, digs_len]
    cases hz : nd m.natAbs with
    | zero => have h9 := lt_pow_nd m.natAbs; rw [hz] at h9; have := right_nz m e hr (by omega); omega
    | succ k => omega
  have hKd : Dig K := by rw [hK]; exact a2.take _
  have hKl : K.length = kk := by rw [hK, List.length_take]; omega
  have hKv : valN K = m.natAbs / 10 ^ k := by
    rw [hK, show kk = D.length - k by omega, take_val a2 (by omega), a1]
  obtain ⟨L, hL1, hL2, hL3, PL0⟩ := plus_one true 0 0 K [1] (by omega) (by decide) (by omega) (by omega) (by omega) (by omega) hKd (Dig.mk (by decide) (fun _ h => by simp at h)) 0 rfl
  have hLv : valN L = m.natAbs / 10 ^ k + 1 := by
    rw [hL3, hKv]
    simp [valN]
  obtain ⟨nl, hnl⟩ : ∃ nl, nl = L.length := ⟨_, rfl⟩
  have PL : Hid (∀ va vb w1, Vd w1 va K → Vd w1 vb [1] → Calls Tryd.prog 44 #[.agg #[.bool true, va, .int .i64 0], .agg #[.bool true, vb, .int .i64 0]] w1 fun e w' => ∃ g cc, e = .returned (.agg #[.bool true, .slice (some ⟨g, 0, none⟩) nl cc, .int .i64 0]) ∧ OwnD w' w1.heap.size (.slice (some ⟨g, 0, none⟩) nl cc) L ∧ Below w1.heap.size w1 w') := by rw [hnl]; exact PL0
  have NR : Hid (∀ (B g cc : Nat) (w1 : World), OwnD w1 B (.slice (some ⟨g, 0, none⟩) nl cc) L → Calls Tryd.prog 49 #[.agg #[.bool true, .slice (some ⟨g, 0, none⟩) nl cc, .int .i64 0], .bool false] w1 fun e w' => e = .returned (.tuple #[.agg #[.int .i64 M, .int .i64 E], .bool ok]) ∧ Below w1.heap.size w1 w') := fun B g cc w1 h => by
    obtain ⟨g', c', hv, hb, hlc, hcm2, hrd⟩ := h.rd
    simp only [Value.slice.injEq, Option.some.injEq, Addr.mk.injEq, and_true] at hv
    obtain ⟨rfl, hv2, rfl⟩ := hv
    have := near_any true (some ⟨g, 0, none⟩) L cc 0 false w1 hrd hlc hcm2 (by omega) hL2 (by omega) (by omega)
    rw [near_roundN _ _ _ (by omega) (by omega), hLv, hM] at this
    rw [hv2]; exact this
  clear PL0 hL1 hL2 hL3 hLv hnl
  have hwn : IntKind.i64.wrap ((n : Int) + e) = (n : Int) + e := by rw [IntKind.wrap_i64]; omega
  have hwn2 : (0 : Int) < (n : Int) + e := by omega
  have hneg : e < 0 := by omega
  have hneg2 : ¬ 0 ≤ e := by omega
  have hK1 : ∀ j x, K[j]? = some x → D[j]? = some x := fun j x hx => by
    rw [hK, List.getElem?_take] at hx
    split at hx
    · exact hx
    · simp at hx
  have hkn : kk ≤ n := by omega
  have hsum : (n : Int) + e = (kk : Int) := by omega
  have HKL := Lib.hid hKl
  have HK1 := Lib.hid hK1
  have HDL := Lib.hid hl
  have hz0 : ¬ n = 0 := by omega
  clear hr hD a1 a2 a3 hM hKv hl hK hKl hK1 hm hlk hnk hKd hk
  unfold numV
  go_enter Tryd.func38, Tryd.ntmps38
  go_wp2_with fail
  refine (R1.out _).mono ?_
  rintro x w1 ⟨rfl, hb1⟩
  have hT0 := Duo.new w m e 0 0
  have hB0 := below2 w (.cells #[.int .i64 m, .int .i64 e] 24) (.cells #[.int .i64 0, .int .i64 0] 24)
  obtain ⟨hT1, hZ1⟩ := hT0.below hb1 (by simp)
  have hW1 := hB0.trans (hb1.mono hB0.size)
  clear hT0 hB0 hb1
  obtain ⟨⟨p0, p1, p2, p3⟩, p4, p5, p6, p7⟩ := id hT1
  go_wp2_with fail
  refine (OF1.out _).mono ?_
  rintro x w2 ⟨v2, rfl, hV2, hb2⟩
  obtain ⟨hT2, hZ2⟩ := hT1.below hb2 hZ1
  have hW2 := hW1.trans (hb2.mono hW1.size)
  rcases hV2 with ⟨rfl, hnn⟩ | ⟨b, off, c, rfl, q1, q2, q3, q4⟩
  · have := HDL.out; rw [hnn] at this; simp at this; omega
  rw [HDL.out] at q1 ⊢
  have KV := Kv.new hT2 hZ2 true (.slice (some ⟨b, off, none⟩) n c)
  have al := alloc_below w2 (.cells #[.bool true, .slice (some ⟨b, off, none⟩) n c, .int .i64 e] 45)
  have KG := Kg.new KV (by simp) (.bool true) (.slice none 0 0) (.int .i64 0)
  have al2 := alloc_below (w2.alloc (.cells #[.bool true, .slice (some ⟨b, off, none⟩) n c, .int .i64 e] 45)) (.cells #[.bool true, .slice none 0 0, .int .i64 0] 45)
  have hW3 := (hW2.trans (al.mono hW2.size)).trans (al2.mono (Nat.le_trans hW2.size al.size))
  have hBw : w.heap.size + 2 ≤ w2.heap.size := hZ2
  have al3 : Below w2.heap.size w2 ((w2.alloc (.cells #[.bool true, .slice (some ⟨b, off, none⟩) n c, .int .i64 e] 45)).alloc (.cells #[.bool true, .slice none 0 0, .int .i64 0] 45)) := al.trans (al2.mono al.size)
  have q5 : ∀ j x, K[j]? = some x → ((w2.alloc (.cells #[.bool true, .slice (some ⟨b, off, none⟩) n c, .int .i64 e] 45)).alloc (.cells #[.bool true, .slice none 0 0, .int .i64 0] 45)).cell? ⟨b, off + j, none⟩ = some (.int .i64 (x.toNat : Int)) := fun j x hx => (al3.cell (p := ⟨b, off + j, none⟩) q3).trans (q4 j x (HK1.out j x hx))
  have Q5 := Lib.hid q5
  have hT2k := hT2
  have hZ2k := hZ2
  have alK := al
  have hW3k := hW2.trans (al.mono hW2.size)
  have q4k : Hid (∀ j x, K[j]? = some x → w2.cell? ⟨b, off + j, none⟩ = some (.int .i64 (x.toNat : Int))) := fun j x hx => q4 j x (HK1.out j x hx)
  clear hT1 hZ1 hW1 hb2 hT2 hZ2 hW2 p0 p1 p2 p3 p4 p5 p6 p7 al al2 OF1 R1 q4 q5 al3 KV
  obtain ⟨⟨⟨⟨p0, p1, p2, p3⟩, p4, p5, p6, p7⟩, v0, v1, v2, _, _⟩, c0, c1, c2, f0, f1, f2, _⟩ := id KG
  have KV := KG.kv
  clear KG
  have KVx := Kv.new hT2k hZ2k true (.slice (some ⟨b, off, none⟩) n c)
  have KG := Kg.new KVx (by simp) (.bool true) (.slice (some ⟨b, off, none⟩) kk c) (.int .i64 0)
  have q6 : ∀ j x, K[j]? = some x → ((w2.alloc (.cells #[.bool true, .slice (some ⟨b, off, none⟩) n c, .int .i64 e] 45)).alloc (.cells #[.bool true, .slice (some ⟨b, off, none⟩) kk c, .int .i64 0] 45)).cell? ⟨b, off + j, none⟩ = some (.int .i64 (x.toNat : Int)) := fun j x hx => (Below.cell (alK.trans ((alloc_below (w2.alloc (.cells #[.bool true, .slice (some ⟨b, off, none⟩) n c, .int .i64 e] 45)) (.cells #[.bool true, .slice (some ⟨b, off, none⟩) kk c, .int .i64 0] 45)).mono alK.size)) (p := ⟨b, off + j, none⟩) q3).trans (q4k.out j x hx)
  have hW4 := hW3k.trans ((alloc_below (w2.alloc (.cells #[.bool true, .slice (some ⟨b, off, none⟩) n c, .int .i64 e] 45)) (.cells #[.bool true, .slice (some ⟨b, off, none⟩) kk c, .int .i64 0] 45)).mono hW3k.size)
  have hb9 : b < ((w2.alloc (.cells #[.bool true, .slice (some ⟨b, off, none⟩) n c, .int .i64 e] 45)).alloc (.cells #[.bool true, .slice (some ⟨b, off, none⟩) kk c, .int .i64 0] 45)).heap.size := by simp; omega
  have Q6 := Lib.hid q6
  clear q6 KV KVx hT2k hZ2k q4k alK hW3k Q5
  have hs2 : ((w2.alloc (.cells #[.bool true, .slice (some ⟨b, off, none⟩) n c, .int .i64 e] 45)).alloc (.cells #[.bool true, .slice (some ⟨b, off, none⟩) kk c, .int .i64 0] 45)).heap.size = w2.heap.size + 1 + 1 := by simp
  have KG5 := KG.below (alloc_below ((w2.alloc (.cells #[.bool true, .slice (some ⟨b, off, none⟩) n c, .int .i64 e] 45)).alloc (.cells #[.bool true, .slice (some ⟨b, off, none⟩) kk c, .int .i64 0] 45)) (.cells #[.int .i64 1] 3)) KG.lt2
  have hW5 := hW4.trans ((alloc_below ((w2.alloc (.cells #[.bool true, .slice (some ⟨b, off, none⟩) n c, .int .i64 e] 45)).alloc (.cells #[.bool true, .slice (some ⟨b, off, none⟩) kk c, .int .i64 0] 45)) (.cells #[.int .i64 1] 3)).mono hW4.size)
  have hv1 := lit1 ((w2.alloc (.cells #[.bool true, .slice (some ⟨b, off, none⟩) n c, .int .i64 e] 45)).alloc (.cells #[.bool true, .slice (some ⟨b, off, none⟩) kk c, .int .i64 0] 45))
  rw [hs2] at hv1
  have hvK : Vd ((w2.alloc (.cells #[.bool true, .slice (some ⟨b, off, none⟩) n c, .int .i64 e] 45)).alloc (.cells #[.bool true, .slice (some ⟨b, off, none⟩) kk c, .int .i64 0] 45)) (.slice (some ⟨b, off, none⟩) kk c) K := .inr ⟨b, off, c, by rw [HKL.out], by rw [HKL.out]; omega, by omega, hb9, Q6.out⟩
  have hvK5 := hvK.below (alloc_below ((w2.alloc (.cells #[.bool true, .slice (some ⟨b, off, none⟩) n c, .int .i64 e] 45)).alloc (.cells #[.bool true, .slice (some ⟨b, off, none⟩) kk c, .int .i64 0] 45)) (.cells #[.int .i64 1] 3))
  have HP := Lib.hid (PL.out _ _ _ hvK5 hv1)
  clear PL hvK hvK5 hv1 Q6
  go_wp2_with fail
  refine HP.out.mono ?_
  rintro x w5 ⟨g5, cc5, rfl, o5, hb5⟩
  have hz5 : w2.heap.size + 1 < (((w2.alloc (.cells #[.bool true, .slice (some ⟨b, off, none⟩) n c, .int .i64 e] 45)).alloc (.cells #[.bool true, .slice (some ⟨b, off, none⟩) kk c, .int .i64 0] 45)).alloc (.cells #[.int .i64 1] 3)).heap.size := by simp
  have KG6 := KG5.below hb5 KG5.lt2
  have KG7 := KG6.put3 (.bool true) (.slice (some ⟨g5, 0, none⟩) nl cc5) (.int .i64 0)
  have hW6 := hW5.trans (hb5.mono hW5.size)
  have o6 : OwnD (((w5.setCell ⟨w2.heap.size + 1, 0, none⟩ (.bool true)).setCell ⟨w2.heap.size + 1, 1, none⟩ (.slice (some ⟨g5, 0, none⟩) nl cc5)).setCell ⟨w2.heap.size + 1, 2, none⟩ (.int .i64 0)) _ (.slice (some ⟨g5, 0, none⟩) nl cc5) L := ⟨ownsRow_setCell_below (ownsRow_setCell_below (ownsRow_setCell_below o5.1 hz5 _) hz5 _) hz5 _, o5.2⟩
  have hW7 := ((hW6.setCell (p := ⟨w2.heap.size + 1, 0, none⟩) (show w.heap.size ≤ w2.heap.size + 1 by omega) (.bool true)).setCell (p := ⟨w2.heap.size + 1, 1, none⟩) (show w.heap.size ≤ w2.heap.size + 1 by omega) (.slice (some ⟨g5, 0, none⟩) nl cc5)).setCell (p := ⟨w2.heap.size + 1, 2, none⟩) (show w.heap.size ≤ w2.heap.size + 1 by omega) (.int .i64 0)
  have HN := Lib.hid (NR.out _ _ _ _ o6)
  clear hz5 KG5 hW5 hW6 o5 o6 hb5 HP NR KG p0 p1 p2 p3 p4 p5 p6 p7 v0 v1 v2 c0 c1 c2 f0 f1 f2 hW4 hW3
  obtain ⟨⟨⟨⟨p0, p1, p2, p3⟩, p4, p5, p6, p7⟩, v0, v1, v2, _, _⟩, c0, c1, c2, f0, f1, f2, _⟩ := id KG6
  obtain ⟨⟨⟨⟨s0, s1, s2, s3⟩, s4, s5, s6, s7⟩, t0, t1, t2, _, _⟩, u0, u1, u2, x0, x1, x2, _⟩ := id KG7
  go_wp2_with fail
  refine HN.out.mono ?_
  rintro x w7 ⟨rfl, hb7⟩
  have KG8 := KG7.below hb7 KG7.lt2
  clear p0 p1 p2 p3 p4 p5 p6 p7 v0 v1 v2 c0 c1 c2 f0 f1 f2 s0 s1 s2 s3 s4 s5 s6 s7 t0 t1 t2 u0 u1 u2 x0 x1 x2 KG6 KG7 HN
  have hb8 := alloc_below w7 (.cells #[.int .i64 M, .int .i64 E] 24)
  have KG9 := KG8.below hb8 KG8.lt2
  have hWW := (hW7.trans (hb7.mono hW7.size)).trans (hb8.mono (Nat.le_trans hW7.size hb7.size))
  obtain ⟨n0, n1, n2, n3⟩ := Slot.new w7 M E
  clear hb7 hb8 KG8 hW7 hsum hwn hkn hneg hneg2 hz0
  obtain ⟨⟨⟨⟨p0, p1, p2, p3⟩, p4, p5, p6, p7⟩, v0, v1, v2, _, _⟩, c0, c1, c2, f0, f1, f2, _⟩ := id KG9
  go_wp2
  refine bodyPost_ret (v := .agg #[.int .i64 M, .int .i64 E]) (by simp [results, Tryd.results38, go_sem, p4, p5]) rfl ⟨rfl, ?_⟩
  exact slot_set2 hWW (by omega) _ _

set_option maxRecDepth 1000000 in
set_option maxHeartbeats 8000000 in
theorem rfloor_cut_pos (m e : Int) (hr : rightB m e = true) (D : List UInt8) (hD : D = digs m) (k n kk : Nat) (hk : e = -(k : Int)) (hk0 : 0 < k) (hl : D.length = n) (hlk : n = kk + k ∧ 0 < kk) (hm : ¬ m < 0) (K : List UInt8) (hK : K = D.take kk) (M E : Int) (ok : Bool) (hM : roundN false (m.natAbs / 10 ^ k) 0 = (M, E, ok)) (w : World) :
    Calls Tryd.prog 38 #[numV m e] w fun r w' => r = .returned (numV M E) ∧ Below w.heap.size w w' := by
  have hkk0 : 0 < kk := hlk.2
  have hnk := hlk.1
  have R1 : Hid (∀ w1, Calls Tryd.prog 18 #[.agg #[.int .i64 m, .int .i64 e]] w1 fun r w' => r = .returned (.bool true) ∧ Below w1.heap.size w1 w') := by
    intro w1; have := rright_any m e w1; rw [hr] at this; exact this
  obtain ⟨ba, bb1, bb2⟩ := right_bounds hr
  have OF1 : Hid (∀ w1, Calls Tryd.prog 45 #[.agg #[.int .i64 m, .int .i64 e]] w1 fun r w' => ∃ v, r = .returned (.agg #[.bool false, v, .int .i64 e]) ∧ Vd w' v D ∧ Below w1.heap.size w1 w') := by
    intro w1
    have := of_any m e (by omega) (by omega) w1
    rw [show decide (m < 0) = false by simpa using hm] at this
    rw [hD]; exact this
  obtain ⟨a1, a2, a3⟩ := digs_val m
  rw [← hD] at a1 a2 a3
  have hn15 : n ≤ 21 := by rw [← hl, hD]; exact digs_length m (by omega) (by omega)
  have hn0 : 0 < n := by
    rw [← hl, hD, digs_len]
    cases hz : nd m.natAbs with
    | zero => have h9 := lt_pow_nd m.natAbs; rw [hz] at h9; have := right_nz m e hr (by omega); omega
    | succ k => omega
  have hKd : Dig K := by rw [hK]; exact a2.take _
  have hKl : K.length = kk := by rw [hK, List.length_take]; omega
  have hKv : valN K = m.natAbs / 10 ^ k := by
    rw [hK, show kk = D.length - k by omega, take_val a2 (by omega), a1]
  have NR : Hid (∀ (A : Option Addr) (cc : Nat) (w1 : World), RdD w1 A K → K.length ≤ cc → cc ≤ 9223372036854775807 → Calls Tryd.prog 49 #[.agg #[.bool false, .slice A kk cc, .int .i64 0], .bool false] w1 fun e w' => e = .returned (.tuple #[.agg #[.int .i64 M, .int .i64 E], .bool ok]) ∧ Below w1.heap.size w1 w') := fun A cc w1 r1 r2 r3 => by
    have := near_any false A K cc 0 false w1 r1 r2 r3 (by omega) hKd (by omega) (by omega)
    rw [near_roundN _ _ _ (by omega) (by omega), hKv, hM, hKl] at this
    exact this
  have hwn : IntKind.i64.wrap ((n : Int) + e) = (n : Int) + e := by rw [IntKind.wrap_i64]; omega
  have hwn2 : (0 : Int) < (n : Int) + e := by omega
  have hneg : e < 0 := by omega
  have hneg2 : ¬ 0 ≤ e := by omega
  have hK1 : ∀ j x, K[j]? = some x → D[j]? = some x := fun j x hx => by
    rw [hK, List.getElem?_take] at hx
    split at hx
    · exact hx
    · simp at hx
  have hkn : kk ≤ n := by omega
  have hsum : (n : Int) + e = (kk : Int) := by omega
  have HKL := Lib.hid hKl
  have HK1 := Lib.hid hK1
  have HDL := Lib.hid hl
  have hz0 : ¬ n = 0 := by omega
  clear hr hD a1 a2 a3 hM hKv hl hK hKl hK1 hm hlk hnk hKd hk
  unfold numV
  go_enter Tryd.func38, Tryd.ntmps38
  go_wp2_with fail
  refine (R1.out _).mono ?_
  rintro x w1 ⟨rfl, hb1⟩
  have hT0 := Duo.new w m e 0 0
  have hB0 := below2 w (.cells #[.int .i64 m, .int .i64 e] 24) (.cells #[.int .i64 0, .int .i64 0] 24)
  obtain ⟨hT1, hZ1⟩ := hT0.below hb1 (by simp)
  have hW1 := hB0.trans (hb1.mono hB0.size)
  clear hT0 hB0 hb1
  obtain ⟨⟨p0, p1, p2, p3⟩, p4, p5, p6, p7⟩ := id hT1
  go_wp2_with fail
  refine (OF1.out _).mono ?_
  rintro x w2 ⟨v2, rfl, hV2, hb2⟩
  obtain ⟨hT2, hZ2⟩ := hT1.below hb2 hZ1
  have hW2 := hW1.trans (hb2.mono hW1.size)
  rcases hV2 with ⟨rfl, hnn⟩ | ⟨b, off, c, rfl, q1, q2, q3, q4⟩
  · have := HDL.out; rw [hnn] at this; simp at this; omega
  rw [HDL.out] at q1 ⊢
  have KV := Kv.new hT2 hZ2 false (.slice (some ⟨b, off, none⟩) n c)
  have al := alloc_below w2 (.cells #[.bool false, .slice (some ⟨b, off, none⟩) n c, .int .i64 e] 45)
  have KG := Kg.new KV (by simp) (.bool false) (.slice none 0 0) (.int .i64 0)
  have al2 := alloc_below (w2.alloc (.cells #[.bool false, .slice (some ⟨b, off, none⟩) n c, .int .i64 e] 45)) (.cells #[.bool false, .slice none 0 0, .int .i64 0] 45)
  have hW3 := (hW2.trans (al.mono hW2.size)).trans (al2.mono (Nat.le_trans hW2.size al.size))
  have hBw : w.heap.size + 2 ≤ w2.heap.size := hZ2
  have al3 : Below w2.heap.size w2 ((w2.alloc (.cells #[.bool false, .slice (some ⟨b, off, none⟩) n c, .int .i64 e] 45)).alloc (.cells #[.bool false, .slice none 0 0, .int .i64 0] 45)) := al.trans (al2.mono al.size)
  have q5 : ∀ j x, K[j]? = some x → ((w2.alloc (.cells #[.bool false, .slice (some ⟨b, off, none⟩) n c, .int .i64 e] 45)).alloc (.cells #[.bool false, .slice none 0 0, .int .i64 0] 45)).cell? ⟨b, off + j, none⟩ = some (.int .i64 (x.toNat : Int)) := fun j x hx => (al3.cell (p := ⟨b, off + j, none⟩) q3).trans (q4 j x (HK1.out j x hx))
  have Q5 := Lib.hid q5
  have hT2k := hT2
  have hZ2k := hZ2
  have alK := al
  have hW3k := hW2.trans (al.mono hW2.size)
  have q4k : Hid (∀ j x, K[j]? = some x → w2.cell? ⟨b, off + j, none⟩ = some (.int .i64 (x.toNat : Int))) := fun j x hx => q4 j x (HK1.out j x hx)
  clear hT1 hZ1 hW1 hb2 hT2 hZ2 hW2 p0 p1 p2 p3 p4 p5 p6 p7 al al2 OF1 R1 q4 q5 al3 KV
  obtain ⟨⟨⟨⟨p0, p1, p2, p3⟩, p4, p5, p6, p7⟩, v0, v1, v2, _, _⟩, c0, c1, c2, f0, f1, f2, _⟩ := id KG
  have KV := KG.kv
  clear KG
  have KVx := Kv.new hT2k hZ2k false (.slice (some ⟨b, off, none⟩) n c)
  have KG := Kg.new KVx (by simp) (.bool false) (.slice (some ⟨b, off, none⟩) kk c) (.int .i64 0)
  have q6 : ∀ j x, K[j]? = some x → ((w2.alloc (.cells #[.bool false, .slice (some ⟨b, off, none⟩) n c, .int .i64 e] 45)).alloc (.cells #[.bool false, .slice (some ⟨b, off, none⟩) kk c, .int .i64 0] 45)).cell? ⟨b, off + j, none⟩ = some (.int .i64 (x.toNat : Int)) := fun j x hx => (Below.cell (alK.trans ((alloc_below (w2.alloc (.cells #[.bool false, .slice (some ⟨b, off, none⟩) n c, .int .i64 e] 45)) (.cells #[.bool false, .slice (some ⟨b, off, none⟩) kk c, .int .i64 0] 45)).mono alK.size)) (p := ⟨b, off + j, none⟩) q3).trans (q4k.out j x hx)
  have hW4 := hW3k.trans ((alloc_below (w2.alloc (.cells #[.bool false, .slice (some ⟨b, off, none⟩) n c, .int .i64 e] 45)) (.cells #[.bool false, .slice (some ⟨b, off, none⟩) kk c, .int .i64 0] 45)).mono hW3k.size)
  have hb9 : b < ((w2.alloc (.cells #[.bool false, .slice (some ⟨b, off, none⟩) n c, .int .i64 e] 45)).alloc (.cells #[.bool false, .slice (some ⟨b, off, none⟩) kk c, .int .i64 0] 45)).heap.size := by simp; omega
  have Q6 := Lib.hid q6
  clear q6 KV KVx hT2k hZ2k q4k alK hW3k Q5
  have hvK : RdD ((w2.alloc (.cells #[.bool false, .slice (some ⟨b, off, none⟩) n c, .int .i64 e] 45)).alloc (.cells #[.bool false, .slice (some ⟨b, off, none⟩) kk c, .int .i64 0] 45)) (some ⟨b, off, none⟩) K := fun _ => ⟨b, off, rfl, hb9, Q6.out⟩
  have HN := Lib.hid (NR.out (some ⟨b, off, none⟩) c _ hvK (by rw [HKL.out]; omega) (by omega))
  have hW7 := hW4
  have KG7 := KG
  clear NR hvK Q6 hW4
  go_wp2_with fail
  refine HN.out.mono ?_
  rintro x w7 ⟨rfl, hb7⟩
  have KG8 := KG7.below hb7 KG7.lt2
  clear p0 p1 p2 p3 p4 p5 p6 p7 v0 v1 v2 c0 c1 c2 f0 f1 f2 KG7 HN
  have hb8 := alloc_below w7 (.cells #[.int .i64 M, .int .i64 E] 24)
  have KG9 := KG8.below hb8 KG8.lt2
  have hWW := (hW7.trans (hb7.mono hW7.size)).trans (hb8.mono (Nat.le_trans hW7.size hb7.size))
  obtain ⟨n0, n1, n2, n3⟩ := Slot.new w7 M E
  clear hb7 hb8 KG8 hW7 hsum hwn hkn hneg hneg2 hz0
  obtain ⟨⟨⟨⟨p0, p1, p2, p3⟩, p4, p5, p6, p7⟩, v0, v1, v2, _, _⟩, c0, c1, c2, f0, f1, f2, _⟩ := id KG9
  go_wp2
  refine bodyPost_ret (v := .agg #[.int .i64 M, .int .i64 E]) (by simp [results, Tryd.results38, go_sem, p4, p5]) rfl ⟨rfl, ?_⟩
  exact slot_set2 hWW (by omega) _ _

set_option maxRecDepth 1000000 in
set_option maxHeartbeats 8000000 in
theorem rfloor_low_neg (m e : Int) (hr : rightB m e = true) (D : List UInt8) (hD : D = digs m) (k n : Nat) (hk : e = -(k : Int)) (hk0 : 0 < k) (hl : D.length = n) (hlk : n ≤ k) (hm : m < 0) (K : List UInt8) (hK : K = D.take 0) (M E : Int) (ok : Bool) (hM : roundN true (m.natAbs / 10 ^ k + 1) 0 = (M, E, ok)) (w : World) :
    Calls Tryd.prog 38 #[numV m e] w fun r w' => r = .returned (numV M E) ∧ Below w.heap.size w w' := by
  have hnk := hlk
  have R1 : Hid (∀ w1, Calls Tryd.prog 18 #[.agg #[.int .i64 m, .int .i64 e]] w1 fun r w' => r = .returned (.bool true) ∧ Below w1.heap.size w1 w') := by
    intro w1; have := rright_any m e w1; rw [hr] at this; exact this
  obtain ⟨ba, bb1, bb2⟩ := right_bounds hr
  have OF1 : Hid (∀ w1, Calls Tryd.prog 45 #[.agg #[.int .i64 m, .int .i64 e]] w1 fun r w' => ∃ v, r = .returned (.agg #[.bool true, v, .int .i64 e]) ∧ Vd w' v D ∧ Below w1.heap.size w1 w') := by
    intro w1
    have := of_any m e (by omega) (by omega) w1
    rw [show decide (m < 0) = true by simpa using hm] at this
    rw [hD]; exact this
  obtain ⟨a1, a2, a3⟩ := digs_val m
  rw [← hD] at a1 a2 a3
  have hn15 : n ≤ 21 := by rw [← hl, hD]; exact digs_length m (by omega) (by omega)
  have hn0 : 0 < n := by
    rw [← hl, hD, digs_len]
    cases hz : nd m.natAbs with
    | zero => have h9 := lt_pow_nd m.natAbs; rw [hz] at h9; have := right_nz m e hr (by omega); omega
    | succ k => omega
  have hKd : Dig K := by rw [hK]; exact a2.take _
  have hKl : K.length = 0 := by rw [hK, List.length_take]; omega
  have hKv : valN K = m.natAbs / 10 ^ k := by
    have hlt := lt_pow_nd m.natAbs
    have hp := pow_le10 (show nd m.natAbs ≤ k by rw [← digs_len, ← hD, hl]; exact hnk)
    rw [hK, Nat.div_eq_of_lt (by omega)]; rfl
  obtain ⟨L, hL1, hL2, hL3, PL0⟩ := plus_one true 0 0 K [1] (by omega) (by decide) (by omega) (by omega) (by omega) (by omega) hKd (Dig.mk (by decide) (fun _ h => by simp at h)) 0 rfl
  have hLv : valN L = m.natAbs / 10 ^ k + 1 := by
    rw [hL3, hKv]
    simp [valN]
  obtain ⟨nl, hnl⟩ : ∃ nl, nl = L.length := ⟨_, rfl⟩
  have PL : Hid (∀ va vb w1, Vd w1 va K → Vd w1 vb [1] → Calls Tryd.prog 44 #[.agg #[.bool true, va, .int .i64 0], .agg #[.bool true, vb, .int .i64 0]] w1 fun e w' => ∃ g cc, e = .returned (.agg #[.bool true, .slice (some ⟨g, 0, none⟩) nl cc, .int .i64 0]) ∧ OwnD w' w1.heap.size (.slice (some ⟨g, 0, none⟩) nl cc) L ∧ Below w1.heap.size w1 w') := by rw [hnl]; exact PL0
  have NR : Hid (∀ (B g cc : Nat) (w1 : World), OwnD w1 B (.slice (some ⟨g, 0, none⟩) nl cc) L → Calls Tryd.prog 49 #[.agg #[.bool true, .slice (some ⟨g, 0, none⟩) nl cc, .int .i64 0], .bool false] w1 fun e w' => e = .returned (.tuple #[.agg #[.int .i64 M, .int .i64 E], .bool ok]) ∧ Below w1.heap.size w1 w') := fun B g cc w1 h => by
    obtain ⟨g', c', hv, hb, hlc, hcm2, hrd⟩ := h.rd
    simp only [Value.slice.injEq, Option.some.injEq, Addr.mk.injEq, and_true] at hv
    obtain ⟨rfl, hv2, rfl⟩ := hv
    have := near_any true (some ⟨g, 0, none⟩) L cc 0 false w1 hrd hlc hcm2 (by omega) hL2 (by omega) (by omega)
    rw [near_roundN _ _ _ (by omega) (by omega), hLv, hM] at this
    rw [hv2]; exact this
  clear PL0 hL1 hL2 hL3 hLv hnl
  have hwn : IntKind.i64.wrap ((n : Int) + e) = (n : Int) + e := by rw [IntKind.wrap_i64]; omega
  have hwn2 : ¬ (0 : Int) < (n : Int) + e := by omega
  have hneg : e < 0 := by omega
  have hneg2 : ¬ 0 ≤ e := by omega
  have hK1 : ∀ j x, K[j]? = some x → D[j]? = some x := fun j x hx => by
    rw [hK, List.getElem?_take] at hx
    split at hx
    · exact hx
    · simp at hx
  have hkn : 0 ≤ n := by omega
  have hsum : (n : Int) + e = -((k - n : Nat) : Int) := by omega
  have HKL := Lib.hid hKl
  have HK1 := Lib.hid hK1
  have HDL := Lib.hid hl
  have hz0 : ¬ n = 0 := by omega
  clear hr hD a1 a2 a3 hM hKv hl hK hKl hK1 hm hlk hnk hKd hk
  unfold numV
  go_enter Tryd.func38, Tryd.ntmps38
  go_wp2_with fail
  refine (R1.out _).mono ?_
  rintro x w1 ⟨rfl, hb1⟩
  have hT0 := Duo.new w m e 0 0
  have hB0 := below2 w (.cells #[.int .i64 m, .int .i64 e] 24) (.cells #[.int .i64 0, .int .i64 0] 24)
  obtain ⟨hT1, hZ1⟩ := hT0.below hb1 (by simp)
  have hW1 := hB0.trans (hb1.mono hB0.size)
  clear hT0 hB0 hb1
  obtain ⟨⟨p0, p1, p2, p3⟩, p4, p5, p6, p7⟩ := id hT1
  go_wp2_with fail
  refine (OF1.out _).mono ?_
  rintro x w2 ⟨v2, rfl, hV2, hb2⟩
  obtain ⟨hT2, hZ2⟩ := hT1.below hb2 hZ1
  have hW2 := hW1.trans (hb2.mono hW1.size)
  rcases hV2 with ⟨rfl, hnn⟩ | ⟨b, off, c, rfl, q1, q2, q3, q4⟩
  · have := HDL.out; rw [hnn] at this; simp at this; omega
  rw [HDL.out] at q1 ⊢
  have KV := Kv.new hT2 hZ2 true (.slice (some ⟨b, off, none⟩) n c)
  have al := alloc_below w2 (.cells #[.bool true, .slice (some ⟨b, off, none⟩) n c, .int .i64 e] 45)
  have KG := Kg.new KV (by simp) (.bool true) (.slice none 0 0) (.int .i64 0)
  have al2 := alloc_below (w2.alloc (.cells #[.bool true, .slice (some ⟨b, off, none⟩) n c, .int .i64 e] 45)) (.cells #[.bool true, .slice none 0 0, .int .i64 0] 45)
  have hW3 := (hW2.trans (al.mono hW2.size)).trans (al2.mono (Nat.le_trans hW2.size al.size))
  have hBw : w.heap.size + 2 ≤ w2.heap.size := hZ2
  have al3 : Below w2.heap.size w2 ((w2.alloc (.cells #[.bool true, .slice (some ⟨b, off, none⟩) n c, .int .i64 e] 45)).alloc (.cells #[.bool true, .slice none 0 0, .int .i64 0] 45)) := al.trans (al2.mono al.size)
  have q5 : ∀ j x, K[j]? = some x → ((w2.alloc (.cells #[.bool true, .slice (some ⟨b, off, none⟩) n c, .int .i64 e] 45)).alloc (.cells #[.bool true, .slice none 0 0, .int .i64 0] 45)).cell? ⟨b, off + j, none⟩ = some (.int .i64 (x.toNat : Int)) := fun j x hx => (al3.cell (p := ⟨b, off + j, none⟩) q3).trans (q4 j x (HK1.out j x hx))
  have Q5 := Lib.hid q5
  have hT2k := hT2
  have hZ2k := hZ2
  have alK := al
  have hW3k := hW2.trans (al.mono hW2.size)
  have q4k : Hid (∀ j x, K[j]? = some x → w2.cell? ⟨b, off + j, none⟩ = some (.int .i64 (x.toNat : Int))) := fun j x hx => q4 j x (HK1.out j x hx)
  clear hT1 hZ1 hW1 hb2 hT2 hZ2 hW2 p0 p1 p2 p3 p4 p5 p6 p7 al al2 OF1 R1 q4 q5 al3 KV
  obtain ⟨⟨⟨⟨p0, p1, p2, p3⟩, p4, p5, p6, p7⟩, v0, v1, v2, _, _⟩, c0, c1, c2, f0, f1, f2, _⟩ := id KG
  have KV := KG.kv
  clear KG
  have KVx := Kv.new hT2k hZ2k true (.slice (some ⟨b, off, none⟩) n c)
  have KG := Kg.new KVx (by simp) (.bool true) (.slice none 0 0) (.int .i64 0)
  have q6 : ∀ j x, K[j]? = some x → ((w2.alloc (.cells #[.bool true, .slice (some ⟨b, off, none⟩) n c, .int .i64 e] 45)).alloc (.cells #[.bool true, .slice none 0 0, .int .i64 0] 45)).cell? ⟨b, off + j, none⟩ = some (.int .i64 (x.toNat : Int)) := fun j x hx => (Below.cell (alK.trans ((alloc_below (w2.alloc (.cells #[.bool true, .slice (some ⟨b, off, none⟩) n c, .int .i64 e] 45)) (.cells #[.bool true, .slice none 0 0, .int .i64 0] 45)).mono alK.size)) (p := ⟨b, off + j, none⟩) q3).trans (q4k.out j x hx)
  have hW4 := hW3k.trans ((alloc_below (w2.alloc (.cells #[.bool true, .slice (some ⟨b, off, none⟩) n c, .int .i64 e] 45)) (.cells #[.bool true, .slice none 0 0, .int .i64 0] 45)).mono hW3k.size)
  have hb9 : b < ((w2.alloc (.cells #[.bool true, .slice (some ⟨b, off, none⟩) n c, .int .i64 e] 45)).alloc (.cells #[.bool true, .slice none 0 0, .int .i64 0] 45)).heap.size := by simp; omega
  have Q6 := Lib.hid q6
  clear q6 KV KVx hT2k hZ2k q4k alK hW3k Q5
  have hs2 : ((w2.alloc (.cells #[.bool true, .slice (some ⟨b, off, none⟩) n c, .int .i64 e] 45)).alloc (.cells #[.bool true, .slice none 0 0, .int .i64 0] 45)).heap.size = w2.heap.size + 1 + 1 := by simp
  have KG5 := KG.below (alloc_below ((w2.alloc (.cells #[.bool true, .slice (some ⟨b, off, none⟩) n c, .int .i64 e] 45)).alloc (.cells #[.bool true, .slice none 0 0, .int .i64 0] 45)) (.cells #[.int .i64 1] 3)) KG.lt2
  have hW5 := hW4.trans ((alloc_below ((w2.alloc (.cells #[.bool true, .slice (some ⟨b, off, none⟩) n c, .int .i64 e] 45)).alloc (.cells #[.bool true, .slice none 0 0, .int .i64 0] 45)) (.cells #[.int .i64 1] 3)).mono hW4.size)
  have hv1 := lit1 ((w2.alloc (.cells #[.bool true, .slice (some ⟨b, off, none⟩) n c, .int .i64 e] 45)).alloc (.cells #[.bool true, .slice none 0 0, .int .i64 0] 45))
  rw [hs2] at hv1
  have hvK : Vd ((w2.alloc (.cells #[.bool true, .slice (some ⟨b, off, none⟩) n c, .int .i64 e] 45)).alloc (.cells #[.bool true, .slice none 0 0, .int .i64 0] 45)) (.slice none 0 0) K := .inl ⟨rfl, List.eq_nil_of_length_eq_zero HKL.out⟩
  have hvK5 := hvK.below (alloc_below ((w2.alloc (.cells #[.bool true, .slice (some ⟨b, off, none⟩) n c, .int .i64 e] 45)).alloc (.cells #[.bool true, .slice none 0 0, .int .i64 0] 45)) (.cells #[.int .i64 1] 3))
  have HP := Lib.hid (PL.out _ _ _ hvK5 hv1)
  clear PL hvK hvK5 hv1 Q6
  go_wp2_with fail
  refine HP.out.mono ?_
  rintro x w5 ⟨g5, cc5, rfl, o5, hb5⟩
  have hz5 : w2.heap.size + 1 < (((w2.alloc (.cells #[.bool true, .slice (some ⟨b, off, none⟩) n c, .int .i64 e] 45)).alloc (.cells #[.bool true, .slice none 0 0, .int .i64 0] 45)).alloc (.cells #[.int .i64 1] 3)).heap.size := by simp
  have KG6 := KG5.below hb5 KG5.lt2
  have KG7 := KG6.put3 (.bool true) (.slice (some ⟨g5, 0, none⟩) nl cc5) (.int .i64 0)
  have hW6 := hW5.trans (hb5.mono hW5.size)
  have o6 : OwnD (((w5.setCell ⟨w2.heap.size + 1, 0, none⟩ (.bool true)).setCell ⟨w2.heap.size + 1, 1, none⟩ (.slice (some ⟨g5, 0, none⟩) nl cc5)).setCell ⟨w2.heap.size + 1, 2, none⟩ (.int .i64 0)) _ (.slice (some ⟨g5, 0, none⟩) nl cc5) L := ⟨ownsRow_setCell_below (ownsRow_setCell_below (ownsRow_setCell_below o5.1 hz5 _) hz5 _) hz5 _, o5.2⟩
  have hW7 := ((hW6.setCell (p := ⟨w2.heap.size + 1, 0, none⟩) (show w.heap.size ≤ w2.heap.size + 1 by omega) (.bool true)).setCell (p := ⟨w2.heap.size + 1, 1, none⟩) (show w.heap.size ≤ w2.heap.size + 1 by omega) (.slice (some ⟨g5, 0, none⟩) nl cc5)).setCell (p := ⟨w2.heap.size + 1, 2, none⟩) (show w.heap.size ≤ w2.heap.size + 1 by omega) (.int .i64 0)
  have HN := Lib.hid (NR.out _ _ _ _ o6)
  clear hz5 KG5 hW5 hW6 o5 o6 hb5 HP NR KG p0 p1 p2 p3 p4 p5 p6 p7 v0 v1 v2 c0 c1 c2 f0 f1 f2 hW4 hW3
  obtain ⟨⟨⟨⟨p0, p1, p2, p3⟩, p4, p5, p6, p7⟩, v0, v1, v2, _, _⟩, c0, c1, c2, f0, f1, f2, _⟩ := id KG6
  obtain ⟨⟨⟨⟨s0, s1, s2, s3⟩, s4, s5, s6, s7⟩, t0, t1, t2, _, _⟩, u0, u1, u2, x0, x1, x2, _⟩ := id KG7
  go_wp2_with fail
  refine HN.out.mono ?_
  rintro x w7 ⟨rfl, hb7⟩
  have KG8 := KG7.below hb7 KG7.lt2
  clear p0 p1 p2 p3 p4 p5 p6 p7 v0 v1 v2 c0 c1 c2 f0 f1 f2 s0 s1 s2 s3 s4 s5 s6 s7 t0 t1 t2 u0 u1 u2 x0 x1 x2 KG6 KG7 HN
  have hb8 := alloc_below w7 (.cells #[.int .i64 M, .int .i64 E] 24)
  have KG9 := KG8.below hb8 KG8.lt2
  have hWW := (hW7.trans (hb7.mono hW7.size)).trans (hb8.mono (Nat.le_trans hW7.size hb7.size))
  obtain ⟨n0, n1, n2, n3⟩ := Slot.new w7 M E
  clear hb7 hb8 KG8 hW7 hsum hwn hkn hneg hneg2 hz0
  obtain ⟨⟨⟨⟨p0, p1, p2, p3⟩, p4, p5, p6, p7⟩, v0, v1, v2, _, _⟩, c0, c1, c2, f0, f1, f2, _⟩ := id KG9
  go_wp2
  refine bodyPost_ret (v := .agg #[.int .i64 M, .int .i64 E]) (by simp [results, Tryd.results38, go_sem, p4, p5]) rfl ⟨rfl, ?_⟩
  exact slot_set2 hWW (by omega) _ _

set_option maxRecDepth 1000000 in
set_option maxHeartbeats 8000000 in
theorem rfloor_low_pos (m e : Int) (hr : rightB m e = true) (D : List UInt8) (hD : D = digs m) (k n : Nat) (hk : e = -(k : Int)) (hk0 : 0 < k) (hl : D.length = n) (hlk : n ≤ k) (hm : ¬ m < 0) (K : List UInt8) (hK : K = D.take 0) (M E : Int) (ok : Bool) (hM : roundN false (m.natAbs / 10 ^ k) 0 = (M, E, ok)) (w : World) :
    Calls Tryd.prog 38 #[numV m e] w fun r w' => r = .returned (numV M E) ∧ Below w.heap.size w w' := by
  have hnk := hlk
  have R1 : Hid (∀ w1, Calls Tryd.prog 18 #[.agg #[.int .i64 m, .int .i64 e]] w1 fun r w' => r = .returned (.bool true) ∧ Below w1.heap.size w1 w') := by
    intro w1; have := rright_any m e w1; rw [hr] at this; exact this
  obtain ⟨ba, bb1, bb2⟩ := right_bounds hr
  have OF1 : Hid (∀ w1, Calls Tryd.prog 45 #[.agg #[.int .i64 m, .int .i64 e]] w1 fun r w' => ∃ v, r = .returned (.agg #[.bool false, v, .int .i64 e]) ∧ Vd w' v D ∧ Below w1.heap.size w1 w') := by
    intro w1
    have := of_any m e (by omega) (by omega) w1
    rw [show decide (m < 0) = false by simpa using hm] at this
    rw [hD]; exact this
  obtain ⟨a1, a2, a3⟩ := digs_val m
  rw [← hD] at a1 a2 a3
  have hn15 : n ≤ 21 := by rw [← hl, hD]; exact digs_length m (by omega) (by omega)
  have hn0 : 0 < n := by
    rw [← hl, hD, digs_len]
    cases hz : nd m.natAbs with
    | zero => have h9 := lt_pow_nd m.natAbs; rw [hz] at h9; have := right_nz m e hr (by omega); omega
    | succ k => omega
  have hKd : Dig K := by rw [hK]; exact a2.take _
  have hKl : K.length = 0 := by rw [hK, List.length_take]; omega
  have hKv : valN K = m.natAbs / 10 ^ k := by
    have hlt := lt_pow_nd m.natAbs
    have hp := pow_le10 (show nd m.natAbs ≤ k by rw [← digs_len, ← hD, hl]; exact hnk)
    rw [hK, Nat.div_eq_of_lt (by omega)]; rfl
  have NR : Hid (∀ (A : Option Addr) (cc : Nat) (w1 : World), RdD w1 A K → K.length ≤ cc → cc ≤ 9223372036854775807 → Calls Tryd.prog 49 #[.agg #[.bool false, .slice A 0 cc, .int .i64 0], .bool false] w1 fun e w' => e = .returned (.tuple #[.agg #[.int .i64 M, .int .i64 E], .bool ok]) ∧ Below w1.heap.size w1 w') := fun A cc w1 r1 r2 r3 => by
    have := near_any false A K cc 0 false w1 r1 r2 r3 (by omega) hKd (by omega) (by omega)
    rw [near_roundN _ _ _ (by omega) (by omega), hKv, hM, hKl] at this
    exact this
  have hwn : IntKind.i64.wrap ((n : Int) + e) = (n : Int) + e := by rw [IntKind.wrap_i64]; omega
  have hwn2 : ¬ (0 : Int) < (n : Int) + e := by omega
  have hneg : e < 0 := by omega
  have hneg2 : ¬ 0 ≤ e := by omega
  have hK1 : ∀ j x, K[j]? = some x → D[j]? = some x := fun j x hx => by
    rw [hK, List.getElem?_take] at hx
    split at hx
    · exact hx
    · simp at hx
  have hkn : 0 ≤ n := by omega
  have hsum : (n : Int) + e = -((k - n : Nat) : Int) := by omega
  have HKL := Lib.hid hKl
  have HK1 := Lib.hid hK1
  have HDL := Lib.hid hl
  have hz0 : ¬ n = 0 := by omega
  clear hr hD a1 a2 a3 hM hKv hl hK hKl hK1 hm hlk hnk hKd hk
  unfold numV
  go_enter Tryd.func38, Tryd.ntmps38
  go_wp2_with fail
  refine (R1.out _).mono ?_
  rintro x w1 ⟨rfl, hb1⟩
  have hT0 := Duo.new w m e 0 0
  have hB0 := below2 w (.cells #[.int .i64 m, .int .i64 e] 24) (.cells #[.int .i64 0, .int .i64 0] 24)
  obtain ⟨hT1, hZ1⟩ := hT0.below hb1 (by simp)
  have hW1 := hB0.trans (hb1.mono hB0.size)
  clear hT0 hB0 hb1
  obtain ⟨⟨p0, p1, p2, p3⟩, p4, p5, p6, p7⟩ := id hT1
  go_wp2_with fail
  refine (OF1.out _).mono ?_
  rintro x w2 ⟨v2, rfl, hV2, hb2⟩
  obtain ⟨hT2, hZ2⟩ := hT1.below hb2 hZ1
  have hW2 := hW1.trans (hb2.mono hW1.size)
  rcases hV2 with ⟨rfl, hnn⟩ | ⟨b, off, c, rfl, q1, q2, q3, q4⟩
  · have := HDL.out; rw [hnn] at this; simp at this; omega
  rw [HDL.out] at q1 ⊢
  have KV := Kv.new hT2 hZ2 false (.slice (some ⟨b, off, none⟩) n c)
  have al := alloc_below w2 (.cells #[.bool false, .slice (some ⟨b, off, none⟩) n c, .int .i64 e] 45)
  have KG := Kg.new KV (by simp) (.bool false) (.slice none 0 0) (.int .i64 0)
  have al2 := alloc_below (w2.alloc (.cells #[.bool false, .slice (some ⟨b, off, none⟩) n c, .int .i64 e] 45)) (.cells #[.bool false, .slice none 0 0, .int .i64 0] 45)
  have hW3 := (hW2.trans (al.mono hW2.size)).trans (al2.mono (Nat.le_trans hW2.size al.size))
  have hBw : w.heap.size + 2 ≤ w2.heap.size := hZ2
  have al3 : Below w2.heap.size w2 ((w2.alloc (.cells #[.bool false, .slice (some ⟨b, off, none⟩) n c, .int .i64 e] 45)).alloc (.cells #[.bool false, .slice none 0 0, .int .i64 0] 45)) := al.trans (al2.mono al.size)
  have q5 : ∀ j x, K[j]? = some x → ((w2.alloc (.cells #[.bool false, .slice (some ⟨b, off, none⟩) n c, .int .i64 e] 45)).alloc (.cells #[.bool false, .slice none 0 0, .int .i64 0] 45)).cell? ⟨b, off + j, none⟩ = some (.int .i64 (x.toNat : Int)) := fun j x hx => (al3.cell (p := ⟨b, off + j, none⟩) q3).trans (q4 j x (HK1.out j x hx))
  have Q5 := Lib.hid q5
  have hT2k := hT2
  have hZ2k := hZ2
  have alK := al
  have hW3k := hW2.trans (al.mono hW2.size)
  have q4k : Hid (∀ j x, K[j]? = some x → w2.cell? ⟨b, off + j, none⟩ = some (.int .i64 (x.toNat : Int))) := fun j x hx => q4 j x (HK1.out j x hx)
  clear hT1 hZ1 hW1 hb2 hT2 hZ2 hW2 p0 p1 p2 p3 p4 p5 p6 p7 al al2 OF1 R1 q4 q5 al3 KV
  obtain ⟨⟨⟨⟨p0, p1, p2, p3⟩, p4, p5, p6, p7⟩, v0, v1, v2, _, _⟩, c0, c1, c2, f0, f1, f2, _⟩ := id KG
  have KV := KG.kv
  clear KG
  have KVx := Kv.new hT2k hZ2k false (.slice (some ⟨b, off, none⟩) n c)
  have KG := Kg.new KVx (by simp) (.bool false) (.slice none 0 0) (.int .i64 0)
  have q6 : ∀ j x, K[j]? = some x → ((w2.alloc (.cells #[.bool false, .slice (some ⟨b, off, none⟩) n c, .int .i64 e] 45)).alloc (.cells #[.bool false, .slice none 0 0, .int .i64 0] 45)).cell? ⟨b, off + j, none⟩ = some (.int .i64 (x.toNat : Int)) := fun j x hx => (Below.cell (alK.trans ((alloc_below (w2.alloc (.cells #[.bool false, .slice (some ⟨b, off, none⟩) n c, .int .i64 e] 45)) (.cells #[.bool false, .slice none 0 0, .int .i64 0] 45)).mono alK.size)) (p := ⟨b, off + j, none⟩) q3).trans (q4k.out j x hx)
  have hW4 := hW3k.trans ((alloc_below (w2.alloc (.cells #[.bool false, .slice (some ⟨b, off, none⟩) n c, .int .i64 e] 45)) (.cells #[.bool false, .slice none 0 0, .int .i64 0] 45)).mono hW3k.size)
  have hb9 : b < ((w2.alloc (.cells #[.bool false, .slice (some ⟨b, off, none⟩) n c, .int .i64 e] 45)).alloc (.cells #[.bool false, .slice none 0 0, .int .i64 0] 45)).heap.size := by simp; omega
  have Q6 := Lib.hid q6
  clear q6 KV KVx hT2k hZ2k q4k alK hW3k Q5
  have hvK : RdD ((w2.alloc (.cells #[.bool false, .slice (some ⟨b, off, none⟩) n c, .int .i64 e] 45)).alloc (.cells #[.bool false, .slice none 0 0, .int .i64 0] 45)) none K := fun h => absurd h (by rw [HKL.out]; exact Nat.lt_irrefl 0)
  have HN := Lib.hid (NR.out none 0 _ hvK (by rw [HKL.out]; omega) (by omega))
  have hW7 := hW4
  have KG7 := KG
  clear NR hvK Q6 hW4
  go_wp2_with fail
  refine HN.out.mono ?_
  rintro x w7 ⟨rfl, hb7⟩
  have KG8 := KG7.below hb7 KG7.lt2
  clear p0 p1 p2 p3 p4 p5 p6 p7 v0 v1 v2 c0 c1 c2 f0 f1 f2 KG7 HN
  have hb8 := alloc_below w7 (.cells #[.int .i64 M, .int .i64 E] 24)
  have KG9 := KG8.below hb8 KG8.lt2
  have hWW := (hW7.trans (hb7.mono hW7.size)).trans (hb8.mono (Nat.le_trans hW7.size hb7.size))
  obtain ⟨n0, n1, n2, n3⟩ := Slot.new w7 M E
  clear hb7 hb8 KG8 hW7 hsum hwn hkn hneg hneg2 hz0
  obtain ⟨⟨⟨⟨p0, p1, p2, p3⟩, p4, p5, p6, p7⟩, v0, v1, v2, _, _⟩, c0, c1, c2, f0, f1, f2, _⟩ := id KG9
  go_wp2
  refine bodyPost_ret (v := .agg #[.int .i64 M, .int .i64 E]) (by simp [results, Tryd.results38, go_sem, p4, p5]) rfl ⟨rfl, ?_⟩
  exact slot_set2 hWW (by omega) _ _

/-- the document's Floor, of every number -/
theorem rfloor_any (m e : Int) (w : World) : Calls Tryd.prog 38 #[numV m e] w fun r w' => r = .returned (numV (floorP m e).1 (floorP m e).2) ∧ Below w.heap.size w w' := by
  unfold floorP
  cases hr : rightB m e
  · exact rfloor_no m e hr w
  rw [if_pos rfl]
  by_cases he : 0 ≤ e
  · rw [if_pos he]; exact rfloor_hi m e hr he w
  rw [if_neg he]
  obtain ⟨k, hk⟩ : ∃ k : Nat, e = -(k : Int) := ⟨(-e).toNat, by omega⟩
  have hk0 : 0 < k := by omega
  have hab : (m.tdiv ((10 ^ k : Nat) : Int)).natAbs = m.natAbs / 10 ^ k := Int.natAbs_tdiv m ((10 ^ k : Nat) : Int)
  have hwe : whole m e = m.tdiv ((10 ^ k : Nat) : Int) - (if m < 0 then 1 else 0) := by
    unfold whole; rw [hk, Int.neg_neg, Int.toNat_natCast]
  obtain ⟨n, hn⟩ : ∃ n, n = (digs m).length := ⟨_, rfl⟩
  by_cases hm : m < 0
  · have hw : (whole m e).natAbs = m.natAbs / 10 ^ k + 1 ∧ whole m e < 0 := by
      have := Int.tdiv_nonneg (show 0 ≤ -m by omega) (Int.natCast_nonneg (10 ^ k))
      rw [Int.neg_tdiv] at this
      rw [hwe, if_pos hm]
      omega
    rw [makeL_val, hw.1, show decide (whole m e < 0) = true by simpa using hw.2]
    by_cases hc : k < n
    · exact rfloor_cut_neg m e hr _ rfl k n (n - k) hk hk0 hn.symm ⟨by omega, by omega⟩ hm _ rfl _ _ _ rfl w
    · exact rfloor_low_neg m e hr _ rfl k n hk hk0 hn.symm (by omega) hm _ rfl _ _ _ rfl w
  · have hw : (whole m e).natAbs = m.natAbs / 10 ^ k ∧ ¬ whole m e < 0 := by
      have := Int.tdiv_nonneg (show 0 ≤ m by omega) (Int.natCast_nonneg (10 ^ k))
      rw [hwe, if_neg hm]
      omega
    rw [makeL_val, hw.1, show decide (whole m e < 0) = false by simpa using hw.2]
    by_cases hc : k < n
    · exact rfloor_cut_pos m e hr _ rfl k n (n - k) hk hk0 hn.symm ⟨by omega, by omega⟩ hm _ rfl _ _ _ rfl w
    · exact rfloor_low_pos m e hr _ rfl k n hk hk0 hn.symm (by omega) hm _ rfl _ _ _ rfl w
end Go.Proofs.YtkdjdoncmihkfaaDoor
