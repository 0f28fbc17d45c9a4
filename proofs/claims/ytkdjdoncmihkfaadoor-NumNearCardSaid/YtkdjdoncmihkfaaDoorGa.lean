/- What is rounded is near: the bound; Plus with its length. -/
import Derived.Test.YtkdjdoncmihkfaaDoorTd
namespace Go.Proofs.YtkdjdoncmihkfaaDoor
open Go.RowKit

theorem evenN_err (V k : Nat) : 2 * V ≤ 2 * (evenN V k * 10 ^ k) + 10 ^ k ∧ 2 * (evenN V k * 10 ^ k) ≤ 2 * V + 10 ^ k := by
  have hp := pow_pos10 k
  have hdm := Nat.div_add_mod V (10 ^ k)
  have hml := Nat.mod_lt V hp
  obtain ⟨P, hP⟩ : ∃ P, P = 10 ^ k := ⟨_, rfl⟩
  unfold evenN
  rw [← hP] at hp hdm hml ⊢
  obtain ⟨q, hq⟩ : ∃ q, q = V / P := ⟨_, rfl⟩
  obtain ⟨r, hr⟩ : ∃ r, r = V % P := ⟨_, rfl⟩
  rw [← hq, ← hr] at hdm ⊢
  rw [← hr] at hml
  have hqP : q * P = P * q := Nat.mul_comm _ _
  split
  · rw [Nat.add_mul, Nat.one_mul]; omega
  · omega
/-- a power of ten, of every exponent from -200 on -/
def T10 (x : Int) : Nat := 10 ^ (x + 200).toNat
theorem T10_add {x : Int} (k : Nat) (h : -200 ≤ x) : T10 (x + k) = 10 ^ k * T10 x := by
  unfold T10; rw [← Nat.pow_add]; congr 1; omega
theorem T10_sub {x y : Int} (h : -200 ≤ y) (hxy : y ≤ x) : T10 x = 10 ^ (x - y).toNat * T10 y := by
  have := T10_add (x := y) (x - y).toNat h
  rw [show y + (((x - y).toNat : Nat) : Int) = x by omega] at this
  exact this
theorem T10_pos (x : Int) : 0 < T10 x := pow_pos10 _
theorem end_T {s : Bool} {V : Nat} {x : Int} {m e : Int} (hx : -200 ≤ x) (h : endN s V x = (m, e, true)) : m.natAbs * T10 e = V * T10 x := by
  obtain ⟨t1, t2, t3⟩ := tz_eq V
  unfold endN at h
  by_cases h0 : (tz V).1 = 0
  · rw [if_pos h0] at h
    simp only [Prod.mk.injEq] at h
    obtain ⟨rfl, rfl, _⟩ := h
    rw [t2.1 h0]; simp
  · rw [if_neg h0] at h
    split at h
    · simp at h
    · simp only [Prod.mk.injEq] at h
      obtain ⟨h1, rfl, _⟩ := h
      have : m.natAbs = (tz V).1 := by rw [← h1]; split <;> omega
      rw [this, T10_add _ hx]
      conv => rhs; rw [t1]
      rw [Nat.mul_assoc]
theorem end_sign {s : Bool} {V : Nat} {x : Int} {m e : Int} (h : endN s V x = (m, e, true)) : m ≠ 0 → decide (m < 0) = s := by
  obtain ⟨t1, t2, t3⟩ := tz_eq V
  unfold endN at h
  by_cases h0 : (tz V).1 = 0
  · rw [if_pos h0] at h
    simp only [Prod.mk.injEq] at h
    intro hm; omega
  · rw [if_neg h0] at h
    split at h
    · simp at h
    · simp only [Prod.mk.injEq] at h
      obtain ⟨h1, _, _⟩ := h
      intro _
      cases s
      · simp at h1; simp; omega
      · simp at h1; simp; omega
theorem round_sign {s : Bool} {V : Nat} {x : Int} {m e : Int} (h : roundN s V x = (m, e, true)) : m ≠ 0 → decide (m < 0) = s := by
  unfold roundN at h
  split at h
  · simp only [Prod.mk.injEq] at h; intro hm; omega
  · split at h
    · simp at h
    · unfold mainN at h; exact end_sign h
/-- what is rounded is off by at most half of the 15th digit, and half of one more -/
theorem round_near {s : Bool} {V : Nat} {x : Int} {m e : Int} (h0 : -100 ≤ x) (h1 : x ≤ 1000) (h : roundN s V x = (m, e, true)) :
    2 * (V * T10 x) ≤ 2 * (m.natAbs * T10 e) + (T10 ((nd V : Int) + x - 15) + if (nd V : Int) + x - 15 < -40 then T10 (-40) else 0) ∧
    2 * (m.natAbs * T10 e) ≤ 2 * (V * T10 x) + (T10 ((nd V : Int) + x - 15) + if (nd V : Int) + x - 15 < -40 then T10 (-40) else 0) := by
  unfold roundN at h
  by_cases hV : V = 0
  · rw [if_pos (.inl hV)] at h
    simp only [Prod.mk.injEq] at h
    obtain ⟨rfl, rfl, _⟩ := h
    rw [hV]; simp
  · rw [if_neg (by omega), if_neg (by omega)] at h
    unfold mainN at h
    obtain ⟨k1, hk1⟩ : ∃ k, k = nd V - 15 := ⟨_, rfl⟩
    rw [← hk1] at h
    obtain ⟨V1, hV1⟩ : ∃ v, v = evenN V k1 := ⟨_, rfl⟩
    rw [← hV1] at h
    obtain ⟨k2, hk2⟩ : ∃ k, k = (-40 - (x + (k1 : Int))).toNat := ⟨_, rfl⟩
    rw [← hk2] at h
    obtain ⟨V2, hV2⟩ : ∃ v, v = evenN V1 k2 := ⟨_, rfl⟩
    rw [← hV2] at h
    have he := end_T (by omega) h
    rw [he]
    have t1 := T10_add (x := x) k1 (by omega)
    have t2 := T10_add (x := x + k1) k2 (by omega)
    have e1 := evenN_err V k1
    have e2 := evenN_err V1 k2
    rw [← hV1] at e1
    rw [← hV2] at e2
    obtain ⟨A, hA⟩ : ∃ A, A = T10 x := ⟨_, rfl⟩
    obtain ⟨B, hB⟩ : ∃ B, B = T10 (x + k1) := ⟨_, rfl⟩
    obtain ⟨C, hC⟩ : ∃ C, C = T10 (x + k1 + k2) := ⟨_, rfl⟩
    rw [← hA, ← hB] at t1
    rw [← hB, ← hC] at t2
    rw [← hA, ← hC]
    -- the first rounding, in parts of A
    have f1 : 2 * (V * A) ≤ 2 * (V1 * B) + B ∧ 2 * (V1 * B) ≤ 2 * (V * A) + B := by
      have m1 := Nat.mul_le_mul_right A e1.1
      have m2 := Nat.mul_le_mul_right A e1.2
      rw [Nat.add_mul, Nat.mul_assoc, Nat.mul_assoc 2, Nat.mul_assoc V1, ← t1] at m1
      rw [Nat.add_mul, Nat.mul_assoc 2, Nat.mul_assoc V1, Nat.mul_assoc 2, ← t1] at m2
      exact ⟨m1, m2⟩
    have f2 : 2 * (V1 * B) ≤ 2 * (V2 * C) + C ∧ 2 * (V2 * C) ≤ 2 * (V1 * B) + C := by
      have m1 := Nat.mul_le_mul_right B e2.1
      have m2 := Nat.mul_le_mul_right B e2.2
      rw [Nat.add_mul, Nat.mul_assoc, Nat.mul_assoc 2, Nat.mul_assoc V2, ← t2] at m1
      rw [Nat.add_mul, Nat.mul_assoc 2, Nat.mul_assoc V2, Nat.mul_assoc 2, ← t2] at m2
      exact ⟨m1, m2⟩
    have g1 : k1 = 0 → V1 * B = V * A := by
      intro hz
      rw [hV1, hz, evenN_zero, t1, hz]; simp
    have g2 : k2 = 0 → V2 * C = V1 * B := by
      intro hz
      rw [hV2, hz, evenN_zero, t2, hz]; simp
    by_cases c1 : k1 = 0
    · have a1 := g1 c1
      by_cases c2 : k2 = 0
      · have a2 := g2 c2
        omega
      · rw [if_pos (show (nd V : Int) + x - 15 < -40 by omega)]
        have hC40 : C = T10 (-40) := by rw [hC]; congr 1; omega
        omega
    · have hBu : B = T10 ((nd V : Int) + x - 15) := by rw [hB]; congr 1; omega
      rw [← hBu]
      by_cases c2 : k2 = 0
      · have a2 := g2 c2
        omega
      · rw [if_pos (show (nd V : Int) + x - 15 < -40 by omega)]
        have hC40 : C = T10 (-40) := by rw [hC]; congr 1; omega
        omega
/-- one of the 15th digit, and one of 10 to the power -40 where that is below -/
def mostV (u : Int) : Nat := if u < -40 then 1 + 10 ^ (-40 - u).toNat else 1
theorem near_bound {s : Bool} {V : Nat} {x : Int} {m e : Int} (h0 : -100 ≤ x) (h1 : x ≤ 1000) (he : -40 ≤ e) (h : roundN s V x = (m, e, true)) (m1 u es : Int) (hm1 : m1 = min x e) (hu : u = (nd V : Int) + x - 15) (hu0 : -200 ≤ u) (hes : es = min u m1) (D : Nat)
    (hD : D = plusN s (!decide (m < 0)) (V * 10 ^ (x - m1).toNat) (m.natAbs * 10 ^ (e - m1).toNat)) :
    (D + D) * 10 ^ (m1 - es).toNat ≤ mostV u * 10 ^ (u - es).toNat := by
  have hs := round_sign h
  obtain ⟨n1, n2⟩ := round_near h0 h1 h
  rw [← hu] at n1 n2
  have tx := T10_sub (x := x) (y := m1) (by omega) (by omega)
  have te := T10_sub (x := e) (y := m1) (by omega) (by omega)
  have tm := T10_sub (x := m1) (y := es) (by omega) (by omega)
  have tu := T10_sub (x := u) (y := es) (by omega) (by omega)
  have hDT : (D + D) * T10 m1 ≤ T10 u + (if u < -40 then T10 (-40) else 0) := by
    obtain ⟨U, hU⟩ : ∃ U, U = V * 10 ^ (x - m1).toNat := ⟨_, rfl⟩
    obtain ⟨W, hW⟩ : ∃ W, W = m.natAbs * 10 ^ (e - m1).toNat := ⟨_, rfl⟩
    have eU : V * T10 x = U * T10 m1 := by rw [tx, hU, Nat.mul_assoc]
    have eW : m.natAbs * T10 e = W * T10 m1 := by rw [te, hW, Nat.mul_assoc]
    rw [eU, eW] at n1 n2
    rw [← hU, ← hW] at hD
    obtain ⟨R, hR⟩ : ∃ R, R = T10 u + (if u < -40 then T10 (-40) else 0) := ⟨_, rfl⟩
    rw [← hR] at n1 n2 ⊢
    have key : D = U - W ∨ D = W - U := by
      rw [hD]; unfold plusN
      by_cases hm : m = 0
      · have hW0 : W = 0 := by rw [hW, hm]; simp
        split
        · left; omega
        · split
          · right; rfl
          · left; rfl
      · have hsm := hs hm
        rw [if_neg (by rw [hsm]; cases s <;> decide)]
        split
        · right; rfl
        · left; rfl
    have d1 : D * T10 m1 = U * T10 m1 - W * T10 m1 ∨ D * T10 m1 = W * T10 m1 - U * T10 m1 := by
      rcases key with hk | hk
      · left; rw [hk, Nat.sub_mul]
      · right; rw [hk, Nat.sub_mul]
    rw [Nat.add_mul]
    omega
  have hp := T10_pos es
  apply Nat.le_of_mul_le_mul_right (c := T10 es) _ hp
  rw [Nat.mul_assoc, Nat.mul_assoc, ← tm, ← tu]
  refine Nat.le_trans hDT ?_
  unfold mostV
  by_cases hc : u < -40
  · rw [if_pos hc, if_pos hc, Nat.add_mul, Nat.one_mul]
    have := T10_sub (x := -40) (y := u) (by omega) (by omega)
    omega
  · rw [if_neg hc, if_neg hc]; omega
/-- Plus of every two, its length too -/
theorem plus_len (sa sb : Bool) (ea eb : Int) (la lb : List UInt8) (hla : la.length ≤ 500) (hlb : lb.length ≤ 500) (h1 : -200 ≤ ea) (h2 : ea ≤ 200) (h3 : -200 ≤ eb) (h4 : eb ≤ 200) (dla : Dig la) (dlb : Dig lb) (m : Int) (hm : m = min ea eb) (U V : Nat) (hU : U = valN la * 10 ^ (ea - m).toNat) (hV : V = valN lb * 10 ^ (eb - m).toNat) :
    ∃ L : List UInt8, L.length = max (la.length + (ea - m).toNat) (lb.length + (eb - m).toNat) + 1 ∧ Dig L ∧ valN L = plusN sa sb U V ∧ ∀ va vb w, Vd w va la → Vd w vb lb → Calls Tryd.prog 44 #[.agg #[.bool sa, va, .int .i64 ea], .agg #[.bool sb, vb, .int .i64 eb]] w fun e w' => ∃ g c, e = .returned (.agg #[.bool (plusS sa sb U V), .slice (some ⟨g, 0, none⟩) L.length c, .int .i64 m]) ∧ OwnD w' w.heap.size (.slice (some ⟨g, 0, none⟩) L.length c) L ∧ Below w.heap.size w w' := by
  obtain ⟨n, hn⟩ : ∃ n, n = max (la ++ List.replicate (ea - m).toNat 0).length (lb ++ List.replicate (eb - m).toNat 0).length := ⟨_, rfl⟩
  have hnm : n = max (la.length + (ea - m).toNat) (lb.length + (eb - m).toNat) := by rw [hn]; simp
  obtain ⟨x, hx⟩ : ∃ x, x = padL n (la ++ List.replicate (ea - m).toNat 0) := ⟨_, rfl⟩
  obtain ⟨y, hy⟩ : ∃ y, y = padL n (lb ++ List.replicate (eb - m).toNat 0) := ⟨_, rfl⟩
  have hxl : x.length = n := by rw [hx]; exact padL_len (by omega)
  have hyl : y.length = n := by rw [hy]; exact padL_len (by omega)
  have hdx : Dig x := by rw [hx]; exact padL_dig _ (wide_dig _ dla)
  have hdy : Dig y := by rw [hy]; exact padL_dig _ (wide_dig _ dlb)
  have vx : valN x = U := by rw [hx, padL_val, wide_val, hU]
  have vy : valN y = V := by rw [hy, padL_val, wide_val, hV]
  have hxy : x.length = y.length := by omega
  rw [← hnm]
  unfold plusN plusS
  by_cases hs : (sa == sb) = true
  · obtain rfl : sa = sb := by simpa using hs
    obtain ⟨v1, d1, l1⟩ := sumL_val hxy hdx hdy
    have hl : (sumL x y).length = n + 1 := by omega
    refine ⟨sumL x y, hl, d1, by rw [if_pos hs, v1, vx, vy], fun va vb w hva hvb => ?_⟩
    rw [if_pos hs, hl]
    exact plus_same sa va vb ea eb la lb w hva hvb hla hlb h1 h2 h3 h4 dla dlb m hm x y n hn hx hy
  · have hs' : (sa == sb) = false := by simpa using hs
    by_cases hlt : U < V
    · obtain ⟨v1, d1, l1⟩ := diff_val hxy.symm hdy hdx (by omega)
      have hl : (0 :: (subL y x).2).length = n + 1 := by rw [List.length_cons]; omega
      refine ⟨0 :: (subL y x).2, hl, zero_dig d1, by rw [if_neg hs, if_pos hlt, valN_cons, v1, vx, vy]; simp, fun va vb w hva hvb => ?_⟩
      rw [if_neg hs, if_pos hlt, hl]
      exact plus_diff_true sa sb hs' va vb ea eb la lb w hva hvb hla hlb h1 h2 h3 h4 dla dlb m hm x y n hn hx hy (by rw [vx, vy]; simpa using hlt)
    · obtain ⟨v1, d1, l1⟩ := diff_val hxy hdx hdy (by omega)
      have hl : (0 :: (subL x y).2).length = n + 1 := by rw [List.length_cons]; omega
      refine ⟨0 :: (subL x y).2, hl, zero_dig d1, by rw [if_neg hs, if_neg hlt, valN_cons, v1, vx, vy]; simp, fun va vb w hva hvb => ?_⟩
      rw [if_neg hs, if_neg hlt, hl]
      exact plus_diff_false sa sb hs' va vb ea eb la lb w hva hvb hla hlb h1 h2 h3 h4 dla dlb m hm x y n hn hx hy (by rw [vx, vy]; simpa using hlt)
end Go.Proofs.YtkdjdoncmihkfaaDoor
