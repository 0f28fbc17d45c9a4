/- Plain mathematics: rounding keeps the order. -/
import Derived.Test.YtkdjdoncmihkfaaDoorSi
namespace Go.Proofs.YtkdjdoncmihkfaaDoor
open Go.RowKit

theorem evenN_scale (V k j : Nat) : evenN (V * 10 ^ j) (k + j) = evenN V k := by
  have hp := pow_pos10 j
  have hd : V * 10 ^ j / 10 ^ (k + j) = V / 10 ^ k := by rw [Nat.pow_add, Nat.mul_div_mul_right _ _ hp]
  have hm : V * 10 ^ j % 10 ^ (k + j) = V % 10 ^ k * 10 ^ j := by rw [Nat.pow_add, Nat.mul_mod_mul_right]
  unfold evenN
  rw [hd, hm, Nat.pow_add, ← Nat.mul_assoc]
  have e1 : (10 ^ k * 10 ^ j < 2 * (V % 10 ^ k) * 10 ^ j) ↔ 10 ^ k < 2 * (V % 10 ^ k) := Nat.mul_lt_mul_right hp
  have e2 : (2 * (V % 10 ^ k) * 10 ^ j = 10 ^ k * 10 ^ j) ↔ 2 * (V % 10 ^ k) = 10 ^ k := ⟨fun h => Nat.eq_of_mul_eq_mul_right hp h, fun h => by rw [h]⟩
  simp only [e1, e2]
theorem evenN_mul (V k : Nat) : evenN (V * 10 ^ k) k = V := by
  have := evenN_scale V 0 k
  rw [Nat.zero_add, evenN_zero] at this; exact this
theorem evenN_part (V i k : Nat) (h : k ≤ i) : evenN (V * 10 ^ i) k = V * 10 ^ (i - k) := by
  rw [show V * 10 ^ i = V * 10 ^ (i - k) * 10 ^ k by rw [Nat.mul_assoc, ← Nat.pow_add, show i - k + k = i by omega]]
  exact evenN_mul _ _
theorem evenN_mono {V W : Nat} (h : V ≤ W) (k : Nat) : evenN V k ≤ evenN W k := by
  have hp := pow_pos10 k
  have h1 : V / 10 ^ k ≤ W / 10 ^ k := Nat.div_le_div_right h
  have d1 := Nat.div_add_mod V (10 ^ k)
  have d2 := Nat.div_add_mod W (10 ^ k)
  unfold evenN
  rcases Nat.lt_or_ge (V / 10 ^ k) (W / 10 ^ k) with h2 | h2
  · split <;> split <;> omega
  · have he : V / 10 ^ k = W / 10 ^ k := by omega
    rw [he] at d1 ⊢
    have hm : V % 10 ^ k ≤ W % 10 ^ k := by omega
    split <;> split <;> omega
theorem nd_pos {u : Nat} (h : u ≠ 0) : 1 ≤ nd u := by rw [nd, dif_neg h]; omega
theorem nd_scale {V : Nat} (h : V ≠ 0) : ∀ j, nd (V * 10 ^ j) = nd V + j
  | 0 => by simp
  | j + 1 => by
    have hp := pow_pos10 j
    have h0 : V * 10 ^ (j + 1) ≠ 0 := Nat.mul_ne_zero h (by have := pow_pos10 (j + 1); omega)
    rw [nd, dif_neg h0, show V * 10 ^ (j + 1) / 10 = V * 10 ^ j by rw [Nat.pow_succ, ← Nat.mul_assoc, Nat.mul_div_cancel _ (by decide)], nd_scale h j]
    omega
theorem tz_scale {V : Nat} (h : V ≠ 0) : ∀ j, tz (V * 10 ^ j) = ((tz V).1, (tz V).2 + j)
  | 0 => by simp
  | j + 1 => by
    have h0 : V * 10 ^ (j + 1) ≠ 0 := Nat.mul_ne_zero h (by have := pow_pos10 (j + 1); omega)
    have h1 : V * 10 ^ (j + 1) % 10 = 0 := by rw [Nat.pow_succ, ← Nat.mul_assoc]; exact Nat.mul_mod_left _ _
    rw [tz, dif_pos ⟨h0, h1⟩, show V * 10 ^ (j + 1) / 10 = V * 10 ^ j by rw [Nat.pow_succ, ← Nat.mul_assoc, Nat.mul_div_cancel _ (by decide)], tz_scale h j]
    rfl
theorem endN_scale (s : Bool) (V : Nat) (x : Int) (j : Nat) : endN s (V * 10 ^ j) (x - j) = endN s V x := by
  by_cases h : V = 0
  · subst h
    have : tz 0 = (0, 0) := by rw [tz]; simp
    unfold endN
    rw [Nat.zero_mul, this]; rfl
  · unfold endN
    rw [tz_scale h j]
    simp only
    rw [show x - (j : Int) + (((tz V).2 + j : Nat) : Int) = x + (tz V).2 by omega]
/-- rounding to 15 digits, in the value's own unit -/
def R15 (V : Nat) : Nat := evenN V (nd V - 15) * 10 ^ (nd V - 15)
theorem R15_zero : R15 0 = 0 := by unfold R15; rw [nd_zero, evenN_zero, Nat.zero_mul]
theorem R15_le {V n : Nat} (h : V ≤ 10 ^ n) (hn : nd V - 15 ≤ n) : R15 V ≤ 10 ^ n := by
  unfold R15
  have h1 := evenN_mono h (nd V - 15)
  have e : evenN (10 ^ n) (nd V - 15) = 10 ^ (n - (nd V - 15)) := by
    have := evenN_part 1 n (nd V - 15) hn
    rw [Nat.one_mul, Nat.one_mul] at this; exact this
  rw [e] at h1
  have h2 := Nat.mul_le_mul_right (10 ^ (nd V - 15)) h1
  rwa [← Nat.pow_add, show n - (nd V - 15) + (nd V - 15) = n by omega] at h2
theorem R15_ge {V n : Nat} (h : 10 ^ n ≤ V) (hn : nd V - 15 ≤ n) : 10 ^ n ≤ R15 V := by
  unfold R15
  have h1 := evenN_mono h (nd V - 15)
  have e : evenN (10 ^ n) (nd V - 15) = 10 ^ (n - (nd V - 15)) := by
    have := evenN_part 1 n (nd V - 15) hn
    rw [Nat.one_mul, Nat.one_mul] at this; exact this
  rw [e] at h1
  have h2 := Nat.mul_le_mul_right (10 ^ (nd V - 15)) h1
  rwa [← Nat.pow_add, show n - (nd V - 15) + (nd V - 15) = n by omega] at h2
theorem nd_mono {V W : Nat} (h : V ≤ W) : nd V ≤ nd W := (nd_le_iff _ _).2 (Nat.lt_of_le_of_lt h (lt_pow_nd W))
theorem R15_mono {V W : Nat} (h : V ≤ W) : R15 V ≤ R15 W := by
  by_cases h0 : V = 0
  · subst h0; rw [R15_zero]; exact Nat.zero_le _
  · have hn := nd_mono h
    rcases Nat.lt_or_ge (nd V) (nd W) with h1 | h1
    · have hV : V ≤ 10 ^ (nd V) := Nat.le_of_lt (lt_pow_nd V)
      have hV2 : V ≤ 10 ^ (nd W - 1) := Nat.le_trans hV (pow_le10 (by omega))
      have hW : 10 ^ (nd W - 1) ≤ W := nd_low (by omega)
      exact Nat.le_trans (R15_le hV2 (by omega)) (R15_ge hW (by omega))
    · have he : nd V = nd W := by omega
      unfold R15
      rw [he]
      exact Nat.mul_le_mul_right _ (evenN_mono h _)
/-- rounding of a value in units of 10 to the power -40-K -/
def gK (K V : Nat) : Nat := evenN (R15 V) K
theorem gK_mono {V W : Nat} (h : V ≤ W) (K : Nat) : gK K V ≤ gK K W := evenN_mono (R15_mono h) K
/-- what rounding tells of a value -/
theorem round_gK (s : Bool) (V K : Nat) (hK : K ≤ 900) :
    (roundN s V (-40 - K)).2.2 = decide (gK K V < 10 ^ 80) ∧ (gK K V < 10 ^ 80 → vI (roundN s V (-40 - K)).1 (roundN s V (-40 - K)).2.1 = if s then -((gK K V : Nat) : Int) else ((gK K V : Nat) : Int)) := by
  by_cases h0 : V = 0
  · subst h0
    have e : gK K 0 = 0 := by unfold gK; rw [R15_zero]; exact evenN_small (by simpa using pow_pos10 K)
    unfold roundN
    rw [if_pos (.inl rfl), e]
    refine ⟨by simp, fun _ => ?_⟩
    cases s <;> simp [vI]
  · unfold roundN
    rw [if_neg (fun h => h.elim h0 (fun h => by omega)), if_neg (by omega)]
    unfold mainN
    obtain ⟨k1, hk1⟩ : ∃ k1, k1 = nd V - 15 := ⟨_, rfl⟩
    rw [← hk1]
    obtain ⟨V1, hV1⟩ : ∃ V1, V1 = evenN V k1 := ⟨_, rfl⟩
    rw [← hV1]
    have hR : R15 V = V1 * 10 ^ k1 := by unfold R15; rw [← hk1, ← hV1]
    obtain ⟨k2, hk2⟩ : ∃ k2, k2 = (-40 - (-40 - (K : Int) + (k1 : Int))).toNat := ⟨_, rfl⟩
    rw [← hk2]
    have hx : -40 - (K : Int) + (k1 : Int) + (k2 : Int) + 40 = ((k1 + k2 - K : Nat) : Int) := by omega
    have hg : evenN V1 k2 * 10 ^ (-40 - (K : Int) + (k1 : Int) + (k2 : Int) + 40).toNat = gK K V := by
      rw [hx, Int.toNat_natCast, gK, hR]
      by_cases hc : k1 ≤ K
      · have e1 : k2 = K - k1 := by omega
        have := evenN_scale V1 (K - k1) k1
        rw [show K - k1 + k1 = K by omega] at this
        rw [this, e1, show k1 + (K - k1) - K = 0 by omega]; simp
      · have e1 : k2 = 0 := by omega
        rw [e1, evenN_zero, evenN_part V1 k1 K (by omega), Nat.add_zero]
    obtain ⟨a1, a2⟩ := end_val s (evenN V1 k2) (-40 - (K : Int) + (k1 : Int) + (k2 : Int)) (by omega)
    rw [hg] at a1 a2
    exact ⟨a1, a2⟩
/-- rounding hangs on the value alone -/
theorem round_scale (s : Bool) (V : Nat) (x : Int) (j : Nat) (h1 : -1000 ≤ x - j) (h2 : x ≤ 1000) : roundN s (V * 10 ^ j) (x - j) = roundN s V x := by
  by_cases h0 : V = 0
  · subst h0; unfold roundN; rw [Nat.zero_mul, if_pos (.inl rfl), if_pos (.inl rfl)]
  · have hv : V * 10 ^ j ≠ 0 := Nat.mul_ne_zero h0 (by have := pow_pos10 j; omega)
    unfold roundN
    rw [if_neg (fun h => h.elim hv (fun h => by omega)), if_neg (by omega), if_neg (fun h => h.elim h0 (fun h => by omega)), if_neg (by omega)]
    -- cutting to what stands above 10 to the power -40 is the same
    have cut : ∀ (V1 : Nat) (x1 : Int) (i : Nat), endN s (evenN (V1 * 10 ^ i) (-40 - (x1 - i)).toNat) (x1 - i + ((-40 - (x1 - i)).toNat : Int)) = endN s (evenN V1 (-40 - x1).toNat) (x1 + ((-40 - x1).toNat : Int)) := by
      intro V1 x1 i
      by_cases hc : 0 ≤ -40 - x1
      · have e1 : (-40 - (x1 - (i : Int))).toNat = (-40 - x1).toNat + i := by omega
        rw [e1, evenN_scale]
        congr 1; omega
      · have e1 : (-40 - x1).toNat = 0 := by omega
        rw [e1, evenN_zero]
        obtain ⟨q, hq⟩ : ∃ q, q = (-40 - (x1 - (i : Int))).toNat := ⟨_, rfl⟩
        rw [← hq, evenN_part V1 i q (by omega)]
        have := endN_scale s V1 x1 (i - q)
        rw [show x1 - (i : Int) + (q : Int) = x1 - ((i - q : Nat) : Int) by omega, this]
        congr 1; omega
    unfold mainN
    rw [nd_scale h0 j]
    by_cases hc : 15 ≤ nd V
    · rw [show nd V + j - 15 = nd V - 15 + j by omega, evenN_scale, show x - (j : Int) + ((nd V - 15 + j : Nat) : Int) = x + ((nd V - 15 : Nat) : Int) by omega]
    · rw [show nd V - 15 = 0 by omega, evenN_zero]
      obtain ⟨q, hq⟩ : ∃ q, q = nd V + j - 15 := ⟨_, rfl⟩
      rw [← hq, evenN_part V j q (by omega)]
      have := cut V x (j - q)
      rw [show x - (j : Int) + (q : Int) = x - ((j - q : Nat) : Int) by omega, this]
      rw [show x + ((0 : Nat) : Int) = x by omega]
/-- rounding of a value with its sign -/
def sv (K : Nat) (s : Int) : Int := if s < 0 then -((gK K s.natAbs : Nat) : Int) else ((gK K s.natAbs : Nat) : Int)
theorem gK_zero (K : Nat) : gK K 0 = 0 := by unfold gK; rw [R15_zero]; exact evenN_small (by simpa using pow_pos10 K)
theorem sv_mono {s t : Int} (h : s ≤ t) (K : Nat) : sv K s ≤ sv K t := by
  have h1 : s.natAbs ≤ t.natAbs → gK K s.natAbs ≤ gK K t.natAbs := fun h => gK_mono h K
  have h2 : t.natAbs ≤ s.natAbs → gK K t.natAbs ≤ gK K s.natAbs := fun h => gK_mono h K
  unfold sv
  split <;> split <;> omega
theorem round_sv (sg : Bool) (V K : Nat) (s : Int) (hK : K ≤ 900) (hV : s.natAbs = V) (hs : V ≠ 0 → (sg = true ↔ s < 0)) :
    (roundN sg V (-40 - K)).2.2 = decide ((sv K s).natAbs < 10 ^ 80) ∧ ((roundN sg V (-40 - K)).2.2 = true → vI (roundN sg V (-40 - K)).1 (roundN sg V (-40 - K)).2.1 = sv K s) := by
  obtain ⟨g1, g2⟩ := round_gK sg V K hK
  have ha : (sv K s).natAbs = gK K V := by unfold sv; rw [hV]; split <;> omega
  rw [ha]
  refine ⟨g1, fun h => ?_⟩
  rw [g1] at h
  rw [g2 (by simpa using h)]
  unfold sv
  rw [hV]
  by_cases h0 : V = 0
  · rw [h0, gK_zero]; simp
  · have := hs h0
    by_cases hn : s < 0
    · rw [if_pos hn, if_pos (this.2 hn)]
    · rw [if_neg hn, if_neg (fun h => hn (this.1 h))]
theorem add_val {a b c d : Int} (ha : rightB a b = true) (hc : rightB c d = true) :
    (addN a b c d).2.2 = decide ((sv 0 (vI a b + vI c d)).natAbs < 10 ^ 80) ∧ ((addN a b c d).2.2 = true → vI (addN a b c d).1 (addN a b c d).2.1 = sv 0 (vI a b + vI c d)) := by
  obtain ⟨_, bb1, bb2⟩ := right_bounds ha
  obtain ⟨_, bd1, bd2⟩ := right_bounds hc
  obtain ⟨x, hx⟩ : ∃ x, x = min b d := ⟨_, rfl⟩
  obtain ⟨j, hj⟩ : ∃ j, j = (x + 40).toNat := ⟨_, rfl⟩
  obtain ⟨A, hA⟩ : ∃ A, A = a.natAbs * 10 ^ (b - x).toNat := ⟨_, rfl⟩
  obtain ⟨C, hC⟩ : ∃ C, C = c.natAbs * 10 ^ (d - x).toNat := ⟨_, rfl⟩
  have eA : (vI a b).natAbs = A * 10 ^ j := by
    rw [vI_abs, hA, Nat.mul_assoc, ← Nat.pow_add]; congr 2; omega
  have eC : (vI c d).natAbs = C * 10 ^ j := by
    rw [vI_abs, hC, Nat.mul_assoc, ← Nat.pow_add]; congr 2; omega
  have sa := vI_negp (m := a) (e := b)
  have sc := vI_negp (m := c) (e := d)
  have sc2 : ∀ (sg : Bool) (V : Nat), roundN sg V x = roundN sg (V * 10 ^ j) (-40 - ((0 : Nat) : Int)) := by
    intro sg V
    have := round_scale sg V x j (by omega) (by omega)
    rw [← this]; congr 1; omega
  unfold addN
  rw [← hx, ← hA, ← hC]
  obtain ⟨u, hu⟩ : ∃ u, u = vI a b := ⟨_, rfl⟩
  obtain ⟨v, hv⟩ : ∃ v, v = vI c d := ⟨_, rfl⟩
  rw [← hu] at eA sa ⊢
  rw [← hv] at eC sc ⊢
  have hp := pow_pos10 j
  by_cases hsg : decide (a < 0) = decide (c < 0)
  · rw [if_pos hsg, sc2]
    have hiff : a < 0 ↔ c < 0 := by simpa using hsg
    refine round_sv _ _ 0 _ (by omega) (by rw [Nat.add_mul, ← eA, ← eC]; omega) (fun h0 => ?_)
    rw [decide_eq_true_iff]
    constructor
    · intro h; omega
    · intro h; omega
  · rw [if_neg hsg]
    have hiff : ¬ (a < 0 ↔ c < 0) := by simpa using hsg
    by_cases hlt : A < C
    · rw [if_pos hlt, sc2]
      have hm : A * 10 ^ j < C * 10 ^ j := Nat.mul_lt_mul_of_pos_right hlt hp
      refine round_sv _ _ 0 _ (by omega) (by rw [Nat.sub_mul, ← eA, ← eC]; omega) (fun h0 => ?_)
      rw [decide_eq_true_iff]
      constructor <;> intro h <;> omega
    · rw [if_neg hlt, sc2]
      have hm : C * 10 ^ j ≤ A * 10 ^ j := Nat.mul_le_mul_right _ (by omega)
      refine round_sv _ _ 0 _ (by omega) (by rw [Nat.sub_mul, ← eA, ← eC]; omega) (fun h0 => ?_)
      rw [Nat.sub_mul, ← eA, ← eC] at h0
      rw [decide_eq_true_iff]
      constructor <;> intro h <;> omega
theorem mul_val {a b c d : Int} (ha : rightB a b = true) (hc : rightB c d = true) :
    (mulN a b c d).2.2 = decide ((sv 40 (vI a b * vI c d)).natAbs < 10 ^ 80) ∧ ((mulN a b c d).2.2 = true → vI (mulN a b c d).1 (mulN a b c d).2.1 = sv 40 (vI a b * vI c d)) := by
  obtain ⟨_, bb1, bb2⟩ := right_bounds ha
  obtain ⟨_, bd1, bd2⟩ := right_bounds hc
  obtain ⟨j, hj⟩ : ∃ j, j = (b + d + 80).toNat := ⟨_, rfl⟩
  have e := round_scale (decide (a < 0) != decide (c < 0)) (a.natAbs * c.natAbs) (b + d) j (by omega) (by omega)
  rw [show b + d - (j : Int) = -40 - ((40 : Nat) : Int) by omega] at e
  unfold mulN
  rw [← e]
  have hab : (vI a b * vI c d).natAbs = a.natAbs * c.natAbs * 10 ^ j := by
    rw [Int.natAbs_mul, vI_abs, vI_abs, show j = (b + 40).toNat + (d + 40).toNat by omega, Nat.pow_add]
    rw [Nat.mul_assoc, Nat.mul_assoc, Nat.mul_left_comm (10 ^ (b + 40).toNat)]
  refine round_sv _ _ 40 _ (by omega) hab (fun h0 => ?_)
  have a0 : a ≠ 0 := by intro h; subst h; simp at h0
  have c0 : c ≠ 0 := by intro h; subst h; simp at h0
  have pa := vI_pos (m := a) (e := b)
  have na := vI_negp (m := a) (e := b)
  have pc := vI_pos (m := c) (e := d)
  have nc := vI_negp (m := c) (e := d)
  by_cases ha0 : a < 0 <;> by_cases hc0 : c < 0
  · have := Int.mul_pos_of_neg_of_neg (na.2 ha0) (nc.2 hc0)
    simp [ha0, hc0]; omega
  · have := Int.mul_neg_of_neg_of_pos (na.2 ha0) (pc.2 (by omega))
    simp [ha0, hc0]; omega
  · have := Int.mul_neg_of_pos_of_neg (pa.2 (by omega)) (nc.2 hc0)
    simp [ha0, hc0]; omega
  · have := Int.mul_pos (pa.2 (by omega)) (pc.2 (by omega))
    simp [ha0, hc0]; omega
/-- added to, or taken away from, both, what isn't above isn't above -/
theorem add_order {a b a' b' c d : Int} (h1 : rightB a b = true) (h2 : rightB a' b' = true) (hc : rightB c d = true) (h : vI a b ≤ vI a' b') (o1 : (addN a b c d).2.2 = true) (o2 : (addN a' b' c d).2.2 = true) :
    vI (addN a b c d).1 (addN a b c d).2.1 ≤ vI (addN a' b' c d).1 (addN a' b' c d).2.1 := by
  rw [(add_val h1 hc).2 o1, (add_val h2 hc).2 o2]
  exact sv_mono (by omega) 0
theorem mul_order {a b a' b' c d : Int} (h1 : rightB a b = true) (h2 : rightB a' b' = true) (hc : rightB c d = true) (h : vI a b ≤ vI a' b') (c0 : ¬ c < 0) (o1 : (mulN a b c d).2.2 = true) (o2 : (mulN a' b' c d).2.2 = true) :
    vI (mulN a b c d).1 (mulN a b c d).2.1 ≤ vI (mulN a' b' c d).1 (mulN a' b' c d).2.1 := by
  rw [(mul_val h1 hc).2 o1, (mul_val h2 hc).2 o2]
  refine sv_mono ?_ 40
  have := vI_negp (m := c) (e := d)
  exact Int.mul_le_mul_of_nonneg_right h (by omega)
end Go.Proofs.YtkdjdoncmihkfaaDoor
