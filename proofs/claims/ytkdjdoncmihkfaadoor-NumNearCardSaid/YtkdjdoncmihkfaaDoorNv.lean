/- Plain mathematics of num: digits' values, rounding by values, how two numbers stand to each other, rounding to a place. -/
import Derived.Test.YtkdjdoncmihkfaaDoorNj
namespace Go.Proofs.YtkdjdoncmihkfaaDoor
open Go.RowKit

/-- digits' value -/
def valN (l : List UInt8) : Nat := l.foldl (fun a d => a * 10 + d.toNat) 0
theorem valN_go (l : List UInt8) : ∀ a, l.foldl (fun a d => a * 10 + d.toNat) a = a * 10 ^ l.length + valN l := by
  induction l with
  | nil => intro a; simp [valN]
  | cons x t ih =>
    intro a
    have h1 := ih (a * 10 + x.toNat)
    have h2 := ih (0 * 10 + x.toNat)
    simp only [List.foldl_cons, valN, List.length_cons] at h1 h2 ⊢
    rw [h1, h2, Nat.pow_succ, Nat.add_mul, Nat.mul_assoc, Nat.mul_comm 10]
    simp [Nat.add_assoc]
theorem valN_cons (x : UInt8) (t : List UInt8) : valN (x :: t) = x.toNat * 10 ^ t.length + valN t := by
  rw [valN, List.foldl_cons, valN_go]; simp
theorem valN_append (a b : List UInt8) : valN (a ++ b) = valN a * 10 ^ b.length + valN b := by
  rw [valN, List.foldl_append, valN_go]; rfl
theorem valN_snoc (l : List UInt8) (y : UInt8) : valN (l ++ [y]) = valN l * 10 + y.toNat := by simp [valN]
theorem valL_N (l : List UInt8) : valL l = (valN l : Int) := by
  suffices h : ∀ (l : List UInt8) (a : Nat), l.foldl (fun (a : Int) d => a * 10 + (d.toNat : Int)) (a : Int) = ((l.foldl (fun a d => a * 10 + d.toNat) a : Nat) : Int) from h l 0
  intro l
  induction l with
  | nil => intro a; rfl
  | cons x t ih => intro a; rw [List.foldl_cons, List.foldl_cons, ← ih]; congr 1
def Dig (l : List UInt8) : Prop := ∀ x ∈ l, x.toNat ≤ 9
theorem pow_pos10 (n : Nat) : 0 < 10 ^ n := Nat.pow_pos (by decide)
theorem Dig.cons {x : UInt8} {t : List UInt8} (h : Dig (x :: t)) : x.toNat ≤ 9 ∧ Dig t := ⟨h x (by simp), fun y hy => h y (by simp [hy])⟩
theorem Dig.mk {x : UInt8} {t : List UInt8} (h : x.toNat ≤ 9) (ht : Dig t) : Dig (x :: t) := fun y hy => by
  rcases List.mem_cons.1 hy with rfl | hy
  · exact h
  · exact ht y hy
theorem Dig.lt {l : List UInt8} (h : Dig l) : valN l < 10 ^ l.length := by
  induction l with
  | nil => simp [valN]
  | cons x t ih =>
    have := ih h.cons.2
    have hx := h.cons.1
    rw [valN_cons, List.length_cons, Nat.pow_succ]
    have : x.toNat * 10 ^ t.length ≤ 9 * 10 ^ t.length := Nat.mul_le_mul_right _ hx
    omega
theorem Dig.take {l : List UInt8} (h : Dig l) (k : Nat) : Dig (l.take k) := fun x hx => h x (List.mem_of_mem_take hx)
theorem Dig.drop {l : List UInt8} (h : Dig l) (k : Nat) : Dig (l.drop k) := fun x hx => h x (List.mem_of_mem_drop hx)
/-- no nought ahead -/
def NZ (l : List UInt8) : Prop := ∀ t, l ≠ 0 :: t
theorem NZ.nil : NZ [] := fun _ => by simp
theorem NZ.take {l : List UInt8} (h : NZ l) (k : Nat) : NZ (l.take k) := by
  intro t e
  cases l with
  | nil => simp at e
  | cons x s => cases k with
    | zero => simp at e
    | succ k => simp at e; exact h s (by rw [e.1])
theorem strip_val (l : List UInt8) : valN (strip l) = valN l := by
  induction l with
  | nil => rfl
  | cons x t ih =>
    rw [strip]; split
    · rename_i h; rw [ih, valN_cons, h]; simp
    · rfl
theorem strip_dig {l : List UInt8} (h : Dig l) : Dig (strip l) := by
  induction l with
  | nil => exact h
  | cons x t ih =>
    rw [strip]; split
    · exact ih h.cons.2
    · exact h
theorem strip_nz (l : List UInt8) : NZ (strip l) := by
  induction l with
  | nil => exact NZ.nil
  | cons x t ih =>
    rw [strip]; split
    · exact ih
    · rename_i h; intro s e; simp at e; exact h e.1
theorem NZ.pos {x : UInt8} {t : List UInt8} (h : NZ (x :: t)) : 10 ^ t.length ≤ valN (x :: t) := by
  have hx : x.toNat ≠ 0 := fun e => h t (by rw [show x = 0 from UInt8.toNat_inj.1 e])
  rw [valN_cons]
  have : 1 * 10 ^ t.length ≤ x.toNat * 10 ^ t.length := Nat.mul_le_mul_right _ (by omega)
  omega
theorem strip_nil_iff (l : List UInt8) : strip l = [] ↔ valN l = 0 := by
  rw [← strip_val l]
  have h := strip_nz l
  cases hs : strip l with
  | nil => simp [valN]
  | cons x t =>
    rw [hs] at h
    have := h.pos
    have := pow_pos10 t.length
    constructor
    · intro h; simp at h
    · intro h; omega
theorem nd_ge : ∀ (k u : Nat), 10 ^ k ≤ u → k + 1 ≤ nd u
  | 0, u, h => by rw [nd]; split <;> simp at h <;> omega
  | k + 1, u, h => by
    rw [nd]; split
    · have := pow_pos10 (k + 1); omega
    · have := nd_ge k (u / 10) (by rw [Nat.pow_succ] at h; omega)
      omega
theorem nd_eq {k u : Nat} (h1 : 10 ^ k ≤ u) (h2 : u < 10 ^ (k + 1)) : nd u = k + 1 := by
  have := nd_ge k u h1
  have := nd_le (k + 1) u h2
  omega
theorem nd_len {l : List UInt8} (h : Dig l) (hz : NZ l) : nd (valN l) = l.length := by
  cases l with
  | nil => simp [valN, nd_zero]
  | cons x t => exact nd_eq hz.pos h.lt
theorem bump_val {l : List UInt8} (h : Dig l) : Dig (bump l).2 ∧ valN (bump l).2 + (if (bump l).1 then 10 ^ l.length else 0) = valN l + 1 ∧ (bump l).2.length = l.length := by
  induction l with
  | nil => exact ⟨h, rfl, rfl⟩
  | cons x t ih =>
    obtain ⟨i1, i2, i3⟩ := ih h.cons.2
    have hx := h.cons.1
    rw [bump]
    by_cases hb : (bump t).1
    · rw [if_pos hb] at i2 ⊢
      by_cases h9 : x < 9
      · rw [if_pos h9]
        have h9' : x.toNat < 9 := h9
        have hx1 : (x + 1).toNat = x.toNat + 1 := by rw [UInt8.toNat_add]; simp; omega
        refine ⟨Dig.mk (by rw [hx1]; omega) i1, ?_, by simp [i3]⟩
        rw [valN_cons, valN_cons, hx1, i3, Nat.add_mul]
        simp; omega
      · rw [if_neg h9]
        have h9' : ¬ x.toNat < 9 := h9
        have hx9 : x.toNat = 9 := by omega
        refine ⟨Dig.mk (by decide) i1, ?_, by simp [i3]⟩
        rw [valN_cons, valN_cons, hx9, i3, List.length_cons, Nat.pow_succ]
        simp; omega
    · rw [if_neg hb] at i2 ⊢
      refine ⟨Dig.mk hx i1, ?_, by simp [i3]⟩
      rw [valN_cons, valN_cons, i3]
      simp at i2 ⊢; omega
theorem more_val {l : List UInt8} (h : Dig l) : valN (oneMoreL l) = valN l + 1 ∧ Dig (oneMoreL l) ∧ NZ (oneMoreL l) := by
  obtain ⟨i1, i2, i3⟩ := bump_val (l := 0 :: l) (Dig.mk (by decide) h)
  have h0 : (bump (0 :: l)).1 = false := by
    rw [bump]; by_cases hb : (bump l).1
    · rw [if_pos hb, if_pos (by decide)]
    · rw [if_neg hb]
  rw [h0] at i2
  rw [oneMoreL, strip_val]
  refine ⟨?_, strip_dig i1, strip_nz _⟩
  rw [valN_cons] at i2
  simpa using i2
theorem noughts_val (t : List UInt8) : noughts t = if valN t = 0 then 0 else 1 := by
  induction t with
  | nil => rfl
  | cons x t ih =>
    have hp := pow_pos10 t.length
    rw [valN_cons]
    unfold noughts at ih ⊢
    rw [List.all_cons]
    by_cases hx : x = 0
    · subst hx
      simpa using ih
    · have hx' : x.toNat ≠ 0 := fun e => hx (UInt8.toNat_inj.1 e)
      have : 0 < x.toNat * 10 ^ t.length := Nat.mul_pos (by omega) hp
      rw [if_neg (by simp [hx]), if_neg (by omega)]
theorem half_val {R : List UInt8} (h : Dig R) (hR : R ≠ []) : (0 < halfI R ↔ 10 ^ R.length < 2 * valN R) ∧ (halfI R = 0 ↔ 2 * valN R = 10 ^ R.length) := by
  cases R with
  | nil => exact absurd rfl hR
  | cons x t =>
    have ht := h.cons.2.lt
    rw [halfI, valN_cons, List.length_cons, Nat.pow_succ]
    by_cases h5 : x = 5
    · rw [if_pos h5, noughts_val, h5]
      have e5 : (5 : UInt8).toNat = 5 := rfl
      rw [e5]
      split <;> omega
    · rw [if_neg h5]
      have h5' : x.toNat ≠ 5 := fun e => h5 (UInt8.toNat_inj.1 e)
      have hp := pow_pos10 t.length
      by_cases hl : x.toNat < 5
      · have : x.toNat * 10 ^ t.length ≤ 4 * 10 ^ t.length := Nat.mul_le_mul_right _ (by omega)
        omega
      · have : 6 * 10 ^ t.length ≤ x.toNat * 10 ^ t.length := Nat.mul_le_mul_right _ (by omega)
        omega
theorem odd_val (K : List UInt8) : oddL K = true ↔ valN K % 2 = 1 := by
  rcases (show K = [] ∨ ∃ t y, K = t ++ [y] from by
    by_cases h : K = []
    · exact .inl h
    · exact .inr ⟨_, _, (List.dropLast_concat_getLast h).symm⟩) with rfl | ⟨t, y, rfl⟩
  · simp [oddL, valN]
  · rw [valN_snoc, oddL, List.getLast?_concat]
    simp only [beq_iff_eq]; omega
/-- the nearest to V by 10 to the power k, of two the even one -/
def evenN (V k : Nat) : Nat := if 10 ^ k < 2 * (V % 10 ^ k) ∨ (2 * (V % 10 ^ k) = 10 ^ k ∧ V / 10 ^ k % 2 = 1) then V / 10 ^ k + 1 else V / 10 ^ k
theorem evenN_zero (V : Nat) : evenN V 0 = V := by
  unfold evenN; simp [Nat.mod_one]
theorem even_val {K R : List UInt8} (hK : Dig K) (hR : Dig R) (hne : R ≠ []) (hz : NZ K) : valN (evenL K R) = evenN (valN (K ++ R)) R.length ∧ Dig (evenL K R) ∧ NZ (evenL K R) := by
  have hlt := hR.lt
  have hp := pow_pos10 R.length
  obtain ⟨h1, h2⟩ := half_val hR hne
  have h3 := odd_val K
  have hm : valN (K ++ R) % 10 ^ R.length = valN R := by rw [valN_append, Nat.mul_comm, Nat.mul_add_mod, Nat.mod_eq_of_lt hlt]
  have hd : valN (K ++ R) / 10 ^ R.length = valN K := by rw [valN_append, Nat.mul_comm, Nat.mul_add_div hp, Nat.div_eq_of_lt hlt]; rfl
  obtain ⟨m1, m2, m3⟩ := more_val hK
  unfold evenN evenL
  rw [hm, hd]
  simp only [h1, h2, h3]
  split
  · exact ⟨m1, m2, m3⟩
  · exact ⟨rfl, hK, hz⟩
theorem evenN_small {V k : Nat} (h : 2 * V < 10 ^ k) : evenN V k = 0 := by
  unfold evenN
  rw [Nat.div_eq_of_lt (by omega), Nat.mod_eq_of_lt (by omega), if_neg (by omega)]
theorem cutE_val {l : List UInt8} (h : Dig l) (hz : NZ l) (x d : Int) : valN (cutE l x d).1 = evenN (valN l) d.toNat ∧ Dig (cutE l x d).1 ∧ NZ (cutE l x d).1 ∧ (cutE l x d).2 = x + (d.toNat : Int) := by
  unfold cutE
  by_cases h1 : d ≤ 0
  · rw [if_pos h1, show d.toNat = 0 by omega, evenN_zero]
    exact ⟨rfl, h, hz, by simp⟩
  · rw [if_neg h1]
    by_cases h2 : (l.length : Int) < d
    · rw [if_pos h2]
      refine ⟨?_, by intro y hy; simp at hy, NZ.nil, by show x + d = _; omega⟩
      have hl := h.lt
      have hp : 10 ^ (l.length + 1) ≤ 10 ^ d.toNat := Nat.pow_le_pow_right (by decide) (by omega)
      rw [Nat.pow_succ] at hp
      rw [evenN_small (by omega)]; rfl
    · rw [if_neg h2]
      have hlen : (l.drop (l.length - d.toNat)).length = d.toNat := by rw [List.length_drop]; omega
      obtain ⟨e1, e2, e3⟩ := even_val (h.take (l.length - d.toNat)) (h.drop (l.length - d.toNat)) (by intro e; rw [e] at hlen; simp at hlen; omega) (hz.take _)
      rw [List.take_append_drop, hlen] at e1
      exact ⟨e1, e2, e3, by show x + d = _; omega⟩
/-- noughts behind cut off -/
def tz (V : Nat) : Nat × Nat := if h : V ≠ 0 ∧ V % 10 = 0 then ((tz (V / 10)).1, (tz (V / 10)).2 + 1) else (V, 0)
termination_by V
decreasing_by all_goals omega
theorem tz_eq (V : Nat) : V = (tz V).1 * 10 ^ (tz V).2 ∧ ((tz V).1 = 0 ↔ V = 0) ∧ ((tz V).1 % 10 = 0 → V = 0) := by
  induction V using Nat.strongRecOn with
  | ind V ih =>
    rw [tz]
    by_cases h : V ≠ 0 ∧ V % 10 = 0
    · rw [dif_pos h]
      obtain ⟨i1, i2, i3⟩ := ih (V / 10) (by omega)
      refine ⟨?_, by simp only; rw [i2]; omega, fun h3 => by have := i3 h3; omega⟩
      simp only
      rw [Nat.pow_succ, ← Nat.mul_assoc, ← i1]; omega
    · rw [dif_neg h]
      exact ⟨by simp, Iff.rfl, fun h3 => by simp only at h3; omega⟩
theorem trimz_val : ∀ (n : Nat) (l : List UInt8) (e : Int), l.length = n → Dig l → NZ l → valN (trimz n l e).1 = (tz (valN l)).1 ∧ (trimz n l e).2 = e + ((tz (valN l)).2 : Int) ∧ Dig (trimz n l e).1 ∧ NZ (trimz n l e).1
  | 0, l, e, hl, hd, hz => by
    have : l = [] := List.eq_nil_of_length_eq_zero hl
    subst this
    have : tz (valN []) = (0, 0) := by rw [tz]; simp [valN]
    rw [this]
    exact ⟨rfl, by simp [trimz], hd, hz⟩
  | n + 1, l, e, hl, hd, hz => by
    have hne : l ≠ [] := by intro h; rw [h] at hl; simp at hl
    obtain ⟨t, y, rfl⟩ : ∃ t y, l = t ++ [y] := ⟨_, _, (List.dropLast_concat_getLast hne).symm⟩
    have hy : y.toNat ≤ 9 := hd y (by simp)
    have hdt : Dig t := fun z hz => hd z (by simp [hz])
    have hzt : NZ t := by
      intro s e
      exact hz (s ++ [y]) (by rw [e]; rfl)
    rw [trimz, List.getLast?_concat, List.dropLast_concat, valN_snoc]
    by_cases h0 : y = 0
    · subst h0
      have hlt : t.length = n := by simpa using hl
      obtain ⟨i1, i2, i3, i4⟩ := trimz_val n t (e + 1) hlt hdt hzt
      have hpos : valN t ≠ 0 := by
        cases t with
        | nil => exact absurd rfl (hz [])
        | cons c s => have := hzt.pos; have := pow_pos10 s.length; omega
      have ht : tz (valN t * 10 + (0 : UInt8).toNat) = ((tz (valN t)).1, (tz (valN t)).2 + 1) := by
        rw [tz, dif_pos (by simp; omega)]
        have : (valN t * 10 + (0 : UInt8).toNat) / 10 = valN t := by simp
        rw [this]
      rw [if_pos rfl, ht]
      exact ⟨i1, by rw [i2]; simp only; omega, i3, i4⟩
    · rw [if_neg (by simpa using h0)]
      have hy0 : y.toNat ≠ 0 := fun e => h0 (UInt8.toNat_inj.1 e)
      have ht : tz (valN t * 10 + y.toNat) = (valN t * 10 + y.toNat, 0) := by rw [tz, dif_neg (by omega)]
      rw [ht]
      exact ⟨by rw [valN_snoc], by simp, hd, hz⟩
/-- rounding, of a value -/
def endN (neg : Bool) (V : Nat) (x : Int) : Int × Int × Bool :=
  if (tz V).1 = 0 then (0, 0, true) else if 40 < (nd (tz V).1 : Int) + (x + (tz V).2) then (0, 0, false) else (if neg then -((tz V).1 : Int) else ((tz V).1 : Int), x + (tz V).2, true)
def mainN (neg : Bool) (V : Nat) (x : Int) : Int × Int × Bool :=
  endN neg (evenN (evenN V (nd V - 15)) (-40 - (x + ((nd V - 15 : Nat) : Int))).toNat) (x + ((nd V - 15 : Nat) : Int) + ((-40 - (x + ((nd V - 15 : Nat) : Int))).toNat : Int))
def roundN (neg : Bool) (V : Nat) (x : Int) : Int × Int × Bool :=
  if V = 0 ∨ x < -1000 then (0, 0, true) else if 1000 < x then (0, 0, false) else mainN neg V x
theorem finish_val {l : List UInt8} (neg : Bool) (x : Int) (hd : Dig l) (hz : NZ l) : finish neg l x = if valN l = 0 then (0, 0, true) else if 40 < (nd (valN l) : Int) + x then (0, 0, false) else (if neg then -(valN l : Int) else (valN l : Int), x, true) := by
  rw [nd_len hd hz, finish, valL_N]
  have : l = [] ↔ valN l = 0 := by
    cases l with
    | nil => simp [valN]
    | cons c s => have := hz.pos; have := pow_pos10 s.length; constructor
                  · intro h; simp at h
                  · intro h; omega
  by_cases h : l = []
  · rw [if_pos h, if_pos (this.1 h)]
  · rw [if_neg h, if_neg (fun h2 => h (this.2 h2))]
theorem main_val {D : List UInt8} (neg : Bool) (x : Int) (hd : Dig D) (hz : NZ D) : mainL neg D x = mainN neg (valN D) x := by
  have hn := nd_len hd hz
  obtain ⟨a1, a2, a3, a4⟩ := cutE_val hd hz x (D.length - 15)
  have e1 : ((D.length : Int) - 15).toNat = nd (valN D) - 15 := by omega
  rw [e1] at a1 a4
  unfold mainL mainN endN
  rw [show cut1 D x = cutE D x (D.length - 15) from rfl]
  obtain ⟨p, hp⟩ : ∃ p, p = cutE D x (D.length - 15) := ⟨_, rfl⟩
  rw [← hp] at a1 a2 a3 a4 ⊢
  obtain ⟨b1, b2, b3, b4⟩ := cutE_val a2 a3 p.2 (-40 - p.2)
  rw [show cut2 p = cutE p.1 p.2 (-40 - p.2) from rfl]
  obtain ⟨q, hq⟩ : ∃ q, q = cutE p.1 p.2 (-40 - p.2) := ⟨_, rfl⟩
  rw [← hq] at b1 b2 b3 b4 ⊢
  obtain ⟨c1, c2, c3, c4⟩ := trimz_val q.1.length q.1 q.2 rfl b2 b3
  rw [show trim q = trimz q.1.length q.1 q.2 from rfl, finish_val neg _ c3 c4, c1, c2, b1, b4, a1, a4]
theorem round_val {l : List UInt8} (neg : Bool) (x : Int) (hd : Dig l) : roundL neg l x = roundN neg (valN l) x := by
  unfold roundL roundN
  simp only [strip_nil_iff]
  rw [main_val neg x (strip_dig hd) (strip_nz l), strip_val]
theorem evenN_le {V k : Nat} : evenN V k ≤ V / 10 ^ k + 1 ∧ evenN V k ≤ V := by
  by_cases hk : k = 0
  · subst hk; rw [evenN_zero]; simp
  · have h1 : V / 10 ^ k ≤ V := Nat.div_le_self _ _
    have hm := Nat.div_add_mod V (10 ^ k)
    have hp : 10 ^ 1 ≤ 10 ^ k := Nat.pow_le_pow_right (by decide) (by omega)
    have h2 : 1 * (V / 10 ^ k) ≤ 10 ^ k * (V / 10 ^ k) := Nat.mul_le_mul_right _ (by omega)
    unfold evenN
    split <;> omega
theorem nd_lt15 {V : Nat} (h : V ≤ 10 ^ 15) (h2 : V % 10 ≠ 0) : nd V ≤ 15 := by
  refine nd_le 15 V ?_
  have : 10 ^ 15 = 1000000000000000 := by decide
  omega
theorem end_right (neg : Bool) (V : Nat) (x : Int) (hV : V ≤ 10 ^ 15) (hx : -40 ≤ x) : rightB (endN neg V x).1 (endN neg V x).2.1 = true := by
  obtain ⟨t1, t2, t3⟩ := tz_eq V
  unfold endN
  by_cases h0 : (tz V).1 = 0
  · rw [if_pos h0]; rfl
  · rw [if_neg h0]
    by_cases h1 : 40 < (nd (tz V).1 : Int) + (x + (tz V).2)
    · rw [if_pos h1]; rfl
    · rw [if_neg h1]
      have hle : (tz V).1 ≤ V := by
        have : (tz V).1 * 1 ≤ (tz V).1 * 10 ^ (tz V).2 := Nat.mul_le_mul_left _ (pow_pos10 _)
        omega
      have hm : (tz V).1 % 10 ≠ 0 := fun h => h0 (t2.2 (t3 h))
      have hn := nd_lt15 (by omega) hm
      have hA : (if neg = true then -((tz V).1 : Int) else ((tz V).1 : Int)).natAbs = (tz V).1 := by split <;> omega
      show rightB (if neg = true then -((tz V).1 : Int) else ((tz V).1 : Int)) (x + (tz V).2) = true
      obtain ⟨m, hme⟩ : ∃ m, m = (if neg = true then -((tz V).1 : Int) else ((tz V).1 : Int)) := ⟨_, rfl⟩
      rw [← hme] at hA ⊢
      unfold rightB
      have hmod : m.tmod 10 ≠ 0 := by
        intro e
        have : (m.tmod 10).natAbs = m.natAbs % 10 := by rw [Int.natAbs_tmod]; rfl
        rw [e, hA] at this
        simp at this; omega
      rw [if_neg (by omega), if_neg (fun h => h.elim hmod (fun h => by omega)), hA]
      simp; omega
theorem roundN_right (neg : Bool) (V : Nat) (x : Int) : rightB (roundN neg V x).1 (roundN neg V x).2.1 = true := by
  unfold roundN
  split
  · rfl
  · split
    · rfl
    · unfold mainN
      apply end_right
      · have h1 := (evenN_le (V := evenN V (nd V - 15)) (k := (-40 - (x + ((nd V - 15 : Nat) : Int))).toNat)).2
        refine Nat.le_trans h1 (Nat.le_trans evenN_le.1 ?_)
        have h2 := lt_pow_nd V
        have h3 : V < 10 ^ 15 * 10 ^ (nd V - 15) := by
          rw [← Nat.pow_add]
          exact Nat.lt_of_lt_of_le h2 (Nat.pow_le_pow_right (by decide) (by omega))
        have h4 : V / 10 ^ (nd V - 15) < 10 ^ 15 := (Nat.div_lt_iff_lt_mul (pow_pos10 _)).2 h3
        omega
      · omega
theorem dg_append : ∀ (a b acc : List UInt8), dg acc (a ++ b) = dg (dg acc a) b
  | [], b, acc => rfl
  | c :: t, b, acc => by
    rw [List.cons_append, dg, dg]
    split
    · exact dg_append t b acc
    · exact dg_append t b _
theorem dig48 {m : Nat} (h : m < 10) : UInt8.ofNat (48 + m) - 48 = UInt8.ofNat m ∧ (UInt8.ofNat m).toNat = m ∧ UInt8.ofNat (48 + m) ≠ 45 ∧ (UInt8.ofNat (48 + m) = 48 ↔ m = 0) := by
  have : m = 0 ∨ m = 1 ∨ m = 2 ∨ m = 3 ∨ m = 4 ∨ m = 5 ∨ m = 6 ∨ m = 7 ∨ m = 8 ∨ m = 9 := by omega
  rcases this with rfl | rfl | rfl | rfl | rfl | rfl | rfl | rfl | rfl | rfl <;> decide
theorem dg_one {m : Nat} (h : m < 10) (acc : List UInt8) (ha : acc ≠ [] ∨ m ≠ 0) : dg acc [UInt8.ofNat (48 + m)] = acc ++ [UInt8.ofNat m] := by
  obtain ⟨h1, h2, h3, h4⟩ := dig48 h
  rw [dg, if_neg, h1]
  · rfl
  · rintro (h5 | ⟨h5, h6⟩)
    · exact h3 h5
    · rcases ha with ha | ha
      · exact ha h6
      · exact ha (h4.1 h5)
theorem dec_digs (u : Nat) : valN (dg [] (Lib.decDigits u)) = u ∧ Dig (dg [] (Lib.decDigits u)) ∧ NZ (dg [] (Lib.decDigits u)) := by
  induction u using Nat.strongRecOn with
  | ind u ih =>
    rw [Lib.decDigits]
    by_cases h : u < 10
    · rw [dif_pos h]
      by_cases h0 : u = 0
      · subst h0; exact ⟨rfl, by intro y hy; simp [dg] at hy, by intro t; simp [dg]⟩
      · obtain ⟨h1, h2, h3, h4⟩ := dig48 h
        rw [dg_one h [] (.inr h0), List.nil_append]
        refine ⟨by rw [valN_cons, h2]; simp [valN], Dig.mk (by omega) (by intro y hy; simp at hy), ?_⟩
        intro t e
        simp at e
        rw [e.1] at h2
        exact h0 h2.symm
    · rw [dif_neg h, dg_append]
      obtain ⟨i1, i2, i3⟩ := ih (u / 10) (by omega)
      have hm : u % 10 < 10 := by omega
      obtain ⟨h1, h2, h3, h4⟩ := dig48 hm
      have hne : dg [] (Lib.decDigits (u / 10)) ≠ [] := by intro e; rw [e] at i1; simp [valN] at i1; omega
      rw [dg_one hm _ (.inl hne)]
      refine ⟨by rw [valN_snoc, i1, h2]; omega, ?_, ?_⟩
      · intro y hy
        rcases List.mem_append.1 hy with hy | hy
        · exact i2 y hy
        · simp at hy; rw [hy, h2]; omega
      · intro t e
        cases hd : dg [] (Lib.decDigits (u / 10)) with
        | nil => exact hne hd
        | cons c s => rw [hd] at e i3; simp at e; exact i3 s (by rw [e.1])
theorem digs_val (m : Int) : valN (digs m) = m.natAbs ∧ Dig (digs m) ∧ NZ (digs m) := by
  unfold digs Lib.itoa
  split
  · rw [dg, if_pos (.inl rfl)]
    exact dec_digs m.natAbs
  · rw [show m.toNat = m.natAbs by omega]
    exact dec_digs m.natAbs
theorem digs_len (m : Int) : (digs m).length = nd m.natAbs := by
  obtain ⟨h1, h2, h3⟩ := digs_val m
  rw [← h1, nd_len h2 h3]
def pad (n : Nat) (l : List UInt8) : Nat := valN l * 10 ^ (n - l.length)
theorem pad_cons (n : Nat) (x : UInt8) (t : List UInt8) (h : t.length ≤ n) : pad (n + 1) (x :: t) = x.toNat * 10 ^ n + pad n t := by
  unfold pad
  rw [valN_cons, List.length_cons, Nat.add_mul, Nat.mul_assoc, ← Nat.pow_add, show n + 1 - (t.length + 1) = n - t.length by omega, show t.length + (n - t.length) = n by omega]
theorem pad_lt {n : Nat} {l : List UInt8} (h : Dig l) (hl : l.length ≤ n) : pad n l < 10 ^ n := by
  unfold pad
  have h1 : valN l * 10 ^ (n - l.length) < 10 ^ l.length * 10 ^ (n - l.length) := Nat.mul_lt_mul_of_pos_right h.lt (pow_pos10 _)
  rwa [← Nat.pow_add, show l.length + (n - l.length) = n by omega] at h1
theorem pad_nil (n : Nat) : pad n [] = 0 := by simp [pad, valN]
theorem lex_pad : ∀ (A B : List UInt8) (n : Nat), Dig A → Dig B → A.length ≤ n → B.length ≤ n → (A < B → pad n A ≤ pad n B) ∧ (¬ A < B → pad n B ≤ pad n A)
  | [], B, n, _, _, _, _ => by
    rw [pad_nil]
    refine ⟨fun _ => Nat.zero_le _, fun h => ?_⟩
    cases B with
    | nil => rw [pad_nil]; exact Nat.le_refl _
    | cons y t => exact absurd (List.nil_lt_cons y t) h
  | x :: s, [], n, _, _, _, _ => by
    rw [pad_nil]
    exact ⟨fun h => absurd h (List.not_lt_nil _), fun _ => Nat.zero_le _⟩
  | x :: s, y :: t, 0, _, _, h, _ => by simp at h
  | x :: s, y :: t, n + 1, hA, hB, h1, h2 => by
    have hs : s.length ≤ n := by simpa using h1
    have ht : t.length ≤ n := by simpa using h2
    have ih := lex_pad s t n hA.cons.2 hB.cons.2 hs ht
    have p1 := pad_lt hA.cons.2 hs
    have p2 := pad_lt hB.cons.2 ht
    rw [pad_cons n x s hs, pad_cons n y t ht, List.cons_lt_cons_iff]
    have hlt : ∀ (u v : UInt8), u < v ↔ u.toNat < v.toNat := fun u v => UInt8.lt_iff_toNat_lt
    have key : ∀ (i j a b P : Nat), i < j → a < P → i * P + a ≤ j * P + b := by
      intro i j a b P hij ha
      have : (i + 1) * P ≤ j * P := Nat.mul_le_mul_right _ hij
      rw [Nat.add_mul] at this; omega
    by_cases c1 : x.toNat < y.toNat
    · refine ⟨fun _ => key _ _ _ _ _ c1 p1, fun h => absurd (.inl ((hlt x y).2 c1)) h⟩
    · by_cases c2 : y.toNat < x.toNat
      · refine ⟨fun h => ?_, fun _ => key _ _ _ _ _ c2 p2⟩
        rcases h with h | ⟨h, _⟩
        · exact absurd ((hlt x y).1 h) c1
        · subst h; omega
      · have e : x = y := UInt8.toNat_inj.1 (by omega)
        subst e
        refine ⟨fun h => ?_, fun h => ?_⟩
        · rcases h with h | ⟨_, h⟩
          · exact absurd ((hlt x x).1 h) c1
          · have := ih.1 h; omega
        · have := ih.2 (fun h2 => h (.inr ⟨rfl, h2⟩)); omega

/-- a number's value, in units of 10 to the power -40 -/
def vI (m e : Int) : Int := m * 10 ^ (e + 40).toNat
theorem rightB_zero {e : Int} (h : rightB 0 e = true) : e = 0 := by simpa [rightB] using h
theorem right_mod {m e : Int} (h : rightB m e = true) (hm : m ≠ 0) : m.natAbs % 10 ≠ 0 ∧ nd m.natAbs ≤ 15 ∧ -40 ≤ e ∧ (nd m.natAbs : Int) + e ≤ 40 := by
  unfold rightB at h
  rw [if_neg hm] at h
  by_cases h2 : m.tmod 10 = 0 ∨ e < -40
  · rw [if_pos h2] at h; simp at h
  · rw [if_neg h2] at h
    have h3 : nd m.natAbs ≤ 15 ∧ e ≤ 40 - (nd m.natAbs : Int) := by simpa using h
    refine ⟨?_, h3.1, by omega, by omega⟩
    intro e0
    apply h2
    left
    have : (m.tmod 10).natAbs = m.natAbs % 10 := by rw [Int.natAbs_tmod]; rfl
    omega
theorem canon {M N j k : Nat} (hM : M % 10 ≠ 0) (hN : N % 10 ≠ 0) (h : M * 10 ^ j = N * 10 ^ k) : M = N ∧ j = k := by
  have key : ∀ (M N j k : Nat), M % 10 ≠ 0 → M * 10 ^ j = N * 10 ^ k → j < k → False := by
    intro M N j k hM h hjk
    rw [show k = (k - j - 1) + 1 + j by omega, Nat.pow_add, ← Nat.mul_assoc] at h
    have h2 := Nat.eq_of_mul_eq_mul_right (pow_pos10 j) h
    rw [Nat.pow_succ, ← Nat.mul_assoc] at h2
    omega
  have hjk : j = k := by
    rcases Nat.lt_trichotomy j k with h1 | h1 | h1
    · exact (key M N j k hM h h1).elim
    · exact h1
    · exact (key N M k j hN h.symm h1).elim
  subst hjk
  exact ⟨Nat.eq_of_mul_eq_mul_right (pow_pos10 j) h, rfl⟩
theorem vI_abs (m e : Int) : (vI m e).natAbs = m.natAbs * 10 ^ (e + 40).toNat := by
  unfold vI
  rw [Int.natAbs_mul, Int.natAbs_pow]; rfl
theorem vI_neg (m e : Int) : vI (-m) e = -vI m e := by unfold vI; rw [Int.neg_mul]
theorem pow_posI (n : Nat) : (0 : Int) < 10 ^ n := Int.pow_pos (by decide)
theorem vI_pos {m e : Int} : 0 < vI m e ↔ 0 < m := by
  unfold vI
  have := pow_posI (e + 40).toNat
  constructor
  · intro h
    by_cases h2 : 0 < m
    · exact h2
    · have : m * 10 ^ (e + 40).toNat ≤ 0 := Int.mul_nonpos_of_nonpos_of_nonneg (by omega) (by omega)
      omega
  · intro h; exact Int.mul_pos h this
theorem vI_negp {m e : Int} : vI m e < 0 ↔ m < 0 := by
  have := vI_pos (m := -m) (e := e)
  rw [vI_neg] at this
  omega
theorem vI_zero {m e : Int} : vI m e = 0 ↔ m = 0 := by
  have h1 := vI_pos (m := m) (e := e)
  have h2 := vI_negp (m := m) (e := e)
  omega
theorem vI_inj {a b c d : Int} (h1 : rightB a b = true) (h2 : rightB c d = true) (h : vI a b = vI c d) : a = c ∧ b = d := by
  by_cases ha : a = 0
  · subst ha
    have hc : c = 0 := by
      rw [show vI 0 b = 0 from vI_zero.2 rfl] at h
      exact vI_zero.1 h.symm
    subst hc
    rw [rightB_zero h1, rightB_zero h2]; exact ⟨rfl, rfl⟩
  · have hc : c ≠ 0 := by
      intro hc; subst hc
      rw [show vI 0 d = 0 from vI_zero.2 rfl] at h
      exact ha (vI_zero.1 h)
    obtain ⟨p1, p2, p3, p4⟩ := right_mod h1 ha
    obtain ⟨q1, q2, q3, q4⟩ := right_mod h2 hc
    have hn := congrArg Int.natAbs h
    rw [vI_abs, vI_abs] at hn
    obtain ⟨r1, r2⟩ := canon p1 q1 hn
    have s1 := vI_pos (m := a) (e := b)
    have s2 := vI_pos (m := c) (e := d)
    rw [h] at s1
    omega
/-- how one value stands to another one -/
def cmpI (u v : Int) : Int := if u < v then -1 else if u = v then 0 else 1
/-- two numbers above 0, their digits held against each other -/
def sizeI (a b c d : Int) : Int := if ((digs a).length : Int) + b < (digs c).length + d ∨ ((digs a).length : Int) + b = (digs c).length + d ∧ digs a < digs c then -1 else 1
theorem pow_le10 {j k : Nat} (h : j ≤ k) : 10 ^ j ≤ 10 ^ k := Nat.pow_le_pow_right (by decide) h
theorem nd_low {u : Nat} (h : u ≠ 0) : 10 ^ (nd u - 1) ≤ u := by
  rcases Nat.lt_or_ge u (10 ^ (nd u - 1)) with h1 | h1
  · have := nd_le _ _ h1
    have h2 : nd u ≠ 0 := by rw [nd, dif_neg h]; omega
    omega
  · exact h1
theorem size_val {a b c d : Int} (h1 : rightB a b = true) (h2 : rightB c d = true) (ha : 0 < a) (hc : 0 < c) (hne : ¬ (a = c ∧ b = d)) : sizeI a b c d = cmpI (vI a b) (vI c d) := by
  obtain ⟨p1, p2, p3, p4⟩ := right_mod h1 (by omega)
  obtain ⟨q1, q2, q3, q4⟩ := right_mod h2 (by omega)
  have hni : vI a b ≠ vI c d := fun e => hne (vI_inj h1 h2 e)
  have eA : vI a b = ((a.natAbs * 10 ^ (b + 40).toNat : Nat) : Int) := by
    rw [← vI_abs]; have := vI_pos (m := a) (e := b); omega
  have eC : vI c d = ((c.natAbs * 10 ^ (d + 40).toNat : Nat) : Int) := by
    rw [← vI_abs]; have := vI_pos (m := c) (e := d); omega
  obtain ⟨a1, a2, a3⟩ := digs_val a
  obtain ⟨c1, c2, c3⟩ := digs_val c
  have la := digs_len a
  have lc := digs_len c
  have key : ∀ (x y z u : Int), rightB x y = true → rightB z u = true → 0 < x → 0 < z → (nd x.natAbs : Int) + y < nd z.natAbs + u → x.natAbs * 10 ^ (y + 40).toNat < z.natAbs * 10 ^ (u + 40).toNat := by
    intro x y z u hx hz x0 z0 hl
    obtain ⟨r1, r2, r3, r4⟩ := right_mod hx (by omega)
    obtain ⟨s1, s2, s3, s4⟩ := right_mod hz (by omega)
    have k1 : x.natAbs * 10 ^ (y + 40).toNat < 10 ^ nd x.natAbs * 10 ^ (y + 40).toNat := Nat.mul_lt_mul_of_pos_right (lt_pow_nd _) (pow_pos10 _)
    have k2 : 10 ^ (nd z.natAbs - 1) * 10 ^ (u + 40).toNat ≤ z.natAbs * 10 ^ (u + 40).toNat := Nat.mul_le_mul_right _ (nd_low (by omega))
    rw [← Nat.pow_add] at k1 k2
    have hz1 : nd z.natAbs ≠ 0 := by rw [nd, dif_neg (by omega)]; omega
    have := pow_le10 (show nd x.natAbs + (y + 40).toNat ≤ nd z.natAbs - 1 + (u + 40).toNat by omega)
    omega
  unfold sizeI
  rw [la, lc]
  by_cases g1 : (nd a.natAbs : Int) + b < nd c.natAbs + d
  · rw [if_pos (.inl g1)]
    have := key a b c d h1 h2 ha hc g1
    rw [cmpI, if_pos (by rw [eA, eC]; omega)]
  · by_cases g2 : (nd a.natAbs : Int) + b = nd c.natAbs + d
    · -- the same place ahead: the digits tell
      obtain ⟨x1, x2⟩ := lex_pad (digs a) (digs c) 200 a2 c2 (by omega) (by omega)
      have e1 : pad 200 (digs a) * 10 ^ (nd a.natAbs + (b + 40).toNat) = a.natAbs * 10 ^ (b + 40).toNat * 10 ^ 200 := by
        unfold pad
        rw [a1, la, Nat.mul_assoc, Nat.mul_assoc, ← Nat.pow_add, ← Nat.pow_add, show 200 - nd a.natAbs + (nd a.natAbs + (b + 40).toNat) = (b + 40).toNat + 200 by omega]
      have e2 : pad 200 (digs c) * 10 ^ (nd a.natAbs + (b + 40).toNat) = c.natAbs * 10 ^ (d + 40).toNat * 10 ^ 200 := by
        unfold pad
        rw [c1, lc, Nat.mul_assoc, Nat.mul_assoc, ← Nat.pow_add, ← Nat.pow_add, show 200 - nd c.natAbs + (nd a.natAbs + (b + 40).toNat) = (d + 40).toNat + 200 by omega]
      by_cases g3 : digs a < digs c
      · rw [if_pos (.inr ⟨g2, g3⟩)]
        have h3 := Nat.mul_le_mul_right (10 ^ (nd a.natAbs + (b + 40).toNat)) (x1 g3)
        rw [e1, e2] at h3
        have h4 := Nat.le_of_mul_le_mul_right h3 (pow_pos10 200)
        rw [cmpI, if_pos (by rw [eA, eC] at hni ⊢; omega)]
      · rw [if_neg (fun h => h.elim g1 (fun h => g3 h.2))]
        have h3 := Nat.mul_le_mul_right (10 ^ (nd a.natAbs + (b + 40).toNat)) (x2 g3)
        rw [e1, e2] at h3
        have h4 := Nat.le_of_mul_le_mul_right h3 (pow_pos10 200)
        rw [cmpI, if_neg (by rw [eA, eC]; omega), if_neg hni]
    · rw [if_neg (fun h => h.elim g1 (fun h => g2 h.1))]
      have := key c d a b h2 h1 hc ha (by omega)
      rw [cmpI, if_neg (by rw [eA, eC]; omega), if_neg hni]
/-- the last d digits rounded, a half up -/
def upL (l : List UInt8) (d : Nat) : List UInt8 := if 5 ≤ (l[l.length - d]?.getD 0).toNat then oneMoreL (l.take (l.length - d)) else l.take (l.length - d)
def upN (V d : Nat) : Nat := (2 * V + 10 ^ d) / (2 * 10 ^ d)
theorem upL_val {l : List UInt8} (h : Dig l) {d : Nat} (hd : 0 < d) (hl : d ≤ l.length) : valN (upL l d) = upN (valN l) d ∧ Dig (upL l d) := by
  obtain ⟨K, hK⟩ : ∃ K, K = l.take (l.length - d) := ⟨_, rfl⟩
  have hk : l.length - d < l.length := by omega
  have hsp : l = K ++ (l[l.length - d] :: l.drop (l.length - d + 1)) := by
    rw [hK, ← List.drop_eq_getElem_cons hk, List.take_append_drop]
  have hKd : Dig K := by rw [hK]; exact h.take _
  obtain ⟨x, hx⟩ : ∃ x, x = l[l.length - d] := ⟨_, rfl⟩
  obtain ⟨t, ht⟩ : ∃ t, t = l.drop (l.length - d + 1) := ⟨_, rfl⟩
  have hxt : Dig (x :: t) := by
    have := h.drop (l.length - d)
    rwa [List.drop_eq_getElem_cons hk, ← hx, ← ht] at this
  have htl : t.length = d - 1 := by rw [ht, List.length_drop]; omega
  have hv : valN l = valN K * 10 ^ d + (x.toNat * 10 ^ (d - 1) + valN t) := by
    conv => lhs; rw [hsp]
    rw [← hx, ← ht, valN_append, valN_cons, List.length_cons, htl, show d - 1 + 1 = d by omega]
  have h1 := hxt.cons.2.lt
  have h2 := hxt.cons.1
  rw [htl] at h1
  obtain ⟨m1, m2, m3⟩ := more_val hKd
  have e10 : 10 ^ d = 10 ^ (d - 1) * 10 := by rw [← Nat.pow_succ, show (d - 1).succ = d by omega]
  have hp := pow_pos10 (d - 1)
  have key : ∀ r, r < 10 ^ d → (2 * (valN K * 10 ^ d + r) + 10 ^ d) / (2 * 10 ^ d) = valN K + (2 * r + 10 ^ d) / (2 * 10 ^ d) := by
    intro r _
    rw [show 2 * (valN K * 10 ^ d + r) + 10 ^ d = (2 * r + 10 ^ d) + (2 * 10 ^ d) * valN K by rw [Nat.mul_add, ← Nat.mul_assoc, Nat.mul_right_comm]; omega]
    rw [Nat.add_mul_div_left _ _ (by omega), Nat.add_comm]
  have hx5 : x.toNat * 10 ^ (d - 1) ≤ 9 * 10 ^ (d - 1) := Nat.mul_le_mul_right _ h2
  unfold upL upN
  rw [show l[l.length - d]?.getD 0 = x by rw [List.getElem?_eq_getElem hk, hx]; rfl, ← hK, hv, key _ (by omega)]
  by_cases h5 : 5 ≤ x.toNat
  · rw [if_pos h5, m1]
    have : 5 * 10 ^ (d - 1) ≤ x.toNat * 10 ^ (d - 1) := Nat.mul_le_mul_right _ h5
    refine ⟨?_, m2⟩
    rw [Nat.div_eq_of_lt_le (k := 1) (by omega) (by omega)]
  · rw [if_neg h5]
    have : x.toNat * 10 ^ (d - 1) ≤ 4 * 10 ^ (d - 1) := Nat.mul_le_mul_right _ (by omega)
    refine ⟨?_, hKd⟩
    rw [Nat.div_eq_of_lt (by omega)]; rfl

theorem nd_le_iff (u n : Nat) : nd u ≤ n ↔ u < 10 ^ n := by
  constructor
  · intro h
    have := lt_pow_nd u
    have := pow_le10 h
    omega
  · exact nd_le n u
/-- what the end of rounding tells -/
theorem end_val (neg : Bool) (V : Nat) (x : Int) (hx : -40 ≤ x) :
    (endN neg V x).2.2 = decide (V * 10 ^ (x + 40).toNat < 10 ^ 80) ∧ (V * 10 ^ (x + 40).toNat < 10 ^ 80 → vI (endN neg V x).1 (endN neg V x).2.1 = if neg then -((V * 10 ^ (x + 40).toNat : Nat) : Int) else ((V * 10 ^ (x + 40).toNat : Nat) : Int)) := by
  obtain ⟨t1, t2, t3⟩ := tz_eq V
  unfold endN
  by_cases h0 : (tz V).1 = 0
  · have : V = 0 := t2.1 h0
    rw [if_pos h0, this]
    refine ⟨by simp, fun _ => ?_⟩
    cases neg <;> simp [vI]
  · rw [if_neg h0]
    have hV : V * 10 ^ (x + 40).toNat = (tz V).1 * 10 ^ ((tz V).2 + (x + 40).toNat) := by
      conv => lhs; rw [t1]
      rw [Nat.mul_assoc, ← Nat.pow_add]
    have hlt : V * 10 ^ (x + 40).toNat < 10 ^ 80 ↔ (nd (tz V).1 : Int) + (x + (tz V).2) ≤ 40 := by
      rw [hV]
      by_cases hj : (tz V).2 + (x + 40).toNat ≤ 80
      · have e : 10 ^ 80 = 10 ^ (80 - ((tz V).2 + (x + 40).toNat)) * 10 ^ ((tz V).2 + (x + 40).toNat) := by rw [← Nat.pow_add]; congr 1; omega
        rw [e, Nat.mul_lt_mul_right (pow_pos10 _), ← nd_le_iff]; omega
      · have h1 := pow_le10 (show 80 ≤ (tz V).2 + (x + 40).toNat by omega)
        have h2 : 1 * 10 ^ ((tz V).2 + (x + 40).toNat) ≤ (tz V).1 * 10 ^ ((tz V).2 + (x + 40).toNat) := Nat.mul_le_mul_right _ (by omega)
        constructor
        · intro h; omega
        · intro h; omega
    by_cases h1 : 40 < (nd (tz V).1 : Int) + (x + (tz V).2)
    · rw [if_pos h1]
      have : ¬ V * 10 ^ (x + 40).toNat < 10 ^ 80 := fun h => by have := hlt.1 h; omega
      exact ⟨by simp [this], fun h => absurd h this⟩
    · rw [if_neg h1]
      have : V * 10 ^ (x + 40).toNat < 10 ^ 80 := hlt.2 (by omega)
      refine ⟨by simp [this], fun _ => ?_⟩
      have e : vI ((tz V).1 : Int) (x + (tz V).2) = ((V * 10 ^ (x + 40).toNat : Nat) : Int) := by
        rw [hV]; unfold vI
        rw [show (x + ((tz V).2 : Int) + 40).toNat = (tz V).2 + (x + 40).toNat by omega]
        simp
      cases neg
      · exact e
      · show vI (-((tz V).1 : Int)) _ = _
        rw [vI_neg, e]; rfl
/-- what Round comes to, of a right number -/
def roundP (m e p : Int) : Int × Int :=
  if -e ≤ p then (m, e) else if p < -40 then (0, 0) else if ((digs m).length : Int) < -p - e then (0, 0) else
    if (roundL (decide (m < 0)) (upL (digs m) (-p - e).toNat) (-p)).2.2 = true then ((roundL (decide (m < 0)) (upL (digs m) (-p - e).toNat) (-p)).1, (roundL (decide (m < 0)) (upL (digs m) (-p - e).toNat) (-p)).2.1) else (m, e)
/-- the nearest multiple of q, a half away from 0 -/
def nearN (V q : Nat) : Nat := (2 * V + q) / (2 * q) * q
def qP (p : Int) : Nat := 10 ^ (40 - p).toNat
theorem vI_lt {m e : Int} (h : rightB m e = true) : (vI m e).natAbs < 10 ^ 80 := by
  rw [vI_abs]
  by_cases hm : m = 0
  · subst hm; simp
  · obtain ⟨h1, h2, h3, h4⟩ := right_mod h hm
    have := lt_pow_nd m.natAbs
    have h5 : m.natAbs * 10 ^ (e + 40).toNat < 10 ^ nd m.natAbs * 10 ^ (e + 40).toNat := Nat.mul_lt_mul_of_pos_right this (pow_pos10 _)
    rw [← Nat.pow_add] at h5
    have := pow_le10 (show nd m.natAbs + (e + 40).toNat ≤ 80 by omega)
    omega
theorem nearN_mul (k q : Nat) (hq : 0 < q) : nearN (k * q) q = k * q := by
  unfold nearN
  rw [show 2 * (k * q) + q = q + 2 * q * k by rw [Nat.mul_comm k q, Nat.mul_assoc]; omega, Nat.add_mul_div_left _ _ (by omega), Nat.div_eq_of_lt (by omega), Nat.zero_add]
theorem nearN_zero {V q : Nat} (h : 2 * V < q) : nearN V q = 0 := by
  unfold nearN; rw [Nat.div_eq_of_lt (by omega), Nat.zero_mul]
theorem right_nz (m e : Int) (h : rightB m e = true) (hm : m = 0) : e = 0 := by subst hm; exact rightB_zero h
theorem roundP_right {m e : Int} (h : rightB m e = true) (p : Int) : rightB (roundP m e p).1 (roundP m e p).2 = true := by
  unfold roundP
  split
  · exact h
  · split
    · rfl
    · split
      · rfl
      · rename_i h1 h2 h3
        split
        · obtain ⟨d1, d2, d3⟩ := digs_val m
          rw [round_val _ _ (upL_val d2 (by omega) (by omega)).2]
          exact roundN_right _ _ _
        · exact h
theorem roundP_val {m e : Int} (h : rightB m e = true) (p : Int) : vI (roundP m e p).1 (roundP m e p).2 = if nearN (vI m e).natAbs (qP p) < 10 ^ 80 then (if m < 0 then -(nearN (vI m e).natAbs (qP p) : Int) else (nearN (vI m e).natAbs (qP p) : Int)) else vI m e := by
  have hlt := vI_lt h
  have hvn : (if m < 0 then -((vI m e).natAbs : Int) else ((vI m e).natAbs : Int)) = vI m e := by
    have h1 := vI_negp (m := m) (e := e)
    split <;> omega
  have hq : 0 < qP p := pow_pos10 _
  have be : -40 ≤ e ∧ e ≤ 40 := by
    by_cases hm : m = 0
    · rw [right_nz m e h hm]; decide
    · have := right_mod h hm; omega
  unfold roundP
  by_cases c1 : -e ≤ p
  · rw [if_pos c1]
    have hk : ∃ k, (vI m e).natAbs = k * qP p := by
      refine ⟨m.natAbs * 10 ^ ((e + 40).toNat - (40 - p).toNat), ?_⟩
      rw [vI_abs, Nat.mul_assoc]
      unfold qP
      rw [← Nat.pow_add, show (e + 40).toNat - (40 - p).toNat + (40 - p).toNat = (e + 40).toNat by omega]
    obtain ⟨k, hk⟩ := hk
    rw [hk, nearN_mul k _ hq, ← hk, if_pos hlt, hvn]
  · rw [if_neg c1]
    by_cases c2 : p < -40
    · rw [if_pos c2]
      have h1 : 10 ^ 81 ≤ qP p := pow_le10 (by omega)
      have h2 : 10 ^ 81 = 10 ^ 80 * 10 := Nat.pow_succ ..
      rw [nearN_zero (by omega)]
      simp [vI]
    · rw [if_neg c2]
      obtain ⟨d1, d2, d3⟩ := digs_val m
      have dl := digs_len m
      have hqe : qP p = 10 ^ (-p - e).toNat * 10 ^ (e + 40).toNat := by unfold qP; rw [← Nat.pow_add]; congr 1; omega
      by_cases c3 : ((digs m).length : Int) < -p - e
      · rw [if_pos c3]
        have h1 := lt_pow_nd m.natAbs
        have h2 := pow_le10 (show nd m.natAbs + 1 ≤ (-p - e).toNat by omega)
        rw [Nat.pow_succ] at h2
        have h3 : 2 * (m.natAbs * 10 ^ (e + 40).toNat) < 10 ^ (-p - e).toNat * 10 ^ (e + 40).toNat := by
          rw [← Nat.mul_assoc]; exact Nat.mul_lt_mul_of_pos_right (by omega) (pow_pos10 _)
        rw [nearN_zero (by rw [hqe, vI_abs]; exact h3)]
        simp [vI]
      · rw [if_neg c3]
        obtain ⟨u1, u2⟩ := upL_val d2 (d := (-p - e).toNat) (by omega) (by omega)
        rw [round_val _ _ u2, u1, d1]
        have hU : upN m.natAbs (-p - e).toNat ≤ 10 ^ 14 := by
          have hm15 : m.natAbs < 10 ^ 15 := by
            by_cases hm : m = 0
            · subst hm; decide
            · exact (nd_le_iff _ _).1 (right_mod h hm).2.1
          unfold upN
          have hp1 := pow_le10 (show 1 ≤ (-p - e).toNat by omega)
          have e15 : 10 ^ 15 = 10 ^ 14 * 10 := Nat.pow_succ ..
          refine Nat.le_of_lt_succ ((Nat.div_lt_iff_lt_mul (by omega)).2 ?_)
          have : 10 ^ 14 * (2 * 10) ≤ 10 ^ 14 * (2 * 10 ^ (-p - e).toNat) := Nat.mul_le_mul_left _ (by omega)
          rw [Nat.succ_mul]; omega
        have hnear : upN m.natAbs (-p - e).toNat * 10 ^ (-p + 40).toNat = nearN (vI m e).natAbs (qP p) := by
          unfold upN nearN
          rw [hqe, vI_abs]
          rw [show 2 * (m.natAbs * 10 ^ (e + 40).toNat) + 10 ^ (-p - e).toNat * 10 ^ (e + 40).toNat = (2 * m.natAbs + 10 ^ (-p - e).toNat) * 10 ^ (e + 40).toNat by rw [Nat.add_mul, Nat.mul_assoc]]
          rw [show 2 * (10 ^ (-p - e).toNat * 10 ^ (e + 40).toNat) = 2 * 10 ^ (-p - e).toNat * 10 ^ (e + 40).toNat by rw [Nat.mul_assoc]]
          rw [Nat.mul_div_mul_right _ _ (pow_pos10 _), ← Nat.pow_add]
          congr 2; omega
        obtain ⟨U, hUe⟩ : ∃ U, U = upN m.natAbs (-p - e).toNat := ⟨_, rfl⟩
        rw [← hUe] at hU hnear ⊢
        have hmain : (roundN (decide (m < 0)) U (-p)).2.2 = decide (U * 10 ^ (-p + 40).toNat < 10 ^ 80) ∧ (U * 10 ^ (-p + 40).toNat < 10 ^ 80 → vI (roundN (decide (m < 0)) U (-p)).1 (roundN (decide (m < 0)) U (-p)).2.1 = if decide (m < 0) = true then -((U * 10 ^ (-p + 40).toNat : Nat) : Int) else ((U * 10 ^ (-p + 40).toNat : Nat) : Int)) := by
          unfold roundN
          by_cases h0 : U = 0
          · rw [if_pos (.inl h0), h0]
            refine ⟨by simp, fun _ => ?_⟩
            simp [vI]
          · rw [if_neg (fun hh => hh.elim h0 (fun hh => by omega)), if_neg (by omega)]
            have hn : nd U - 15 = 0 := by
              have : nd U ≤ 15 := (nd_le_iff _ _).2 (by have := pow_le10 (show 14 + 1 ≤ 15 by omega); rw [Nat.pow_succ] at this; omega)
              omega
            unfold mainN
            rw [hn, evenN_zero, show (-40 - (-p + ((0 : Nat) : Int))).toNat = 0 by omega, evenN_zero, show (-p + ((0 : Nat) : Int) + ((0 : Nat) : Int)) = -p by omega]
            exact end_val _ U (-p) (by omega)
        rw [hnear] at hmain
        rw [hmain.1]
        by_cases c4 : nearN (vI m e).natAbs (qP p) < 10 ^ 80
        · rw [if_pos (by simpa using c4), if_pos c4]
          have := hmain.2 c4
          simp only at this ⊢
          rw [this]
          by_cases hm : m < 0 <;> simp [hm]
        · rw [if_neg (by simpa using c4), if_neg c4]
theorem nearN_mono {V W : Nat} (h : V ≤ W) (q : Nat) : nearN V q ≤ nearN W q := by
  unfold nearN
  exact Nat.mul_le_mul_right _ (Nat.div_le_div_right (by omega))
/-- rounding of a value to a place -/
def fP (v : Int) (p : Int) : Int := if nearN v.natAbs (qP p) < 10 ^ 80 then (if v < 0 then -(nearN v.natAbs (qP p) : Int) else (nearN v.natAbs (qP p) : Int)) else v
theorem roundP_f {m e : Int} (h : rightB m e = true) (p : Int) : vI (roundP m e p).1 (roundP m e p).2 = fP (vI m e) p := by
  rw [roundP_val h p, fP]
  simp only [vI_negp]
theorem near_over {V W : Nat} (p : Int) (hV : nearN V (qP p) < 10 ^ 80) (hW : ¬ nearN W (qP p) < 10 ^ 80) (hlt : W < 10 ^ 80) : nearN V (qP p) ≤ W := by
  have hq : 0 < qP p := pow_pos10 _
  by_cases c : p < -40
  · have h1 : 10 ^ 81 ≤ qP p := pow_le10 (by omega)
    have h2 : 10 ^ 81 = 10 ^ 80 * 10 := Nat.pow_succ ..
    exact absurd (by rw [nearN_zero (by omega)]; exact pow_pos10 80) hW
  · have hk : 10 ^ 80 = qP p * 10 ^ (80 - (40 - p).toNat) := by unfold qP; rw [← Nat.pow_add]; congr 1; omega
    obtain ⟨k, hke⟩ : ∃ k, k = 10 ^ (80 - (40 - p).toNat) := ⟨_, rfl⟩
    rw [← hke] at hk
    obtain ⟨q, hqe⟩ : ∃ q, q = qP p := ⟨_, rfl⟩
    rw [hk] at hV hW
    rw [← hqe] at hV hW hq ⊢
    unfold nearN at hV hW ⊢
    obtain ⟨j, hj⟩ : ∃ j, j = (2 * V + q) / (2 * q) := ⟨_, rfl⟩
    obtain ⟨i, hi⟩ : ∃ i, i = (2 * W + q) / (2 * q) := ⟨_, rfl⟩
    rw [← hj] at hV ⊢
    rw [← hi] at hW
    rw [Nat.mul_comm q k] at hV hW
    have hjk : j < k := Nat.lt_of_mul_lt_mul_right hV
    have hik : k ≤ i := by
      rcases Nat.lt_or_ge i k with h | h
      · exact absurd (Nat.mul_lt_mul_of_pos_right h hq) hW
      · exact h
    have h3 : i * (2 * q) ≤ 2 * W + q := by rw [hi]; exact Nat.div_mul_le_self _ _
    have h4 : (j + 1) * (2 * q) ≤ i * (2 * q) := Nat.mul_le_mul_right _ (by omega)
    have h5 : (j + 1) * (2 * q) = 2 * (j * q) + 2 * q := by rw [Nat.add_mul, Nat.one_mul, ← Nat.mul_assoc, Nat.mul_comm j 2, Nat.mul_assoc]
    omega
theorem fP_again {v : Int} (p : Int) : fP (fP v p) p = fP v p := by
  have hq : 0 < qP p := pow_pos10 _
  by_cases h : nearN v.natAbs (qP p) < 10 ^ 80
  · have e : fP v p = if v < 0 then -(nearN v.natAbs (qP p) : Int) else (nearN v.natAbs (qP p) : Int) := by rw [fP, if_pos h]
    have ea : (fP v p).natAbs = nearN v.natAbs (qP p) := by rw [e]; split <;> omega
    have en : nearN (nearN v.natAbs (qP p)) (qP p) = nearN v.natAbs (qP p) := nearN_mul _ _ hq
    have e2 : fP (fP v p) p = if fP v p < 0 then -(nearN v.natAbs (qP p) : Int) else (nearN v.natAbs (qP p) : Int) := by
      rw [fP, ea, en, if_pos h]
    rw [e2, e]
    by_cases h0 : nearN v.natAbs (qP p) = 0
    · rw [h0]; simp
    · by_cases hv : v < 0
      · rw [if_pos hv, if_pos (by omega)]
      · rw [if_neg hv, if_neg (by omega)]
  · have e : fP v p = v := by rw [fP, if_neg h]
    rw [e, e]
theorem fP_mono {u v : Int} (p : Int) (hu : u.natAbs < 10 ^ 80) (hv : v.natAbs < 10 ^ 80) (h : u ≤ v) : fP u p ≤ fP v p := by
  unfold fP
  have h1 : u.natAbs ≤ v.natAbs → nearN u.natAbs (qP p) ≤ nearN v.natAbs (qP p) := fun h => nearN_mono h _
  have h2 : v.natAbs ≤ u.natAbs → nearN v.natAbs (qP p) ≤ nearN u.natAbs (qP p) := fun h => nearN_mono h _
  have o1 := fun a b => near_over (V := u.natAbs) (W := v.natAbs) p a b hv
  have o2 := fun a b => near_over (V := v.natAbs) (W := u.natAbs) p a b hu
  by_cases c1 : nearN u.natAbs (qP p) < 10 ^ 80 <;> by_cases c2 : nearN v.natAbs (qP p) < 10 ^ 80
  · rw [if_pos c1, if_pos c2]
    split <;> split <;> omega
  · rw [if_pos c1, if_neg c2]
    have := o1 c1 c2
    split <;> omega
  · rw [if_neg c1, if_pos c2]
    have := o2 c2 c1
    split <;> omega
  · rw [if_neg c1, if_neg c2]; exact h
theorem roundP_again {m e : Int} (h : rightB m e = true) (p : Int) : roundP (roundP m e p).1 (roundP m e p).2 p = roundP m e p := by
  have h1 := roundP_right h p
  have h2 := roundP_f h1 p
  rw [roundP_f h p, fP_again, ← roundP_f h p] at h2
  obtain ⟨e1, e2⟩ := vI_inj (roundP_right h1 p) h1 h2
  exact Prod.ext e1 e2
theorem roundP_mono {a b c d : Int} (h1 : rightB a b = true) (h2 : rightB c d = true) (p : Int) (h : vI a b ≤ vI c d) : vI (roundP a b p).1 (roundP a b p).2 ≤ vI (roundP c d p).1 (roundP c d p).2 := by
  rw [roundP_f h1, roundP_f h2]
  exact fP_mono p (vI_lt h1) (vI_lt h2) h
end Go.Proofs.YtkdjdoncmihkfaaDoor
