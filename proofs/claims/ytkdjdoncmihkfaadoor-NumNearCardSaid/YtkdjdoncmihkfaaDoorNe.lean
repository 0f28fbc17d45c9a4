/- What num.round comes to, in plain words; bounds. -/
import Derived.Test.YtkdjdoncmihkfaaDoorNd
namespace Go.Proofs.YtkdjdoncmihkfaaDoor
open Go.RowKit

/-- the last d digits cut off -/
def cutE (l : List UInt8) (x d : Int) : List UInt8 × Int :=
  if d ≤ 0 then (l, x) else if (l.length : Int) < d then ([], x + d) else (evenL (l.take (l.length - d.toNat)) (l.drop (l.length - d.toNat)), x + d)
/-- noughts behind cut off -/
def trimz : Nat → List UInt8 → Int → List UInt8 × Int
  | 0, l, e => (l, e)
  | n + 1, l, e => if l.getLast? = some 0 then trimz n l.dropLast (e + 1) else (l, e)
def valL (l : List UInt8) : Int := l.foldl (fun a d => a * 10 + (d.toNat : Int)) 0
def finish (neg : Bool) (l : List UInt8) (x : Int) : Int × Int × Bool :=
  if l = [] then (0, 0, true) else if 40 < l.length + x then (0, 0, false) else (if neg then -valL l else valL l, x, true)
def cut1 (D : List UInt8) (x : Int) : List UInt8 × Int := cutE D x (D.length - 15)
def cut2 (p : List UInt8 × Int) : List UInt8 × Int := cutE p.1 p.2 (-40 - p.2)
def trim (p : List UInt8 × Int) : List UInt8 × Int := trimz p.1.length p.1 p.2
def mainL (neg : Bool) (D : List UInt8) (x : Int) : Int × Int × Bool := finish neg (trim (cut2 (cut1 D x))).1 (trim (cut2 (cut1 D x))).2
def roundL (neg : Bool) (l : List UInt8) (x : Int) : Int × Int × Bool :=
  if strip l = [] ∨ x < -1000 then (0, 0, true) else if 1000 < x then (0, 0, false) else mainL neg (strip l) x
def numV (m e : Int) : Value := .agg #[.int .i64 m, .int .i64 e]
def numR (r : Int × Int × Bool) : Value := .tuple #[numV r.1 r.2.1, .bool r.2.2]

theorem strip_length : ∀ l, (strip l).length ≤ l.length
  | [] => by simp [strip]
  | c :: t => by
    have := strip_length t
    rw [strip]; split <;> simp <;> omega
theorem more_length (l : List UInt8) : (oneMoreL l).length ≤ l.length + 1 := by
  have h := strip_length (bump (0 :: l)).2
  rw [bump_length] at h
  exact h
theorem even_length (K R : List UInt8) : (evenL K R).length ≤ K.length + 1 := by
  unfold evenL
  have := more_length K
  split <;> omega
theorem cutE_length (l : List UInt8) (x d : Int) : (cutE l x d).1.length ≤ l.length := by
  unfold cutE
  by_cases h1 : d ≤ 0
  · rw [if_pos h1]; exact Nat.le_refl _
  · rw [if_neg h1]
    by_cases h2 : (l.length : Int) < d
    · rw [if_pos h2]; simp
    · rw [if_neg h2]
      have := even_length (l.take (l.length - d.toNat)) (l.drop (l.length - d.toNat))
      rw [List.length_take] at this
      show (evenL _ _).length ≤ _
      omega
theorem cutE_length16 (l : List UInt8) (x : Int) : (cutE l x (l.length - 15)).1.length ≤ 16 := by
  unfold cutE
  by_cases h1 : (l.length : Int) - 15 ≤ 0
  · rw [if_pos h1]; show l.length ≤ 16; omega
  · rw [if_neg h1]
    rw [if_neg (by omega)]
    have := even_length (l.take (l.length - ((l.length : Int) - 15).toNat)) (l.drop (l.length - ((l.length : Int) - 15).toNat))
    rw [List.length_take] at this
    show (evenL _ _).length ≤ _
    omega
theorem cutE_exp (l : List UInt8) (x d : Int) : (cutE l x d).2 = if d ≤ 0 then x else x + d := by
  unfold cutE
  by_cases h1 : d ≤ 0
  · rw [if_pos h1, if_pos h1]
  · rw [if_neg h1, if_neg h1]; split <;> rfl

/-- cutToEven, whatever is cut -/
theorem cut_any (A : Option Addr) (l : List UInt8) (c : Nat) (x d : Int) (w : World) (hr : Rd w A l) (hc : l.length ≤ c) (hcm : c ≤ 9223372036854775807) (hl : l.length ≤ 1000000) (hx0 : -1000000000 ≤ x) (hx1 : x ≤ 1000000000) (hd1 : d ≤ 1000000000) :
    Calls Tryd.prog 75 #[.slice A l.length c, .int .i64 x, .int .i64 d] w (SlE w (cutE l x d).1 (cutE l x d).2) := by
  unfold cutE
  by_cases h1 : d ≤ 0
  · rw [if_pos h1]; exact cut_none A l c x d w hr hc hcm h1
  · rw [if_neg h1]
    by_cases h2 : (l.length : Int) < d
    · rw [if_pos h2]; exact cut_all A l c x d w (by omega) h2 hd1 hx0 hx1
    · rw [if_neg h2]
      obtain ⟨b, off, rfl, _⟩ := hr (by omega)
      have := cut_part b off l (l.length - d.toNat) d.toNat c x w hr (by omega) (by omega) hc hcm hx0 hx1 hl
      rw [show ((d.toNat : Nat) : Int) = d by omega] at this
      exact this

theorem valL_snoc (l : List UInt8) (y : UInt8) : valL (l ++ [y]) = valL l * 10 + (y.toNat : Int) := by simp [valL]
theorem valL_bound : ∀ (n : Nat) (l : List UInt8), l.length = n → 0 ≤ valL l ∧ valL l ≤ 30 * 10 ^ n - 30
  | 0, l, h => by
    have : l = [] := List.eq_nil_of_length_eq_zero h
    subst this; simp [valL]
  | n + 1, l, h => by
    have hne : l ≠ [] := by intro e; subst e; simp at h
    obtain ⟨l', y, rfl⟩ : ∃ l' y, l = l' ++ [y] := ⟨l.dropLast, l.getLast hne, (List.dropLast_concat_getLast hne).symm⟩
    have ih := valL_bound n l' (by simpa using h)
    have hy := y.toNat_lt
    rw [valL_snoc, Int.pow_succ]; omega
end Go.Proofs.YtkdjdoncmihkfaaDoor
