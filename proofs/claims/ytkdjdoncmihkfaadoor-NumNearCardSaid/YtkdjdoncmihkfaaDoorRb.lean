/- The document's cut and Near: by value. -/
import Derived.Test.YtkdjdoncmihkfaaDoorRa
import Derived.Test.YtkdjdoncmihkfaaDoorNv
namespace Go.Proofs.YtkdjdoncmihkfaaDoor
open Go.RowKit

def evenM (V k : Nat) (M : Bool) : Nat := if 10 ^ k < 2 * (V % 10 ^ k) ∨ (2 * (V % 10 ^ k) = 10 ^ k ∧ (M = true ∨ V / 10 ^ k % 2 = 1)) then V / 10 ^ k + 1 else V / 10 ^ k
theorem evenM_false (V k : Nat) : evenM V k false = evenN V k := by unfold evenM evenN; simp
theorem evenM_small {V k : Nat} (M : Bool) (h : 2 * V < 10 ^ k) : evenM V k M = 0 := by
  unfold evenM
  rw [Nat.div_eq_of_lt (by omega), Nat.mod_eq_of_lt (by omega), if_neg (by omega)]
theorem all_zero (t : List UInt8) : t.all (· == 0) = true ↔ valN t = 0 := by
  have h := noughts_val t
  unfold noughts at h
  by_cases h1 : t.all (· == 0) = true
  · rw [if_pos h1] at h
    refine ⟨fun _ => ?_, fun _ => h1⟩
    apply Classical.byContradiction
    intro h2
    rw [if_neg h2] at h; simp at h
  · rw [if_neg h1] at h
    refine ⟨fun h3 => absurd h3 h1, fun h2 => ?_⟩
    rw [if_pos h2] at h; simp at h
theorem odd_cons0 (K : List UInt8) : oddL (0 :: K) = true ↔ valN K % 2 = 1 := by
  rw [odd_val, valN_cons]; simp
theorem up_val {K R : List UInt8} (hR : Dig R) (hne : R ≠ []) (M : Bool) : upR K R M = true ↔ (10 ^ R.length < 2 * valN R ∨ (2 * valN R = 10 ^ R.length ∧ (M = true ∨ valN K % 2 = 1))) := by
  cases R with
  | nil => exact absurd rfl hne
  | cons r t =>
    have ht := hR.cons.2.lt
    have hr9 := hR.cons.1
    have hp := pow_pos10 t.length
    have hm : moreL (r :: t) M (r :: t).length = true ↔ (M = true ∨ valN t ≠ 0) := by
      unfold moreL
      rw [List.take_length, List.drop_succ_cons, List.drop_zero]
      have h := all_zero t
      cases M <;> cases h2 : t.all (· == 0) <;> simp [h2] at h ⊢
      · exact h
      · exact h
    unfold upR
    simp only [List.getElem?_cons_zero, Option.getD_some, Bool.or_eq_true, Bool.and_eq_true, decide_eq_true_eq, beq_iff_eq, hm, odd_cons0]
    rw [valN_cons, List.length_cons, Nat.pow_succ]
    by_cases h5 : r.toNat = 5
    · rw [h5]
      constructor
      · rintro (h | ⟨_, h⟩)
        · omega
        · by_cases h0 : valN t = 0
          · right
            refine ⟨by omega, ?_⟩
            rcases h with (h | h) | h
            · exact .inl h
            · exact absurd h0 h
            · exact .inr h
          · left; omega
      · rintro (h | ⟨h1, h2⟩)
        · exact .inr ⟨rfl, .inl (.inr (by omega))⟩
        · exact .inr ⟨rfl, h2.elim (fun h => .inl (.inl h)) .inr⟩
    · by_cases hl : r.toNat < 5
      · have : r.toNat * 10 ^ t.length ≤ 4 * 10 ^ t.length := Nat.mul_le_mul_right _ (by omega)
        constructor
        · rintro (h | ⟨h, _⟩) <;> omega
        · rintro (h | ⟨h, _⟩) <;> omega
      · have : 6 * 10 ^ t.length ≤ r.toNat * 10 ^ t.length := Nat.mul_le_mul_right _ (by omega)
        constructor
        · intro _; left; omega
        · intro _; left; omega
def rcutL (l : List UInt8) (k : Nat) (M : Bool) : List UInt8 := if l.length < k then [] else cutD (l.take (l.length - k)) (l.drop (l.length - k)) M
theorem rcut_val {l : List UInt8} (h : Dig l) {k : Nat} (hk : 0 < k) (M : Bool) : valN (rcutL l k M) = evenM (valN l) k M ∧ Dig (rcutL l k M) ∧ NZ (rcutL l k M) := by
  unfold rcutL
  by_cases h2 : l.length < k
  · rw [if_pos h2]
    have hl := h.lt
    have hp : 10 ^ (l.length + 1) ≤ 10 ^ k := Nat.pow_le_pow_right (by decide) (by omega)
    rw [Nat.pow_succ] at hp
    exact ⟨by rw [evenM_small M (by omega)]; rfl, by intro y hy; simp at hy, NZ.nil⟩
  · rw [if_neg h2]
    have hlen : (l.drop (l.length - k)).length = k := by rw [List.length_drop]; omega
    obtain ⟨K, hK⟩ : ∃ K, K = l.take (l.length - k) := ⟨_, rfl⟩
    obtain ⟨R, hR⟩ : ∃ R, R = l.drop (l.length - k) := ⟨_, rfl⟩
    have hlKR : l = K ++ R := by rw [hK, hR, List.take_append_drop]
    have hDK : Dig K := by rw [hK]; exact h.take _
    have hDR : Dig R := by rw [hR]; exact h.drop _
    rw [← hK, ← hR]
    rw [← hR] at hlen
    have hlt := hDR.lt
    have hp := pow_pos10 R.length
    have hm : valN (K ++ R) % 10 ^ R.length = valN R := by rw [valN_append, Nat.mul_comm, Nat.mul_add_mod, Nat.mod_eq_of_lt hlt]
    have hd : valN (K ++ R) / 10 ^ R.length = valN K := by rw [valN_append, Nat.mul_comm, Nat.mul_add_div hp, Nat.div_eq_of_lt hlt]; rfl
    have hu := up_val (K := K) hDR (by intro e; rw [e] at hlen; simp at hlen; omega) M
    obtain ⟨m1, m2, m3⟩ := more_val hDK
    rw [hlKR, ← hlen]
    unfold evenM cutD
    rw [hm, hd]
    simp only [hu]
    split
    · exact ⟨m1, m2, m3⟩
    · exact ⟨strip_val K, strip_dig hDK, strip_nz K⟩
theorem rcut_len {l : List UInt8} {k : Nat} (M : Bool) (hk : k ≤ l.length) : (rcutL l k M).length ≤ l.length - k + 1 := by
  unfold rcutL
  rw [if_neg (by omega)]
  unfold cutD
  have h1 := more_length (l.take (l.length - k))
  have h2 := strip_length (l.take (l.length - k))
  rw [List.length_take] at h1 h2
  split <;> omega
theorem rcut_len2 (l : List UInt8) (k : Nat) (M : Bool) (hk : 0 < k) : (rcutL l k M).length ≤ l.length := by
  by_cases h : k ≤ l.length
  · have := rcut_len (l := l) M h; omega
  · unfold rcutL; rw [if_pos (by omega)]; simp
/-- the document's cut, of at least one digit -/
theorem rcut_any (A : Option Addr) (l : List UInt8) (c k : Nat) (M : Bool) (w : World) (hr : RdD w A l) (hc : l.length ≤ c) (hlm : l.length ≤ 100000) (hk : 0 < k) (hd : Dig l) :
    Calls Tryd.prog 76 #[.slice A l.length c, .int .i64 (k : Int), .bool M] w (SlD w (rcutL l k M)) := by
  unfold rcutL
  by_cases h : l.length < k
  · rw [if_pos h]; exact rcut_none A l c k M w h
  · rw [if_neg h]
    obtain ⟨b, off, rfl, _⟩ := hr (by omega)
    exact rcut_main b off c (l.length - k) k l.length l _ _ M w hr (by omega) rfl rfl rfl hk hc hlm hd _ rfl

/-- the document's Near, of a value -/
def nearM (neg : Bool) (V : Nat) (x : Int) (M : Bool) : Int × Int × Bool :=
  if x + ((nd V - 15 : Nat) : Int) < -40 then endN neg (evenN (if 15 < nd V then evenM V (nd V - 15) M else V) (-40 - (x + ((nd V - 15 : Nat) : Int))).toNat) (-40)
  else endN neg (if 15 < nd V then evenM V (nd V - 15) M else V) (x + ((nd V - 15 : Nat) : Int))
theorem near_main (neg : Bool) (V : Nat) (x : Int) : nearM neg V x false = mainN neg V x := by
  unfold nearM mainN
  have e1 : (if 15 < nd V then evenM V (nd V - 15) false else V) = evenN V (nd V - 15) := by
    by_cases h : 15 < nd V
    · rw [if_pos h, evenM_false]
    · rw [if_neg h, show nd V - 15 = 0 by omega, evenN_zero]
  rw [e1]
  by_cases h : x + ((nd V - 15 : Nat) : Int) < -40
  · rw [if_pos h]
    congr 1
    omega
  · rw [if_neg h, show (-40 - (x + ((nd V - 15 : Nat) : Int))).toNat = 0 by omega, evenN_zero]
    congr 1
    omega
theorem near_round (neg : Bool) (V : Nat) (x : Int) (h0 : V ≠ 0) (h1 : -1000 ≤ x) (h2 : x ≤ 1000) : nearM neg V x false = roundN neg V x := by
  rw [near_main]; unfold roundN
  rw [if_neg (by omega), if_neg (by omega)]

/-- the digits that Near ends with -/
def near1 (D : List UInt8) (M : Bool) : List UInt8 := if 15 < D.length then rcutL D (D.length - 15) M else D
def near2 (D : List UInt8) (x : Int) : List UInt8 × Int := if x < -40 ∧ D ≠ [] then (rcutL D (-40 - x).toNat false, -40) else (D, x)
theorem near1_val {D : List UInt8} (hd : Dig D) (hz : NZ D) (M : Bool) : valN (near1 D M) = (if 15 < nd (valN D) then evenM (valN D) (nd (valN D) - 15) M else valN D) ∧ Dig (near1 D M) ∧ NZ (near1 D M) := by
  rw [nd_len hd hz]; unfold near1
  by_cases h : 15 < D.length
  · rw [if_pos h, if_pos h]; exact rcut_val hd (by omega) M
  · rw [if_neg h, if_neg h]; exact ⟨rfl, hd, hz⟩
theorem near1_len (D : List UInt8) (M : Bool) : (near1 D M).length ≤ 16 := by
  unfold near1
  by_cases h : 15 < D.length
  · rw [if_pos h]
    have := rcut_len (l := D) (k := D.length - 15) M (by omega)
    omega
  · rw [if_neg h]; omega
theorem near2_len (D : List UInt8) (x : Int) : (near2 D x).1.length ≤ D.length := by
  unfold near2
  by_cases h : x < -40 ∧ D ≠ []
  · rw [if_pos h]; exact rcut_len2 _ _ _ (by omega)
  · rw [if_neg h]; exact Nat.le_refl _
theorem tz0 : tz 0 = (0, 0) := by rw [tz]; simp
theorem nil_val {l : List UInt8} (hz : NZ l) (h : valN l = 0) : l = [] := by
  cases l with
  | nil => rfl
  | cons c s => have := hz.pos; have := pow_pos10 s.length; omega
theorem near_val {D : List UInt8} (neg : Bool) (x : Int) (M : Bool) (hd : Dig D) (hz : NZ D) :
    finish neg (trim (near2 (near1 D M) (x + ((D.length - 15 : Nat) : Int)))).1 (trim (near2 (near1 D M) (x + ((D.length - 15 : Nat) : Int)))).2 = nearM neg (valN D) x M := by
  obtain ⟨a1, a2, a3⟩ := near1_val hd hz M
  unfold nearM
  rw [nd_len hd hz] at a1 ⊢
  rw [← a1]
  obtain ⟨D1, hD1⟩ : ∃ D1, D1 = near1 D M := ⟨_, rfl⟩
  obtain ⟨x1, hx1⟩ : ∃ x1, x1 = x + ((D.length - 15 : Nat) : Int) := ⟨_, rfl⟩
  rw [← hD1] at a2 a3 ⊢
  rw [← hx1]
  have key : ∀ (p : List UInt8 × Int), Dig p.1 → NZ p.1 → finish neg (trim p).1 (trim p).2 = endN neg (valN p.1) p.2 := by
    intro p h1 h2
    obtain ⟨c1, c2, c3, c4⟩ := trimz_val p.1.length p.1 p.2 rfl h1 h2
    rw [show trim p = trimz p.1.length p.1 p.2 from rfl, finish_val neg _ c3 c4, c1, c2]
    rfl
  by_cases hx : x1 < -40
  · rw [if_pos hx]
    by_cases hn : D1 = []
    · have e1 : near2 D1 x1 = ([], x1) := by unfold near2; rw [if_neg (fun h => h.2 hn), hn]
      rw [e1, hn, key _ (by intro y hy; simp at hy) NZ.nil]
      have e2 : evenN (valN []) (-40 - x1).toNat = 0 := evenN_small (by have := pow_pos10 (-40 - x1).toNat; simpa [valN] using this)
      rw [e2]
      unfold endN
      rw [show valN [] = 0 from rfl, tz0]; rfl
    · have e1 : near2 D1 x1 = (rcutL D1 (-40 - x1).toNat false, -40) := by unfold near2; rw [if_pos ⟨hx, hn⟩]
      obtain ⟨b1, b2, b3⟩ := rcut_val a2 (k := (-40 - x1).toNat) (by omega) false
      rw [e1, key _ b2 b3]
      simp only
      rw [b1, evenM_false]
  · rw [if_neg hx]
    have e1 : near2 D1 x1 = (D1, x1) := by unfold near2; rw [if_neg (fun h => hx h.1)]
    rw [e1, key _ a2 a3]

end Go.Proofs.YtkdjdoncmihkfaaDoor
