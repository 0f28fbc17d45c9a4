/- Values and arrays: the mathematics. -/
import Derived.WalkKit
import Derived.Lib.Hide
namespace Go.Proofs.YtfgddhabepllfaaDoor
open Go.RowKit

/-- a value -/
structure Vl where
  k : Int
  m : Int
  e : Int
  t : ByteArray
  b : Bool
  f : Int
theorem Vl.ext' {x y : Vl} (h1 : x.k = y.k) (h2 : x.m = y.m) (h3 : x.e = y.e) (h4 : x.t = y.t) (h5 : x.b = y.b) (h6 : x.f = y.f) : x = y := by
  cases x; cases y; simp_all
def eqV (x y : Vl) : Bool := decide (x.k = y.k ∧ x.m = y.m ∧ x.e = y.e ∧ x.t = y.t ∧ x.b = y.b ∧ x.f = y.f)
theorem eqV_iff (x y : Vl) : eqV x y = true ↔ x = y := by
  unfold eqV
  rw [decide_eq_true_eq]
  exact ⟨fun ⟨a, b, c, d, e, f⟩ => Vl.ext' a b c d e f, fun h => by subst h; exact ⟨rfl, rfl, rfl, rfl, rfl, rfl⟩⟩
theorem eqV_refl (x : Vl) : eqV x x = true := (eqV_iff x x).2 rfl
theorem eqV_ne {x y : Vl} (h : x ≠ y) : eqV x y = false := by
  cases hc : eqV x y with
  | false => rfl
  | true => exact absurd ((eqV_iff x y).1 hc) h
def bs0 : ByteArray := ⟨#[]⟩
def zV : Vl := ⟨0, 0, 0, bs0, false, 0⟩
def fV (f : Int) : Vl := ⟨4, 0, 0, bs0, false, f⟩
def naV : Vl := fV 6
def fault? (f : Int) : Bool := decide (1 ≤ f ∧ f ≤ 9)
def badV (f : Int) : Vl := fV (if fault? f then f else 9)

/-- an array -/
structure Ar where
  r : Int
  c : Int
  l : List Vl
def eqL : List Vl → List Vl → Bool
  | [], [] => true
  | x :: l, y :: m => eqV x y && eqL l m
  | _, _ => false
theorem eqL_iff : ∀ l m : List Vl, eqL l m = true ↔ l = m
  | [], [] => by simp [eqL]
  | [], _ :: _ => by simp [eqL]
  | _ :: _, [] => by simp [eqL]
  | x :: l, y :: m => by simp [eqL, eqV_iff, eqL_iff l m]
def sameA (a b : Ar) : Bool := decide (a.r = b.r ∧ a.c = b.c) && eqL a.l b.l
theorem sameA_iff (a b : Ar) : sameA a b = true ↔ a = b := by
  unfold sameA
  rw [Bool.and_eq_true, decide_eq_true_eq, eqL_iff]
  constructor
  · rintro ⟨⟨h1, h2⟩, h3⟩; cases a; cases b; simp_all
  · intro h; subst h; exact ⟨⟨rfl, rfl⟩, rfl⟩
theorem sameA_refl (a : Ar) : sameA a a = true := (sameA_iff a a).2 rfl
def fitsB (r c : Int) : Bool := decide (1 ≤ r ∧ 1 ≤ c ∧ r ≤ 4096 ∧ c ≤ 4096 ∧ r * c ≤ 4096)

/-! ### what is made place by place -/
def row1 (F : Nat → Vl) (c : Nat) : List Vl := (List.range c).map F
theorem row1_len (F : Nat → Vl) (c : Nat) : (row1 F c).length = c := by simp [row1]
theorem row1_succ (F : Nat → Vl) (c : Nat) : row1 F (c + 1) = row1 F c ++ [F c] := by simp [row1, List.range_succ]
theorem row1_get (F : Nat → Vl) {c j : Nat} (h : j < c) : (row1 F c)[j]? = some (F j) := by simp [row1, h]
def bld : Nat → Nat → (Nat → Nat → Vl) → List Vl
  | 0, _, _ => []
  | r + 1, c, F => bld r c F ++ row1 (F r) c
theorem bld_len (c : Nat) (F : Nat → Nat → Vl) : ∀ r, (bld r c F).length = r * c
  | 0 => by simp [bld]
  | r + 1 => by rw [bld, List.length_append, bld_len c F r, row1_len, Nat.succ_mul]
theorem bld_get (c : Nat) (F : Nat → Nat → Vl) : ∀ (r i j : Nat), i < r → j < c → (bld r c F)[i * c + j]? = some (F i j)
  | 0, i, j, h, _ => by omega
  | r + 1, i, j, h, hj => by
    rw [bld]
    by_cases hi : i < r
    · have : i * c + j < r * c := by
        have : (i + 1) * c ≤ r * c := Nat.mul_le_mul_right c hi
        rw [Nat.succ_mul] at this; omega
      rw [List.getElem?_append_left (by rw [bld_len]; exact this)]
      exact bld_get c F r i j hi hj
    · obtain rfl : i = r := by omega
      rw [List.getElem?_append_right (by rw [bld_len]; omega), bld_len, Nat.add_sub_cancel_left]
      exact row1_get _ hj
theorem place (c n : Nat) (hc : 0 < c) : ∃ i j, n = i * c + j ∧ j < c := ⟨n / c, n % c, by rw [Nat.mul_comm]; exact (Nat.div_add_mod n c).symm, Nat.mod_lt _ hc⟩
theorem place_lt {r c i j : Nat} (h : i * c + j < r * c) : i < r := by
  rcases Nat.lt_or_ge i r with h1 | h1
  · exact h1
  · have := Nat.mul_le_mul_right c h1; omega
theorem place_in {r c i j : Nat} (h : i < r) (hj : j < c) : i * c + j < r * c := by
  have := Nat.mul_le_mul_right c h
  rw [Nat.succ_mul] at this; omega
theorem bld_ext {r c : Nat} {F : Nat → Nat → Vl} {l : List Vl} (hl : l.length = r * c) (h : ∀ i j, i < r → j < c → l[i * c + j]? = some (F i j)) : l = bld r c F := by
  apply List.ext_getElem?
  intro n
  by_cases hn : n < r * c
  · have hc : 0 < c := by
      rcases Nat.eq_zero_or_pos c with h0 | h0
      · subst h0; simp at hn
      · exact h0
    obtain ⟨i, j, rfl, hj⟩ := place c n hc
    have hi := place_lt hn
    rw [h i j hi hj, bld_get c F r i j hi hj]
  · rw [List.getElem?_eq_none (by omega), List.getElem?_eq_none (by rw [bld_len]; omega)]
theorem bld_congr {r c : Nat} {F G : Nat → Nat → Vl} (h : ∀ i j, i < r → j < c → F i j = G i j) : bld r c F = bld r c G :=
  bld_ext (bld_len _ _ _) (fun i j hi hj => by rw [bld_get c F r i j hi hj, h i j hi hj])
/-- the values so far: i whole rows, and j values -/
def bldP (c : Nat) (F : Nat → Nat → Vl) (i j : Nat) : List Vl := bld i c F ++ row1 (F i) j
theorem bldP_len (c : Nat) (F : Nat → Nat → Vl) (i j : Nat) : (bldP c F i j).length = i * c + j := by rw [bldP, List.length_append, bld_len, row1_len]
theorem bldP_succ (c : Nat) (F : Nat → Nat → Vl) (i j : Nat) : bldP c F i (j + 1) = bldP c F i j ++ [F i j] := by rw [bldP, row1_succ, ← List.append_assoc]; rfl
theorem bldP_row (c : Nat) (F : Nat → Nat → Vl) (i : Nat) : bldP c F (i + 1) 0 = bldP c F i c := by simp [bldP, bld, row1]
theorem bldP_zero (c : Nat) (F : Nat → Nat → Vl) : bldP c F 0 0 = [] := rfl
theorem bldP_all (c : Nat) (F : Nat → Nat → Vl) (r : Nat) : bldP c F r 0 = bld r c F := by simp [bldP, row1]

/-- the value at a place in a row of values -/
def gt (l : List Vl) (n : Nat) : Vl := l.getD n zV
theorem gt_some {l : List Vl} {n : Nat} (h : n < l.length) : l[n]? = some (gt l n) := by simp [gt, h]
theorem gt_bld {r c i j : Nat} {F : Nat → Nat → Vl} (hi : i < r) (hj : j < c) : gt (bld r c F) (i * c + j) = F i j := by
  unfold gt
  rw [List.getD_eq_getElem?_getD, bld_get c F r i j hi hj]; rfl
theorem bld_self {r c : Nat} {l : List Vl} (hl : l.length = r * c) : bld r c (fun i j => gt l (i * c + j)) = l :=
  (bld_ext hl (fun i j hi hj => gt_some (by rw [hl]; exact place_in hi hj))).symm

/-! ### shapes -/
def turnL (r c : Nat) (l : List Vl) : List Vl := bld c r (fun i j => gt l (j * c + i))
theorem turn_turn {r c : Nat} {l : List Vl} (hl : l.length = r * c) : turnL c r (turnL r c l) = l := by
  unfold turnL
  refine (bld_congr (G := fun i j => gt l (i * c + j)) (fun i j hi hj => ?_)).trans (bld_self hl)
  exact gt_bld hj hi
def partL (c : Nat) (l : List Vl) (row col rows cols : Nat) : List Vl := bld rows cols (fun i j => gt l ((row + i) * c + col + j))
def besF (ra ca : Nat) (la : List Vl) (rb cb : Nat) (lb : List Vl) (i j : Nat) : Vl :=
  if j < ca then (if i < ra then gt la (i * ca + j) else naV) else (if i < rb ∧ j - ca < cb then gt lb (i * cb + (j - ca)) else naV)
def besL (ra ca : Nat) (la : List Vl) (rb cb : Nat) (lb : List Vl) : List Vl := bld (max ra rb) (ca + cb) (besF ra ca la rb cb lb)
section
variable {ra ca rb cb i j : Nat} {la lb : List Vl}
theorem besF_l (h : j < ca) (hi : i < ra) : besF ra ca la rb cb lb i j = gt la (i * ca + j) := by unfold besF; rw [if_pos h, if_pos hi]
theorem besF_ln (h : j < ca) (hi : ¬ i < ra) : besF ra ca la rb cb lb i j = naV := by unfold besF; rw [if_pos h, if_neg hi]
theorem besF_r (h : ¬ j < ca) (hi : i < rb) (hj : j - ca < cb) : besF ra ca la rb cb lb i j = gt lb (i * cb + (j - ca)) := by unfold besF; rw [if_neg h, if_pos ⟨hi, hj⟩]
theorem besF_rn (h : ¬ j < ca) (hi : ¬ (i < rb ∧ j - ca < cb)) : besF ra ca la rb cb lb i j = naV := by unfold besF; rw [if_neg h, if_neg hi]
end
theorem bes_assoc {ra ca rb cb rc cc : Nat} {la lb lc : List Vl} :
    besL (max ra rb) (ca + cb) (besL ra ca la rb cb lb) rc cc lc = besL ra ca la (max rb rc) (cb + cc) (besL rb cb lb rc cc lc) := by
  unfold besL
  rw [show max (max ra rb) rc = max ra (max rb rc) by omega, show ca + cb + cc = ca + (cb + cc) by omega]
  refine bld_congr (fun i j hi hj => ?_)
  by_cases h1 : j < ca
  · by_cases h3 : i < max ra rb
    · rw [besF_l (by omega) h3, gt_bld h3 (by omega)]
      by_cases h4 : i < ra
      · rw [besF_l h1 h4, besF_l h1 h4]
      · rw [besF_ln h1 h4, besF_ln h1 h4]
    · rw [besF_ln (by omega) h3, besF_ln h1 (by omega)]
  · by_cases h2 : j < ca + cb
    · by_cases h3 : i < max rb rc
      · rw [besF_r (rb := max rb rc) h1 h3 (by omega), gt_bld h3 (by omega)]
        by_cases h5 : i < rb
        · rw [besF_l (by omega) (by omega), gt_bld (by omega) h2, besF_r h1 h5 (by omega), besF_l (by omega) h5]
        · rw [besF_ln (ra := rb) (by omega) h5]
          by_cases h4 : i < max ra rb
          · rw [besF_l (by omega) h4, gt_bld h4 h2, besF_rn h1 (by omega)]
          · rw [besF_ln (by omega) h4]
      · rw [besF_rn (rb := max rb rc) h1 (by omega)]
        by_cases h4 : i < max ra rb
        · rw [besF_l (by omega) h4, gt_bld h4 h2, besF_rn h1 (by omega)]
        · rw [besF_ln (by omega) h4]
    · by_cases h3 : i < rc
      · rw [besF_r h2 h3 (by omega), besF_r (rb := max rb rc) h1 (by omega) (by omega), gt_bld (show i < max rb rc by omega) (by omega), besF_r (by omega) h3 (by omega)]
        congr 2; omega
      · rw [besF_rn h2 (by omega)]
        by_cases h4 : i < max rb rc
        · rw [besF_r (rb := max rb rc) h1 h4 (by omega), gt_bld h4 (by omega), besF_rn (by omega) (by omega)]
        · rw [besF_rn (rb := max rb rc) h1 (by omega)]
theorem part_whole {r c : Nat} {l : List Vl} (hl : l.length = r * c) : partL c l 0 0 r c = l := by
  unfold partL
  simp only [Nat.zero_add, Nat.add_zero]
  exact bld_self hl
theorem part_left {ra ca rb cb : Nat} {la lb : List Vl} (hl : la.length = ra * ca) : partL (ca + cb) (besL ra ca la rb cb lb) 0 0 ra ca = la := by
  unfold partL besL
  refine (bld_congr (G := fun i j => gt la (i * ca + j)) (fun i j hi hj => ?_)).trans (bld_self hl)
  simp only [Nat.zero_add, Nat.add_zero]
  rw [gt_bld (by omega) (by omega)]
  rw [besF_l hj hi]
theorem part_right {ra ca rb cb : Nat} {la lb : List Vl} (hl : lb.length = rb * cb) : partL (ca + cb) (besL ra ca la rb cb lb) 0 ca rb cb = lb := by
  unfold partL besL
  refine (bld_congr (G := fun i j => gt lb (i * cb + j)) (fun i j hi hj => ?_)).trans (bld_self hl)
  simp only [Nat.zero_add]
  rw [show i * (ca + cb) + ca + j = i * (ca + cb) + (ca + j) by omega, gt_bld (by omega) (by omega)]
  rw [besF_r (by omega) hi (by omega)]
  congr 1; omega
/-- one below the other -/
def belL (ra ca : Nat) (la : List Vl) (rb cb : Nat) (lb : List Vl) : List Vl := turnL (max ca cb) (ra + rb) (besL ca ra (turnL ra ca la) cb rb (turnL rb cb lb))
end Go.Proofs.YtfgddhabepllfaaDoor
