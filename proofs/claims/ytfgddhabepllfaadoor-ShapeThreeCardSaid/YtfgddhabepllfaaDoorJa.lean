/- Joining arrays: whichever two are joined first. -/
import Derived.Test.YtfgddhabepllfaaDoorZa
namespace Go.Proofs.YtfgddhabepllfaaDoor
open Go.RowKit

/-- an array with its shape in natural numbers -/
structure NAr where
  r : Nat
  c : Nat
  l : List Vl
def NAr.ar (a : NAr) : Ar := ⟨(a.r : Int), (a.c : Int), a.l⟩
def NAr.ok (a : NAr) : Prop := rightA a.ar = true ∧ WfL a.l
def besJ (a b : NAr) : Option NAr := if fitsB ((max a.r b.r : Nat) : Int) ((a.c + b.c : Nat) : Int) then some ⟨max a.r b.r, a.c + b.c, besL a.r a.c a.l b.r b.c b.l⟩ else none
def turnN (a : NAr) : NAr := ⟨a.c, a.r, turnL a.r a.c a.l⟩
def belJ (a b : NAr) : Option NAr := (besJ (turnN a) (turnN b)).map turnN
theorem NAr.ok.dims {a : NAr} (h : a.ok) : a.l.length = a.r * a.c ∧ a.r * a.c ≤ 4096 ∧ a.r ≤ 4096 ∧ a.c ≤ 4096 ∧ 1 ≤ a.r ∧ 1 ≤ a.c ∧ a.l.all rightV = true := right_nat h.1
theorem turn_ok {a : NAr} (h : a.ok) : (turnN a).ok := ⟨right_turn h.1, wf_turn h.dims.1 h.2⟩
theorem turnN_turnN {a : NAr} (h : a.ok) : turnN (turnN a) = a := by
  unfold turnN
  simp only
  rw [turn_turn h.dims.1]
theorem besJ_ok {a b x : NAr} (ha : a.ok) (hb : b.ok) (h : besJ a b = some x) : x.ok := by
  unfold besJ at h
  split at h
  · rename_i hf
    cases h
    exact ⟨right_bes ha.1 hb.1 hf, wf_bes ha.dims.1 hb.dims.1 ha.2 hb.2⟩
  · cases h
theorem belJ_ok {a b x : NAr} (ha : a.ok) (hb : b.ok) (h : belJ a b = some x) : x.ok := by
  unfold belJ at h
  obtain ⟨y, hy, rfl⟩ := Option.map_eq_some_iff.1 h
  exact turn_ok (besJ_ok (turn_ok ha) (turn_ok hb) hy)
theorem fits_mono {r c r' c' : Nat} (h : fitsB (r : Int) (c : Int) = true) (h1 : r' ≤ r) (h2 : c' ≤ c) (h3 : 1 ≤ r') (h4 : 1 ≤ c') : fitsB (r' : Int) (c' : Int) = true := by
  obtain ⟨g1, g2, g3, g4, g5⟩ := fits_nat.1 h
  exact fits_nat.2 ⟨h3, h4, by omega, by omega, Nat.le_trans (Nat.mul_le_mul h1 h2) g5⟩
theorem besJ_assoc {a b c : NAr} (ha : a.ok) (hb : b.ok) (hc : c.ok) : ((besJ a b).bind fun x => besJ x c) = (besJ b c).bind fun y => besJ a y := by
  obtain ⟨_, _, _, _, a5, a6, _⟩ := ha.dims
  obtain ⟨_, _, _, _, b5, b6, _⟩ := hb.dims
  obtain ⟨_, _, _, _, c5, c6, _⟩ := hc.dims
  have e1 : max (max a.r b.r) c.r = max a.r (max b.r c.r) := by omega
  have e2 : a.c + b.c + c.c = a.c + (b.c + c.c) := by omega
  cases hf : fitsB ((max a.r (max b.r c.r) : Nat) : Int) ((a.c + (b.c + c.c) : Nat) : Int) with
  | true =>
    have h1 := fits_mono (r' := max a.r b.r) (c' := a.c + b.c) hf (by omega) (by omega) (by omega) (by omega)
    have h2 := fits_mono (r' := max b.r c.r) (c' := b.c + c.c) hf (by omega) (by omega) (by omega) (by omega)
    unfold besJ
    rw [if_pos h1, if_pos h2]
    simp only [Option.bind_some]
    rw [e1, e2, if_pos hf, if_pos hf, bes_assoc]
  | false =>
    have hL : ((besJ a b).bind fun x => besJ x c) = none := by
      unfold besJ
      split
      · simp only [Option.bind_some]
        rw [e1, e2, if_neg (by rw [hf]; decide)]
      · rfl
    have hR : ((besJ b c).bind fun y => besJ a y) = none := by
      unfold besJ
      split
      · simp only [Option.bind_some]
        rw [if_neg (by rw [hf]; decide)]
      · rfl
    rw [hL, hR]
theorem belJ_assoc {a b c : NAr} (ha : a.ok) (hb : b.ok) (hc : c.ok) : ((belJ a b).bind fun x => belJ x c) = (belJ b c).bind fun y => belJ a y := by
  have h := besJ_assoc (turn_ok ha) (turn_ok hb) (turn_ok hc)
  unfold belJ
  have hl : (((besJ (turnN a) (turnN b)).map turnN).bind fun x => (besJ (turnN x) (turnN c)).map turnN) = (((besJ (turnN a) (turnN b)).bind fun x => besJ x (turnN c))).map turnN := by
    cases hx : besJ (turnN a) (turnN b) with
    | none => rfl
    | some x =>
      simp only [Option.map_some, Option.bind_some]
      rw [turnN_turnN (besJ_ok (turn_ok ha) (turn_ok hb) hx)]
  have hr : (((besJ (turnN b) (turnN c)).map turnN).bind fun y => (besJ (turnN a) (turnN y)).map turnN) = (((besJ (turnN b) (turnN c)).bind fun y => besJ (turnN a) y)).map turnN := by
    cases hx : besJ (turnN b) (turnN c) with
    | none => rfl
    | some x =>
      simp only [Option.map_some, Option.bind_some]
      rw [turnN_turnN (besJ_ok (turn_ok hb) (turn_ok hc) hx)]
  rw [hl, hr, h]
/-- what joins hand back -/
def JOut (w : World) : Option NAr → Ending → World → Prop
  | some x => ArOut2 w x.ar true
  | none => ArOut2 w zA false
/-- a function that joins -/
structure Joins (w : World) (N : Nat) (J : NAr → NAr → Option NAr) : Prop where
  ent : ∀ args w, (callFunc N args).run Tryd.prog w = .ok (.enter N args) w
  run : ∀ (a b : NAr) (va vb : Value) W, a.ok → b.ok → Below w.heap.size w W → ValAt W.heap.size W va a.l → ValAt W.heap.size W vb b.l → Calls Tryd.prog N #[arV a.r a.c va, arV b.r b.c vb] W (JOut W (J a b))
  ok : ∀ a b x, a.ok → b.ok → J a b = some x → x.ok
  assoc : ∀ a b c, a.ok → b.ok → c.ok → ((J a b).bind fun x => J x c) = (J b c).bind fun y => J a y
theorem bes_joins (w : World) (he : Env w) : Joins w 31 besJ := by
  refine ⟨enters_of Tryd.func31 (by kernel_rfl) rfl, fun a b va vb W ha hb hW hva hvb => ?_, fun _ _ _ => besJ_ok, fun _ _ _ => besJ_assoc⟩
  unfold besJ
  have hra := ha.1
  have hrb := hb.1
  unfold NAr.ar at hra hrb
  split
  · rename_i hf
    exact bes_yes hra hrb hf ha.2 hb.2 W (he.below hW) (Nat.le_refl _) hva hvb
  · rename_i hf
    exact bes_no hra hrb (by simpa using hf) ha.2 hb.2 W (he.below hW) (Nat.le_refl _) hva hvb
theorem bel_joins (w : World) (he : Env w) : Joins w 32 belJ := by
  refine ⟨enters_of Tryd.func32 (by kernel_rfl) rfl, fun a b va vb W ha hb hW hva hvb => ?_, fun _ _ _ => belJ_ok, fun _ _ _ => belJ_assoc⟩
  have hra := ha.1
  have hrb := hb.1
  have hta := (turn_ok ha)
  have htb := (turn_ok hb)
  unfold NAr.ar at hra hrb
  unfold belJ besJ
  cases hf : fitsB ((max (turnN a).r (turnN b).r : Nat) : Int) (((turnN a).c + (turnN b).c : Nat) : Int) with
  | true =>
    rw [if_pos rfl]
    exact below_yes hra hrb ha.2 hb.2 (M := max a.c b.c) (N := a.r + b.r) (L := besL a.c a.r (turnL a.r a.c a.l) b.c b.r (turnL b.r b.c b.l)) (right_bes hta.1 htb.1 hf) (wf_bes hta.dims.1 htb.dims.1 hta.2 htb.2) W (he.below hW) (Nat.le_refl _) hva hvb
      (fun X v1 v2 hX h1 h2 => bes_yes hta.1 htb.1 hf hta.2 htb.2 X ((he.below hW).below hX) (Nat.le_refl _) h1 h2)
  | false =>
    rw [if_neg (by decide)]
    exact below_no hra hrb ha.2 hb.2 (M := 0) (N := 0) (L := []) W (he.below hW) (Nat.le_refl _) hva hvb
      (fun X v1 v2 hX h1 h2 => bes_no hta.1 htb.1 hf hta.2 htb.2 X ((he.below hW).below hX) (Nat.le_refl _) h1 h2)
end Go.Proofs.YtfgddhabepllfaaDoor
