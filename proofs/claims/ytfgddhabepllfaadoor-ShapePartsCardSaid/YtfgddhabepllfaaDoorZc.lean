/- ShapeParts, of every two arrays. -/
import Derived.Test.YtfgddhabepllfaaDoorZb
namespace Go.Proofs.YtfgddhabepllfaaDoor
open Go.RowKit

theorem parts_any (r c : Int) {va : Value} {la : List Vl} {w : World} (hva : ValAt w.heap.size w va la) (hwa : WfL la) (r' c' : Int) {vb : Value} {lb : List Vl} (hvb : ValAt w.heap.size w vb lb) (hwb : WfL lb) (w' : World) (he : Env w') (hw : w' = w := by rfl) :
    Calls Tryd.prog 6 #[arV r c va, arV r' c' vb] w fun e w2 => e = .returned (.bool true) ∧ Below w.heap.size w w2 := by
  subst hw
  cases hs1 : smallB la with
  | false => exact parts_out r c r' c' false _ _ _ (.inl rfl) w' he hva hvb hs1 rfl rfl rfl
  | true =>
    cases hs2 : smallB lb with
    | false => exact parts_out r c r' c' true false _ _ (.inr (.inl rfl)) w' he hva hvb hs1 hs2 rfl rfl
    | true =>
      cases hr1 : rightA ⟨r, c, la⟩ with
      | false => exact parts_out r c r' c' true true false _ (.inr (.inr (.inl rfl))) w' he hva hvb hs1 hs2 hr1 rfl
      | true =>
        cases hr2 : rightA ⟨r', c', lb⟩ with
        | false => exact parts_out r c r' c' true true true false (.inr (.inr (.inr rfl))) w' he hva hvb hs1 hs2 hr1 hr2
        | true =>
          obtain ⟨ra, ca, rfl, rfl, _⟩ := right_dims hr1
          obtain ⟨rb, cb, rfl, rfl, _⟩ := right_dims hr2
          cases hf : fitsB ((max ra rb : Nat) : Int) ((ca + cb : Nat) : Int) with
          | false => exact parts_no w' he hva hvb hwa hwb hs1 hs2 hr1 hr2 hf
          | true => exact parts_yes w' he hva hvb hwa hwb hs1 hs2 hr1 hr2 hf
end Go.Proofs.YtfgddhabepllfaaDoor
