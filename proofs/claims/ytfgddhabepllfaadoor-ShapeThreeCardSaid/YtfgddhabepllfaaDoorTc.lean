/- ShapeThree, of every three arrays. -/
import Derived.Test.YtfgddhabepllfaaDoorTb
namespace Go.Proofs.YtfgddhabepllfaaDoor
open Go.RowKit

theorem three_any (r1 k1 : Int) {va : Value} {la : List Vl} {w : World} (hva : ValAt w.heap.size w va la) (hwa : WfL la) (r2 k2 : Int) {vb : Value} {lb : List Vl} (hvb : ValAt w.heap.size w vb lb) (hwb : WfL lb) (r3 k3 : Int) {vc : Value} {lc : List Vl} (hvc : ValAt w.heap.size w vc lc) (hwc : WfL lc) (w' : World) (he : Env w') (hw : w' = w := by rfl) :
    Calls Tryd.prog 10 #[arV r1 k1 va, arV r2 k2 vb, arV r3 k3 vc] w fun e w2 => e = .returned (.bool true) ∧ Below w.heap.size w w2 := by
  subst hw
  cases hs1 : smallB la with
  | false => exact three_out r1 k1 r2 k2 r3 k3 false _ _ _ _ _ (.inl rfl) w' he hva hvb hvc hs1 rfl rfl rfl rfl rfl
  | true =>
    cases hs2 : smallB lb with
    | false => exact three_out r1 k1 r2 k2 r3 k3 true false _ _ _ _ (.inr (.inl rfl)) w' he hva hvb hvc hs1 hs2 rfl rfl rfl rfl
    | true =>
      cases hs3 : smallB lc with
      | false => exact three_out r1 k1 r2 k2 r3 k3 true true false _ _ _ (.inr (.inr (.inl rfl))) w' he hva hvb hvc hs1 hs2 hs3 rfl rfl rfl
      | true =>
        cases hr1 : rightA ⟨r1, k1, la⟩ with
        | false => exact three_out r1 k1 r2 k2 r3 k3 true true true false _ _ (.inr (.inr (.inr (.inl rfl)))) w' he hva hvb hvc hs1 hs2 hs3 hr1 rfl rfl
        | true =>
          cases hr2 : rightA ⟨r2, k2, lb⟩ with
          | false => exact three_out r1 k1 r2 k2 r3 k3 true true true true false _ (.inr (.inr (.inr (.inr (.inl rfl))))) w' he hva hvb hvc hs1 hs2 hs3 hr1 hr2 rfl
          | true =>
            cases hr3 : rightA ⟨r3, k3, lc⟩ with
            | false => exact three_out r1 k1 r2 k2 r3 k3 true true true true true false (.inr (.inr (.inr (.inr (.inr rfl))))) w' he hva hvb hvc hs1 hs2 hs3 hr1 hr2 hr3
            | true =>
              obtain ⟨ra, ca, rfl, rfl, _⟩ := right_dims hr1
              obtain ⟨rb, cb, rfl, rfl, _⟩ := right_dims hr2
              obtain ⟨rc, cc, rfl, rfl, _⟩ := right_dims hr3
              exact three_in ⟨ra, ca, la⟩ ⟨rb, cb, lb⟩ ⟨rc, cc, lc⟩ w' he hva hvb hvc ⟨hr1, hwa⟩ ⟨hr2, hwb⟩ ⟨hr3, hwc⟩ hs1 hs2 hs3
end Go.Proofs.YtfgddhabepllfaaDoor
