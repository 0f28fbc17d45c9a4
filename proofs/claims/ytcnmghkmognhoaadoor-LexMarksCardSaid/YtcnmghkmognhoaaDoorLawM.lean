/- What the laws over marks and numbers of this seat want beside Law: their list of tables is longer. -/
import Derived.Test.YtcnmghkmognhoaaDoorLaw
import Derived.Test.YtcnmghkmognhoaaDoorKd
namespace Go.Proofs.YtcnmghkmognhoaaDoor
open Go.ChangeShapes Go.WideShapes Go.ChangeAt Go.RowKit

theorem gPowType : (Tryd.prog.globals[2]?).map (·.type) = some 151 := by kernel_rfl
theorem cells133 : Tryd.prog.cellsOf 133 = 1 := by kernel_rfl
theorem cells151 : Tryd.prog.cellsOf 151 = 20 := by kernel_rfl
/-- the listed tables -/
def tables6 : List (String × DataW Unit) := ("math/bits.deBruijn32tab", Rows.laid_math_bits_deBruijn32tab) :: ("math/bits.deBruijn64tab", Rows.laid_math_bits_deBruijn64tab) :: ("internal/strconv.uint64pow10", Rows.laid_internal_strconv_uint64pow10) :: tables
theorem laid_env6 {W : World} (h : laidMetH Tryd.prog tables6 W) (hsh : W.ShapedOpen Tryd.prog) : Env W ∧ Addr.Tab W := by
  have h1 : laidMet Tryd.prog tables6 W := h
  exact ⟨laid_env (laidMet.tail (laidMet.tail (laidMet.tail h1))) hsh, Lib.tabIs_of_head (rest := tables) Addr.gPow gPowType Tryd.underlying151 Tryd.underlying133 cells133 cells151 (laidMet.tail (laidMet.tail h1))⟩
set_option maxRecDepth 100000 in
theorem laid_met6 (os : Os) (args : Array Value) : laidMet Tryd.prog tables6 ((World.laidAll Tryd.prog os tables6).forCall (fun _ _ => 0) ⟨#[], args, []⟩).memory := laidMet_laidAll args (by kernel_rfl) (by kernel_rfl)
end Go.Proofs.YtcnmghkmognhoaaDoor
