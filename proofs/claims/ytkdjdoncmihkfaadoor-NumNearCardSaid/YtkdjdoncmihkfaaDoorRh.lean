/- For the document's Plus: a made slice of ints as digits. -/
import Derived.Test.YtkdjdoncmihkfaaDoorRg
import Derived.Test.YtkdjdoncmihkfaaDoorNt
namespace Go.Proofs.YtkdjdoncmihkfaaDoor
open Go.RowKit

theorem made_ownD {w1 : World} {B g n : Nat} (h : w1.ownsRow B 3 1 (.slice (some ⟨g, 0, none⟩) n n) n (madeCells (Value.cells (.int .i64 0)) (n * 1)).toList) : OwnD w1 B (.slice (some ⟨g, 0, none⟩) n n) (List.replicate n 0) := by
  have e : (madeCells (Value.cells (.int .i64 0)) (n * 1)).toList = ceD (List.replicate n 0) := by
    apply List.ext_getElem
    · simp [madeCells, ceD]
    · intro i h1 h2
      simp [madeCells, ceD, Value.cells, Nat.mod_one]
  rw [e] at h
  exact ⟨by simpa using h, g, n, by simp⟩
theorem padL_len {n : Nat} {l : List UInt8} (h : l.length ≤ n) : (padL n l).length = n := by unfold padL; simp; omega
theorem zeros_val (k : Nat) : valN (List.replicate k 0) = 0 := by
  induction k with
  | zero => rfl
  | succ k ih => rw [List.replicate_succ, valN_cons, ih]; simp
theorem zeros_dig (k : Nat) : Dig (List.replicate k 0) := fun x hx => by
  have := (List.mem_replicate.1 hx).2
  rw [this]; decide
theorem padL_val (n : Nat) (l : List UInt8) : valN (padL n l) = valN l := by unfold padL; rw [valN_append, zeros_val]; simp
theorem padL_dig {l : List UInt8} (n : Nat) (h : Dig l) : Dig (padL n l) := fun x hx => by
  unfold padL at hx
  rcases List.mem_append.1 hx with h1 | h1
  · exact zeros_dig _ x h1
  · exact h x h1
theorem wide_val (l : List UInt8) (k : Nat) : valN (l ++ List.replicate k 0) = valN l * 10 ^ k := by rw [valN_append, zeros_val, List.length_replicate]; simp
theorem wide_dig {l : List UInt8} (k : Nat) (h : Dig l) : Dig (l ++ List.replicate k 0) := fun x hx => by
  rcases List.mem_append.1 hx with h1 | h1
  · exact h x h1
  · exact zeros_dig _ x h1
end Go.Proofs.YtkdjdoncmihkfaaDoor
