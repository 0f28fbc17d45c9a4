/- What is made of arrays that may be may be. -/
import Derived.Test.YtfgddhabepllfaaDoorQ
namespace Go.Proofs.YtfgddhabepllfaaDoor
open Go.RowKit

theorem gt_mem {l : List Vl} {k : Nat} (h : k < l.length) : gt l k ∈ l := List.mem_of_getElem? (gt_some h)
theorem gt_right {l : List Vl} (ha : l.all rightV = true) {k : Nat} (h : k < l.length) : rightV (gt l k) = true := List.all_eq_true.1 ha _ (gt_mem h)
theorem bld_mem {R C : Nat} {F : Nat → Nat → Vl} {x : Vl} (h : x ∈ bld R C F) : ∃ i j, i < R ∧ j < C ∧ x = F i j := by
  obtain ⟨n, hn⟩ := List.mem_iff_getElem?.1 h
  have hlt := (List.getElem?_eq_some_iff.1 hn).1
  rw [bld_len] at hlt
  have hC : 0 < C := by
    rcases Nat.eq_zero_or_pos C with h0 | h0
    · subst h0; simp at hlt
    · exact h0
  obtain ⟨i, j, rfl, hj⟩ := place C n hC
  have hi := place_lt hlt
  rw [bld_get C F R i j hi hj] at hn
  exact ⟨i, j, hi, hj, (Option.some.inj hn).symm⟩
theorem right_bld {R C : Nat} {F : Nat → Nat → Vl} (hf : fitsB (R : Int) (C : Int) = true) (h : ∀ i j, i < R → j < C → rightV (F i j) = true) : rightA ⟨R, C, bld R C F⟩ = true := by
  unfold rightA
  simp only [hf, bld_len, Bool.true_and, Bool.and_eq_true, decide_eq_true_eq]
  refine ⟨by rw [Int.natCast_mul], List.all_eq_true.2 fun x hx => ?_⟩
  obtain ⟨i, j, hi, hj, rfl⟩ := bld_mem hx
  exact h i j hi hj
theorem wf_bld {R C : Nat} {F : Nat → Nat → Vl} (h : ∀ i j, i < R → j < C → WfV (F i j)) : WfL (bld R C F) := by
  intro x hx
  obtain ⟨i, j, hi, hj, rfl⟩ := bld_mem hx
  exact h i j hi hj
theorem right_na : rightV naV = true := by have := right_bad 6; rwa [fault_yes ⟨by decide, by decide⟩] at this
theorem wf_na : WfV naV := by have := wf_bad 6; rwa [fault_yes ⟨by decide, by decide⟩] at this
section
variable {R C : Nat} {l : List Vl}
theorem right_nat (h : rightA ⟨R, C, l⟩ = true) : l.length = R * C ∧ R * C ≤ 4096 ∧ R ≤ 4096 ∧ C ≤ 4096 ∧ 1 ≤ R ∧ 1 ≤ C ∧ l.all rightV = true := by
  obtain ⟨R', C', e1, e2, h1, h2, h3, h4, h5, h6, h7⟩ := right_dims h
  obtain rfl : R = R' := by omega
  obtain rfl : C = C' := by omega
  exact ⟨h1, h2, h3, h4, h5, h6, h7⟩
theorem fits_nat : fitsB (R : Int) (C : Int) = true ↔ 1 ≤ R ∧ 1 ≤ C ∧ R ≤ 4096 ∧ C ≤ 4096 ∧ R * C ≤ 4096 := by
  rw [fitsB_iff, ← Int.natCast_mul]; omega
theorem right_turn (h : rightA ⟨R, C, l⟩ = true) : rightA ⟨C, R, turnL R C l⟩ = true := by
  obtain ⟨h1, h2, h3, h4, h5, h6, h7⟩ := right_nat h
  exact right_bld (fits_nat.2 ⟨h6, h5, h4, h3, by rw [Nat.mul_comm]; exact h2⟩) (fun i j hi hj => gt_right h7 (by rw [h1]; exact place_in hj hi))
theorem wf_turn (hl : l.length = R * C) (h : WfL l) : WfL (turnL R C l) := wf_bld (fun i j hi hj => h _ (gt_mem (by rw [hl]; exact place_in hj hi)))
theorem right_part {r0 k0 n m : Nat} (h : rightA ⟨R, C, l⟩ = true) (hr : r0 + n ≤ R) (hc : k0 + m ≤ C) (hn : 1 ≤ n) (hm : 1 ≤ m) : rightA ⟨n, m, partL C l r0 k0 n m⟩ = true := by
  obtain ⟨h1, h2, h3, h4, h5, h6, h7⟩ := right_nat h
  refine right_bld (fits_nat.2 ⟨hn, hm, by omega, by omega, Nat.le_trans (Nat.mul_le_mul (show n ≤ R by omega) (show m ≤ C by omega)) h2⟩) (fun i j hi hj => gt_right h7 ?_)
  rw [h1]
  have := place_in (r := R) (c := C) (i := r0 + i) (j := k0 + j) (by omega) (by omega)
  omega
end
theorem right_bes {ra ca rb cb : Nat} {la lb : List Vl} (ha : rightA ⟨ra, ca, la⟩ = true) (hb : rightA ⟨rb, cb, lb⟩ = true) (hf : fitsB ((max ra rb : Nat) : Int) ((ca + cb : Nat) : Int) = true) : rightA ⟨(max ra rb : Nat), (ca + cb : Nat), besL ra ca la rb cb lb⟩ = true := by
  obtain ⟨a1, _, _, _, _, _, a7⟩ := right_nat ha
  obtain ⟨b1, _, _, _, _, _, b7⟩ := right_nat hb
  refine right_bld hf (fun i j hi hj => ?_)
  by_cases h : j < ca
  · by_cases h2 : i < ra
    · rw [besF_l h h2]; exact gt_right a7 (by rw [a1]; exact place_in h2 h)
    · rw [besF_ln h h2]; exact right_na
  · by_cases h2 : i < rb ∧ j - ca < cb
    · rw [besF_r h h2.1 h2.2]; exact gt_right b7 (by rw [b1]; exact place_in h2.1 h2.2)
    · rw [besF_rn h h2]; exact right_na
theorem wf_bes {ra ca rb cb : Nat} {la lb : List Vl} (hla : la.length = ra * ca) (hlb : lb.length = rb * cb) (ha : WfL la) (hb : WfL lb) : WfL (besL ra ca la rb cb lb) := by
  refine wf_bld (fun i j hi hj => ?_)
  by_cases h : j < ca
  · by_cases h2 : i < ra
    · rw [besF_l h h2]; exact ha _ (gt_mem (by rw [hla]; exact place_in h2 h))
    · rw [besF_ln h h2]; exact wf_na
  · by_cases h2 : i < rb ∧ j - ca < cb
    · rw [besF_r h h2.1 h2.2]; exact hb _ (gt_mem (by rw [hlb]; exact place_in h2.1 h2.2))
    · rw [besF_rn h h2]; exact wf_na
end Go.Proofs.YtfgddhabepllfaaDoor
