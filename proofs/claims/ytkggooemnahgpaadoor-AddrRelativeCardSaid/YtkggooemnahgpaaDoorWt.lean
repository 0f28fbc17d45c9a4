/- Walk over the document's Relative. -/
import Derived.Test.YtkggooemnahgpaaDoorWs
namespace Go.Proofs.YtkggooemnahgpaaDoor
open Go.RowKit

theorem rrel_no1 (r c : Int) (fr fc : Bool) (pr pc : Int) (h : rightB r c = false) (w : World) :
    Calls Tryd.prog 22 #[markV r c fr fc, .int .i64 pr, .int .i64 pc] w fun e w' => e = .returned (.string ⟨#[]⟩) ∧ Below w.heap.size w w' := by
  have hb0 := below_new w (.cells #[.int .i64 r, .int .i64 c, .bool fr, .bool fc] 32)
  have H0 := Lib.hid hb0
  clear hb0
  unfold markV
  go_enter Tryd.func22, Tryd.ntmps22
  go_wp2_with fail
  refine (rright_any r c fr fc _).mono ?_
  rw [h]
  rintro e w1 ⟨rfl, hb1⟩
  go_wp2_with fail
  go_ret
  exact ⟨rfl, H0.out.trans (hb1.mono H0.out.size)⟩

theorem rrel_no2 (r c : Int) (fr fc : Bool) (pr pc : Int) (h : rightB r c = true) (h' : rightB pr pc = false) (w : World) :
    Calls Tryd.prog 22 #[markV r c fr fc, .int .i64 pr, .int .i64 pc] w fun e w' => e = .returned (.string ⟨#[]⟩) ∧ Below w.heap.size w w' := by
  have hb0 := below_new w (.cells #[.int .i64 r, .int .i64 c, .bool fr, .bool fc] 32)
  have H0 := Lib.hid hb0
  clear hb0
  unfold markV
  go_enter Tryd.func22, Tryd.ntmps22
  go_wp2_with fail
  refine (rright_any r c fr fc _).mono ?_
  rw [h]
  rintro e w1 ⟨rfl, hb1⟩
  go_wp2_with fail
  refine (rright_any pr pc false false _).mono ?_
  rw [h']
  rintro e w2 ⟨rfl, hb2⟩
  go_wp2_with fail
  go_ret
  have h3 := H0.out.trans (hb1.mono H0.out.size)
  exact ⟨rfl, h3.trans (hb2.mono h3.size)⟩

def Kept1 (w : World) (n : Nat) (r c : Int) (fr fc : Bool) (w' : World) : Prop := MarkAt n r c fr fc w' ∧ Below w.heap.size w w'
theorem Kept1.later {w : World} {n : Nat} {r c : Int} {fr fc : Bool} {w1 w2 : World} (h : Kept1 w n r c fr fc w1) (hb : Below w1.heap.size w1 w2) : Kept1 w n r c fr fc w2 :=
  ⟨h.1.later hb, h.2.trans (hb.mono h.2.size)⟩

set_option maxHeartbeats 3200000 in
set_option maxRecDepth 100000 in
theorem rrel_yes (r c : Int) (fr fc : Bool) (pr pc : Int) (h : rightB r c = true) (h' : rightB pr pc = true) (w : World) :
    Calls Tryd.prog 22 #[markV r c fr fc, .int .i64 pr, .int .i64 pc] w fun e w' => e = .returned (.string ⟨(82 :: (seenL r pr fr ++ 67 :: seenL c pc fc)).toArray⟩) ∧ Below w.heap.size w w' := by
  have g1 : 0 ≤ r ∧ r ≤ 9999998 ∧ 0 ≤ c ∧ c ≤ 18277 := by simpa [rightB] using h
  have g2 : 0 ≤ pr ∧ pr ≤ 9999998 ∧ 0 ≤ pc ∧ pc ≤ 18277 := by simpa [rightB] using h'
  obtain ⟨a1, a2, a3, a4⟩ := g1
  obtain ⟨b1, b2, b3, b4⟩ := g2
  have l1 := seenL_len r pr fr a1 a2 b1 b2
  have l2 := seenL_len c pc fc a3 (by omega) b3 (by omega)
  have H1 := fun w => part_any r pr fr a1 a2 b1 b2 w
  have H2 := fun w => part_any c pc fc a3 (by omega) b3 (by omega) w
  have n1 : ¬ 9223372036854775807 < 1 + (seenL r pr fr).length := by omega
  have n2 : ¬ 9223372036854775807 < 1 + (seenL r pr fr).length + 1 := by omega
  have n3 : ¬ 9223372036854775807 < 1 + (seenL r pr fr).length + 1 + (seenL c pc fc).length := by omega
  have hc := Lib.hid H1
  have hd := Lib.hid H2
  clear H1 H2
  have hb0 := below_new w (.cells #[.int .i64 r, .int .i64 c, .bool fr, .bool fc] 32)
  have hk0 := MarkAt.new w r c fr fc 32
  have H0 := Lib.hid hb0
  have HK := Lib.hid hk0
  clear hb0 hk0
  unfold markV
  go_enter Tryd.func22, Tryd.ntmps22
  go_wp2_with fail
  refine (rright_any r c fr fc _).mono ?_
  rw [h]
  rintro e w1 ⟨rfl, hb1⟩
  go_wp2_with fail
  refine (rright_any pr pc false false _).mono ?_
  rw [h']
  rintro e w2 ⟨rfl, hb2⟩
  have hA : Kept1 w w.heap.size r c fr fc w2 := Kept1.later (Kept1.later ⟨HK.out, H0.out⟩ hb1) hb2
  have HA := Lib.hid hA
  obtain ⟨⟨c0, c1, c2, c3, hz⟩, hbb⟩ := hA
  clear hb1 hb2 hbb
  go_wp2_with fail
  go_region_held3 (fun w' => (w'.cell? ⟨w.heap.size, 0, none⟩ = some (.int .i64 r) ∧ w'.cell? ⟨w.heap.size, 1, none⟩ = some (.int .i64 c) ∧ w'.cell? ⟨w.heap.size, 2, none⟩ = some (.bool fr) ∧ w'.cell? ⟨w.heap.size, 3, none⟩ = some (.bool fc) ∧ w.heap.size < w'.heap.size) ∧ Below w.heap.size w w')
    (first | exact Kept1.later HA.out (below_dr _) | assumption)
    (first
      | (go_at_call_of 39 (Value.int IntKind.i64 r); refine (hc.out _).mono ?_; rintro e w' ⟨rfl, rfl⟩)
      | (go_at_call_of 39 (Value.int IntKind.i64 c); refine (hd.out _).mono ?_; rintro e w' ⟨rfl, rfl⟩))
  have hk : Kept1 w w.heap.size r c fr fc w2.drew := by assumption
  go_wp2_with fail
  go_ret
  refine ⟨ret_str ?_, hk.2⟩
  simp only [str_app]
  simp

/-- the document's Relative, at every mark and place -/
theorem rrelative_any (r c : Int) (fr fc : Bool) (pr pc : Int) (w : World) :
    Calls Tryd.prog 22 #[markV r c fr fc, .int .i64 pr, .int .i64 pc] w fun e w' => e = .returned (.string ⟨(relL r c fr fc pr pc).toArray⟩) ∧ Below w.heap.size w w' := by
  unfold relL
  cases h : rightB r c with
  | false => exact rrel_no1 r c fr fc pr pc h w
  | true =>
    cases h' : rightB pr pc with
    | false => exact rrel_no2 r c fr fc pr pc h h' w
    | true => exact rrel_yes r c fr fc pr pc h h' w
end Go.Proofs.YtkggooemnahgpaaDoor
