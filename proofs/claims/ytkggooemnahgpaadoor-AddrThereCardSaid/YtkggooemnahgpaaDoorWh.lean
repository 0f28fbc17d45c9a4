/- Walk over the law AddrLetters. -/
import Derived.Test.YtkggooemnahgpaaDoorWg
namespace Go.Proofs.YtkggooemnahgpaaDoor
open Go.RowKit

theorem digR_eq (o : Option Int) : digR o = .tuple #[.int .i64 (o.getD 0), .bool o.isSome] := by cases o <;> rfl

theorem letters_long (c : Int) (s : ByteArray) (w : World) (ht : Tab w) (h : 100 < s.size) :
    Calls Tryd.prog 3 #[.int .i64 c, .string s] w fun e w' => e = .returned (.bool true) ∧ Below w.heap.size w w' := by
  go_enter Tryd.func3, Tryd.ntmps3
  go_wp2_with fail
  refine (awake_any _ ht).mono ?_
  rintro e w1 ⟨rfl, hb1⟩
  go_wp2_with fail
  go_ret
  exact ⟨rfl, hb1⟩

theorem letters_short (c : Int) (s : ByteArray) (w : World) (ht : Tab w) (h : s.size ≤ 100) :
    Calls Tryd.prog 3 #[.int .i64 c, .string s] w fun e w' => e = .returned (.bool true) ∧ Below w.heap.size w w' := by
  obtain ⟨t, hT⟩ : ∃ t, letS c = t := ⟨_, rfl⟩
  have hE : rightB 0 c = false → t = [] := fun h => by rw [← hT]; unfold letS; rw [if_neg (by rw [h]; decide)]
  have hC : rightB 0 c = true → t ≠ [] ∧ columnL t = some c := fun h => by
    have hh : 0 ≤ c ∧ c ≤ 18277 := by simpa [rightB] using h
    have e := column_let c hh.1 hh.2
    unfold letS at hT; rw [if_pos h] at hT; rw [hT] at e
    exact ⟨fun h0 => by rw [h0] at e; simp [columnL] at e, e⟩
  obtain ⟨n, hN⟩ : ∃ n, (columnL s.data.toList).getD 0 = n := ⟨_, rfl⟩
  obtain ⟨b, hB⟩ : ∃ b, (columnL s.data.toList).isSome = b := ⟨_, rfl⟩
  have HT := Lib.hid hT
  have HN := Lib.hid hN
  have HB := Lib.hid hB
  have HE := Lib.hid hE
  have HC := Lib.hid hC
  clear hT hN hB hE hC
  go_enter Tryd.func3, Tryd.ntmps3
  go_wp2_with fail
  refine (awake_any _ ht).mono ?_
  rintro e w1 ⟨rfl, hb1⟩
  go_wp2_with fail
  refine (letters_any _ _).mono ?_
  rw [HT.out]
  rintro e w2 ⟨rfl, hb2⟩
  have hb3 := hb1.trans (hb2.mono hb1.size)
  clear hb1 hb2
  go_wp2_with fail
  refine (column_any _ _).mono ?_
  rw [digR_eq, HN.out, HB.out]
  rintro e w3 ⟨rfl, hb4⟩
  have hb5 := hb3.trans (hb4.mono hb3.size)
  clear hb3 hb4
  go_wp2_with fail
  refine (rcolumn_any _ _).mono ?_
  rw [digR_eq, HN.out, HB.out]
  rintro e w' ⟨rfl, rfl⟩
  go_wp2_with fail
  refine (rletters_any _ _).mono ?_
  rw [HT.out]
  rintro e w' ⟨rfl, rfl⟩
  by_cases hr : rightB 0 c = true
  · obtain ⟨h1, h2⟩ := HC.out hr
    have h0 : (t.isEmpty) = false := by simpa using h1
    have H2 := Lib.hid h2
    clear h1 h2
    go_wp2_with fail
    refine (column_any _ _).mono ?_
    rw [show (⟨t.toArray⟩ : ByteArray).data.toList = t from rfl, H2.out]
    unfold digR
    rintro e w4 ⟨rfl, hb6⟩
    go_wp2_with fail
    go_ret
    exact ⟨rfl, hb5.trans (hb6.mono hb5.size)⟩
  · have h0 : t = [] := HE.out (by simpa using hr)
    subst h0
    have hh : c < 0 ∨ 18277 < c := by
      simp [rightB] at hr; omega
    by_cases h1 : c < 0
    · clear hh hr
      go_wp2_with fail
      go_ret
      exact ⟨rfl, hb5⟩
    · have h2 : 18277 < c := by omega
      clear hh hr
      go_wp2_with fail
      go_ret
      exact ⟨rfl, hb5⟩

/-- AddrLetters, at every input -/
theorem lawletters_any (c : Int) (s : ByteArray) (w : World) (ht : Tab w) :
    Calls Tryd.prog 3 #[.int .i64 c, .string s] w fun e w' => e = .returned (.bool true) ∧ Below w.heap.size w w' := by
  by_cases h : 100 < s.size
  · exact letters_long c s w ht h
  · exact letters_short c s w ht (by omega)
end Go.Proofs.YtkggooemnahgpaaDoor
