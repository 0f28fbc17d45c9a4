/- Values as the program holds them; what value's small functions tell. -/
import Derived.Test.YtfgddhabepllfaaDoorNm
import Derived.Lib.Strings
import Derived.Laws.Rows
import Derived.Laws.IdiomStrings
namespace Go.Proofs.YtfgddhabepllfaaDoor
open Go.RowKit

def vL (v : Vl) : List Value := [.int .i64 v.k, .int .i64 v.m, .int .i64 v.e, .string v.t, .bool v.b, .int .i64 v.f]
def vV (v : Vl) : Value := .agg #[.int .i64 v.k, .int .i64 v.m, .int .i64 v.e, .string v.t, .bool v.b, .int .i64 v.f]
theorem cell_lt {w : World} {a : Addr} {v : Value} (h : w.cell? a = some v) : a.block < w.heap.size := by
  rcases Nat.lt_or_ge a.block w.heap.size with hlt | hge
  · exact hlt
  · unfold World.cell? at h; rw [Array.getElem?_eq_none hge] at h; simp at h
theorem eq_v (k m e : Int) (t : ByteArray) (b : Bool) (f : Int) (k' m' e' : Int) (t' : ByteArray) (b' : Bool) (f' : Int) (w : World) :
    (binOp .eql 34 (.agg #[.int .i64 k, .int .i64 m, .int .i64 e, .string t, .bool b, .int .i64 f]) (.agg #[.int .i64 k', .int .i64 m', .int .i64 e', .string t', .bool b', .int .i64 f'])).run Tryd.prog w = .ok (.bool (eqV ⟨k, m, e, t, b, f⟩ ⟨k', m', e', t', b', f'⟩)) w := by
  go_simp
  have ht : (t.toList = t'.toList) ↔ t = t' := by
    rw [Lib.toList_data, Lib.toList_data]
    constructor
    · intro h
      cases t; cases t'
      simpa using h
    · intro h; rw [h]
  simp only [ht]
  unfold eqV
  repeat' split
  all_goals (congr 2; simp_all)
section
variable {w : World} {g t n : Nat} {a b c d e f : Value}
theorem box6 (h : w.heap[g]? = some (.cells #[a, b, c, d, e, f] t (0, 0))) : w.cell? ⟨g, 0, none⟩ = some a ∧ w.cell? ⟨g, 1, none⟩ = some b ∧ w.cell? ⟨g, 2, none⟩ = some c ∧ w.cell? ⟨g, 3, none⟩ = some d ∧ w.cell? ⟨g, 4, none⟩ = some e ∧ w.cell? ⟨g, 5, none⟩ = some f ∧
    w.frozen? ⟨g, 0, none⟩ = false ∧ w.frozen? ⟨g, 1, none⟩ = false ∧ w.frozen? ⟨g, 2, none⟩ = false ∧ w.frozen? ⟨g, 3, none⟩ = false ∧ w.frozen? ⟨g, 4, none⟩ = false ∧ w.frozen? ⟨g, 5, none⟩ = false := by
  refine ⟨?_, ?_, ?_, ?_, ?_, ?_, ?_, ?_, ?_, ?_, ?_, ?_⟩ <;> simp [World.cell?, World.frozen?, h]
theorem set6 (a' b' c' d' e' f' : Value) (h : w.heap[g]? = some (.cells #[a, b, c, d, e, f] t (0, 0))) :
    ((((((w.setCell ⟨g, 0, none⟩ a').setCell ⟨g, 1, none⟩ b').setCell ⟨g, 2, none⟩ c').setCell ⟨g, 3, none⟩ d').setCell ⟨g, 4, none⟩ e').setCell ⟨g, 5, none⟩ f').heap[g]? = some (.cells #[a', b', c', d', e', f'] t (0, 0)) := by
  simp [World.setCell, Array.getElem?_modify, h]
theorem below6 {W : World} (a b c d e f : Value) (h : Below n w W) (hg : n ≤ g) : Below n w ((((((W.setCell ⟨g, 0, none⟩ a).setCell ⟨g, 1, none⟩ b).setCell ⟨g, 2, none⟩ c).setCell ⟨g, 3, none⟩ d).setCell ⟨g, 4, none⟩ e).setCell ⟨g, 5, none⟩ f) :=
  (((((h.setCell (p := ⟨g, 0, none⟩) hg a).setCell (p := ⟨g, 1, none⟩) hg b).setCell (p := ⟨g, 2, none⟩) hg c).setCell (p := ⟨g, 3, none⟩) hg d).setCell (p := ⟨g, 4, none⟩) hg e).setCell (p := ⟨g, 5, none⟩) hg f
end
/-- the faults' texts are laid -/
def ftexts : List (List UInt8) := [[], [35, 68, 73, 86, 47, 48, 33], [35, 86, 65, 76, 85, 69, 33], [35, 82, 69, 70, 33], [35, 78, 65, 77, 69, 63], [35, 78, 85, 77, 33], [35, 78, 47, 65], [35, 83, 80, 73, 76, 76, 33], [35, 67, 73, 82, 67, 33], [35, 67, 65, 76, 67, 33]]
def fT (k : Nat) : ByteArray := ⟨(ftexts.getD k []).toArray⟩
def Env (w : World) : Prop := ∀ k, k < 10 → w.cell? ⟨0, k, none⟩ = some (.string (fT k))
theorem Env.below {w w' : World} (h : Env w) (hb : Below w.heap.size w w') : Env w' := fun k hk => (hb.cell (p := ⟨0, k, none⟩) (cell_lt (h k hk))).trans (h k hk)
theorem Env.alloc {w : World} (h : Env w) (o : Obj) : Env (w.alloc o) := h.below (Nm.alloc_below w o)
theorem fT_empty (k : Nat) (h1 : 1 ≤ k) (h2 : k < 10) : (fT k).toList.isEmpty = false ∧ ¬ (fT k).toList = [] := by
  rw [Lib.toList_data]
  obtain rfl | rfl | rfl | rfl | rfl | rfl | rfl | rfl | rfl : k = 1 ∨ k = 2 ∨ k = 3 ∨ k = 4 ∨ k = 5 ∨ k = 6 ∨ k = 7 ∨ k = 8 ∨ k = 9 := by omega
  all_goals exact ⟨by decide, by decide⟩
set_option maxRecDepth 100000 in
theorem ftext_in (k : Nat) (hk : k < 10) (w : World) (he : Env w) : Calls Tryd.prog 71 #[.int .i64 (k : Int)] w fun e w' => e = .returned (.string (fT k)) ∧ w = w' := by
  have hc := he k hk
  have h0 : (0 : Int) ≤ (k : Int) := by omega
  have h1 : (k : Int) < 10 := by omega
  go_enter Tryd.func71, Tryd.ntmps71
  go_wp2
  go_ret
  exact ⟨rfl, rfl⟩
set_option maxRecDepth 100000 in
theorem ftext_out (f : Int) (hf : f < 0 ∨ 10 ≤ f) (w : World) : Calls Tryd.prog 71 #[.int .i64 f] w fun e w' => e = .returned (.string bs0) ∧ w = w' := by
  unfold bs0
  rcases hf with h | h
  · go_enter Tryd.func71, Tryd.ntmps71
    go_wp2
    go_ret
    exact ⟨rfl, rfl⟩
  · have h0 : ¬ f < 0 := by omega
    go_enter Tryd.func71, Tryd.ntmps71
    go_wp2
    go_ret
    exact ⟨rfl, rfl⟩
theorem fault_no {f : Int} (h : ¬ (1 ≤ f ∧ f ≤ 9)) : badV f = fV 9 := by unfold badV fault?; rw [if_neg (by simpa using h)]
theorem fault_yes {f : Int} (h : 1 ≤ f ∧ f ≤ 9) : badV f = fV f := by unfold badV fault?; rw [if_pos (by simpa using h)]
set_option maxRecDepth 100000 in
theorem bad_any (f : Int) (w : World) (he : Env w) : Calls Tryd.prog 60 #[.int .i64 f] w fun e w' => e = .returned (vV (badV f)) ∧ Below w.heap.size w w' := by
  have HE := Lib.hid he
  clear he
  by_cases hf : 1 ≤ f ∧ f ≤ 9
  · rw [fault_yes hf]
    obtain ⟨k, rfl⟩ := Int.eq_ofNat_of_zero_le (show 0 ≤ f by omega)
    have hk : k < 10 := by omega
    obtain ⟨hne, hne2⟩ := fT_empty k (by omega) hk
    obtain ⟨s, hs⟩ : ∃ s, fT k = s := ⟨_, rfl⟩
    rw [hs] at hne hne2
    have HS := Lib.hid (ftext_in k hk (w.alloc (.cells #[.int .i64 0, .int .i64 0, .int .i64 0, .string ⟨#[]⟩, .bool false, .int .i64 0] 34)) (HE.out.alloc _))
    rw [hs] at HS
    clear hs hk hf
    show Calls Tryd.prog 60 _ w fun r w' => r = .returned (.agg #[.int .i64 4, .int .i64 0, .int .i64 0, .string ⟨#[]⟩, .bool false, .int .i64 (k : Int)]) ∧ _
    go_enter Tryd.func60, Tryd.ntmps60
    go_wp2_with fail
    refine HS.out.mono ?_
    rintro e w1 ⟨rfl, rfl⟩
    go_wp2
    exact bodyPost_ret (v := .agg #[.int .i64 4, .int .i64 0, .int .i64 0, .string ⟨#[]⟩, .bool false, .int .i64 (k : Int)]) (by simp [results, Tryd.f60, go_sem]) rfl ⟨rfl, Nm.alloc_below _ _⟩
  · rw [fault_no hf]
    have HS : Hid (∀ W, Env W → Calls Tryd.prog 71 #[.int .i64 f] W fun e w' => e = .returned (.string bs0) ∧ W = w') := Lib.hid (fun W hW => by
      by_cases h : f < 0 ∨ 10 ≤ f
      · exact ftext_out f h W
      · obtain rfl : f = 0 := by omega
        exact ftext_in 0 (by omega) W hW)
    clear hf
    unfold bs0 at HS
    show Calls Tryd.prog 60 _ w fun r w' => r = .returned (.agg #[.int .i64 4, .int .i64 0, .int .i64 0, .string ⟨#[]⟩, .bool false, .int .i64 9]) ∧ _
    go_enter Tryd.func60, Tryd.ntmps60
    go_wp2_with fail
    refine (HS.out _ (HE.out.alloc _)).mono ?_
    rintro e w1 ⟨rfl, rfl⟩
    go_wp2
    exact bodyPost_ret (v := .agg #[.int .i64 4, .int .i64 0, .int .i64 0, .string ⟨#[]⟩, .bool false, .int .i64 9]) (by simp [results, Tryd.f60, go_sem]) rfl ⟨rfl, Nm.alloc_below _ _⟩
set_option maxRecDepth 100000 in
theorem of_any (m e : Int) (w : World) : Calls Tryd.prog 67 #[.agg #[.int .i64 m, .int .i64 e]] w fun r w' => r = .returned (vV ⟨1, m, e, bs0, false, 0⟩) ∧ Below w.heap.size w w' := by
  show Calls Tryd.prog 67 _ w fun r w' => r = .returned (.agg #[.int .i64 1, .int .i64 m, .int .i64 e, .string ⟨#[]⟩, .bool false, .int .i64 0]) ∧ _
  go_enter Tryd.func67, Tryd.ntmps67
  go_wp2
  exact bodyPost_ret (v := .agg #[.int .i64 1, .int .i64 m, .int .i64 e, .string ⟨#[]⟩, .bool false, .int .i64 0]) (by simp [results, Tryd.f67, go_sem]) rfl ⟨rfl, ((Below.refl _ _).alloc (Nat.le_refl _) _).alloc (by simp) _⟩
set_option maxRecDepth 100000 in
theorem truth_any (b : Bool) (w : World) : Calls Tryd.prog 70 #[.bool b] w fun r w' => r = .returned (vV ⟨3, 0, 0, bs0, b, 0⟩) ∧ Below w.heap.size w w' := by
  show Calls Tryd.prog 70 _ w fun r w' => r = .returned (.agg #[.int .i64 3, .int .i64 0, .int .i64 0, .string ⟨#[]⟩, .bool b, .int .i64 0]) ∧ _
  go_enter Tryd.func70, Tryd.ntmps70
  go_wp2
  exact bodyPost_ret (v := .agg #[.int .i64 3, .int .i64 0, .int .i64 0, .string ⟨#[]⟩, .bool b, .int .i64 0]) (by simp [results, Tryd.f70, go_sem]) rfl ⟨rfl, Nm.alloc_below _ _⟩
def textV (s : ByteArray) : Vl := if s.size ≤ 255 then ⟨2, 0, 0, s, false, 0⟩ else fV 2
set_option maxRecDepth 100000 in
theorem text_any (s : ByteArray) (w : World) (he : Env w) : Calls Tryd.prog 69 #[.string s] w fun r w' => r = .returned (vV (textV s)) ∧ Below w.heap.size w w' := by
  have HE := Lib.hid he
  clear he
  unfold textV
  by_cases h : s.size ≤ 255
  · rw [if_pos h]
    have hi : ¬ (255 : Int) < (s.size : Int) := by omega
    show Calls Tryd.prog 69 _ w fun r w' => r = .returned (.agg #[.int .i64 2, .int .i64 0, .int .i64 0, .string s, .bool false, .int .i64 0]) ∧ _
    go_enter Tryd.func69, Tryd.ntmps69
    go_wp2
    exact bodyPost_ret (v := .agg #[.int .i64 2, .int .i64 0, .int .i64 0, .string s, .bool false, .int .i64 0]) (by simp [results, Tryd.f69, go_sem]) rfl ⟨rfl, Nm.alloc_below _ _⟩
  · rw [if_neg h]
    have hi : (255 : Int) < (s.size : Int) := by omega
    have HB := Lib.hid (fun W hW => bad_any 2 W hW)
    rw [fault_yes ⟨by decide, by decide⟩] at HB
    have HV := Lib.hid (show vV (fV 2) = .agg #[.int .i64 4, .int .i64 0, .int .i64 0, .string ⟨#[]⟩, .bool false, .int .i64 2] from rfl)
    rw [HV.out] at HB ⊢
    go_enter Tryd.func69, Tryd.ntmps69
    go_wp2_with fail
    refine (HB.out _ (HE.out.alloc _)).mono ?_
    rintro e w1 ⟨rfl, hb1⟩
    have hs0 : w1.heap[w.heap.size]? = some (.cells #[.int .i64 0, .int .i64 0, .int .i64 0, .string ⟨#[]⟩, .bool false, .int .i64 0] 34 (0, 0)) := (hb1.block _ (by simp)).trans (heap_alloc_new w _)
    obtain ⟨c0, c1, c2, c3, c4, c5, f0, f1, f2, f3, f4, f5⟩ := box6 hs0
    have HB1 := Lib.hid ((Nm.alloc_below w _).trans (hb1.mono (by simp)))
    have HS0 := Lib.hid hs0
    clear hb1 hs0
    go_wp2
    obtain ⟨r0, r1, r2, r3, r4, r5, _⟩ := box6 (set6 (.int .i64 4) (.int .i64 0) (.int .i64 0) (.string ⟨#[]⟩) (.bool false) (.int .i64 2) HS0.out)
    exact bodyPost_ret (v := .agg #[.int .i64 4, .int .i64 0, .int .i64 0, .string ⟨#[]⟩, .bool false, .int .i64 2]) (by simp [results, Tryd.f69, go_sem, r0, r1, r2, r3, r4, r5]) rfl ⟨rfl, below6 _ _ _ _ _ _ HB1.out (Nat.le_refl _)⟩
end Go.Proofs.YtfgddhabepllfaaDoor
