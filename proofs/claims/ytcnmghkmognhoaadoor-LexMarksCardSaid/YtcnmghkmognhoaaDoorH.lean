/- The token that a word is. -/
import Derived.Test.YtcnmghkmognhoaaDoorG
namespace Go.Proofs.YtcnmghkmognhoaaDoor
open Go.RowKit Go.Shelf

theorem box3 {w : World} {g t : Nat} {a b c : Value} (h : w.heap[g]? = some (.cells #[a, b, c] t (0, 0))) : w.cell? ⟨g, 0, none⟩ = some a ∧ w.cell? ⟨g, 1, none⟩ = some b ∧ w.cell? ⟨g, 2, none⟩ = some c ∧ w.frozen? ⟨g, 0, none⟩ = false ∧ w.frozen? ⟨g, 1, none⟩ = false ∧ w.frozen? ⟨g, 2, none⟩ = false := by
  refine ⟨?_, ?_, ?_, ?_, ?_, ?_⟩ <;> simp [World.cell?, World.frozen?, h]
theorem set3 {w : World} {g t : Nat} {a b c : Value} (a' b' c' : Value) (h : w.heap[g]? = some (.cells #[a, b, c] t (0, 0))) :
    (((w.setCell ⟨g, 0, none⟩ a').setCell ⟨g, 1, none⟩ b').setCell ⟨g, 2, none⟩ c').heap[g]? = some (.cells #[a', b', c'] t (0, 0)) := by
  simp [World.setCell, Array.getElem?_modify, h]
theorem below3 {w W : World} {g n : Nat} (a b c : Value) (h : Below n w W) (hg : n ≤ g) : Below n w (((W.setCell ⟨g, 0, none⟩ a).setCell ⟨g, 1, none⟩ b).setCell ⟨g, 2, none⟩ c) :=
  ((h.setCell (p := ⟨g, 0, none⟩) hg a).setCell (p := ⟨g, 1, none⟩) hg b).setCell (p := ⟨g, 2, none⟩) hg c
def tokV (t : Tok) : Value := .agg #[.int .i64 t.kind, .string ⟨t.text.toArray⟩, .int .i64 t.at']
def wordT (l : List UInt8) : Tok × Nat := if isMarkF l = true then (⟨4, l, 0⟩, l.length) else if l.contains 36 then (⟨0, [], 0⟩, 0) else (⟨3, l, 0⟩, l.length)
theorem has_index (l : List UInt8) (c : UInt8) : decide (0 ≤ Lib.indexByte l c) = l.contains c := by
  have h0 := Lib.indexByte_ge l c
  by_cases h : Lib.indexByte l c = -1
  · have h2 := Lib.indexByte_none h
    rw [h]
    have : ¬ c ∈ l := fun hm => by
      obtain ⟨k, hk⟩ := List.mem_iff_getElem?.1 hm
      exact h2 k hk
    simp [this]
  · obtain ⟨o, ho⟩ : ∃ o : Nat, Lib.indexByte l c = o := ⟨(Lib.indexByte l c).toNat, by omega⟩
    have h2 := (Lib.indexByte_some ho).1
    rw [ho]
    have : c ∈ l := List.mem_iff_getElem?.2 ⟨o, h2⟩
    simp [this]
set_option maxRecDepth 100000 in
set_option maxHeartbeats 1000000 in
theorem tokw_any (s : ByteArray) (hs : s.size ≤ 100000) (w : World) :
    Calls Tryd.prog 57 #[.string s] w fun e w' => e = .returned (.tuple #[tokV (wordT s.data.toList).1, .int .i64 (((wordT s.data.toList).2 : Nat) : Int)]) ∧ Below w.heap.size w w' := by
  obtain ⟨mk, hmk⟩ : ∃ b, isMarkF s.data.toList = b := ⟨_, rfl⟩
  obtain ⟨dl, hdl⟩ : ∃ b, s.data.toList.contains 36 = b := ⟨_, rfl⟩
  have hT : wordT s.data.toList = if mk = true then (⟨4, s.data.toList, 0⟩, s.data.toList.length) else if dl = true then (⟨0, [], 0⟩, 0) else (⟨3, s.data.toList, 0⟩, s.data.toList.length) := by
    unfold wordT
    rw [hmk, hdl]
  rw [size_list] at hT
  have hcon := Tryd.strings_Contains_one s 36
  rw [has_index, hdl] at hcon
  obtain ⟨V, hV⟩ : ∃ V, Value.tuple #[tokV (wordT s.data.toList).1, .int .i64 (((wordT s.data.toList).2 : Nat) : Int)] = V := ⟨_, rfl⟩
  rw [hV]
  have HV := Lib.hid hV
  have HMK := Lib.hid (fun W => mark_any s hs W)
  rw [hmk] at HMK
  have HCON := Lib.hid hcon
  have HT := Lib.hid hT
  have hb0 : Below w.heap.size w (w.alloc (.cells #[.int .i64 0, .string ⟨#[]⟩, .int .i64 0] 39)) := (Below.refl _ _).alloc (Nat.le_refl _) _
  have hz0 := heap_alloc_new w (.cells #[.int .i64 0, .string ⟨#[]⟩, .int .i64 0] 39)
  obtain ⟨W0, hW0⟩ : ∃ W0, w.alloc (.cells #[.int .i64 0, .string ⟨#[]⟩, .int .i64 0] 39) = W0 := ⟨_, rfl⟩
  rw [hW0] at hb0 hz0
  have HB0 := Lib.hid hb0
  have HZ0 := Lib.hid hz0
  have HW0 := Lib.hid hW0
  clear hb0 hz0 hW0 hmk hdl hT hcon hV
  go_enter Tryd.func57, Tryd.ntmps57
  go_wp2_with fail
  rw [HW0.out]
  refine (HMK.out _).mono ?_
  rintro e w1 ⟨rfl, hb1⟩
  have hz1 := (hb1.block _ (Array.getElem?_eq_some_iff.1 HZ0.out).1).trans HZ0.out
  have HB1 := Lib.hid (HB0.out.trans (hb1.mono HB0.out.size))
  have HZ1 := Lib.hid hz1
  obtain ⟨c0, c1, c2, f0, f1, f2⟩ := box3 hz1
  clear hb1 hz1 HMK HW0 HB0 HZ0
  cases mk with
  | true =>
    have HT2 := Lib.hid (show wordT s.data.toList = (⟨4, s.data.toList, 0⟩, s.size) from by rw [HT.out]; rfl)
    go_wp2_with fail
    have hfin := set3 (.int .i64 4) (.string s) (.int .i64 0) HZ1.out
    obtain ⟨r0, r1, r2, _⟩ := box3 hfin
    exact bodyPost_ret (v := .tuple #[.agg #[.int .i64 4, .string s, .int .i64 0], .int .i64 (s.size : Int)]) (by simp [results, Tryd.f57, go_sem, r0, r1, r2]) rfl ⟨by rw [← HV.out, HT2.out]; unfold tokV; simp only [bs_eta], below3 _ _ _ HB1.out (Nat.le_refl _)⟩
  | false =>
    go_wp2_with fail
    refine (HCON.out w1).mono ?_
    rintro e w2 ⟨rfl, rfl⟩
    cases dl with
    | true =>
      have HT2 := Lib.hid (show wordT s.data.toList = (⟨0, [], 0⟩, 0) from by rw [HT.out]; rfl)
      go_wp2_with fail
      have hfin := set3 (.int .i64 0) (.string ⟨#[]⟩) (.int .i64 0) HZ1.out
      obtain ⟨r0, r1, r2, _⟩ := box3 hfin
      exact bodyPost_ret (v := .tuple #[.agg #[.int .i64 0, .string ⟨#[]⟩, .int .i64 0], .int .i64 0]) (by simp [results, Tryd.f57, go_sem, r0, r1, r2]) rfl ⟨by rw [← HV.out, HT2.out]; rfl, below3 _ _ _ HB1.out (Nat.le_refl _)⟩
    | false =>
      have HT2 := Lib.hid (show wordT s.data.toList = (⟨3, s.data.toList, 0⟩, s.size) from by rw [HT.out]; rfl)
      go_wp2_with fail
      have hfin := set3 (.int .i64 3) (.string s) (.int .i64 0) HZ1.out
      obtain ⟨r0, r1, r2, _⟩ := box3 hfin
      exact bodyPost_ret (v := .tuple #[.agg #[.int .i64 3, .string s, .int .i64 0], .int .i64 (s.size : Int)]) (by simp [results, Tryd.f57, go_sem, r0, r1, r2]) rfl ⟨by rw [← HV.out, HT2.out]; unfold tokV; simp only [bs_eta], below3 _ _ _ HB1.out (Nat.le_refl _)⟩
end Go.Proofs.YtcnmghkmognhoaaDoor
