/- The fault of a text; the fault with which a text begins. -/
import Derived.Test.YtcnmghkmognhoaaDoorK
namespace Go.Proofs.YtcnmghkmognhoaaDoor
open Go.RowKit Go.Shelf

theorem faultOf_at {l : List UInt8} {k : Nat} (h0 : 0 < k) (hk : k < 10) (he : l.map foldB = faultT k) (hn : ∀ j, 0 < j → j < k → l.map foldB ≠ faultT j) : faultOfF l = k := by
  unfold faultOfF
  rw [(List.find?_range_eq_some (i := k)).2 ⟨by simp [h0, he], by simpa using hk, fun j hj => by
    by_cases h : 0 < j
    · simp [h, hn j h hj]
    · simp [h]⟩]
  rfl
theorem faultOf_none {l : List UInt8} (hn : ∀ j, 0 < j → j < 10 → l.map foldB ≠ faultT j) : faultOfF l = 0 := by
  unfold faultOfF
  rw [List.find?_eq_none.2 (fun j hj => by
    have hj' : j < 10 := by simpa using hj
    by_cases h : 0 < j
    · simp [h, hn j h hj']
    · simp [h])]
  rfl
theorem str_ne {a b : ByteArray} (h : a.data.toList ≠ b.data.toList) : a ≠ b := fun e => h (by rw [e])
set_option maxRecDepth 100000 in
set_option maxHeartbeats 2000000 in
theorem faultOf_any (s : ByteArray) (hs : s.size ≤ 100000) (w : World) (he : Env w) : Calls Tryd.prog 94 #[.string s] w fun e w' => e = .returned (.int .i64 (faultOfF s.data.toList : Nat)) ∧ Below w.heap.size w w' := by
  obtain ⟨R, hR⟩ : ∃ R, faultOfF s.data.toList = R := ⟨_, rfl⟩
  rw [hR]
  have HR := Lib.hid hR
  have HE := Lib.hid he
  obtain ⟨fs, hfs⟩ : ∃ fs : ByteArray, (⟨(s.data.toList.map foldB).toArray⟩ : ByteArray) = fs := ⟨_, rfl⟩
  have hfl : fs.data.toList = s.data.toList.map foldB := by rw [← hfs]
  have hfold := fold_any s hs w
  rw [hfs] at hfold
  have HFOLD := Lib.hid hfold
  have HFL := Lib.hid hfl
  have hidx : ∀ (k : Nat), k < 10 → ∀ W, (Instr.index 143 (.agg #[.string (fT 0), .string (fT 1), .string (fT 2), .string (fT 3), .string (fT 4), .string (fT 5), .string (fT 6), .string (fT 7), .string (fT 8), .string (fT 9)]) (.int .i64 (k : Int))).run Tryd.prog W = .ok (.string (fT k)) W := by
    intro k hk W
    obtain rfl | rfl | rfl | rfl | rfl | rfl | rfl | rfl | rfl | rfl : k = 0 ∨ k = 1 ∨ k = 2 ∨ k = 3 ∨ k = 4 ∨ k = 5 ∨ k = 6 ∨ k = 7 ∨ k = 8 ∨ k = 9 := by omega
    all_goals kernel_rfl
  have HIDX := Lib.hid hidx
  clear hR he hfs hfl hfold hidx
  go_enter Tryd.func94, Tryd.ntmps94
  go_wp2_with fail
  refine HFOLD.out.mono ?_
  rintro e w1 ⟨rfl, hb1⟩
  have HB1 := Lib.hid hb1
  have HE1 := HE.out.below hb1
  have c0 := HE1.tab 0 (by omega)
  have c1 := HE1.tab 1 (by omega)
  have c2 := HE1.tab 2 (by omega)
  have c3 := HE1.tab 3 (by omega)
  have c4 := HE1.tab 4 (by omega)
  have c5 := HE1.tab 5 (by omega)
  have c6 := HE1.tab 6 (by omega)
  have c7 := HE1.tab 7 (by omega)
  have c8 := HE1.tab 8 (by omega)
  have c9 := HE1.tab 9 (by omega)
  clear hb1 HE1 HFOLD
  go_wp2_with fail
  clear c0 c1 c2 c3 c4 c5 c6 c7 c8 c9
  go_loopw [8] (fun i wr => ∃ k : Nat, k ≤ 10 ∧ i = .int .i64 (k : Int) ∧ wr = w1 ∧ Hid (∀ j, 0 < j → j < k → s.data.toList.map foldB ≠ faultT j)) (fun i _ => 10 - (intOf i).toNat)
  case atStart => exact ⟨0, by omega, rfl, rfl, Lib.hid (fun j h1 h2 => absurd h2 (by omega))⟩
  case round =>
    obtain ⟨k, hk, rfl, rfl, HN⟩ := hrel
    by_cases hlt : k < 10
    · have hx := HIDX.out k hlt wr
      have hi : (k : Int) < 10 := by omega
      have hi0 : (0 : Int) ≤ (k : Int) := by omega
      by_cases hk0 : k = 0
      · have hz : ¬ (0 : Int) < (k : Int) := by omega
        have HK0 := Lib.hid hk0
        clear hk0
        go_wp2
        go_roundw
        case rel => exact ⟨k + 1, by omega, by simp, (by first | rfl | trivial), Lib.hid (fun j h1 h2 => absurd h2 (by have := HK0.out; omega))⟩
        case measure => simp [intOf]; omega
      · have hz : (0 : Int) < (k : Int) := by omega
        obtain ⟨tk, htk⟩ : ∃ t, fT k = t := ⟨_, rfl⟩
        have htl : tk.data.toList = faultT k := by rw [← htk]; rfl
        rw [htk] at hx
        by_cases heq : fs = tk
        · have hq : (fs.toList == tk.toList) = true := by rw [heq]; simp
          have hRk : R = k := by
            rw [← HR.out]
            refine faultOf_at (by omega) hlt ?_ HN.out
            rw [← HFL.out, heq, htl]
          subst hRk
          clear heq htk htl hk0
          go_wp2
          go_ret
          exact ⟨rfl, HB1.out⟩
        · have hne : s.data.toList.map foldB ≠ faultT k := fun h => heq (by
            rw [← HFL.out, ← htl] at h
            exact ByteArray.ext (Array.toList_inj.1 h))
          have hq : (fs.toList == tk.toList) = false := by
            rw [beq_eq_false_iff_ne, ByteArray.toList_eq, ByteArray.toList_eq, HFL.out, htl]
            exact hne
          have HNE := Lib.hid hne
          clear heq htk htl hk0 hne
          go_wp2
          go_roundw
          case rel => exact ⟨k + 1, by omega, by simp, (by first | rfl | trivial), Lib.hid (fun j h1 h2 => by
            by_cases hjk : j < k
            · exact HN.out j h1 hjk
            · obtain rfl : j = k := by omega
              exact HNE.out)⟩
          case measure => simp [intOf]; omega
    · obtain rfl : k = 10 := by omega
      have hRz : R = 0 := by rw [← HR.out]; exact faultOf_none (fun j h1 h2 => HN.out j h1 h2)
      subst hRz
      go_wp2
      go_ret
      exact ⟨rfl, HB1.out⟩
end Go.Proofs.YtcnmghkmognhoaaDoor
