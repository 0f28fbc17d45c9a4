/- Faults' texts: the table, folding, the fault with which a text begins. -/
import Derived.Test.YtcnmghkmognhoaaDoorH
import Derived.Laws.IdiomStrings
namespace Go.Proofs.YtcnmghkmognhoaaDoor
open Go.RowKit Go.Shelf

def fT (k : Nat) : ByteArray := ⟨(faultT k).toArray⟩
theorem fT_list (k : Nat) : (fT k).data.toList = faultT k := rfl
/-- what lies in a law's world: the faults' texts; a number of the library's -/
structure Env (w : World) : Prop where
  tab : ∀ k, k < 10 → w.cell? ⟨0, k, none⟩ = some (.string (fT k))
  max : ∃ m, w.cell? ⟨1, 0, none⟩ = some (.int .i64 m)
theorem Env.below {w w' : World} (h : Env w) (hb : Below w.heap.size w w') : Env w' := by
  obtain ⟨m, hm⟩ := h.max
  exact ⟨fun k hk => (hb.cell (p := ⟨0, k, none⟩) (cell_lt (h.tab k hk))).trans (h.tab k hk), m, (hb.cell (p := ⟨1, 0, none⟩) (cell_lt hm)).trans hm⟩
theorem ftext_any (k : Nat) (hk : k < 10) (w : World) (he : Env w) : Calls Tryd.prog 93 #[.int .i64 (k : Int)] w fun e w' => e = .returned (.string (fT k)) ∧ w = w' := by
  have hc := he.tab k hk
  have h0 : (0 : Int) ≤ (k : Int) := by omega
  have h1 : (k : Int) < 10 := by omega
  go_enter Tryd.func93, Tryd.ntmps93
  go_wp2
  go_ret
  exact ⟨rfl, rfl⟩
theorem fold_nat {x : UInt8} (h1 : 97 ≤ x.toNat) (h2 : x.toNat ≤ 122) : ((foldB x).toNat : Int) = (x.toNat : Int) - 97 + 65 := by
  unfold foldB
  rw [if_pos ⟨h1, h2⟩, UInt8.toNat_add, UInt8.toNat_sub]
  simp
  omega
theorem fold_no {x : UInt8} (h : ¬ (97 ≤ x.toNat ∧ x.toNat ≤ 122)) : foldB x = x := by unfold foldB; rw [if_neg h]
/-- the bytes while they are folded -/
def FoldAt (b n : Nat) (s : ByteArray) (k : Nat) (W : World) : Prop :=
  ∃ cur : Array Value, W.heap[b]? = some (.cells cur 5 (n, n + 1)) ∧ s.size ≤ n ∧ ∀ j (h : j < s.size), cur[j]? = some (.int .u8 ((if j < k then foldB s[j] else s[j]).toNat : Int))
theorem FoldAt.cell {b n k : Nat} {s : ByteArray} {W : World} (h : FoldAt b n s k W) (j : Nat) (hj : j < s.size) : W.cell? ⟨b, j, none⟩ = some (.int .u8 ((if j < k then foldB s[j] else s[j]).toNat : Int)) ∧ W.frozen? ⟨b, j, none⟩ = false := by
  obtain ⟨cur, h1, h2, h3⟩ := h
  refine ⟨?_, ?_⟩
  · simp [World.cell?, h1, h3 j hj]
  · simp only [World.frozen?, h1]
    simp; omega
theorem FoldAt.set {b n k : Nat} {s : ByteArray} {W : World} (h : FoldAt b n s k W) (hk : k < s.size) : FoldAt b n s (k + 1) (W.setCell ⟨b, k, none⟩ (.int .u8 ((foldB s[k]).toNat : Int))) := by
  obtain ⟨cur, h1, h2, h3⟩ := h
  refine ⟨cur.setIfInBounds k (.int .u8 ((foldB s[k]).toNat : Int)), by simp [World.setCell, Array.getElem?_modify, h1], h2, fun j hj => ?_⟩
  by_cases hjk : j = k
  · subst hjk
    have := (Array.getElem?_eq_some_iff.1 (h3 j hj)).1
    rw [if_pos (by omega)]
    simp [this]
  · rw [Array.getElem?_setIfInBounds_ne (Ne.symm hjk), h3 j hj]
    by_cases hlt : j < k
    · rw [if_pos hlt, if_pos (by omega)]
    · rw [if_neg hlt, if_neg (by omega)]
theorem FoldAt.same {b n k : Nat} {s : ByteArray} {W : World} (h : FoldAt b n s k W) (hk : k < s.size) (hf : foldB s[k] = s[k]) : FoldAt b n s (k + 1) W := by
  obtain ⟨cur, h1, h2, h3⟩ := h
  refine ⟨cur, h1, h2, fun j hj => ?_⟩
  rw [h3 j hj]
  by_cases hjk : j = k
  · subst hjk
    rw [if_neg (by omega), if_pos (by omega), hf]
  · by_cases hlt : j < k
    · rw [if_pos hlt, if_pos (by omega)]
    · rw [if_neg hlt, if_neg (by omega)]
set_option maxRecDepth 100000 in
set_option maxHeartbeats 1000000 in
theorem fold_any (s : ByteArray) (hs : s.size ≤ 100000) (w : World) : Calls Tryd.prog 118 #[.string s] w fun e w' => e = .returned (.string ⟨(s.data.toList.map foldB).toArray⟩) ∧ Below w.heap.size w w' := by
  have hconv := run_bytes_of_string (P := Tryd.prog) w 9 41 5 s Tryd.underlying9 Tryd.underlying41 Tryd.underlying5
  obtain ⟨cap, hcap⟩ : ∃ c, grownCap w s.size 0 5 = c := ⟨_, rfl⟩
  have hcs : s.size ≤ cap := by rw [← hcap]; exact grownCap_ge _ _ _ _
  rw [hcap] at hconv
  obtain ⟨W1, hW1⟩ : ∃ W1, w.drew.alloc (.cells (bytesRow s cap) 5 ((bytesRow s cap).size, (bytesRow s cap).size + 1)) = W1 := ⟨_, rfl⟩
  have hb1 : Below w.heap.size w W1 := by rw [← hW1]; exact ((Below.refl _ _).drew).alloc (Nat.le_refl _) _
  have hF : FoldAt w.heap.size (bytesRow s cap).size s 0 W1 := by
    refine ⟨bytesRow s cap, by rw [← hW1]; exact heap_alloc_new w.drew _, by unfold bytesRow; simp, fun j hj => ?_⟩
    rw [if_neg (by omega)]
    unfold bytesRow
    rw [Array.getElem?_append_left (by simpa using hj)]
    simp [hj]
    rfl
  rw [hW1] at hconv
  obtain ⟨n, hn⟩ : ∃ n, (bytesRow s cap).size = n := ⟨_, rfl⟩
  rw [hn] at hF
  have HF := Lib.hid hF
  have HB1 := Lib.hid hb1
  clear hcap hW1 hb1 hF hn
  go_enter Tryd.func118, Tryd.ntmps118
  go_wp2_with fail
  clear hconv
  go_loopw [10] (fun i wr => ∃ k : Nat, k ≤ s.size ∧ i = .int .i64 (k : Int) ∧ FoldAt w.heap.size n s k wr ∧ Below w.heap.size w wr) (fun i _ => s.size - (intOf i).toNat)
  case atStart => exact ⟨0, by omega, rfl, HF.out, HB1.out⟩
  case round =>
    obtain ⟨k, hk, rfl, hf, hB⟩ := hrel
    have HFK := Lib.hid hf
    have HB := Lib.hid hB
    clear hf hB HF HB1
    by_cases hlt : k < s.size
    · obtain ⟨c0, f0⟩ := HFK.out.cell k hlt
      rw [if_neg (by omega)] at c0
      have hi : (k : Int) < (s.size : Int) := by omega
      have hi0 : (0 : Int) ≤ (k : Int) := by omega
      have hi2 : (s.size : Int) ≤ (cap : Int) := by omega
      obtain ⟨c, hc⟩ : ∃ c, s[k] = c := ⟨_, rfl⟩
      rw [hc] at c0
      have HC := Lib.hid hc
      clear hc
      by_cases h1 : 97 ≤ c.toNat
      · have h1i : (97 : Int) ≤ (c.toNat : Int) := by omega
        by_cases h2 : c.toNat ≤ 122
        · have h2i : (c.toNat : Int) ≤ 122 := by omega
          have hw1 : IntKind.u8.wrap ((c.toNat : Int) - 97) = (c.toNat : Int) - 97 := by rw [IntKind.wrap_u8]; omega
          have hw2 : IntKind.u8.wrap ((c.toNat : Int) - 97 + 65) = ((foldB c).toNat : Int) := by rw [IntKind.wrap_u8, fold_nat h1 h2]; omega
          have hset := HFK.out.set hlt
          rw [HC.out] at hset
          have HS := Lib.hid hset
          have HBS := Lib.hid (HB.out.setCell (p := ⟨w.heap.size, k, none⟩) (Nat.le_refl _) (.int .u8 ((foldB c).toNat : Int)))
          clear hset h1 h2
          go_wp2
          go_roundw
          case rel => exact ⟨k + 1, by omega, by simp, HS.out, HBS.out⟩
          case measure => simp [intOf]; omega
        · have h2i : ¬ (c.toNat : Int) ≤ 122 := by omega
          have HS := Lib.hid (HFK.out.same hlt (by rw [HC.out]; exact fold_no (by omega)))
          clear h1 h2
          go_wp2
          go_roundw
          case rel => exact ⟨k + 1, by omega, by simp, HS.out, HB.out⟩
          case measure => simp [intOf]; omega
      · have h1i : ¬ (97 : Int) ≤ (c.toNat : Int) := by omega
        have HS := Lib.hid (HFK.out.same hlt (by rw [HC.out]; exact fold_no (by omega)))
        clear h1
        go_wp2
        go_roundw
        case rel => exact ⟨k + 1, by omega, by simp, HS.out, HB.out⟩
        case measure => simp [intOf]; omega
    · obtain rfl : k = s.size := by omega
      have hi : ¬ (s.size : Int) < (s.size : Int) := by omega
      have hback := run_convert_bytes_back (P := Tryd.prog) wr 41 9 5 ⟨w.heap.size, 0, none⟩ cap (s.data.toList.map foldB) Tryd.underlying41 Tryd.underlying5 Tryd.underlying9 (fun j hj => by
        have hj' : j < s.size := by simpa using hj
        have h3 := (HFK.out.cell j hj').1
        rw [if_pos hj'] at h3
        have : (⟨w.heap.size, 0, none⟩ : Addr).add j = ⟨w.heap.size, j, none⟩ := by unfold Addr.add; split <;> simp_all
        rw [this, h3, List.getElem_map]
        rfl)
      rw [List.length_map, size_list] at hback
      go_wp2
      go_ret
      exact ⟨rfl, HB.out⟩
end Go.Proofs.YtcnmghkmognhoaaDoor
