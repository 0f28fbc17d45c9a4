/- cells. -/
import Derived.Test.YtdeneogbnmedkaaE
import Derived.Maps.AppendAt
namespace Go.Proofs.Ytdeneogbnmedkaa
open Go.RowKit Go.Maps

theorem info73 : (Try.prog.info? 73).map (fun i => (i.zero, i.size, i.bytes)) = some (some (.agg #[.int .i64 0, .int .i64 0]), 2, 16) := by kernel_rfl
theorem rowF_len (r : R4) (i n : Nat) : (rowF r i n).length = n := by simp [rowF]
theorem rowF_succ (r : R4) (i n : Nat) : rowF r i (n + 1) = rowF r i n ++ [(r.1 + (i : Int), r.2.1 + (n : Int))] := by simp [rowF, List.range_succ]
theorem rowsF_succ (r : R4) (n : Nat) : rowsF r (n + 1) = rowsF r n ++ rowF r n r.2.2.2.toNat := by simp [rowsF, List.range_succ]
theorem rowsF_len (r : R4) (n : Nat) : (rowsF r n).length = n * r.2.2.2.toNat := by
  induction n with
  | zero => simp [rowsF]
  | succ n ih => rw [rowsF_succ, List.length_append, ih, rowF_len, Nat.succ_mul]
theorem own_shape {w : World} {base e size n : Nat} {v : Value} {xs : List Value} (h : w.ownsRow base e size v n xs) : ∃ A c, v = .slice A n c := by
  rcases h.2 with ⟨h1, h2⟩ | ⟨g, cap, cur, h1, _⟩
  · exact ⟨none, 0, by rw [h1, h2]⟩
  · exact ⟨_, _, h1⟩
theorem own_ge {w : World} {base : Nat} {v : Value} {n : Nat} {xs : List Value} (h : w.ownsRow base 73 2 v n xs) {b : Nat} (hb : b < base) : some b ≠ v.ownBlock := by
  rcases h.2 with ⟨rfl, _⟩ | ⟨g, cap, cur, rfl, hg, _⟩
  · intro he; cases he
  · intro he; injection he with he; simp only at he; omega
theorem own_mono {w : World} {b b' : Nat} {v : Value} {n : Nat} {xs : List Value} (h : w.ownsRow b 73 2 v n xs) (hb : b' ≤ b) : w.ownsRow b' 73 2 v n xs := by
  refine ⟨h.1, ?_⟩
  rcases h.2 with h5 | ⟨g, cap, cur, hv, h0, h6⟩
  · exact .inl h5
  · exact .inr ⟨g, cap, cur, hv, Nat.le_trans hb h0, h6⟩
theorem lit_at {w : World} {x y : Value} {b : Nat} (hb : b = w.heap.size) : ∀ (j : Nat) (u : Value), [x, y][j]? = some u → (w.alloc (.cells #[x, y] 73)).cell? ((⟨b, 0, none⟩ : Addr).add j) = some u := by
  subst hb
  intro j u hj
  rw [add_off]
  match j, hj with
  | 0, hj => simp at hj; subst hj; exact (World.cell?_alloc_new _ _ _ _).trans rfl
  | 1, hj => simp at hj; subst hj; exact (World.cell?_alloc_new _ _ _ _).trans rfl
  | j + 2, hj => simp at hj
theorem one_lit (x y : Int) : ∀ u ∈ [Value.int .i64 x, Value.int .i64 y], u.oneCell' = true := by
  intro u hu
  simp only [List.mem_cons, List.not_mem_nil, or_false] at hu
  rcases hu with rfl | rfl <;> rfl

/-- a rect that may be decided -/
def OkR (r : R4) : Prop := 0 ≤ r.1 ∧ r.1 ≤ 1000 ∧ 0 ≤ r.2.1 ∧ r.2.1 ≤ 1000 ∧ 1 ≤ r.2.2.1 ∧ r.2.2.1 ≤ 4096 ∧ 1 ≤ r.2.2.2 ∧ r.2.2.2 ≤ 4096
set_option maxHeartbeats 2000000 in
theorem cells_any (r : R4) (hr : OkR r) (w : World) :
    Calls Try.prog 31 #[.agg #[.int .i64 r.1, .int .i64 r.2.1, .int .i64 r.2.2.1, .int .i64 r.2.2.2]] w fun e w' => ∃ v, e = .returned v ∧ w'.ownsRow w.heap.size 73 2 v (cellsF r).length (flat2 (cellsF r)) ∧ Below w.heap.size w w' := by
  obtain ⟨i0, hj, hj0, hj1, hj2⟩ := info_parts info73
  have hL : ∀ n, (rowsF r n).length = n * r.2.2.2.toNat := rowsF_len r
  have hS := rowsF_succ r
  have hT := rowF_succ r
  have hC : cellsF r = rowsF r r.2.2.1.toNat := rfl
  obtain ⟨R, hR⟩ : ∃ R, rowsF r = R := ⟨_, rfl⟩
  have hR0 : R 0 = [] := by rw [← hR]; rfl
  obtain ⟨T, hTT⟩ : ∃ T, rowF r = T := ⟨_, rfl⟩
  have hT0 : ∀ i, T i 0 = [] := fun i => by rw [← hTT]; rfl
  have hTl : ∀ i n, (T i n).length = n := fun i n => by rw [← hTT]; exact rowF_len r i n
  obtain ⟨L, hLL⟩ : ∃ L, cellsF r = L := ⟨_, rfl⟩
  rw [hR] at hL hS hC
  rw [hTT] at hS hT
  rw [hLL] at hC ⊢
  obtain ⟨x, y, a, b⟩ := r
  unfold OkR at hr
  simp only at hr hL hS hT hC ⊢
  clear hR hTT hLL
  obtain ⟨na, hna⟩ : ∃ na : Nat, a = na := ⟨a.toNat, by omega⟩
  obtain ⟨nb, hnb⟩ : ∃ nb : Nat, b = nb := ⟨b.toNat, by omega⟩
  subst hna hnb
  simp only [Int.toNat_natCast] at hL hS hC
  have HL := Lib.hid hL
  have HS := Lib.hid hS
  have HT := Lib.hid hT
  have HC := Lib.hid hC
  have HR0 := Lib.hid hR0
  have HT0 := Lib.hid hT0
  have HTl := Lib.hid hTl
  have hb0 : Below w.heap.size w (w.alloc (.cells #[.int .i64 x, .int .i64 y, .int .i64 (na : Int), .int .i64 (nb : Int)] 47)) := (Below.refl _ _).alloc (Nat.le_refl _) _
  have hz0 : (w.alloc (.cells #[.int .i64 x, .int .i64 y, .int .i64 (na : Int), .int .i64 (nb : Int)] 47)).heap[w.heap.size]? = some (.cells #[.int .i64 x, .int .i64 y, .int .i64 (na : Int), .int .i64 (nb : Int)] 47 (0, 0)) := World.alloc_heap_new w _
  have hzz : w.heap.size < (w.alloc (.cells #[.int .i64 x, .int .i64 y, .int .i64 (na : Int), .int .i64 (nb : Int)] 47)).heap.size := by simp
  clear hL hS hT hC hR0 hT0 hTl
  go_enter Try.func31, Try.ntmps31
  go_wp2_with fail
  obtain ⟨W0, hW0⟩ : ∃ W0, w.alloc (.cells #[.int .i64 x, .int .i64 y, .int .i64 (na : Int), .int .i64 (nb : Int)] 47) = W0 := ⟨_, rfl⟩
  rw [hW0] at hb0 hz0 hzz ⊢
  have HB0 := Lib.hid hb0
  have HZ0 := Lib.hid hz0
  clear hb0 hz0 hW0
  go_loopw [3, 8] (fun u i wr => ∃ k : Nat, k ≤ na ∧ i = .int .i64 k ∧ wr.ownsRow W0.heap.size 73 2 u (R k).length (flat2 (R k)) ∧ Below W0.heap.size W0 wr) (fun _ i _ => na - (intOf i).toNat)
  case atStart => exact ⟨0, Nat.zero_le _, rfl, by rw [HR0.out]; exact ⟨rfl, .inl ⟨rfl, rfl⟩⟩, Below.refl _ _⟩
  case round =>
    obtain ⟨k, hk, rfl, hrow, hB⟩ := hrel
    obtain ⟨A9, c9, rfl⟩ := own_shape hrow
    have HROW := Lib.hid hrow
    have HW := Lib.hid hB
    obtain ⟨e0, e1, e2, e3, _⟩ := box4 ((hB.block _ hzz).trans HZ0.out)
    clear hrow
    by_cases hlt : k < na
    · have hi1 : (↑k : Int) < ↑na := by omega
      clear hB
      go_wp2_with fail
      go_loopw [3, 13] (fun u i wq => ∃ j : Nat, j ≤ nb ∧ i = .int .i64 j ∧ wq.ownsRow W0.heap.size 73 2 u (R k ++ T k j).length (flat2 (R k ++ T k j)) ∧ Below W0.heap.size W0 wq) (fun _ i _ => nb - (intOf i).toNat)
      case atStart => exact ⟨0, Nat.zero_le _, rfl, by rw [HT0.out, List.append_nil]; exact HROW.out, HW.out⟩
      case round =>
        obtain ⟨j, hj9, rfl, hrow, hB⟩ := hrel
        obtain ⟨A8, c8, rfl⟩ := own_shape hrow
        have HROW2 := Lib.hid hrow
        have HW2 := Lib.hid hB
        obtain ⟨g0, g1, g2, g3, _⟩ := box4 ((hB.block _ hzz).trans HZ0.out)
        clear hrow hB e0 e1 e2 e3
        by_cases hlt2 : j < nb
        · have hi2 : (↑j : Int) < ↑nb := by omega
          have hwx : IntKind.i64.wrap (x + (k : Int)) = x + (k : Int) := by rw [IntKind.wrap_i64]; omega
          have hwy : IntKind.i64.wrap (y + (j : Int)) = y + (j : Int) := by rw [IntKind.wrap_i64]; omega
          have hln : (R k ++ T k j).length ≤ 16800000 := by
            rw [List.length_append, HL.out, HTl.out]
            have : k * nb ≤ 4096 * 4096 := Nat.mul_le_mul (by omega) (by omega)
            omega
          go_wp2_with (at_builtin; go_loud (refine wpList_append_own _ rfl _ _ 67 rfl W0.heap.size 73 i0 (.agg #[.int .i64 0, .int .i64 0]) 2 16 Try.underlying67 hj hj0 hj1 hj2 rfl (by decide) _ _ _ rfl (HROW2.out.alloc _) ⟨wr.heap.size, 0, none⟩ 1 1 [.int .i64 (x + (k : Int)), .int .i64 (y + (j : Int))] rfl rfl (lit_at (by simp)) (one_lit _ _) (by unfold maxLen; omega) (by omega) (by simp; have := HW2.out.size; omega) ?_; intro v1 w3 hown1 hgrow1 hnil1; have HO1 := Lib.hid hown1; have HG1 := Lib.hid hgrow1; clear hown1 hgrow1 hnil1))
          refine ⟨⟨j + 1, by omega, by simp, ?_, ?_⟩, by simp [intOf]; omega⟩
          · have h9 := HO1.out
            rw [HT.out, ← List.append_assoc]
            simp only [List.length_append, List.length_cons, List.length_nil, flat2_app] at h9 ⊢
            exact h9
          · refine (HW2.out.alloc (by have := HW2.out.size; omega) _).grown HG1.out (by have := HW2.out.size; simp at this ⊢; omega) (fun j e => ?_)
            by_cases hj9 : W0.heap.size ≤ j
            · exact hj9
            · exact absurd e.symm (own_ge HROW2.out (by omega))
        · obtain rfl : j = nb := by omega
          have hi2 : ¬ (↑j : Int) < ↑j := by omega
          go_wp2_with fail
          go_roundw
          case rel => exact ⟨k + 1, by omega, by simp, by rw [HS.out]; exact HROW2.out, HW2.out⟩
          case measure => simp [intOf]; omega
    · obtain rfl : k = na := by omega
      have hi1 : ¬ (↑k : Int) < ↑k := by omega
      go_wp2
      refine bodyPost_ret (v := .slice A9 (R k).length c9) (by simp [results, Try.f31, go_sem]) rfl ⟨_, rfl, ?_, HB0.out.trans (HW.out.mono (by omega))⟩
      rw [HC.out]
      exact own_mono HROW.out (by omega)
end Go.Proofs.Ytdeneogbnmedkaa
