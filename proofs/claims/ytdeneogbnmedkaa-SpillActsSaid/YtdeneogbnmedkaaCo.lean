/- The law SpillContent. -/
import Derived.Test.YtdeneogbnmedkaaTw
namespace Go.Proofs.Ytdeneogbnmedkaa
open Go.RowKit Go.Maps

theorem info58 : (Try.prog.info? 58).map (fun i => (i.zero, i.size, i.bytes)) = some (some (.agg #[.int .i64 0, .int .i64 0]), 2, 16) := by kernel_rfl
theorem rowG_lt {w : World} {v : Value} {n base e size : Nat} {xs : List Value} (h : w.ownsRow base e size v n xs) {g : Nat} (hg : v.ownBlock = some g) : g < w.heap.size ∧ base ≤ g := by
  rcases h.2 with ⟨rfl, _⟩ | ⟨g', cap, cur, rfl, hb, hc, _⟩
  · cases hg
  · injection hg with hg; subst hg; exact ⟨(Array.getElem?_eq_some_iff.1 hc).1, hb⟩
theorem rowG_kept {w w' : World} {v : Value} {n base e size : Nat} {xs : List Value} (h : w.ownsRow base e size v n xs) (hk : ∀ g, v.ownBlock = some g → w'.heap[g]? = w.heap[g]?) : w'.ownsRow base e size v n xs := by
  refine ⟨h.1, ?_⟩
  rcases h.2 with h5 | ⟨g, cap, cur, hv, h0, hg, h6⟩
  · exact .inl h5
  · exact .inr ⟨g, cap, cur, hv, h0, (hk g (by rw [hv]; rfl)).trans hg, h6⟩
theorem plG {w : World} {base e : Nat} {v : Value} {l : List Pl} (h : w.ownsRow base e 2 v l.length (flat2 l)) : PlAt w v l := by
  rcases h.2 with ⟨rfl, h0⟩ | ⟨g, cap, cur, rfl, _, hb, hnc, _, hsz, hcur⟩
  · obtain rfl : l = [] := List.eq_nil_of_length_eq_zero h0
    exact pl_nil w
  · refine ⟨_, _, rfl, hnc, fun k p hk => ⟨_, rfl, ?_⟩⟩
    obtain ⟨e1, e2⟩ := flat2_at hk
    have hat : ∀ j u, (flat2 l)[j]? = some u → cur[j]? = some u := fun j u hu => by
      have hj : j < l.length * 2 := by have := (List.getElem?_eq_some_iff.1 hu).1; rw [flat2_len] at this; exact this
      rw [← hcur, List.getElem?_take_of_lt hj] at hu
      simpa using hu
    rw [add_off]
    refine ⟨?_, ?_⟩
    · simp [World.cell?, hb, hat _ _ e1]
    · simp [World.cell?, hb, hat _ _ e2]
theorem lit58 {w : World} {x y : Value} {b : Nat} (hb : b = w.heap.size) : ∀ (j : Nat) (u : Value), [x, y][j]? = some u → (w.alloc (.cells #[x, y] 58)).cell? ((⟨b, 0, none⟩ : Addr).add j) = some u := by
  subst hb
  intro j u hj
  rw [add_off]
  match j, hj with
  | 0, hj => simp at hj; subst hj; exact (World.cell?_alloc_new _ _ _ _).trans rfl
  | 1, hj => simp at hj; subst hj; exact (World.cell?_alloc_new _ _ _ _).trans rfl
  | j + 2, hj => simp at hj
/-- a board, and a row of places beside it -/
def BR (w : World) (s m : Nat) (B : Brd) (v : Value) (K : List Pl) (W : World) : Prop :=
  ∃ S : Nat → Prop, BrdAt W s S m B ∧ (∀ b, S b → w.heap.size ≤ b ∧ b < W.heap.size) ∧ W.ownsRow w.heap.size 58 2 v K.length (flat2 K) ∧ (∀ g, v.ownBlock = some g → ¬ S g) ∧ Below w.heap.size w W
section
variable {w W W' : World} {s m m' : Nat} {B B' : Brd} {v : Value} {K : List Pl}
theorem BR.below (h : BR w s m B v K W) : Below w.heap.size w W := by obtain ⟨_, _, _, _, _, h⟩ := h; exact h
theorem BR.inv (h : BR w s m B v K W) : Inv B := by obtain ⟨_, h, _⟩ := h; exact h.1
theorem BR.row (h : BR w s m B v K W) : W.ownsRow w.heap.size 58 2 v K.length (flat2 K) := by obtain ⟨_, _, _, h, _⟩ := h; exact h
theorem BR.brd (h : BR w s m B v K W) : ∃ S, BrdAt W s S m B := by obtain ⟨S, h, _⟩ := h; exact ⟨S, h⟩
theorem BR.later (h : BR w s m B v K W) (hb : Below W.heap.size W W') : BR w s m B v K W' := by
  obtain ⟨S, h1, h2, h3, h4, h5⟩ := h
  exact ⟨S, h1.later hb, fun b hs => ⟨(h2 b hs).1, Nat.lt_of_lt_of_le (h2 b hs).2 hb.size⟩, rowG_kept h3 (fun g hg => hb.block g (rowG_lt h3 hg).1), h4, h5.trans (hb.mono h5.size)⟩
theorem BR.mono (h : BR w s m B v K W) (hm : m ≤ m') : BR w s m' B v K W := by
  obtain ⟨S, h1, h2⟩ := h
  exact ⟨S, h1.mono hm, h2⟩
theorem br_after {S : Nat → Prop} (h2 : ∀ b, S b → w.heap.size ≤ b ∧ b < W.heap.size) (h3 : W.ownsRow w.heap.size 58 2 v K.length (flat2 K)) (h4 : ∀ g, v.ownBlock = some g → ¬ S g) (h5 : Below w.heap.size w W)
    (hb : BrdAt W' s (fun b => S b ∨ W.heap.size ≤ b) m' B') (ho : Only S W W') : BR w s m' B' v K W' := by
  refine ⟨fun b => (S b ∨ W.heap.size ≤ b) ∧ b < W'.heap.size, hb.wider (fun b hb hl => ⟨hb, hl⟩), fun b hs => ⟨?_, hs.2⟩, rowG_kept h3 (fun g hg => ho.block g (rowG_lt h3 hg).1 (h4 g hg)), fun g hg hs => ?_, h5.trans (ho.below h5.size (fun b hb => (h2 b hb).1))⟩
  · rcases hs.1 with h | h
    · exact (h2 b h).1
    · exact Nat.le_trans h5.size h
  · rcases hs.1 with h | h
    · exact h4 g hg h
    · have := (rowG_lt h3 hg).1; omega
theorem fill_br (h : BR w s m B v K W) (hm : m ≤ 100000) {x y : Int} (hwf : Wf (x, y)) {r : Bool} (hr : fillR B (x, y) = r) (hB : fillB B (x, y) = B') :
    Calls Try.prog 13 #[.pointer (some ⟨s, 0, none⟩), .int .i64 x, .int .i64 y] W fun e W' => e = .returned (.bool r) ∧ BR w s (m + 1) B' v K W' := by
  obtain ⟨S, h1, h2, h3, h4, h5⟩ := h
  refine (fill_any x y hwf hm h1).mono ?_
  rintro e W' ⟨rfl, k1, k2⟩
  rw [hr]
  rw [hB] at k1
  exact ⟨rfl, br_after h2 h3 h4 h5 k1 k2⟩
theorem decide_br (h : BR w s m B v K W) (hm : m ≤ 100000) {x y a b : Int} (hwf : Wf (x, y)) {r : Bool} {e : Int} (hr : decR B (x, y, a, b) = r) (he : decE B (x, y, a, b) = e) (hB : decB B (x, y, a, b) = B') :
    Calls Try.prog 15 #[.pointer (some ⟨s, 0, none⟩), .int .i64 x, .int .i64 y, .int .i64 a, .int .i64 b] W fun e' W' => e' = .returned (.tuple #[.bool r, .int .i64 e]) ∧ BR w s (m + 1) B' v K W' := by
  obtain ⟨S, h1, h2, h3, h4, h5⟩ := h
  refine (decide_any x y a b hwf hm h1).mono ?_
  rintro e W' ⟨rfl, k1, k2⟩
  rw [hr, he]
  rw [hB] at k1
  exact ⟨rfl, br_after h2 h3 h4 h5 k1 k2⟩
theorem br_app {v' : Value} {W1 W2 : World} {x y : Int} (h : BR w s m B v K W) (hb : Below W.heap.size W W1) (hown : W2.ownsRow w.heap.size 58 2 v' (K.length + 1) (flat2 K ++ [.int .i64 x, .int .i64 y])) (hg : W1.grownBy W2 v.ownBlock) (hat : v'.ownBlock = v.ownBlock ∨ v'.ownBlock = some W1.heap.size) :
    BR w s m B v' (K ++ [(x, y)]) W2 := by
  obtain ⟨S, h1, h2, h3, h4, h5⟩ := h.later hb
  have ho : Only (fun b => v.ownBlock = some b) W1 W2 := Only.of_grown hg
  have h1' : BrdAt W1 s (fun b => S b ∧ b < W1.heap.size) m B := h1.wider (fun b hb hl => ⟨hb, hl⟩)
  refine ⟨fun b => S b ∧ b < W1.heap.size, h1'.kept ho (fun b hb _ he => h4 b he hb.1), fun b hb => ⟨(h2 b hb.1).1, Nat.lt_of_lt_of_le hb.2 hg.size⟩, ?_, fun g hg' hs => ?_, h5.grown hg h5.size (fun j e => (rowG_lt h3 e).2)⟩
  · rw [flat2_app, List.length_append]
    exact hown
  · rcases hat with hat | hat
    · exact h4 g (by rw [← hat]; exact hg') hs.1
    · rw [hat] at hg'
      injection hg' with hg'
      have := hs.2
      omega
end
theorem fill_con {B : Brd} {p q : Pl} (h : B.con q = true) : (fillB B p).con q = true := by
  unfold fillB
  split
  · simp [conP, h]
  · exact h
theorem fill_has {B : Brd} {p : Pl} (h : fillR B p = true) : (fillB B p).con p = true := by
  unfold fillB
  rw [if_pos h]
  simp [conP]
theorem dec_con (B : Brd) (r : R4) : (decB B r).con = B.con := by
  unfold decB
  split <;> rfl
theorem dec_some {B : Brd} {r : R4} (h : decE B r = 0 ∨ B.l ≠ []) : (decB B r).l ≠ [] := by
  unfold decB
  split
  · simp [addD]
  · rename_i hn
    rcases h with h | h
    · exact (hn h).elim
    · exact h
theorem fill_late {B : Brd} (h : B.l ≠ []) (p : Pl) : fillR B p = false ∧ fillB B p = B := by
  have hf : fillR B p = false := by
    unfold fillR
    cases hl : B.l with
    | nil => exact (h hl).elim
    | cons a l => simp
  exact ⟨hf, by unfold fillB; rw [hf]; rfl⟩
/-- who has a cell with content is of that anchor -/
theorem own_con {B : Brd} (h : Inv B) {p : Pl} (hc : B.con p = true) {r : R4} (ho : ownF B.l p = some r) : anc r = p := by
  obtain ⟨d, hd, hs, hp, rfl⟩ := ownF_some ho
  rcases Classical.em (p = anc d.r) with he | he
  · exact he.symm
  · have := h.free d hd hs p hp he
    rw [hc] at this
    cases this
set_option maxRecDepth 100000 in
set_option maxHeartbeats 8000000 in
theorem content_law {w : World} (s0 : Pl) (hs0 : Byte2 s0) (fv : Value) (fl : List Pl) (hf : PairsAt w fv fl) (hfb : ∀ d ∈ fl, Byte2 d) (v : Value) (l : List ActP) (ha : ActsAt w v l) (hwf : ∀ d ∈ l, WfA d) :
    Calls Try.prog 5 #[.agg #[.int .u8 s0.1, .int .u8 s0.2], fv, v] w fun e w' => e = .returned (.bool true) ∧ Below w.heap.size w w' := by
  obtain ⟨i0, hj, hj0, hj1, hj2⟩ := info_parts info58
  obtain ⟨z1, z2⟩ := s0
  unfold Byte2 at hs0
  simp only at hs0 ⊢
  obtain ⟨A, cc, rfl, hcc, _⟩ := id ha
  obtain ⟨A2, c2, rfl, hc2, _⟩ := id hf
  have HA := Lib.hid ha
  have HWF := Lib.hid hwf
  have HF := Lib.hid hf
  have HFB := Lib.hid hfb
  have hb0 : Below w.heap.size w (w.alloc (.cells #[.int .u8 z1, .int .u8 z2] 56)) := (Below.refl _ _).alloc (Nat.le_refl _) _
  have hz0 : (w.alloc (.cells #[.int .u8 z1, .int .u8 z2] 56)).heap[w.heap.size]? = some (.cells #[.int .u8 z1, .int .u8 z2] 56 (0, 0)) := World.alloc_heap_new w _
  obtain ⟨W0, hW0⟩ : ∃ W0, W0 = w.alloc (.cells #[.int .u8 z1, .int .u8 z2] 56) := ⟨_, rfl⟩
  rw [← hW0] at hb0 hz0
  have HB0 := Lib.hid hb0
  have HZ0 := Lib.hid hz0
  have HW0 := Lib.hid hW0
  clear ha hwf hf hfb hb0 hz0 hW0
  go_enter Try.func5, Try.ntmps5
  go_wp2_with fail
  rw [← HW0.out]
  refine (awake_any _).mono ?_
  rintro e w1 ⟨rfl, hb1⟩
  have HW1 := Lib.hid (HB0.out.trans (hb1.mono HB0.out.size))
  obtain ⟨a1, a2⟩ := box2 ((hb1.block _ (Array.getElem?_eq_some_iff.1 HZ0.out).1).trans HZ0.out)
  clear hb1 HZ0 HB0 HW0
  by_cases hlen : l.length ≤ 60
  rotate_left
  · have hlt : (60 : Int) < ↑l.length := by omega
    go_wp2_with fail
    refine (awake_any _).mono ?_
    rintro e w2 ⟨rfl, hb2⟩
    have HB2 := Lib.hid (HW1.out.trans (hb2.mono HW1.out.size))
    clear hb2
    go_wp2
    go_ret
    exact ⟨rfl, HB2.out⟩
  have hlt : ¬ (60 : Int) < ↑l.length := by omega
  by_cases hlen2 : fl.length ≤ 60
  rotate_left
  · have hlt2 : (60 : Int) < ↑fl.length := by omega
    go_wp2_with fail
    refine (awake_any _).mono ?_
    rintro e w2 ⟨rfl, hb2⟩
    have HB2 := Lib.hid (HW1.out.trans (hb2.mono HW1.out.size))
    clear hb2
    go_wp2
    go_ret
    exact ⟨rfl, HB2.out⟩
  have hlt2 : ¬ (60 : Int) < ↑fl.length := by omega
  have wz1 : IntKind.i64.wrap z1 = z1 := by rw [IntKind.wrap_i64]; omega
  have wz2 : IntKind.i64.wrap z2 = z2 := by rw [IntKind.wrap_i64]; omega
  have mz1 : z1.tmod 12 = z1 % 12 := Int.tmod_eq_emod_of_nonneg (by omega)
  have mz2 : z2.tmod 12 = z2 % 12 := Int.tmod_eq_emod_of_nonneg (by omega)
  have vz1 : IntKind.i64.wrap (z1 % 12) = z1 % 12 := by rw [IntKind.wrap_i64]; omega
  have vz2 : IntKind.i64.wrap (z2 % 12) = z2 % 12 := by rw [IntKind.wrap_i64]; omega
  go_wp2_with fail
  refine (new_any _ _ w1).mono ?_
  rintro e w2 ⟨rfl, n1, n2, n3⟩
  obtain ⟨s, hs⟩ : ∃ s, w1.heap.size + 3 = s := ⟨_, rfl⟩
  rw [hs] at n1 ⊢
  have hBR : BR w1 s 0 (newF (z1 % 12) (z2 % 12)) (.slice none 0 0) [] w2 := ⟨_, n1, fun b hb => ⟨hb.1, by omega⟩, ⟨rfl, .inl ⟨rfl, rfl⟩⟩, fun g hg => (by cases hg), n2⟩
  have HBR := Lib.hid hBR
  clear hs n1 n2 n3 hBR a1 a2 wz1 wz2 mz1 mz2 vz1 vz2 hlt hlt2 hs0
  go_wp2_with fail
  go_loopw [8, 9] (fun u i wr => ∃ (k : Nat) (B : Brd) (K : List Pl), k ≤ fl.length ∧ i = .int .i64 k ∧ BR w1 s k B u K wr ∧ K.length ≤ k ∧ ∀ p ∈ K, B.con p = true) (fun _ i _ => fl.length - (intOf i).toNat)
  case atStart => exact ⟨0, _, [], Nat.zero_le _, rfl, HBR.out, Nat.le_refl _, fun p hp => by simp at hp⟩
  case round =>
    obtain ⟨k, B, K, hk, rfl, hu, hkl, hcon⟩ := hrel
    obtain ⟨A3, c3, rfl⟩ := own_shape hu.row
    have HK := Lib.hid hu
    have HCON := Lib.hid hcon
    clear hu hcon HBR
    by_cases hlt : k < fl.length
    · have hx : fl[k]? = some fl[k] := List.getElem?_eq_getElem hlt
      obtain ⟨d, hd⟩ : ∃ d, fl[k] = d := ⟨_, rfl⟩
      rw [hd] at hx
      have hbd := HFB.out d (List.mem_of_getElem? hx)
      obtain ⟨ad, rfl, hI⟩ := pairs_in HF.out hx
      obtain ⟨e1, e2⟩ := hI wr (HW1.out.trans (HK.out.below.mono HW1.out.size))
      obtain ⟨x, y⟩ := d
      unfold Byte2 at hbd
      simp only at hbd e1 e2
      have wx : IntKind.i64.wrap x = x := by rw [IntKind.wrap_i64]; omega
      have wy : IntKind.i64.wrap y = y := by rw [IntKind.wrap_i64]; omega
      have mx : x.tmod 14 = x % 14 := Int.tmod_eq_emod_of_nonneg (by omega)
      have my : y.tmod 14 = y % 14 := Int.tmod_eq_emod_of_nonneg (by omega)
      have vx : IntKind.i64.wrap (x % 14) = x % 14 := by rw [IntKind.wrap_i64]; omega
      have vy : IntKind.i64.wrap (y % 14) = y % 14 := by rw [IntKind.wrap_i64]; omega
      have hi0 : (0 : Int) ≤ ↑k := by omega
      have hi1 : (↑k : Int) < ↑fl.length := by omega
      have hi2 : (↑fl.length : Int) ≤ ↑c2 := by omega
      have HWD := Lib.hid (wf_of (x := x % 14) (y := y % 14) (by omega) (by omega))
      clear hx hd hI hbd
      go_wp2_with fail
      refine wp_region_held_drew (S := fun X => X = wr.drew) (by kernel_rfl) rfl (fun hS => ?_)
      refine wpAnyH_take (i := 0) (v := ?v0c8) rfl (by kernel_rfl) (by kernel_rfl) (by kernel_rfl) (fun _ _ _ h => h) (Or.inl ⟨by kernel_rfl, ?h0c8⟩) rfl ?_
      case h0c8 => (rintro w2 rfl; go_simp; try with_reducible rfl)
      refine wpAnyH_take (i := 1) (v := ?v1c8) rfl (by kernel_rfl) (by kernel_rfl) (by kernel_rfl) (fun _ _ _ h => h) (Or.inl ⟨by kernel_rfl, ?h1c8⟩) rfl ?_
      case h1c8 => (rintro w2 rfl; go_simp; try with_reducible rfl)
      refine wpAnyH_take (i := 2) (v := ?v2c8) rfl (by kernel_rfl) (by kernel_rfl) (by kernel_rfl) (fun _ _ _ h => h) (Or.inl ⟨by kernel_rfl, ?h2c8⟩) rfl ?_
      case h2c8 => (rintro w2 rfl; go_simp; try with_reducible rfl)
      refine wpAnyH_take (i := 3) (v := ?v3c8) rfl (by kernel_rfl) (by kernel_rfl) (by kernel_rfl) (fun _ _ _ h => h) (Or.inl ⟨by kernel_rfl, ?h3c8⟩) rfl ?_
      case h3c8 => (rintro w2 rfl; go_simp; try with_reducible rfl)
      refine wpAnyH_take (i := 4) (v := ?v4c8) rfl (by kernel_rfl) (by kernel_rfl) (by kernel_rfl) (fun _ _ _ h => h) (Or.inl ⟨by kernel_rfl, ?h4c8⟩) rfl ?_
      case h4c8 => (rintro w2 rfl; go_simp; try with_reducible rfl)
      refine wpAnyH_take (i := 5) (v := ?v5c8) rfl (by kernel_rfl) (by kernel_rfl) (by kernel_rfl) (fun _ _ _ h => h) (Or.inl ⟨by kernel_rfl, ?h5c8⟩) rfl ?_
      case h5c8 => (rintro w2 rfl; go_simp; try with_reducible rfl)
      refine wpAnyH_take (i := 6) (v := ?v6c8) rfl (by kernel_rfl) (by kernel_rfl) (by kernel_rfl) (fun _ _ _ h => h) (Or.inl ⟨by kernel_rfl, ?h6c8⟩) rfl ?_
      case h6c8 => (rintro w2 rfl; go_simp; try with_reducible rfl)
      refine wpAnyH_take (i := 7) (v := ?v7c8) rfl (by kernel_rfl) (by kernel_rfl) (by kernel_rfl) (fun _ _ _ h => h) (Or.inl ⟨by kernel_rfl, ?h7c8⟩) rfl ?_
      case h7c8 => (rintro w2 rfl; go_simp; try with_reducible rfl)
      refine wpAnyH_take (i := 8) (v := ?v8c8) rfl (by kernel_rfl) (by kernel_rfl) (by kernel_rfl) (fun _ _ _ h => h) (Or.inl ⟨by kernel_rfl, ?h8c8⟩) rfl ?_
      case h8c8 => (rintro w2 rfl; go_simp; try with_reducible rfl)
      refine wpAnyH_take (i := 9) (v := ?v9c8) rfl (by kernel_rfl) (by kernel_rfl) (by kernel_rfl) (fun _ _ _ h => h) (Or.inl ⟨by kernel_rfl, ?h9c8⟩) rfl ?_
      case h9c8 => (rintro w2 rfl; go_simp; try with_reducible rfl)
      refine wpAnyH_take (i := 10) (v := ?v10c8) rfl (by kernel_rfl) (by kernel_rfl) (by kernel_rfl) (fun _ _ _ h => h) (Or.inl ⟨by kernel_rfl, ?h10c8⟩) rfl ?_
      case h10c8 => (rintro w2 rfl; go_simp; try with_reducible rfl)
      refine wpAnyH_take (i := 11) (v := ?v11c8) rfl (by kernel_rfl) (by kernel_rfl) (by kernel_rfl) (fun _ _ _ h => h) (Or.inl ⟨by kernel_rfl, ?h11c8⟩) rfl ?_
      case h11c8 => (rintro w2 rfl; go_simp; try with_reducible rfl)
      refine wpAnyH_take (i := 12) (v := ?v12c8) rfl (by kernel_rfl) (by kernel_rfl) (by kernel_rfl) (fun _ _ _ h => h) (Or.inl ⟨by kernel_rfl, ?h12c8⟩) rfl ?_
      case h12c8 => (rintro w2 rfl; go_simp; try with_reducible rfl)
      refine wpAnyH_take (i := 13) (v := ?v13c8) rfl (by kernel_rfl) (by kernel_rfl) (by kernel_rfl) (fun _ _ _ h => h) (Or.inl ⟨by kernel_rfl, ?h13c8⟩) rfl ?_
      case h13c8 => (rintro w2 rfl; go_simp; try with_reducible rfl)
      refine wpAnyH_take (i := 14) (v := ?v14c8) rfl (by kernel_rfl) (by kernel_rfl) (by kernel_rfl) (fun _ _ _ h => h) (Or.inl ⟨by kernel_rfl, ?h14c8⟩) rfl ?_
      case h14c8 => (rintro w2 rfl; go_simp; try with_reducible rfl)
      refine wpAnyH_take (i := 15) (v := ?v15c8) rfl (by kernel_rfl) (by kernel_rfl) (by kernel_rfl) (fun _ _ _ h => h) (Or.inl ⟨by kernel_rfl, ?h15c8⟩) rfl ?_
      case h15c8 => (rintro w2 rfl; go_simp; try with_reducible rfl)
      refine wpAnyH_done (by kernel_rfl) ?_ _
      go_simp
      clear e1 e2 wx wy mx my vx vy hS
      obtain ⟨r, hr⟩ : ∃ r, fillR B (x % 14, y % 14) = r := ⟨_, rfl⟩
      have HQ := Lib.hid hr
      clear hr
      go_wp2_with fail
      refine (fill_br (HK.out.later ((Below.refl _ _).drew)) (by omega) HWD.out HQ.out rfl).mono ?_
      rintro e v1 ⟨rfl, hu⟩
      have HU := Lib.hid hu
      clear hu
      cases r with
      | false =>
        go_wp2_with fail
        go_roundw
        case rel => exact ⟨k + 1, _, K, by omega, by simp, HU.out, by omega, fun p hp => fill_con (HCON.out p hp)⟩
        case measure => simp [intOf]; omega
      | true =>
        have hhas := fill_has HQ.out
        have HH := Lib.hid hhas
        have hrow := HU.out.row
        clear hhas
        go_wp2_with (at_builtin; go_loud (refine wpList_append_own_at _ rfl _ _ 26 rfl w1.heap.size 58 i0 (.agg #[.int .i64 0, .int .i64 0]) 2 16 Try.underlying26 hj hj0 hj1 hj2 rfl (by decide) _ _ _ rfl (rowG_kept hrow (fun g hg => Below.heap_alloc _ _ _ (rowG_lt hrow hg).1)) ⟨v1.heap.size, 0, none⟩ 1 1 [.int .i64 (x % 14), .int .i64 (y % 14)] rfl rfl (lit58 rfl) (one_lit _ _) (by unfold maxLen; omega) (by omega) (by simp; have := HU.out.below.size; omega) ?_; intro u1 v2 hown1 hgrow1 hnil1 hat1; have HR2 := Lib.hid (br_app HU.out ((Below.refl _ _).alloc (Nat.le_refl _) _) hown1 hgrow1 hat1); clear hown1 hgrow1 hnil1 hat1))
        go_roundw
        case rel => exact ⟨k + 1, _, K ++ [(x % 14, y % 14)], by omega, by simp, HR2.out, by simp; omega, fun p hp => by
          rcases List.mem_append.1 hp with hp | hp
          · exact fill_con (HCON.out p hp)
          · simp only [List.mem_singleton] at hp; rw [hp]; exact HH.out⟩
        case measure => simp [intOf]; omega
    · obtain rfl : k = fl.length := by omega
      have hlt2 : ¬ (↑fl.length : Int) < ↑fl.length := by omega
      go_wp2_with fail
      go_loopw [12, 13] (fun o i wr => ∃ (k : Nat) (B' : Brd) (q : Bool), k ≤ l.length ∧ i = .int .i64 k ∧ o = .bool q ∧ BR w1 s (fl.length + k + k) B' (.slice A3 K.length c3) K wr ∧ (q = true → B'.l ≠ []) ∧ B'.con = B.con) (fun _ i _ => l.length - (intOf i).toNat)
      case atStart => exact ⟨0, B, false, Nat.zero_le _, rfl, rfl, HK.out, fun h => by simp at h, rfl⟩
      case round =>
        obtain ⟨k, B', q, hk, rfl, rfl, hu, hq, hcn⟩ := hrel
        have HK' := Lib.hid hu
        have HQL := Lib.hid hq
        have HCN := Lib.hid hcn
        clear hu hq hcn HK
        have HK := HK'
        clear HK'
        by_cases hlt : k < l.length
        · have hx : l[k]? = some l[k] := List.getElem?_eq_getElem hlt
          obtain ⟨d, hd⟩ : ∃ d, l[k] = d := ⟨_, rfl⟩
          rw [hd] at hx
          have hwd := HWF.out d (List.mem_of_getElem? hx)
          have HWD := Lib.hid hwd.1
          obtain ⟨ad, rfl, hI⟩ := acts_in HA.out hx
          have HI := Lib.hid hI
          obtain ⟨fi, x, y, a, b⟩ := d
          have hi0 : (0 : Int) ≤ ↑k := by omega
          have hi1 : (↑k : Int) < ↑l.length := by omega
          have hi2 : (↑l.length : Int) ≤ ↑cc := by omega
          simp only at HI HWD
          obtain ⟨e1, he1⟩ : ∃ e1, decR B' (x, y, a, b) = e1 := ⟨_, rfl⟩
          obtain ⟨e2, he2⟩ : ∃ e2, decE B' (x, y, a, b) = e2 := ⟨_, rfl⟩
          have HQ := Lib.hid (And.intro he1 he2)
          have HC2 := Lib.hid (show (decB B' (x, y, a, b)).con = B.con by rw [dec_con]; exact HCN.out)
          clear hx hd hwd hI he1 he2
          go_wp2_with fail
          refine wp_region_held_drew (S := fun X => Below w.heap.size w X) (by kernel_rfl) ((HW1.out.trans (HK.out.below.mono HW1.out.size)).drew) (fun hS => ?_)
          refine wpAnyH_take (i := 0) (v := ?v0c15) rfl (by kernel_rfl) (by kernel_rfl) (by kernel_rfl) (fun _ _ _ h => h) (Or.inl ⟨by kernel_rfl, ?h0c15⟩) hS ?_
          case h0c15 => (rintro w2 hb; obtain ⟨_, e1, e2, e3, e4⟩ := HI.out w2 hb; go_simp; try with_reducible rfl)
          refine wpAnyH_take (i := 1) (v := ?v1c15) rfl (by kernel_rfl) (by kernel_rfl) (by kernel_rfl) (fun _ _ _ h => h) (Or.inl ⟨by kernel_rfl, ?h1c15⟩) hS ?_
          case h1c15 => (rintro w2 hb; obtain ⟨_, e1, e2, e3, e4⟩ := HI.out w2 hb; go_simp; try with_reducible rfl)
          refine wpAnyH_take (i := 2) (v := ?v2c15) rfl (by kernel_rfl) (by kernel_rfl) (by kernel_rfl) (fun _ _ _ h => h) (Or.inl ⟨by kernel_rfl, ?h2c15⟩) hS ?_
          case h2c15 => (rintro w2 hb; obtain ⟨_, e1, e2, e3, e4⟩ := HI.out w2 hb; go_simp; try with_reducible rfl)
          refine wpAnyH_take (i := 3) (v := ?v3c15) rfl (by kernel_rfl) (by kernel_rfl) (by kernel_rfl) (fun _ _ _ h => h) (Or.inl ⟨by kernel_rfl, ?h3c15⟩) hS ?_
          case h3c15 => (rintro w2 hb; obtain ⟨_, e1, e2, e3, e4⟩ := HI.out w2 hb; go_simp; try with_reducible rfl)
          refine wpAnyH_take (i := 4) (v := ?v4c15) rfl (by kernel_rfl) (by kernel_rfl) (by kernel_rfl) (fun _ _ _ h => h) (Or.inl ⟨by kernel_rfl, ?h4c15⟩) hS ?_
          case h4c15 => (rintro w2 hb; obtain ⟨_, e1, e2, e3, e4⟩ := HI.out w2 hb; go_simp; try with_reducible rfl)
          refine wpAnyH_take (i := 5) (v := ?v5c15) rfl (by kernel_rfl) (by kernel_rfl) (by kernel_rfl) (fun _ _ _ h => h) (Or.inl ⟨by kernel_rfl, ?h5c15⟩) hS ?_
          case h5c15 => (rintro w2 hb; obtain ⟨_, e1, e2, e3, e4⟩ := HI.out w2 hb; go_simp; try with_reducible rfl)
          refine wpAnyH_take (i := 6) (v := ?v6c15) rfl (by kernel_rfl) (by kernel_rfl) (by kernel_rfl) (fun _ _ _ h => h) (Or.inl ⟨by kernel_rfl, ?h6c15⟩) hS ?_
          case h6c15 => (rintro w2 hb; obtain ⟨_, e1, e2, e3, e4⟩ := HI.out w2 hb; go_simp; try with_reducible rfl)
          refine wpAnyH_take (i := 7) (v := ?v7c15) rfl (by kernel_rfl) (by kernel_rfl) (by kernel_rfl) (fun _ _ _ h => h) (Or.inl ⟨by kernel_rfl, ?h7c15⟩) hS ?_
          case h7c15 => (rintro w2 hb; obtain ⟨_, e1, e2, e3, e4⟩ := HI.out w2 hb; go_simp; try with_reducible rfl)
          refine wpAnyH_take (i := 8) (v := ?v8c15) rfl (by kernel_rfl) (by kernel_rfl) (by kernel_rfl) (fun _ _ _ h => h) (Or.inl ⟨by kernel_rfl, ?h8c15⟩) hS ?_
          case h8c15 => (rintro w2 hb; obtain ⟨_, e1, e2, e3, e4⟩ := HI.out w2 hb; go_simp; try with_reducible rfl)
          refine wpAnyH_take (i := 9) (v := ?v9c15) rfl (by kernel_rfl) (by kernel_rfl) (by kernel_rfl) (fun _ _ _ h => h) (Or.inl ⟨by kernel_rfl, ?h9c15⟩) hS ?_
          case h9c15 => (rintro w2 hb; obtain ⟨_, e1, e2, e3, e4⟩ := HI.out w2 hb; go_simp; try with_reducible rfl)
          refine wpAnyH_take (i := 10) (v := ?v10c15) rfl (by kernel_rfl) (by kernel_rfl) (by kernel_rfl) (fun _ _ _ h => h) (Or.inl ⟨by kernel_rfl, ?h10c15⟩) hS ?_
          case h10c15 => (rintro w2 hb; obtain ⟨_, e1, e2, e3, e4⟩ := HI.out w2 hb; go_simp; try with_reducible rfl)
          refine wpAnyH_take (i := 11) (v := ?v11c15) rfl (by kernel_rfl) (by kernel_rfl) (by kernel_rfl) (fun _ _ _ h => h) (Or.inl ⟨by kernel_rfl, ?h11c15⟩) hS ?_
          case h11c15 => (rintro w2 hb; obtain ⟨_, e1, e2, e3, e4⟩ := HI.out w2 hb; go_simp; try with_reducible rfl)
          refine wpAnyH_take (i := 12) (v := ?v12c15) rfl (by kernel_rfl) (by kernel_rfl) (by kernel_rfl) (fun _ _ _ h => h) (Or.inl ⟨by kernel_rfl, ?h12c15⟩) hS ?_
          case h12c15 => (rintro w2 hb; obtain ⟨_, e1, e2, e3, e4⟩ := HI.out w2 hb; go_simp; try with_reducible rfl)
          refine wpAnyH_take (i := 13) (v := ?v13c15) rfl (by kernel_rfl) (by kernel_rfl) (by kernel_rfl) (fun _ _ _ h => h) (Or.inl ⟨by kernel_rfl, ?h13c15⟩) hS ?_
          case h13c15 => (rintro w2 hb; obtain ⟨_, e1, e2, e3, e4⟩ := HI.out w2 hb; go_simp; try with_reducible rfl)
          refine wpAnyH_take (i := 14) (v := ?v14c15) rfl (by kernel_rfl) (by kernel_rfl) (by kernel_rfl) (fun _ _ _ h => h) (Or.inl ⟨by kernel_rfl, ?h14c15⟩) hS ?_
          case h14c15 => (rintro w2 hb; obtain ⟨_, e1, e2, e3, e4⟩ := HI.out w2 hb; go_simp; try with_reducible rfl)
          refine wpAnyH_take (i := 15) (v := ?v15c15) rfl (by kernel_rfl) (by kernel_rfl) (by kernel_rfl) (fun _ _ _ h => h) (Or.inl ⟨by kernel_rfl, ?h15c15⟩) hS ?_
          case h15c15 => (rintro w2 hb; obtain ⟨_, e1, e2, e3, e4⟩ := HI.out w2 hb; go_simp; try with_reducible rfl)
          refine wpAnyH_take (i := 16) (v := ?v16c15) rfl (by kernel_rfl) (by kernel_rfl) (by kernel_rfl) (fun _ _ _ h => h) (Or.inl ⟨by kernel_rfl, ?h16c15⟩) hS ?_
          case h16c15 => (rintro w2 hb; obtain ⟨_, e1, e2, e3, e4⟩ := HI.out w2 hb; go_simp; try with_reducible rfl)
          refine wpAnyH_take (i := 17) (v := ?v17c15) rfl (by kernel_rfl) (by kernel_rfl) (by kernel_rfl) (fun _ _ _ h => h) (Or.inl ⟨by kernel_rfl, ?h17c15⟩) hS ?_
          case h17c15 => (rintro w2 hb; obtain ⟨_, e1, e2, e3, e4⟩ := HI.out w2 hb; go_simp; try with_reducible rfl)
          refine wpAnyH_take (i := 18) (v := ?v18c15) rfl (by kernel_rfl) (by kernel_rfl) (by kernel_rfl) (fun _ _ _ h => h) (Or.inl ⟨by kernel_rfl, ?h18c15⟩) hS ?_
          case h18c15 => (rintro w2 hb; obtain ⟨_, e1, e2, e3, e4⟩ := HI.out w2 hb; go_simp; try with_reducible rfl)
          refine wpAnyH_take (i := 19) (v := ?v19c15) rfl (by kernel_rfl) (by kernel_rfl) (by kernel_rfl) (fun _ _ _ h => h) (Or.inl ⟨by kernel_rfl, ?h19c15⟩) hS ?_
          case h19c15 => (rintro w2 hb; obtain ⟨_, e1, e2, e3, e4⟩ := HI.out w2 hb; go_simp; try with_reducible rfl)
          refine wpAnyH_take (i := 20) (v := ?v20c15) rfl (by kernel_rfl) (by kernel_rfl) (by kernel_rfl) (fun _ _ _ h => h) (Or.inl ⟨by kernel_rfl, ?h20c15⟩) hS ?_
          case h20c15 => (rintro w2 hb; obtain ⟨_, e1, e2, e3, e4⟩ := HI.out w2 hb; go_simp; try with_reducible rfl)
          refine wpAnyH_ready (rs := [21]) (by kernel_rfl) (by simp) (AllReadyH.cons rfl (fun K hK => ?_) AllReadyH.nil)
          go_simp
          go_wp2_with (go_at_call 15; refine (decide_br (HK.out.later ((Below.refl _ _).drew)) (by omega) HWD.out HQ.out.1 HQ.out.2 rfl).mono ?_; rintro e v1 ⟨rfl, hU⟩; have HU2 := Lib.hid hU; clear hU)
          refine hK.out _ _ (HW1.out.trans (HU2.out.below.mono HW1.out.size)) (fun hS21 => ?_); clear hK K
          refine wpAnyH_take (i := 22) (v := ?v22c15) rfl (by kernel_rfl) (by kernel_rfl) (by kernel_rfl) (fun _ _ _ h => h) (Or.inl ⟨by kernel_rfl, ?h22c15⟩) hS21 ?_
          case h22c15 => (rintro w2 hb; obtain ⟨_, e1, e2, e3, e4⟩ := HI.out w2 hb; go_simp; try with_reducible rfl)
          refine wpAnyH_take (i := 23) (v := ?v23c15) rfl (by kernel_rfl) (by kernel_rfl) (by kernel_rfl) (fun _ _ _ h => h) (Or.inl ⟨by kernel_rfl, ?h23c15⟩) hS21 ?_
          case h23c15 => (rintro w2 hb; obtain ⟨_, e1, e2, e3, e4⟩ := HI.out w2 hb; go_simp; try with_reducible rfl)
          refine wpAnyH_take (i := 24) (v := ?v24c15) rfl (by kernel_rfl) (by kernel_rfl) (by kernel_rfl) (fun _ _ _ h => h) (Or.inl ⟨by kernel_rfl, ?h24c15⟩) hS21 ?_
          case h24c15 => (rintro w2 hb; obtain ⟨_, e1, e2, e3, e4⟩ := HI.out w2 hb; go_simp; try with_reducible rfl)
          refine wpAnyH_take (i := 25) (v := ?v25c15) rfl (by kernel_rfl) (by kernel_rfl) (by kernel_rfl) (fun _ _ _ h => h) (Or.inl ⟨by kernel_rfl, ?h25c15⟩) hS21 ?_
          case h25c15 => (rintro w2 hb; obtain ⟨_, e1, e2, e3, e4⟩ := HI.out w2 hb; go_simp; try with_reducible rfl)
          refine wpAnyH_take (i := 26) (v := ?v26c15) rfl (by kernel_rfl) (by kernel_rfl) (by kernel_rfl) (fun _ _ _ h => h) (Or.inl ⟨by kernel_rfl, ?h26c15⟩) hS21 ?_
          case h26c15 => (rintro w2 hb; obtain ⟨_, e1, e2, e3, e4⟩ := HI.out w2 hb; go_simp; try with_reducible rfl)
          refine wpAnyH_done (by kernel_rfl) ?_ _
          go_simp
          cases q with
          | true =>
            have HNE := Lib.hid (dec_some (B := B') (r := (x, y, a, b)) (.inr (HQL.out rfl)))
            have HLT := Lib.hid (fill_late HNE.out (x, y))
            go_wp2_with fail
            refine wp_region_held_drew (S := fun X => Below w.heap.size w X) (by kernel_rfl) ((HW1.out.trans (HU2.out.below.mono HW1.out.size)).drew) (fun hS => ?_)
            refine wpAnyH_take (i := 0) (v := .bool true) rfl (by kernel_rfl) (by kernel_rfl) (by kernel_rfl) (fun _ _ _ h => h) (Or.inl ⟨by kernel_rfl, ?h0ca⟩) hS ?_
            case h0ca => (rintro w2 hb; obtain ⟨_, e1, e2, e3, e4⟩ := HI.out w2 hb; go_simp; try with_reducible rfl)
            refine wpAnyH_take (i := 1) (v := .bool true) rfl (by kernel_rfl) (by kernel_rfl) (by kernel_rfl) (fun _ _ _ h => h) (Or.inl ⟨by kernel_rfl, ?h1ca⟩) hS ?_
            case h1ca => (rintro w2 hb; obtain ⟨_, e1, e2, e3, e4⟩ := HI.out w2 hb; go_simp; try with_reducible rfl)
            refine wpAnyH_take (i := 2) (v := ?v2ca) rfl (by kernel_rfl) (by kernel_rfl) (by kernel_rfl) (fun _ _ _ h => h) (Or.inl ⟨by kernel_rfl, ?h2ca⟩) hS ?_
            case h2ca => (rintro w2 hb; obtain ⟨_, e1, e2, e3, e4⟩ := HI.out w2 hb; go_simp; try with_reducible rfl)
            refine wpAnyH_take (i := 3) (v := ?v3ca) rfl (by kernel_rfl) (by kernel_rfl) (by kernel_rfl) (fun _ _ _ h => h) (Or.inl ⟨by kernel_rfl, ?h3ca⟩) hS ?_
            case h3ca => (rintro w2 hb; obtain ⟨_, e1, e2, e3, e4⟩ := HI.out w2 hb; go_simp; try with_reducible rfl)
            refine wpAnyH_take (i := 4) (v := ?v4ca) rfl (by kernel_rfl) (by kernel_rfl) (by kernel_rfl) (fun _ _ _ h => h) (Or.inl ⟨by kernel_rfl, ?h4ca⟩) hS ?_
            case h4ca => (rintro w2 hb; obtain ⟨_, e1, e2, e3, e4⟩ := HI.out w2 hb; go_simp; try with_reducible rfl)
            refine wpAnyH_take (i := 5) (v := ?v5ca) rfl (by kernel_rfl) (by kernel_rfl) (by kernel_rfl) (fun _ _ _ h => h) (Or.inl ⟨by kernel_rfl, ?h5ca⟩) hS ?_
            case h5ca => (rintro w2 hb; obtain ⟨_, e1, e2, e3, e4⟩ := HI.out w2 hb; go_simp; try with_reducible rfl)
            refine wpAnyH_take (i := 6) (v := ?v6ca) rfl (by kernel_rfl) (by kernel_rfl) (by kernel_rfl) (fun _ _ _ h => h) (Or.inl ⟨by kernel_rfl, ?h6ca⟩) hS ?_
            case h6ca => (rintro w2 hb; obtain ⟨_, e1, e2, e3, e4⟩ := HI.out w2 hb; go_simp; try with_reducible rfl)
            refine wpAnyH_take (i := 7) (v := ?v7ca) rfl (by kernel_rfl) (by kernel_rfl) (by kernel_rfl) (fun _ _ _ h => h) (Or.inl ⟨by kernel_rfl, ?h7ca⟩) hS ?_
            case h7ca => (rintro w2 hb; obtain ⟨_, e1, e2, e3, e4⟩ := HI.out w2 hb; go_simp; try with_reducible rfl)
            refine wpAnyH_take (i := 8) (v := ?v8ca) rfl (by kernel_rfl) (by kernel_rfl) (by kernel_rfl) (fun _ _ _ h => h) (Or.inl ⟨by kernel_rfl, ?h8ca⟩) hS ?_
            case h8ca => (rintro w2 hb; obtain ⟨_, e1, e2, e3, e4⟩ := HI.out w2 hb; go_simp; try with_reducible rfl)
            refine wpAnyH_take (i := 9) (v := ?v9ca) rfl (by kernel_rfl) (by kernel_rfl) (by kernel_rfl) (fun _ _ _ h => h) (Or.inl ⟨by kernel_rfl, ?h9ca⟩) hS ?_
            case h9ca => (rintro w2 hb; obtain ⟨_, e1, e2, e3, e4⟩ := HI.out w2 hb; go_simp; try with_reducible rfl)
            refine wpAnyH_take (i := 10) (v := ?v10ca) rfl (by kernel_rfl) (by kernel_rfl) (by kernel_rfl) (fun _ _ _ h => h) (Or.inl ⟨by kernel_rfl, ?h10ca⟩) hS ?_
            case h10ca => (rintro w2 hb; obtain ⟨_, e1, e2, e3, e4⟩ := HI.out w2 hb; go_simp; try with_reducible rfl)
            refine wpAnyH_take (i := 11) (v := ?v11ca) rfl (by kernel_rfl) (by kernel_rfl) (by kernel_rfl) (fun _ _ _ h => h) (Or.inl ⟨by kernel_rfl, ?h11ca⟩) hS ?_
            case h11ca => (rintro w2 hb; obtain ⟨_, e1, e2, e3, e4⟩ := HI.out w2 hb; go_simp; try with_reducible rfl)
            refine wpAnyH_take (i := 12) (v := ?v12ca) rfl (by kernel_rfl) (by kernel_rfl) (by kernel_rfl) (fun _ _ _ h => h) (Or.inl ⟨by kernel_rfl, ?h12ca⟩) hS ?_
            case h12ca => (rintro w2 hb; obtain ⟨_, e1, e2, e3, e4⟩ := HI.out w2 hb; go_simp; try with_reducible rfl)
            refine wpAnyH_ready (rs := [13]) (by kernel_rfl) (by simp) (AllReadyH.cons rfl (fun K hK => ?_) AllReadyH.nil)
            go_simp
            go_wp2_with (go_at_call 13; refine (fill_br (HU2.out.later ((Below.refl _ _).drew)) (by omega) HWD.out HLT.out.1 HLT.out.2).mono ?_; rintro e v2 ⟨rfl, hU⟩; have HU3 := Lib.hid hU; clear hU)
            refine hK.out _ _ (HW1.out.trans (HU3.out.below.mono HW1.out.size)) (fun hS13 => ?_); clear hK K
            refine wpAnyH_take (i := 14) (v := ?v14ca) rfl (by kernel_rfl) (by kernel_rfl) (by kernel_rfl) (fun _ _ _ h => h) (Or.inl ⟨by kernel_rfl, ?h14ca⟩) hS13 ?_
            case h14ca => (rintro w2 hb; obtain ⟨_, e1, e2, e3, e4⟩ := HI.out w2 hb; go_simp; try with_reducible rfl)
            refine wpAnyH_done (by kernel_rfl) ?_ _
            go_simp
            go_wp2_with fail
            go_roundw
            case rel => exact ⟨k + 1, _, true, by omega, by simp, rfl, by rw [show fl.length + (k + 1) + (k + 1) = fl.length + k + k + 1 + 1 by omega]; exact HU3.out, fun _ => HNE.out, HC2.out⟩
            case measure => simp [intOf]; omega
          | false =>
            by_cases h0 : e2 = 0
            · have hb0 : (e2 == 0) = true := by simpa using h0
              have HNE := Lib.hid (dec_some (B := B') (r := (x, y, a, b)) (.inl (HQ.out.2.trans h0)))
              have HLT := Lib.hid (fill_late HNE.out (x, y))
              clear h0
              go_wp2_with fail
              refine wp_region_held_drew (S := fun X => Below w.heap.size w X) (by kernel_rfl) ((HW1.out.trans (HU2.out.below.mono HW1.out.size)).drew) (fun hS => ?_)
              refine wpAnyH_take (i := 0) (v := .bool true) rfl (by kernel_rfl) (by kernel_rfl) (by kernel_rfl) (fun _ _ _ h => h) (Or.inl ⟨by kernel_rfl, ?h0cb⟩) hS ?_
              case h0cb => (rintro w2 hb; obtain ⟨_, e1, e2, e3, e4⟩ := HI.out w2 hb; go_simp; try with_reducible rfl)
              refine wpAnyH_take (i := 1) (v := .bool true) rfl (by kernel_rfl) (by kernel_rfl) (by kernel_rfl) (fun _ _ _ h => h) (Or.inl ⟨by kernel_rfl, ?h1cb⟩) hS ?_
              case h1cb => (rintro w2 hb; obtain ⟨_, e1, e2, e3, e4⟩ := HI.out w2 hb; go_simp; try with_reducible rfl)
              refine wpAnyH_take (i := 2) (v := ?v2cb) rfl (by kernel_rfl) (by kernel_rfl) (by kernel_rfl) (fun _ _ _ h => h) (Or.inl ⟨by kernel_rfl, ?h2cb⟩) hS ?_
              case h2cb => (rintro w2 hb; obtain ⟨_, e1, e2, e3, e4⟩ := HI.out w2 hb; go_simp; try with_reducible rfl)
              refine wpAnyH_take (i := 3) (v := ?v3cb) rfl (by kernel_rfl) (by kernel_rfl) (by kernel_rfl) (fun _ _ _ h => h) (Or.inl ⟨by kernel_rfl, ?h3cb⟩) hS ?_
              case h3cb => (rintro w2 hb; obtain ⟨_, e1, e2, e3, e4⟩ := HI.out w2 hb; go_simp; try with_reducible rfl)
              refine wpAnyH_take (i := 4) (v := ?v4cb) rfl (by kernel_rfl) (by kernel_rfl) (by kernel_rfl) (fun _ _ _ h => h) (Or.inl ⟨by kernel_rfl, ?h4cb⟩) hS ?_
              case h4cb => (rintro w2 hb; obtain ⟨_, e1, e2, e3, e4⟩ := HI.out w2 hb; go_simp; try with_reducible rfl)
              refine wpAnyH_take (i := 5) (v := ?v5cb) rfl (by kernel_rfl) (by kernel_rfl) (by kernel_rfl) (fun _ _ _ h => h) (Or.inl ⟨by kernel_rfl, ?h5cb⟩) hS ?_
              case h5cb => (rintro w2 hb; obtain ⟨_, e1, e2, e3, e4⟩ := HI.out w2 hb; go_simp; try with_reducible rfl)
              refine wpAnyH_take (i := 6) (v := ?v6cb) rfl (by kernel_rfl) (by kernel_rfl) (by kernel_rfl) (fun _ _ _ h => h) (Or.inl ⟨by kernel_rfl, ?h6cb⟩) hS ?_
              case h6cb => (rintro w2 hb; obtain ⟨_, e1, e2, e3, e4⟩ := HI.out w2 hb; go_simp; try with_reducible rfl)
              refine wpAnyH_take (i := 7) (v := ?v7cb) rfl (by kernel_rfl) (by kernel_rfl) (by kernel_rfl) (fun _ _ _ h => h) (Or.inl ⟨by kernel_rfl, ?h7cb⟩) hS ?_
              case h7cb => (rintro w2 hb; obtain ⟨_, e1, e2, e3, e4⟩ := HI.out w2 hb; go_simp; try with_reducible rfl)
              refine wpAnyH_take (i := 8) (v := ?v8cb) rfl (by kernel_rfl) (by kernel_rfl) (by kernel_rfl) (fun _ _ _ h => h) (Or.inl ⟨by kernel_rfl, ?h8cb⟩) hS ?_
              case h8cb => (rintro w2 hb; obtain ⟨_, e1, e2, e3, e4⟩ := HI.out w2 hb; go_simp; try with_reducible rfl)
              refine wpAnyH_take (i := 9) (v := ?v9cb) rfl (by kernel_rfl) (by kernel_rfl) (by kernel_rfl) (fun _ _ _ h => h) (Or.inl ⟨by kernel_rfl, ?h9cb⟩) hS ?_
              case h9cb => (rintro w2 hb; obtain ⟨_, e1, e2, e3, e4⟩ := HI.out w2 hb; go_simp; try with_reducible rfl)
              refine wpAnyH_take (i := 10) (v := ?v10cb) rfl (by kernel_rfl) (by kernel_rfl) (by kernel_rfl) (fun _ _ _ h => h) (Or.inl ⟨by kernel_rfl, ?h10cb⟩) hS ?_
              case h10cb => (rintro w2 hb; obtain ⟨_, e1, e2, e3, e4⟩ := HI.out w2 hb; go_simp; try with_reducible rfl)
              refine wpAnyH_take (i := 11) (v := ?v11cb) rfl (by kernel_rfl) (by kernel_rfl) (by kernel_rfl) (fun _ _ _ h => h) (Or.inl ⟨by kernel_rfl, ?h11cb⟩) hS ?_
              case h11cb => (rintro w2 hb; obtain ⟨_, e1, e2, e3, e4⟩ := HI.out w2 hb; go_simp; try with_reducible rfl)
              refine wpAnyH_take (i := 12) (v := ?v12cb) rfl (by kernel_rfl) (by kernel_rfl) (by kernel_rfl) (fun _ _ _ h => h) (Or.inl ⟨by kernel_rfl, ?h12cb⟩) hS ?_
              case h12cb => (rintro w2 hb; obtain ⟨_, e1, e2, e3, e4⟩ := HI.out w2 hb; go_simp; try with_reducible rfl)
              refine wpAnyH_ready (rs := [13]) (by kernel_rfl) (by simp) (AllReadyH.cons rfl (fun K hK => ?_) AllReadyH.nil)
              go_simp
              go_wp2_with (go_at_call 13; refine (fill_br (HU2.out.later ((Below.refl _ _).drew)) (by omega) HWD.out HLT.out.1 HLT.out.2).mono ?_; rintro e v2 ⟨rfl, hU⟩; have HU3 := Lib.hid hU; clear hU)
              refine hK.out _ _ (HW1.out.trans (HU3.out.below.mono HW1.out.size)) (fun hS13 => ?_); clear hK K
              refine wpAnyH_take (i := 14) (v := ?v14cb) rfl (by kernel_rfl) (by kernel_rfl) (by kernel_rfl) (fun _ _ _ h => h) (Or.inl ⟨by kernel_rfl, ?h14cb⟩) hS13 ?_
              case h14cb => (rintro w2 hb; obtain ⟨_, e1, e2, e3, e4⟩ := HI.out w2 hb; go_simp; try with_reducible rfl)
              refine wpAnyH_done (by kernel_rfl) ?_ _
              go_simp
              go_wp2_with fail
              go_roundw
              case rel => exact ⟨k + 1, _, true, by omega, by simp, rfl, by rw [show fl.length + (k + 1) + (k + 1) = fl.length + k + k + 1 + 1 by omega]; exact HU3.out, fun _ => HNE.out, HC2.out⟩
              case measure => simp [intOf]; omega
            · have hb0 : (e2 == 0) = false := by simpa using h0
              clear h0
              go_wp2_with fail
              refine wp_region_held_drew (S := fun X => Below w.heap.size w X) (by kernel_rfl) ((HW1.out.trans (HU2.out.below.mono HW1.out.size)).drew) (fun hS => ?_)
              refine wpAnyH_take (i := 0) (v := .bool false) rfl (by kernel_rfl) (by kernel_rfl) (by kernel_rfl) (fun _ _ _ h => h) (Or.inl ⟨by kernel_rfl, ?h0cc⟩) hS ?_
              case h0cc => (rintro w2 hb; go_simp; try with_reducible rfl)
              refine wpAnyH_take (i := 1) (v := .bool false) rfl (by kernel_rfl) (by kernel_rfl) (by kernel_rfl) (fun _ _ _ h => h) (Or.inl ⟨by kernel_rfl, ?h1cc⟩) hS ?_
              case h1cc => (rintro w2 hb; go_simp; try with_reducible rfl)
              refine wpAnyH_take (i := 2) (v := undef) rfl (by kernel_rfl) (by kernel_rfl) (by kernel_rfl) (fun _ _ _ h => h) (Or.inr ⟨by kernel_rfl, rfl⟩) hS ?_
              refine wpAnyH_take (i := 3) (v := undef) rfl (by kernel_rfl) (by kernel_rfl) (by kernel_rfl) (fun _ _ _ h => h) (Or.inr ⟨by kernel_rfl, rfl⟩) hS ?_
              refine wpAnyH_take (i := 4) (v := undef) rfl (by kernel_rfl) (by kernel_rfl) (by kernel_rfl) (fun _ _ _ h => h) (Or.inr ⟨by kernel_rfl, rfl⟩) hS ?_
              refine wpAnyH_take (i := 5) (v := undef) rfl (by kernel_rfl) (by kernel_rfl) (by kernel_rfl) (fun _ _ _ h => h) (Or.inr ⟨by kernel_rfl, rfl⟩) hS ?_
              refine wpAnyH_take (i := 6) (v := undef) rfl (by kernel_rfl) (by kernel_rfl) (by kernel_rfl) (fun _ _ _ h => h) (Or.inr ⟨by kernel_rfl, rfl⟩) hS ?_
              refine wpAnyH_take (i := 7) (v := undef) rfl (by kernel_rfl) (by kernel_rfl) (by kernel_rfl) (fun _ _ _ h => h) (Or.inr ⟨by kernel_rfl, rfl⟩) hS ?_
              refine wpAnyH_take (i := 8) (v := undef) rfl (by kernel_rfl) (by kernel_rfl) (by kernel_rfl) (fun _ _ _ h => h) (Or.inr ⟨by kernel_rfl, rfl⟩) hS ?_
              refine wpAnyH_take (i := 9) (v := undef) rfl (by kernel_rfl) (by kernel_rfl) (by kernel_rfl) (fun _ _ _ h => h) (Or.inr ⟨by kernel_rfl, rfl⟩) hS ?_
              refine wpAnyH_take (i := 10) (v := undef) rfl (by kernel_rfl) (by kernel_rfl) (by kernel_rfl) (fun _ _ _ h => h) (Or.inr ⟨by kernel_rfl, rfl⟩) hS ?_
              refine wpAnyH_take (i := 11) (v := undef) rfl (by kernel_rfl) (by kernel_rfl) (by kernel_rfl) (fun _ _ _ h => h) (Or.inr ⟨by kernel_rfl, rfl⟩) hS ?_
              refine wpAnyH_take (i := 12) (v := undef) rfl (by kernel_rfl) (by kernel_rfl) (by kernel_rfl) (fun _ _ _ h => h) (Or.inr ⟨by kernel_rfl, rfl⟩) hS ?_
              refine wpAnyH_take (i := 13) (v := undef) rfl (by kernel_rfl) (by kernel_rfl) (by kernel_rfl) (fun _ _ _ h => h) (Or.inr ⟨by kernel_rfl, rfl⟩) hS ?_
              refine wpAnyH_take (i := 14) (v := ?v14cc) rfl (by kernel_rfl) (by kernel_rfl) (by kernel_rfl) (fun _ _ _ h => h) (Or.inl ⟨by kernel_rfl, ?h14cc⟩) hS ?_
              case h14cc => (rintro w2 hb; go_simp; try with_reducible rfl)
              refine wpAnyH_done (by kernel_rfl) ?_ _
              go_simp
              go_wp2_with fail
              go_roundw
              case rel => exact ⟨k + 1, _, false, by omega, by simp, rfl, (HU2.out.later ((Below.refl _ _).drew)).mono (by omega), fun h => by simp at h, HC2.out⟩
              case measure => simp [intOf]; omega
        · obtain rfl : k = l.length := by omega
          have hlt3 : ¬ (↑l.length : Int) < ↑l.length := by omega
          have HINV := Lib.hid HK.out.inv
          go_wp2_with fail
          go_loopw [125] (fun i wr => ∃ (j : Nat), j ≤ K.length ∧ i = .int .i64 j ∧ BR w1 s (fl.length + l.length + l.length) B' (.slice A3 K.length c3) K wr) (fun i _ => K.length - (intOf i).toNat)
          case atStart => exact ⟨0, Nat.zero_le _, rfl, HK.out⟩
          case round =>
            obtain ⟨j, hj9, rfl, hu⟩ := hrel
            have HKK := Lib.hid hu
            clear hu HK
            by_cases hlt : j < K.length
            · have hx : K[j]? = some K[j] := List.getElem?_eq_getElem hlt
              obtain ⟨d, hd⟩ : ∃ d, K[j] = d := ⟨_, rfl⟩
              rw [hd] at hx
              have hcon : B'.con d = true := by rw [HCN.out]; exact HCON.out d (List.mem_of_getElem? hx)
              obtain ⟨A4, c4, hv4, hc4, hI4⟩ := plG HKK.out.row
              simp only [Value.slice.injEq, true_and] at hv4
              obtain ⟨rfl, rfl⟩ := hv4
              obtain ⟨ad, rfl, k2, k3⟩ := hI4 j d hx
              obtain ⟨x, y⟩ := d
              have hwf : Wf (x, y) := by
                have h1 := (hasP_iff _ _).1 (HINV.out.con _ hcon)
                have h2 := HINV.out.r0
                have h3 := HINV.out.c0
                simp only at h1
                exact wf_of (by omega) (by omega)
              have hi0 : (0 : Int) ≤ ↑j := by omega
              have hi1 : (↑j : Int) < ↑K.length := by omega
              have hi2 : (↑K.length : Int) ≤ ↑c3 := by omega
              simp only at k2 k3
              have hbu : Below wr.heap.size wr (wr.alloc (.cells #[.int .i64 x, .int .i64 y] 58)) := (Below.refl _ _).alloc (Nat.le_refl _) _
              have hzu : (wr.alloc (.cells #[.int .i64 x, .int .i64 y] 58)).heap[wr.heap.size]? = some (.cells #[.int .i64 x, .int .i64 y] 58 (0, 0)) := World.alloc_heap_new wr _
              have HKU := Lib.hid (HKK.out.later hbu)
              have HZU := Lib.hid hzu
              obtain ⟨u0, u1⟩ := box2 hzu
              obtain ⟨SS, hSS⟩ := HKU.out.brd
              have hown := owner_any x y hwf hSS
              cases ho : ownF B'.l (x, y) with
              | none =>
                have hv0 : ownA B' (x, y) = .tuple #[.agg #[.int .i64 0, .int .i64 0, .int .i64 0, .int .i64 0], .bool false] := by unfold ownA; rw [ho]; rfl
                rw [hv0] at hown
                have HOW := Lib.hid hown
                clear hx hd hcon hI4 hwf hbu hzu hSS hown hv0 ho
                go_wp2_with fail
                refine HOW.out.mono ?_
                rintro e x4 ⟨rfl, hb4⟩
                have HK4 := Lib.hid (HKU.out.later hb4)
                clear hb4
                go_wp2_with fail
                go_roundw
                case rel => exact ⟨j + 1, by omega, by simp, HK4.out.later ((Below.refl _ _).alloc (Nat.le_refl _) _)⟩
                case measure => simp [intOf]; omega
              | some r =>
                have hanc := own_con HINV.out hcon ho
                obtain ⟨r1, r2, r3, r4⟩ := r
                simp only [anc, Prod.mk.injEq] at hanc
                obtain ⟨rfl, rfl⟩ := hanc
                have hv0 : ownA B' (r1, r2) = .tuple #[.agg #[.int .i64 r1, .int .i64 r2, .int .i64 r3, .int .i64 r4], .bool true] := by unfold ownA; rw [ho]; rfl
                rw [hv0] at hown
                have HOW := Lib.hid hown
                clear hx hd hcon hI4 hwf hbu hzu hSS hown hv0 ho
                go_wp2_with fail
                refine HOW.out.mono ?_
                rintro e x4 ⟨rfl, hb4⟩
                have HK4 := Lib.hid (HKU.out.later hb4)
                have hbx : Below (wr.alloc (.cells #[.int .i64 r1, .int .i64 r2] 58)).heap.size (wr.alloc (.cells #[.int .i64 r1, .int .i64 r2] 58)) (x4.alloc (.cells #[.int .i64 r1, .int .i64 r2, .int .i64 r3, .int .i64 r4] 47)) := hb4.alloc hb4.size _
                obtain ⟨g0, g1⟩ := box2 ((hbx.block _ (Array.getElem?_eq_some_iff.1 HZU.out).1).trans HZU.out)
                clear hb4 hbx
                go_wp2_with fail
                go_roundw
                case rel => exact ⟨j + 1, by omega, by simp, HK4.out.later ((Below.refl _ _).alloc (Nat.le_refl _) _)⟩
                case measure => simp [intOf]; omega
            · obtain rfl : j = K.length := by omega
              have hlt4 : ¬ (↑K.length : Int) < ↑K.length := by omega
              have HBF := Lib.hid (HW1.out.trans (HKK.out.below.mono HW1.out.size))
              go_wp2
              go_ret
              exact ⟨rfl, HBF.out⟩
end Go.Proofs.Ytdeneogbnmedkaa
