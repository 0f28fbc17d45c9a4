/- judged. -/
import Derived.Test.YtdeneogbnmedkaaF
namespace Go.Proofs.Ytdeneogbnmedkaa
open Go.RowKit Go.Maps

theorem conM_get (B : Brd) (p : Pl) : (conM B p).getD (.bool false) = .bool (B.con p) := by
  unfold conM
  cases B.con p <;> rfl
theorem pl_ne (x y u v : Int) (w : World) : (binOp .neq 73 (.agg #[.int .i64 x, .int .i64 y]) (.agg #[.int .i64 u, .int .i64 v])).run Try.prog w = .ok (.bool (!((x, y) == (u, v)))) w := by
  by_cases h : x = u
  · subst h
    by_cases h2 : y = v
    · subst h2
      have : ((x, y) == (x, y)) = true := by simp
      rw [this]
      go_simp
    · have h3 : (y == v) = false := by simpa using h2
      have : ((x, y) == (x, v)) = false := by simpa using h2
      rw [this]
      go_simp
  · have h3 : (x == u) = false := by simpa using h
    have : ((x, y) == (u, v)) = false := by simp [h]
    rw [this]
    go_simp
theorem find_at {α : Type} {f : α → Bool} {L : List α} {k : Nat} {p : α} (hp : L[k]? = some p) (hf : f p = true) (hn : ∀ q ∈ L.take k, f q = false) : L.find? f = some p := by
  obtain ⟨hk, hkp⟩ := List.getElem?_eq_some_iff.1 hp
  have : L = L.take k ++ p :: L.drop (k + 1) := by
    rw [← hkp, ← List.drop_eq_getElem_cons hk, List.take_append_drop]
  rw [this, List.find?_append, List.find?_cons, hf]
  have : (L.take k).find? f = none := List.find?_eq_none.2 (fun q hq => by rw [hn q hq]; simp)
  rw [this]
  rfl
theorem set8 {w : World} {g t : Nat} {a b c d e f i j : Value} (a' b' c' d' e' f' i' j' : Value) (h : w.heap[g]? = some (.cells #[a, b, c, d, e, f, i, j] t (0, 0))) :
    ((((((((w.setCell ⟨g, 0, none⟩ a').setCell ⟨g, 1, none⟩ b').setCell ⟨g, 2, none⟩ c').setCell ⟨g, 3, none⟩ d').setCell ⟨g, 4, none⟩ e').setCell ⟨g, 5, none⟩ f').setCell ⟨g, 6, none⟩ i').setCell ⟨g, 7, none⟩ j').heap[g]? = some (.cells #[a', b', c', d', e', f', i', j'] t (0, 0)) := by
  simp [World.setCell, Array.getElem?_modify, h]
theorem below8 {w W : World} {g n : Nat} (a' b' c' d' e' f' i' j' : Value) (h : Below n w W) (hg : n ≤ g) :
    Below n w ((((((((W.setCell ⟨g, 0, none⟩ a').setCell ⟨g, 1, none⟩ b').setCell ⟨g, 2, none⟩ c').setCell ⟨g, 3, none⟩ d').setCell ⟨g, 4, none⟩ e').setCell ⟨g, 5, none⟩ f').setCell ⟨g, 6, none⟩ i').setCell ⟨g, 7, none⟩ j') :=
  (((((((h.setCell (p := ⟨g, 0, none⟩) hg _).setCell (p := ⟨g, 1, none⟩) hg _).setCell (p := ⟨g, 2, none⟩) hg _).setCell (p := ⟨g, 3, none⟩) hg _).setCell (p := ⟨g, 4, none⟩) hg _).setCell (p := ⟨g, 5, none⟩) hg _).setCell (p := ⟨g, 6, none⟩) hg _).setCell (p := ⟨g, 7, none⟩) hg _
theorem below_dn {B : Nat} {a w : World} (h : Below B a w) (j : Nat) : Below B a (w.drewN j) := ⟨h.os, h.tape, h.output, h.size, h.block⟩
theorem hBA2 {w w' w2 : World} (h : Below w.heap.size w w') (k : Below w'.heap.size w' w2) : Below w.heap.size w w2 := h.trans (k.mono h.size)
/-- the result's box, as it was made -/
def Zero8 (w : World) (g : Nat) : Prop := w.heap[g]? = some (.cells #[.int .i64 0, .int .i64 0, .int .i64 0, .int .i64 0, .bool false, .int .i64 0, .int .i64 0, .bool false] 78 (0, 0))

set_option maxRecDepth 100000 in
set_option maxHeartbeats 4000000 in
theorem judged_any {w : World} {s : Nat} {S : Nat → Prop} {m : Nat} {B : Brd} (r : R4) (hr : OkR r) (h : BrdAt w s S m B) :
    Calls Try.prog 30 #[.pointer (some ⟨s, 0, none⟩), .agg #[.int .i64 r.1, .int .i64 r.2.1, .int .i64 r.2.2.1, .int .i64 r.2.2.2]] w fun e w' => e = .returned (dcV (judF B r)) ∧ Below w.heap.size w w' := by
  obtain ⟨hinv, mc, mo, md, v, h⟩ := h
  obtain ⟨ir, ic⟩ := And.intro hinv.r0 hinv.c0
  have HJ1 : Hid (beyF B r = true → dcV (judF B r) = .agg #[.int .i64 r.1, .int .i64 r.2.1, .int .i64 r.2.2.1, .int .i64 r.2.2.2, .bool false, .int .i64 0, .int .i64 0, .bool false]) := Lib.hid fun hb => by unfold judF; rw [hb]; rfl
  have HJ2 : Hid (∀ p k, beyF B r = false → (cellsF r)[k]? = some p → barF B r p = true → (∀ q ∈ (cellsF r).take k, barF B r q = false) → dcV (judF B r) = .agg #[.int .i64 r.1, .int .i64 r.2.1, .int .i64 r.2.2.1, .int .i64 r.2.2.2, .bool false, .int .i64 p.1, .int .i64 p.2, .bool true]) := Lib.hid fun p k hb h1 h2 h3 => by unfold judF; rw [hb, find_at h1 h2 h3]; rfl
  have HJ3 : Hid (beyF B r = false → (∀ q ∈ cellsF r, barF B r q = false) → dcV (judF B r) = .agg #[.int .i64 r.1, .int .i64 r.2.1, .int .i64 r.2.2.1, .int .i64 r.2.2.2, .bool true, .int .i64 0, .int .i64 0, .bool false]) := Lib.hid fun hb h1 => by unfold judF; rw [hb, List.find?_eq_none.2 (fun q hq => by rw [h1 q hq]; simp)]; rfl
  have HBEY : Hid (beyF B r = (decide (B.rows - r.1 < r.2.2.1) || decide (B.cols - r.2.1 < r.2.2.2))) := Lib.hid rfl
  have HCW : Hid (∀ (k : Nat) p, (cellsF r)[k]? = some p → Wf p) := Lib.hid fun k p hp => by
    have h1 := (inR_iff _ _).1 (mem_cells.1 (List.mem_of_getElem? hp))
    unfold OkR at hr
    obtain ⟨p1, p2⟩ := p
    exact wf_of (by simp only at h1; omega) (by simp only at h1; omega)
  have HBAR : Hid (∀ p, barF B r p = ((!(p == anc r) && B.con p) || (ownF B.l p).isSome)) := Lib.hid fun _ => rfl
  have HCL := Lib.hid (fun w => cells_any r hr w)
  have hLL : (cellsF r).length ≤ 16800000 := by
    unfold cellsF
    rw [rowsF_len]
    unfold OkR at hr
    have : r.2.2.1.toNat * r.2.2.2.toNat ≤ 4096 * 4096 := Nat.mul_le_mul (by omega) (by omega)
    omega
  obtain ⟨L, hL⟩ : ∃ L, cellsF r = L := ⟨_, rfl⟩
  obtain ⟨J, hJ⟩ : ∃ J, dcV (judF B r) = J := ⟨_, rfl⟩
  obtain ⟨bey, hbey⟩ : ∃ b, beyF B r = b := ⟨_, rfl⟩
  obtain ⟨br, hbr⟩ : ∃ br, B.rows = br := ⟨_, rfl⟩
  obtain ⟨bc, hbc⟩ : ∃ bc, B.cols = bc := ⟨_, rfl⟩
  obtain ⟨bar, hbar⟩ : ∃ bar, barF B r = bar := ⟨_, rfl⟩
  rw [hL] at HJ2 HJ3 HCW HCL hLL
  rw [hJ] at HJ1 HJ2 HJ3 ⊢
  rw [hbey] at HJ1 HJ2 HJ3 HBEY
  rw [hbr] at HBEY ir
  rw [hbc] at HBEY ic
  rw [hbar] at HJ2 HJ3 HBAR
  have HBW := Lib.hid h
  have HBR := Lib.hid hbr
  have HBC := Lib.hid hbc
  obtain ⟨x, y, a, b⟩ := r
  unfold OkR at hr
  simp only [anc] at hr HJ1 HJ2 HJ3 HBEY HBAR HCL ⊢
  clear hL hJ hbey hbar hinv hbr hbc h
  have hw1 : IntKind.i64.wrap (br - x) = br - x := by rw [IntKind.wrap_i64]; omega
  have hw2 : IntKind.i64.wrap (bc - y) = bc - y := by rw [IntKind.wrap_i64]; omega
  go_enter Try.func30, Try.ntmps30
  go_wp2_with fail
  obtain ⟨W0, hW0⟩ : ∃ W0, W0 = ((w.alloc (.cells #[.int .i64 x, .int .i64 y, .int .i64 a, .int .i64 b] 47)).alloc (.cells #[.int .i64 0, .int .i64 0, .int .i64 0, .int .i64 0, .bool false, .int .i64 0, .int .i64 0, .bool false] 78)) := ⟨_, rfl⟩
  have hz0 : W0.heap[w.heap.size]? = some (.cells #[.int .i64 x, .int .i64 y, .int .i64 a, .int .i64 b] 47 (0, 0)) := by rw [hW0, Below.heap_alloc _ _ _ (by simp)]; exact World.alloc_heap_new w _
  have hz1 : Zero8 W0 (w.heap.size + 1) := by
    rw [hW0]
    have := World.alloc_heap_new (w.alloc (.cells #[.int .i64 x, .int .i64 y, .int .i64 a, .int .i64 b] 47)) (.cells #[.int .i64 0, .int .i64 0, .int .i64 0, .int .i64 0, .bool false, .int .i64 0, .int .i64 0, .bool false] 78)
    simpa [Zero8] using this
  have hB0 : Below w.heap.size w W0 := by rw [hW0]; exact (((Below.refl _ w).alloc (Nat.le_refl _) _).alloc (by simp) _)
  have hsz : W0.heap.size = w.heap.size + 2 := by rw [hW0]; simp
  have hW := HBW.out.later hB0
  rw [← hW0]
  have HZ0 := Lib.hid hz0
  have HZ1 := Lib.hid hz1
  have HB0 := Lib.hid hB0
  have HW := Lib.hid hW
  obtain ⟨c0, c1, _⟩ := hW.cells
  rw [HBR.out] at c0
  rw [HBC.out] at c1
  obtain ⟨b0, b1, b2, b3, _⟩ := box4 hz0
  clear hW0 hz0 hz1 hB0 hW HBR HBC
  by_cases h1 : br - x < a
  · obtain rfl : bey = true := by rw [HBEY.out]; simp [h1]
    go_quiet (fail)
    obtain ⟨V, hV⟩ : ∃ V, V = W0.drewN nq := ⟨_, rfl⟩
    rw [← hV]
    have HZV : Hid (Zero8 V (w.heap.size + 1)) := Lib.hid (by rw [hV]; exact HZ1.out)
    have HBV : Hid (Below w.heap.size w V) := Lib.hid (by rw [hV]; exact below_dn HB0.out _)
    have hbx := box4 (w := V) (by rw [hV]; exact HZ0.out)
    clear hV c0 c1 h1 hw1 hw2 b0 b1 b2 b3
    obtain ⟨b0, b1, b2, b3, _⟩ := hbx
    have hz1 := HZV.out
    unfold Zero8 at hz1
    obtain ⟨⟨t0, t1, t2, t3⟩, t4, t5, t6, t7, t8⟩ := box8 hz1
    have f0 := t8 0
    have f1 := t8 1
    have f2 := t8 2
    have f3 := t8 3
    have f4 := t8 4
    have f5 := t8 5
    have f6 := t8 6
    have f7 := t8 7
    clear t8 hz1
    go_wp2_with fail
    have hz2 := set8 (.int .i64 x) (.int .i64 y) (.int .i64 a) (.int .i64 b) (.bool false) (.int .i64 0) (.int .i64 0) (.bool false) HZV.out
    obtain ⟨⟨r0, r1, r2, r3⟩, r4, r5, r6, r7, _⟩ := box8 hz2
    rw [HJ1.out (by simp)]
    exact bodyPost_ret (v := .agg #[.int .i64 x, .int .i64 y, .int .i64 a, .int .i64 b, .bool false, .int .i64 0, .int .i64 0, .bool false]) (by simp [results, Try.f30, go_sem, r0, r1, r2, r3, r4, r5, r6, r7]) rfl ⟨rfl, below8 _ _ _ _ _ _ _ _ HBV.out (by omega)⟩
  by_cases h2 : bc - y < b
  · obtain rfl : bey = true := by rw [HBEY.out]; simp [h2]
    go_quiet (fail)
    obtain ⟨V, hV⟩ : ∃ V, V = W0.drewN nq := ⟨_, rfl⟩
    rw [← hV]
    have HZV : Hid (Zero8 V (w.heap.size + 1)) := Lib.hid (by rw [hV]; exact HZ1.out)
    have HBV : Hid (Below w.heap.size w V) := Lib.hid (by rw [hV]; exact below_dn HB0.out _)
    have hbx := box4 (w := V) (by rw [hV]; exact HZ0.out)
    clear hV c0 c1 h1 h2 hw1 hw2 b0 b1 b2 b3
    obtain ⟨b0, b1, b2, b3, _⟩ := hbx
    have hz1 := HZV.out
    unfold Zero8 at hz1
    obtain ⟨⟨t0, t1, t2, t3⟩, t4, t5, t6, t7, t8⟩ := box8 hz1
    have f0 := t8 0
    have f1 := t8 1
    have f2 := t8 2
    have f3 := t8 3
    have f4 := t8 4
    have f5 := t8 5
    have f6 := t8 6
    have f7 := t8 7
    clear t8 hz1
    go_wp2_with fail
    have hz2 := set8 (.int .i64 x) (.int .i64 y) (.int .i64 a) (.int .i64 b) (.bool false) (.int .i64 0) (.int .i64 0) (.bool false) HZV.out
    obtain ⟨⟨r0, r1, r2, r3⟩, r4, r5, r6, r7, _⟩ := box8 hz2
    rw [HJ1.out (by simp)]
    exact bodyPost_ret (v := .agg #[.int .i64 x, .int .i64 y, .int .i64 a, .int .i64 b, .bool false, .int .i64 0, .int .i64 0, .bool false]) (by simp [results, Try.f30, go_sem, r0, r1, r2, r3, r4, r5, r6, r7]) rfl ⟨rfl, below8 _ _ _ _ _ _ _ _ HBV.out (by omega)⟩
  obtain rfl : bey = false := by rw [HBEY.out]; simp [h1, h2]
  go_quiet (fail)
  clear HJ1
  go_wp2_with fail
  obtain ⟨WA, hWA⟩ : ∃ WA, (W0.drewN nq).alloc (.cells #[.int .i64 x, .int .i64 y] 73) = WA := ⟨_, rfl⟩
  have hBA : Below W0.heap.size W0 WA := by rw [← hWA]; exact (below_dn (Below.refl _ W0) nq).alloc (Nat.le_refl _) _
  have hk : WA.cell? ⟨w.heap.size + 2, 0, none⟩ = some (.int .i64 x) ∧ WA.cell? ⟨w.heap.size + 2, 1, none⟩ = some (.int .i64 y) ∧ w.heap.size + 2 < WA.heap.size := by
    rw [← hWA, ← hsz]
    exact ⟨(World.cell?_alloc_new (W0.drewN nq) _ _ _).trans rfl, (World.cell?_alloc_new (W0.drewN nq) _ _ _).trans rfl, by simp⟩
  have HBA := Lib.hid hBA
  have HK := Lib.hid hk
  rw [show (W0.drewN nq).alloc (.cells #[.int .i64 x, .int .i64 y] 73) = WA from hWA]
  clear hWA hBA hk c0 c1 h1 h2 hw1 hw2 b0 b1 b2 b3
  refine (HCL.out _).mono ?_
  rintro e w1 ⟨v1, rfl, hown, hb1⟩
  have hp := pl_of_own hown
  obtain ⟨A, c, rfl, hc, hI⟩ := hp
  have HI := Lib.hid hI
  have hB1 := hBA2 HBA.out hb1
  have HB1 := Lib.hid hB1
  have HK1 := Lib.hid (show w1.cell? ⟨w.heap.size + 2, 0, none⟩ = some (.int .i64 x) ∧ w1.cell? ⟨w.heap.size + 2, 1, none⟩ = some (.int .i64 y) ∧ w.heap.size + 2 < w1.heap.size from ⟨(hb1.cell HK.out.2.2).trans HK.out.1, (hb1.cell HK.out.2.2).trans HK.out.2.1, Nat.lt_of_lt_of_le HK.out.2.2 hb1.size⟩)
  clear hown hb1 hI hB1 HCL HBA HK
  go_wp2_with fail
  go_loopw [40] (fun i wr => ∃ k : Nat, k ≤ L.length ∧ i = .int .i64 k ∧ (∀ q ∈ L.take k, bar q = false) ∧ Below w1.heap.size w1 wr) (fun i _ => L.length - (intOf i).toNat)
  case atStart => exact ⟨0, Nat.zero_le _, rfl, by simp, Below.refl _ _⟩
  case round =>
    obtain ⟨k, hk, rfl, hn, hB⟩ := hrel
    have HN := Lib.hid hn
    have HBw := Lib.hid hB
    clear hn
    by_cases hlt : k < L.length
    · have hx : L[k]? = some L[k] := List.getElem?_eq_getElem hlt
      have hd : L.take (k + 1) = L.take k ++ [L[k]] := (List.take_append_getElem hlt).symm
      obtain ⟨e, he⟩ : ∃ e, L[k] = e := ⟨_, rfl⟩
      rw [he] at hx hd
      have HD := Lib.hid hd
      have HX := Lib.hid hx
      have hwf := HCW.out k e hx
      obtain ⟨ad, rfl, c2, c3⟩ := HI.out k e hx
      have hza := cell_lt c2
      rw [add_block] at hza
      have c2' := (hB.cell (by rw [add_block]; exact hza)).trans c2
      have c3' := (hB.cell (p := ⟨(ad.add (k * 2)).block, _, none⟩) (by simp only [add_block]; exact hza)).trans c3
      obtain ⟨p, q⟩ := e
      simp only at c2' c3'
      have hi0 : (0 : Int) ≤ ↑k := by omega
      have hi1 : (↑k : Int) < ↑L.length := by omega
      have hi2 : (↑L.length : Int) ≤ ↑c := by omega
      have hBu : Below W0.heap.size W0 (wr.alloc (.cells #[.int .i64 p, .int .i64 q] 73)) := (HB1.out.trans (hB.mono HB1.out.size)).alloc (by have := HB1.out.size; have := hB.size; omega) _
      have hu1 : (wr.alloc (.cells #[.int .i64 p, .int .i64 q] 73)).cell? ⟨wr.heap.size, 0, none⟩ = some (.int .i64 p) := (World.cell?_alloc_new _ _ _ _).trans rfl
      have hu2 : (wr.alloc (.cells #[.int .i64 p, .int .i64 q] 73)).cell? ⟨wr.heap.size, 1, none⟩ = some (.int .i64 q) := (World.cell?_alloc_new _ _ _ _).trans rfl
      have hBwu : Below w1.heap.size w1 (wr.alloc (.cells #[.int .i64 p, .int .i64 q] 73)) := hB.alloc hB.size _
      have HBWU := Lib.hid hBwu
      have hu3 := (hBwu.cell (p := ⟨w.heap.size + 2, 0, none⟩) HK1.out.2.2).trans HK1.out.1
      have hu4 := (hBwu.cell (p := ⟨w.heap.size + 2, 1, none⟩) HK1.out.2.2).trans HK1.out.2.1
      have hWu := HW.out.later hBu
      obtain ⟨_, _, s2, s3, _⟩ := hWu.cells
      have lc := (hWu.mc.kept (w' := (wr.alloc (.cells #[.int .i64 p, .int .i64 q] 73)).drew) rfl).look Try.underlying64 (z := .bool false) (Try.zeroValue4 _) hwf
      have lo := (hWu.mo.kept (w' := (wr.alloc (.cells #[.int .i64 p, .int .i64 q] 73)).drew) rfl).look Try.underlying65 (z := rc0) (Try.zeroValue47 _) hwf
      rw [conM_get] at lc
      obtain ⟨o1, o2, o3, o4, ho1, ho2⟩ := ownM_get B (p, q)
      have ho3 := own_is (p, q) ho2
      rw [ho1] at lo
      obtain ⟨z, hz⟩ : ∃ z, (ownF B.l (p, q)).isSome = z := ⟨_, rfl⟩
      obtain ⟨cn, hcn⟩ : ∃ cn, B.con (p, q) = cn := ⟨_, rfl⟩
      rw [hz] at ho3
      rw [hcn] at lc
      have hbar := HBAR.out (p, q)
      rw [hz, hcn] at hbar
      have hne : ∀ w, (binOp .neq 47 (.agg #[.int .i64 o1, .int .i64 o2, .int .i64 o3, .int .i64 o4]) (.agg #[.int .i64 0, .int .i64 0, .int .i64 0, .int .i64 0])).run Try.prog w = .ok (.bool z) w := fun w => by rw [← ho3]; exact rc_eq o1 o2 o3 o4 0 0 0 0 w
      have hb9 := (hBu.block w.heap.size (by omega)).trans HZ0.out
      obtain ⟨b0, b1, b2, b3, _⟩ := box4 hb9
      have HZ9 : Hid (Zero8 (wr.alloc (.cells #[.int .i64 p, .int .i64 q] 73)) (w.heap.size + 1)) := Lib.hid ((hBu.block (w.heap.size + 1) (by omega)).trans HZ1.out)
      have HBU : Hid (Below w.heap.size w (wr.alloc (.cells #[.int .i64 p, .int .i64 q] 73))) := Lib.hid (HB0.out.trans (hBu.mono (by omega)))
      simp only at lc lo
      have HB9 := Lib.hid hb9
      clear hB hx hd he c2 c3 hza hwf hBu hBwu hWu ho1 ho2 ho3 hz hcn hb9
      by_cases hpx : p = x ∧ q = y
      · obtain ⟨hp1, hq1⟩ := hpx
        have hp2 : x = p := hp1.symm
        have hq2 : y = q := hq1.symm
        clear hp1 hq1
        subst hp2 hq2
        have hna : ∀ w, (binOp .neq 73 (.agg #[.int .i64 x, .int .i64 y]) (.agg #[.int .i64 x, .int .i64 y])).run Try.prog w = .ok (.bool false) w := fun w => by rw [pl_ne]; simp
        have hbz : bar (x, y) = z := by rw [hbar]; simp
        have HBZ := Lib.hid hbz
        clear hbar hbz
        go_wp2_with fail
        obtain ⟨u, hu⟩ : ∃ u, wr.alloc (.cells #[.int .i64 x, .int .i64 y] 73) = u := ⟨_, rfl⟩
        rw [hu] at hu1 hu2 hu3 hu4 s2 s3 lc lo b0 b1 b2 b3 HZ9 HBU HBWU HB9 ⊢
        clear hu c2' c3'
        refine wp_region_held_drew (S := fun W => W = u.drew) (by kernel_rfl) rfl (fun hS => ?_)
        refine wpAnyH_take (i := 0) (v := ?v0i) rfl (by kernel_rfl) (by kernel_rfl) (by kernel_rfl) (fun _ _ _ h => h) (Or.inl ⟨by kernel_rfl, ?h0i⟩) rfl ?_
        case h0i => (rintro w2 rfl; go_simp; try with_reducible rfl)
        refine wpAnyH_take (i := 1) (v := ?v1i) rfl (by kernel_rfl) (by kernel_rfl) (by kernel_rfl) (fun _ _ _ h => h) (Or.inl ⟨by kernel_rfl, ?h1i⟩) rfl ?_
        case h1i => (rintro w2 rfl; go_simp; try with_reducible rfl)
        refine wpAnyH_take (i := 2) (v := .bool false) rfl (by kernel_rfl) (by kernel_rfl) (by kernel_rfl) (fun _ _ _ h => h) (Or.inl ⟨by kernel_rfl, ?h2i⟩) rfl ?_
        case h2i => (rintro w2 rfl; go_simp; try with_reducible rfl)
        refine wpAnyH_take (i := 3) (v := .bool false) rfl (by kernel_rfl) (by kernel_rfl) (by kernel_rfl) (fun _ _ _ h => h) (Or.inl ⟨by kernel_rfl, ?h3i⟩) rfl ?_
        case h3i => (rintro w2 rfl; go_simp; try with_reducible rfl)
        refine wpAnyH_take (i := 4) (v := undef) rfl (by kernel_rfl) (by kernel_rfl) (by kernel_rfl) (fun _ _ _ h => h) (Or.inr ⟨by kernel_rfl, rfl⟩) rfl ?_
        refine wpAnyH_take (i := 5) (v := undef) rfl (by kernel_rfl) (by kernel_rfl) (by kernel_rfl) (fun _ _ _ h => h) (Or.inr ⟨by kernel_rfl, rfl⟩) rfl ?_
        refine wpAnyH_take (i := 6) (v := undef) rfl (by kernel_rfl) (by kernel_rfl) (by kernel_rfl) (fun _ _ _ h => h) (Or.inr ⟨by kernel_rfl, rfl⟩) rfl ?_
        refine wpAnyH_take (i := 7) (v := undef) rfl (by kernel_rfl) (by kernel_rfl) (by kernel_rfl) (fun _ _ _ h => h) (Or.inr ⟨by kernel_rfl, rfl⟩) rfl ?_
        refine wpAnyH_take (i := 8) (v := undef) rfl (by kernel_rfl) (by kernel_rfl) (by kernel_rfl) (fun _ _ _ h => h) (Or.inr ⟨by kernel_rfl, rfl⟩) rfl ?_
        refine wpAnyH_take (i := 9) (v := undef) rfl (by kernel_rfl) (by kernel_rfl) (by kernel_rfl) (fun _ _ _ h => h) (Or.inr ⟨by kernel_rfl, rfl⟩) rfl ?_
        refine wpAnyH_take (i := 10) (v := .bool false) rfl (by kernel_rfl) (by kernel_rfl) (by kernel_rfl) (fun _ _ _ h => h) (Or.inl ⟨by kernel_rfl, ?h10i⟩) rfl ?_
        case h10i => (rintro w2 rfl; go_simp; try with_reducible rfl)
        refine wpAnyH_take (i := 11) (v := .bool false) rfl (by kernel_rfl) (by kernel_rfl) (by kernel_rfl) (fun _ _ _ h => h) (Or.inl ⟨by kernel_rfl, ?h11i⟩) rfl ?_
        case h11i => (rintro w2 rfl; go_simp; try with_reducible rfl)
        refine wpAnyH_take (i := 12) (v := ?v12i) rfl (by kernel_rfl) (by kernel_rfl) (by kernel_rfl) (fun _ _ _ h => h) (Or.inl ⟨by kernel_rfl, ?h12i⟩) rfl ?_
        case h12i => (rintro w2 rfl; go_simp; try with_reducible rfl)
        refine wpAnyH_take (i := 13) (v := ?v13i) rfl (by kernel_rfl) (by kernel_rfl) (by kernel_rfl) (fun _ _ _ h => h) (Or.inl ⟨by kernel_rfl, ?h13i⟩) rfl ?_
        case h13i => (rintro w2 rfl; go_simp; try with_reducible rfl)
        refine wpAnyH_take (i := 14) (v := ?v14i) rfl (by kernel_rfl) (by kernel_rfl) (by kernel_rfl) (fun _ _ _ h => h) (Or.inl ⟨by kernel_rfl, ?h14i⟩) rfl ?_
        case h14i => (rintro w2 rfl; go_simp; try with_reducible rfl)
        refine wpAnyH_take (i := 15) (v := ?v15i) rfl (by kernel_rfl) (by kernel_rfl) (by kernel_rfl) (fun _ _ _ h => h) (Or.inl ⟨by kernel_rfl, ?h15i⟩) rfl ?_
        case h15i => (rintro w2 rfl; go_simp; try with_reducible rfl)
        refine wpAnyH_take (i := 16) (v := ?v16i) rfl (by kernel_rfl) (by kernel_rfl) (by kernel_rfl) (fun _ _ _ h => h) (Or.inl ⟨by kernel_rfl, ?h16i⟩) rfl ?_
        case h16i => (rintro w2 rfl; go_simp; try with_reducible rfl)
        refine wpAnyH_take (i := 17) (v := ?v17i) rfl (by kernel_rfl) (by kernel_rfl) (by kernel_rfl) (fun _ _ _ h => h) (Or.inl ⟨by kernel_rfl, ?h17i⟩) rfl ?_
        case h17i => (rintro w2 rfl; go_simp; try with_reducible rfl)
        refine wpAnyH_take (i := 18) (v := ?v18i) rfl (by kernel_rfl) (by kernel_rfl) (by kernel_rfl) (fun _ _ _ h => h) (Or.inl ⟨by kernel_rfl, ?h18i⟩) rfl ?_
        case h18i => (rintro w2 rfl; go_simp; try with_reducible rfl)
        refine wpAnyH_take (i := 19) (v := ?v19i) rfl (by kernel_rfl) (by kernel_rfl) (by kernel_rfl) (fun _ _ _ h => h) (Or.inl ⟨by kernel_rfl, ?h19i⟩) rfl ?_
        case h19i => (rintro w2 rfl; go_simp; try with_reducible rfl)
        refine wpAnyH_take (i := 20) (v := .bool z) rfl (by kernel_rfl) (by kernel_rfl) (by kernel_rfl) (fun _ _ _ h => h) (Or.inl ⟨by kernel_rfl, ?h20i⟩) rfl ?_
        case h20i => (rintro w2 rfl; go_simp; try with_reducible rfl)
        refine wpAnyH_done (by kernel_rfl) ?_ _
        go_simp
        cases z
        · go_wp2_with fail
          go_roundw
          case rel => exact ⟨k + 1, by omega, by simp, fun e he => by
            rw [HD.out] at he
            rcases List.mem_append.1 he with he | he
            · exact HN.out e he
            · simp only [List.mem_singleton] at he; rw [he]; exact HBZ.out, HBWU.out.drew⟩
          case measure => simp [intOf]; omega
        · skip
          obtain ⟨V, hV⟩ : ∃ V, V = u.drew := ⟨_, rfl⟩
          rw [← hV]
          have HZV : Hid (Zero8 V (w.heap.size + 1)) := Lib.hid (by rw [hV]; exact HZ9.out)
          have HBV : Hid (Below w.heap.size w V) := Lib.hid (by rw [hV]; exact HBU.out.drew)
          have hbx := box4 (w := V) (by rw [hV]; exact HB9.out)
          have hv1 : V.cell? ⟨wr.heap.size, 0, none⟩ = some (.int .i64 x) := by rw [hV]; exact hu1
          have hv2 : V.cell? ⟨wr.heap.size, 1, none⟩ = some (.int .i64 y) := by rw [hV]; exact hu2
          clear hV lc lo s2 s3 hu1 hu2 hu3 hu4 hna hne b0 b1 b2 b3
          obtain ⟨b0, b1, b2, b3, _⟩ := hbx
          have hz1 := HZV.out
          unfold Zero8 at hz1
          obtain ⟨⟨t0, t1, t2, t3⟩, t4, t5, t6, t7, t8⟩ := box8 hz1
          have f0 := t8 0
          have f1 := t8 1
          have f2 := t8 2
          have f3 := t8 3
          have f4 := t8 4
          have f5 := t8 5
          have f6 := t8 6
          have f7 := t8 7
          clear t8 hz1
          go_wp2_with fail
          have hz2 := set8 (.int .i64 x) (.int .i64 y) (.int .i64 a) (.int .i64 b) (.bool false) (.int .i64 x) (.int .i64 y) (.bool true) HZV.out
          obtain ⟨⟨r0, r1, r2, r3⟩, r4, r5, r6, r7, _⟩ := box8 hz2
          rw [HJ2.out (x, y) k (by simp) HX.out HBZ.out HN.out]
          exact bodyPost_ret (v := .agg #[.int .i64 x, .int .i64 y, .int .i64 a, .int .i64 b, .bool false, .int .i64 x, .int .i64 y, .bool true]) (by simp [results, Try.f30, go_sem, r0, r1, r2, r3, r4, r5, r6, r7]) rfl ⟨rfl, below8 _ _ _ _ _ _ _ _ HBV.out (by omega)⟩
      · have hnb : ((p, q) == (x, y)) = false := by simpa using hpx
        have hna : ∀ w, (binOp .neq 73 (.agg #[.int .i64 p, .int .i64 q]) (.agg #[.int .i64 x, .int .i64 y])).run Try.prog w = .ok (.bool true) w := fun w => by rw [pl_ne, hnb]; rfl
        rw [hnb] at hbar
        clear hpx hnb
        cases cn
        · have hbz : bar (p, q) = z := by rw [hbar]; simp
          have HBZ := Lib.hid hbz
          clear hbar hbz
          go_wp2_with fail
          obtain ⟨u, hu⟩ : ∃ u, wr.alloc (.cells #[.int .i64 p, .int .i64 q] 73) = u := ⟨_, rfl⟩
          rw [hu] at hu1 hu2 hu3 hu4 s2 s3 lc lo b0 b1 b2 b3 HZ9 HBU HBWU HB9 ⊢
          clear hu c2' c3'
          refine wp_region_held_drew (S := fun W => W = u.drew) (by kernel_rfl) rfl (fun hS => ?_)
          refine wpAnyH_take (i := 0) (v := ?v0iii) rfl (by kernel_rfl) (by kernel_rfl) (by kernel_rfl) (fun _ _ _ h => h) (Or.inl ⟨by kernel_rfl, ?h0iii⟩) rfl ?_
          case h0iii => (rintro w2 rfl; go_simp; try with_reducible rfl)
          refine wpAnyH_take (i := 1) (v := ?v1iii) rfl (by kernel_rfl) (by kernel_rfl) (by kernel_rfl) (fun _ _ _ h => h) (Or.inl ⟨by kernel_rfl, ?h1iii⟩) rfl ?_
          case h1iii => (rintro w2 rfl; go_simp; try with_reducible rfl)
          refine wpAnyH_take (i := 2) (v := .bool true) rfl (by kernel_rfl) (by kernel_rfl) (by kernel_rfl) (fun _ _ _ h => h) (Or.inl ⟨by kernel_rfl, ?h2iii⟩) rfl ?_
          case h2iii => (rintro w2 rfl; go_simp; try with_reducible rfl)
          refine wpAnyH_take (i := 3) (v := .bool true) rfl (by kernel_rfl) (by kernel_rfl) (by kernel_rfl) (fun _ _ _ h => h) (Or.inl ⟨by kernel_rfl, ?h3iii⟩) rfl ?_
          case h3iii => (rintro w2 rfl; go_simp; try with_reducible rfl)
          refine wpAnyH_take (i := 4) (v := ?v4iii) rfl (by kernel_rfl) (by kernel_rfl) (by kernel_rfl) (fun _ _ _ h => h) (Or.inl ⟨by kernel_rfl, ?h4iii⟩) rfl ?_
          case h4iii => (rintro w2 rfl; go_simp; try with_reducible rfl)
          refine wpAnyH_take (i := 5) (v := ?v5iii) rfl (by kernel_rfl) (by kernel_rfl) (by kernel_rfl) (fun _ _ _ h => h) (Or.inl ⟨by kernel_rfl, ?h5iii⟩) rfl ?_
          case h5iii => (rintro w2 rfl; go_simp; try with_reducible rfl)
          refine wpAnyH_take (i := 6) (v := ?v6iii) rfl (by kernel_rfl) (by kernel_rfl) (by kernel_rfl) (fun _ _ _ h => h) (Or.inl ⟨by kernel_rfl, ?h6iii⟩) rfl ?_
          case h6iii => (rintro w2 rfl; go_simp; try with_reducible rfl)
          refine wpAnyH_take (i := 7) (v := ?v7iii) rfl (by kernel_rfl) (by kernel_rfl) (by kernel_rfl) (fun _ _ _ h => h) (Or.inl ⟨by kernel_rfl, ?h7iii⟩) rfl ?_
          case h7iii => (rintro w2 rfl; go_simp; try with_reducible rfl)
          refine wpAnyH_take (i := 8) (v := ?v8iii) rfl (by kernel_rfl) (by kernel_rfl) (by kernel_rfl) (fun _ _ _ h => h) (Or.inl ⟨by kernel_rfl, ?h8iii⟩) rfl ?_
          case h8iii => (rintro w2 rfl; go_simp; try with_reducible rfl)
          refine wpAnyH_take (i := 9) (v := ?v9iii) rfl (by kernel_rfl) (by kernel_rfl) (by kernel_rfl) (fun _ _ _ h => h) (Or.inl ⟨by kernel_rfl, ?h9iii⟩) rfl ?_
          case h9iii => (rintro w2 rfl; go_simp; try with_reducible rfl)
          refine wpAnyH_take (i := 10) (v := .bool false) rfl (by kernel_rfl) (by kernel_rfl) (by kernel_rfl) (fun _ _ _ h => h) (Or.inl ⟨by kernel_rfl, ?h10iii⟩) rfl ?_
          case h10iii => (rintro w2 rfl; go_simp; try with_reducible rfl)
          refine wpAnyH_take (i := 11) (v := .bool false) rfl (by kernel_rfl) (by kernel_rfl) (by kernel_rfl) (fun _ _ _ h => h) (Or.inl ⟨by kernel_rfl, ?h11iii⟩) rfl ?_
          case h11iii => (rintro w2 rfl; go_simp; try with_reducible rfl)
          refine wpAnyH_take (i := 12) (v := ?v12iii) rfl (by kernel_rfl) (by kernel_rfl) (by kernel_rfl) (fun _ _ _ h => h) (Or.inl ⟨by kernel_rfl, ?h12iii⟩) rfl ?_
          case h12iii => (rintro w2 rfl; go_simp; try with_reducible rfl)
          refine wpAnyH_take (i := 13) (v := ?v13iii) rfl (by kernel_rfl) (by kernel_rfl) (by kernel_rfl) (fun _ _ _ h => h) (Or.inl ⟨by kernel_rfl, ?h13iii⟩) rfl ?_
          case h13iii => (rintro w2 rfl; go_simp; try with_reducible rfl)
          refine wpAnyH_take (i := 14) (v := ?v14iii) rfl (by kernel_rfl) (by kernel_rfl) (by kernel_rfl) (fun _ _ _ h => h) (Or.inl ⟨by kernel_rfl, ?h14iii⟩) rfl ?_
          case h14iii => (rintro w2 rfl; go_simp; try with_reducible rfl)
          refine wpAnyH_take (i := 15) (v := ?v15iii) rfl (by kernel_rfl) (by kernel_rfl) (by kernel_rfl) (fun _ _ _ h => h) (Or.inl ⟨by kernel_rfl, ?h15iii⟩) rfl ?_
          case h15iii => (rintro w2 rfl; go_simp; try with_reducible rfl)
          refine wpAnyH_take (i := 16) (v := ?v16iii) rfl (by kernel_rfl) (by kernel_rfl) (by kernel_rfl) (fun _ _ _ h => h) (Or.inl ⟨by kernel_rfl, ?h16iii⟩) rfl ?_
          case h16iii => (rintro w2 rfl; go_simp; try with_reducible rfl)
          refine wpAnyH_take (i := 17) (v := ?v17iii) rfl (by kernel_rfl) (by kernel_rfl) (by kernel_rfl) (fun _ _ _ h => h) (Or.inl ⟨by kernel_rfl, ?h17iii⟩) rfl ?_
          case h17iii => (rintro w2 rfl; go_simp; try with_reducible rfl)
          refine wpAnyH_take (i := 18) (v := ?v18iii) rfl (by kernel_rfl) (by kernel_rfl) (by kernel_rfl) (fun _ _ _ h => h) (Or.inl ⟨by kernel_rfl, ?h18iii⟩) rfl ?_
          case h18iii => (rintro w2 rfl; go_simp; try with_reducible rfl)
          refine wpAnyH_take (i := 19) (v := ?v19iii) rfl (by kernel_rfl) (by kernel_rfl) (by kernel_rfl) (fun _ _ _ h => h) (Or.inl ⟨by kernel_rfl, ?h19iii⟩) rfl ?_
          case h19iii => (rintro w2 rfl; go_simp; try with_reducible rfl)
          refine wpAnyH_take (i := 20) (v := .bool z) rfl (by kernel_rfl) (by kernel_rfl) (by kernel_rfl) (fun _ _ _ h => h) (Or.inl ⟨by kernel_rfl, ?h20iii⟩) rfl ?_
          case h20iii => (rintro w2 rfl; go_simp; try with_reducible rfl)
          refine wpAnyH_done (by kernel_rfl) ?_ _
          go_simp
          cases z
          · go_wp2_with fail
            go_roundw
            case rel => exact ⟨k + 1, by omega, by simp, fun e he => by
              rw [HD.out] at he
              rcases List.mem_append.1 he with he | he
              · exact HN.out e he
              · simp only [List.mem_singleton] at he; rw [he]; exact HBZ.out, HBWU.out.drew⟩
            case measure => simp [intOf]; omega
          · skip
            obtain ⟨V, hV⟩ : ∃ V, V = u.drew := ⟨_, rfl⟩
            rw [← hV]
            have HZV : Hid (Zero8 V (w.heap.size + 1)) := Lib.hid (by rw [hV]; exact HZ9.out)
            have HBV : Hid (Below w.heap.size w V) := Lib.hid (by rw [hV]; exact HBU.out.drew)
            have hbx := box4 (w := V) (by rw [hV]; exact HB9.out)
            have hv1 : V.cell? ⟨wr.heap.size, 0, none⟩ = some (.int .i64 p) := by rw [hV]; exact hu1
            have hv2 : V.cell? ⟨wr.heap.size, 1, none⟩ = some (.int .i64 q) := by rw [hV]; exact hu2
            clear hV lc lo s2 s3 hu1 hu2 hu3 hu4 hna hne b0 b1 b2 b3
            obtain ⟨b0, b1, b2, b3, _⟩ := hbx
            have hz1 := HZV.out
            unfold Zero8 at hz1
            obtain ⟨⟨t0, t1, t2, t3⟩, t4, t5, t6, t7, t8⟩ := box8 hz1
            have f0 := t8 0
            have f1 := t8 1
            have f2 := t8 2
            have f3 := t8 3
            have f4 := t8 4
            have f5 := t8 5
            have f6 := t8 6
            have f7 := t8 7
            clear t8 hz1
            go_wp2_with fail
            have hz2 := set8 (.int .i64 x) (.int .i64 y) (.int .i64 a) (.int .i64 b) (.bool false) (.int .i64 p) (.int .i64 q) (.bool true) HZV.out
            obtain ⟨⟨r0, r1, r2, r3⟩, r4, r5, r6, r7, _⟩ := box8 hz2
            rw [HJ2.out (p, q) k (by simp) HX.out HBZ.out HN.out]
            exact bodyPost_ret (v := .agg #[.int .i64 x, .int .i64 y, .int .i64 a, .int .i64 b, .bool false, .int .i64 p, .int .i64 q, .bool true]) (by simp [results, Try.f30, go_sem, r0, r1, r2, r3, r4, r5, r6, r7]) rfl ⟨rfl, below8 _ _ _ _ _ _ _ _ HBV.out (by omega)⟩
        · have hbz : bar (p, q) = true := by rw [hbar]; simp
          have HBZ := Lib.hid hbz
          clear hbar hbz
          go_wp2_with fail
          obtain ⟨u, hu⟩ : ∃ u, wr.alloc (.cells #[.int .i64 p, .int .i64 q] 73) = u := ⟨_, rfl⟩
          rw [hu] at hu1 hu2 hu3 hu4 s2 s3 lc lo b0 b1 b2 b3 HZ9 HBU HBWU HB9 ⊢
          clear hu c2' c3'
          refine wp_region_held_drew (S := fun W => W = u.drew) (by kernel_rfl) rfl (fun hS => ?_)
          refine wpAnyH_take (i := 0) (v := ?v0ii) rfl (by kernel_rfl) (by kernel_rfl) (by kernel_rfl) (fun _ _ _ h => h) (Or.inl ⟨by kernel_rfl, ?h0ii⟩) rfl ?_
          case h0ii => (rintro w2 rfl; go_simp; try with_reducible rfl)
          refine wpAnyH_take (i := 1) (v := ?v1ii) rfl (by kernel_rfl) (by kernel_rfl) (by kernel_rfl) (fun _ _ _ h => h) (Or.inl ⟨by kernel_rfl, ?h1ii⟩) rfl ?_
          case h1ii => (rintro w2 rfl; go_simp; try with_reducible rfl)
          refine wpAnyH_take (i := 2) (v := .bool true) rfl (by kernel_rfl) (by kernel_rfl) (by kernel_rfl) (fun _ _ _ h => h) (Or.inl ⟨by kernel_rfl, ?h2ii⟩) rfl ?_
          case h2ii => (rintro w2 rfl; go_simp; try with_reducible rfl)
          refine wpAnyH_take (i := 3) (v := .bool true) rfl (by kernel_rfl) (by kernel_rfl) (by kernel_rfl) (fun _ _ _ h => h) (Or.inl ⟨by kernel_rfl, ?h3ii⟩) rfl ?_
          case h3ii => (rintro w2 rfl; go_simp; try with_reducible rfl)
          refine wpAnyH_take (i := 4) (v := ?v4ii) rfl (by kernel_rfl) (by kernel_rfl) (by kernel_rfl) (fun _ _ _ h => h) (Or.inl ⟨by kernel_rfl, ?h4ii⟩) rfl ?_
          case h4ii => (rintro w2 rfl; go_simp; try with_reducible rfl)
          refine wpAnyH_take (i := 5) (v := ?v5ii) rfl (by kernel_rfl) (by kernel_rfl) (by kernel_rfl) (fun _ _ _ h => h) (Or.inl ⟨by kernel_rfl, ?h5ii⟩) rfl ?_
          case h5ii => (rintro w2 rfl; go_simp; try with_reducible rfl)
          refine wpAnyH_take (i := 6) (v := ?v6ii) rfl (by kernel_rfl) (by kernel_rfl) (by kernel_rfl) (fun _ _ _ h => h) (Or.inl ⟨by kernel_rfl, ?h6ii⟩) rfl ?_
          case h6ii => (rintro w2 rfl; go_simp; try with_reducible rfl)
          refine wpAnyH_take (i := 7) (v := ?v7ii) rfl (by kernel_rfl) (by kernel_rfl) (by kernel_rfl) (fun _ _ _ h => h) (Or.inl ⟨by kernel_rfl, ?h7ii⟩) rfl ?_
          case h7ii => (rintro w2 rfl; go_simp; try with_reducible rfl)
          refine wpAnyH_take (i := 8) (v := ?v8ii) rfl (by kernel_rfl) (by kernel_rfl) (by kernel_rfl) (fun _ _ _ h => h) (Or.inl ⟨by kernel_rfl, ?h8ii⟩) rfl ?_
          case h8ii => (rintro w2 rfl; go_simp; try with_reducible rfl)
          refine wpAnyH_take (i := 9) (v := ?v9ii) rfl (by kernel_rfl) (by kernel_rfl) (by kernel_rfl) (fun _ _ _ h => h) (Or.inl ⟨by kernel_rfl, ?h9ii⟩) rfl ?_
          case h9ii => (rintro w2 rfl; go_simp; try with_reducible rfl)
          refine wpAnyH_take (i := 10) (v := .bool true) rfl (by kernel_rfl) (by kernel_rfl) (by kernel_rfl) (fun _ _ _ h => h) (Or.inl ⟨by kernel_rfl, ?h10ii⟩) rfl ?_
          case h10ii => (rintro w2 rfl; go_simp; try with_reducible rfl)
          refine wpAnyH_take (i := 11) (v := .bool true) rfl (by kernel_rfl) (by kernel_rfl) (by kernel_rfl) (fun _ _ _ h => h) (Or.inl ⟨by kernel_rfl, ?h11ii⟩) rfl ?_
          case h11ii => (rintro w2 rfl; go_simp; try with_reducible rfl)
          refine wpAnyH_take (i := 12) (v := undef) rfl (by kernel_rfl) (by kernel_rfl) (by kernel_rfl) (fun _ _ _ h => h) (Or.inr ⟨by kernel_rfl, rfl⟩) rfl ?_
          refine wpAnyH_take (i := 13) (v := undef) rfl (by kernel_rfl) (by kernel_rfl) (by kernel_rfl) (fun _ _ _ h => h) (Or.inr ⟨by kernel_rfl, rfl⟩) rfl ?_
          refine wpAnyH_take (i := 14) (v := undef) rfl (by kernel_rfl) (by kernel_rfl) (by kernel_rfl) (fun _ _ _ h => h) (Or.inr ⟨by kernel_rfl, rfl⟩) rfl ?_
          refine wpAnyH_take (i := 15) (v := undef) rfl (by kernel_rfl) (by kernel_rfl) (by kernel_rfl) (fun _ _ _ h => h) (Or.inr ⟨by kernel_rfl, rfl⟩) rfl ?_
          refine wpAnyH_take (i := 16) (v := undef) rfl (by kernel_rfl) (by kernel_rfl) (by kernel_rfl) (fun _ _ _ h => h) (Or.inr ⟨by kernel_rfl, rfl⟩) rfl ?_
          refine wpAnyH_take (i := 17) (v := undef) rfl (by kernel_rfl) (by kernel_rfl) (by kernel_rfl) (fun _ _ _ h => h) (Or.inr ⟨by kernel_rfl, rfl⟩) rfl ?_
          refine wpAnyH_take (i := 18) (v := undef) rfl (by kernel_rfl) (by kernel_rfl) (by kernel_rfl) (fun _ _ _ h => h) (Or.inr ⟨by kernel_rfl, rfl⟩) rfl ?_
          refine wpAnyH_take (i := 19) (v := undef) rfl (by kernel_rfl) (by kernel_rfl) (by kernel_rfl) (fun _ _ _ h => h) (Or.inr ⟨by kernel_rfl, rfl⟩) rfl ?_
          refine wpAnyH_take (i := 20) (v := .bool true) rfl (by kernel_rfl) (by kernel_rfl) (by kernel_rfl) (fun _ _ _ h => h) (Or.inl ⟨by kernel_rfl, ?h20ii⟩) rfl ?_
          case h20ii => (rintro w2 rfl; go_simp; try with_reducible rfl)
          refine wpAnyH_done (by kernel_rfl) ?_ _
          go_simp
          obtain ⟨V, hV⟩ : ∃ V, V = u.drew := ⟨_, rfl⟩
          rw [← hV]
          have HZV : Hid (Zero8 V (w.heap.size + 1)) := Lib.hid (by rw [hV]; exact HZ9.out)
          have HBV : Hid (Below w.heap.size w V) := Lib.hid (by rw [hV]; exact HBU.out.drew)
          have hbx := box4 (w := V) (by rw [hV]; exact HB9.out)
          have hv1 : V.cell? ⟨wr.heap.size, 0, none⟩ = some (.int .i64 p) := by rw [hV]; exact hu1
          have hv2 : V.cell? ⟨wr.heap.size, 1, none⟩ = some (.int .i64 q) := by rw [hV]; exact hu2
          clear hV lc lo s2 s3 hu1 hu2 hu3 hu4 hna hne b0 b1 b2 b3
          obtain ⟨b0, b1, b2, b3, _⟩ := hbx
          have hz1 := HZV.out
          unfold Zero8 at hz1
          obtain ⟨⟨t0, t1, t2, t3⟩, t4, t5, t6, t7, t8⟩ := box8 hz1
          have f0 := t8 0
          have f1 := t8 1
          have f2 := t8 2
          have f3 := t8 3
          have f4 := t8 4
          have f5 := t8 5
          have f6 := t8 6
          have f7 := t8 7
          clear t8 hz1
          go_wp2_with fail
          have hz2 := set8 (.int .i64 x) (.int .i64 y) (.int .i64 a) (.int .i64 b) (.bool false) (.int .i64 p) (.int .i64 q) (.bool true) HZV.out
          obtain ⟨⟨r0, r1, r2, r3⟩, r4, r5, r6, r7, _⟩ := box8 hz2
          rw [HJ2.out (p, q) k (by simp) HX.out HBZ.out HN.out]
          exact bodyPost_ret (v := .agg #[.int .i64 x, .int .i64 y, .int .i64 a, .int .i64 b, .bool false, .int .i64 p, .int .i64 q, .bool true]) (by simp [results, Try.f30, go_sem, r0, r1, r2, r3, r4, r5, r6, r7]) rfl ⟨rfl, below8 _ _ _ _ _ _ _ _ HBV.out (by omega)⟩
    · obtain rfl : k = L.length := by omega
      have hlt2 : ¬ (↑L.length : Int) < ↑L.length := by omega
      have hn := HN.out
      rw [List.take_length] at hn
      have HN2 := Lib.hid hn
      have hBu : Below W0.heap.size W0 wr := HB1.out.trans (hB.mono HB1.out.size)
      have HBU : Hid (Below w.heap.size w wr) := Lib.hid (HB0.out.trans (hBu.mono (by omega)))
      have hb9 := (hBu.block w.heap.size (by omega)).trans HZ0.out
      have HZ9 : Hid (Zero8 wr (w.heap.size + 1)) := Lib.hid ((hBu.block (w.heap.size + 1) (by omega)).trans HZ1.out)
      obtain ⟨V, hV⟩ : ∃ V, V = wr := ⟨_, rfl⟩
      rw [← hV]
      have HZV : Hid (Zero8 V (w.heap.size + 1)) := Lib.hid (by rw [hV]; exact HZ9.out)
      have HBV : Hid (Below w.heap.size w V) := Lib.hid (by rw [hV]; exact HBU.out)
      have hbx := box4 (w := V) (by rw [hV]; exact hb9)
      clear hV hB hn hBu hb9
      obtain ⟨b0, b1, b2, b3, _⟩ := hbx
      have hz1 := HZV.out
      unfold Zero8 at hz1
      obtain ⟨⟨t0, t1, t2, t3⟩, t4, t5, t6, t7, t8⟩ := box8 hz1
      have f0 := t8 0
      have f1 := t8 1
      have f2 := t8 2
      have f3 := t8 3
      have f4 := t8 4
      have f5 := t8 5
      have f6 := t8 6
      have f7 := t8 7
      clear t8 hz1
      go_wp2_with fail
      have hz2 := set8 (.int .i64 x) (.int .i64 y) (.int .i64 a) (.int .i64 b) (.bool true) (.int .i64 0) (.int .i64 0) (.bool false) HZV.out
      obtain ⟨⟨r0, r1, r2, r3⟩, r4, r5, r6, r7, _⟩ := box8 hz2
      rw [HJ3.out (by simp) HN2.out]
      exact bodyPost_ret (v := .agg #[.int .i64 x, .int .i64 y, .int .i64 a, .int .i64 b, .bool true, .int .i64 0, .int .i64 0, .bool false]) (by simp [results, Try.f30, go_sem, r0, r1, r2, r3, r4, r5, r6, r7]) rfl ⟨rfl, below8 _ _ _ _ _ _ _ _ HBV.out (by omega)⟩
end Go.Proofs.Ytdeneogbnmedkaa
