/- The document's Decide. -/
import Derived.Test.YtdeneogbnmedkaaRc
namespace Go.Proofs.Ytdeneogbnmedkaa
open Go.RowKit Go.Maps

theorem info42 : (Try.prog.info? 42).map (fun i => (i.zero, i.size, i.bytes)) = some (some (.agg #[.int .i64 0, .int .i64 0, .int .i64 0, .int .i64 0, .bool false, .int .i64 0, .int .i64 0, .bool false]), 8, 64) := by kernel_rfl
theorem lit42 {w : World} {a b c d e f g i : Value} {k : Nat} (hk : k = w.heap.size) : ∀ (j : Nat) (u : Value), [a, b, c, d, e, f, g, i][j]? = some u → (w.alloc (.cells #[a, b, c, d, e, f, g, i] 42)).cell? ((⟨k, 0, none⟩ : Addr).add j) = some u := by
  subst hk
  intro j u hj
  rw [add_off]
  match j, hj with
  | 0, hj => simp at hj; subst hj; exact (World.cell?_alloc_new _ _ _ _).trans rfl
  | 1, hj => simp at hj; subst hj; exact (World.cell?_alloc_new _ _ _ _).trans rfl
  | 2, hj => simp at hj; subst hj; exact (World.cell?_alloc_new _ _ _ _).trans rfl
  | 3, hj => simp at hj; subst hj; exact (World.cell?_alloc_new _ _ _ _).trans rfl
  | 4, hj => simp at hj; subst hj; exact (World.cell?_alloc_new _ _ _ _).trans rfl
  | 5, hj => simp at hj; subst hj; exact (World.cell?_alloc_new _ _ _ _).trans rfl
  | 6, hj => simp at hj; subst hj; exact (World.cell?_alloc_new _ _ _ _).trans rfl
  | 7, hj => simp at hj; subst hj; exact (World.cell?_alloc_new _ _ _ _).trans rfl
  | j + 8, hj => simp at hj
theorem one_lit8 (d : Dc) : ∀ u ∈ [Value.int .i64 d.r.1, .int .i64 d.r.2.1, .int .i64 d.r.2.2.1, .int .i64 d.r.2.2.2, .bool d.st, .int .i64 d.bl.1, .int .i64 d.bl.2, .bool d.hb], u.oneCell' = true := by
  intro u hu
  simp only [List.mem_cons, List.not_mem_nil, or_false] at hu
  rcases hu with rfl | rfl | rfl | rfl | rfl | rfl | rfl | rfl <;> rfl
theorem flat8_one (l : List Dc) : ∀ u ∈ flat8 l, u.oneCell' = true := by
  intro u hu
  unfold flat8 at hu
  obtain ⟨e, _, he⟩ := List.mem_flatMap.1 hu
  exact one_lit8 e u he
theorem cell8 {w : World} {g t : Nat} {a b c d e f i j : Value} (h : w.heap[g]? = some (.cells #[a, b, c, d, e, f, i, j] t (0, 0))) :
    w.cell? ⟨g, 0, none⟩ = some a ∧ w.cell? ⟨g, 1, none⟩ = some b ∧ w.cell? ⟨g, 2, none⟩ = some c ∧ w.cell? ⟨g, 3, none⟩ = some d ∧ w.cell? ⟨g, 4, none⟩ = some e ∧ w.cell? ⟨g, 5, none⟩ = some f ∧ w.cell? ⟨g, 6, none⟩ = some i ∧ w.cell? ⟨g, 7, none⟩ = some j := by
  obtain ⟨⟨h0, h1, h2, h3⟩, h4, h5, h6, h7, _⟩ := box8 h
  exact ⟨h0, h1, h2, h3, h4, h5, h6, h7⟩
theorem frozen8 {w : World} {g t : Nat} {a b c d e f i j : Value} (h : w.heap[g]? = some (.cells #[a, b, c, d, e, f, i, j] t (0, 0))) (k : Nat) : w.frozen? ⟨g, k, none⟩ = false := (box8 h).2.2.2.2.2 k
theorem bar8 {w : World} {g t : Nat} {a b c d e f i j : Value} (f' i' j' : Value) (h : w.heap[g]? = some (.cells #[a, b, c, d, e, f, i, j] t (0, 0))) :
    (((w.setCell ⟨g, 5, none⟩ f').setCell ⟨g, 6, none⟩ i').setCell ⟨g, 7, none⟩ j').heap[g]? = some (.cells #[a, b, c, d, e, f', i', j'] t (0, 0)) := by
  simp [World.setCell, Array.getElem?_modify, h]
theorem std8 {w : World} {g t : Nat} {a b c d e f i j : Value} (e' : Value) (h : w.heap[g]? = some (.cells #[a, b, c, d, e, f, i, j] t (0, 0))) :
    (w.setCell ⟨g, 4, none⟩ e').heap[g]? = some (.cells #[a, b, c, d, e', f, i, j] t (0, 0)) := by
  simp [World.setCell, Array.getElem?_modify, h]
/-- the first place that bars -/
def Fst (f : Pl → Bool) (L : List Pl) (p q : Int) (hb : Bool) : Prop := L.find? f = (if hb then some (p, q) else none) ∧ (hb = false → p = 0 ∧ q = 0)
theorem Fst.nil (f : Pl → Bool) : Fst f [] 0 0 false := ⟨rfl, fun _ => ⟨rfl, rfl⟩⟩
theorem Fst.more {f : Pl → Bool} {L : List Pl} {p q : Int} (h : Fst f L p q true) (M : List Pl) : Fst f (L ++ M) p q true := ⟨by rw [List.find?_append, h.1]; rfl, fun h => by cases h⟩
theorem Fst.no {f : Pl → Bool} {L : List Pl} {p q : Int} (h : Fst f L p q false) {u v : Int} (hc : f (u, v) = false) : Fst f (L ++ [(u, v)]) p q false := ⟨by rw [List.find?_append, h.1]; simp [hc], h.2⟩
theorem Fst.yes {f : Pl → Bool} {L : List Pl} {p q : Int} (h : Fst f L p q false) {u v : Int} (hc : f (u, v) = true) : Fst f (L ++ [(u, v)]) u v true := ⟨by rw [List.find?_append, h.1]; simp [hc], fun h => by cases h⟩
theorem jud_fst {B : Brd} {r : R4} {p q : Int} {hb : Bool} {n : Nat} (h : Fst (barF B r) (rowsF r n) p q hb) (hbey : beyF B r = true → n = 0) (hend : beyF B r = false → hb = false → n = r.2.2.1.toNat) (hle : n ≤ r.2.2.1.toNat) :
    judF B r = ⟨r, !(beyF B r) && !hb, (p, q), hb⟩ := by
  unfold judF
  cases hB : beyF B r with
  | true =>
    have := hbey hB
    subst this
    cases hb with
    | true => cases h.1
    | false => obtain ⟨rfl, rfl⟩ := h.2 rfl; rfl
  | false =>
    cases hb with
    | false =>
      have := hend hB rfl
      subst this
      have h1 : (cellsF r).find? (barF B r) = none := h.1
      rw [h1]
      obtain ⟨rfl, rfl⟩ := h.2 rfl
      rfl
    | true =>
      have h1 : (cellsF r).find? (barF B r) = some (p, q) := by
        obtain ⟨M, hM⟩ : ∃ M, cellsF r = rowsF r n ++ M := by
          unfold cellsF
          obtain ⟨d, hd⟩ : ∃ d, r.2.2.1.toNat = n + d := ⟨_, (Nat.add_sub_cancel' hle).symm⟩
          rw [hd]
          clear hd h hbey hend hle
          induction d with
          | zero => exact ⟨[], by simp⟩
          | succ d ih =>
            obtain ⟨M, hM⟩ := ih
            exact ⟨M ++ rowF r (n + d) r.2.2.2.toNat, by rw [← Nat.add_assoc, rowsF_succ, hM, List.append_assoc]⟩
        rw [hM]
        exact (h.more M).1
      rw [h1]
      rfl
theorem own_sign (B : Brd) (p : Pl) : ((ownF B.l p).isSome = true ∧ 0 ≤ ownI B p) ∨ ((ownF B.l p).isSome = false ∧ ¬ 0 ≤ ownI B p) := by
  unfold ownF ownI
  rcases idx_find B.l (fun d => d.st && inR d.r p) with ⟨h1, h2⟩ | ⟨i, d, h1, _, h2⟩
  · right; rw [h1, h2]; exact ⟨rfl, by omega⟩
  · left; rw [h1, h2]; exact ⟨rfl, by omega⟩
theorem of_sign (B : Brd) (p : Pl) : ((decF B.l p).isSome = true ∧ 0 ≤ ofI B p) ∨ ((decF B.l p).isSome = false ∧ ¬ 0 ≤ ofI B p) := by
  unfold decF ofI
  rcases idx_find B.l (fun d => anc d.r == p) with ⟨h1, h2⟩ | ⟨i, d, h1, _, h2⟩
  · right; rw [h1, h2]; exact ⟨rfl, by omega⟩
  · left; rw [h1, h2]; exact ⟨rfl, by omega⟩
theorem barF_at (B : Brd) (x y a b u v : Int) : barF B (x, y, a, b) (u, v) = ((!(decide (u = x ∧ v = y)) && B.con (u, v)) || (ownF B.l (u, v)).isSome) := by
  have h : (((u, v) : Pl) == anc (x, y, a, b)) = decide (u = x ∧ v = y) := by
    show (((u, v) : Pl) == (x, y)) = _
    by_cases e : u = x ∧ v = y
    · obtain ⟨rfl, rfl⟩ := e; simp
    · rw [decide_eq_false e]
      exact beq_eq_false_iff_ne.2 (fun h => e (Prod.mk.inj h))
  unfold barF
  rw [h]
theorem bey_at {B : Brd} (x y a b : Int) {br bc : Int} (h1 : B.rows = br) (h2 : B.cols = bc) : beyF B (x, y, a, b) = (decide (br < x + a) || decide (bc < y + b)) := by
  unfold beyF
  rw [h1, h2]
  show (decide (br - x < a) || decide (bc - y < b)) = _
  rw [decide_eq_decide.2 (show br - x < a ↔ br < x + a by omega), decide_eq_decide.2 (show bc - y < b ↔ bc < y + b by omega)]
/-- what lies behind the document's Decide -/
def RDecOut (w : World) (B : Brd) (vf : Value) (n : Nat) (r : R4) (e : Ending) (w' : World) : Prop :=
  ∃ vl' : Value, e = .returned (.tuple #[.agg #[.int .i64 B.rows, .int .i64 B.cols, vf, vl'], .int .i64 (decE B r)]) ∧ RefAt w' vf vl' (decB B r) (n + 1) ∧ Below w.heap.size w w'
set_option maxRecDepth 100000 in
set_option maxHeartbeats 8000000 in
theorem rdecide_any (B : Brd) (hi : Inv B) (vf vl : Value) (n : Nat) (x y a b : Int) (w : World) (h : RefAt w vf vl B n) (hn : n ≤ 100000) :
    Calls Try.prog 14 #[.agg #[.int .i64 B.rows, .int .i64 B.cols, vf, vl], .int .i64 x, .int .i64 y, .int .i64 a, .int .i64 b] w (RDecOut w B vf n (x, y, a, b)) := by
  obtain ⟨i0, hj, hj0, hj1, hj2⟩ := info_parts info42
  obtain ⟨R, hR⟩ : ∃ R, RDecOut w B vf n (x, y, a, b) = R := ⟨_, rfl⟩
  rw [hR]
  have hlen := h.len
  obtain ⟨Al, cl, rfl⟩ := own_shape h.row
  obtain ⟨Af, fl, cf, rfl⟩ : ∃ Af fl cf, vf = .slice Af fl cf := by obtain ⟨F, hrow, _⟩ := h.full; obtain ⟨Af, cf, e⟩ := own_shape hrow; exact ⟨_, _, _, e⟩
  have HON := Lib.hid (fun W => on_any B (.slice Af fl cf) (.slice Al B.l.length cl) x y W)
  have HHAS := Lib.hid (fun (u v : Int) (W : World) (hW : RefAt W (.slice Af fl cf) (.slice Al B.l.length cl) B n) => rhas_any B (.slice Af fl cf) (.slice Al B.l.length cl) n u v W hW hn)
  have HOF := Lib.hid (fun (W : World) (hW : RefAt W (.slice Af fl cf) (.slice Al B.l.length cl) B n) => of_any B (.slice Af fl cf) (.slice Al B.l.length cl) n x y W hW hn)
  have HOWN := Lib.hid (fun (u v : Int) (huv : Wf (u, v)) (W : World) (hW : RefAt W (.slice Af fl cf) (.slice Al B.l.length cl) B n) => rown_any B hi (.slice Af fl cf) (.slice Al B.l.length cl) n u v huv W hW hn)
  have HI := Lib.hid hi
  have hE : decE B (x, y, a, b) = if !(hasP B (x, y) && fitsF a b) then 2 else if !(B.con (x, y)) then 3 else if (decF B.l (x, y)).isSome then 4 else 0 := rfl
  have hEB : decE B (x, y, a, b) ≠ 0 → decB B (x, y, a, b) = B := fun hne => by unfold decB; rw [if_neg hne]
  obtain ⟨z, hz⟩ : ∃ z, hasP B (x, y) = z := ⟨_, rfl⟩
  rw [hz] at HON hE
  have HZZ := Lib.hid hz
  obtain ⟨br, hbr⟩ : ∃ r, B.rows = r := ⟨_, rfl⟩
  obtain ⟨bc, hbc⟩ : ∃ r, B.cols = r := ⟨_, rfl⟩
  obtain ⟨ln, hln⟩ : ∃ r, B.l.length = r := ⟨_, rfl⟩
  rw [hbr, hbc, hln] at HON HHAS HOF HOWN
  rw [hln] at hlen
  rw [hbr, hbc, hln]
  have HBR := Lib.hid (And.intro hbr hbc)
  have HLN := Lib.hid hln
  have HRF := Lib.hid (show RefAt w (.slice Af fl cf) (.slice Al ln cl) B n by rw [← hln]; exact h)
  have HR2 := Lib.hid hR
  have HE := Lib.hid (And.intro hE hEB)
  have hb0 : Below w.heap.size w ((w.alloc (.cells #[.int .i64 br, .int .i64 bc, .slice Af fl cf, .slice Al ln cl] 29)).alloc (.cells #[.int .i64 0, .int .i64 0, .slice none 0 0, .slice none 0 0] 29)) := ((Below.refl _ _).alloc (Nat.le_refl _) _).alloc (by simp) _
  have hz0 : ((w.alloc (.cells #[.int .i64 br, .int .i64 bc, .slice Af fl cf, .slice Al ln cl] 29)).alloc (.cells #[.int .i64 0, .int .i64 0, .slice none 0 0, .slice none 0 0] 29)).heap[w.heap.size]? = some (.cells #[.int .i64 br, .int .i64 bc, .slice Af fl cf, .slice Al ln cl] 29 (0, 0)) := (Below.heap_alloc _ _ _ (by simp)).trans (World.alloc_heap_new w _)
  have hz1 : ((w.alloc (.cells #[.int .i64 br, .int .i64 bc, .slice Af fl cf, .slice Al ln cl] 29)).alloc (.cells #[.int .i64 0, .int .i64 0, .slice none 0 0, .slice none 0 0] 29)).heap[w.heap.size + 1]? = some (.cells #[.int .i64 0, .int .i64 0, .slice none 0 0, .slice none 0 0] 29 (0, 0)) := by simpa using World.alloc_heap_new (w.alloc (.cells #[.int .i64 br, .int .i64 bc, .slice Af fl cf, .slice Al ln cl] 29)) (.cells #[.int .i64 0, .int .i64 0, .slice none 0 0, .slice none 0 0] 29)
  obtain ⟨W0, hW0⟩ : ∃ W0, W0 = ((w.alloc (.cells #[.int .i64 br, .int .i64 bc, .slice Af fl cf, .slice Al ln cl] 29)).alloc (.cells #[.int .i64 0, .int .i64 0, .slice none 0 0, .slice none 0 0] 29)) := ⟨_, rfl⟩
  rw [← hW0] at hb0 hz0 hz1
  have HB0 := Lib.hid hb0
  have HZ0 := Lib.hid hz0
  have HZ1 := Lib.hid hz1
  have HW0 := Lib.hid hW0
  have hsz : W0.heap.size = w.heap.size + 2 := by rw [hW0]; simp
  obtain ⟨a0, a1, a2, a3, _⟩ := box4 hz0
  obtain ⟨t0, t1, t2, t3, t4⟩ := box4 hz1
  clear hR h hz hbr hbc hln hW0 hz0 hz1 hb0 t4 hE hEB hi
  go_enter Try.func14, Try.ntmps14
  go_wp2_with fail
  rw [← HW0.out]
  refine (HON.out _).mono ?_
  rintro e w2 ⟨rfl, hb2⟩
  have hy0 := (hb2.block _ (Array.getElem?_eq_some_iff.1 HZ0.out).1).trans HZ0.out
  have hy1 := (hb2.block _ (Array.getElem?_eq_some_iff.1 HZ1.out).1).trans HZ1.out
  have HB2 := Lib.hid (HB0.out.trans (hb2.mono (by omega)))
  have hsz2 : w.heap.size + 2 ≤ w2.heap.size := by have := hb2.size; omega
  obtain ⟨a0, a1, a2, a3, a4⟩ := box4 hy0
  obtain ⟨t0, t1, t2, t3, t4⟩ := box4 hy1
  have f0 := t4 0
  have f1 := t4 1
  have f2 := t4 2
  have f3 := t4 3
  have HY0 := Lib.hid hy0
  have HY1 := Lib.hid hy1
  clear hb2 t4 a4 hy0 hy1 HON HZ0 HZ1 HW0 HB0 hsz
  cases z with
  | false =>
    have HER : Hid (decE B (x, y, a, b) = 2 ∧ decB B (x, y, a, b) = B) := Lib.hid (by
      have k1 := HE.out.1
      simp at k1
      exact ⟨k1, HE.out.2 (by rw [k1]; decide)⟩)
    clear HE
    go_wp2_with fail
    have hfin := set4 (.int .i64 br) (.int .i64 bc) (.slice Af fl cf) (.slice Al ln cl) HY1.out
    obtain ⟨r0, r1, r2, r3, _⟩ := box4 hfin
    have hbf := below4 (.int .i64 br) (.int .i64 bc) (.slice Af fl cf) (.slice Al ln cl) (g := w.heap.size + 1) HB2.out (by omega)
    rw [← HR2.out]
    exact bodyPost_ret (v := .tuple #[.agg #[.int .i64 br, .int .i64 bc, .slice Af fl cf, .slice Al ln cl], .int .i64 2]) (by simp [results, Try.f14, go_sem, r0, r1, r2, r3]) rfl ⟨.slice Al ln cl, by rw [HER.out.1, HBR.out.1, HBR.out.2], by rw [HER.out.2]; exact (HRF.out.later (Below.trans (Below.refl _ _) hbf)).more, hbf⟩
  | true =>
  by_cases h1 : 1 ≤ a
  rotate_left
  · have HER : Hid (decE B (x, y, a, b) = 2 ∧ decB B (x, y, a, b) = B) := Lib.hid (by
      have k1 := HE.out.1
      rw [show fitsF a b = false from decide_eq_false fun h => h1 h.1] at k1
      simp at k1
      exact ⟨k1, HE.out.2 (by rw [k1]; decide)⟩)
    clear HE
    go_wp2_with fail
    have hfin := set4 (.int .i64 br) (.int .i64 bc) (.slice Af fl cf) (.slice Al ln cl) HY1.out
    obtain ⟨r0, r1, r2, r3, _⟩ := box4 hfin
    have hbf := below4 (.int .i64 br) (.int .i64 bc) (.slice Af fl cf) (.slice Al ln cl) (g := w.heap.size + 1) HB2.out (by omega)
    rw [← HR2.out]
    exact bodyPost_ret (v := .tuple #[.agg #[.int .i64 br, .int .i64 bc, .slice Af fl cf, .slice Al ln cl], .int .i64 2]) (by simp [results, Try.f14, go_sem, r0, r1, r2, r3]) rfl ⟨.slice Al ln cl, by rw [HER.out.1, HBR.out.1, HBR.out.2], by rw [HER.out.2]; exact (HRF.out.later (Below.trans (Below.refl _ _) hbf)).more, hbf⟩
  by_cases h2 : 1 ≤ b
  rotate_left
  · have HER : Hid (decE B (x, y, a, b) = 2 ∧ decB B (x, y, a, b) = B) := Lib.hid (by
      have k1 := HE.out.1
      rw [show fitsF a b = false from decide_eq_false fun h => h2 h.2.1] at k1
      simp at k1
      exact ⟨k1, HE.out.2 (by rw [k1]; decide)⟩)
    clear HE
    go_wp2_with fail
    have hfin := set4 (.int .i64 br) (.int .i64 bc) (.slice Af fl cf) (.slice Al ln cl) HY1.out
    obtain ⟨r0, r1, r2, r3, _⟩ := box4 hfin
    have hbf := below4 (.int .i64 br) (.int .i64 bc) (.slice Af fl cf) (.slice Al ln cl) (g := w.heap.size + 1) HB2.out (by omega)
    rw [← HR2.out]
    exact bodyPost_ret (v := .tuple #[.agg #[.int .i64 br, .int .i64 bc, .slice Af fl cf, .slice Al ln cl], .int .i64 2]) (by simp [results, Try.f14, go_sem, r0, r1, r2, r3]) rfl ⟨.slice Al ln cl, by rw [HER.out.1, HBR.out.1, HBR.out.2], by rw [HER.out.2]; exact (HRF.out.later (Below.trans (Below.refl _ _) hbf)).more, hbf⟩
  by_cases h3 : a ≤ 4096
  rotate_left
  · have HER : Hid (decE B (x, y, a, b) = 2 ∧ decB B (x, y, a, b) = B) := Lib.hid (by
      have k1 := HE.out.1
      rw [show fitsF a b = false from decide_eq_false fun h => h3 h.2.2.1] at k1
      simp at k1
      exact ⟨k1, HE.out.2 (by rw [k1]; decide)⟩)
    clear HE
    go_wp2_with fail
    have hfin := set4 (.int .i64 br) (.int .i64 bc) (.slice Af fl cf) (.slice Al ln cl) HY1.out
    obtain ⟨r0, r1, r2, r3, _⟩ := box4 hfin
    have hbf := below4 (.int .i64 br) (.int .i64 bc) (.slice Af fl cf) (.slice Al ln cl) (g := w.heap.size + 1) HB2.out (by omega)
    rw [← HR2.out]
    exact bodyPost_ret (v := .tuple #[.agg #[.int .i64 br, .int .i64 bc, .slice Af fl cf, .slice Al ln cl], .int .i64 2]) (by simp [results, Try.f14, go_sem, r0, r1, r2, r3]) rfl ⟨.slice Al ln cl, by rw [HER.out.1, HBR.out.1, HBR.out.2], by rw [HER.out.2]; exact (HRF.out.later (Below.trans (Below.refl _ _) hbf)).more, hbf⟩
  by_cases h4 : b ≤ 4096
  rotate_left
  · have HER : Hid (decE B (x, y, a, b) = 2 ∧ decB B (x, y, a, b) = B) := Lib.hid (by
      have k1 := HE.out.1
      rw [show fitsF a b = false from decide_eq_false fun h => h4 h.2.2.2.1] at k1
      simp at k1
      exact ⟨k1, HE.out.2 (by rw [k1]; decide)⟩)
    clear HE
    go_wp2_with fail
    have hfin := set4 (.int .i64 br) (.int .i64 bc) (.slice Af fl cf) (.slice Al ln cl) HY1.out
    obtain ⟨r0, r1, r2, r3, _⟩ := box4 hfin
    have hbf := below4 (.int .i64 br) (.int .i64 bc) (.slice Af fl cf) (.slice Al ln cl) (g := w.heap.size + 1) HB2.out (by omega)
    rw [← HR2.out]
    exact bodyPost_ret (v := .tuple #[.agg #[.int .i64 br, .int .i64 bc, .slice Af fl cf, .slice Al ln cl], .int .i64 2]) (by simp [results, Try.f14, go_sem, r0, r1, r2, r3]) rfl ⟨.slice Al ln cl, by rw [HER.out.1, HBR.out.1, HBR.out.2], by rw [HER.out.2]; exact (HRF.out.later (Below.trans (Below.refl _ _) hbf)).more, hbf⟩
  have hm : 0 ≤ a * b ∧ a * b ≤ 4096 * 4096 := ⟨Int.mul_nonneg (by omega) (by omega), Int.le_trans (Int.mul_le_mul_of_nonneg_left h4 (by omega)) (Int.mul_le_mul_of_nonneg_right h3 (by omega))⟩
  have hfit : fitsF a b = decide (1 ≤ a ∧ 1 ≤ b ∧ a ≤ 4096 ∧ b ≤ 4096 ∧ a * b ≤ 4096) := rfl
  have hwm : IntKind.i64.wrap (a * b) = a * b := by rw [IntKind.wrap_i64]; omega
  obtain ⟨m, hmm⟩ : ∃ m, a * b = m := ⟨_, rfl⟩
  rw [hmm] at hfit hm
  rw [hmm] at hwm
  have hwm2 : IntKind.i64.wrap (a * b) = m := by rw [hmm]; exact hwm
  have HM := Lib.hid hmm
  clear hwm hmm hm
  by_cases h5 : m ≤ 4096
  rotate_left
  · have hf : fitsF a b = false := by rw [hfit]; exact decide_eq_false fun h => h5 h.2.2.2.2
    have HF := Lib.hid hf
    clear hf hfit
    have HER : Hid (decE B (x, y, a, b) = 2 ∧ decB B (x, y, a, b) = B) := Lib.hid (by
      have k1 := HE.out.1
      rw [HF.out] at k1
      simp at k1
      exact ⟨k1, HE.out.2 (by rw [k1]; decide)⟩)
    clear HE
    go_wp2_with fail
    have hfin := set4 (.int .i64 br) (.int .i64 bc) (.slice Af fl cf) (.slice Al ln cl) HY1.out
    obtain ⟨r0, r1, r2, r3, _⟩ := box4 hfin
    have hbf := below4 (.int .i64 br) (.int .i64 bc) (.slice Af fl cf) (.slice Al ln cl) (g := w.heap.size + 1) HB2.out (by omega)
    rw [← HR2.out]
    exact bodyPost_ret (v := .tuple #[.agg #[.int .i64 br, .int .i64 bc, .slice Af fl cf, .slice Al ln cl], .int .i64 2]) (by simp [results, Try.f14, go_sem, r0, r1, r2, r3]) rfl ⟨.slice Al ln cl, by rw [HER.out.1, HBR.out.1, HBR.out.2], by rw [HER.out.2]; exact (HRF.out.later (Below.trans (Below.refl _ _) hbf)).more, hbf⟩
  have hf : fitsF a b = true := by rw [hfit]; exact decide_eq_true ⟨h1, h2, h3, h4, h5⟩
  have HF := Lib.hid hf
  clear hf hfit
  obtain ⟨c, hc⟩ : ∃ c, B.con (x, y) = c := ⟨_, rfl⟩
  have HC := Lib.hid hc
  have HHC := Lib.hid (HHAS.out x y)
  rw [hc] at HHC
  clear hc
  go_wp2_with fail
  refine (HHC.out _ (HRF.out.later HB2.out)).mono ?_
  rintro e w3 ⟨rfl, hb3⟩
  have hy0 := (hb3.block _ (Array.getElem?_eq_some_iff.1 HY0.out).1).trans HY0.out
  have hy1 := (hb3.block _ (Array.getElem?_eq_some_iff.1 HY1.out).1).trans HY1.out
  have HB3 := Lib.hid (HB2.out.trans (hb3.mono HB2.out.size))
  have hsz3 : w.heap.size + 2 ≤ w3.heap.size := by have := hb3.size; omega
  clear HY0 HY1
  obtain ⟨a0, a1, a2, a3, a4⟩ := box4 hy0
  obtain ⟨t0, t1, t2, t3, t4⟩ := box4 hy1
  have f0 := t4 0
  have f1 := t4 1
  have f2 := t4 2
  have f3 := t4 3
  have HY0 := Lib.hid hy0
  have HY1 := Lib.hid hy1
  clear hb3 t4 a4 hy0 hy1
  cases c with
  | false =>
    have HER : Hid (decE B (x, y, a, b) = 3 ∧ decB B (x, y, a, b) = B) := Lib.hid (by
      have k1 := HE.out.1
      rw [HC.out, HF.out] at k1
      simp at k1
      exact ⟨k1, HE.out.2 (by rw [k1]; decide)⟩)
    clear HE
    go_wp2_with fail
    have hfin := set4 (.int .i64 br) (.int .i64 bc) (.slice Af fl cf) (.slice Al ln cl) HY1.out
    obtain ⟨r0, r1, r2, r3, _⟩ := box4 hfin
    have hbf := below4 (.int .i64 br) (.int .i64 bc) (.slice Af fl cf) (.slice Al ln cl) (g := w.heap.size + 1) HB3.out (by omega)
    rw [← HR2.out]
    exact bodyPost_ret (v := .tuple #[.agg #[.int .i64 br, .int .i64 bc, .slice Af fl cf, .slice Al ln cl], .int .i64 3]) (by simp [results, Try.f14, go_sem, r0, r1, r2, r3]) rfl ⟨.slice Al ln cl, by rw [HER.out.1, HBR.out.1, HBR.out.2], by rw [HER.out.2]; exact (HRF.out.later (Below.trans (Below.refl _ _) hbf)).more, hbf⟩
  | true =>
  clear HHC
  obtain ⟨o, ho⟩ : ∃ o, ofI B (x, y) = o := ⟨_, rfl⟩
  have hos := of_sign B (x, y)
  rw [ho] at HOF hos
  go_wp2_with fail
  refine (HOF.out _ (HRF.out.later HB3.out)).mono ?_
  rintro e w4 ⟨rfl, hb3⟩
  have hy0 := (hb3.block _ (Array.getElem?_eq_some_iff.1 HY0.out).1).trans HY0.out
  have hy1 := (hb3.block _ (Array.getElem?_eq_some_iff.1 HY1.out).1).trans HY1.out
  have HB4 := Lib.hid (HB3.out.trans (hb3.mono HB3.out.size))
  have hsz4 : w.heap.size + 2 ≤ w4.heap.size := by have := hb3.size; omega
  clear HY0 HY1
  obtain ⟨a0, a1, a2, a3, a4⟩ := box4 hy0
  obtain ⟨t0, t1, t2, t3, t4⟩ := box4 hy1
  have f0 := t4 0
  have f1 := t4 1
  have f2 := t4 2
  have f3 := t4 3
  have HY0 := Lib.hid hy0
  have HY1 := Lib.hid hy1
  clear hb3 t4 a4 hy0 hy1
  rcases hos with ⟨ho1, ho2⟩ | ⟨ho1, ho2⟩
  · have HER : Hid (decE B (x, y, a, b) = 4 ∧ decB B (x, y, a, b) = B) := Lib.hid (by
      have k1 := HE.out.1
      rw [HC.out, HF.out, ho1] at k1
      simp at k1
      exact ⟨k1, HE.out.2 (by rw [k1]; decide)⟩)
    clear HE ho1
    go_wp2_with fail
    have hfin := set4 (.int .i64 br) (.int .i64 bc) (.slice Af fl cf) (.slice Al ln cl) HY1.out
    obtain ⟨r0, r1, r2, r3, _⟩ := box4 hfin
    have hbf := below4 (.int .i64 br) (.int .i64 bc) (.slice Af fl cf) (.slice Al ln cl) (g := w.heap.size + 1) HB4.out (by omega)
    rw [← HR2.out]
    exact bodyPost_ret (v := .tuple #[.agg #[.int .i64 br, .int .i64 bc, .slice Af fl cf, .slice Al ln cl], .int .i64 4]) (by simp [results, Try.f14, go_sem, r0, r1, r2, r3]) rfl ⟨.slice Al ln cl, by rw [HER.out.1, HBR.out.1, HBR.out.2], by rw [HER.out.2]; exact (HRF.out.later (Below.trans (Below.refl _ _) hbf)).more, hbf⟩
  have HER : Hid (decE B (x, y, a, b) = 0 ∧ decB B (x, y, a, b) = addD B (x, y, a, b)) := Lib.hid (by
    have k1 := HE.out.1
    rw [HC.out, HF.out, ho1] at k1
    simp at k1
    refine ⟨k1, ?_⟩
    unfold decB
    rw [if_pos k1])
  clear HE ho1 HOF
  rename_i K7 h7 K8 h8 K9 h9
  have H7 := Lib.hid h7
  clear h7
  go_wp2_with fail
  refine H7.out _ _ ?_
  clear H7
  refine wp_seq_k fun K6 h6 => ?_
  have H6 := Lib.hid h6
  clear h6
  have hp := (hasP_iff _ _).1 HZZ.out
  have hbr0 := HI.out.r0
  have hbc0 := HI.out.c0
  rw [HBR.out.1] at hbr0
  rw [HBR.out.2] at hbc0
  rw [HBR.out.1, HBR.out.2] at hp
  simp only at hp
  have hwxa : IntKind.i64.wrap (x + a) = x + a := by rw [IntKind.wrap_i64]; omega
  have hwyb : IntKind.i64.wrap (y + b) = y + b := by rw [IntKind.wrap_i64]; omega
  have HBE : Hid (beyF B (x, y, a, b) = (decide (br < x + a) || decide (bc < y + b))) := Lib.hid (bey_at x y a b HBR.out.1 HBR.out.2)
  obtain ⟨xa, hxa⟩ : ∃ xa, x + a = xa := ⟨_, rfl⟩
  obtain ⟨yb, hyb⟩ : ∃ yb, y + b = yb := ⟨_, rfl⟩
  rw [hxa, hyb] at HBE
  have hwxa2 : IntKind.i64.wrap (x + a) = xa := hwxa.trans hxa
  have hwyb2 : IntKind.i64.wrap (y + b) = yb := hwyb.trans hyb
  have HBD : Hid (0 ≤ x ∧ 0 ≤ y ∧ x ≤ 1000 ∧ y ≤ 1000 ∧ 1 ≤ a ∧ 1 ≤ b ∧ a ≤ 4096 ∧ b ≤ 4096 ∧ x + a = xa ∧ y + b = yb) := Lib.hid (by omega)
  clear hwxa hwyb hp hbr0 hbc0 hxa hyb h1 h2 h3 h4 h5 hwm2 HM
  have hg5 := World.alloc_heap_new w4 (.cells #[.int .i64 x, .int .i64 y, .int .i64 a, .int .i64 b, .bool false, .int .i64 0, .int .i64 0, .bool false] 42)
  have hb5 := (Below.refl w4.heap.size w4).alloc (Nat.le_refl _) (.cells #[.int .i64 x, .int .i64 y, .int .i64 a, .int .i64 b, .bool false, .int .i64 0, .int .i64 0, .bool false] 42)
  obtain ⟨W5, hW5⟩ : ∃ W5, w4.alloc (.cells #[.int .i64 x, .int .i64 y, .int .i64 a, .int .i64 b, .bool false, .int .i64 0, .int .i64 0, .bool false] 42) = W5 := ⟨_, rfl⟩
  rw [hW5] at hg5 hb5
  have HW5 := Lib.hid hW5
  clear hW5
  go_wp2_with fail
  rw [HW5.out]
  refine H6.out _ _ ?_
  clear H6 HW5
  have hx0 := (hb5.block _ (Array.getElem?_eq_some_iff.1 HY0.out).1).trans HY0.out
  obtain ⟨g0, g1, g2, g3, _⟩ := box4 hx0
  have HG5 := Lib.hid hg5
  have HB5 := Lib.hid hb5
  have HHC := Lib.hid HHAS.out
  have HFU : Hid (∀ u v : Int, barF B (x, y, a, b) (u, v) = ((!(decide (u = x ∧ v = y)) && B.con (u, v)) || (ownF B.l (u, v)).isSome)) := Lib.hid (fun u v => barF_at B x y a b u v)
  have HS := Lib.hid (rowsF_succ (x, y, a, b))
  have HT := Lib.hid (rowF_succ (x, y, a, b))
  have HT0 : Hid (∀ i, rowF (x, y, a, b) i 0 = []) := Lib.hid (fun i => rfl)
  have HR0 : Hid (rowsF (x, y, a, b) 0 = []) := Lib.hid rfl
  have HJF : Hid (∀ (p q : Int) (hb : Bool) (k : Nat), Fst (barF B (x, y, a, b)) (rowsF (x, y, a, b) k) p q hb → (beyF B (x, y, a, b) = true → k = 0) → (beyF B (x, y, a, b) = false → hb = false → k = a.toNat) → k ≤ a.toNat → judF B (x, y, a, b) = ⟨(x, y, a, b), !(beyF B (x, y, a, b)) && !hb, (p, q), hb⟩) := Lib.hid (fun p q hb k h1 h2 h3 h4 => jud_fst h1 h2 h3 h4)
  obtain ⟨f, hf⟩ : ∃ f, barF B (x, y, a, b) = f := ⟨_, rfl⟩
  obtain ⟨Rr, hRr⟩ : ∃ Rr, rowsF (x, y, a, b) = Rr := ⟨_, rfl⟩
  obtain ⟨Tr, hTr⟩ : ∃ Tr, rowF (x, y, a, b) = Tr := ⟨_, rfl⟩
  rw [hf] at HFU HJF
  rw [hRr] at HS HJF HR0
  rw [hTr] at HS HT HT0
  clear hf hRr hTr hg5 hb5 hx0 HHAS
  by_cases e1 : br < xa
  · have HBEY : Hid (beyF B (x, y, a, b) = true) := Lib.hid (by rw [HBE.out, decide_eq_true e1]; rfl)
    clear HBE
    go_wp2_with fail
    go_loopw [14] (fun i wr => ∃ (k : Nat) (p q : Int) (hb : Bool), k ≤ a.toNat ∧ i = .int .i64 (x + (k : Int)) ∧ Fst f (Rr k) p q hb ∧ wr.heap[w4.heap.size]? = some (.cells #[.int .i64 x, .int .i64 y, .int .i64 a, .int .i64 b, .bool false, .int .i64 p, .int .i64 q, .bool hb] 42 (0, 0)) ∧ Below w4.heap.size w4 wr ∧ k = 0) (fun i _ => (xa - intOf i).toNat)
    case atStart => exact ⟨0, 0, 0, false, Nat.zero_le _, by simp, by rw [HR0.out]; exact Fst.nil f, HG5.out, HB5.out, rfl⟩
    case round =>
      obtain ⟨k, p, q, hb, hk, rfl, hfs, hcell, hB, hk0⟩ := hrel
      have HCELL := Lib.hid hcell
      have HBW := Lib.hid hB
      have HFS := Lib.hid hfs
      obtain ⟨u, hu⟩ : ∃ u, x + (k : Int) = u := ⟨_, rfl⟩
      have HU := Lib.hid hu
      rw [hu]
      have hx0 := (hB.block _ (Array.getElem?_eq_some_iff.1 HY0.out).1).trans HY0.out
      obtain ⟨l0, l1, l2, l3, _⟩ := box4 hx0
      obtain ⟨b0, b1, b2, b3, b4, b5, b6, b7⟩ := cell8 hcell
      have fz := frozen8 hcell
      have fz4 := fz 4
      have fz5 := fz 5
      have fz6 := fz 6
      have fz7 := fz 7
      clear hcell hB hfs hx0 hu fz g0 g1 g2 g3
      subst hk0
      have hxx : u < xa := by have := HBD.out; have := HU.out; simp at this; omega
      have hb0' : hb = false := by
        have h1 := HFS.out.1
        rw [HR0.out] at h1
        cases hb with
        | false => rfl
        | true => cases h1
      subst hb0'
      have HJ : Hid (judF B (x, y, a, b) = ⟨(x, y, a, b), false, (p, q), false⟩) := Lib.hid (by
        have h1 := HJF.out p q false 0 HFS.out (fun _ => rfl) (fun h => by rw [HBEY.out] at h; cases h) (Nat.zero_le _)
        rw [HBEY.out] at h1
        exact h1)
      have HWS := Lib.hid (And.intro (std8 (.bool false) HCELL.out) (HBW.out.setCell (p := ⟨w4.heap.size, 4, none⟩) (Nat.le_refl _) (.bool false)))
      obtain ⟨WS, hWS⟩ : ∃ WS, wr.setCell ⟨w4.heap.size, 4, none⟩ (.bool false) = WS := ⟨_, rfl⟩
      rw [hWS] at HWS
      have HWE := Lib.hid hWS
      have hbS := HWS.out.2
      have HSC := Lib.hid HWS.out.1
      have hs0 := (hbS.block _ (Array.getElem?_eq_some_iff.1 HY0.out).1).trans HY0.out
      have hs1 := (hbS.block _ (Array.getElem?_eq_some_iff.1 HY1.out).1).trans HY1.out
      have hszS : w4.heap.size ≤ WS.heap.size := hbS.size
      obtain ⟨n0, n1, n2, n3, _⟩ := box4 hs0
      obtain ⟨m0, m1, m2, m3, m4, m5, m6, m7⟩ := cell8 HSC.out
      have HRS := Lib.hid (HRF.out.later (HB4.out.trans (hbS.mono HB4.out.size)))
      have HRW2 : Hid (WS.ownsRow 0 42 8 (.slice Al ln cl) ln (flat8 B.l)) := Lib.hid (by have := HRS.out.row; rw [HLN.out] at this; exact this)
      have HNIL : Hid (WS.ownsRow WS.heap.size 42 8 (.slice none 0 0) 0 []) := Lib.hid ⟨rfl, .inl ⟨rfl, rfl⟩⟩
      have HBS := Lib.hid (HB4.out.trans (hbS.mono HB4.out.size))
      clear HY0 HY1
      have HY0 := Lib.hid hs0
      have HY1 := Lib.hid hs1
      clear hWS hbS hs0 hs1 HWS
      rcases Classical.em (Al = none) with he | he
      · have hWS := HWE.out
        subst he
        have hF0 : ln = 0 ∧ cl = 0 := by
          rcases HRW2.out.2 with ⟨h1, h2⟩ | ⟨g, cap, cur, h1, _⟩
          · simp only [Value.slice.injEq, true_and] at h1
            exact ⟨h2, h1.2⟩
          · cases h1
        obtain ⟨rfl, rfl⟩ := hF0
        have HO1 : Hid (WS.ownsRow WS.heap.size 42 8 (.slice none 0 0) 0 (flat8 B.l)) := Lib.hid (by have h1 := HLN.out; rw [List.eq_nil_of_length_eq_zero h1]; exact HNIL.out)
        have HB3 : Hid (Below WS.heap.size WS WS) := Lib.hid (Below.refl _ _)
        have HS3 : Hid (WS.heap.size ≤ WS.heap.size) := Lib.hid (Nat.le_refl _)
        go_wp2_with (first
          | (at_builtin; (refine wpList_append_own_none _ rfl _ _ 27 rfl WS.heap.size 42 i0 8 Try.underlying27 hj _ 0 [] rfl HNIL.out rfl ?_))
          | (at_builtin; go_loud (refine wpList_append_own _ rfl _ _ 27 rfl WS.heap.size 42 i0 (.agg #[.int .i64 0, .int .i64 0, .int .i64 0, .int .i64 0, .bool false, .int .i64 0, .int .i64 0, .bool false]) 8 64 Try.underlying27 hj hj0 hj1 hj2 rfl (by decide) _ _ _ rfl (rowG_later HO1.out ((Below.refl _ _).alloc (Nat.le_refl _) _)) ⟨WS.heap.size, 0, none⟩ 1 1 [.int .i64 x, .int .i64 y, .int .i64 a, .int .i64 b, .bool false, .int .i64 p, .int .i64 q, .bool false] rfl rfl (lit42 rfl) (one_lit8 ⟨(x, y, a, b), false, (p, q), false⟩) (by unfold maxLen; omega) (by omega) (by have := HS3.out; first | (simp; done) | (simp; omega)) ?_; intro v2 w9 hown2 hgrow2 hnil2; obtain ⟨A2, c2, rfl⟩ := own_shape hown2; have hb4 : Below WS.heap.size WS w9 := (HB3.out.alloc HS3.out _).grown hgrow2 (by have := HS3.out; first | (simp; done) | (simp; omega)) (fun j e => (rowG_lt HO1.out e).2); have hx0 := (hb4.block _ (Array.getElem?_eq_some_iff.1 HY0.out).1).trans HY0.out; have hx1 := (hb4.block _ (Array.getElem?_eq_some_iff.1 HY1.out).1).trans HY1.out; obtain ⟨_, _, _, s3, s5⟩ := box4 hx0; have s6 := s5 3; have hy0 := set_three (.slice A2 (1) c2) hx0; have hy1 := set_far (g := w.heap.size) (i := 3) (.slice A2 (1) c2) (show w.heap.size + 1 ≠ w.heap.size by omega) hx1; obtain ⟨u0, u1, u2, u3, _⟩ := box4 hy0; obtain ⟨v0, v1, v2, v3, v4⟩ := box4 hy1; have e0 := v4 0; have e1 := v4 1; have e2 := v4 2; have e3 := v4 3; have HY1' := Lib.hid hy1; have HO2 := Lib.hid hown2; have HB9 := Lib.hid hb4; clear hown2 hgrow2 hnil2 hb4 hx0 hx1 s5 hy0 hy1 v4)))
        have hfin := set4 (.int .i64 br) (.int .i64 bc) (.slice Af fl cf) (.slice A2 (1) c2) HY1'.out
        obtain ⟨r0, r1, r2, r3, _⟩ := box4 hfin
        have hbf := below4 (.int .i64 br) (.int .i64 bc) (.slice Af fl cf) (.slice A2 (1) c2) (g := w.heap.size + 1) (((HBS.out.trans (HB9.out.mono HBS.out.size)).setCell (p := ⟨w.heap.size, 3, none⟩) (Nat.le_refl _) (.slice A2 (1) c2))) (by omega)
        have hown9 := rowG_kept (w' := ((((w9.setCell ⟨w.heap.size, 3, none⟩ (.slice A2 (1) c2)).setCell ⟨w.heap.size + 1, 0, none⟩ (.int .i64 br)).setCell ⟨w.heap.size + 1, 1, none⟩ (.int .i64 bc)).setCell ⟨w.heap.size + 1, 2, none⟩ (.slice Af fl cf)).setCell ⟨w.heap.size + 1, 3, none⟩ (.slice A2 (1) c2)) HO2.out (fun g hg => by
          have h1 := (rowG_lt HO2.out hg).2
          have h2 : g ≠ w.heap.size + 1 := by omega
          exact (Below.heap_setCell _ _ _ _ h2).trans ((Below.heap_setCell _ _ _ _ h2).trans ((Below.heap_setCell _ _ _ _ h2).trans ((Below.heap_setCell _ _ _ _ h2).trans (Below.heap_setCell _ _ _ _ (show g ≠ w.heap.size by omega))))))
        rw [← HR2.out]
        refine bodyPost_ret (v := .tuple #[.agg #[.int .i64 br, .int .i64 bc, .slice Af fl cf, .slice A2 (1) c2], .int .i64 0]) (by simp [results, Try.f14, go_sem, r0, r1, r2, r3]) rfl ⟨.slice A2 (1) c2, by rw [HER.out.1, HBR.out.1, HBR.out.2], ?_, hbf⟩
        rw [HER.out.2]
        have hrr := HRF.out.later hbf
        refine ⟨hrr.full.elim fun F hF => ⟨F, hF.1, Nat.le_succ_of_le hF.2.1, hF.2.2⟩, ?_, ?_⟩
        · show World.ownsRow _ 0 42 8 _ (B.l ++ [judF B (x, y, a, b)]).length (flat8 (B.l ++ [judF B (x, y, a, b)]))
          rw [HJ.out, flat8_app, List.length_append, HLN.out]
          exact rowG_base hown9 (Nat.zero_le _)
        · show (B.l ++ [judF B (x, y, a, b)]).length ≤ n + 1
          rw [List.length_append, HLN.out]
          first | (simp; done) | (simp; omega)
      · have hWS := HWE.out
        obtain ⟨ad, had⟩ : ∃ ad, Al = some ad := Option.ne_none_iff_exists'.1 he
        subst had
        clear he
        go_wp2_with (first
          | (at_builtin; (refine wpList_append_own _ rfl _ _ 27 rfl WS.heap.size 42 i0 (.agg #[.int .i64 0, .int .i64 0, .int .i64 0, .int .i64 0, .bool false, .int .i64 0, .int .i64 0, .bool false]) 8 64 Try.underlying27 hj hj0 hj1 hj2 rfl (by decide) _ _ _ rfl HNIL.out ad ln cl (flat8 B.l) rfl (by rw [flat8_len, HLN.out]) (rowG_cells HRW2.out) (flat8_one _) (by unfold maxLen; omega) (by omega) (Nat.le_refl _) ?_; intro v1 W3 hown1 hgrow1 hnil1; rw [Nat.zero_add, List.nil_append] at hown1; obtain ⟨A1, c1, rfl⟩ := own_shape hown1; have HO1 := Lib.hid hown1; have HB3 : Hid (Below WS.heap.size WS W3) := Lib.hid ((Below.refl _ WS).grown hgrow1 (Nat.le_refl _) (fun j e => by cases e)); have HS3 : Hid (WS.heap.size ≤ W3.heap.size) := Lib.hid hgrow1.size; obtain ⟨m0, m1, m2, m3, m4, m5, m6, m7⟩ := cell8 ((HB3.out.block _ (Array.getElem?_eq_some_iff.1 HSC.out).1).trans HSC.out); clear hown1 hgrow1 hnil1))
          | (at_builtin; go_loud (refine wpList_append_own _ rfl _ _ 27 rfl WS.heap.size 42 i0 (.agg #[.int .i64 0, .int .i64 0, .int .i64 0, .int .i64 0, .bool false, .int .i64 0, .int .i64 0, .bool false]) 8 64 Try.underlying27 hj hj0 hj1 hj2 rfl (by decide) _ _ _ rfl (rowG_later HO1.out ((Below.refl _ _).alloc (Nat.le_refl _) _)) ⟨W3.heap.size, 0, none⟩ 1 1 [.int .i64 x, .int .i64 y, .int .i64 a, .int .i64 b, .bool false, .int .i64 p, .int .i64 q, .bool false] rfl rfl (lit42 rfl) (one_lit8 ⟨(x, y, a, b), false, (p, q), false⟩) (by unfold maxLen; omega) (by omega) (by have := HS3.out; first | (simp; done) | (simp; omega)) ?_; intro v2 w9 hown2 hgrow2 hnil2; obtain ⟨A2, c2, rfl⟩ := own_shape hown2; have hb4 : Below WS.heap.size WS w9 := (HB3.out.alloc HS3.out _).grown hgrow2 (by have := HS3.out; first | (simp; done) | (simp; omega)) (fun j e => (rowG_lt HO1.out e).2); have hx0 := (hb4.block _ (Array.getElem?_eq_some_iff.1 HY0.out).1).trans HY0.out; have hx1 := (hb4.block _ (Array.getElem?_eq_some_iff.1 HY1.out).1).trans HY1.out; obtain ⟨_, _, _, s3, s5⟩ := box4 hx0; have s6 := s5 3; have hy0 := set_three (.slice A2 (ln + 1) c2) hx0; have hy1 := set_far (g := w.heap.size) (i := 3) (.slice A2 (ln + 1) c2) (show w.heap.size + 1 ≠ w.heap.size by omega) hx1; obtain ⟨u0, u1, u2, u3, _⟩ := box4 hy0; obtain ⟨v0, v1, v2, v3, v4⟩ := box4 hy1; have e0 := v4 0; have e1 := v4 1; have e2 := v4 2; have e3 := v4 3; have HY1' := Lib.hid hy1; have HO2 := Lib.hid hown2; have HB9 := Lib.hid hb4; clear hown2 hgrow2 hnil2 hb4 hx0 hx1 s5 hy0 hy1 v4)))
        have hfin := set4 (.int .i64 br) (.int .i64 bc) (.slice Af fl cf) (.slice A2 (ln + 1) c2) HY1'.out
        obtain ⟨r0, r1, r2, r3, _⟩ := box4 hfin
        have hbf := below4 (.int .i64 br) (.int .i64 bc) (.slice Af fl cf) (.slice A2 (ln + 1) c2) (g := w.heap.size + 1) (((HBS.out.trans (HB9.out.mono HBS.out.size)).setCell (p := ⟨w.heap.size, 3, none⟩) (Nat.le_refl _) (.slice A2 (ln + 1) c2))) (by omega)
        have hown9 := rowG_kept (w' := ((((w9.setCell ⟨w.heap.size, 3, none⟩ (.slice A2 (ln + 1) c2)).setCell ⟨w.heap.size + 1, 0, none⟩ (.int .i64 br)).setCell ⟨w.heap.size + 1, 1, none⟩ (.int .i64 bc)).setCell ⟨w.heap.size + 1, 2, none⟩ (.slice Af fl cf)).setCell ⟨w.heap.size + 1, 3, none⟩ (.slice A2 (ln + 1) c2)) HO2.out (fun g hg => by
          have h1 := (rowG_lt HO2.out hg).2
          have h2 : g ≠ w.heap.size + 1 := by omega
          exact (Below.heap_setCell _ _ _ _ h2).trans ((Below.heap_setCell _ _ _ _ h2).trans ((Below.heap_setCell _ _ _ _ h2).trans ((Below.heap_setCell _ _ _ _ h2).trans (Below.heap_setCell _ _ _ _ (show g ≠ w.heap.size by omega))))))
        rw [← HR2.out]
        refine bodyPost_ret (v := .tuple #[.agg #[.int .i64 br, .int .i64 bc, .slice Af fl cf, .slice A2 (ln + 1) c2], .int .i64 0]) (by simp [results, Try.f14, go_sem, r0, r1, r2, r3]) rfl ⟨.slice A2 (ln + 1) c2, by rw [HER.out.1, HBR.out.1, HBR.out.2], ?_, hbf⟩
        rw [HER.out.2]
        have hrr := HRF.out.later hbf
        refine ⟨hrr.full.elim fun F hF => ⟨F, hF.1, Nat.le_succ_of_le hF.2.1, hF.2.2⟩, ?_, ?_⟩
        · show World.ownsRow _ 0 42 8 _ (B.l ++ [judF B (x, y, a, b)]).length (flat8 (B.l ++ [judF B (x, y, a, b)]))
          rw [HJ.out, flat8_app, List.length_append, HLN.out]
          exact rowG_base hown9 (Nat.zero_le _)
        · show (B.l ++ [judF B (x, y, a, b)]).length ≤ n + 1
          rw [List.length_append, HLN.out]
          first | (simp; done) | (simp; omega)
  · by_cases e2 : bc < yb
    · have HBEY : Hid (beyF B (x, y, a, b) = true) := Lib.hid (by rw [HBE.out, decide_eq_true e2, Bool.or_true])
      clear HBE
      go_wp2_with fail
      go_loopw [14] (fun i wr => ∃ (k : Nat) (p q : Int) (hb : Bool), k ≤ a.toNat ∧ i = .int .i64 (x + (k : Int)) ∧ Fst f (Rr k) p q hb ∧ wr.heap[w4.heap.size]? = some (.cells #[.int .i64 x, .int .i64 y, .int .i64 a, .int .i64 b, .bool false, .int .i64 p, .int .i64 q, .bool hb] 42 (0, 0)) ∧ Below w4.heap.size w4 wr ∧ k = 0) (fun i _ => (xa - intOf i).toNat)
      case atStart => exact ⟨0, 0, 0, false, Nat.zero_le _, by simp, by rw [HR0.out]; exact Fst.nil f, HG5.out, HB5.out, rfl⟩
      case round =>
        obtain ⟨k, p, q, hb, hk, rfl, hfs, hcell, hB, hk0⟩ := hrel
        have HCELL := Lib.hid hcell
        have HBW := Lib.hid hB
        have HFS := Lib.hid hfs
        obtain ⟨u, hu⟩ : ∃ u, x + (k : Int) = u := ⟨_, rfl⟩
        have HU := Lib.hid hu
        rw [hu]
        have hx0 := (hB.block _ (Array.getElem?_eq_some_iff.1 HY0.out).1).trans HY0.out
        obtain ⟨l0, l1, l2, l3, _⟩ := box4 hx0
        obtain ⟨b0, b1, b2, b3, b4, b5, b6, b7⟩ := cell8 hcell
        have fz := frozen8 hcell
        have fz4 := fz 4
        have fz5 := fz 5
        have fz6 := fz 6
        have fz7 := fz 7
        clear hcell hB hfs hx0 hu fz g0 g1 g2 g3
        subst hk0
        have hxx : u < xa := by have := HBD.out; have := HU.out; simp at this; omega
        have hb0' : hb = false := by
          have h1 := HFS.out.1
          rw [HR0.out] at h1
          cases hb with
          | false => rfl
          | true => cases h1
        subst hb0'
        have HJ : Hid (judF B (x, y, a, b) = ⟨(x, y, a, b), false, (p, q), false⟩) := Lib.hid (by
          have h1 := HJF.out p q false 0 HFS.out (fun _ => rfl) (fun h => by rw [HBEY.out] at h; cases h) (Nat.zero_le _)
          rw [HBEY.out] at h1
          exact h1)
        have HWS := Lib.hid (And.intro (std8 (.bool false) HCELL.out) (HBW.out.setCell (p := ⟨w4.heap.size, 4, none⟩) (Nat.le_refl _) (.bool false)))
        obtain ⟨WS, hWS⟩ : ∃ WS, wr.setCell ⟨w4.heap.size, 4, none⟩ (.bool false) = WS := ⟨_, rfl⟩
        rw [hWS] at HWS
        have HWE := Lib.hid hWS
        have hbS := HWS.out.2
        have HSC := Lib.hid HWS.out.1
        have hs0 := (hbS.block _ (Array.getElem?_eq_some_iff.1 HY0.out).1).trans HY0.out
        have hs1 := (hbS.block _ (Array.getElem?_eq_some_iff.1 HY1.out).1).trans HY1.out
        have hszS : w4.heap.size ≤ WS.heap.size := hbS.size
        obtain ⟨n0, n1, n2, n3, _⟩ := box4 hs0
        obtain ⟨m0, m1, m2, m3, m4, m5, m6, m7⟩ := cell8 HSC.out
        have HRS := Lib.hid (HRF.out.later (HB4.out.trans (hbS.mono HB4.out.size)))
        have HRW2 : Hid (WS.ownsRow 0 42 8 (.slice Al ln cl) ln (flat8 B.l)) := Lib.hid (by have := HRS.out.row; rw [HLN.out] at this; exact this)
        have HNIL : Hid (WS.ownsRow WS.heap.size 42 8 (.slice none 0 0) 0 []) := Lib.hid ⟨rfl, .inl ⟨rfl, rfl⟩⟩
        have HBS := Lib.hid (HB4.out.trans (hbS.mono HB4.out.size))
        clear HY0 HY1
        have HY0 := Lib.hid hs0
        have HY1 := Lib.hid hs1
        clear hWS hbS hs0 hs1 HWS
        rcases Classical.em (Al = none) with he | he
        · have hWS := HWE.out
          subst he
          have hF0 : ln = 0 ∧ cl = 0 := by
            rcases HRW2.out.2 with ⟨h1, h2⟩ | ⟨g, cap, cur, h1, _⟩
            · simp only [Value.slice.injEq, true_and] at h1
              exact ⟨h2, h1.2⟩
            · cases h1
          obtain ⟨rfl, rfl⟩ := hF0
          have HO1 : Hid (WS.ownsRow WS.heap.size 42 8 (.slice none 0 0) 0 (flat8 B.l)) := Lib.hid (by have h1 := HLN.out; rw [List.eq_nil_of_length_eq_zero h1]; exact HNIL.out)
          have HB3 : Hid (Below WS.heap.size WS WS) := Lib.hid (Below.refl _ _)
          have HS3 : Hid (WS.heap.size ≤ WS.heap.size) := Lib.hid (Nat.le_refl _)
          go_wp2_with (first
            | (at_builtin; (refine wpList_append_own_none _ rfl _ _ 27 rfl WS.heap.size 42 i0 8 Try.underlying27 hj _ 0 [] rfl HNIL.out rfl ?_))
            | (at_builtin; go_loud (refine wpList_append_own _ rfl _ _ 27 rfl WS.heap.size 42 i0 (.agg #[.int .i64 0, .int .i64 0, .int .i64 0, .int .i64 0, .bool false, .int .i64 0, .int .i64 0, .bool false]) 8 64 Try.underlying27 hj hj0 hj1 hj2 rfl (by decide) _ _ _ rfl (rowG_later HO1.out ((Below.refl _ _).alloc (Nat.le_refl _) _)) ⟨WS.heap.size, 0, none⟩ 1 1 [.int .i64 x, .int .i64 y, .int .i64 a, .int .i64 b, .bool false, .int .i64 p, .int .i64 q, .bool false] rfl rfl (lit42 rfl) (one_lit8 ⟨(x, y, a, b), false, (p, q), false⟩) (by unfold maxLen; omega) (by omega) (by have := HS3.out; first | (simp; done) | (simp; omega)) ?_; intro v2 w9 hown2 hgrow2 hnil2; obtain ⟨A2, c2, rfl⟩ := own_shape hown2; have hb4 : Below WS.heap.size WS w9 := (HB3.out.alloc HS3.out _).grown hgrow2 (by have := HS3.out; first | (simp; done) | (simp; omega)) (fun j e => (rowG_lt HO1.out e).2); have hx0 := (hb4.block _ (Array.getElem?_eq_some_iff.1 HY0.out).1).trans HY0.out; have hx1 := (hb4.block _ (Array.getElem?_eq_some_iff.1 HY1.out).1).trans HY1.out; obtain ⟨_, _, _, s3, s5⟩ := box4 hx0; have s6 := s5 3; have hy0 := set_three (.slice A2 (1) c2) hx0; have hy1 := set_far (g := w.heap.size) (i := 3) (.slice A2 (1) c2) (show w.heap.size + 1 ≠ w.heap.size by omega) hx1; obtain ⟨u0, u1, u2, u3, _⟩ := box4 hy0; obtain ⟨v0, v1, v2, v3, v4⟩ := box4 hy1; have e0 := v4 0; have e1 := v4 1; have e2 := v4 2; have e3 := v4 3; have HY1' := Lib.hid hy1; have HO2 := Lib.hid hown2; have HB9 := Lib.hid hb4; clear hown2 hgrow2 hnil2 hb4 hx0 hx1 s5 hy0 hy1 v4)))
          have hfin := set4 (.int .i64 br) (.int .i64 bc) (.slice Af fl cf) (.slice A2 (1) c2) HY1'.out
          obtain ⟨r0, r1, r2, r3, _⟩ := box4 hfin
          have hbf := below4 (.int .i64 br) (.int .i64 bc) (.slice Af fl cf) (.slice A2 (1) c2) (g := w.heap.size + 1) (((HBS.out.trans (HB9.out.mono HBS.out.size)).setCell (p := ⟨w.heap.size, 3, none⟩) (Nat.le_refl _) (.slice A2 (1) c2))) (by omega)
          have hown9 := rowG_kept (w' := ((((w9.setCell ⟨w.heap.size, 3, none⟩ (.slice A2 (1) c2)).setCell ⟨w.heap.size + 1, 0, none⟩ (.int .i64 br)).setCell ⟨w.heap.size + 1, 1, none⟩ (.int .i64 bc)).setCell ⟨w.heap.size + 1, 2, none⟩ (.slice Af fl cf)).setCell ⟨w.heap.size + 1, 3, none⟩ (.slice A2 (1) c2)) HO2.out (fun g hg => by
            have h1 := (rowG_lt HO2.out hg).2
            have h2 : g ≠ w.heap.size + 1 := by omega
            exact (Below.heap_setCell _ _ _ _ h2).trans ((Below.heap_setCell _ _ _ _ h2).trans ((Below.heap_setCell _ _ _ _ h2).trans ((Below.heap_setCell _ _ _ _ h2).trans (Below.heap_setCell _ _ _ _ (show g ≠ w.heap.size by omega))))))
          rw [← HR2.out]
          refine bodyPost_ret (v := .tuple #[.agg #[.int .i64 br, .int .i64 bc, .slice Af fl cf, .slice A2 (1) c2], .int .i64 0]) (by simp [results, Try.f14, go_sem, r0, r1, r2, r3]) rfl ⟨.slice A2 (1) c2, by rw [HER.out.1, HBR.out.1, HBR.out.2], ?_, hbf⟩
          rw [HER.out.2]
          have hrr := HRF.out.later hbf
          refine ⟨hrr.full.elim fun F hF => ⟨F, hF.1, Nat.le_succ_of_le hF.2.1, hF.2.2⟩, ?_, ?_⟩
          · show World.ownsRow _ 0 42 8 _ (B.l ++ [judF B (x, y, a, b)]).length (flat8 (B.l ++ [judF B (x, y, a, b)]))
            rw [HJ.out, flat8_app, List.length_append, HLN.out]
            exact rowG_base hown9 (Nat.zero_le _)
          · show (B.l ++ [judF B (x, y, a, b)]).length ≤ n + 1
            rw [List.length_append, HLN.out]
            first | (simp; done) | (simp; omega)
        · have hWS := HWE.out
          obtain ⟨ad, had⟩ : ∃ ad, Al = some ad := Option.ne_none_iff_exists'.1 he
          subst had
          clear he
          go_wp2_with (first
            | (at_builtin; (refine wpList_append_own _ rfl _ _ 27 rfl WS.heap.size 42 i0 (.agg #[.int .i64 0, .int .i64 0, .int .i64 0, .int .i64 0, .bool false, .int .i64 0, .int .i64 0, .bool false]) 8 64 Try.underlying27 hj hj0 hj1 hj2 rfl (by decide) _ _ _ rfl HNIL.out ad ln cl (flat8 B.l) rfl (by rw [flat8_len, HLN.out]) (rowG_cells HRW2.out) (flat8_one _) (by unfold maxLen; omega) (by omega) (Nat.le_refl _) ?_; intro v1 W3 hown1 hgrow1 hnil1; rw [Nat.zero_add, List.nil_append] at hown1; obtain ⟨A1, c1, rfl⟩ := own_shape hown1; have HO1 := Lib.hid hown1; have HB3 : Hid (Below WS.heap.size WS W3) := Lib.hid ((Below.refl _ WS).grown hgrow1 (Nat.le_refl _) (fun j e => by cases e)); have HS3 : Hid (WS.heap.size ≤ W3.heap.size) := Lib.hid hgrow1.size; obtain ⟨m0, m1, m2, m3, m4, m5, m6, m7⟩ := cell8 ((HB3.out.block _ (Array.getElem?_eq_some_iff.1 HSC.out).1).trans HSC.out); clear hown1 hgrow1 hnil1))
            | (at_builtin; go_loud (refine wpList_append_own _ rfl _ _ 27 rfl WS.heap.size 42 i0 (.agg #[.int .i64 0, .int .i64 0, .int .i64 0, .int .i64 0, .bool false, .int .i64 0, .int .i64 0, .bool false]) 8 64 Try.underlying27 hj hj0 hj1 hj2 rfl (by decide) _ _ _ rfl (rowG_later HO1.out ((Below.refl _ _).alloc (Nat.le_refl _) _)) ⟨W3.heap.size, 0, none⟩ 1 1 [.int .i64 x, .int .i64 y, .int .i64 a, .int .i64 b, .bool false, .int .i64 p, .int .i64 q, .bool false] rfl rfl (lit42 rfl) (one_lit8 ⟨(x, y, a, b), false, (p, q), false⟩) (by unfold maxLen; omega) (by omega) (by have := HS3.out; first | (simp; done) | (simp; omega)) ?_; intro v2 w9 hown2 hgrow2 hnil2; obtain ⟨A2, c2, rfl⟩ := own_shape hown2; have hb4 : Below WS.heap.size WS w9 := (HB3.out.alloc HS3.out _).grown hgrow2 (by have := HS3.out; first | (simp; done) | (simp; omega)) (fun j e => (rowG_lt HO1.out e).2); have hx0 := (hb4.block _ (Array.getElem?_eq_some_iff.1 HY0.out).1).trans HY0.out; have hx1 := (hb4.block _ (Array.getElem?_eq_some_iff.1 HY1.out).1).trans HY1.out; obtain ⟨_, _, _, s3, s5⟩ := box4 hx0; have s6 := s5 3; have hy0 := set_three (.slice A2 (ln + 1) c2) hx0; have hy1 := set_far (g := w.heap.size) (i := 3) (.slice A2 (ln + 1) c2) (show w.heap.size + 1 ≠ w.heap.size by omega) hx1; obtain ⟨u0, u1, u2, u3, _⟩ := box4 hy0; obtain ⟨v0, v1, v2, v3, v4⟩ := box4 hy1; have e0 := v4 0; have e1 := v4 1; have e2 := v4 2; have e3 := v4 3; have HY1' := Lib.hid hy1; have HO2 := Lib.hid hown2; have HB9 := Lib.hid hb4; clear hown2 hgrow2 hnil2 hb4 hx0 hx1 s5 hy0 hy1 v4)))
          have hfin := set4 (.int .i64 br) (.int .i64 bc) (.slice Af fl cf) (.slice A2 (ln + 1) c2) HY1'.out
          obtain ⟨r0, r1, r2, r3, _⟩ := box4 hfin
          have hbf := below4 (.int .i64 br) (.int .i64 bc) (.slice Af fl cf) (.slice A2 (ln + 1) c2) (g := w.heap.size + 1) (((HBS.out.trans (HB9.out.mono HBS.out.size)).setCell (p := ⟨w.heap.size, 3, none⟩) (Nat.le_refl _) (.slice A2 (ln + 1) c2))) (by omega)
          have hown9 := rowG_kept (w' := ((((w9.setCell ⟨w.heap.size, 3, none⟩ (.slice A2 (ln + 1) c2)).setCell ⟨w.heap.size + 1, 0, none⟩ (.int .i64 br)).setCell ⟨w.heap.size + 1, 1, none⟩ (.int .i64 bc)).setCell ⟨w.heap.size + 1, 2, none⟩ (.slice Af fl cf)).setCell ⟨w.heap.size + 1, 3, none⟩ (.slice A2 (ln + 1) c2)) HO2.out (fun g hg => by
            have h1 := (rowG_lt HO2.out hg).2
            have h2 : g ≠ w.heap.size + 1 := by omega
            exact (Below.heap_setCell _ _ _ _ h2).trans ((Below.heap_setCell _ _ _ _ h2).trans ((Below.heap_setCell _ _ _ _ h2).trans ((Below.heap_setCell _ _ _ _ h2).trans (Below.heap_setCell _ _ _ _ (show g ≠ w.heap.size by omega))))))
          rw [← HR2.out]
          refine bodyPost_ret (v := .tuple #[.agg #[.int .i64 br, .int .i64 bc, .slice Af fl cf, .slice A2 (ln + 1) c2], .int .i64 0]) (by simp [results, Try.f14, go_sem, r0, r1, r2, r3]) rfl ⟨.slice A2 (ln + 1) c2, by rw [HER.out.1, HBR.out.1, HBR.out.2], ?_, hbf⟩
          rw [HER.out.2]
          have hrr := HRF.out.later hbf
          refine ⟨hrr.full.elim fun F hF => ⟨F, hF.1, Nat.le_succ_of_le hF.2.1, hF.2.2⟩, ?_, ?_⟩
          · show World.ownsRow _ 0 42 8 _ (B.l ++ [judF B (x, y, a, b)]).length (flat8 (B.l ++ [judF B (x, y, a, b)]))
            rw [HJ.out, flat8_app, List.length_append, HLN.out]
            exact rowG_base hown9 (Nat.zero_le _)
          · show (B.l ++ [judF B (x, y, a, b)]).length ≤ n + 1
            rw [List.length_append, HLN.out]
            first | (simp; done) | (simp; omega)
    · have HBEY : Hid (beyF B (x, y, a, b) = false) := Lib.hid (by rw [HBE.out, decide_eq_false e1, decide_eq_false e2]; rfl)
      clear HBE
      go_wp2_with fail
      go_loopw [14] (fun i wr => ∃ (k : Nat) (p q : Int) (hb : Bool), k ≤ a.toNat ∧ i = .int .i64 (x + (k : Int)) ∧ Fst f (Rr k) p q hb ∧ wr.heap[w4.heap.size]? = some (.cells #[.int .i64 x, .int .i64 y, .int .i64 a, .int .i64 b, .bool false, .int .i64 p, .int .i64 q, .bool hb] 42 (0, 0)) ∧ Below w4.heap.size w4 wr) (fun i _ => (xa - intOf i).toNat)
      case atStart => exact ⟨0, 0, 0, false, Nat.zero_le _, by simp, by rw [HR0.out]; exact Fst.nil f, HG5.out, HB5.out⟩
      case round =>
        obtain ⟨k, p, q, hb, hk, rfl, hfs, hcell, hB⟩ := hrel
        have HCELL := Lib.hid hcell
        have HBW := Lib.hid hB
        have HFS := Lib.hid hfs
        obtain ⟨u, hu⟩ : ∃ u, x + (k : Int) = u := ⟨_, rfl⟩
        have HU := Lib.hid hu
        rw [hu]
        have hx0 := (hB.block _ (Array.getElem?_eq_some_iff.1 HY0.out).1).trans HY0.out
        obtain ⟨l0, l1, l2, l3, _⟩ := box4 hx0
        obtain ⟨b0, b1, b2, b3, b4, b5, b6, b7⟩ := cell8 hcell
        have fz := frozen8 hcell
        have fz4 := fz 4
        have fz5 := fz 5
        have fz6 := fz 6
        have fz7 := fz 7
        clear hcell hB hfs hx0 hu fz g0 g1 g2 g3
        by_cases hlt : u < xa
        · cases hb with
          | true =>
            have HJ : Hid (judF B (x, y, a, b) = ⟨(x, y, a, b), false, (p, q), true⟩) := Lib.hid (by
              have h1 := HJF.out p q true k HFS.out (fun h => by rw [HBEY.out] at h; cases h) (fun _ h => by cases h) hk
              rw [HBEY.out] at h1
              exact h1)
            have HWS := Lib.hid (And.intro (std8 (.bool false) HCELL.out) (HBW.out.setCell (p := ⟨w4.heap.size, 4, none⟩) (Nat.le_refl _) (.bool false)))
            obtain ⟨WS, hWS⟩ : ∃ WS, wr.setCell ⟨w4.heap.size, 4, none⟩ (.bool false) = WS := ⟨_, rfl⟩
            rw [hWS] at HWS
            have HWE := Lib.hid hWS
            have hbS := HWS.out.2
            have HSC := Lib.hid HWS.out.1
            have hs0 := (hbS.block _ (Array.getElem?_eq_some_iff.1 HY0.out).1).trans HY0.out
            have hs1 := (hbS.block _ (Array.getElem?_eq_some_iff.1 HY1.out).1).trans HY1.out
            have hszS : w4.heap.size ≤ WS.heap.size := hbS.size
            obtain ⟨n0, n1, n2, n3, _⟩ := box4 hs0
            obtain ⟨m0, m1, m2, m3, m4, m5, m6, m7⟩ := cell8 HSC.out
            have HRS := Lib.hid (HRF.out.later (HB4.out.trans (hbS.mono HB4.out.size)))
            have HRW2 : Hid (WS.ownsRow 0 42 8 (.slice Al ln cl) ln (flat8 B.l)) := Lib.hid (by have := HRS.out.row; rw [HLN.out] at this; exact this)
            have HNIL : Hid (WS.ownsRow WS.heap.size 42 8 (.slice none 0 0) 0 []) := Lib.hid ⟨rfl, .inl ⟨rfl, rfl⟩⟩
            have HBS := Lib.hid (HB4.out.trans (hbS.mono HB4.out.size))
            clear HY0 HY1
            have HY0 := Lib.hid hs0
            have HY1 := Lib.hid hs1
            clear hWS hbS hs0 hs1 HWS
            rcases Classical.em (Al = none) with he | he
            · have hWS := HWE.out
              subst he
              have hF0 : ln = 0 ∧ cl = 0 := by
                rcases HRW2.out.2 with ⟨h1, h2⟩ | ⟨g, cap, cur, h1, _⟩
                · simp only [Value.slice.injEq, true_and] at h1
                  exact ⟨h2, h1.2⟩
                · cases h1
              obtain ⟨rfl, rfl⟩ := hF0
              have HO1 : Hid (WS.ownsRow WS.heap.size 42 8 (.slice none 0 0) 0 (flat8 B.l)) := Lib.hid (by have h1 := HLN.out; rw [List.eq_nil_of_length_eq_zero h1]; exact HNIL.out)
              have HB3 : Hid (Below WS.heap.size WS WS) := Lib.hid (Below.refl _ _)
              have HS3 : Hid (WS.heap.size ≤ WS.heap.size) := Lib.hid (Nat.le_refl _)
              go_wp2_with (first
                | (at_builtin; (refine wpList_append_own_none _ rfl _ _ 27 rfl WS.heap.size 42 i0 8 Try.underlying27 hj _ 0 [] rfl HNIL.out rfl ?_))
                | (at_builtin; go_loud (refine wpList_append_own _ rfl _ _ 27 rfl WS.heap.size 42 i0 (.agg #[.int .i64 0, .int .i64 0, .int .i64 0, .int .i64 0, .bool false, .int .i64 0, .int .i64 0, .bool false]) 8 64 Try.underlying27 hj hj0 hj1 hj2 rfl (by decide) _ _ _ rfl (rowG_later HO1.out ((Below.refl _ _).alloc (Nat.le_refl _) _)) ⟨WS.heap.size, 0, none⟩ 1 1 [.int .i64 x, .int .i64 y, .int .i64 a, .int .i64 b, .bool false, .int .i64 p, .int .i64 q, .bool true] rfl rfl (lit42 rfl) (one_lit8 ⟨(x, y, a, b), false, (p, q), true⟩) (by unfold maxLen; omega) (by omega) (by have := HS3.out; first | (simp; done) | (simp; omega)) ?_; intro v2 w9 hown2 hgrow2 hnil2; obtain ⟨A2, c2, rfl⟩ := own_shape hown2; have hb4 : Below WS.heap.size WS w9 := (HB3.out.alloc HS3.out _).grown hgrow2 (by have := HS3.out; first | (simp; done) | (simp; omega)) (fun j e => (rowG_lt HO1.out e).2); have hx0 := (hb4.block _ (Array.getElem?_eq_some_iff.1 HY0.out).1).trans HY0.out; have hx1 := (hb4.block _ (Array.getElem?_eq_some_iff.1 HY1.out).1).trans HY1.out; obtain ⟨_, _, _, s3, s5⟩ := box4 hx0; have s6 := s5 3; have hy0 := set_three (.slice A2 (1) c2) hx0; have hy1 := set_far (g := w.heap.size) (i := 3) (.slice A2 (1) c2) (show w.heap.size + 1 ≠ w.heap.size by omega) hx1; obtain ⟨u0, u1, u2, u3, _⟩ := box4 hy0; obtain ⟨v0, v1, v2, v3, v4⟩ := box4 hy1; have e0 := v4 0; have e1 := v4 1; have e2 := v4 2; have e3 := v4 3; have HY1' := Lib.hid hy1; have HO2 := Lib.hid hown2; have HB9 := Lib.hid hb4; clear hown2 hgrow2 hnil2 hb4 hx0 hx1 s5 hy0 hy1 v4)))
              have hfin := set4 (.int .i64 br) (.int .i64 bc) (.slice Af fl cf) (.slice A2 (1) c2) HY1'.out
              obtain ⟨r0, r1, r2, r3, _⟩ := box4 hfin
              have hbf := below4 (.int .i64 br) (.int .i64 bc) (.slice Af fl cf) (.slice A2 (1) c2) (g := w.heap.size + 1) (((HBS.out.trans (HB9.out.mono HBS.out.size)).setCell (p := ⟨w.heap.size, 3, none⟩) (Nat.le_refl _) (.slice A2 (1) c2))) (by omega)
              have hown9 := rowG_kept (w' := ((((w9.setCell ⟨w.heap.size, 3, none⟩ (.slice A2 (1) c2)).setCell ⟨w.heap.size + 1, 0, none⟩ (.int .i64 br)).setCell ⟨w.heap.size + 1, 1, none⟩ (.int .i64 bc)).setCell ⟨w.heap.size + 1, 2, none⟩ (.slice Af fl cf)).setCell ⟨w.heap.size + 1, 3, none⟩ (.slice A2 (1) c2)) HO2.out (fun g hg => by
                have h1 := (rowG_lt HO2.out hg).2
                have h2 : g ≠ w.heap.size + 1 := by omega
                exact (Below.heap_setCell _ _ _ _ h2).trans ((Below.heap_setCell _ _ _ _ h2).trans ((Below.heap_setCell _ _ _ _ h2).trans ((Below.heap_setCell _ _ _ _ h2).trans (Below.heap_setCell _ _ _ _ (show g ≠ w.heap.size by omega))))))
              rw [← HR2.out]
              refine bodyPost_ret (v := .tuple #[.agg #[.int .i64 br, .int .i64 bc, .slice Af fl cf, .slice A2 (1) c2], .int .i64 0]) (by simp [results, Try.f14, go_sem, r0, r1, r2, r3]) rfl ⟨.slice A2 (1) c2, by rw [HER.out.1, HBR.out.1, HBR.out.2], ?_, hbf⟩
              rw [HER.out.2]
              have hrr := HRF.out.later hbf
              refine ⟨hrr.full.elim fun F hF => ⟨F, hF.1, Nat.le_succ_of_le hF.2.1, hF.2.2⟩, ?_, ?_⟩
              · show World.ownsRow _ 0 42 8 _ (B.l ++ [judF B (x, y, a, b)]).length (flat8 (B.l ++ [judF B (x, y, a, b)]))
                rw [HJ.out, flat8_app, List.length_append, HLN.out]
                exact rowG_base hown9 (Nat.zero_le _)
              · show (B.l ++ [judF B (x, y, a, b)]).length ≤ n + 1
                rw [List.length_append, HLN.out]
                first | (simp; done) | (simp; omega)
            · have hWS := HWE.out
              obtain ⟨ad, had⟩ : ∃ ad, Al = some ad := Option.ne_none_iff_exists'.1 he
              subst had
              clear he
              go_wp2_with (first
                | (at_builtin; (refine wpList_append_own _ rfl _ _ 27 rfl WS.heap.size 42 i0 (.agg #[.int .i64 0, .int .i64 0, .int .i64 0, .int .i64 0, .bool false, .int .i64 0, .int .i64 0, .bool false]) 8 64 Try.underlying27 hj hj0 hj1 hj2 rfl (by decide) _ _ _ rfl HNIL.out ad ln cl (flat8 B.l) rfl (by rw [flat8_len, HLN.out]) (rowG_cells HRW2.out) (flat8_one _) (by unfold maxLen; omega) (by omega) (Nat.le_refl _) ?_; intro v1 W3 hown1 hgrow1 hnil1; rw [Nat.zero_add, List.nil_append] at hown1; obtain ⟨A1, c1, rfl⟩ := own_shape hown1; have HO1 := Lib.hid hown1; have HB3 : Hid (Below WS.heap.size WS W3) := Lib.hid ((Below.refl _ WS).grown hgrow1 (Nat.le_refl _) (fun j e => by cases e)); have HS3 : Hid (WS.heap.size ≤ W3.heap.size) := Lib.hid hgrow1.size; obtain ⟨m0, m1, m2, m3, m4, m5, m6, m7⟩ := cell8 ((HB3.out.block _ (Array.getElem?_eq_some_iff.1 HSC.out).1).trans HSC.out); clear hown1 hgrow1 hnil1))
                | (at_builtin; go_loud (refine wpList_append_own _ rfl _ _ 27 rfl WS.heap.size 42 i0 (.agg #[.int .i64 0, .int .i64 0, .int .i64 0, .int .i64 0, .bool false, .int .i64 0, .int .i64 0, .bool false]) 8 64 Try.underlying27 hj hj0 hj1 hj2 rfl (by decide) _ _ _ rfl (rowG_later HO1.out ((Below.refl _ _).alloc (Nat.le_refl _) _)) ⟨W3.heap.size, 0, none⟩ 1 1 [.int .i64 x, .int .i64 y, .int .i64 a, .int .i64 b, .bool false, .int .i64 p, .int .i64 q, .bool true] rfl rfl (lit42 rfl) (one_lit8 ⟨(x, y, a, b), false, (p, q), true⟩) (by unfold maxLen; omega) (by omega) (by have := HS3.out; first | (simp; done) | (simp; omega)) ?_; intro v2 w9 hown2 hgrow2 hnil2; obtain ⟨A2, c2, rfl⟩ := own_shape hown2; have hb4 : Below WS.heap.size WS w9 := (HB3.out.alloc HS3.out _).grown hgrow2 (by have := HS3.out; first | (simp; done) | (simp; omega)) (fun j e => (rowG_lt HO1.out e).2); have hx0 := (hb4.block _ (Array.getElem?_eq_some_iff.1 HY0.out).1).trans HY0.out; have hx1 := (hb4.block _ (Array.getElem?_eq_some_iff.1 HY1.out).1).trans HY1.out; obtain ⟨_, _, _, s3, s5⟩ := box4 hx0; have s6 := s5 3; have hy0 := set_three (.slice A2 (ln + 1) c2) hx0; have hy1 := set_far (g := w.heap.size) (i := 3) (.slice A2 (ln + 1) c2) (show w.heap.size + 1 ≠ w.heap.size by omega) hx1; obtain ⟨u0, u1, u2, u3, _⟩ := box4 hy0; obtain ⟨v0, v1, v2, v3, v4⟩ := box4 hy1; have e0 := v4 0; have e1 := v4 1; have e2 := v4 2; have e3 := v4 3; have HY1' := Lib.hid hy1; have HO2 := Lib.hid hown2; have HB9 := Lib.hid hb4; clear hown2 hgrow2 hnil2 hb4 hx0 hx1 s5 hy0 hy1 v4)))
              have hfin := set4 (.int .i64 br) (.int .i64 bc) (.slice Af fl cf) (.slice A2 (ln + 1) c2) HY1'.out
              obtain ⟨r0, r1, r2, r3, _⟩ := box4 hfin
              have hbf := below4 (.int .i64 br) (.int .i64 bc) (.slice Af fl cf) (.slice A2 (ln + 1) c2) (g := w.heap.size + 1) (((HBS.out.trans (HB9.out.mono HBS.out.size)).setCell (p := ⟨w.heap.size, 3, none⟩) (Nat.le_refl _) (.slice A2 (ln + 1) c2))) (by omega)
              have hown9 := rowG_kept (w' := ((((w9.setCell ⟨w.heap.size, 3, none⟩ (.slice A2 (ln + 1) c2)).setCell ⟨w.heap.size + 1, 0, none⟩ (.int .i64 br)).setCell ⟨w.heap.size + 1, 1, none⟩ (.int .i64 bc)).setCell ⟨w.heap.size + 1, 2, none⟩ (.slice Af fl cf)).setCell ⟨w.heap.size + 1, 3, none⟩ (.slice A2 (ln + 1) c2)) HO2.out (fun g hg => by
                have h1 := (rowG_lt HO2.out hg).2
                have h2 : g ≠ w.heap.size + 1 := by omega
                exact (Below.heap_setCell _ _ _ _ h2).trans ((Below.heap_setCell _ _ _ _ h2).trans ((Below.heap_setCell _ _ _ _ h2).trans ((Below.heap_setCell _ _ _ _ h2).trans (Below.heap_setCell _ _ _ _ (show g ≠ w.heap.size by omega))))))
              rw [← HR2.out]
              refine bodyPost_ret (v := .tuple #[.agg #[.int .i64 br, .int .i64 bc, .slice Af fl cf, .slice A2 (ln + 1) c2], .int .i64 0]) (by simp [results, Try.f14, go_sem, r0, r1, r2, r3]) rfl ⟨.slice A2 (ln + 1) c2, by rw [HER.out.1, HBR.out.1, HBR.out.2], ?_, hbf⟩
              rw [HER.out.2]
              have hrr := HRF.out.later hbf
              refine ⟨hrr.full.elim fun F hF => ⟨F, hF.1, Nat.le_succ_of_le hF.2.1, hF.2.2⟩, ?_, ?_⟩
              · show World.ownsRow _ 0 42 8 _ (B.l ++ [judF B (x, y, a, b)]).length (flat8 (B.l ++ [judF B (x, y, a, b)]))
                rw [HJ.out, flat8_app, List.length_append, HLN.out]
                exact rowG_base hown9 (Nat.zero_le _)
              · show (B.l ++ [judF B (x, y, a, b)]).length ≤ n + 1
                rw [List.length_append, HLN.out]
                first | (simp; done) | (simp; omega)
          | false =>
            have hwu : IntKind.i64.wrap (u + 1) = u + 1 := by have := HBD.out; have := HU.out; rw [IntKind.wrap_i64]; omega
            go_wp2_with fail
            go_loopw [15] (fun j wr => ∃ (l : Nat) (p q : Int) (hb : Bool), l ≤ b.toNat ∧ j = .int .i64 (y + (l : Int)) ∧ Fst f (Rr k ++ Tr k l) p q hb ∧ wr.heap[w4.heap.size]? = some (.cells #[.int .i64 x, .int .i64 y, .int .i64 a, .int .i64 b, .bool false, .int .i64 p, .int .i64 q, .bool hb] 42 (0, 0)) ∧ Below w4.heap.size w4 wr) (fun j _ => (yb - intOf j).toNat)
            case atStart => exact ⟨0, p, q, false, Nat.zero_le _, by simp, by rw [HT0.out, List.append_nil]; exact HFS.out, HCELL.out, HBW.out⟩
            case round =>
              clear HCELL HBW HFS l0 l1 l2 l3 b0 b1 b2 b3 b4 b5 b6 b7 fz4 fz5 fz6 fz7
              obtain ⟨l, p, q, hb, hl, rfl, hfs, hcell, hB⟩ := hrel
              have HCELL := Lib.hid hcell
              have HBW := Lib.hid hB
              have HFS2 := Lib.hid hfs
              obtain ⟨v, hv⟩ : ∃ v, y + (l : Int) = v := ⟨_, rfl⟩
              have HV := Lib.hid hv
              rw [hv]
              have hx0 := (hB.block _ (Array.getElem?_eq_some_iff.1 HY0.out).1).trans HY0.out
              obtain ⟨l0, l1, l2, l3, _⟩ := box4 hx0
              obtain ⟨b0, b1, b2, b3, b4, b5, b6, b7⟩ := cell8 hcell
              have fz := frozen8 hcell
              have fz5 := fz 5
              have fz6 := fz 6
              have fz7 := fz 7
              clear hcell hB hfs hx0 hv fz
              by_cases hlt2 : v < yb
              · cases hb with
                | true =>
                  have HFM : Hid (Fst f (Rr (k + 1)) p q true) := Lib.hid (by
                    have h1 : ∃ M, Rr (k + 1) = Rr k ++ Tr k l ++ M := by
                      rw [HS.out]
                      show ∃ M, Rr k ++ Tr k b.toNat = _
                      obtain ⟨d, hd⟩ : ∃ d, b.toNat = l + d := ⟨_, (Nat.add_sub_cancel' hl).symm⟩
                      rw [hd]
                      clear hd
                      induction d with
                      | zero => exact ⟨[], by simp⟩
                      | succ d ih =>
                        obtain ⟨M, hM⟩ := ih
                        exact ⟨M ++ [_], by rw [← Nat.add_assoc, HT.out, ← List.append_assoc, hM, List.append_assoc]⟩
                    obtain ⟨M, hM⟩ := h1
                    rw [hM]
                    exact HFS2.out.more M)
                  go_wp2_with fail
                  go_roundw
                  case rel => exact ⟨k + 1, p, q, true, by have := HBD.out; have := HU.out; omega, by have := HU.out; simp; omega, HFM.out, HCELL.out, HBW.out⟩
                  case measure => have := HU.out; simp [intOf]; omega
                | false =>
                  obtain ⟨c, hc⟩ : ∃ c, B.con (u, v) = c := ⟨_, rfl⟩
                  have HHH := Lib.hid (HHC.out u v)
                  rw [hc] at HHH
                  have HCC := Lib.hid hc
                  have hwv : IntKind.i64.wrap (v + 1) = v + 1 := by have := HBD.out; have := HV.out; rw [IntKind.wrap_i64]; omega
                  have HUV : Hid (Wf (u, v)) := Lib.hid (wf_of (by have := HBD.out; have := HU.out; omega) (by have := HBD.out; have := HV.out; omega))
                  clear hc
                  go_wp2_with fail
                  refine (HHH.out _ (HRF.out.later (HB4.out.trans (HBW.out.mono HB4.out.size)))).mono ?_
                  rintro e w6 ⟨rfl, hb6⟩
                  have hc6 := (hb6.block _ (Array.getElem?_eq_some_iff.1 HCELL.out).1).trans HCELL.out
                  have hB6 := HBW.out.trans (hb6.mono HBW.out.size)
                  have hx0 := (hB6.block _ (Array.getElem?_eq_some_iff.1 HY0.out).1).trans HY0.out
                  obtain ⟨l0, l1, l2, l3, _⟩ := box4 hx0
                  obtain ⟨d0, d1, d2, d3, d4, d5, d6, d7⟩ := cell8 hc6
                  have fz := frozen8 hc6
                  have fz5 := fz 5
                  have fz6 := fz 6
                  have fz7 := fz 7
                  have HC6 := Lib.hid hc6
                  have HB6 := Lib.hid hB6
                  clear hb6 hc6 hB6 hx0 fz HHH
                  cases c with
                  | false =>
                    go_wp2_with fail
                    refine (HOWN.out u v HUV.out _ (HRF.out.later (HB4.out.trans (HB6.out.mono HB4.out.size)))).mono ?_
                    rintro e w7 ⟨rfl, hb7⟩
                    have hc7 := (hb7.block _ (Array.getElem?_eq_some_iff.1 HC6.out).1).trans HC6.out
                    obtain ⟨d0, d1, d2, d3, d4, d5, d6, d7⟩ := cell8 hc7
                    have fz := frozen8 hc7
                    have fz5 := fz 5
                    have fz6 := fz 6
                    have fz7 := fz 7
                    have HC7 := Lib.hid hc7
                    have HB7 := Lib.hid (HB6.out.trans (hb7.mono HB6.out.size))
                    clear hb7 hc7 fz
                    have hos := own_sign B (u, v)
                    obtain ⟨o2, ho2⟩ : ∃ o2, ownI B (u, v) = o2 := ⟨_, rfl⟩
                    rw [ho2] at hos ⊢
                    clear ho2
                    rcases hos with ⟨hos1, hos2⟩ | ⟨hos1, hos2⟩
                    · have HOS := Lib.hid hos1
                      clear hos1
                      have HFY : Hid (f (u, v) = true) := Lib.hid (by rw [HFU.out]; rw [HOS.out]; simp)
                      have HBA := Lib.hid (bar8 (.int .i64 u) (.int .i64 v) (.bool true) HC7.out)
                      have HBB := Lib.hid (((HB7.out.setCell (p := ⟨w4.heap.size, 5, none⟩) (Nat.le_refl _) (.int .i64 u)).setCell (p := ⟨w4.heap.size, 6, none⟩) (Nat.le_refl _) (.int .i64 v)).setCell (p := ⟨w4.heap.size, 7, none⟩) (Nat.le_refl _) (.bool true))
                      go_wp2_with fail
                      go_roundw
                      case rel => exact ⟨l + 1, u, v, true, by have := HBD.out; have := HV.out; omega, by have := HV.out; simp; omega, by rw [HT.out, ← List.append_assoc]; rw [show (((x, y, a, b) : R4).1 + (k : Int), ((x, y, a, b) : R4).2.1 + (l : Int)) = (u, v) from by rw [← HU.out, ← HV.out]]; exact HFS2.out.yes HFY.out, HBA.out, HBB.out⟩
                      case measure => have := HV.out; simp [intOf]; omega
                    · have HFN : Hid (f (u, v) = false) := Lib.hid (by rw [HFU.out, hos1]; rw [HCC.out]; simp)
                      clear hos1
                      go_wp2_with fail
                      go_roundw
                      case rel => exact ⟨l + 1, p, q, false, by have := HBD.out; have := HV.out; omega, by have := HV.out; simp; omega, by rw [HT.out, ← List.append_assoc]; rw [show (((x, y, a, b) : R4).1 + (k : Int), ((x, y, a, b) : R4).2.1 + (l : Int)) = (u, v) from by rw [← HU.out, ← HV.out]]; exact HFS2.out.no HFN.out, HC7.out, HB7.out⟩
                      case measure => have := HV.out; simp [intOf]; omega
                  | true =>
                    by_cases e1 : u = x
                    · have n1 : (u != x) = false := by simpa using e1
                      have HE1 := Lib.hid e1
                      clear e1
                      by_cases e2 : v = y
                      · have n2 : (v != y) = false := by simpa using e2
                        have HE2 := Lib.hid e2
                        clear e2
                        go_wp2_with fail
                        refine (HOWN.out u v HUV.out _ (HRF.out.later (HB4.out.trans (HB6.out.mono HB4.out.size)))).mono ?_
                        rintro e w7 ⟨rfl, hb7⟩
                        have hc7 := (hb7.block _ (Array.getElem?_eq_some_iff.1 HC6.out).1).trans HC6.out
                        obtain ⟨d0, d1, d2, d3, d4, d5, d6, d7⟩ := cell8 hc7
                        have fz := frozen8 hc7
                        have fz5 := fz 5
                        have fz6 := fz 6
                        have fz7 := fz 7
                        have HC7 := Lib.hid hc7
                        have HB7 := Lib.hid (HB6.out.trans (hb7.mono HB6.out.size))
                        clear hb7 hc7 fz
                        have hos := own_sign B (u, v)
                        obtain ⟨o2, ho2⟩ : ∃ o2, ownI B (u, v) = o2 := ⟨_, rfl⟩
                        rw [ho2] at hos ⊢
                        clear ho2
                        rcases hos with ⟨hos1, hos2⟩ | ⟨hos1, hos2⟩
                        · have HOS := Lib.hid hos1
                          clear hos1
                          have HFY : Hid (f (u, v) = true) := Lib.hid (by rw [HFU.out]; rw [HOS.out]; simp)
                          have HBA := Lib.hid (bar8 (.int .i64 u) (.int .i64 v) (.bool true) HC7.out)
                          have HBB := Lib.hid (((HB7.out.setCell (p := ⟨w4.heap.size, 5, none⟩) (Nat.le_refl _) (.int .i64 u)).setCell (p := ⟨w4.heap.size, 6, none⟩) (Nat.le_refl _) (.int .i64 v)).setCell (p := ⟨w4.heap.size, 7, none⟩) (Nat.le_refl _) (.bool true))
                          go_wp2_with fail
                          go_roundw
                          case rel => exact ⟨l + 1, u, v, true, by have := HBD.out; have := HV.out; omega, by have := HV.out; simp; omega, by rw [HT.out, ← List.append_assoc]; rw [show (((x, y, a, b) : R4).1 + (k : Int), ((x, y, a, b) : R4).2.1 + (l : Int)) = (u, v) from by rw [← HU.out, ← HV.out]]; exact HFS2.out.yes HFY.out, HBA.out, HBB.out⟩
                          case measure => have := HV.out; simp [intOf]; omega
                        · have HFN : Hid (f (u, v) = false) := Lib.hid (by rw [HFU.out, hos1]; simp [HE1.out, HE2.out])
                          clear hos1
                          go_wp2_with fail
                          go_roundw
                          case rel => exact ⟨l + 1, p, q, false, by have := HBD.out; have := HV.out; omega, by have := HV.out; simp; omega, by rw [HT.out, ← List.append_assoc]; rw [show (((x, y, a, b) : R4).1 + (k : Int), ((x, y, a, b) : R4).2.1 + (l : Int)) = (u, v) from by rw [← HU.out, ← HV.out]]; exact HFS2.out.no HFN.out, HC7.out, HB7.out⟩
                          case measure => have := HV.out; simp [intOf]; omega
                      · have n2 : (v != y) = true := by simpa using e2
                        have HE2 := Lib.hid e2
                        clear e2
                        have HFY : Hid (f (u, v) = true) := Lib.hid (by rw [HFU.out]; rw [HCC.out]; simp [HE2.out])
                        have HBA := Lib.hid (bar8 (.int .i64 u) (.int .i64 v) (.bool true) HC6.out)
                        have HBB := Lib.hid (((HB6.out.setCell (p := ⟨w4.heap.size, 5, none⟩) (Nat.le_refl _) (.int .i64 u)).setCell (p := ⟨w4.heap.size, 6, none⟩) (Nat.le_refl _) (.int .i64 v)).setCell (p := ⟨w4.heap.size, 7, none⟩) (Nat.le_refl _) (.bool true))
                        go_wp2_with fail
                        go_roundw
                        case rel => exact ⟨l + 1, u, v, true, by have := HBD.out; have := HV.out; omega, by have := HV.out; simp; omega, by rw [HT.out, ← List.append_assoc]; rw [show (((x, y, a, b) : R4).1 + (k : Int), ((x, y, a, b) : R4).2.1 + (l : Int)) = (u, v) from by rw [← HU.out, ← HV.out]]; exact HFS2.out.yes HFY.out, HBA.out, HBB.out⟩
                        case measure => have := HV.out; simp [intOf]; omega
                    · have n1 : (u != x) = true := by simpa using e1
                      have HE1 := Lib.hid e1
                      clear e1
                      have HFY : Hid (f (u, v) = true) := Lib.hid (by rw [HFU.out]; rw [HCC.out]; simp [HE1.out])
                      have HBA := Lib.hid (bar8 (.int .i64 u) (.int .i64 v) (.bool true) HC6.out)
                      have HBB := Lib.hid (((HB6.out.setCell (p := ⟨w4.heap.size, 5, none⟩) (Nat.le_refl _) (.int .i64 u)).setCell (p := ⟨w4.heap.size, 6, none⟩) (Nat.le_refl _) (.int .i64 v)).setCell (p := ⟨w4.heap.size, 7, none⟩) (Nat.le_refl _) (.bool true))
                      go_wp2_with fail
                      go_roundw
                      case rel => exact ⟨l + 1, u, v, true, by have := HBD.out; have := HV.out; omega, by have := HV.out; simp; omega, by rw [HT.out, ← List.append_assoc]; rw [show (((x, y, a, b) : R4).1 + (k : Int), ((x, y, a, b) : R4).2.1 + (l : Int)) = (u, v) from by rw [← HU.out, ← HV.out]]; exact HFS2.out.yes HFY.out, HBA.out, HBB.out⟩
                      case measure => have := HV.out; simp [intOf]; omega
              · have HFM : Hid (Fst f (Rr (k + 1)) p q hb) := Lib.hid (by
                  have hll : l = b.toNat := by have := HBD.out; have := HV.out; omega
                  rw [HS.out]
                  show Fst f (Rr k ++ Tr k b.toNat) p q hb
                  rw [← hll]
                  exact HFS2.out)
                cases hb with
                | true =>
                  go_wp2_with fail
                  go_roundw
                  case rel => exact ⟨k + 1, p, q, true, by have := HBD.out; have := HU.out; omega, by have := HU.out; simp; omega, HFM.out, HCELL.out, HBW.out⟩
                  case measure => have := HU.out; simp [intOf]; omega
                | false =>
                  go_wp2_with fail
                  go_roundw
                  case rel => exact ⟨k + 1, p, q, false, by have := HBD.out; have := HU.out; omega, by have := HU.out; simp; omega, HFM.out, HCELL.out, HBW.out⟩
                  case measure => have := HU.out; simp [intOf]; omega
        · obtain rfl : k = a.toNat := by have := HBD.out; have := HU.out; omega
          cases hb with
          | true =>
            have HJ : Hid (judF B (x, y, a, b) = ⟨(x, y, a, b), false, (p, q), true⟩) := Lib.hid (by
              have h1 := HJF.out p q true a.toNat HFS.out (fun h => by rw [HBEY.out] at h; cases h) (fun _ h => by cases h) (Nat.le_refl _)
              rw [HBEY.out] at h1
              exact h1)
            have HWS := Lib.hid (And.intro (std8 (.bool false) HCELL.out) (HBW.out.setCell (p := ⟨w4.heap.size, 4, none⟩) (Nat.le_refl _) (.bool false)))
            obtain ⟨WS, hWS⟩ : ∃ WS, wr.setCell ⟨w4.heap.size, 4, none⟩ (.bool false) = WS := ⟨_, rfl⟩
            rw [hWS] at HWS
            have HWE := Lib.hid hWS
            have hbS := HWS.out.2
            have HSC := Lib.hid HWS.out.1
            have hs0 := (hbS.block _ (Array.getElem?_eq_some_iff.1 HY0.out).1).trans HY0.out
            have hs1 := (hbS.block _ (Array.getElem?_eq_some_iff.1 HY1.out).1).trans HY1.out
            have hszS : w4.heap.size ≤ WS.heap.size := hbS.size
            obtain ⟨n0, n1, n2, n3, _⟩ := box4 hs0
            obtain ⟨m0, m1, m2, m3, m4, m5, m6, m7⟩ := cell8 HSC.out
            have HRS := Lib.hid (HRF.out.later (HB4.out.trans (hbS.mono HB4.out.size)))
            have HRW2 : Hid (WS.ownsRow 0 42 8 (.slice Al ln cl) ln (flat8 B.l)) := Lib.hid (by have := HRS.out.row; rw [HLN.out] at this; exact this)
            have HNIL : Hid (WS.ownsRow WS.heap.size 42 8 (.slice none 0 0) 0 []) := Lib.hid ⟨rfl, .inl ⟨rfl, rfl⟩⟩
            have HBS := Lib.hid (HB4.out.trans (hbS.mono HB4.out.size))
            clear HY0 HY1
            have HY0 := Lib.hid hs0
            have HY1 := Lib.hid hs1
            clear hWS hbS hs0 hs1 HWS
            rcases Classical.em (Al = none) with he | he
            · have hWS := HWE.out
              subst he
              have hF0 : ln = 0 ∧ cl = 0 := by
                rcases HRW2.out.2 with ⟨h1, h2⟩ | ⟨g, cap, cur, h1, _⟩
                · simp only [Value.slice.injEq, true_and] at h1
                  exact ⟨h2, h1.2⟩
                · cases h1
              obtain ⟨rfl, rfl⟩ := hF0
              have HO1 : Hid (WS.ownsRow WS.heap.size 42 8 (.slice none 0 0) 0 (flat8 B.l)) := Lib.hid (by have h1 := HLN.out; rw [List.eq_nil_of_length_eq_zero h1]; exact HNIL.out)
              have HB3 : Hid (Below WS.heap.size WS WS) := Lib.hid (Below.refl _ _)
              have HS3 : Hid (WS.heap.size ≤ WS.heap.size) := Lib.hid (Nat.le_refl _)
              go_wp2_with (first
                | (at_builtin; (refine wpList_append_own_none _ rfl _ _ 27 rfl WS.heap.size 42 i0 8 Try.underlying27 hj _ 0 [] rfl HNIL.out rfl ?_))
                | (at_builtin; go_loud (refine wpList_append_own _ rfl _ _ 27 rfl WS.heap.size 42 i0 (.agg #[.int .i64 0, .int .i64 0, .int .i64 0, .int .i64 0, .bool false, .int .i64 0, .int .i64 0, .bool false]) 8 64 Try.underlying27 hj hj0 hj1 hj2 rfl (by decide) _ _ _ rfl (rowG_later HO1.out ((Below.refl _ _).alloc (Nat.le_refl _) _)) ⟨WS.heap.size, 0, none⟩ 1 1 [.int .i64 x, .int .i64 y, .int .i64 a, .int .i64 b, .bool false, .int .i64 p, .int .i64 q, .bool true] rfl rfl (lit42 rfl) (one_lit8 ⟨(x, y, a, b), false, (p, q), true⟩) (by unfold maxLen; omega) (by omega) (by have := HS3.out; first | (simp; done) | (simp; omega)) ?_; intro v2 w9 hown2 hgrow2 hnil2; obtain ⟨A2, c2, rfl⟩ := own_shape hown2; have hb4 : Below WS.heap.size WS w9 := (HB3.out.alloc HS3.out _).grown hgrow2 (by have := HS3.out; first | (simp; done) | (simp; omega)) (fun j e => (rowG_lt HO1.out e).2); have hx0 := (hb4.block _ (Array.getElem?_eq_some_iff.1 HY0.out).1).trans HY0.out; have hx1 := (hb4.block _ (Array.getElem?_eq_some_iff.1 HY1.out).1).trans HY1.out; obtain ⟨_, _, _, s3, s5⟩ := box4 hx0; have s6 := s5 3; have hy0 := set_three (.slice A2 (1) c2) hx0; have hy1 := set_far (g := w.heap.size) (i := 3) (.slice A2 (1) c2) (show w.heap.size + 1 ≠ w.heap.size by omega) hx1; obtain ⟨u0, u1, u2, u3, _⟩ := box4 hy0; obtain ⟨v0, v1, v2, v3, v4⟩ := box4 hy1; have e0 := v4 0; have e1 := v4 1; have e2 := v4 2; have e3 := v4 3; have HY1' := Lib.hid hy1; have HO2 := Lib.hid hown2; have HB9 := Lib.hid hb4; clear hown2 hgrow2 hnil2 hb4 hx0 hx1 s5 hy0 hy1 v4)))
              have hfin := set4 (.int .i64 br) (.int .i64 bc) (.slice Af fl cf) (.slice A2 (1) c2) HY1'.out
              obtain ⟨r0, r1, r2, r3, _⟩ := box4 hfin
              have hbf := below4 (.int .i64 br) (.int .i64 bc) (.slice Af fl cf) (.slice A2 (1) c2) (g := w.heap.size + 1) (((HBS.out.trans (HB9.out.mono HBS.out.size)).setCell (p := ⟨w.heap.size, 3, none⟩) (Nat.le_refl _) (.slice A2 (1) c2))) (by omega)
              have hown9 := rowG_kept (w' := ((((w9.setCell ⟨w.heap.size, 3, none⟩ (.slice A2 (1) c2)).setCell ⟨w.heap.size + 1, 0, none⟩ (.int .i64 br)).setCell ⟨w.heap.size + 1, 1, none⟩ (.int .i64 bc)).setCell ⟨w.heap.size + 1, 2, none⟩ (.slice Af fl cf)).setCell ⟨w.heap.size + 1, 3, none⟩ (.slice A2 (1) c2)) HO2.out (fun g hg => by
                have h1 := (rowG_lt HO2.out hg).2
                have h2 : g ≠ w.heap.size + 1 := by omega
                exact (Below.heap_setCell _ _ _ _ h2).trans ((Below.heap_setCell _ _ _ _ h2).trans ((Below.heap_setCell _ _ _ _ h2).trans ((Below.heap_setCell _ _ _ _ h2).trans (Below.heap_setCell _ _ _ _ (show g ≠ w.heap.size by omega))))))
              rw [← HR2.out]
              refine bodyPost_ret (v := .tuple #[.agg #[.int .i64 br, .int .i64 bc, .slice Af fl cf, .slice A2 (1) c2], .int .i64 0]) (by simp [results, Try.f14, go_sem, r0, r1, r2, r3]) rfl ⟨.slice A2 (1) c2, by rw [HER.out.1, HBR.out.1, HBR.out.2], ?_, hbf⟩
              rw [HER.out.2]
              have hrr := HRF.out.later hbf
              refine ⟨hrr.full.elim fun F hF => ⟨F, hF.1, Nat.le_succ_of_le hF.2.1, hF.2.2⟩, ?_, ?_⟩
              · show World.ownsRow _ 0 42 8 _ (B.l ++ [judF B (x, y, a, b)]).length (flat8 (B.l ++ [judF B (x, y, a, b)]))
                rw [HJ.out, flat8_app, List.length_append, HLN.out]
                exact rowG_base hown9 (Nat.zero_le _)
              · show (B.l ++ [judF B (x, y, a, b)]).length ≤ n + 1
                rw [List.length_append, HLN.out]
                first | (simp; done) | (simp; omega)
            · have hWS := HWE.out
              obtain ⟨ad, had⟩ : ∃ ad, Al = some ad := Option.ne_none_iff_exists'.1 he
              subst had
              clear he
              go_wp2_with (first
                | (at_builtin; (refine wpList_append_own _ rfl _ _ 27 rfl WS.heap.size 42 i0 (.agg #[.int .i64 0, .int .i64 0, .int .i64 0, .int .i64 0, .bool false, .int .i64 0, .int .i64 0, .bool false]) 8 64 Try.underlying27 hj hj0 hj1 hj2 rfl (by decide) _ _ _ rfl HNIL.out ad ln cl (flat8 B.l) rfl (by rw [flat8_len, HLN.out]) (rowG_cells HRW2.out) (flat8_one _) (by unfold maxLen; omega) (by omega) (Nat.le_refl _) ?_; intro v1 W3 hown1 hgrow1 hnil1; rw [Nat.zero_add, List.nil_append] at hown1; obtain ⟨A1, c1, rfl⟩ := own_shape hown1; have HO1 := Lib.hid hown1; have HB3 : Hid (Below WS.heap.size WS W3) := Lib.hid ((Below.refl _ WS).grown hgrow1 (Nat.le_refl _) (fun j e => by cases e)); have HS3 : Hid (WS.heap.size ≤ W3.heap.size) := Lib.hid hgrow1.size; obtain ⟨m0, m1, m2, m3, m4, m5, m6, m7⟩ := cell8 ((HB3.out.block _ (Array.getElem?_eq_some_iff.1 HSC.out).1).trans HSC.out); clear hown1 hgrow1 hnil1))
                | (at_builtin; go_loud (refine wpList_append_own _ rfl _ _ 27 rfl WS.heap.size 42 i0 (.agg #[.int .i64 0, .int .i64 0, .int .i64 0, .int .i64 0, .bool false, .int .i64 0, .int .i64 0, .bool false]) 8 64 Try.underlying27 hj hj0 hj1 hj2 rfl (by decide) _ _ _ rfl (rowG_later HO1.out ((Below.refl _ _).alloc (Nat.le_refl _) _)) ⟨W3.heap.size, 0, none⟩ 1 1 [.int .i64 x, .int .i64 y, .int .i64 a, .int .i64 b, .bool false, .int .i64 p, .int .i64 q, .bool true] rfl rfl (lit42 rfl) (one_lit8 ⟨(x, y, a, b), false, (p, q), true⟩) (by unfold maxLen; omega) (by omega) (by have := HS3.out; first | (simp; done) | (simp; omega)) ?_; intro v2 w9 hown2 hgrow2 hnil2; obtain ⟨A2, c2, rfl⟩ := own_shape hown2; have hb4 : Below WS.heap.size WS w9 := (HB3.out.alloc HS3.out _).grown hgrow2 (by have := HS3.out; first | (simp; done) | (simp; omega)) (fun j e => (rowG_lt HO1.out e).2); have hx0 := (hb4.block _ (Array.getElem?_eq_some_iff.1 HY0.out).1).trans HY0.out; have hx1 := (hb4.block _ (Array.getElem?_eq_some_iff.1 HY1.out).1).trans HY1.out; obtain ⟨_, _, _, s3, s5⟩ := box4 hx0; have s6 := s5 3; have hy0 := set_three (.slice A2 (ln + 1) c2) hx0; have hy1 := set_far (g := w.heap.size) (i := 3) (.slice A2 (ln + 1) c2) (show w.heap.size + 1 ≠ w.heap.size by omega) hx1; obtain ⟨u0, u1, u2, u3, _⟩ := box4 hy0; obtain ⟨v0, v1, v2, v3, v4⟩ := box4 hy1; have e0 := v4 0; have e1 := v4 1; have e2 := v4 2; have e3 := v4 3; have HY1' := Lib.hid hy1; have HO2 := Lib.hid hown2; have HB9 := Lib.hid hb4; clear hown2 hgrow2 hnil2 hb4 hx0 hx1 s5 hy0 hy1 v4)))
              have hfin := set4 (.int .i64 br) (.int .i64 bc) (.slice Af fl cf) (.slice A2 (ln + 1) c2) HY1'.out
              obtain ⟨r0, r1, r2, r3, _⟩ := box4 hfin
              have hbf := below4 (.int .i64 br) (.int .i64 bc) (.slice Af fl cf) (.slice A2 (ln + 1) c2) (g := w.heap.size + 1) (((HBS.out.trans (HB9.out.mono HBS.out.size)).setCell (p := ⟨w.heap.size, 3, none⟩) (Nat.le_refl _) (.slice A2 (ln + 1) c2))) (by omega)
              have hown9 := rowG_kept (w' := ((((w9.setCell ⟨w.heap.size, 3, none⟩ (.slice A2 (ln + 1) c2)).setCell ⟨w.heap.size + 1, 0, none⟩ (.int .i64 br)).setCell ⟨w.heap.size + 1, 1, none⟩ (.int .i64 bc)).setCell ⟨w.heap.size + 1, 2, none⟩ (.slice Af fl cf)).setCell ⟨w.heap.size + 1, 3, none⟩ (.slice A2 (ln + 1) c2)) HO2.out (fun g hg => by
                have h1 := (rowG_lt HO2.out hg).2
                have h2 : g ≠ w.heap.size + 1 := by omega
                exact (Below.heap_setCell _ _ _ _ h2).trans ((Below.heap_setCell _ _ _ _ h2).trans ((Below.heap_setCell _ _ _ _ h2).trans ((Below.heap_setCell _ _ _ _ h2).trans (Below.heap_setCell _ _ _ _ (show g ≠ w.heap.size by omega))))))
              rw [← HR2.out]
              refine bodyPost_ret (v := .tuple #[.agg #[.int .i64 br, .int .i64 bc, .slice Af fl cf, .slice A2 (ln + 1) c2], .int .i64 0]) (by simp [results, Try.f14, go_sem, r0, r1, r2, r3]) rfl ⟨.slice A2 (ln + 1) c2, by rw [HER.out.1, HBR.out.1, HBR.out.2], ?_, hbf⟩
              rw [HER.out.2]
              have hrr := HRF.out.later hbf
              refine ⟨hrr.full.elim fun F hF => ⟨F, hF.1, Nat.le_succ_of_le hF.2.1, hF.2.2⟩, ?_, ?_⟩
              · show World.ownsRow _ 0 42 8 _ (B.l ++ [judF B (x, y, a, b)]).length (flat8 (B.l ++ [judF B (x, y, a, b)]))
                rw [HJ.out, flat8_app, List.length_append, HLN.out]
                exact rowG_base hown9 (Nat.zero_le _)
              · show (B.l ++ [judF B (x, y, a, b)]).length ≤ n + 1
                rw [List.length_append, HLN.out]
                first | (simp; done) | (simp; omega)
          | false =>
            have HJ : Hid (judF B (x, y, a, b) = ⟨(x, y, a, b), true, (p, q), false⟩) := Lib.hid (by
              have h1 := HJF.out p q false a.toNat HFS.out (fun h => by rw [HBEY.out] at h; cases h) (fun _ _ => rfl) (Nat.le_refl _)
              rw [HBEY.out] at h1
              exact h1)
            have HWS := Lib.hid (And.intro (std8 (.bool true) HCELL.out) (HBW.out.setCell (p := ⟨w4.heap.size, 4, none⟩) (Nat.le_refl _) (.bool true)))
            obtain ⟨WS, hWS⟩ : ∃ WS, wr.setCell ⟨w4.heap.size, 4, none⟩ (.bool true) = WS := ⟨_, rfl⟩
            rw [hWS] at HWS
            have HWE := Lib.hid hWS
            have hbS := HWS.out.2
            have HSC := Lib.hid HWS.out.1
            have hs0 := (hbS.block _ (Array.getElem?_eq_some_iff.1 HY0.out).1).trans HY0.out
            have hs1 := (hbS.block _ (Array.getElem?_eq_some_iff.1 HY1.out).1).trans HY1.out
            have hszS : w4.heap.size ≤ WS.heap.size := hbS.size
            obtain ⟨n0, n1, n2, n3, _⟩ := box4 hs0
            obtain ⟨m0, m1, m2, m3, m4, m5, m6, m7⟩ := cell8 HSC.out
            have HRS := Lib.hid (HRF.out.later (HB4.out.trans (hbS.mono HB4.out.size)))
            have HRW2 : Hid (WS.ownsRow 0 42 8 (.slice Al ln cl) ln (flat8 B.l)) := Lib.hid (by have := HRS.out.row; rw [HLN.out] at this; exact this)
            have HNIL : Hid (WS.ownsRow WS.heap.size 42 8 (.slice none 0 0) 0 []) := Lib.hid ⟨rfl, .inl ⟨rfl, rfl⟩⟩
            have HBS := Lib.hid (HB4.out.trans (hbS.mono HB4.out.size))
            clear HY0 HY1
            have HY0 := Lib.hid hs0
            have HY1 := Lib.hid hs1
            clear hWS hbS hs0 hs1 HWS
            rcases Classical.em (Al = none) with he | he
            · have hWS := HWE.out
              subst he
              have hF0 : ln = 0 ∧ cl = 0 := by
                rcases HRW2.out.2 with ⟨h1, h2⟩ | ⟨g, cap, cur, h1, _⟩
                · simp only [Value.slice.injEq, true_and] at h1
                  exact ⟨h2, h1.2⟩
                · cases h1
              obtain ⟨rfl, rfl⟩ := hF0
              have HO1 : Hid (WS.ownsRow WS.heap.size 42 8 (.slice none 0 0) 0 (flat8 B.l)) := Lib.hid (by have h1 := HLN.out; rw [List.eq_nil_of_length_eq_zero h1]; exact HNIL.out)
              have HB3 : Hid (Below WS.heap.size WS WS) := Lib.hid (Below.refl _ _)
              have HS3 : Hid (WS.heap.size ≤ WS.heap.size) := Lib.hid (Nat.le_refl _)
              go_wp2_with (first
                | (at_builtin; (refine wpList_append_own_none _ rfl _ _ 27 rfl WS.heap.size 42 i0 8 Try.underlying27 hj _ 0 [] rfl HNIL.out rfl ?_))
                | (at_builtin; go_loud (refine wpList_append_own _ rfl _ _ 27 rfl WS.heap.size 42 i0 (.agg #[.int .i64 0, .int .i64 0, .int .i64 0, .int .i64 0, .bool false, .int .i64 0, .int .i64 0, .bool false]) 8 64 Try.underlying27 hj hj0 hj1 hj2 rfl (by decide) _ _ _ rfl (rowG_later HO1.out ((Below.refl _ _).alloc (Nat.le_refl _) _)) ⟨WS.heap.size, 0, none⟩ 1 1 [.int .i64 x, .int .i64 y, .int .i64 a, .int .i64 b, .bool true, .int .i64 p, .int .i64 q, .bool false] rfl rfl (lit42 rfl) (one_lit8 ⟨(x, y, a, b), true, (p, q), false⟩) (by unfold maxLen; omega) (by omega) (by have := HS3.out; first | (simp; done) | (simp; omega)) ?_; intro v2 w9 hown2 hgrow2 hnil2; obtain ⟨A2, c2, rfl⟩ := own_shape hown2; have hb4 : Below WS.heap.size WS w9 := (HB3.out.alloc HS3.out _).grown hgrow2 (by have := HS3.out; first | (simp; done) | (simp; omega)) (fun j e => (rowG_lt HO1.out e).2); have hx0 := (hb4.block _ (Array.getElem?_eq_some_iff.1 HY0.out).1).trans HY0.out; have hx1 := (hb4.block _ (Array.getElem?_eq_some_iff.1 HY1.out).1).trans HY1.out; obtain ⟨_, _, _, s3, s5⟩ := box4 hx0; have s6 := s5 3; have hy0 := set_three (.slice A2 (1) c2) hx0; have hy1 := set_far (g := w.heap.size) (i := 3) (.slice A2 (1) c2) (show w.heap.size + 1 ≠ w.heap.size by omega) hx1; obtain ⟨u0, u1, u2, u3, _⟩ := box4 hy0; obtain ⟨v0, v1, v2, v3, v4⟩ := box4 hy1; have e0 := v4 0; have e1 := v4 1; have e2 := v4 2; have e3 := v4 3; have HY1' := Lib.hid hy1; have HO2 := Lib.hid hown2; have HB9 := Lib.hid hb4; clear hown2 hgrow2 hnil2 hb4 hx0 hx1 s5 hy0 hy1 v4)))
              have hfin := set4 (.int .i64 br) (.int .i64 bc) (.slice Af fl cf) (.slice A2 (1) c2) HY1'.out
              obtain ⟨r0, r1, r2, r3, _⟩ := box4 hfin
              have hbf := below4 (.int .i64 br) (.int .i64 bc) (.slice Af fl cf) (.slice A2 (1) c2) (g := w.heap.size + 1) (((HBS.out.trans (HB9.out.mono HBS.out.size)).setCell (p := ⟨w.heap.size, 3, none⟩) (Nat.le_refl _) (.slice A2 (1) c2))) (by omega)
              have hown9 := rowG_kept (w' := ((((w9.setCell ⟨w.heap.size, 3, none⟩ (.slice A2 (1) c2)).setCell ⟨w.heap.size + 1, 0, none⟩ (.int .i64 br)).setCell ⟨w.heap.size + 1, 1, none⟩ (.int .i64 bc)).setCell ⟨w.heap.size + 1, 2, none⟩ (.slice Af fl cf)).setCell ⟨w.heap.size + 1, 3, none⟩ (.slice A2 (1) c2)) HO2.out (fun g hg => by
                have h1 := (rowG_lt HO2.out hg).2
                have h2 : g ≠ w.heap.size + 1 := by omega
                exact (Below.heap_setCell _ _ _ _ h2).trans ((Below.heap_setCell _ _ _ _ h2).trans ((Below.heap_setCell _ _ _ _ h2).trans ((Below.heap_setCell _ _ _ _ h2).trans (Below.heap_setCell _ _ _ _ (show g ≠ w.heap.size by omega))))))
              rw [← HR2.out]
              refine bodyPost_ret (v := .tuple #[.agg #[.int .i64 br, .int .i64 bc, .slice Af fl cf, .slice A2 (1) c2], .int .i64 0]) (by simp [results, Try.f14, go_sem, r0, r1, r2, r3]) rfl ⟨.slice A2 (1) c2, by rw [HER.out.1, HBR.out.1, HBR.out.2], ?_, hbf⟩
              rw [HER.out.2]
              have hrr := HRF.out.later hbf
              refine ⟨hrr.full.elim fun F hF => ⟨F, hF.1, Nat.le_succ_of_le hF.2.1, hF.2.2⟩, ?_, ?_⟩
              · show World.ownsRow _ 0 42 8 _ (B.l ++ [judF B (x, y, a, b)]).length (flat8 (B.l ++ [judF B (x, y, a, b)]))
                rw [HJ.out, flat8_app, List.length_append, HLN.out]
                exact rowG_base hown9 (Nat.zero_le _)
              · show (B.l ++ [judF B (x, y, a, b)]).length ≤ n + 1
                rw [List.length_append, HLN.out]
                first | (simp; done) | (simp; omega)
            · have hWS := HWE.out
              obtain ⟨ad, had⟩ : ∃ ad, Al = some ad := Option.ne_none_iff_exists'.1 he
              subst had
              clear he
              go_wp2_with (first
                | (at_builtin; (refine wpList_append_own _ rfl _ _ 27 rfl WS.heap.size 42 i0 (.agg #[.int .i64 0, .int .i64 0, .int .i64 0, .int .i64 0, .bool false, .int .i64 0, .int .i64 0, .bool false]) 8 64 Try.underlying27 hj hj0 hj1 hj2 rfl (by decide) _ _ _ rfl HNIL.out ad ln cl (flat8 B.l) rfl (by rw [flat8_len, HLN.out]) (rowG_cells HRW2.out) (flat8_one _) (by unfold maxLen; omega) (by omega) (Nat.le_refl _) ?_; intro v1 W3 hown1 hgrow1 hnil1; rw [Nat.zero_add, List.nil_append] at hown1; obtain ⟨A1, c1, rfl⟩ := own_shape hown1; have HO1 := Lib.hid hown1; have HB3 : Hid (Below WS.heap.size WS W3) := Lib.hid ((Below.refl _ WS).grown hgrow1 (Nat.le_refl _) (fun j e => by cases e)); have HS3 : Hid (WS.heap.size ≤ W3.heap.size) := Lib.hid hgrow1.size; obtain ⟨m0, m1, m2, m3, m4, m5, m6, m7⟩ := cell8 ((HB3.out.block _ (Array.getElem?_eq_some_iff.1 HSC.out).1).trans HSC.out); clear hown1 hgrow1 hnil1))
                | (at_builtin; go_loud (refine wpList_append_own _ rfl _ _ 27 rfl WS.heap.size 42 i0 (.agg #[.int .i64 0, .int .i64 0, .int .i64 0, .int .i64 0, .bool false, .int .i64 0, .int .i64 0, .bool false]) 8 64 Try.underlying27 hj hj0 hj1 hj2 rfl (by decide) _ _ _ rfl (rowG_later HO1.out ((Below.refl _ _).alloc (Nat.le_refl _) _)) ⟨W3.heap.size, 0, none⟩ 1 1 [.int .i64 x, .int .i64 y, .int .i64 a, .int .i64 b, .bool true, .int .i64 p, .int .i64 q, .bool false] rfl rfl (lit42 rfl) (one_lit8 ⟨(x, y, a, b), true, (p, q), false⟩) (by unfold maxLen; omega) (by omega) (by have := HS3.out; first | (simp; done) | (simp; omega)) ?_; intro v2 w9 hown2 hgrow2 hnil2; obtain ⟨A2, c2, rfl⟩ := own_shape hown2; have hb4 : Below WS.heap.size WS w9 := (HB3.out.alloc HS3.out _).grown hgrow2 (by have := HS3.out; first | (simp; done) | (simp; omega)) (fun j e => (rowG_lt HO1.out e).2); have hx0 := (hb4.block _ (Array.getElem?_eq_some_iff.1 HY0.out).1).trans HY0.out; have hx1 := (hb4.block _ (Array.getElem?_eq_some_iff.1 HY1.out).1).trans HY1.out; obtain ⟨_, _, _, s3, s5⟩ := box4 hx0; have s6 := s5 3; have hy0 := set_three (.slice A2 (ln + 1) c2) hx0; have hy1 := set_far (g := w.heap.size) (i := 3) (.slice A2 (ln + 1) c2) (show w.heap.size + 1 ≠ w.heap.size by omega) hx1; obtain ⟨u0, u1, u2, u3, _⟩ := box4 hy0; obtain ⟨v0, v1, v2, v3, v4⟩ := box4 hy1; have e0 := v4 0; have e1 := v4 1; have e2 := v4 2; have e3 := v4 3; have HY1' := Lib.hid hy1; have HO2 := Lib.hid hown2; have HB9 := Lib.hid hb4; clear hown2 hgrow2 hnil2 hb4 hx0 hx1 s5 hy0 hy1 v4)))
              have hfin := set4 (.int .i64 br) (.int .i64 bc) (.slice Af fl cf) (.slice A2 (ln + 1) c2) HY1'.out
              obtain ⟨r0, r1, r2, r3, _⟩ := box4 hfin
              have hbf := below4 (.int .i64 br) (.int .i64 bc) (.slice Af fl cf) (.slice A2 (ln + 1) c2) (g := w.heap.size + 1) (((HBS.out.trans (HB9.out.mono HBS.out.size)).setCell (p := ⟨w.heap.size, 3, none⟩) (Nat.le_refl _) (.slice A2 (ln + 1) c2))) (by omega)
              have hown9 := rowG_kept (w' := ((((w9.setCell ⟨w.heap.size, 3, none⟩ (.slice A2 (ln + 1) c2)).setCell ⟨w.heap.size + 1, 0, none⟩ (.int .i64 br)).setCell ⟨w.heap.size + 1, 1, none⟩ (.int .i64 bc)).setCell ⟨w.heap.size + 1, 2, none⟩ (.slice Af fl cf)).setCell ⟨w.heap.size + 1, 3, none⟩ (.slice A2 (ln + 1) c2)) HO2.out (fun g hg => by
                have h1 := (rowG_lt HO2.out hg).2
                have h2 : g ≠ w.heap.size + 1 := by omega
                exact (Below.heap_setCell _ _ _ _ h2).trans ((Below.heap_setCell _ _ _ _ h2).trans ((Below.heap_setCell _ _ _ _ h2).trans ((Below.heap_setCell _ _ _ _ h2).trans (Below.heap_setCell _ _ _ _ (show g ≠ w.heap.size by omega))))))
              rw [← HR2.out]
              refine bodyPost_ret (v := .tuple #[.agg #[.int .i64 br, .int .i64 bc, .slice Af fl cf, .slice A2 (ln + 1) c2], .int .i64 0]) (by simp [results, Try.f14, go_sem, r0, r1, r2, r3]) rfl ⟨.slice A2 (ln + 1) c2, by rw [HER.out.1, HBR.out.1, HBR.out.2], ?_, hbf⟩
              rw [HER.out.2]
              have hrr := HRF.out.later hbf
              refine ⟨hrr.full.elim fun F hF => ⟨F, hF.1, Nat.le_succ_of_le hF.2.1, hF.2.2⟩, ?_, ?_⟩
              · show World.ownsRow _ 0 42 8 _ (B.l ++ [judF B (x, y, a, b)]).length (flat8 (B.l ++ [judF B (x, y, a, b)]))
                rw [HJ.out, flat8_app, List.length_append, HLN.out]
                exact rowG_base hown9 (Nat.zero_le _)
              · show (B.l ++ [judF B (x, y, a, b)]).length ≤ n + 1
                rw [List.length_append, HLN.out]
                first | (simp; done) | (simp; omega)
end Go.Proofs.Ytdeneogbnmedkaa
