/- Decide. -/
import Derived.Test.YtdeneogbnmedkaaH
namespace Go.Proofs.Ytdeneogbnmedkaa
open Go.RowKit Go.Maps

theorem box2 {w : World} {g t : Nat} {a b : Value} (h : w.heap[g]? = some (.cells #[a, b] t (0, 0))) : w.cell? ⟨g, 0, none⟩ = some a ∧ w.cell? ⟨g, 1, none⟩ = some b := by
  refine ⟨?_, ?_⟩ <;> simp [World.cell?, h]
theorem box_stay {w w' : World} {d n k t : Nat} {f : Pl → Option Value} {cs : Array Value} {fr : Nat × Nat} (hm : MapIs w d n f) (hg : w.grownBy w' (some d)) (hb : w.heap[k]? = some (.cells cs t fr)) : w'.heap[k]? = some (.cells cs t fr) := by
  obtain ⟨es, clock, h⟩ := hm.is_map
  refine (hg.block k (Array.getElem?_eq_some_iff.1 hb).1 (fun e => ?_)).trans hb
  injection e with e
  rw [← e, hb] at h
  cases h
theorem cell_map {w : World} {b n : Nat} {f : Pl → Option Value} (hm : MapIs w b n f) {a : Addr} {v : Value} (ha : w.cell? a = some v) : a.block ≠ b := by
  obtain ⟨es, clock, h⟩ := hm.is_map
  intro e
  unfold World.cell? at ha
  rw [e, h] at ha
  simp at ha
section
variable {w w' w2 w5 : World} {s : Nat} {S T : Nat → Prop} {rows cols : Int} {c o d : Nat} {v : Value} {nc no nd : Nat} {fc fo fd : Pl → Option Value} {la : List Pl}
theorem BrdG.drew (h : BrdG w s S rows cols c o d v nc no nd fc fo fd la) : BrdG w.drew s S rows cols c o d v nc no nd fc fo fd la := ⟨h.blk, h.mc.kept rfl, h.mo.kept rfl, h.md.kept rfl, own_kept h.row (fun _ _ => rfl), h.ins, h.ne⟩
theorem BrdG.foEq {g : Pl → Option Value} (h : BrdG w s S rows cols c o d v nc no nd fc fo fd la) (hg : ∀ p, fo p = g p) : BrdG w s S rows cols c o d v nc no nd fc g fd la := ⟨h.blk, h.mc, h.mo.ext hg, h.md, h.row, h.ins, h.ne⟩
theorem only_box {k t : Nat} {cs : Array Value} {fr : Nat × Nat} {f : Pl → Option Value} {n : Nat} (hm : MapIs w o n f) (hb : w.heap[k]? = some (.cells cs t fr)) : ¬ (k = o ∨ w.heap.size ≤ k) := by
  rintro (rfl | h)
  · obtain ⟨es, clock, h⟩ := hm.is_map
    rw [hb] at h
    cases h
  · have := (Array.getElem?_eq_some_iff.1 hb).1
    omega
theorem only_set {W : World} (s i : Nat) (u : Value) : Only (fun b => b = s) W (W.setCell ⟨s, i, none⟩ u) := ⟨rfl, rfl, rfl, by simp [World.setCell], fun k _ hk => Below.heap_setCell _ _ _ _ (fun e => hk e)⟩
theorem row_more {x y : Int} {gg cap : Nat} (h : BrdG w2 s S rows cols c o d v nc no nd fc fo fd la) (hon : Only S w w2) (hsl : s < w.heap.size)
    (hown : w5.ownsRow 0 73 2 (.slice (some ⟨gg, 0, none⟩) (la.length + 1) cap) (la.length + 1) (flat2 la ++ [.int .i64 x, .int .i64 y])) (hgr : (w2.alloc (.cells #[.int .i64 x, .int .i64 y] 73)).drew.grownBy w5 v.ownBlock) (hat : v.ownBlock = some gg ∨ gg = w2.heap.size + 1) :
    (w5.cell? ⟨s, 5, none⟩ = some v ∧ w5.frozen? ⟨s, 5, none⟩ = false) ∧ BrdG (w5.setCell ⟨s, 5, none⟩ (.slice (some ⟨gg, 0, none⟩) (la.length + 1) cap)) s (fun b => S b ∨ w.heap.size ≤ b) rows cols c o d (.slice (some ⟨gg, 0, none⟩) (la.length + 1) cap) nc no nd fc fo fd (la ++ [(x, y)])
      ∧ Only S w (w5.setCell ⟨s, 5, none⟩ (.slice (some ⟨gg, 0, none⟩) (la.length + 1) cap))
      ∧ ∀ k cs t fr, k ≠ s → t ≠ 73 → w2.heap[k]? = some (.cells cs t fr) → (w5.setCell ⟨s, 5, none⟩ (.slice (some ⟨gg, 0, none⟩) (la.length + 1) cap)).heap[k]? = some (.cells cs t fr) := by
  have hb2 : Below w2.heap.size w2 (w2.alloc (.cells #[.int .i64 x, .int .i64 y] 73)) := (Below.refl _ _).alloc (Nat.le_refl _) _
  have h2 := (h.later hb2).drew
  have hle := hon.size
  have hsg : s ≠ gg := by
    rcases hat with hat | hat
    · intro e
      obtain ⟨_, cur, hc⟩ := own_lt h.row hat
      rw [← e, h.blk] at hc
      injection hc with hc
      injection hc with _ hc
      cases hc
    · omega
  have hown' : w5.ownsRow 0 73 2 (.slice (some ⟨gg, 0, none⟩) (la.length + 1) cap) (la ++ [(x, y)]).length (flat2 (la ++ [(x, y)])) := by
    rw [flat2_app, List.length_append]
    exact hown
  obtain ⟨h3, h4⟩ := h2.putRow (T := fun b => S b ∨ w.heap.size ≤ b) (g := gg) hown' hgr rfl (hat.imp id (fun e => .inr (by rw [e]; omega))) (fun b hb => .inl hb) hsg
  have ho1 : Only S w (w2.alloc (.cells #[.int .i64 x, .int .i64 y] 73)).drew := (hon.later hb2).drew
  have ho2 : Only S w w5 := ho1.trans (Only.of_grown hgr) (fun b hb _ => h.ins.2.2.2.2 b hb)
  refine ⟨h3, h4, ho2.trans (only_set s 5 _) (fun b hb _ => by rw [hb]; exact h.ins.1), fun k cs t fr hks ht hk => ?_⟩
  have hkl := (Array.getElem?_eq_some_iff.1 hk).1
  refine (Below.heap_setCell _ _ _ _ (fun e => hks e)).trans (((hgr.block k (by simp [World.drew]; omega) (fun e => ?_))).trans ((hb2.block k hkl).trans hk))
  obtain ⟨_, cur, hc⟩ := own_lt h.row e.symm
  rw [hk] at hc
  injection hc with hc
  injection hc with _ hc
  exact ht hc
end

/-- the owners in the midst of a rect -/
def foK (B : Brd) (L : List Pl) (r : R4) (k : Nat) : Pl → Option Value := fun p => if p ∈ L.take k then some (rcV r) else ownM B p
/-- what lies behind Decide -/
def DecOut (w : World) (s : Nat) (S : Nat → Prop) (m : Nat) (B : Brd) (r : R4) (e : Ending) (w' : World) : Prop :=
  e = .returned (.tuple #[.bool (decR B r), .int .i64 (decE B r)]) ∧ BrdAt w' s (fun b => S b ∨ w.heap.size ≤ b) (m + 1) (decB B r) ∧ Only S w w'
set_option maxRecDepth 100000 in
set_option maxHeartbeats 4000000 in
theorem decide_any {w : World} {s : Nat} {S : Nat → Prop} {m : Nat} {B : Brd} (x y a b : Int) (hwf : Wf (x, y)) (hm : m ≤ 100000) (h : BrdAt w s S m B) :
    Calls Try.prog 15 #[.pointer (some ⟨s, 0, none⟩), .int .i64 x, .int .i64 y, .int .i64 a, .int .i64 b] w (DecOut w s S m B (x, y, a, b)) := by
  obtain ⟨R, hR⟩ : ∃ R, DecOut w s S m B (x, y, a, b) = R := ⟨_, rfl⟩
  rw [hR]
  have HR := Lib.hid hR
  clear hR
  obtain ⟨i0, hj, hj0, hj1, hj2⟩ := info_parts info73
  have hsl : s < w.heap.size := by obtain ⟨_, c, o, d, v, h⟩ := h; exact (Array.getElem?_eq_some_iff.1 h.blk).1
  have hb0 : Below w.heap.size w (w.alloc (.cells #[.int .i64 x, .int .i64 y] 73)) := (Below.refl _ _).alloc (Nat.le_refl _) _
  have hz0 : (w.alloc (.cells #[.int .i64 x, .int .i64 y] 73)).heap[w.heap.size]? = some (.cells #[.int .i64 x, .int .i64 y] 73 (0, 0)) := World.alloc_heap_new w _
  have H1 := Lib.hid (h.later hb0)
  have HWF := Lib.hid hwf
  have hE : decE B (x, y, a, b) = if !(hasP B (x, y) && fitsF a b) then 2 else if !(B.con (x, y)) then 3 else if (decF B.l (x, y)).isSome then 4 else 0 := rfl
  have hstay : decE B (x, y, a, b) ≠ 0 → decR B (x, y, a, b) = false ∧ ∀ W, Below w.heap.size w W → BrdAt W s (fun b => S b ∨ w.heap.size ≤ b) (m + 1) (decB B (x, y, a, b)) ∧ Only S w W := fun hne => by
    refine ⟨by unfold decR; simp [hne], fun W hW => ⟨?_, (Only.of_below hW).mono (fun b h1 h2 => by omega)⟩⟩
    unfold decB
    rw [if_neg hne]
    exact ((h.later hW).mono (by omega)).wider (fun b hb _ => .inl hb)
  have HST := Lib.hid hstay
  have H := Lib.hid h
  obtain ⟨R1, hR1⟩ : ∃ z, hasP B (x, y) = z := ⟨_, rfl⟩
  obtain ⟨R2, hR2⟩ : ∃ z, fitsF a b = z := ⟨_, rfl⟩
  obtain ⟨R3, hR3⟩ : ∃ z, B.con (x, y) = z := ⟨_, rfl⟩
  obtain ⟨R4, hR4⟩ : ∃ z, (decF B.l (x, y)).isSome = z := ⟨_, rfl⟩
  rw [hR1, hR2, hR3, hR4] at hE
  have HE := Lib.hid hE
  have HR1 := Lib.hid hR1
  have HR2 := Lib.hid hR2
  have HR3 := Lib.hid hR3
  have HR4 := Lib.hid hR4
  have HHAS := Lib.hid (fun W (hW : BrdAt W s S m B) => has_any x y hW)
  have HFIT := Lib.hid (fits_any a b)
  rw [hR1] at HHAS
  rw [hR2] at HFIT
  clear hwf h hE hstay hR1 hR2 hR3 hR4
  go_enter Try.func15, Try.ntmps15
  go_wp2_with fail
  obtain ⟨W1, hW1⟩ : ∃ W1, w.alloc (.cells #[.int .i64 x, .int .i64 y] 73) = W1 := ⟨_, rfl⟩
  rw [hW1] at hb0 hz0 H1 ⊢
  have HB1 := Lib.hid hb0
  have HZ1 := Lib.hid hz0
  clear hb0 hz0 hW1
  refine (HHAS.out _ H1.out).mono ?_
  rintro e W2 ⟨rfl, rfl⟩
  cases R1 with
  | false =>
    have hE := HE.out
    simp only [Bool.false_and, Bool.not_false, if_true] at hE
    have hfin := HST.out (by rw [hE]; decide)
    have HEE := Lib.hid (And.intro hE hfin.1)
    have HFIN := Lib.hid (hfin.2 _ HB1.out)
    clear hE hfin
    go_wp2
    rw [← HR.out]
    exact ⟨by rw [HEE.out.1, HEE.out.2]; first | done | rfl, HFIN.out⟩
  | true =>
  go_wp2_with fail
  refine (HFIT.out _).mono ?_
  rintro e W2 ⟨rfl, rfl⟩
  cases R2 with
  | false =>
    have hE := HE.out
    simp only [Bool.and_false, Bool.not_false, if_true] at hE
    have hfin := HST.out (by rw [hE]; decide)
    have HEE := Lib.hid (And.intro hE hfin.1)
    have HFIN := Lib.hid (hfin.2 _ HB1.out)
    clear hE hfin
    go_wp2
    rw [← HR.out]
    exact ⟨by rw [HEE.out.1, HEE.out.2]; first | done | rfl, HFIN.out⟩
  | true =>
  clear HHAS HFIT
  go_wp2_with fail
  obtain ⟨hi, c, o, d, v, hBW⟩ := H1.out
  have lc := (hBW.mc.kept (w' := W2.drew) rfl).look Try.underlying64 (z := .bool false) (Try.zeroValue4 _) HWF.out
  rw [conM_get, HR3.out] at lc
  obtain ⟨_, _, s2, _⟩ := hBW.cells
  obtain ⟨a0, a1⟩ := box2 HZ1.out
  have HBW := Lib.hid hBW
  have HI := Lib.hid hi
  simp only at lc
  clear hBW hi
  refine wp_region_held_drew (S := fun W => W = W2.drew) (by kernel_rfl) rfl (fun hS => ?_)
  refine wpAnyH_take (i := 0) (v := ?v0r4) rfl (by kernel_rfl) (by kernel_rfl) (by kernel_rfl) (fun _ _ _ h => h) (Or.inl ⟨by kernel_rfl, ?h0r4⟩) rfl ?_
  case h0r4 => (rintro w2 rfl; go_simp; try with_reducible rfl)
  refine wpAnyH_take (i := 1) (v := ?v1r4) rfl (by kernel_rfl) (by kernel_rfl) (by kernel_rfl) (fun _ _ _ h => h) (Or.inl ⟨by kernel_rfl, ?h1r4⟩) rfl ?_
  case h1r4 => (rintro w2 rfl; go_simp; try with_reducible rfl)
  refine wpAnyH_take (i := 2) (v := ?v2r4) rfl (by kernel_rfl) (by kernel_rfl) (by kernel_rfl) (fun _ _ _ h => h) (Or.inl ⟨by kernel_rfl, ?h2r4⟩) rfl ?_
  case h2r4 => (rintro w2 rfl; go_simp; try with_reducible rfl)
  refine wpAnyH_take (i := 3) (v := ?v3r4) rfl (by kernel_rfl) (by kernel_rfl) (by kernel_rfl) (fun _ _ _ h => h) (Or.inl ⟨by kernel_rfl, ?h3r4⟩) rfl ?_
  case h3r4 => (rintro w2 rfl; go_simp; try with_reducible rfl)
  refine wpAnyH_take (i := 4) (v := ?v4r4) rfl (by kernel_rfl) (by kernel_rfl) (by kernel_rfl) (fun _ _ _ h => h) (Or.inl ⟨by kernel_rfl, ?h4r4⟩) rfl ?_
  case h4r4 => (rintro w2 rfl; go_simp; try with_reducible rfl)
  refine wpAnyH_take (i := 5) (v := ?v5r4) rfl (by kernel_rfl) (by kernel_rfl) (by kernel_rfl) (fun _ _ _ h => h) (Or.inl ⟨by kernel_rfl, ?h5r4⟩) rfl ?_
  case h5r4 => (rintro w2 rfl; go_simp; try with_reducible rfl)
  refine wpAnyH_take (i := 6) (v := ?v6r4) rfl (by kernel_rfl) (by kernel_rfl) (by kernel_rfl) (fun _ _ _ h => h) (Or.inl ⟨by kernel_rfl, ?h6r4⟩) rfl ?_
  case h6r4 => (rintro w2 rfl; go_simp; try with_reducible rfl)
  refine wpAnyH_take (i := 7) (v := ?v7r4) rfl (by kernel_rfl) (by kernel_rfl) (by kernel_rfl) (fun _ _ _ h => h) (Or.inl ⟨by kernel_rfl, ?h7r4⟩) rfl ?_
  case h7r4 => (rintro w2 rfl; go_simp; try with_reducible rfl)
  refine wpAnyH_done (by kernel_rfl) ?_ _
  go_simp
  clear lc s2 a0 a1
  cases R3 with
  | false =>
    have hE := HE.out
    simp only [Bool.and_true, Bool.not_true, Bool.false_eq_true, if_false, Bool.not_false, if_true] at hE
    have hfin := HST.out (by rw [hE]; decide)
    have HEE := Lib.hid (And.intro hE hfin.1)
    have HFIN := Lib.hid (hfin.2 _ HB1.out.drew)
    clear hE hfin
    go_wp2
    rw [← HR.out]
    exact ⟨by rw [HEE.out.1, HEE.out.2]; first | done | rfl, HFIN.out⟩
  | true =>
  go_wp2_with fail
  have hbd : Below W2.heap.size W2 W2.drew := (Below.refl _ _).drew
  have hdc := decided_any x y HWF.out (H1.out.later hbd)
  obtain ⟨⟨⟨j1, j2, j3, j4⟩, j5, ⟨j6, j7⟩, j8⟩, hD⟩ : ∃ D, dcF B (x, y) = D := ⟨_, rfl⟩
  have hDA : decA B (x, y) = .tuple #[.agg #[.int .i64 j1, .int .i64 j2, .int .i64 j3, .int .i64 j4], .bool j5, .bool R4] := by unfold decA; rw [hD, HR4.out]; rfl
  rw [hDA] at hdc
  refine hdc.mono ?_
  rintro e W3 ⟨rfl, hb3⟩
  have hbW3 : Below W2.heap.size W2 W3 := hbd.trans (hb3.mono hbd.size)
  have hbW4 : Below W2.heap.size W2 (W3.alloc (.cells #[.int .i64 j1, .int .i64 j2, .int .i64 j3, .int .i64 j4] 47)) := hbW3.alloc hbW3.size _
  have HB4 := Lib.hid hbW4
  clear hdc hD hDA hbd hb3 hbW3 hbW4
  cases R4 with
  | true =>
    have hE := HE.out
    simp only [Bool.and_true, Bool.not_true, Bool.false_eq_true, if_false, if_true] at hE
    have hfin := HST.out (by rw [hE]; decide)
    have HEE := Lib.hid (And.intro hE hfin.1)
    have HFIN := Lib.hid (hfin.2 _ (HB1.out.trans (HB4.out.mono HB1.out.size)))
    clear hE hfin
    go_wp2
    rw [← HR.out]
    exact ⟨by rw [HEE.out.1, HEE.out.2]; first | done | rfl, HFIN.out⟩
  | false =>
  have hE := HE.out
  simp only [Bool.and_true, Bool.not_true, Bool.false_eq_true, if_false] at hE
  have HE0 := Lib.hid hE
  have hok : OkR (x, y, a, b) := by
    have h1 := (hasP_iff _ _).1 HR1.out
    have h2 := (fitsF_iff _ _).1 HR2.out
    have h3 := HI.out.r0
    have h4 := HI.out.c0
    unfold OkR
    simp only at h1 ⊢
    omega
  have HOK := Lib.hid hok
  have hj := judged_any (x, y, a, b) hok (H1.out.later HB4.out)
  obtain ⟨⟨jr, st, ⟨p, q⟩, hb⟩, hJ⟩ : ∃ D, judF B (x, y, a, b) = D := ⟨_, rfl⟩
  have hjr := judF_r B (x, y, a, b)
  rw [hJ] at hjr
  simp only at hjr
  subst hjr
  have hANS : decR B (x, y, a, b) = st ∧ decE B (x, y, a, b) = 0 := ⟨by unfold decR; rw [hE, hJ]; rfl, hE⟩
  have HANS := Lib.hid hANS
  have HJ := Lib.hid hJ
  rw [hJ] at hj
  unfold dcV at hj
  simp only at hj
  have HJG := Lib.hid hj
  clear hE hok hj hJ hANS HST HE
  go_wp2_with fail
  refine HJG.out.mono ?_
  rintro e W5 ⟨rfl, hb5⟩
  have hb59 : Below W2.heap.size W2 W5 := HB4.out.trans (hb5.mono HB4.out.size)
  have HB5 := Lib.hid hb59
  have hlen := HBW.out.len
  have hal : (ancs B).length ≤ 100000 := by simp [ancs]; omega
  clear hb5 HJG HB4 hb59
  cases st with
  | false =>
    go_wp2_with fail
    obtain ⟨db, hdbs⟩ : ∃ db, W5.heap.size = db := ⟨_, rfl⟩
    have hbY : Below W2.heap.size W2 (W5.alloc (.cells #[.int .i64 x, .int .i64 y, .int .i64 a, .int .i64 b, .bool false, .int .i64 p, .int .i64 q, .bool hb] 78)) := HB5.out.alloc HB5.out.size _
    have hzY : (W5.alloc (.cells #[.int .i64 x, .int .i64 y, .int .i64 a, .int .i64 b, .bool false, .int .i64 p, .int .i64 q, .bool hb] 78)).heap[db]? = some (.cells #[.int .i64 x, .int .i64 y, .int .i64 a, .int .i64 b, .bool false, .int .i64 p, .int .i64 q, .bool hb] 78 (0, 0)) := by rw [← hdbs]; exact World.alloc_heap_new W5 _
    have hdb : db ≠ s := by have h1 := HB5.out.size; have h3 := HB1.out.size; omega
    rw [hdbs]
    obtain ⟨Y, hY⟩ : ∃ Y, W5.alloc (.cells #[.int .i64 x, .int .i64 y, .int .i64 a, .int .i64 b, .bool false, .int .i64 p, .int .i64 q, .bool hb] 78) = Y := ⟨_, rfl⟩
    rw [hY] at hbY hzY ⊢
    have HBY := Lib.hid hbY
    have HZY := Lib.hid hzY
    have HAY := Lib.hid ((hbY.block w.heap.size (Array.getElem?_eq_some_iff.1 HZ1.out).1).trans HZ1.out)
    clear hbY hzY hY hdbs HB5
    have HG : Hid (BrdG Y s S B.rows B.cols c o d v m (m * 4096) m (conM B) (ownM B) (decM B) (ancs B)) := Lib.hid (HBW.out.later HBY.out).g
    have HON : Hid (Only S w Y) := Lib.hid ((Only.of_below (HB1.out.trans (HBY.out.mono HB1.out.size))).mono (fun b h1 h2 => by omega))
    have HAB := HAY
    have HDB := HZY
    obtain ⟨X2, hrun, hmd, hgro⟩ := (HG.out.drew).md.put (w := Y.drew) Try.underlying66 (by unfold maxLen; omega) HWF.out (.agg #[.int .i64 x, .int .i64 y, .int .i64 a, .int .i64 b, .bool false, .int .i64 p, .int .i64 q, .bool hb])
    simp only at hrun
    obtain ⟨_, _, _, _, s4, _⟩ := HG.out.cells
    obtain ⟨a0, a1⟩ := box2 HAB.out
    obtain ⟨⟨e0, e1, e2, e3⟩, e4, e5, e6, e7, _⟩ := box8 HDB.out
    refine wp_region_K 6 (S := fun W => W = Y.drew) (by kernel_rfl) rfl (fun hS => ?_)
    refine wpK_take (i := 0) (v := ?k0tf) rfl (by kernel_rfl) (by kernel_rfl) (by kernel_rfl) (by kernel_rfl) (fun _ _ _ h => h) (Or.inl ⟨by kernel_rfl, ?g0tf⟩) rfl ?_
    case g0tf => (rintro w9 rfl; go_simp; try with_reducible rfl)
    refine wpK_take (i := 1) (v := ?k1tf) rfl (by kernel_rfl) (by kernel_rfl) (by kernel_rfl) (by kernel_rfl) (fun _ _ _ h => h) (Or.inl ⟨by kernel_rfl, ?g1tf⟩) rfl ?_
    case g1tf => (rintro w9 rfl; go_simp; try with_reducible rfl)
    refine wpK_take (i := 2) (v := ?k2tf) rfl (by kernel_rfl) (by kernel_rfl) (by kernel_rfl) (by kernel_rfl) (fun _ _ _ h => h) (Or.inl ⟨by kernel_rfl, ?g2tf⟩) rfl ?_
    case g2tf => (rintro w9 rfl; go_simp; try with_reducible rfl)
    refine wpK_take (i := 3) (v := ?k3tf) rfl (by kernel_rfl) (by kernel_rfl) (by kernel_rfl) (by kernel_rfl) (fun _ _ _ h => h) (Or.inl ⟨by kernel_rfl, ?g3tf⟩) rfl ?_
    case g3tf => (rintro w9 rfl; go_simp; try with_reducible rfl)
    refine wpK_take (i := 4) (v := ?k4tf) rfl (by kernel_rfl) (by kernel_rfl) (by kernel_rfl) (by kernel_rfl) (fun _ _ _ h => h) (Or.inl ⟨by kernel_rfl, ?g4tf⟩) rfl ?_
    case g4tf => (rintro w9 rfl; go_simp; try with_reducible rfl)
    refine wpK_take (i := 5) (v := ?k5tf) rfl (by kernel_rfl) (by kernel_rfl) (by kernel_rfl) (by kernel_rfl) (fun _ _ _ h => h) (Or.inl ⟨by kernel_rfl, ?g5tf⟩) rfl ?_
    case g5tf => (rintro w9 rfl; go_simp; try with_reducible rfl)
    refine wpK_last (by kernel_rfl) rfl (by kernel_rfl) (fun K hK => ?_)
    go_simp
    refine hK.out _ _ ?_; clear hK K hrun
    have HG2 := Lib.hid (HG.out.drew.putD hgro hmd)
    have HON2 : Hid (Only S w X2) := Lib.hid (HON.out.drew.trans (only_grown hgro HG.out.ins.2.2.2.1) (fun b hb _ => hb))
    have hab2 := box_stay HG.out.drew.md hgro (k := w.heap.size) HAB.out
    have HDB2 := Lib.hid (box_stay HG.out.drew.md hgro (k := db) HDB.out)
    obtain ⟨a0', a1'⟩ := box2 hab2
    obtain ⟨A, c9, rfl⟩ := own_shape HG2.out.row
    have q0 : X2.drew.cell? ⟨s, 5, none⟩ = some (.slice A (ancs B).length c9) := HG2.out.cells.2.2.2.2.2.1
    have q1 : X2.drew.cell? ⟨w.heap.size, 0, none⟩ = some (.int .i64 x) := a0'
    have q2 : X2.drew.cell? ⟨w.heap.size, 1, none⟩ = some (.int .i64 y) := a1'
    have q3 : (X2.alloc (.cells #[.int .i64 x, .int .i64 y] 73)).drew.cell? ⟨s, 5, none⟩ = some (.slice A (ancs B).length c9) := ((HG2.out.later ((Below.refl _ X2).alloc (Nat.le_refl _) _)).cells).2.2.2.2.2.1
    have hrow := HG2.out.row
    clear hgro hmd a0 a1 a0' a1' hab2 s4 e0 e1 e2 e3 e4 e5 e6 e7 hS
    go_wp2_with fail
    go_region_law ((refine step_append_lies _ (by rfl) (.tmp 86) (.tmp 88) 67 (by rfl) 0 73 i0 _ 2 16 Try.underlying67 hj hj0 hj1 hj2 (by rfl) (by omega) (.slice A (ancs B).length c9) (ancs B).length (flat2 (ancs B)) (by rfl) ((hrow.alloc _).drew) (Addr.mk X2.heap.size 0 none) 1 1 [.int .i64 x, .int .i64 y] (by rfl) (by rfl) (World.news_of_block (cs := #[.int .i64 x, .int .i64 y]) (t := 73) (fr := (0, 0)) (World.alloc_heap_new X2 _)) (by simp [Value.oneCell']) (by omega) (by unfold maxLen; omega) (by omega) (by omega) (X2.heap.size + 1) (by show (X2.alloc _).heap.size = _; simp) ?_; intro gg cap w5 hown3 hgrow hat hlt; obtain ⟨⟨hc5, hf5⟩, hG5, hO5, hk5⟩ := row_more HG2.out HON2.out hsl hown3 hgrow hat; have HG5 := Lib.hid hG5; have HO5 := Lib.hid hO5; have e9 := (box8 (hk5 db _ _ _ hdb (by decide) HDB2.out)).2.1; clear hown3 hgrow hat hlt hG5 hO5 hk5))
    all_goals (
      go_wp2
      rw [← HR.out]
      exact ⟨by rw [HANS.out.1, HANS.out.2]; first | done | rfl, dec_end (no := m * 4096) HI.out HE0.out hlen (by omega) rfl (ownM_same (by rw [HJ.out])) (by rw [HJ.out]; exact HG5.out), HO5.out⟩)
  | true =>
    go_wp2_with fail
    obtain ⟨db, hdbs⟩ : ∃ db, W5.heap.size = db := ⟨_, rfl⟩
    have hbY : Below W2.heap.size W2 (W5.alloc (.cells #[.int .i64 x, .int .i64 y, .int .i64 a, .int .i64 b, .bool true, .int .i64 p, .int .i64 q, .bool hb] 78)) := HB5.out.alloc HB5.out.size _
    have hzY : (W5.alloc (.cells #[.int .i64 x, .int .i64 y, .int .i64 a, .int .i64 b, .bool true, .int .i64 p, .int .i64 q, .bool hb] 78)).heap[db]? = some (.cells #[.int .i64 x, .int .i64 y, .int .i64 a, .int .i64 b, .bool true, .int .i64 p, .int .i64 q, .bool hb] 78 (0, 0)) := by rw [← hdbs]; exact World.alloc_heap_new W5 _
    have hdb : db ≠ s := by have h1 := HB5.out.size; have h3 := HB1.out.size; omega
    rw [hdbs]
    obtain ⟨Y, hY⟩ : ∃ Y, W5.alloc (.cells #[.int .i64 x, .int .i64 y, .int .i64 a, .int .i64 b, .bool true, .int .i64 p, .int .i64 q, .bool hb] 78) = Y := ⟨_, rfl⟩
    rw [hY] at hbY hzY ⊢
    have HBY := Lib.hid hbY
    have HZY := Lib.hid hzY
    have HAY := Lib.hid ((hbY.block w.heap.size (Array.getElem?_eq_some_iff.1 HZ1.out).1).trans HZ1.out)
    clear hbY hzY hY hdbs HB5
    have hLn : (cellsF (x, y, a, b)).length ≤ 4096 := by
      have h2 := (fitsF_iff _ _).1 HR2.out
      unfold cellsF
      rw [rowsF_len]
      have h3 : ((a.toNat * b.toNat : Nat) : Int) = a * b := by rw [Int.natCast_mul, Int.toNat_of_nonneg (by omega), Int.toNat_of_nonneg (by omega)]
      show a.toNat * b.toNat ≤ 4096
      omega
    have HFO : Hid (∀ p, foK B (cellsF (x, y, a, b)) (x, y, a, b) (cellsF (x, y, a, b)).length p = ownM (addD B (x, y, a, b)) p) := Lib.hid fun p => by
      unfold foK
      rw [List.take_length]
      exact ownM_add (by rw [HJ.out]) p
    have hca := cells_any (x, y, a, b) HOK.out Y
    have HCW : Hid (∀ (k : Nat) p, (cellsF (x, y, a, b))[k]? = some p → Wf p) := Lib.hid fun k p hp => by
      have h1 := (inR_iff _ _).1 (mem_cells.1 (List.mem_of_getElem? hp))
      have h2 := HOK.out
      unfold OkR at h2
      obtain ⟨p1, p2⟩ := p
      exact wf_of (by simp only at h1 h2; omega) (by simp only at h1 h2; omega)
    obtain ⟨L, hL⟩ : ∃ L, cellsF (x, y, a, b) = L := ⟨_, rfl⟩
    rw [hL] at hLn HFO hca HCW
    simp only at hca
    clear hL
    refine hca.mono ?_
    rintro e W6 ⟨v6, rfl, hown, hb6⟩
    have hp6 := pl_of_own hown
    obtain ⟨A6, c6, rfl, hc6, hI6⟩ := hp6
    have HI6 := Lib.hid hI6
    have HG6 : Hid (BrdG W6 s S B.rows B.cols c o d v m (m * 4096 + 0) m (conM B) (foK B L (x, y, a, b) 0) (decM B) (ancs B)) := Lib.hid ((((HBW.out.later HBY.out).later hb6).g).foEq (fun p => by simp [foK]))
    have HON6 : Hid (Only S w W6) := Lib.hid (((Only.of_below (HB1.out.trans (HBY.out.mono HB1.out.size))).mono (T := S) (fun b h1 h2 => by omega)).later hb6)
    have HA6 := Lib.hid ((hb6.block w.heap.size (Array.getElem?_eq_some_iff.1 HAY.out).1).trans HAY.out)
    have HD6 := Lib.hid ((hb6.block db (Array.getElem?_eq_some_iff.1 HZY.out).1).trans HZY.out)
    clear hca hown hb6 hI6 HAY HZY HBY
    go_wp2_with fail
    go_loopw [64] (fun i wr => ∃ k : Nat, k ≤ L.length ∧ i = .int .i64 k ∧ BrdG wr s S B.rows B.cols c o d v m (m * 4096 + k) m (conM B) (foK B L (x, y, a, b) k) (decM B) (ancs B) ∧ Only (fun g => g = o ∨ W6.heap.size ≤ g) W6 wr) (fun i _ => L.length - (intOf i).toNat)
    case atStart => exact ⟨0, Nat.zero_le _, rfl, HG6.out, Only.refl _ _⟩
    case round =>
      obtain ⟨k, hk, rfl, hg, hO⟩ := hrel
      have HGR := Lib.hid hg
      have HOR := Lib.hid hO
      have HDR := Lib.hid ((hO.block db (Array.getElem?_eq_some_iff.1 HD6.out).1 (only_box HG6.out.mo HD6.out)).trans HD6.out)
      have HAR := Lib.hid ((hO.block w.heap.size (Array.getElem?_eq_some_iff.1 HA6.out).1 (only_box HG6.out.mo HA6.out)).trans HA6.out)
      clear hg
      by_cases hlt : k < L.length
      · have hx : L[k]? = some L[k] := List.getElem?_eq_getElem hlt
        have hd : L.take (k + 1) = L.take k ++ [L[k]] := (List.take_append_getElem hlt).symm
        obtain ⟨e, he⟩ : ∃ e, L[k] = e := ⟨_, rfl⟩
        rw [he] at hx hd
        have HD := Lib.hid hd
        have hwf := HCW.out k e hx
        obtain ⟨ad, rfl, c2, c3⟩ := HI6.out k e hx
        have hza := cell_lt c2
        have hzo := cell_map HG6.out.mo c2
        rw [add_block] at hza hzo
        have hblk := hO.block ad.block hza (fun h => by rcases h with h | h; exact hzo h; omega)
        have c2' : wr.cell? (ad.add (k * 2)) = _ := (World.cell?_of_block (a := ad.add (k * 2)) (by rw [add_block]; exact hblk)).trans c2
        have c3' : wr.cell? ⟨(ad.add (k * 2)).block, (ad.add (k * 2)).off + 1, none⟩ = _ := (World.cell?_of_block (a := ⟨(ad.add (k * 2)).block, (ad.add (k * 2)).off + 1, none⟩) (by simp only [add_block]; exact hblk)).trans c3
        obtain ⟨e1, e2⟩ := e
        simp only at c2' c3'
        have hi0 : (0 : Int) ≤ ↑k := by omega
        have hi1 : (↑k : Int) < ↑L.length := by omega
        have hi2 : (↑L.length : Int) ≤ ↑c6 := by omega
        have hbu : Below wr.heap.size wr (wr.alloc (.cells #[.int .i64 e1, .int .i64 e2] 73)) := (Below.refl _ _).alloc (Nat.le_refl _) _
        have hu1 : (wr.alloc (.cells #[.int .i64 e1, .int .i64 e2] 73)).cell? ⟨wr.heap.size, 0, none⟩ = some (.int .i64 e1) := (World.cell?_alloc_new _ _ _ _).trans rfl
        have hu2 : (wr.alloc (.cells #[.int .i64 e1, .int .i64 e2] 73)).cell? ⟨wr.heap.size, 1, none⟩ = some (.int .i64 e2) := (World.cell?_alloc_new _ _ _ _).trans rfl
        have HGU := Lib.hid (HGR.out.later hbu)
        have HOU := Lib.hid (HOR.out.later hbu)
        obtain ⟨_, _, _, s3, _⟩ := HGU.out.cells
        obtain ⟨⟨d0, d1, d2, d3⟩, _⟩ := box8 ((hbu.block db (Array.getElem?_eq_some_iff.1 HDR.out).1).trans HDR.out)
        obtain ⟨u2, hrun, hmo, hgro⟩ := HGU.out.drew.mo.put (w := (wr.alloc (.cells #[.int .i64 e1, .int .i64 e2] 73)).drew) Try.underlying65 (by unfold maxLen; omega) hwf (.agg #[.int .i64 x, .int .i64 y, .int .i64 a, .int .i64 b])
        have hg2 := (HGU.out.drew.putO hgro hmo).foEq (g := foK B L (x, y, a, b) (k + 1)) (fun p => by
          unfold foK
          rw [HD.out]
          by_cases hp : p = (e1, e2)
          · rw [if_pos hp, if_pos (by simp [hp])]; rfl
          · rw [if_neg hp]
            by_cases hq : p ∈ L.take k
            · rw [if_pos hq, if_pos (by simp [hq])]
            · rw [if_neg hq, if_neg (by simp [hp, hq])])
        have HG2 := Lib.hid hg2
        have HO2 : Hid (Only (fun g => g = o ∨ W6.heap.size ≤ g) W6 u2) := Lib.hid (HOU.out.drew.trans (only_grown (S := fun g => g = o) hgro rfl) (fun b hb _ => .inl hb))
        simp only at hrun
        clear hO hx hd he c2 c3 hza hzo hwf hblk hbu hmo hgro hg2
        go_wp2_with fail
        obtain ⟨u, hu⟩ : ∃ u, wr.alloc (.cells #[.int .i64 e1, .int .i64 e2] 73) = u := ⟨_, rfl⟩
        rw [hu] at hu1 hu2 s3 d0 d1 d2 d3 hrun ⊢
        clear hu c2' c3' HGU HOU
        refine wp_region_K 7 (S := fun W => W = u.drew) (by kernel_rfl) rfl (fun hS => ?_)
        refine wpK_take (i := 0) (v := ?k0tl) rfl (by kernel_rfl) (by kernel_rfl) (by kernel_rfl) (by kernel_rfl) (fun _ _ _ h => h) (Or.inl ⟨by kernel_rfl, ?g0tl⟩) rfl ?_
        case g0tl => (rintro w9 rfl; go_simp; try with_reducible rfl)
        refine wpK_take (i := 1) (v := ?k1tl) rfl (by kernel_rfl) (by kernel_rfl) (by kernel_rfl) (by kernel_rfl) (fun _ _ _ h => h) (Or.inl ⟨by kernel_rfl, ?g1tl⟩) rfl ?_
        case g1tl => (rintro w9 rfl; go_simp; try with_reducible rfl)
        refine wpK_take (i := 2) (v := ?k2tl) rfl (by kernel_rfl) (by kernel_rfl) (by kernel_rfl) (by kernel_rfl) (fun _ _ _ h => h) (Or.inl ⟨by kernel_rfl, ?g2tl⟩) rfl ?_
        case g2tl => (rintro w9 rfl; go_simp; try with_reducible rfl)
        refine wpK_take (i := 3) (v := ?k3tl) rfl (by kernel_rfl) (by kernel_rfl) (by kernel_rfl) (by kernel_rfl) (fun _ _ _ h => h) (Or.inl ⟨by kernel_rfl, ?g3tl⟩) rfl ?_
        case g3tl => (rintro w9 rfl; go_simp; try with_reducible rfl)
        refine wpK_take (i := 4) (v := ?k4tl) rfl (by kernel_rfl) (by kernel_rfl) (by kernel_rfl) (by kernel_rfl) (fun _ _ _ h => h) (Or.inl ⟨by kernel_rfl, ?g4tl⟩) rfl ?_
        case g4tl => (rintro w9 rfl; go_simp; try with_reducible rfl)
        refine wpK_take (i := 5) (v := ?k5tl) rfl (by kernel_rfl) (by kernel_rfl) (by kernel_rfl) (by kernel_rfl) (fun _ _ _ h => h) (Or.inl ⟨by kernel_rfl, ?g5tl⟩) rfl ?_
        case g5tl => (rintro w9 rfl; go_simp; try with_reducible rfl)
        refine wpK_take (i := 6) (v := ?k6tl) rfl (by kernel_rfl) (by kernel_rfl) (by kernel_rfl) (by kernel_rfl) (fun _ _ _ h => h) (Or.inl ⟨by kernel_rfl, ?g6tl⟩) rfl ?_
        case g6tl => (rintro w9 rfl; go_simp; try with_reducible rfl)
        refine wpK_last (by kernel_rfl) rfl (by kernel_rfl) (fun K hK => ?_)
        go_simp
        refine hK.out _ _ ?_; clear hK K hrun hu1 hu2 s3 d0 d1 d2 d3
        go_wp2_with fail
        go_roundw
        case rel => exact ⟨k + 1, by omega, by simp, HG2.out, HO2.out⟩
        case measure => simp [intOf]; omega
      · obtain rfl : k = L.length := by omega
        have hlt2 : ¬ (↑L.length : Int) < ↑L.length := by omega
        have HG := HGR
        have HON : Hid (Only S w wr) := Lib.hid (HON6.out.trans hO (fun b hb hlt => by
          rcases hb with rfl | hb
          · exact HG6.out.ins.2.2.1
          · have := HON6.out.size; omega))
        have HAB := HAR
        have HDB := HDR
        clear hO
        go_wp2_with fail
        obtain ⟨X2, hrun, hmd, hgro⟩ := (HG.out.drew).md.put (w := wr.drew) Try.underlying66 (by unfold maxLen; omega) HWF.out (.agg #[.int .i64 x, .int .i64 y, .int .i64 a, .int .i64 b, .bool true, .int .i64 p, .int .i64 q, .bool hb])
        simp only at hrun
        obtain ⟨_, _, _, _, s4, _⟩ := HG.out.cells
        obtain ⟨a0, a1⟩ := box2 HAB.out
        obtain ⟨⟨e0, e1, e2, e3⟩, e4, e5, e6, e7, _⟩ := box8 HDB.out
        refine wp_region_K 6 (S := fun W => W = wr.drew) (by kernel_rfl) rfl (fun hS => ?_)
        refine wpK_take (i := 0) (v := ?k0tt) rfl (by kernel_rfl) (by kernel_rfl) (by kernel_rfl) (by kernel_rfl) (fun _ _ _ h => h) (Or.inl ⟨by kernel_rfl, ?g0tt⟩) rfl ?_
        case g0tt => (rintro w9 rfl; go_simp; try with_reducible rfl)
        refine wpK_take (i := 1) (v := ?k1tt) rfl (by kernel_rfl) (by kernel_rfl) (by kernel_rfl) (by kernel_rfl) (fun _ _ _ h => h) (Or.inl ⟨by kernel_rfl, ?g1tt⟩) rfl ?_
        case g1tt => (rintro w9 rfl; go_simp; try with_reducible rfl)
        refine wpK_take (i := 2) (v := ?k2tt) rfl (by kernel_rfl) (by kernel_rfl) (by kernel_rfl) (by kernel_rfl) (fun _ _ _ h => h) (Or.inl ⟨by kernel_rfl, ?g2tt⟩) rfl ?_
        case g2tt => (rintro w9 rfl; go_simp; try with_reducible rfl)
        refine wpK_take (i := 3) (v := ?k3tt) rfl (by kernel_rfl) (by kernel_rfl) (by kernel_rfl) (by kernel_rfl) (fun _ _ _ h => h) (Or.inl ⟨by kernel_rfl, ?g3tt⟩) rfl ?_
        case g3tt => (rintro w9 rfl; go_simp; try with_reducible rfl)
        refine wpK_take (i := 4) (v := ?k4tt) rfl (by kernel_rfl) (by kernel_rfl) (by kernel_rfl) (by kernel_rfl) (fun _ _ _ h => h) (Or.inl ⟨by kernel_rfl, ?g4tt⟩) rfl ?_
        case g4tt => (rintro w9 rfl; go_simp; try with_reducible rfl)
        refine wpK_take (i := 5) (v := ?k5tt) rfl (by kernel_rfl) (by kernel_rfl) (by kernel_rfl) (by kernel_rfl) (fun _ _ _ h => h) (Or.inl ⟨by kernel_rfl, ?g5tt⟩) rfl ?_
        case g5tt => (rintro w9 rfl; go_simp; try with_reducible rfl)
        refine wpK_last (by kernel_rfl) rfl (by kernel_rfl) (fun K hK => ?_)
        go_simp
        refine hK.out _ _ ?_; clear hK K hrun
        have HG2 := Lib.hid (HG.out.drew.putD hgro hmd)
        have HON2 : Hid (Only S w X2) := Lib.hid (HON.out.drew.trans (only_grown hgro HG.out.ins.2.2.2.1) (fun b hb _ => hb))
        have hab2 := box_stay HG.out.drew.md hgro (k := w.heap.size) HAB.out
        have HDB2 := Lib.hid (box_stay HG.out.drew.md hgro (k := db) HDB.out)
        obtain ⟨a0', a1'⟩ := box2 hab2
        obtain ⟨A, c9, rfl⟩ := own_shape HG2.out.row
        have q0 : X2.drew.cell? ⟨s, 5, none⟩ = some (.slice A (ancs B).length c9) := HG2.out.cells.2.2.2.2.2.1
        have q1 : X2.drew.cell? ⟨w.heap.size, 0, none⟩ = some (.int .i64 x) := a0'
        have q2 : X2.drew.cell? ⟨w.heap.size, 1, none⟩ = some (.int .i64 y) := a1'
        have q3 : (X2.alloc (.cells #[.int .i64 x, .int .i64 y] 73)).drew.cell? ⟨s, 5, none⟩ = some (.slice A (ancs B).length c9) := ((HG2.out.later ((Below.refl _ X2).alloc (Nat.le_refl _) _)).cells).2.2.2.2.2.1
        have hrow := HG2.out.row
        clear hgro hmd a0 a1 a0' a1' hab2 s4 e0 e1 e2 e3 e4 e5 e6 e7 hS
        go_wp2_with fail
        go_region_law ((refine step_append_lies _ (by rfl) (.tmp 86) (.tmp 88) 67 (by rfl) 0 73 i0 _ 2 16 Try.underlying67 hj hj0 hj1 hj2 (by rfl) (by omega) (.slice A (ancs B).length c9) (ancs B).length (flat2 (ancs B)) (by rfl) ((hrow.alloc _).drew) (Addr.mk X2.heap.size 0 none) 1 1 [.int .i64 x, .int .i64 y] (by rfl) (by rfl) (World.news_of_block (cs := #[.int .i64 x, .int .i64 y]) (t := 73) (fr := (0, 0)) (World.alloc_heap_new X2 _)) (by simp [Value.oneCell']) (by omega) (by unfold maxLen; omega) (by omega) (by omega) (X2.heap.size + 1) (by show (X2.alloc _).heap.size = _; simp) ?_; intro gg cap w5 hown3 hgrow hat hlt; obtain ⟨⟨hc5, hf5⟩, hG5, hO5, hk5⟩ := row_more HG2.out HON2.out hsl hown3 hgrow hat; have HG5 := Lib.hid hG5; have HO5 := Lib.hid hO5; have e9 := (box8 (hk5 db _ _ _ hdb (by decide) HDB2.out)).2.1; clear hown3 hgrow hat hlt hG5 hO5 hk5))
        all_goals (
          go_wp2
          rw [← HR.out]
          exact ⟨by rw [HANS.out.1, HANS.out.2]; first | done | rfl, dec_end (no := m * 4096 + L.length) HI.out HE0.out hlen (by omega) rfl HFO.out (by rw [HJ.out]; exact HG5.out), HO5.out⟩)

end Go.Proofs.Ytdeneogbnmedkaa
