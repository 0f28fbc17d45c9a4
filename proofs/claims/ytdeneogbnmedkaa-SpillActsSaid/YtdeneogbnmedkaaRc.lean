/- The document's New and Fill. -/
import Derived.Test.YtdeneogbnmedkaaRb
namespace Go.Proofs.Ytdeneogbnmedkaa
open Go.RowKit Go.Maps

theorem refV_nil (W : World) (x y : Int) : RefAt W (.slice none 0 0) (.slice none 0 0) (newF x y) 0 :=
  ⟨⟨[], ⟨rfl, .inl ⟨rfl, rfl⟩⟩, Nat.le_refl _, fun p => by simp [newF]⟩, ⟨rfl, .inl ⟨rfl, rfl⟩⟩, Nat.le_refl _⟩
theorem rnew_any (x y : Int) (w : World) :
    Calls Try.prog 11 #[.int .i64 x, .int .i64 y] w fun e w' => e = .returned (.agg #[.int .i64 (newF x y).rows, .int .i64 (newF x y).cols, .slice none 0 0, .slice none 0 0]) ∧ Below w.heap.size w w' := by
  have hx : (newF x y).rows = clampF x := rfl
  have hy : (newF x y).cols = clampF y := rfl
  rw [hx, hy]
  obtain ⟨a, ha⟩ : ∃ a, clampF x = a := ⟨_, rfl⟩
  obtain ⟨b, hb⟩ : ∃ b, clampF y = b := ⟨_, rfl⟩
  have HX := Lib.hid (held_any x)
  have HY := Lib.hid (held_any y)
  rw [ha] at HX ⊢
  rw [hb] at HY ⊢
  clear ha hb hx hy
  go_enter Try.func11, Try.ntmps11
  go_wp2_with fail
  refine (HX.out _).mono ?_
  rintro e w1 ⟨rfl, rfl⟩
  go_wp2_with fail
  refine (HY.out _).mono ?_
  rintro e w1 ⟨rfl, rfl⟩
  go_wp2_with fail
  obtain ⟨r0, r1, r2, r3, _⟩ := box4 (World.alloc_heap_new w (.cells #[.int .i64 a, .int .i64 b, .slice none 0 0, .slice none 0 0] 29))
  exact bodyPost_ret (v := .agg #[.int .i64 a, .int .i64 b, .slice none 0 0, .slice none 0 0]) (by simp [results, Try.f11, go_sem, r0, r1, r2, r3]) rfl ⟨rfl, (Below.refl _ _).alloc (Nat.le_refl _) _⟩
theorem below4 {w W : World} {g n : Nat} (a b c d : Value) (h : Below n w W) (hg : n ≤ g) : Below n w ((((W.setCell ⟨g, 0, none⟩ a).setCell ⟨g, 1, none⟩ b).setCell ⟨g, 2, none⟩ c).setCell ⟨g, 3, none⟩ d) :=
  (((h.setCell (p := ⟨g, 0, none⟩) hg _).setCell (p := ⟨g, 1, none⟩) hg _).setCell (p := ⟨g, 2, none⟩) hg _).setCell (p := ⟨g, 3, none⟩) hg _
theorem set_far {w : World} {g k i : Nat} {o : Obj} (v : Value) (hne : k ≠ g) (h : w.heap[k]? = some o) : (w.setCell ⟨g, i, none⟩ v).heap[k]? = some o := (Below.heap_setCell _ _ _ _ hne).trans h
theorem set4_far {w : World} {g k : Nat} {o : Obj} (a b c d : Value) (hne : k ≠ g) (h : w.heap[k]? = some o) : ((((w.setCell ⟨g, 0, none⟩ a).setCell ⟨g, 1, none⟩ b).setCell ⟨g, 2, none⟩ c).setCell ⟨g, 3, none⟩ d).heap[k]? = some o :=
  set_far d hne (set_far c hne (set_far b hne (set_far a hne h)))
theorem set_one {w : World} {g t : Nat} {a b c d : Value} (c' : Value) (h : w.heap[g]? = some (.cells #[a, b, c, d] t (0, 0))) : (w.setCell ⟨g, 2, none⟩ c').heap[g]? = some (.cells #[a, b, c', d] t (0, 0)) := by
  simp [World.setCell, Array.getElem?_modify, h]
theorem set_three {w : World} {g t : Nat} {a b c d : Value} (d' : Value) (h : w.heap[g]? = some (.cells #[a, b, c, d] t (0, 0))) : (w.setCell ⟨g, 3, none⟩ d').heap[g]? = some (.cells #[a, b, c, d'] t (0, 0)) := by
  simp [World.setCell, Array.getElem?_modify, h]
theorem rowG_cells {w : World} {ad : Addr} {m c n base e size : Nat} {xs : List Value} (h : w.ownsRow base e size (.slice (some ad) m c) n xs) : ∀ j u, xs[j]? = some u → w.cell? (ad.add j) = some u := by
  rcases h.2 with ⟨h0, _⟩ | ⟨g, cap, cur, hv, _, hb, _, _, _, hcur⟩
  · cases h0
  · simp only [Value.slice.injEq, Option.some.injEq] at hv
    obtain ⟨rfl, _, _⟩ := hv
    intro j u hj
    have hlt : j < n * size := by have := (List.getElem?_eq_some_iff.1 hj).1; rw [h.1] at this; exact this
    rw [← hcur, List.getElem?_take_of_lt hlt] at hj
    rw [add_off]
    simp [World.cell?, hb]
    simpa using hj
theorem rowG_base {w : World} {v : Value} {n base base' e size : Nat} {xs : List Value} (h : w.ownsRow base e size v n xs) (hb : base' ≤ base) : w.ownsRow base' e size v n xs := by
  refine ⟨h.1, ?_⟩
  rcases h.2 with h5 | ⟨g, cap, cur, hv, h0, h6⟩
  · exact .inl h5
  · exact .inr ⟨g, cap, cur, hv, Nat.le_trans hb h0, h6⟩

theorem RefAt.more {W : World} {vf vl : Value} {B : Brd} {n : Nat} (h : RefAt W vf vl B n) : RefAt W vf vl B (n + 1) := by
  obtain ⟨F, k1, k2, k3⟩ := h.full
  exact ⟨⟨F, k1, Nat.le_succ_of_le k2, k3⟩, h.row, Nat.le_succ_of_le h.len⟩
/-- what lies behind the document's Fill -/
def RFillOut (w : World) (B : Brd) (vl : Value) (n : Nat) (p : Pl) (e : Ending) (w' : World) : Prop :=
  ∃ vf' : Value, e = .returned (.tuple #[.agg #[.int .i64 B.rows, .int .i64 B.cols, vf', vl], .bool (fillR B p)]) ∧ RefAt w' vf' vl (fillB B p) (n + 1) ∧ Below w.heap.size w w'
set_option maxRecDepth 100000 in
set_option maxHeartbeats 4000000 in
theorem rfill_any (B : Brd) (vf vl : Value) (n : Nat) (x y : Int) (w : World) (h : RefAt w vf vl B n) (hn : n ≤ 100000) :
    Calls Try.prog 12 #[.agg #[.int .i64 B.rows, .int .i64 B.cols, vf, vl], .int .i64 x, .int .i64 y] w (RFillOut w B vl n (x, y)) := by
  obtain ⟨i0, hj, hj0, hj1, hj2⟩ := info_parts info58
  obtain ⟨R, hR⟩ : ∃ R, RFillOut w B vl n (x, y) = R := ⟨_, rfl⟩
  rw [hR]
  have HR := Lib.hid hR
  obtain ⟨F, hrow, hFl, hF⟩ := h.full
  obtain ⟨Al, cl, rfl⟩ := own_shape h.row
  obtain ⟨Af, cf, rfl⟩ := own_shape hrow
  have hb0 : Below w.heap.size w ((w.alloc (.cells #[.int .i64 B.rows, .int .i64 B.cols, .slice Af F.length cf, .slice Al B.l.length cl] 29)).alloc (.cells #[.int .i64 0, .int .i64 0, .slice none 0 0, .slice none 0 0] 29)) := ((Below.refl _ _).alloc (Nat.le_refl _) _).alloc (by simp) _
  have hz0 : ((w.alloc (.cells #[.int .i64 B.rows, .int .i64 B.cols, .slice Af F.length cf, .slice Al B.l.length cl] 29)).alloc (.cells #[.int .i64 0, .int .i64 0, .slice none 0 0, .slice none 0 0] 29)).heap[w.heap.size]? = some (.cells #[.int .i64 B.rows, .int .i64 B.cols, .slice Af F.length cf, .slice Al B.l.length cl] 29 (0, 0)) := (Below.heap_alloc _ _ _ (by simp)).trans (World.alloc_heap_new w _)
  have hz1 : ((w.alloc (.cells #[.int .i64 B.rows, .int .i64 B.cols, .slice Af F.length cf, .slice Al B.l.length cl] 29)).alloc (.cells #[.int .i64 0, .int .i64 0, .slice none 0 0, .slice none 0 0] 29)).heap[w.heap.size + 1]? = some (.cells #[.int .i64 0, .int .i64 0, .slice none 0 0, .slice none 0 0] 29 (0, 0)) := by simpa using World.alloc_heap_new (w.alloc (.cells #[.int .i64 B.rows, .int .i64 B.cols, .slice Af F.length cf, .slice Al B.l.length cl] 29)) (.cells #[.int .i64 0, .int .i64 0, .slice none 0 0, .slice none 0 0] 29)
  have H := Lib.hid h
  have HF := Lib.hid hF
  have HROW := Lib.hid hrow
  have hlen := h.len
  have HON := Lib.hid (fun W => on_any B (.slice Af F.length cf) (.slice Al B.l.length cl) x y W)
  obtain ⟨z, hz⟩ : ∃ z, hasP B (x, y) = z := ⟨_, rfl⟩
  rw [hz] at HON
  have HZZ := Lib.hid hz
  obtain ⟨br, hbr⟩ : ∃ r, B.rows = r := ⟨_, rfl⟩
  obtain ⟨bc, hbc⟩ : ∃ r, B.cols = r := ⟨_, rfl⟩
  obtain ⟨ln, hln⟩ : ∃ r, B.l.length = r := ⟨_, rfl⟩
  rw [hbr, hbc, hln] at hz0 HON hb0 hz1
  rw [hln] at hlen
  rw [hbr, hbc, hln]
  have HBR := Lib.hid (And.intro hbr hbc)
  have HLN := Lib.hid hln
  have HRF := Lib.hid (show RefAt w (.slice Af F.length cf) (.slice Al ln cl) B n by rw [← hln]; exact h)
  have HR2 := Lib.hid (show RFillOut w B (.slice Al ln cl) n (x, y) = R by rw [← hln]; exact HR.out)
  obtain ⟨W0, hW0⟩ : ∃ W0, W0 = ((w.alloc (.cells #[.int .i64 br, .int .i64 bc, .slice Af F.length cf, .slice Al ln cl] 29)).alloc (.cells #[.int .i64 0, .int .i64 0, .slice none 0 0, .slice none 0 0] 29)) := ⟨_, rfl⟩
  rw [← hW0] at hb0 hz0 hz1
  have HB0 := Lib.hid hb0
  have HZ0 := Lib.hid hz0
  have HZ1 := Lib.hid hz1
  have HW0 := Lib.hid hW0
  have hsz : W0.heap.size = w.heap.size + 2 := by rw [hW0]; simp
  obtain ⟨a0, a1, a2, a3, _⟩ := box4 hz0
  obtain ⟨t0, t1, t2, t3, t4⟩ := box4 hz1
  clear hR h hrow hF hz hbr hbc hln hW0 hz0 hz1 hb0 t4
  go_enter Try.func12, Try.ntmps12
  go_wp2_with fail
  rw [← HW0.out]
  refine (HON.out _).mono ?_
  rintro e w2 ⟨rfl, hb2⟩
  have hy0 := (hb2.block _ (Array.getElem?_eq_some_iff.1 HZ0.out).1).trans HZ0.out
  have hy1 := (hb2.block _ (Array.getElem?_eq_some_iff.1 HZ1.out).1).trans HZ1.out
  have HB2 := Lib.hid (HB0.out.trans (hb2.mono (by omega)))
  have hsz2 : w.heap.size + 2 ≤ w2.heap.size := by have := hb2.size; omega
  obtain ⟨a0, a1, a2, a3, a4⟩ := box4 hy0
  obtain ⟨t0, t1, t2, t3, t4⟩ := box4 hy1
  have f0 := t4 0
  have f1 := t4 1
  have f2 := t4 2
  have f3 := t4 3
  have HY0 := Lib.hid hy0
  have HY1 := Lib.hid hy1
  clear hb2 t4 a4 hy0 hy1 HON HZ0 HZ1 HW0 HB0 hsz
  cases z with
  | false =>
    have hfr : fillR B (x, y) = false := by unfold fillR; rw [HZZ.out]; rfl
    have hfb : fillB B (x, y) = B := by unfold fillB; rw [hfr]; rfl
    have HFR := Lib.hid (And.intro hfr hfb)
    clear hfr hfb
    go_wp2_with fail
    have hfin := set4 (.int .i64 br) (.int .i64 bc) (.slice Af F.length cf) (.slice Al ln cl) HY1.out
    obtain ⟨r0, r1, r2, r3, _⟩ := box4 hfin
    have hbf := below4 (.int .i64 br) (.int .i64 bc) (.slice Af F.length cf) (.slice Al ln cl) (g := w.heap.size + 1) HB2.out (by omega)
    rw [← HR2.out]
    exact bodyPost_ret (v := .tuple #[.agg #[.int .i64 br, .int .i64 bc, .slice Af F.length cf, .slice Al ln cl], .bool false]) (by simp [results, Try.f12, go_sem, r0, r1, r2, r3]) rfl ⟨.slice Af F.length cf, by rw [HFR.out.1, HBR.out.1, HBR.out.2], by rw [HFR.out.2]; exact (HRF.out.later (Below.trans (Below.refl _ _) hbf)).more, hbf⟩
  | true =>
    by_cases hl0 : ln = 0
    rotate_left
    · have hl1 : (0 : Int) < ↑ln := by omega
      have hfr : fillR B (x, y) = false := by
        unfold fillR
        cases hl : B.l with
        | nil => rw [hl] at HLN; exact (hl0 HLN.out.symm).elim
        | cons a l => simp
      have hfb : fillB B (x, y) = B := by unfold fillB; rw [hfr]; rfl
      have HFR := Lib.hid (And.intro hfr hfb)
      clear hfr hfb hl0
      go_wp2_with fail
      have hfin := set4 (.int .i64 br) (.int .i64 bc) (.slice Af F.length cf) (.slice Al ln cl) HY1.out
      obtain ⟨r0, r1, r2, r3, _⟩ := box4 hfin
      have hbf := below4 (.int .i64 br) (.int .i64 bc) (.slice Af F.length cf) (.slice Al ln cl) (g := w.heap.size + 1) HB2.out (by omega)
      rw [← HR2.out]
      exact bodyPost_ret (v := .tuple #[.agg #[.int .i64 br, .int .i64 bc, .slice Af F.length cf, .slice Al ln cl], .bool false]) (by simp [results, Try.f12, go_sem, r0, r1, r2, r3]) rfl ⟨.slice Af F.length cf, by rw [HFR.out.1, HBR.out.1, HBR.out.2], by rw [HFR.out.2]; exact (HRF.out.later (Below.trans (Below.refl _ _) hbf)).more, hbf⟩
    have hl1 : ¬ (0 : Int) < ↑ln := by omega
    have hfr : fillR B (x, y) = true := by
      unfold fillR
      cases hl : B.l with
      | nil => rw [HZZ.out]; rfl
      | cons a l => have := HLN.out; rw [hl] at this; simp at this; omega
    have hfb : fillB B (x, y) = conP B (x, y) := by unfold fillB; rw [if_pos hfr]
    have HFR := Lib.hid (And.intro hfr hfb)
    clear hfr hfb hl0
    have hrow2 := rowG_later HROW.out (HB2.out)
    have hnil : w2.ownsRow w2.heap.size 58 2 (.slice none 0 0) 0 [] := ⟨rfl, .inl ⟨rfl, rfl⟩⟩
    have HNIL := Lib.hid hnil
    have HRW2 := Lib.hid hrow2
    clear hrow2 hnil
    rcases Classical.em (Af = none) with he | he
    · subst he
      have hF0 : F = [] ∧ cf = 0 := by
        rcases HRW2.out.2 with ⟨h1, h2⟩ | ⟨g, cap, cur, h1, _⟩
        · simp only [Value.slice.injEq, true_and] at h1
          exact ⟨List.eq_nil_of_length_eq_zero h2, h1.2⟩
        · cases h1
      obtain ⟨rfl, rfl⟩ := hF0
      have HO1 : Hid (w2.ownsRow w2.heap.size 58 2 (.slice none 0 0) 0 []) := HNIL
      have HB3 : Hid (Below w2.heap.size w2 w2) := Lib.hid (Below.refl _ _)
      have HS3 : Hid (w2.heap.size ≤ w2.heap.size) := Lib.hid (Nat.le_refl _)
      simp only [List.length_nil] at a2 HRF HR2
      go_wp2_with (first
        | (at_builtin; (refine wpList_append_own_none _ rfl _ _ 26 rfl w2.heap.size 58 i0 2 Try.underlying26 hj _ 0 [] rfl HNIL.out rfl ?_))
        | (at_builtin; go_loud (refine wpList_append_own _ rfl _ _ 26 rfl w2.heap.size 58 i0 (.agg #[.int .i64 0, .int .i64 0]) 2 16 Try.underlying26 hj hj0 hj1 hj2 rfl (by decide) _ _ _ rfl (rowG_later HO1.out ((Below.refl _ _).alloc (Nat.le_refl _) _)) ⟨w2.heap.size, 0, none⟩ 1 1 [.int .i64 x, .int .i64 y] rfl rfl (lit58 rfl) (one_lit _ _) (by unfold maxLen; omega) (by omega) (by have := HS3.out; first | (simp; done) | (simp; omega)) ?_; intro v2 w4 hown2 hgrow2 hnil2; obtain ⟨A2, c2, rfl⟩ := own_shape hown2; have hb4 : Below w2.heap.size w2 w4 := (HB3.out.alloc HS3.out _).grown hgrow2 (by have := HS3.out; first | (simp; done) | (simp; omega)) (fun j e => (rowG_lt HO1.out e).2); have hx0 := (hb4.block _ (Array.getElem?_eq_some_iff.1 HY0.out).1).trans HY0.out; have hx1 := (hb4.block _ (Array.getElem?_eq_some_iff.1 HY1.out).1).trans HY1.out; obtain ⟨_, _, s2, _, s5⟩ := box4 hx0; have s6 := s5 2; have hy0 := set_one (.slice A2 1 c2) hx0; have hy1 := set_far (g := w.heap.size) (i := 2) (.slice A2 1 c2) (show w.heap.size + 1 ≠ w.heap.size by omega) hx1; obtain ⟨u0, u1, u2, u3, _⟩ := box4 hy0; obtain ⟨v0, v1, v2, v3, v4⟩ := box4 hy1; have g0 := v4 0; have g1 := v4 1; have g2 := v4 2; have g3 := v4 3; have HY1' := Lib.hid hy1; have HO2 := Lib.hid hown2; have HB4 := Lib.hid hb4; clear hown2 hgrow2 hnil2 hb4 hx0 hx1 s5 hy0 hy1 v4)))
      have hfin := set4 (.int .i64 br) (.int .i64 bc) (.slice A2 1 c2) (.slice Al ln cl) HY1'.out
      obtain ⟨r0, r1, r2, r3, _⟩ := box4 hfin
      have hbf := below4 (.int .i64 br) (.int .i64 bc) (.slice A2 1 c2) (.slice Al ln cl) (g := w.heap.size + 1) (((HB2.out.trans (HB4.out.mono HB2.out.size)).setCell (p := ⟨w.heap.size, 2, none⟩) (Nat.le_refl _) (.slice A2 1 c2))) (by omega)
      have hown9 := rowG_kept (w' := ((((w4.setCell ⟨w.heap.size, 2, none⟩ (.slice A2 1 c2)).setCell ⟨w.heap.size + 1, 0, none⟩ (.int .i64 br)).setCell ⟨w.heap.size + 1, 1, none⟩ (.int .i64 bc)).setCell ⟨w.heap.size + 1, 2, none⟩ (.slice A2 1 c2)).setCell ⟨w.heap.size + 1, 3, none⟩ (.slice Al ln cl)) HO2.out (fun g hg => by
        have h1 := (rowG_lt HO2.out hg).2
        have h2 : g ≠ w.heap.size + 1 := by omega
        exact (Below.heap_setCell _ _ _ _ h2).trans ((Below.heap_setCell _ _ _ _ h2).trans ((Below.heap_setCell _ _ _ _ h2).trans ((Below.heap_setCell _ _ _ _ h2).trans (Below.heap_setCell _ _ _ _ (show g ≠ w.heap.size by omega))))))
      rw [← HR2.out]
      refine bodyPost_ret (v := .tuple #[.agg #[.int .i64 br, .int .i64 bc, .slice A2 1 c2, .slice Al ln cl], .bool true]) (by simp [results, Try.f12, go_sem, r0, r1, r2, r3]) rfl ⟨.slice A2 1 c2, by rw [HFR.out.1, HBR.out.1, HBR.out.2], ?_, hbf⟩
      rw [HFR.out.2]
      have hrr := HRF.out.later hbf
      refine ⟨⟨([] : List Pl) ++ [(x, y)], ?_, by first | (simp; done) | (simp; omega), fun p => ?_⟩, hrr.row, Nat.le_succ_of_le hrr.len⟩
      · rw [flat2_app, List.length_append]
        exact rowG_base hown9 (Nat.zero_le _)
      · show (p == (x, y) || B.con p) = decide (p ∈ ([] : List Pl) ++ [(x, y)])
        rw [HF.out p]
        by_cases hp : p = (x, y)
        · simp [hp]
        · have : (p == (x, y)) = false := by simpa using hp
          simp [this, hp]
    · obtain ⟨ad, had⟩ : ∃ ad, Af = some ad := Option.ne_none_iff_exists'.1 he
      subst had
      clear he
      go_wp2_with (first
        | (at_builtin; (refine wpList_append_own _ rfl _ _ 26 rfl w2.heap.size 58 i0 (.agg #[.int .i64 0, .int .i64 0]) 2 16 Try.underlying26 hj hj0 hj1 hj2 rfl (by decide) _ _ _ rfl HNIL.out ad F.length cf (flat2 F) rfl (flat2_len F) (rowG_cells HRW2.out) (flat2_one F) (by unfold maxLen; omega) (by omega) (Nat.le_refl _) ?_; intro v1 W3 hown1 hgrow1 hnil1; rw [Nat.zero_add, List.nil_append] at hown1; obtain ⟨A1, c1, rfl⟩ := own_shape hown1; have HO1 := Lib.hid hown1; have HB3 : Hid (Below w2.heap.size w2 W3) := Lib.hid ((Below.refl _ w2).grown hgrow1 (Nat.le_refl _) (fun j e => by cases e)); have HS3 : Hid (w2.heap.size ≤ W3.heap.size) := Lib.hid hgrow1.size; clear hown1 hgrow1 hnil1))
        | (at_builtin; go_loud (refine wpList_append_own _ rfl _ _ 26 rfl w2.heap.size 58 i0 (.agg #[.int .i64 0, .int .i64 0]) 2 16 Try.underlying26 hj hj0 hj1 hj2 rfl (by decide) _ _ _ rfl (rowG_later HO1.out ((Below.refl _ _).alloc (Nat.le_refl _) _)) ⟨W3.heap.size, 0, none⟩ 1 1 [.int .i64 x, .int .i64 y] rfl rfl (lit58 rfl) (one_lit _ _) (by unfold maxLen; omega) (by omega) (by have := HS3.out; first | (simp; done) | (simp; omega)) ?_; intro v2 w4 hown2 hgrow2 hnil2; obtain ⟨A2, c2, rfl⟩ := own_shape hown2; have hb4 : Below w2.heap.size w2 w4 := (HB3.out.alloc HS3.out _).grown hgrow2 (by have := HS3.out; first | (simp; done) | (simp; omega)) (fun j e => (rowG_lt HO1.out e).2); have hx0 := (hb4.block _ (Array.getElem?_eq_some_iff.1 HY0.out).1).trans HY0.out; have hx1 := (hb4.block _ (Array.getElem?_eq_some_iff.1 HY1.out).1).trans HY1.out; obtain ⟨_, _, s2, _, s5⟩ := box4 hx0; have s6 := s5 2; have hy0 := set_one (.slice A2 (F.length + 1) c2) hx0; have hy1 := set_far (g := w.heap.size) (i := 2) (.slice A2 (F.length + 1) c2) (show w.heap.size + 1 ≠ w.heap.size by omega) hx1; obtain ⟨u0, u1, u2, u3, _⟩ := box4 hy0; obtain ⟨v0, v1, v2, v3, v4⟩ := box4 hy1; have g0 := v4 0; have g1 := v4 1; have g2 := v4 2; have g3 := v4 3; have HY1' := Lib.hid hy1; have HO2 := Lib.hid hown2; have HB4 := Lib.hid hb4; clear hown2 hgrow2 hnil2 hb4 hx0 hx1 s5 hy0 hy1 v4)))
      have hfin := set4 (.int .i64 br) (.int .i64 bc) (.slice A2 (F.length + 1) c2) (.slice Al ln cl) HY1'.out
      obtain ⟨r0, r1, r2, r3, _⟩ := box4 hfin
      have hbf := below4 (.int .i64 br) (.int .i64 bc) (.slice A2 (F.length + 1) c2) (.slice Al ln cl) (g := w.heap.size + 1) (((HB2.out.trans (HB4.out.mono HB2.out.size)).setCell (p := ⟨w.heap.size, 2, none⟩) (Nat.le_refl _) (.slice A2 (F.length + 1) c2))) (by omega)
      have hown9 := rowG_kept (w' := ((((w4.setCell ⟨w.heap.size, 2, none⟩ (.slice A2 (F.length + 1) c2)).setCell ⟨w.heap.size + 1, 0, none⟩ (.int .i64 br)).setCell ⟨w.heap.size + 1, 1, none⟩ (.int .i64 bc)).setCell ⟨w.heap.size + 1, 2, none⟩ (.slice A2 (F.length + 1) c2)).setCell ⟨w.heap.size + 1, 3, none⟩ (.slice Al ln cl)) HO2.out (fun g hg => by
        have h1 := (rowG_lt HO2.out hg).2
        have h2 : g ≠ w.heap.size + 1 := by omega
        exact (Below.heap_setCell _ _ _ _ h2).trans ((Below.heap_setCell _ _ _ _ h2).trans ((Below.heap_setCell _ _ _ _ h2).trans ((Below.heap_setCell _ _ _ _ h2).trans (Below.heap_setCell _ _ _ _ (show g ≠ w.heap.size by omega))))))
      rw [← HR2.out]
      refine bodyPost_ret (v := .tuple #[.agg #[.int .i64 br, .int .i64 bc, .slice A2 (F.length + 1) c2, .slice Al ln cl], .bool true]) (by simp [results, Try.f12, go_sem, r0, r1, r2, r3]) rfl ⟨.slice A2 (F.length + 1) c2, by rw [HFR.out.1, HBR.out.1, HBR.out.2], ?_, hbf⟩
      rw [HFR.out.2]
      have hrr := HRF.out.later hbf
      refine ⟨⟨F ++ [(x, y)], ?_, by first | (simp; done) | (simp; omega), fun p => ?_⟩, hrr.row, Nat.le_succ_of_le hrr.len⟩
      · rw [flat2_app, List.length_append]
        exact rowG_base hown9 (Nat.zero_le _)
      · show (p == (x, y) || B.con p) = decide (p ∈ F ++ [(x, y)])
        rw [HF.out p]
        by_cases hp : p = (x, y)
        · simp [hp]
        · have : (p == (x, y)) = false := by simpa using hp
          simp [this, hp]
end Go.Proofs.Ytdeneogbnmedkaa
