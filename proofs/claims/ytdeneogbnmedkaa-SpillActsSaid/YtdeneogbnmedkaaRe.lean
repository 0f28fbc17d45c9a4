/- same: what the program's board and the document's tell of one cell. -/
import Derived.Test.YtdeneogbnmedkaaRd
namespace Go.Proofs.Ytdeneogbnmedkaa
open Go.RowKit Go.Maps

theorem of_where (B : Brd) (p : Pl) : (decF B.l p = none ∧ ofI B p = -1) ∨ ∃ (i : Nat) (d : Dc), decF B.l p = some d ∧ B.l[i]? = some d ∧ ofI B p = i := idx_find B.l _
theorem own_where (B : Brd) (p : Pl) : (ownF B.l p = none ∧ ownI B p = -1) ∨ ∃ (i : Nat) (d : Dc), ownF B.l p = some d.r ∧ B.l[i]? = some d ∧ ownI B p = i := by
  unfold ownF ownI
  rcases idx_find B.l (fun d => d.st && inR d.r p) with ⟨h1, h2⟩ | ⟨i, d, h1, h3, h2⟩
  · exact .inl ⟨by rw [h1]; rfl, h2⟩
  · exact .inr ⟨i, d, by rw [h1]; rfl, h3, h2⟩
set_option maxRecDepth 100000 in
set_option maxHeartbeats 20000000 in
theorem same_any {w : World} {s : Nat} {S : Nat → Prop} {m n : Nat} {B : Brd} {vf vl : Value} (u v : Int) (hwf : Wf (u, v)) (h : BrdAt w s S m B) (hr : RefAt w vf vl B n) (hn : n ≤ 100000) :
    Calls Try.prog 18 #[.pointer (some ⟨s, 0, none⟩), .agg #[.int .i64 B.rows, .int .i64 B.cols, vf, vl], .int .i64 u, .int .i64 v] w fun e w' => e = .returned (.bool true) ∧ Below w.heap.size w w' := by
  have hi : Inv B := h.1
  have hlen := hr.len
  obtain ⟨Al, cl, rfl⟩ := own_shape hr.row
  obtain ⟨Af, fl, cf, rfl⟩ : ∃ Af fl cf, vf = .slice Af fl cf := by obtain ⟨F, hrow, _⟩ := hr.full; obtain ⟨Af, cf, e⟩ := own_shape hrow; exact ⟨_, _, _, e⟩
  have HDEC := Lib.hid (fun (W : World) (hW : BrdAt W s S m B) => decided_any u v hwf hW)
  have HBLO := Lib.hid (fun (W : World) (hW : BrdAt W s S m B) => blocker_any u v hwf hW)
  have HOWN := Lib.hid (fun (W : World) (hW : BrdAt W s S m B) => owner_any u v hwf hW)
  have HOF := Lib.hid (fun (W : World) (hW : RefAt W (.slice Af fl cf) (.slice Al B.l.length cl) B n) => of_any B (.slice Af fl cf) (.slice Al B.l.length cl) n u v W hW hn)
  have HROW := Lib.hid (fun (W : World) (hW : RefAt W (.slice Af fl cf) (.slice Al B.l.length cl) B n) => rown_any B hi (.slice Af fl cf) (.slice Al B.l.length cl) n u v hwf W hW hn)
  have hcl : B.l.length ≤ cl := by obtain ⟨A1, c1, hv, hc, _⟩ := row8_cells hr.row; simp only [Value.slice.injEq, true_and] at hv; rw [hv.2]; exact hc
  have HCELLS : Hid (∀ (i : Nat) (d : Dc), B.l[i]? = some d → ∃ ad, Al = some ad ∧ i < B.l.length ∧ ∀ W, Below w.heap.size w W → Cell8 W ad i d) := Lib.hid (fun i d hd => by
    obtain ⟨A1, c1, hv, hc, hI⟩ := row8_cells hr.row
    simp only [Value.slice.injEq, true_and] at hv
    obtain ⟨rfl, rfl⟩ := hv
    obtain ⟨ad, rfl, _⟩ := hI i d hd
    refine ⟨ad, rfl, (List.getElem?_eq_some_iff.1 hd).1, fun W hW => ?_⟩
    obtain ⟨A2, c2, hv, _, hI⟩ := row8_cells (rowG_later hr.row hW)
    simp only [Value.slice.injEq, true_and] at hv
    obtain ⟨e, rfl⟩ := hv
    obtain ⟨ad2, e2, hc8⟩ := hI i d hd
    rw [← e] at e2
    cases e2
    exact hc8)
  have hwh := of_where B (u, v)
  have how := own_where B (u, v)
  have hdA : decA B (u, v) = .tuple #[rcV (dcF B (u, v)).r, .bool (dcF B (u, v)).st, .bool (decF B.l (u, v)).isSome] := rfl
  have hbA : barA B (u, v) = .tuple #[.int .i64 (dcF B (u, v)).bl.1, .int .i64 (dcF B (u, v)).bl.2, .bool (dcF B (u, v)).hb] := rfl
  have hoA : ownA B (u, v) = .tuple #[rcV ((ownF B.l (u, v)).getD (0, 0, 0, 0)), .bool (ownF B.l (u, v)).isSome] := rfl
  have hdc : dcF B (u, v) = (decF B.l (u, v)).getD ⟨(0, 0, 0, 0), false, (0, 0), false⟩ := rfl
  obtain ⟨br, hbr⟩ : ∃ r, B.rows = r := ⟨_, rfl⟩
  obtain ⟨bc, hbc⟩ : ∃ r, B.cols = r := ⟨_, rfl⟩
  obtain ⟨ln, hln⟩ : ∃ r, B.l.length = r := ⟨_, rfl⟩
  rw [hbr, hbc, hln] at HOF HROW
  rw [hln] at hlen hcl HCELLS
  have HR := Lib.hid (show RefAt w (.slice Af fl cf) (.slice Al ln cl) B n by rw [← hln]; exact hr)
  rw [hbr, hbc, hln]
  have H := Lib.hid h
  have hi2 : (↑ln : Int) ≤ ↑cl := by omega
  have hb0 : Below w.heap.size w (w.alloc (.cells #[.int .i64 br, .int .i64 bc, .slice Af fl cf, .slice Al ln cl] 29)) := (Below.refl _ _).alloc (Nat.le_refl _) _
  have hz0 := World.alloc_heap_new w (.cells #[.int .i64 br, .int .i64 bc, .slice Af fl cf, .slice Al ln cl] 29)
  obtain ⟨W0, hW0⟩ : ∃ W0, w.alloc (.cells #[.int .i64 br, .int .i64 bc, .slice Af fl cf, .slice Al ln cl] 29) = W0 := ⟨_, rfl⟩
  rw [hW0] at hb0 hz0
  have HB0 := Lib.hid hb0
  have HZ0 := Lib.hid hz0
  have HW0 := Lib.hid hW0
  obtain ⟨DA, hDA⟩ : ∃ D, decA B (u, v) = D := ⟨_, rfl⟩
  obtain ⟨BA, hBA⟩ : ∃ D, barA B (u, v) = D := ⟨_, rfl⟩
  obtain ⟨OA, hOA⟩ : ∃ D, ownA B (u, v) = D := ⟨_, rfl⟩
  obtain ⟨o, ho⟩ : ∃ D, ofI B (u, v) = D := ⟨_, rfl⟩
  obtain ⟨o2, ho2⟩ : ∃ D, ownI B (u, v) = D := ⟨_, rfl⟩
  rw [hDA] at hdA HDEC
  rw [hBA] at hbA HBLO
  rw [hOA] at hoA HOWN
  rw [ho] at HOF hwh
  rw [ho2] at HROW how
  have HDA := Lib.hid hdA
  have HBA := Lib.hid hbA
  have HOA := Lib.hid hoA
  have HDC := Lib.hid hdc
  have HWH := Lib.hid hwh
  have HOW := Lib.hid how
  clear hDA hBA hOA ho ho2 hdA hbA hoA hdc hwh how hbr hbc hln h hr hi hb0 hz0 hW0 hwf hcl
  rcases HWH.out with ⟨hd0, rfl⟩ | ⟨i, d, hd0, hdi, rfl⟩
  · have HV1 : Hid (DA = .tuple #[.agg #[.int .i64 0, .int .i64 0, .int .i64 0, .int .i64 0], .bool false, .bool false]) := Lib.hid (HDA.out.trans (by rw [HDC.out, hd0]; rfl))
    have HV2 : Hid (BA = .tuple #[.int .i64 0, .int .i64 0, .bool false]) := Lib.hid (HBA.out.trans (by rw [HDC.out, hd0]; rfl))
    go_enter Try.func18, Try.ntmps18
    go_wp2_with fail
    rw [HW0.out]
    refine (HDEC.out _ (H.out.later HB0.out)).mono ?_
    rintro e w1 ⟨rfl, hb1⟩
    rw [HV1.out]
    have hz1 := (hb1.block _ (Array.getElem?_eq_some_iff.1 HZ0.out).1).trans HZ0.out
    have HB1 := Lib.hid (HB0.out.trans (hb1.mono HB0.out.size))
    have HZ1 := Lib.hid hz1
    clear hb1 hz1 HZ0
    have hz9 := World.alloc_heap_new w1 (.cells #[.int .i64 0, .int .i64 0, .int .i64 0, .int .i64 0] 47)
    have hb9 := (Below.refl w1.heap.size w1).alloc (Nat.le_refl _) (.cells #[.int .i64 0, .int .i64 0, .int .i64 0, .int .i64 0] 47)
    have hzb := (hb9.block _ (Array.getElem?_eq_some_iff.1 HZ1.out).1).trans HZ1.out
    obtain ⟨p0, p1, p2, p3, _⟩ := box4 hzb
    obtain ⟨W2, hW2⟩ : ∃ W2, w1.alloc (.cells #[.int .i64 0, .int .i64 0, .int .i64 0, .int .i64 0] 47) = W2 := ⟨_, rfl⟩
    rw [hW2] at hz9 hb9 hzb
    have HW2 := Lib.hid hW2
    have HB2 := Lib.hid (HB1.out.trans (hb9.mono HB1.out.size))
    have HZ2 := Lib.hid hzb
    have HX2 := Lib.hid hz9
    clear hW2 hz9 hb9 hzb HZ1
    go_wp2_with fail
    rw [HW2.out]
    refine (HOF.out _ (HR.out.later HB2.out)).mono ?_
    rintro e W3 ⟨rfl, hb3⟩
    have hz3 := (hb3.block _ (Array.getElem?_eq_some_iff.1 HZ2.out).1).trans HZ2.out
    have hx3 := (hb3.block _ (Array.getElem?_eq_some_iff.1 HX2.out).1).trans HX2.out
    have HB3 := Lib.hid (HB2.out.trans (hb3.mono HB2.out.size))
    have HBF := HB3
    have HF3 : Hid (∀ X, Below W3.heap.size W3 X → X.cell? ⟨w1.heap.size, 0, none⟩ = some (.int .i64 0) ∧ X.cell? ⟨w1.heap.size, 1, none⟩ = some (.int .i64 0) ∧ X.cell? ⟨w1.heap.size, 2, none⟩ = some (.int .i64 0) ∧ X.cell? ⟨w1.heap.size, 3, none⟩ = some (.int .i64 0)) := Lib.hid (fun X hX => by
      obtain ⟨c0, c1, c2, c3, _⟩ := box4 ((hX.block _ (Array.getElem?_eq_some_iff.1 hx3).1).trans hx3)
      exact ⟨c0, c1, c2, c3⟩)
    have HZ3 := Lib.hid hz3
    clear hz3 hx3 hb3 HZ2 HX2 p0 p1 p2 p3
    go_wp2_with fail
    refine wp_region_held_drew (S := fun X => Below W3.heap.size W3 X) (by kernel_rfl) ((Below.refl _ _).drew) (fun hS => ?_)
    refine wpAnyH_take (i := 0) (v := ?v0a) rfl (by kernel_rfl) (by kernel_rfl) (by kernel_rfl) (fun _ _ _ h => h) (Or.inl ⟨by kernel_rfl, ?h0a⟩) hS ?_
    case h0a => (rintro w2 hb; obtain ⟨e0, e1, e2, e3⟩ := HF3.out w2 hb; go_simp; try with_reducible rfl)
    refine wpAnyH_take (i := 1) (v := ?v1a) rfl (by kernel_rfl) (by kernel_rfl) (by kernel_rfl) (fun _ _ _ h => h) (Or.inl ⟨by kernel_rfl, ?h1a⟩) hS ?_
    case h1a => (rintro w2 hb; obtain ⟨e0, e1, e2, e3⟩ := HF3.out w2 hb; go_simp; try with_reducible rfl)
    refine wpAnyH_take (i := 2) (v := ?v2a) rfl (by kernel_rfl) (by kernel_rfl) (by kernel_rfl) (fun _ _ _ h => h) (Or.inl ⟨by kernel_rfl, ?h2a⟩) hS ?_
    case h2a => (rintro w2 hb; obtain ⟨e0, e1, e2, e3⟩ := HF3.out w2 hb; go_simp; try with_reducible rfl)
    refine wpAnyH_take (i := 3) (v := ?v3a) rfl (by kernel_rfl) (by kernel_rfl) (by kernel_rfl) (fun _ _ _ h => h) (Or.inl ⟨by kernel_rfl, ?h3a⟩) hS ?_
    case h3a => (rintro w2 hb; obtain ⟨e0, e1, e2, e3⟩ := HF3.out w2 hb; go_simp; try with_reducible rfl)
    refine wpAnyH_take (i := 4) (v := ?v4a) rfl (by kernel_rfl) (by kernel_rfl) (by kernel_rfl) (fun _ _ _ h => h) (Or.inl ⟨by kernel_rfl, ?h4a⟩) hS ?_
    case h4a => (rintro w2 hb; obtain ⟨e0, e1, e2, e3⟩ := HF3.out w2 hb; go_simp; try with_reducible rfl)
    refine wpAnyH_take (i := 5) (v := ?v5a) rfl (by kernel_rfl) (by kernel_rfl) (by kernel_rfl) (fun _ _ _ h => h) (Or.inl ⟨by kernel_rfl, ?h5a⟩) hS ?_
    case h5a => (rintro w2 hb; obtain ⟨e0, e1, e2, e3⟩ := HF3.out w2 hb; go_simp; try with_reducible rfl)
    refine wpAnyH_take (i := 6) (v := ?v6a) rfl (by kernel_rfl) (by kernel_rfl) (by kernel_rfl) (fun _ _ _ h => h) (Or.inl ⟨by kernel_rfl, ?h6a⟩) hS ?_
    case h6a => (rintro w2 hb; obtain ⟨e0, e1, e2, e3⟩ := HF3.out w2 hb; go_simp; try with_reducible rfl)
    refine wpAnyH_take (i := 7) (v := ?v7a) rfl (by kernel_rfl) (by kernel_rfl) (by kernel_rfl) (fun _ _ _ h => h) (Or.inl ⟨by kernel_rfl, ?h7a⟩) hS ?_
    case h7a => (rintro w2 hb; obtain ⟨e0, e1, e2, e3⟩ := HF3.out w2 hb; go_simp; try with_reducible rfl)
    refine wpAnyH_take (i := 8) (v := ?v8a) rfl (by kernel_rfl) (by kernel_rfl) (by kernel_rfl) (fun _ _ _ h => h) (Or.inl ⟨by kernel_rfl, ?h8a⟩) hS ?_
    case h8a => (rintro w2 hb; obtain ⟨e0, e1, e2, e3⟩ := HF3.out w2 hb; go_simp; try with_reducible rfl)
    refine wpAnyH_take (i := 9) (v := ?v9a) rfl (by kernel_rfl) (by kernel_rfl) (by kernel_rfl) (fun _ _ _ h => h) (Or.inl ⟨by kernel_rfl, ?h9a⟩) hS ?_
    case h9a => (rintro w2 hb; obtain ⟨e0, e1, e2, e3⟩ := HF3.out w2 hb; go_simp; try with_reducible rfl)
    refine wpAnyH_take (i := 10) (v := ?v10a) rfl (by kernel_rfl) (by kernel_rfl) (by kernel_rfl) (fun _ _ _ h => h) (Or.inl ⟨by kernel_rfl, ?h10a⟩) hS ?_
    case h10a => (rintro w2 hb; obtain ⟨e0, e1, e2, e3⟩ := HF3.out w2 hb; go_simp; try with_reducible rfl)
    refine wpAnyH_take (i := 11) (v := ?v11a) rfl (by kernel_rfl) (by kernel_rfl) (by kernel_rfl) (fun _ _ _ h => h) (Or.inl ⟨by kernel_rfl, ?h11a⟩) hS ?_
    case h11a => (rintro w2 hb; obtain ⟨e0, e1, e2, e3⟩ := HF3.out w2 hb; go_simp; try with_reducible rfl)
    refine wpAnyH_take (i := 12) (v := ?v12a) rfl (by kernel_rfl) (by kernel_rfl) (by kernel_rfl) (fun _ _ _ h => h) (Or.inl ⟨by kernel_rfl, ?h12a⟩) hS ?_
    case h12a => (rintro w2 hb; obtain ⟨e0, e1, e2, e3⟩ := HF3.out w2 hb; go_simp; try with_reducible rfl)
    refine wpAnyH_take (i := 13) (v := ?v13a) rfl (by kernel_rfl) (by kernel_rfl) (by kernel_rfl) (fun _ _ _ h => h) (Or.inl ⟨by kernel_rfl, ?h13a⟩) hS ?_
    case h13a => (rintro w2 hb; obtain ⟨e0, e1, e2, e3⟩ := HF3.out w2 hb; go_simp; try with_reducible rfl)
    refine wpAnyH_take (i := 14) (v := ?v14a) rfl (by kernel_rfl) (by kernel_rfl) (by kernel_rfl) (fun _ _ _ h => h) (Or.inl ⟨by kernel_rfl, ?h14a⟩) hS ?_
    case h14a => (rintro w2 hb; obtain ⟨e0, e1, e2, e3⟩ := HF3.out w2 hb; go_simp; try with_reducible rfl)
    refine wpAnyH_take (i := 15) (v := ?v15a) rfl (by kernel_rfl) (by kernel_rfl) (by kernel_rfl) (fun _ _ _ h => h) (Or.inl ⟨by kernel_rfl, ?h15a⟩) hS ?_
    case h15a => (rintro w2 hb; obtain ⟨e0, e1, e2, e3⟩ := HF3.out w2 hb; go_simp; try with_reducible rfl)
    refine wpAnyH_take (i := 16) (v := ?v16a) rfl (by kernel_rfl) (by kernel_rfl) (by kernel_rfl) (fun _ _ _ h => h) (Or.inl ⟨by kernel_rfl, ?h16a⟩) hS ?_
    case h16a => (rintro w2 hb; obtain ⟨e0, e1, e2, e3⟩ := HF3.out w2 hb; go_simp; try with_reducible rfl)
    refine wpAnyH_take (i := 17) (v := undef) rfl (by kernel_rfl) (by kernel_rfl) (by kernel_rfl) (fun _ _ _ h => h) (Or.inr ⟨by kernel_rfl, rfl⟩) hS ?_
    refine wpAnyH_take (i := 18) (v := undef) rfl (by kernel_rfl) (by kernel_rfl) (by kernel_rfl) (fun _ _ _ h => h) (Or.inr ⟨by kernel_rfl, rfl⟩) hS ?_
    refine wpAnyH_take (i := 19) (v := undef) rfl (by kernel_rfl) (by kernel_rfl) (by kernel_rfl) (fun _ _ _ h => h) (Or.inr ⟨by kernel_rfl, rfl⟩) hS ?_
    refine wpAnyH_take (i := 20) (v := undef) rfl (by kernel_rfl) (by kernel_rfl) (by kernel_rfl) (fun _ _ _ h => h) (Or.inr ⟨by kernel_rfl, rfl⟩) hS ?_
    refine wpAnyH_take (i := 21) (v := undef) rfl (by kernel_rfl) (by kernel_rfl) (by kernel_rfl) (fun _ _ _ h => h) (Or.inr ⟨by kernel_rfl, rfl⟩) hS ?_
    refine wpAnyH_take (i := 22) (v := undef) rfl (by kernel_rfl) (by kernel_rfl) (by kernel_rfl) (fun _ _ _ h => h) (Or.inr ⟨by kernel_rfl, rfl⟩) hS ?_
    refine wpAnyH_take (i := 23) (v := undef) rfl (by kernel_rfl) (by kernel_rfl) (by kernel_rfl) (fun _ _ _ h => h) (Or.inr ⟨by kernel_rfl, rfl⟩) hS ?_
    refine wpAnyH_take (i := 24) (v := undef) rfl (by kernel_rfl) (by kernel_rfl) (by kernel_rfl) (fun _ _ _ h => h) (Or.inr ⟨by kernel_rfl, rfl⟩) hS ?_
    refine wpAnyH_take (i := 25) (v := undef) rfl (by kernel_rfl) (by kernel_rfl) (by kernel_rfl) (fun _ _ _ h => h) (Or.inr ⟨by kernel_rfl, rfl⟩) hS ?_
    refine wpAnyH_take (i := 26) (v := undef) rfl (by kernel_rfl) (by kernel_rfl) (by kernel_rfl) (fun _ _ _ h => h) (Or.inr ⟨by kernel_rfl, rfl⟩) hS ?_
    refine wpAnyH_take (i := 27) (v := undef) rfl (by kernel_rfl) (by kernel_rfl) (by kernel_rfl) (fun _ _ _ h => h) (Or.inr ⟨by kernel_rfl, rfl⟩) hS ?_
    refine wpAnyH_take (i := 28) (v := undef) rfl (by kernel_rfl) (by kernel_rfl) (by kernel_rfl) (fun _ _ _ h => h) (Or.inr ⟨by kernel_rfl, rfl⟩) hS ?_
    refine wpAnyH_take (i := 29) (v := undef) rfl (by kernel_rfl) (by kernel_rfl) (by kernel_rfl) (fun _ _ _ h => h) (Or.inr ⟨by kernel_rfl, rfl⟩) hS ?_
    refine wpAnyH_take (i := 30) (v := undef) rfl (by kernel_rfl) (by kernel_rfl) (by kernel_rfl) (fun _ _ _ h => h) (Or.inr ⟨by kernel_rfl, rfl⟩) hS ?_
    refine wpAnyH_take (i := 31) (v := undef) rfl (by kernel_rfl) (by kernel_rfl) (by kernel_rfl) (fun _ _ _ h => h) (Or.inr ⟨by kernel_rfl, rfl⟩) hS ?_
    refine wpAnyH_take (i := 32) (v := undef) rfl (by kernel_rfl) (by kernel_rfl) (by kernel_rfl) (fun _ _ _ h => h) (Or.inr ⟨by kernel_rfl, rfl⟩) hS ?_
    refine wpAnyH_take (i := 33) (v := undef) rfl (by kernel_rfl) (by kernel_rfl) (by kernel_rfl) (fun _ _ _ h => h) (Or.inr ⟨by kernel_rfl, rfl⟩) hS ?_
    refine wpAnyH_take (i := 34) (v := undef) rfl (by kernel_rfl) (by kernel_rfl) (by kernel_rfl) (fun _ _ _ h => h) (Or.inr ⟨by kernel_rfl, rfl⟩) hS ?_
    refine wpAnyH_take (i := 35) (v := undef) rfl (by kernel_rfl) (by kernel_rfl) (by kernel_rfl) (fun _ _ _ h => h) (Or.inr ⟨by kernel_rfl, rfl⟩) hS ?_
    refine wpAnyH_take (i := 36) (v := undef) rfl (by kernel_rfl) (by kernel_rfl) (by kernel_rfl) (fun _ _ _ h => h) (Or.inr ⟨by kernel_rfl, rfl⟩) hS ?_
    refine wpAnyH_take (i := 37) (v := undef) rfl (by kernel_rfl) (by kernel_rfl) (by kernel_rfl) (fun _ _ _ h => h) (Or.inr ⟨by kernel_rfl, rfl⟩) hS ?_
    refine wpAnyH_take (i := 38) (v := undef) rfl (by kernel_rfl) (by kernel_rfl) (by kernel_rfl) (fun _ _ _ h => h) (Or.inr ⟨by kernel_rfl, rfl⟩) hS ?_
    refine wpAnyH_take (i := 39) (v := ?v39a) rfl (by kernel_rfl) (by kernel_rfl) (by kernel_rfl) (fun _ _ _ h => h) (Or.inl ⟨by kernel_rfl, ?h39a⟩) hS ?_
    case h39a => (rintro w2 hb; obtain ⟨e0, e1, e2, e3⟩ := HF3.out w2 hb; go_simp; try with_reducible rfl)
    refine wpAnyH_take (i := 40) (v := ?v40a) rfl (by kernel_rfl) (by kernel_rfl) (by kernel_rfl) (fun _ _ _ h => h) (Or.inl ⟨by kernel_rfl, ?h40a⟩) hS ?_
    case h40a => (rintro w2 hb; obtain ⟨e0, e1, e2, e3⟩ := HF3.out w2 hb; go_simp; try with_reducible rfl)
    refine wpAnyH_done (by kernel_rfl) ?_ _
    go_simp
    obtain ⟨V, hV⟩ : ∃ V, W3.drew = V := ⟨_, rfl⟩
    have HB4 : Hid (Below w.heap.size w V) := Lib.hid (by rw [← hV]; exact HB3.out.drew)
    have HZ4 : Hid (V.heap[w.heap.size]? = some (.cells #[.int .i64 br, .int .i64 bc, .slice Af fl cf, .slice Al ln cl] 29 (0, 0))) := Lib.hid (by rw [← hV]; exact HZ3.out)
    have HVE := Lib.hid hV
    clear hV
    go_wp2_with fail
    rw [HVE.out]
    clear HVE
    refine (HBLO.out _ (H.out.later HB4.out)).mono ?_
    rintro e w5 ⟨rfl, hb5⟩
    rw [HV2.out]
    have hz5 := (hb5.block _ (Array.getElem?_eq_some_iff.1 HZ4.out).1).trans HZ4.out
    have HB5 := Lib.hid (HB4.out.trans (hb5.mono HB4.out.size))
    have HZ5 := Lib.hid hz5
    obtain ⟨p0, p1, p2, p3, _⟩ := box4 hz5
    clear hb5 hz5 HZ4
    go_wp2_with fail
    refine (HOWN.out _ (H.out.later HB5.out)).mono ?_
    rintro e w6 ⟨rfl, hb6⟩
    have hz6 := (hb6.block _ (Array.getElem?_eq_some_iff.1 HZ5.out).1).trans HZ5.out
    have HB6 := Lib.hid (HB5.out.trans (hb6.mono HB5.out.size))
    have HZ6 := Lib.hid hz6
    clear hb6 hz6 HZ5 p0 p1 p2 p3
    rcases HOW.out with ⟨ho0, rfl⟩ | ⟨i2, d2, ho0, hdi2, rfl⟩
    · have HV3 : Hid (OA = .tuple #[.agg #[.int .i64 0, .int .i64 0, .int .i64 0, .int .i64 0], .bool false]) := Lib.hid (HOA.out.trans (by rw [ho0]; rfl))
      rw [HV3.out]
      have hz9 := World.alloc_heap_new w6 (.cells #[.int .i64 0, .int .i64 0, .int .i64 0, .int .i64 0] 47)
      have hb9 := (Below.refl w6.heap.size w6).alloc (Nat.le_refl _) (.cells #[.int .i64 0, .int .i64 0, .int .i64 0, .int .i64 0] 47)
      have hzb := (hb9.block _ (Array.getElem?_eq_some_iff.1 HZ6.out).1).trans HZ6.out
      obtain ⟨p0, p1, p2, p3, _⟩ := box4 hzb
      obtain ⟨W7, hW7⟩ : ∃ W7, w6.alloc (.cells #[.int .i64 0, .int .i64 0, .int .i64 0, .int .i64 0] 47) = W7 := ⟨_, rfl⟩
      rw [hW7] at hz9 hb9 hzb
      have HW7 := Lib.hid hW7
      have HB7 := Lib.hid (HB6.out.trans (hb9.mono HB6.out.size))
      have HZ7 := Lib.hid hzb
      have HX7 := Lib.hid hz9
      clear hW7 hz9 hb9 hzb HZ6
      go_wp2_with fail
      rw [HW7.out]
      refine (HROW.out _ (HR.out.later HB7.out)).mono ?_
      rintro e W8 ⟨rfl, hb8⟩
      have hz3 := (hb8.block _ (Array.getElem?_eq_some_iff.1 HZ7.out).1).trans HZ7.out
      have hx3 := (hb8.block _ (Array.getElem?_eq_some_iff.1 HX7.out).1).trans HX7.out
      have HB8 := Lib.hid (HB7.out.trans (hb8.mono HB7.out.size))
      have HBF := HB8
      have HF8 : Hid (∀ X, Below W8.heap.size W8 X → X.cell? ⟨w6.heap.size, 0, none⟩ = some (.int .i64 0) ∧ X.cell? ⟨w6.heap.size, 1, none⟩ = some (.int .i64 0) ∧ X.cell? ⟨w6.heap.size, 2, none⟩ = some (.int .i64 0) ∧ X.cell? ⟨w6.heap.size, 3, none⟩ = some (.int .i64 0)) := Lib.hid (fun X hX => by
        obtain ⟨c0, c1, c2, c3, _⟩ := box4 ((hX.block _ (Array.getElem?_eq_some_iff.1 hx3).1).trans hx3)
        exact ⟨c0, c1, c2, c3⟩)
      clear hz3 hx3 hb8 HZ7 HX7 p0 p1 p2 p3
      go_wp2_with fail
      refine wp_region_held_drew (S := fun X => Below W8.heap.size W8 X) (by kernel_rfl) ((Below.refl _ _).drew) (fun hS => ?_)
      refine wpAnyH_take (i := 0) (v := ?v0ca) rfl (by kernel_rfl) (by kernel_rfl) (by kernel_rfl) (fun _ _ _ h => h) (Or.inl ⟨by kernel_rfl, ?h0ca⟩) hS ?_
      case h0ca => (rintro w2 hb; obtain ⟨e0, e1, e2, e3⟩ := HF8.out w2 hb; go_simp; try with_reducible rfl)
      refine wpAnyH_take (i := 1) (v := ?v1ca) rfl (by kernel_rfl) (by kernel_rfl) (by kernel_rfl) (fun _ _ _ h => h) (Or.inl ⟨by kernel_rfl, ?h1ca⟩) hS ?_
      case h1ca => (rintro w2 hb; obtain ⟨e0, e1, e2, e3⟩ := HF8.out w2 hb; go_simp; try with_reducible rfl)
      refine wpAnyH_take (i := 2) (v := ?v2ca) rfl (by kernel_rfl) (by kernel_rfl) (by kernel_rfl) (fun _ _ _ h => h) (Or.inl ⟨by kernel_rfl, ?h2ca⟩) hS ?_
      case h2ca => (rintro w2 hb; obtain ⟨e0, e1, e2, e3⟩ := HF8.out w2 hb; go_simp; try with_reducible rfl)
      refine wpAnyH_take (i := 3) (v := ?v3ca) rfl (by kernel_rfl) (by kernel_rfl) (by kernel_rfl) (fun _ _ _ h => h) (Or.inl ⟨by kernel_rfl, ?h3ca⟩) hS ?_
      case h3ca => (rintro w2 hb; obtain ⟨e0, e1, e2, e3⟩ := HF8.out w2 hb; go_simp; try with_reducible rfl)
      refine wpAnyH_take (i := 4) (v := ?v4ca) rfl (by kernel_rfl) (by kernel_rfl) (by kernel_rfl) (fun _ _ _ h => h) (Or.inl ⟨by kernel_rfl, ?h4ca⟩) hS ?_
      case h4ca => (rintro w2 hb; obtain ⟨e0, e1, e2, e3⟩ := HF8.out w2 hb; go_simp; try with_reducible rfl)
      refine wpAnyH_take (i := 5) (v := ?v5ca) rfl (by kernel_rfl) (by kernel_rfl) (by kernel_rfl) (fun _ _ _ h => h) (Or.inl ⟨by kernel_rfl, ?h5ca⟩) hS ?_
      case h5ca => (rintro w2 hb; obtain ⟨e0, e1, e2, e3⟩ := HF8.out w2 hb; go_simp; try with_reducible rfl)
      refine wpAnyH_take (i := 6) (v := ?v6ca) rfl (by kernel_rfl) (by kernel_rfl) (by kernel_rfl) (fun _ _ _ h => h) (Or.inl ⟨by kernel_rfl, ?h6ca⟩) hS ?_
      case h6ca => (rintro w2 hb; obtain ⟨e0, e1, e2, e3⟩ := HF8.out w2 hb; go_simp; try with_reducible rfl)
      refine wpAnyH_take (i := 7) (v := ?v7ca) rfl (by kernel_rfl) (by kernel_rfl) (by kernel_rfl) (fun _ _ _ h => h) (Or.inl ⟨by kernel_rfl, ?h7ca⟩) hS ?_
      case h7ca => (rintro w2 hb; obtain ⟨e0, e1, e2, e3⟩ := HF8.out w2 hb; go_simp; try with_reducible rfl)
      refine wpAnyH_take (i := 8) (v := ?v8ca) rfl (by kernel_rfl) (by kernel_rfl) (by kernel_rfl) (fun _ _ _ h => h) (Or.inl ⟨by kernel_rfl, ?h8ca⟩) hS ?_
      case h8ca => (rintro w2 hb; obtain ⟨e0, e1, e2, e3⟩ := HF8.out w2 hb; go_simp; try with_reducible rfl)
      refine wpAnyH_take (i := 9) (v := ?v9ca) rfl (by kernel_rfl) (by kernel_rfl) (by kernel_rfl) (fun _ _ _ h => h) (Or.inl ⟨by kernel_rfl, ?h9ca⟩) hS ?_
      case h9ca => (rintro w2 hb; obtain ⟨e0, e1, e2, e3⟩ := HF8.out w2 hb; go_simp; try with_reducible rfl)
      refine wpAnyH_take (i := 10) (v := ?v10ca) rfl (by kernel_rfl) (by kernel_rfl) (by kernel_rfl) (fun _ _ _ h => h) (Or.inl ⟨by kernel_rfl, ?h10ca⟩) hS ?_
      case h10ca => (rintro w2 hb; obtain ⟨e0, e1, e2, e3⟩ := HF8.out w2 hb; go_simp; try with_reducible rfl)
      refine wpAnyH_take (i := 11) (v := ?v11ca) rfl (by kernel_rfl) (by kernel_rfl) (by kernel_rfl) (fun _ _ _ h => h) (Or.inl ⟨by kernel_rfl, ?h11ca⟩) hS ?_
      case h11ca => (rintro w2 hb; obtain ⟨e0, e1, e2, e3⟩ := HF8.out w2 hb; go_simp; try with_reducible rfl)
      refine wpAnyH_take (i := 12) (v := undef) rfl (by kernel_rfl) (by kernel_rfl) (by kernel_rfl) (fun _ _ _ h => h) (Or.inr ⟨by kernel_rfl, rfl⟩) hS ?_
      refine wpAnyH_take (i := 13) (v := undef) rfl (by kernel_rfl) (by kernel_rfl) (by kernel_rfl) (fun _ _ _ h => h) (Or.inr ⟨by kernel_rfl, rfl⟩) hS ?_
      refine wpAnyH_take (i := 14) (v := undef) rfl (by kernel_rfl) (by kernel_rfl) (by kernel_rfl) (fun _ _ _ h => h) (Or.inr ⟨by kernel_rfl, rfl⟩) hS ?_
      refine wpAnyH_take (i := 15) (v := undef) rfl (by kernel_rfl) (by kernel_rfl) (by kernel_rfl) (fun _ _ _ h => h) (Or.inr ⟨by kernel_rfl, rfl⟩) hS ?_
      refine wpAnyH_take (i := 16) (v := undef) rfl (by kernel_rfl) (by kernel_rfl) (by kernel_rfl) (fun _ _ _ h => h) (Or.inr ⟨by kernel_rfl, rfl⟩) hS ?_
      refine wpAnyH_take (i := 17) (v := undef) rfl (by kernel_rfl) (by kernel_rfl) (by kernel_rfl) (fun _ _ _ h => h) (Or.inr ⟨by kernel_rfl, rfl⟩) hS ?_
      refine wpAnyH_take (i := 18) (v := undef) rfl (by kernel_rfl) (by kernel_rfl) (by kernel_rfl) (fun _ _ _ h => h) (Or.inr ⟨by kernel_rfl, rfl⟩) hS ?_
      refine wpAnyH_take (i := 19) (v := undef) rfl (by kernel_rfl) (by kernel_rfl) (by kernel_rfl) (fun _ _ _ h => h) (Or.inr ⟨by kernel_rfl, rfl⟩) hS ?_
      refine wpAnyH_take (i := 20) (v := undef) rfl (by kernel_rfl) (by kernel_rfl) (by kernel_rfl) (fun _ _ _ h => h) (Or.inr ⟨by kernel_rfl, rfl⟩) hS ?_
      refine wpAnyH_take (i := 21) (v := undef) rfl (by kernel_rfl) (by kernel_rfl) (by kernel_rfl) (fun _ _ _ h => h) (Or.inr ⟨by kernel_rfl, rfl⟩) hS ?_
      refine wpAnyH_take (i := 22) (v := undef) rfl (by kernel_rfl) (by kernel_rfl) (by kernel_rfl) (fun _ _ _ h => h) (Or.inr ⟨by kernel_rfl, rfl⟩) hS ?_
      refine wpAnyH_take (i := 23) (v := undef) rfl (by kernel_rfl) (by kernel_rfl) (by kernel_rfl) (fun _ _ _ h => h) (Or.inr ⟨by kernel_rfl, rfl⟩) hS ?_
      refine wpAnyH_take (i := 24) (v := undef) rfl (by kernel_rfl) (by kernel_rfl) (by kernel_rfl) (fun _ _ _ h => h) (Or.inr ⟨by kernel_rfl, rfl⟩) hS ?_
      refine wpAnyH_take (i := 25) (v := undef) rfl (by kernel_rfl) (by kernel_rfl) (by kernel_rfl) (fun _ _ _ h => h) (Or.inr ⟨by kernel_rfl, rfl⟩) hS ?_
      refine wpAnyH_take (i := 26) (v := undef) rfl (by kernel_rfl) (by kernel_rfl) (by kernel_rfl) (fun _ _ _ h => h) (Or.inr ⟨by kernel_rfl, rfl⟩) hS ?_
      refine wpAnyH_take (i := 27) (v := ?v27ca) rfl (by kernel_rfl) (by kernel_rfl) (by kernel_rfl) (fun _ _ _ h => h) (Or.inl ⟨by kernel_rfl, ?h27ca⟩) hS ?_
      case h27ca => (rintro w2 hb; obtain ⟨e0, e1, e2, e3⟩ := HF8.out w2 hb; go_simp; try with_reducible rfl)
      refine wpAnyH_take (i := 28) (v := ?v28ca) rfl (by kernel_rfl) (by kernel_rfl) (by kernel_rfl) (fun _ _ _ h => h) (Or.inl ⟨by kernel_rfl, ?h28ca⟩) hS ?_
      case h28ca => (rintro w2 hb; obtain ⟨e0, e1, e2, e3⟩ := HF8.out w2 hb; go_simp; try with_reducible rfl)
      refine wpAnyH_done (by kernel_rfl) ?_ _
      go_simp
      go_wp2_with fail
      exact bodyPost_ret (v := .bool true) (by simp [results, Try.f18, go_sem]) rfl ⟨rfl, HB8.out.drew⟩
    · obtain ⟨⟨s1, s2, s3, s4⟩, st2, ⟨pp2, qq2⟩, hh2⟩ := d2
      have HV3 : Hid (OA = .tuple #[.agg #[.int .i64 s1, .int .i64 s2, .int .i64 s3, .int .i64 s4], .bool true]) := Lib.hid (HOA.out.trans (by rw [ho0]; rfl))
      obtain ⟨ad, rfl, hil2, hc82⟩ := HCELLS.out i2 _ hdi2
      have HC2 := Lib.hid hc82
      have hj0 : (0 : Int) ≤ ↑i2 := by omega
      have hj1 : (↑i2 : Int) < ↑ln := by omega
      have hj2 : ¬ (↑i2 : Int) < 0 := by omega
      clear hc82 hdi2
      rw [HV3.out]
      have hz9 := World.alloc_heap_new w6 (.cells #[.int .i64 s1, .int .i64 s2, .int .i64 s3, .int .i64 s4] 47)
      have hb9 := (Below.refl w6.heap.size w6).alloc (Nat.le_refl _) (.cells #[.int .i64 s1, .int .i64 s2, .int .i64 s3, .int .i64 s4] 47)
      have hzb := (hb9.block _ (Array.getElem?_eq_some_iff.1 HZ6.out).1).trans HZ6.out
      obtain ⟨p0, p1, p2, p3, _⟩ := box4 hzb
      obtain ⟨W7, hW7⟩ : ∃ W7, w6.alloc (.cells #[.int .i64 s1, .int .i64 s2, .int .i64 s3, .int .i64 s4] 47) = W7 := ⟨_, rfl⟩
      rw [hW7] at hz9 hb9 hzb
      have HW7 := Lib.hid hW7
      have HB7 := Lib.hid (HB6.out.trans (hb9.mono HB6.out.size))
      have HZ7 := Lib.hid hzb
      have HX7 := Lib.hid hz9
      clear hW7 hz9 hb9 hzb HZ6
      go_wp2_with fail
      rw [HW7.out]
      refine (HROW.out _ (HR.out.later HB7.out)).mono ?_
      rintro e W8 ⟨rfl, hb8⟩
      have hz3 := (hb8.block _ (Array.getElem?_eq_some_iff.1 HZ7.out).1).trans HZ7.out
      have hx3 := (hb8.block _ (Array.getElem?_eq_some_iff.1 HX7.out).1).trans HX7.out
      have HB8 := Lib.hid (HB7.out.trans (hb8.mono HB7.out.size))
      have HBF := HB8
      have HF8 : Hid (∀ X, Below W8.heap.size W8 X → X.cell? ⟨w6.heap.size, 0, none⟩ = some (.int .i64 s1) ∧ X.cell? ⟨w6.heap.size, 1, none⟩ = some (.int .i64 s2) ∧ X.cell? ⟨w6.heap.size, 2, none⟩ = some (.int .i64 s3) ∧ X.cell? ⟨w6.heap.size, 3, none⟩ = some (.int .i64 s4) ∧ X.cell? ⟨w.heap.size, 0, none⟩ = some (.int .i64 br) ∧ X.cell? ⟨w.heap.size, 1, none⟩ = some (.int .i64 bc) ∧ X.cell? ⟨w.heap.size, 2, none⟩ = some (.slice Af fl cf) ∧ X.cell? ⟨w.heap.size, 3, none⟩ = some (.slice (some ad) ln cl) ∧ Cell8 X ad i2 ⟨(s1, s2, s3, s4), st2, (pp2, qq2), hh2⟩) := Lib.hid (fun X hX => by
        obtain ⟨c0, c1, c2, c3, _⟩ := box4 ((hX.block _ (Array.getElem?_eq_some_iff.1 hx3).1).trans hx3)
        obtain ⟨q0, q1, q2, q3, _⟩ := box4 ((hX.block _ (Array.getElem?_eq_some_iff.1 hz3).1).trans hz3)
        exact ⟨c0, c1, c2, c3, q0, q1, q2, q3, HC2.out X (HBF.out.trans (hX.mono HBF.out.size))⟩)
      clear hz3 hx3 hb8 HZ7 HX7 p0 p1 p2 p3
      go_wp2_with fail
      refine wp_region_held_drew (S := fun X => Below W8.heap.size W8 X) (by kernel_rfl) ((Below.refl _ _).drew) (fun hS => ?_)
      refine wpAnyH_take (i := 0) (v := ?v0da) rfl (by kernel_rfl) (by kernel_rfl) (by kernel_rfl) (fun _ _ _ h => h) (Or.inl ⟨by kernel_rfl, ?h0da⟩) hS ?_
      case h0da => (rintro w2 hb; obtain ⟨e0, e1, e2, e3, x0, x1, x2, x3, q0, q1, q2, q3, q4, q5, q6, q7⟩ := HF8.out w2 hb; go_simp; try with_reducible rfl)
      refine wpAnyH_take (i := 1) (v := .bool false) rfl (by kernel_rfl) (by kernel_rfl) (by kernel_rfl) (fun _ _ _ h => h) (Or.inl ⟨by kernel_rfl, ?h1da⟩) hS ?_
      case h1da => (rintro w2 hb; obtain ⟨e0, e1, e2, e3, x0, x1, x2, x3, q0, q1, q2, q3, q4, q5, q6, q7⟩ := HF8.out w2 hb; go_simp; try with_reducible rfl)
      refine wpAnyH_take (i := 2) (v := .bool false) rfl (by kernel_rfl) (by kernel_rfl) (by kernel_rfl) (fun _ _ _ h => h) (Or.inl ⟨by kernel_rfl, ?h2da⟩) hS ?_
      case h2da => (rintro w2 hb; obtain ⟨e0, e1, e2, e3, x0, x1, x2, x3, q0, q1, q2, q3, q4, q5, q6, q7⟩ := HF8.out w2 hb; go_simp; try with_reducible rfl)
      refine wpAnyH_take (i := 3) (v := undef) rfl (by kernel_rfl) (by kernel_rfl) (by kernel_rfl) (fun _ _ _ h => h) (Or.inr ⟨by kernel_rfl, rfl⟩) hS ?_
      refine wpAnyH_take (i := 4) (v := undef) rfl (by kernel_rfl) (by kernel_rfl) (by kernel_rfl) (fun _ _ _ h => h) (Or.inr ⟨by kernel_rfl, rfl⟩) hS ?_
      refine wpAnyH_take (i := 5) (v := .bool false) rfl (by kernel_rfl) (by kernel_rfl) (by kernel_rfl) (fun _ _ _ h => h) (Or.inl ⟨by kernel_rfl, ?h5da⟩) hS ?_
      case h5da => (rintro w2 hb; obtain ⟨e0, e1, e2, e3, x0, x1, x2, x3, q0, q1, q2, q3, q4, q5, q6, q7⟩ := HF8.out w2 hb; go_simp; try with_reducible rfl)
      refine wpAnyH_take (i := 6) (v := .bool false) rfl (by kernel_rfl) (by kernel_rfl) (by kernel_rfl) (fun _ _ _ h => h) (Or.inl ⟨by kernel_rfl, ?h6da⟩) hS ?_
      case h6da => (rintro w2 hb; obtain ⟨e0, e1, e2, e3, x0, x1, x2, x3, q0, q1, q2, q3, q4, q5, q6, q7⟩ := HF8.out w2 hb; go_simp; try with_reducible rfl)
      refine wpAnyH_take (i := 7) (v := undef) rfl (by kernel_rfl) (by kernel_rfl) (by kernel_rfl) (fun _ _ _ h => h) (Or.inr ⟨by kernel_rfl, rfl⟩) hS ?_
      refine wpAnyH_take (i := 8) (v := undef) rfl (by kernel_rfl) (by kernel_rfl) (by kernel_rfl) (fun _ _ _ h => h) (Or.inr ⟨by kernel_rfl, rfl⟩) hS ?_
      refine wpAnyH_take (i := 9) (v := undef) rfl (by kernel_rfl) (by kernel_rfl) (by kernel_rfl) (fun _ _ _ h => h) (Or.inr ⟨by kernel_rfl, rfl⟩) hS ?_
      refine wpAnyH_take (i := 10) (v := .bool false) rfl (by kernel_rfl) (by kernel_rfl) (by kernel_rfl) (fun _ _ _ h => h) (Or.inl ⟨by kernel_rfl, ?h10da⟩) hS ?_
      case h10da => (rintro w2 hb; obtain ⟨e0, e1, e2, e3, x0, x1, x2, x3, q0, q1, q2, q3, q4, q5, q6, q7⟩ := HF8.out w2 hb; go_simp; try with_reducible rfl)
      refine wpAnyH_take (i := 11) (v := .bool false) rfl (by kernel_rfl) (by kernel_rfl) (by kernel_rfl) (fun _ _ _ h => h) (Or.inl ⟨by kernel_rfl, ?h11da⟩) hS ?_
      case h11da => (rintro w2 hb; obtain ⟨e0, e1, e2, e3, x0, x1, x2, x3, q0, q1, q2, q3, q4, q5, q6, q7⟩ := HF8.out w2 hb; go_simp; try with_reducible rfl)
      refine wpAnyH_take (i := 12) (v := ?v12da) rfl (by kernel_rfl) (by kernel_rfl) (by kernel_rfl) (fun _ _ _ h => h) (Or.inl ⟨by kernel_rfl, ?h12da⟩) hS ?_
      case h12da => (rintro w2 hb; obtain ⟨e0, e1, e2, e3, x0, x1, x2, x3, q0, q1, q2, q3, q4, q5, q6, q7⟩ := HF8.out w2 hb; go_simp; try with_reducible rfl)
      refine wpAnyH_take (i := 13) (v := .bool true) rfl (by kernel_rfl) (by kernel_rfl) (by kernel_rfl) (fun _ _ _ h => h) (Or.inl ⟨by kernel_rfl, ?h13da⟩) hS ?_
      case h13da => (rintro w2 hb; obtain ⟨e0, e1, e2, e3, x0, x1, x2, x3, q0, q1, q2, q3, q4, q5, q6, q7⟩ := HF8.out w2 hb; go_simp; try with_reducible rfl)
      refine wpAnyH_take (i := 14) (v := .bool true) rfl (by kernel_rfl) (by kernel_rfl) (by kernel_rfl) (fun _ _ _ h => h) (Or.inl ⟨by kernel_rfl, ?h14da⟩) hS ?_
      case h14da => (rintro w2 hb; obtain ⟨e0, e1, e2, e3, x0, x1, x2, x3, q0, q1, q2, q3, q4, q5, q6, q7⟩ := HF8.out w2 hb; go_simp; try with_reducible rfl)
      refine wpAnyH_take (i := 15) (v := .bool true) rfl (by kernel_rfl) (by kernel_rfl) (by kernel_rfl) (fun _ _ _ h => h) (Or.inl ⟨by kernel_rfl, ?h15da⟩) hS ?_
      case h15da => (rintro w2 hb; obtain ⟨e0, e1, e2, e3, x0, x1, x2, x3, q0, q1, q2, q3, q4, q5, q6, q7⟩ := HF8.out w2 hb; go_simp; try with_reducible rfl)
      refine wpAnyH_take (i := 16) (v := .bool true) rfl (by kernel_rfl) (by kernel_rfl) (by kernel_rfl) (fun _ _ _ h => h) (Or.inl ⟨by kernel_rfl, ?h16da⟩) hS ?_
      case h16da => (rintro w2 hb; obtain ⟨e0, e1, e2, e3, x0, x1, x2, x3, q0, q1, q2, q3, q4, q5, q6, q7⟩ := HF8.out w2 hb; go_simp; try with_reducible rfl)
      refine wpAnyH_take (i := 17) (v := .bool true) rfl (by kernel_rfl) (by kernel_rfl) (by kernel_rfl) (fun _ _ _ h => h) (Or.inl ⟨by kernel_rfl, ?h17da⟩) hS ?_
      case h17da => (rintro w2 hb; obtain ⟨e0, e1, e2, e3, x0, x1, x2, x3, q0, q1, q2, q3, q4, q5, q6, q7⟩ := HF8.out w2 hb; go_simp; try with_reducible rfl)
      refine wpAnyH_take (i := 18) (v := ?v18da) rfl (by kernel_rfl) (by kernel_rfl) (by kernel_rfl) (fun _ _ _ h => h) (Or.inl ⟨by kernel_rfl, ?h18da⟩) hS ?_
      case h18da => (rintro w2 hb; obtain ⟨e0, e1, e2, e3, x0, x1, x2, x3, q0, q1, q2, q3, q4, q5, q6, q7⟩ := HF8.out w2 hb; go_simp; try with_reducible rfl)
      refine wpAnyH_take (i := 19) (v := ?v19da) rfl (by kernel_rfl) (by kernel_rfl) (by kernel_rfl) (fun _ _ _ h => h) (Or.inl ⟨by kernel_rfl, ?h19da⟩) hS ?_
      case h19da => (rintro w2 hb; obtain ⟨e0, e1, e2, e3, x0, x1, x2, x3, q0, q1, q2, q3, q4, q5, q6, q7⟩ := HF8.out w2 hb; go_simp; try with_reducible rfl)
      refine wpAnyH_take (i := 20) (v := ?v20da) rfl (by kernel_rfl) (by kernel_rfl) (by kernel_rfl) (fun _ _ _ h => h) (Or.inl ⟨by kernel_rfl, ?h20da⟩) hS ?_
      case h20da => (rintro w2 hb; obtain ⟨e0, e1, e2, e3, x0, x1, x2, x3, q0, q1, q2, q3, q4, q5, q6, q7⟩ := HF8.out w2 hb; go_simp; try with_reducible rfl)
      refine wpAnyH_take (i := 21) (v := ?v21da) rfl (by kernel_rfl) (by kernel_rfl) (by kernel_rfl) (fun _ _ _ h => h) (Or.inl ⟨by kernel_rfl, ?h21da⟩) hS ?_
      case h21da => (rintro w2 hb; obtain ⟨e0, e1, e2, e3, x0, x1, x2, x3, q0, q1, q2, q3, q4, q5, q6, q7⟩ := HF8.out w2 hb; go_simp; try with_reducible rfl)
      refine wpAnyH_take (i := 22) (v := ?v22da) rfl (by kernel_rfl) (by kernel_rfl) (by kernel_rfl) (fun _ _ _ h => h) (Or.inl ⟨by kernel_rfl, ?h22da⟩) hS ?_
      case h22da => (rintro w2 hb; obtain ⟨e0, e1, e2, e3, x0, x1, x2, x3, q0, q1, q2, q3, q4, q5, q6, q7⟩ := HF8.out w2 hb; go_simp; try with_reducible rfl)
      refine wpAnyH_take (i := 23) (v := ?v23da) rfl (by kernel_rfl) (by kernel_rfl) (by kernel_rfl) (fun _ _ _ h => h) (Or.inl ⟨by kernel_rfl, ?h23da⟩) hS ?_
      case h23da => (rintro w2 hb; obtain ⟨e0, e1, e2, e3, x0, x1, x2, x3, q0, q1, q2, q3, q4, q5, q6, q7⟩ := HF8.out w2 hb; go_simp; try with_reducible rfl)
      refine wpAnyH_ready (rs := [24]) (by kernel_rfl) (by simp) (AllReadyH.cons rfl (fun K hK => ?_) AllReadyH.nil)
      go_simp
      go_wp2_with (go_at_call 17; refine (rect_any ⟨(s1, s2, s3, s4), st2, (pp2, qq2), hh2⟩ _).mono ?_; rintro e v1 ⟨rfl, hU⟩; have HU2 := Lib.hid hU; clear hU)
      refine hK.out _ _ (hS.trans (HU2.out.mono hS.size)) (fun hS24 => ?_); clear hK K
      refine wpAnyH_take (i := 25) (v := .bool true) rfl (by kernel_rfl) (by kernel_rfl) (by kernel_rfl) (fun _ _ _ h => h) (Or.inl ⟨by kernel_rfl, ?h25da⟩) hS24 ?_
      case h25da => (rintro w2 hb; obtain ⟨e0, e1, e2, e3, x0, x1, x2, x3, q0, q1, q2, q3, q4, q5, q6, q7⟩ := HF8.out w2 hb; go_simp; try with_reducible rfl)
      refine wpAnyH_take (i := 26) (v := .bool true) rfl (by kernel_rfl) (by kernel_rfl) (by kernel_rfl) (fun _ _ _ h => h) (Or.inl ⟨by kernel_rfl, ?h26da⟩) hS24 ?_
      case h26da => (rintro w2 hb; obtain ⟨e0, e1, e2, e3, x0, x1, x2, x3, q0, q1, q2, q3, q4, q5, q6, q7⟩ := HF8.out w2 hb; go_simp; try with_reducible rfl)
      refine wpAnyH_take (i := 27) (v := .bool true) rfl (by kernel_rfl) (by kernel_rfl) (by kernel_rfl) (fun _ _ _ h => h) (Or.inl ⟨by kernel_rfl, ?h27da⟩) hS24 ?_
      case h27da => (rintro w2 hb; obtain ⟨e0, e1, e2, e3, x0, x1, x2, x3, q0, q1, q2, q3, q4, q5, q6, q7⟩ := HF8.out w2 hb; go_simp; try with_reducible rfl)
      refine wpAnyH_take (i := 28) (v := ?v28da) rfl (by kernel_rfl) (by kernel_rfl) (by kernel_rfl) (fun _ _ _ h => h) (Or.inl ⟨by kernel_rfl, ?h28da⟩) hS24 ?_
      case h28da => (rintro w2 hb; obtain ⟨e0, e1, e2, e3, x0, x1, x2, x3, q0, q1, q2, q3, q4, q5, q6, q7⟩ := HF8.out w2 hb; go_simp; try with_reducible rfl)
      refine wpAnyH_done (by kernel_rfl) ?_ _
      go_simp
      go_wp2_with fail
      exact bodyPost_ret (v := .bool true) (by simp [results, Try.f18, go_sem]) rfl ⟨rfl, HB8.out.trans (hS24.mono HB8.out.size)⟩
  · obtain ⟨⟨r1, r2, r3, r4⟩, st, ⟨pp, qq⟩, hh⟩ := d
    have HV1 : Hid (DA = .tuple #[.agg #[.int .i64 r1, .int .i64 r2, .int .i64 r3, .int .i64 r4], .bool st, .bool true]) := Lib.hid (HDA.out.trans (by rw [HDC.out, hd0]; rfl))
    have HV2 : Hid (BA = .tuple #[.int .i64 pp, .int .i64 qq, .bool hh]) := Lib.hid (HBA.out.trans (by rw [HDC.out, hd0]; rfl))
    obtain ⟨ad, rfl, hil, hc8⟩ := HCELLS.out i _ hdi
    have HC1 := Lib.hid hc8
    have hi0 : (0 : Int) ≤ ↑i := by omega
    have hi1 : (↑i : Int) < ↑ln := by omega
    have hi3 : ¬ (↑i : Int) < 0 := by omega
    clear hc8 hdi
    go_enter Try.func18, Try.ntmps18
    go_wp2_with fail
    rw [HW0.out]
    refine (HDEC.out _ (H.out.later HB0.out)).mono ?_
    rintro e w1 ⟨rfl, hb1⟩
    rw [HV1.out]
    have hz1 := (hb1.block _ (Array.getElem?_eq_some_iff.1 HZ0.out).1).trans HZ0.out
    have HB1 := Lib.hid (HB0.out.trans (hb1.mono HB0.out.size))
    have HZ1 := Lib.hid hz1
    clear hb1 hz1 HZ0
    have hz9 := World.alloc_heap_new w1 (.cells #[.int .i64 r1, .int .i64 r2, .int .i64 r3, .int .i64 r4] 47)
    have hb9 := (Below.refl w1.heap.size w1).alloc (Nat.le_refl _) (.cells #[.int .i64 r1, .int .i64 r2, .int .i64 r3, .int .i64 r4] 47)
    have hzb := (hb9.block _ (Array.getElem?_eq_some_iff.1 HZ1.out).1).trans HZ1.out
    obtain ⟨p0, p1, p2, p3, _⟩ := box4 hzb
    obtain ⟨W2, hW2⟩ : ∃ W2, w1.alloc (.cells #[.int .i64 r1, .int .i64 r2, .int .i64 r3, .int .i64 r4] 47) = W2 := ⟨_, rfl⟩
    rw [hW2] at hz9 hb9 hzb
    have HW2 := Lib.hid hW2
    have HB2 := Lib.hid (HB1.out.trans (hb9.mono HB1.out.size))
    have HZ2 := Lib.hid hzb
    have HX2 := Lib.hid hz9
    clear hW2 hz9 hb9 hzb HZ1
    go_wp2_with fail
    rw [HW2.out]
    refine (HOF.out _ (HR.out.later HB2.out)).mono ?_
    rintro e W3 ⟨rfl, hb3⟩
    have hz3 := (hb3.block _ (Array.getElem?_eq_some_iff.1 HZ2.out).1).trans HZ2.out
    have hx3 := (hb3.block _ (Array.getElem?_eq_some_iff.1 HX2.out).1).trans HX2.out
    have HB3 := Lib.hid (HB2.out.trans (hb3.mono HB2.out.size))
    have HBF := HB3
    have HF3 : Hid (∀ X, Below W3.heap.size W3 X → X.cell? ⟨w1.heap.size, 0, none⟩ = some (.int .i64 r1) ∧ X.cell? ⟨w1.heap.size, 1, none⟩ = some (.int .i64 r2) ∧ X.cell? ⟨w1.heap.size, 2, none⟩ = some (.int .i64 r3) ∧ X.cell? ⟨w1.heap.size, 3, none⟩ = some (.int .i64 r4) ∧ X.cell? ⟨w.heap.size, 0, none⟩ = some (.int .i64 br) ∧ X.cell? ⟨w.heap.size, 1, none⟩ = some (.int .i64 bc) ∧ X.cell? ⟨w.heap.size, 2, none⟩ = some (.slice Af fl cf) ∧ X.cell? ⟨w.heap.size, 3, none⟩ = some (.slice (some ad) ln cl) ∧ Cell8 X ad i ⟨(r1, r2, r3, r4), st, (pp, qq), hh⟩) := Lib.hid (fun X hX => by
      obtain ⟨c0, c1, c2, c3, _⟩ := box4 ((hX.block _ (Array.getElem?_eq_some_iff.1 hx3).1).trans hx3)
      obtain ⟨q0, q1, q2, q3, _⟩ := box4 ((hX.block _ (Array.getElem?_eq_some_iff.1 hz3).1).trans hz3)
      exact ⟨c0, c1, c2, c3, q0, q1, q2, q3, HC1.out X (HBF.out.trans (hX.mono HBF.out.size))⟩)
    have HZ3 := Lib.hid hz3
    clear hz3 hx3 hb3 HZ2 HX2 p0 p1 p2 p3
    go_wp2_with fail
    refine wp_region_held_drew (S := fun X => Below W3.heap.size W3 X) (by kernel_rfl) ((Below.refl _ _).drew) (fun hS => ?_)
    refine wpAnyH_take (i := 0) (v := ?v0b) rfl (by kernel_rfl) (by kernel_rfl) (by kernel_rfl) (fun _ _ _ h => h) (Or.inl ⟨by kernel_rfl, ?h0b⟩) hS ?_
    case h0b => (rintro w2 hb; obtain ⟨e0, e1, e2, e3, x0, x1, x2, x3, q0, q1, q2, q3, q4, q5, q6, q7⟩ := HF3.out w2 hb; go_simp; try with_reducible rfl)
    refine wpAnyH_take (i := 1) (v := .bool false) rfl (by kernel_rfl) (by kernel_rfl) (by kernel_rfl) (fun _ _ _ h => h) (Or.inl ⟨by kernel_rfl, ?h1b⟩) hS ?_
    case h1b => (rintro w2 hb; obtain ⟨e0, e1, e2, e3, x0, x1, x2, x3, q0, q1, q2, q3, q4, q5, q6, q7⟩ := HF3.out w2 hb; go_simp; try with_reducible rfl)
    refine wpAnyH_take (i := 2) (v := .bool false) rfl (by kernel_rfl) (by kernel_rfl) (by kernel_rfl) (fun _ _ _ h => h) (Or.inl ⟨by kernel_rfl, ?h2b⟩) hS ?_
    case h2b => (rintro w2 hb; obtain ⟨e0, e1, e2, e3, x0, x1, x2, x3, q0, q1, q2, q3, q4, q5, q6, q7⟩ := HF3.out w2 hb; go_simp; try with_reducible rfl)
    refine wpAnyH_take (i := 3) (v := undef) rfl (by kernel_rfl) (by kernel_rfl) (by kernel_rfl) (fun _ _ _ h => h) (Or.inr ⟨by kernel_rfl, rfl⟩) hS ?_
    refine wpAnyH_take (i := 4) (v := undef) rfl (by kernel_rfl) (by kernel_rfl) (by kernel_rfl) (fun _ _ _ h => h) (Or.inr ⟨by kernel_rfl, rfl⟩) hS ?_
    refine wpAnyH_take (i := 5) (v := undef) rfl (by kernel_rfl) (by kernel_rfl) (by kernel_rfl) (fun _ _ _ h => h) (Or.inr ⟨by kernel_rfl, rfl⟩) hS ?_
    refine wpAnyH_take (i := 6) (v := undef) rfl (by kernel_rfl) (by kernel_rfl) (by kernel_rfl) (fun _ _ _ h => h) (Or.inr ⟨by kernel_rfl, rfl⟩) hS ?_
    refine wpAnyH_take (i := 7) (v := undef) rfl (by kernel_rfl) (by kernel_rfl) (by kernel_rfl) (fun _ _ _ h => h) (Or.inr ⟨by kernel_rfl, rfl⟩) hS ?_
    refine wpAnyH_take (i := 8) (v := undef) rfl (by kernel_rfl) (by kernel_rfl) (by kernel_rfl) (fun _ _ _ h => h) (Or.inr ⟨by kernel_rfl, rfl⟩) hS ?_
    refine wpAnyH_take (i := 9) (v := undef) rfl (by kernel_rfl) (by kernel_rfl) (by kernel_rfl) (fun _ _ _ h => h) (Or.inr ⟨by kernel_rfl, rfl⟩) hS ?_
    refine wpAnyH_take (i := 10) (v := undef) rfl (by kernel_rfl) (by kernel_rfl) (by kernel_rfl) (fun _ _ _ h => h) (Or.inr ⟨by kernel_rfl, rfl⟩) hS ?_
    refine wpAnyH_take (i := 11) (v := undef) rfl (by kernel_rfl) (by kernel_rfl) (by kernel_rfl) (fun _ _ _ h => h) (Or.inr ⟨by kernel_rfl, rfl⟩) hS ?_
    refine wpAnyH_take (i := 12) (v := .bool false) rfl (by kernel_rfl) (by kernel_rfl) (by kernel_rfl) (fun _ _ _ h => h) (Or.inl ⟨by kernel_rfl, ?h12b⟩) hS ?_
    case h12b => (rintro w2 hb; obtain ⟨e0, e1, e2, e3, x0, x1, x2, x3, q0, q1, q2, q3, q4, q5, q6, q7⟩ := HF3.out w2 hb; go_simp; try with_reducible rfl)
    refine wpAnyH_take (i := 13) (v := .bool false) rfl (by kernel_rfl) (by kernel_rfl) (by kernel_rfl) (fun _ _ _ h => h) (Or.inl ⟨by kernel_rfl, ?h13b⟩) hS ?_
    case h13b => (rintro w2 hb; obtain ⟨e0, e1, e2, e3, x0, x1, x2, x3, q0, q1, q2, q3, q4, q5, q6, q7⟩ := HF3.out w2 hb; go_simp; try with_reducible rfl)
    refine wpAnyH_take (i := 14) (v := ?v14b) rfl (by kernel_rfl) (by kernel_rfl) (by kernel_rfl) (fun _ _ _ h => h) (Or.inl ⟨by kernel_rfl, ?h14b⟩) hS ?_
    case h14b => (rintro w2 hb; obtain ⟨e0, e1, e2, e3, x0, x1, x2, x3, q0, q1, q2, q3, q4, q5, q6, q7⟩ := HF3.out w2 hb; go_simp; try with_reducible rfl)
    refine wpAnyH_take (i := 15) (v := .bool true) rfl (by kernel_rfl) (by kernel_rfl) (by kernel_rfl) (fun _ _ _ h => h) (Or.inl ⟨by kernel_rfl, ?h15b⟩) hS ?_
    case h15b => (rintro w2 hb; obtain ⟨e0, e1, e2, e3, x0, x1, x2, x3, q0, q1, q2, q3, q4, q5, q6, q7⟩ := HF3.out w2 hb; go_simp; try with_reducible rfl)
    refine wpAnyH_take (i := 16) (v := .bool true) rfl (by kernel_rfl) (by kernel_rfl) (by kernel_rfl) (fun _ _ _ h => h) (Or.inl ⟨by kernel_rfl, ?h16b⟩) hS ?_
    case h16b => (rintro w2 hb; obtain ⟨e0, e1, e2, e3, x0, x1, x2, x3, q0, q1, q2, q3, q4, q5, q6, q7⟩ := HF3.out w2 hb; go_simp; try with_reducible rfl)
    refine wpAnyH_take (i := 17) (v := .bool true) rfl (by kernel_rfl) (by kernel_rfl) (by kernel_rfl) (fun _ _ _ h => h) (Or.inl ⟨by kernel_rfl, ?h17b⟩) hS ?_
    case h17b => (rintro w2 hb; obtain ⟨e0, e1, e2, e3, x0, x1, x2, x3, q0, q1, q2, q3, q4, q5, q6, q7⟩ := HF3.out w2 hb; go_simp; try with_reducible rfl)
    refine wpAnyH_take (i := 18) (v := .bool false) rfl (by kernel_rfl) (by kernel_rfl) (by kernel_rfl) (fun _ _ _ h => h) (Or.inl ⟨by kernel_rfl, ?h18b⟩) hS ?_
    case h18b => (rintro w2 hb; obtain ⟨e0, e1, e2, e3, x0, x1, x2, x3, q0, q1, q2, q3, q4, q5, q6, q7⟩ := HF3.out w2 hb; go_simp; try with_reducible rfl)
    refine wpAnyH_take (i := 19) (v := .bool false) rfl (by kernel_rfl) (by kernel_rfl) (by kernel_rfl) (fun _ _ _ h => h) (Or.inl ⟨by kernel_rfl, ?h19b⟩) hS ?_
    case h19b => (rintro w2 hb; obtain ⟨e0, e1, e2, e3, x0, x1, x2, x3, q0, q1, q2, q3, q4, q5, q6, q7⟩ := HF3.out w2 hb; go_simp; try with_reducible rfl)
    refine wpAnyH_take (i := 20) (v := ?v20b) rfl (by kernel_rfl) (by kernel_rfl) (by kernel_rfl) (fun _ _ _ h => h) (Or.inl ⟨by kernel_rfl, ?h20b⟩) hS ?_
    case h20b => (rintro w2 hb; obtain ⟨e0, e1, e2, e3, x0, x1, x2, x3, q0, q1, q2, q3, q4, q5, q6, q7⟩ := HF3.out w2 hb; go_simp; try with_reducible rfl)
    refine wpAnyH_take (i := 21) (v := ?v21b) rfl (by kernel_rfl) (by kernel_rfl) (by kernel_rfl) (fun _ _ _ h => h) (Or.inl ⟨by kernel_rfl, ?h21b⟩) hS ?_
    case h21b => (rintro w2 hb; obtain ⟨e0, e1, e2, e3, x0, x1, x2, x3, q0, q1, q2, q3, q4, q5, q6, q7⟩ := HF3.out w2 hb; go_simp; try with_reducible rfl)
    refine wpAnyH_take (i := 22) (v := ?v22b) rfl (by kernel_rfl) (by kernel_rfl) (by kernel_rfl) (fun _ _ _ h => h) (Or.inl ⟨by kernel_rfl, ?h22b⟩) hS ?_
    case h22b => (rintro w2 hb; obtain ⟨e0, e1, e2, e3, x0, x1, x2, x3, q0, q1, q2, q3, q4, q5, q6, q7⟩ := HF3.out w2 hb; go_simp; try with_reducible rfl)
    refine wpAnyH_take (i := 23) (v := ?v23b) rfl (by kernel_rfl) (by kernel_rfl) (by kernel_rfl) (fun _ _ _ h => h) (Or.inl ⟨by kernel_rfl, ?h23b⟩) hS ?_
    case h23b => (rintro w2 hb; obtain ⟨e0, e1, e2, e3, x0, x1, x2, x3, q0, q1, q2, q3, q4, q5, q6, q7⟩ := HF3.out w2 hb; go_simp; try with_reducible rfl)
    refine wpAnyH_take (i := 24) (v := ?v24b) rfl (by kernel_rfl) (by kernel_rfl) (by kernel_rfl) (fun _ _ _ h => h) (Or.inl ⟨by kernel_rfl, ?h24b⟩) hS ?_
    case h24b => (rintro w2 hb; obtain ⟨e0, e1, e2, e3, x0, x1, x2, x3, q0, q1, q2, q3, q4, q5, q6, q7⟩ := HF3.out w2 hb; go_simp; try with_reducible rfl)
    refine wpAnyH_take (i := 25) (v := ?v25b) rfl (by kernel_rfl) (by kernel_rfl) (by kernel_rfl) (fun _ _ _ h => h) (Or.inl ⟨by kernel_rfl, ?h25b⟩) hS ?_
    case h25b => (rintro w2 hb; obtain ⟨e0, e1, e2, e3, x0, x1, x2, x3, q0, q1, q2, q3, q4, q5, q6, q7⟩ := HF3.out w2 hb; go_simp; try with_reducible rfl)
    refine wpAnyH_ready (rs := [26]) (by kernel_rfl) (by simp) (AllReadyH.cons rfl (fun K hK => ?_) AllReadyH.nil)
    go_simp
    go_wp2_with (go_at_call 17; refine (rect_any ⟨(r1, r2, r3, r4), st, (pp, qq), hh⟩ _).mono ?_; rintro e v1 ⟨rfl, hU⟩; have HU2 := Lib.hid hU; clear hU)
    refine hK.out _ _ (hS.trans (HU2.out.mono hS.size)) (fun hS26 => ?_); clear hK K
    refine wpAnyH_take (i := 27) (v := .bool false) rfl (by kernel_rfl) (by kernel_rfl) (by kernel_rfl) (fun _ _ _ h => h) (Or.inl ⟨by kernel_rfl, ?h27b⟩) hS26 ?_
    case h27b => (rintro w2 hb; obtain ⟨e0, e1, e2, e3, x0, x1, x2, x3, q0, q1, q2, q3, q4, q5, q6, q7⟩ := HF3.out w2 hb; go_simp; try with_reducible rfl)
    refine wpAnyH_take (i := 28) (v := .bool false) rfl (by kernel_rfl) (by kernel_rfl) (by kernel_rfl) (fun _ _ _ h => h) (Or.inl ⟨by kernel_rfl, ?h28b⟩) hS26 ?_
    case h28b => (rintro w2 hb; obtain ⟨e0, e1, e2, e3, x0, x1, x2, x3, q0, q1, q2, q3, q4, q5, q6, q7⟩ := HF3.out w2 hb; go_simp; try with_reducible rfl)
    refine wpAnyH_take (i := 29) (v := .bool false) rfl (by kernel_rfl) (by kernel_rfl) (by kernel_rfl) (fun _ _ _ h => h) (Or.inl ⟨by kernel_rfl, ?h29b⟩) hS26 ?_
    case h29b => (rintro w2 hb; obtain ⟨e0, e1, e2, e3, x0, x1, x2, x3, q0, q1, q2, q3, q4, q5, q6, q7⟩ := HF3.out w2 hb; go_simp; try with_reducible rfl)
    refine wpAnyH_take (i := 30) (v := ?v30b) rfl (by kernel_rfl) (by kernel_rfl) (by kernel_rfl) (fun _ _ _ h => h) (Or.inl ⟨by kernel_rfl, ?h30b⟩) hS26 ?_
    case h30b => (rintro w2 hb; obtain ⟨e0, e1, e2, e3, x0, x1, x2, x3, q0, q1, q2, q3, q4, q5, q6, q7⟩ := HF3.out w2 hb; go_simp; try with_reducible rfl)
    refine wpAnyH_take (i := 31) (v := ?v31b) rfl (by kernel_rfl) (by kernel_rfl) (by kernel_rfl) (fun _ _ _ h => h) (Or.inl ⟨by kernel_rfl, ?h31b⟩) hS26 ?_
    case h31b => (rintro w2 hb; obtain ⟨e0, e1, e2, e3, x0, x1, x2, x3, q0, q1, q2, q3, q4, q5, q6, q7⟩ := HF3.out w2 hb; go_simp; try with_reducible rfl)
    refine wpAnyH_take (i := 32) (v := ?v32b) rfl (by kernel_rfl) (by kernel_rfl) (by kernel_rfl) (fun _ _ _ h => h) (Or.inl ⟨by kernel_rfl, ?h32b⟩) hS26 ?_
    case h32b => (rintro w2 hb; obtain ⟨e0, e1, e2, e3, x0, x1, x2, x3, q0, q1, q2, q3, q4, q5, q6, q7⟩ := HF3.out w2 hb; go_simp; try with_reducible rfl)
    refine wpAnyH_take (i := 33) (v := ?v33b) rfl (by kernel_rfl) (by kernel_rfl) (by kernel_rfl) (fun _ _ _ h => h) (Or.inl ⟨by kernel_rfl, ?h33b⟩) hS26 ?_
    case h33b => (rintro w2 hb; obtain ⟨e0, e1, e2, e3, x0, x1, x2, x3, q0, q1, q2, q3, q4, q5, q6, q7⟩ := HF3.out w2 hb; go_simp; try with_reducible rfl)
    refine wpAnyH_take (i := 34) (v := ?v34b) rfl (by kernel_rfl) (by kernel_rfl) (by kernel_rfl) (fun _ _ _ h => h) (Or.inl ⟨by kernel_rfl, ?h34b⟩) hS26 ?_
    case h34b => (rintro w2 hb; obtain ⟨e0, e1, e2, e3, x0, x1, x2, x3, q0, q1, q2, q3, q4, q5, q6, q7⟩ := HF3.out w2 hb; go_simp; try with_reducible rfl)
    refine wpAnyH_take (i := 35) (v := ?v35b) rfl (by kernel_rfl) (by kernel_rfl) (by kernel_rfl) (fun _ _ _ h => h) (Or.inl ⟨by kernel_rfl, ?h35b⟩) hS26 ?_
    case h35b => (rintro w2 hb; obtain ⟨e0, e1, e2, e3, x0, x1, x2, x3, q0, q1, q2, q3, q4, q5, q6, q7⟩ := HF3.out w2 hb; go_simp; try with_reducible rfl)
    refine wpAnyH_take (i := 36) (v := ?v36b) rfl (by kernel_rfl) (by kernel_rfl) (by kernel_rfl) (fun _ _ _ h => h) (Or.inl ⟨by kernel_rfl, ?h36b⟩) hS26 ?_
    case h36b => (rintro w2 hb; obtain ⟨e0, e1, e2, e3, x0, x1, x2, x3, q0, q1, q2, q3, q4, q5, q6, q7⟩ := HF3.out w2 hb; go_simp; try with_reducible rfl)
    refine wpAnyH_take (i := 37) (v := .bool false) rfl (by kernel_rfl) (by kernel_rfl) (by kernel_rfl) (fun _ _ _ h => h) (Or.inl ⟨by kernel_rfl, ?h37b⟩) hS26 ?_
    case h37b => (rintro w2 hb; obtain ⟨e0, e1, e2, e3, x0, x1, x2, x3, q0, q1, q2, q3, q4, q5, q6, q7⟩ := HF3.out w2 hb; go_simp; try with_reducible rfl)
    refine wpAnyH_take (i := 38) (v := .bool false) rfl (by kernel_rfl) (by kernel_rfl) (by kernel_rfl) (fun _ _ _ h => h) (Or.inl ⟨by kernel_rfl, ?h38b⟩) hS26 ?_
    case h38b => (rintro w2 hb; obtain ⟨e0, e1, e2, e3, x0, x1, x2, x3, q0, q1, q2, q3, q4, q5, q6, q7⟩ := HF3.out w2 hb; go_simp; try with_reducible rfl)
    refine wpAnyH_take (i := 39) (v := .bool false) rfl (by kernel_rfl) (by kernel_rfl) (by kernel_rfl) (fun _ _ _ h => h) (Or.inl ⟨by kernel_rfl, ?h39b⟩) hS26 ?_
    case h39b => (rintro w2 hb; obtain ⟨e0, e1, e2, e3, x0, x1, x2, x3, q0, q1, q2, q3, q4, q5, q6, q7⟩ := HF3.out w2 hb; go_simp; try with_reducible rfl)
    refine wpAnyH_take (i := 40) (v := .bool false) rfl (by kernel_rfl) (by kernel_rfl) (by kernel_rfl) (fun _ _ _ h => h) (Or.inl ⟨by kernel_rfl, ?h40b⟩) hS26 ?_
    case h40b => (rintro w2 hb; obtain ⟨e0, e1, e2, e3, x0, x1, x2, x3, q0, q1, q2, q3, q4, q5, q6, q7⟩ := HF3.out w2 hb; go_simp; try with_reducible rfl)
    refine wpAnyH_done (by kernel_rfl) ?_ _
    go_simp
    obtain ⟨V, hV⟩ : ∃ V, v1 = V := ⟨_, rfl⟩
    have HB4 : Hid (Below w.heap.size w V) := Lib.hid (by rw [← hV]; exact HB3.out.trans (hS26.mono HB3.out.size))
    have HZ4 : Hid (V.heap[w.heap.size]? = some (.cells #[.int .i64 br, .int .i64 bc, .slice Af fl cf, .slice (some ad) ln cl] 29 (0, 0))) := Lib.hid (by rw [← hV]; exact (hS26.block _ (Array.getElem?_eq_some_iff.1 HZ3.out).1).trans HZ3.out)
    have HVE := Lib.hid hV
    clear hV
    go_wp2_with fail
    rw [HVE.out]
    clear HVE
    refine (HBLO.out _ (H.out.later HB4.out)).mono ?_
    rintro e w5 ⟨rfl, hb5⟩
    rw [HV2.out]
    have hz5 := (hb5.block _ (Array.getElem?_eq_some_iff.1 HZ4.out).1).trans HZ4.out
    have HB5 := Lib.hid (HB4.out.trans (hb5.mono HB4.out.size))
    have HZ5 := Lib.hid hz5
    obtain ⟨p0, p1, p2, p3, _⟩ := box4 hz5
    obtain ⟨y0, y1, y2, y3, y4, y5, y6, y7⟩ := HC1.out w5 HB5.out
    clear hb5 hz5 HZ4
    go_wp2_with fail
    refine (HOWN.out _ (H.out.later HB5.out)).mono ?_
    rintro e w6 ⟨rfl, hb6⟩
    have hz6 := (hb6.block _ (Array.getElem?_eq_some_iff.1 HZ5.out).1).trans HZ5.out
    have HB6 := Lib.hid (HB5.out.trans (hb6.mono HB5.out.size))
    have HZ6 := Lib.hid hz6
    clear y0 y1 y2 y3 y4 y5 y6 y7
    clear hb6 hz6 HZ5 p0 p1 p2 p3
    rcases HOW.out with ⟨ho0, rfl⟩ | ⟨i2, d2, ho0, hdi2, rfl⟩
    · have HV3 : Hid (OA = .tuple #[.agg #[.int .i64 0, .int .i64 0, .int .i64 0, .int .i64 0], .bool false]) := Lib.hid (HOA.out.trans (by rw [ho0]; rfl))
      rw [HV3.out]
      have hz9 := World.alloc_heap_new w6 (.cells #[.int .i64 0, .int .i64 0, .int .i64 0, .int .i64 0] 47)
      have hb9 := (Below.refl w6.heap.size w6).alloc (Nat.le_refl _) (.cells #[.int .i64 0, .int .i64 0, .int .i64 0, .int .i64 0] 47)
      have hzb := (hb9.block _ (Array.getElem?_eq_some_iff.1 HZ6.out).1).trans HZ6.out
      obtain ⟨p0, p1, p2, p3, _⟩ := box4 hzb
      obtain ⟨W7, hW7⟩ : ∃ W7, w6.alloc (.cells #[.int .i64 0, .int .i64 0, .int .i64 0, .int .i64 0] 47) = W7 := ⟨_, rfl⟩
      rw [hW7] at hz9 hb9 hzb
      have HW7 := Lib.hid hW7
      have HB7 := Lib.hid (HB6.out.trans (hb9.mono HB6.out.size))
      have HZ7 := Lib.hid hzb
      have HX7 := Lib.hid hz9
      clear hW7 hz9 hb9 hzb HZ6
      go_wp2_with fail
      rw [HW7.out]
      refine (HROW.out _ (HR.out.later HB7.out)).mono ?_
      rintro e W8 ⟨rfl, hb8⟩
      have hz3 := (hb8.block _ (Array.getElem?_eq_some_iff.1 HZ7.out).1).trans HZ7.out
      have hx3 := (hb8.block _ (Array.getElem?_eq_some_iff.1 HX7.out).1).trans HX7.out
      have HB8 := Lib.hid (HB7.out.trans (hb8.mono HB7.out.size))
      have HBF := HB8
      have HF8 : Hid (∀ X, Below W8.heap.size W8 X → X.cell? ⟨w6.heap.size, 0, none⟩ = some (.int .i64 0) ∧ X.cell? ⟨w6.heap.size, 1, none⟩ = some (.int .i64 0) ∧ X.cell? ⟨w6.heap.size, 2, none⟩ = some (.int .i64 0) ∧ X.cell? ⟨w6.heap.size, 3, none⟩ = some (.int .i64 0)) := Lib.hid (fun X hX => by
        obtain ⟨c0, c1, c2, c3, _⟩ := box4 ((hX.block _ (Array.getElem?_eq_some_iff.1 hx3).1).trans hx3)
        exact ⟨c0, c1, c2, c3⟩)
      clear hz3 hx3 hb8 HZ7 HX7 p0 p1 p2 p3
      go_wp2_with fail
      refine wp_region_held_drew (S := fun X => Below W8.heap.size W8 X) (by kernel_rfl) ((Below.refl _ _).drew) (fun hS => ?_)
      refine wpAnyH_take (i := 0) (v := ?v0cb) rfl (by kernel_rfl) (by kernel_rfl) (by kernel_rfl) (fun _ _ _ h => h) (Or.inl ⟨by kernel_rfl, ?h0cb⟩) hS ?_
      case h0cb => (rintro w2 hb; obtain ⟨e0, e1, e2, e3⟩ := HF8.out w2 hb; go_simp; try with_reducible rfl)
      refine wpAnyH_take (i := 1) (v := ?v1cb) rfl (by kernel_rfl) (by kernel_rfl) (by kernel_rfl) (fun _ _ _ h => h) (Or.inl ⟨by kernel_rfl, ?h1cb⟩) hS ?_
      case h1cb => (rintro w2 hb; obtain ⟨e0, e1, e2, e3⟩ := HF8.out w2 hb; go_simp; try with_reducible rfl)
      refine wpAnyH_take (i := 2) (v := ?v2cb) rfl (by kernel_rfl) (by kernel_rfl) (by kernel_rfl) (fun _ _ _ h => h) (Or.inl ⟨by kernel_rfl, ?h2cb⟩) hS ?_
      case h2cb => (rintro w2 hb; obtain ⟨e0, e1, e2, e3⟩ := HF8.out w2 hb; go_simp; try with_reducible rfl)
      refine wpAnyH_take (i := 3) (v := ?v3cb) rfl (by kernel_rfl) (by kernel_rfl) (by kernel_rfl) (fun _ _ _ h => h) (Or.inl ⟨by kernel_rfl, ?h3cb⟩) hS ?_
      case h3cb => (rintro w2 hb; obtain ⟨e0, e1, e2, e3⟩ := HF8.out w2 hb; go_simp; try with_reducible rfl)
      refine wpAnyH_take (i := 4) (v := ?v4cb) rfl (by kernel_rfl) (by kernel_rfl) (by kernel_rfl) (fun _ _ _ h => h) (Or.inl ⟨by kernel_rfl, ?h4cb⟩) hS ?_
      case h4cb => (rintro w2 hb; obtain ⟨e0, e1, e2, e3⟩ := HF8.out w2 hb; go_simp; try with_reducible rfl)
      refine wpAnyH_take (i := 5) (v := ?v5cb) rfl (by kernel_rfl) (by kernel_rfl) (by kernel_rfl) (fun _ _ _ h => h) (Or.inl ⟨by kernel_rfl, ?h5cb⟩) hS ?_
      case h5cb => (rintro w2 hb; obtain ⟨e0, e1, e2, e3⟩ := HF8.out w2 hb; go_simp; try with_reducible rfl)
      refine wpAnyH_take (i := 6) (v := ?v6cb) rfl (by kernel_rfl) (by kernel_rfl) (by kernel_rfl) (fun _ _ _ h => h) (Or.inl ⟨by kernel_rfl, ?h6cb⟩) hS ?_
      case h6cb => (rintro w2 hb; obtain ⟨e0, e1, e2, e3⟩ := HF8.out w2 hb; go_simp; try with_reducible rfl)
      refine wpAnyH_take (i := 7) (v := ?v7cb) rfl (by kernel_rfl) (by kernel_rfl) (by kernel_rfl) (fun _ _ _ h => h) (Or.inl ⟨by kernel_rfl, ?h7cb⟩) hS ?_
      case h7cb => (rintro w2 hb; obtain ⟨e0, e1, e2, e3⟩ := HF8.out w2 hb; go_simp; try with_reducible rfl)
      refine wpAnyH_take (i := 8) (v := ?v8cb) rfl (by kernel_rfl) (by kernel_rfl) (by kernel_rfl) (fun _ _ _ h => h) (Or.inl ⟨by kernel_rfl, ?h8cb⟩) hS ?_
      case h8cb => (rintro w2 hb; obtain ⟨e0, e1, e2, e3⟩ := HF8.out w2 hb; go_simp; try with_reducible rfl)
      refine wpAnyH_take (i := 9) (v := ?v9cb) rfl (by kernel_rfl) (by kernel_rfl) (by kernel_rfl) (fun _ _ _ h => h) (Or.inl ⟨by kernel_rfl, ?h9cb⟩) hS ?_
      case h9cb => (rintro w2 hb; obtain ⟨e0, e1, e2, e3⟩ := HF8.out w2 hb; go_simp; try with_reducible rfl)
      refine wpAnyH_take (i := 10) (v := ?v10cb) rfl (by kernel_rfl) (by kernel_rfl) (by kernel_rfl) (fun _ _ _ h => h) (Or.inl ⟨by kernel_rfl, ?h10cb⟩) hS ?_
      case h10cb => (rintro w2 hb; obtain ⟨e0, e1, e2, e3⟩ := HF8.out w2 hb; go_simp; try with_reducible rfl)
      refine wpAnyH_take (i := 11) (v := ?v11cb) rfl (by kernel_rfl) (by kernel_rfl) (by kernel_rfl) (fun _ _ _ h => h) (Or.inl ⟨by kernel_rfl, ?h11cb⟩) hS ?_
      case h11cb => (rintro w2 hb; obtain ⟨e0, e1, e2, e3⟩ := HF8.out w2 hb; go_simp; try with_reducible rfl)
      refine wpAnyH_take (i := 12) (v := undef) rfl (by kernel_rfl) (by kernel_rfl) (by kernel_rfl) (fun _ _ _ h => h) (Or.inr ⟨by kernel_rfl, rfl⟩) hS ?_
      refine wpAnyH_take (i := 13) (v := undef) rfl (by kernel_rfl) (by kernel_rfl) (by kernel_rfl) (fun _ _ _ h => h) (Or.inr ⟨by kernel_rfl, rfl⟩) hS ?_
      refine wpAnyH_take (i := 14) (v := undef) rfl (by kernel_rfl) (by kernel_rfl) (by kernel_rfl) (fun _ _ _ h => h) (Or.inr ⟨by kernel_rfl, rfl⟩) hS ?_
      refine wpAnyH_take (i := 15) (v := undef) rfl (by kernel_rfl) (by kernel_rfl) (by kernel_rfl) (fun _ _ _ h => h) (Or.inr ⟨by kernel_rfl, rfl⟩) hS ?_
      refine wpAnyH_take (i := 16) (v := undef) rfl (by kernel_rfl) (by kernel_rfl) (by kernel_rfl) (fun _ _ _ h => h) (Or.inr ⟨by kernel_rfl, rfl⟩) hS ?_
      refine wpAnyH_take (i := 17) (v := undef) rfl (by kernel_rfl) (by kernel_rfl) (by kernel_rfl) (fun _ _ _ h => h) (Or.inr ⟨by kernel_rfl, rfl⟩) hS ?_
      refine wpAnyH_take (i := 18) (v := undef) rfl (by kernel_rfl) (by kernel_rfl) (by kernel_rfl) (fun _ _ _ h => h) (Or.inr ⟨by kernel_rfl, rfl⟩) hS ?_
      refine wpAnyH_take (i := 19) (v := undef) rfl (by kernel_rfl) (by kernel_rfl) (by kernel_rfl) (fun _ _ _ h => h) (Or.inr ⟨by kernel_rfl, rfl⟩) hS ?_
      refine wpAnyH_take (i := 20) (v := undef) rfl (by kernel_rfl) (by kernel_rfl) (by kernel_rfl) (fun _ _ _ h => h) (Or.inr ⟨by kernel_rfl, rfl⟩) hS ?_
      refine wpAnyH_take (i := 21) (v := undef) rfl (by kernel_rfl) (by kernel_rfl) (by kernel_rfl) (fun _ _ _ h => h) (Or.inr ⟨by kernel_rfl, rfl⟩) hS ?_
      refine wpAnyH_take (i := 22) (v := undef) rfl (by kernel_rfl) (by kernel_rfl) (by kernel_rfl) (fun _ _ _ h => h) (Or.inr ⟨by kernel_rfl, rfl⟩) hS ?_
      refine wpAnyH_take (i := 23) (v := undef) rfl (by kernel_rfl) (by kernel_rfl) (by kernel_rfl) (fun _ _ _ h => h) (Or.inr ⟨by kernel_rfl, rfl⟩) hS ?_
      refine wpAnyH_take (i := 24) (v := undef) rfl (by kernel_rfl) (by kernel_rfl) (by kernel_rfl) (fun _ _ _ h => h) (Or.inr ⟨by kernel_rfl, rfl⟩) hS ?_
      refine wpAnyH_take (i := 25) (v := undef) rfl (by kernel_rfl) (by kernel_rfl) (by kernel_rfl) (fun _ _ _ h => h) (Or.inr ⟨by kernel_rfl, rfl⟩) hS ?_
      refine wpAnyH_take (i := 26) (v := undef) rfl (by kernel_rfl) (by kernel_rfl) (by kernel_rfl) (fun _ _ _ h => h) (Or.inr ⟨by kernel_rfl, rfl⟩) hS ?_
      refine wpAnyH_take (i := 27) (v := ?v27cb) rfl (by kernel_rfl) (by kernel_rfl) (by kernel_rfl) (fun _ _ _ h => h) (Or.inl ⟨by kernel_rfl, ?h27cb⟩) hS ?_
      case h27cb => (rintro w2 hb; obtain ⟨e0, e1, e2, e3⟩ := HF8.out w2 hb; go_simp; try with_reducible rfl)
      refine wpAnyH_take (i := 28) (v := ?v28cb) rfl (by kernel_rfl) (by kernel_rfl) (by kernel_rfl) (fun _ _ _ h => h) (Or.inl ⟨by kernel_rfl, ?h28cb⟩) hS ?_
      case h28cb => (rintro w2 hb; obtain ⟨e0, e1, e2, e3⟩ := HF8.out w2 hb; go_simp; try with_reducible rfl)
      refine wpAnyH_done (by kernel_rfl) ?_ _
      go_simp
      go_wp2_with fail
      exact bodyPost_ret (v := .bool true) (by simp [results, Try.f18, go_sem]) rfl ⟨rfl, HB8.out.drew⟩
    · obtain ⟨⟨s1, s2, s3, s4⟩, st2, ⟨pp2, qq2⟩, hh2⟩ := d2
      have HV3 : Hid (OA = .tuple #[.agg #[.int .i64 s1, .int .i64 s2, .int .i64 s3, .int .i64 s4], .bool true]) := Lib.hid (HOA.out.trans (by rw [ho0]; rfl))
      obtain ⟨ad2, e2, hil2, hc82⟩ := HCELLS.out i2 _ hdi2
      injection e2 with e2
      subst e2
      have HC2 := Lib.hid hc82
      have hj0 : (0 : Int) ≤ ↑i2 := by omega
      have hj1 : (↑i2 : Int) < ↑ln := by omega
      have hj2 : ¬ (↑i2 : Int) < 0 := by omega
      clear hc82 hdi2
      rw [HV3.out]
      have hz9 := World.alloc_heap_new w6 (.cells #[.int .i64 s1, .int .i64 s2, .int .i64 s3, .int .i64 s4] 47)
      have hb9 := (Below.refl w6.heap.size w6).alloc (Nat.le_refl _) (.cells #[.int .i64 s1, .int .i64 s2, .int .i64 s3, .int .i64 s4] 47)
      have hzb := (hb9.block _ (Array.getElem?_eq_some_iff.1 HZ6.out).1).trans HZ6.out
      obtain ⟨p0, p1, p2, p3, _⟩ := box4 hzb
      obtain ⟨W7, hW7⟩ : ∃ W7, w6.alloc (.cells #[.int .i64 s1, .int .i64 s2, .int .i64 s3, .int .i64 s4] 47) = W7 := ⟨_, rfl⟩
      rw [hW7] at hz9 hb9 hzb
      have HW7 := Lib.hid hW7
      have HB7 := Lib.hid (HB6.out.trans (hb9.mono HB6.out.size))
      have HZ7 := Lib.hid hzb
      have HX7 := Lib.hid hz9
      clear hW7 hz9 hb9 hzb HZ6
      go_wp2_with fail
      rw [HW7.out]
      refine (HROW.out _ (HR.out.later HB7.out)).mono ?_
      rintro e W8 ⟨rfl, hb8⟩
      have hz3 := (hb8.block _ (Array.getElem?_eq_some_iff.1 HZ7.out).1).trans HZ7.out
      have hx3 := (hb8.block _ (Array.getElem?_eq_some_iff.1 HX7.out).1).trans HX7.out
      have HB8 := Lib.hid (HB7.out.trans (hb8.mono HB7.out.size))
      have HBF := HB8
      have HF8 : Hid (∀ X, Below W8.heap.size W8 X → X.cell? ⟨w6.heap.size, 0, none⟩ = some (.int .i64 s1) ∧ X.cell? ⟨w6.heap.size, 1, none⟩ = some (.int .i64 s2) ∧ X.cell? ⟨w6.heap.size, 2, none⟩ = some (.int .i64 s3) ∧ X.cell? ⟨w6.heap.size, 3, none⟩ = some (.int .i64 s4) ∧ X.cell? ⟨w.heap.size, 0, none⟩ = some (.int .i64 br) ∧ X.cell? ⟨w.heap.size, 1, none⟩ = some (.int .i64 bc) ∧ X.cell? ⟨w.heap.size, 2, none⟩ = some (.slice Af fl cf) ∧ X.cell? ⟨w.heap.size, 3, none⟩ = some (.slice (some ad) ln cl) ∧ Cell8 X ad i2 ⟨(s1, s2, s3, s4), st2, (pp2, qq2), hh2⟩) := Lib.hid (fun X hX => by
        obtain ⟨c0, c1, c2, c3, _⟩ := box4 ((hX.block _ (Array.getElem?_eq_some_iff.1 hx3).1).trans hx3)
        obtain ⟨q0, q1, q2, q3, _⟩ := box4 ((hX.block _ (Array.getElem?_eq_some_iff.1 hz3).1).trans hz3)
        exact ⟨c0, c1, c2, c3, q0, q1, q2, q3, HC2.out X (HBF.out.trans (hX.mono HBF.out.size))⟩)
      clear hz3 hx3 hb8 HZ7 HX7 p0 p1 p2 p3
      go_wp2_with fail
      refine wp_region_held_drew (S := fun X => Below W8.heap.size W8 X) (by kernel_rfl) ((Below.refl _ _).drew) (fun hS => ?_)
      refine wpAnyH_take (i := 0) (v := ?v0db) rfl (by kernel_rfl) (by kernel_rfl) (by kernel_rfl) (fun _ _ _ h => h) (Or.inl ⟨by kernel_rfl, ?h0db⟩) hS ?_
      case h0db => (rintro w2 hb; obtain ⟨e0, e1, e2, e3, x0, x1, x2, x3, q0, q1, q2, q3, q4, q5, q6, q7⟩ := HF8.out w2 hb; go_simp; try with_reducible rfl)
      refine wpAnyH_take (i := 1) (v := .bool false) rfl (by kernel_rfl) (by kernel_rfl) (by kernel_rfl) (fun _ _ _ h => h) (Or.inl ⟨by kernel_rfl, ?h1db⟩) hS ?_
      case h1db => (rintro w2 hb; obtain ⟨e0, e1, e2, e3, x0, x1, x2, x3, q0, q1, q2, q3, q4, q5, q6, q7⟩ := HF8.out w2 hb; go_simp; try with_reducible rfl)
      refine wpAnyH_take (i := 2) (v := .bool false) rfl (by kernel_rfl) (by kernel_rfl) (by kernel_rfl) (fun _ _ _ h => h) (Or.inl ⟨by kernel_rfl, ?h2db⟩) hS ?_
      case h2db => (rintro w2 hb; obtain ⟨e0, e1, e2, e3, x0, x1, x2, x3, q0, q1, q2, q3, q4, q5, q6, q7⟩ := HF8.out w2 hb; go_simp; try with_reducible rfl)
      refine wpAnyH_take (i := 3) (v := undef) rfl (by kernel_rfl) (by kernel_rfl) (by kernel_rfl) (fun _ _ _ h => h) (Or.inr ⟨by kernel_rfl, rfl⟩) hS ?_
      refine wpAnyH_take (i := 4) (v := undef) rfl (by kernel_rfl) (by kernel_rfl) (by kernel_rfl) (fun _ _ _ h => h) (Or.inr ⟨by kernel_rfl, rfl⟩) hS ?_
      refine wpAnyH_take (i := 5) (v := .bool false) rfl (by kernel_rfl) (by kernel_rfl) (by kernel_rfl) (fun _ _ _ h => h) (Or.inl ⟨by kernel_rfl, ?h5db⟩) hS ?_
      case h5db => (rintro w2 hb; obtain ⟨e0, e1, e2, e3, x0, x1, x2, x3, q0, q1, q2, q3, q4, q5, q6, q7⟩ := HF8.out w2 hb; go_simp; try with_reducible rfl)
      refine wpAnyH_take (i := 6) (v := .bool false) rfl (by kernel_rfl) (by kernel_rfl) (by kernel_rfl) (fun _ _ _ h => h) (Or.inl ⟨by kernel_rfl, ?h6db⟩) hS ?_
      case h6db => (rintro w2 hb; obtain ⟨e0, e1, e2, e3, x0, x1, x2, x3, q0, q1, q2, q3, q4, q5, q6, q7⟩ := HF8.out w2 hb; go_simp; try with_reducible rfl)
      refine wpAnyH_take (i := 7) (v := undef) rfl (by kernel_rfl) (by kernel_rfl) (by kernel_rfl) (fun _ _ _ h => h) (Or.inr ⟨by kernel_rfl, rfl⟩) hS ?_
      refine wpAnyH_take (i := 8) (v := undef) rfl (by kernel_rfl) (by kernel_rfl) (by kernel_rfl) (fun _ _ _ h => h) (Or.inr ⟨by kernel_rfl, rfl⟩) hS ?_
      refine wpAnyH_take (i := 9) (v := undef) rfl (by kernel_rfl) (by kernel_rfl) (by kernel_rfl) (fun _ _ _ h => h) (Or.inr ⟨by kernel_rfl, rfl⟩) hS ?_
      refine wpAnyH_take (i := 10) (v := .bool false) rfl (by kernel_rfl) (by kernel_rfl) (by kernel_rfl) (fun _ _ _ h => h) (Or.inl ⟨by kernel_rfl, ?h10db⟩) hS ?_
      case h10db => (rintro w2 hb; obtain ⟨e0, e1, e2, e3, x0, x1, x2, x3, q0, q1, q2, q3, q4, q5, q6, q7⟩ := HF8.out w2 hb; go_simp; try with_reducible rfl)
      refine wpAnyH_take (i := 11) (v := .bool false) rfl (by kernel_rfl) (by kernel_rfl) (by kernel_rfl) (fun _ _ _ h => h) (Or.inl ⟨by kernel_rfl, ?h11db⟩) hS ?_
      case h11db => (rintro w2 hb; obtain ⟨e0, e1, e2, e3, x0, x1, x2, x3, q0, q1, q2, q3, q4, q5, q6, q7⟩ := HF8.out w2 hb; go_simp; try with_reducible rfl)
      refine wpAnyH_take (i := 12) (v := ?v12db) rfl (by kernel_rfl) (by kernel_rfl) (by kernel_rfl) (fun _ _ _ h => h) (Or.inl ⟨by kernel_rfl, ?h12db⟩) hS ?_
      case h12db => (rintro w2 hb; obtain ⟨e0, e1, e2, e3, x0, x1, x2, x3, q0, q1, q2, q3, q4, q5, q6, q7⟩ := HF8.out w2 hb; go_simp; try with_reducible rfl)
      refine wpAnyH_take (i := 13) (v := .bool true) rfl (by kernel_rfl) (by kernel_rfl) (by kernel_rfl) (fun _ _ _ h => h) (Or.inl ⟨by kernel_rfl, ?h13db⟩) hS ?_
      case h13db => (rintro w2 hb; obtain ⟨e0, e1, e2, e3, x0, x1, x2, x3, q0, q1, q2, q3, q4, q5, q6, q7⟩ := HF8.out w2 hb; go_simp; try with_reducible rfl)
      refine wpAnyH_take (i := 14) (v := .bool true) rfl (by kernel_rfl) (by kernel_rfl) (by kernel_rfl) (fun _ _ _ h => h) (Or.inl ⟨by kernel_rfl, ?h14db⟩) hS ?_
      case h14db => (rintro w2 hb; obtain ⟨e0, e1, e2, e3, x0, x1, x2, x3, q0, q1, q2, q3, q4, q5, q6, q7⟩ := HF8.out w2 hb; go_simp; try with_reducible rfl)
      refine wpAnyH_take (i := 15) (v := .bool true) rfl (by kernel_rfl) (by kernel_rfl) (by kernel_rfl) (fun _ _ _ h => h) (Or.inl ⟨by kernel_rfl, ?h15db⟩) hS ?_
      case h15db => (rintro w2 hb; obtain ⟨e0, e1, e2, e3, x0, x1, x2, x3, q0, q1, q2, q3, q4, q5, q6, q7⟩ := HF8.out w2 hb; go_simp; try with_reducible rfl)
      refine wpAnyH_take (i := 16) (v := .bool true) rfl (by kernel_rfl) (by kernel_rfl) (by kernel_rfl) (fun _ _ _ h => h) (Or.inl ⟨by kernel_rfl, ?h16db⟩) hS ?_
      case h16db => (rintro w2 hb; obtain ⟨e0, e1, e2, e3, x0, x1, x2, x3, q0, q1, q2, q3, q4, q5, q6, q7⟩ := HF8.out w2 hb; go_simp; try with_reducible rfl)
      refine wpAnyH_take (i := 17) (v := .bool true) rfl (by kernel_rfl) (by kernel_rfl) (by kernel_rfl) (fun _ _ _ h => h) (Or.inl ⟨by kernel_rfl, ?h17db⟩) hS ?_
      case h17db => (rintro w2 hb; obtain ⟨e0, e1, e2, e3, x0, x1, x2, x3, q0, q1, q2, q3, q4, q5, q6, q7⟩ := HF8.out w2 hb; go_simp; try with_reducible rfl)
      refine wpAnyH_take (i := 18) (v := ?v18db) rfl (by kernel_rfl) (by kernel_rfl) (by kernel_rfl) (fun _ _ _ h => h) (Or.inl ⟨by kernel_rfl, ?h18db⟩) hS ?_
      case h18db => (rintro w2 hb; obtain ⟨e0, e1, e2, e3, x0, x1, x2, x3, q0, q1, q2, q3, q4, q5, q6, q7⟩ := HF8.out w2 hb; go_simp; try with_reducible rfl)
      refine wpAnyH_take (i := 19) (v := ?v19db) rfl (by kernel_rfl) (by kernel_rfl) (by kernel_rfl) (fun _ _ _ h => h) (Or.inl ⟨by kernel_rfl, ?h19db⟩) hS ?_
      case h19db => (rintro w2 hb; obtain ⟨e0, e1, e2, e3, x0, x1, x2, x3, q0, q1, q2, q3, q4, q5, q6, q7⟩ := HF8.out w2 hb; go_simp; try with_reducible rfl)
      refine wpAnyH_take (i := 20) (v := ?v20db) rfl (by kernel_rfl) (by kernel_rfl) (by kernel_rfl) (fun _ _ _ h => h) (Or.inl ⟨by kernel_rfl, ?h20db⟩) hS ?_
      case h20db => (rintro w2 hb; obtain ⟨e0, e1, e2, e3, x0, x1, x2, x3, q0, q1, q2, q3, q4, q5, q6, q7⟩ := HF8.out w2 hb; go_simp; try with_reducible rfl)
      refine wpAnyH_take (i := 21) (v := ?v21db) rfl (by kernel_rfl) (by kernel_rfl) (by kernel_rfl) (fun _ _ _ h => h) (Or.inl ⟨by kernel_rfl, ?h21db⟩) hS ?_
      case h21db => (rintro w2 hb; obtain ⟨e0, e1, e2, e3, x0, x1, x2, x3, q0, q1, q2, q3, q4, q5, q6, q7⟩ := HF8.out w2 hb; go_simp; try with_reducible rfl)
      refine wpAnyH_take (i := 22) (v := ?v22db) rfl (by kernel_rfl) (by kernel_rfl) (by kernel_rfl) (fun _ _ _ h => h) (Or.inl ⟨by kernel_rfl, ?h22db⟩) hS ?_
      case h22db => (rintro w2 hb; obtain ⟨e0, e1, e2, e3, x0, x1, x2, x3, q0, q1, q2, q3, q4, q5, q6, q7⟩ := HF8.out w2 hb; go_simp; try with_reducible rfl)
      refine wpAnyH_take (i := 23) (v := ?v23db) rfl (by kernel_rfl) (by kernel_rfl) (by kernel_rfl) (fun _ _ _ h => h) (Or.inl ⟨by kernel_rfl, ?h23db⟩) hS ?_
      case h23db => (rintro w2 hb; obtain ⟨e0, e1, e2, e3, x0, x1, x2, x3, q0, q1, q2, q3, q4, q5, q6, q7⟩ := HF8.out w2 hb; go_simp; try with_reducible rfl)
      refine wpAnyH_ready (rs := [24]) (by kernel_rfl) (by simp) (AllReadyH.cons rfl (fun K hK => ?_) AllReadyH.nil)
      go_simp
      go_wp2_with (go_at_call 17; refine (rect_any ⟨(s1, s2, s3, s4), st2, (pp2, qq2), hh2⟩ _).mono ?_; rintro e v1 ⟨rfl, hU⟩; have HU2 := Lib.hid hU; clear hU)
      refine hK.out _ _ (hS.trans (HU2.out.mono hS.size)) (fun hS24 => ?_); clear hK K
      refine wpAnyH_take (i := 25) (v := .bool true) rfl (by kernel_rfl) (by kernel_rfl) (by kernel_rfl) (fun _ _ _ h => h) (Or.inl ⟨by kernel_rfl, ?h25db⟩) hS24 ?_
      case h25db => (rintro w2 hb; obtain ⟨e0, e1, e2, e3, x0, x1, x2, x3, q0, q1, q2, q3, q4, q5, q6, q7⟩ := HF8.out w2 hb; go_simp; try with_reducible rfl)
      refine wpAnyH_take (i := 26) (v := .bool true) rfl (by kernel_rfl) (by kernel_rfl) (by kernel_rfl) (fun _ _ _ h => h) (Or.inl ⟨by kernel_rfl, ?h26db⟩) hS24 ?_
      case h26db => (rintro w2 hb; obtain ⟨e0, e1, e2, e3, x0, x1, x2, x3, q0, q1, q2, q3, q4, q5, q6, q7⟩ := HF8.out w2 hb; go_simp; try with_reducible rfl)
      refine wpAnyH_take (i := 27) (v := .bool true) rfl (by kernel_rfl) (by kernel_rfl) (by kernel_rfl) (fun _ _ _ h => h) (Or.inl ⟨by kernel_rfl, ?h27db⟩) hS24 ?_
      case h27db => (rintro w2 hb; obtain ⟨e0, e1, e2, e3, x0, x1, x2, x3, q0, q1, q2, q3, q4, q5, q6, q7⟩ := HF8.out w2 hb; go_simp; try with_reducible rfl)
      refine wpAnyH_take (i := 28) (v := ?v28db) rfl (by kernel_rfl) (by kernel_rfl) (by kernel_rfl) (fun _ _ _ h => h) (Or.inl ⟨by kernel_rfl, ?h28db⟩) hS24 ?_
      case h28db => (rintro w2 hb; obtain ⟨e0, e1, e2, e3, x0, x1, x2, x3, q0, q1, q2, q3, q4, q5, q6, q7⟩ := HF8.out w2 hb; go_simp; try with_reducible rfl)
      refine wpAnyH_done (by kernel_rfl) ?_ _
      go_simp
      go_wp2_with fail
      exact bodyPost_ret (v := .bool true) (by simp [results, Try.f18, go_sem]) rfl ⟨rfl, HB8.out.trans (hS24.mono HB8.out.size)⟩

end Go.Proofs.Ytdeneogbnmedkaa
