/- The document's In, Of, Owner, New, rect. -/
import Derived.Test.YtdeneogbnmedkaaRa
namespace Go.Proofs.Ytdeneogbnmedkaa
open Go.RowKit Go.Maps

set_option maxHeartbeats 2000000 in
theorem in_any (d : Dc) (hd : OkR d.r) (x y : Int) (hw : Wf (x, y)) (w : World) :
    Calls Try.prog 34 #[.agg #[.int .i64 d.r.1, .int .i64 d.r.2.1, .int .i64 d.r.2.2.1, .int .i64 d.r.2.2.2, .bool d.st, .int .i64 d.bl.1, .int .i64 d.bl.2, .bool d.hb], .int .i64 x, .int .i64 y] w fun e w' => e = .returned (.bool (inR d.r (x, y))) ∧ Below w.heap.size w w' := by
  have hx := wf_bounds hw.1
  have hy := wf_bounds hw.2
  have hb0 : Below w.heap.size w (w.alloc (.cells #[.int .i64 d.r.1, .int .i64 d.r.2.1, .int .i64 d.r.2.2.1, .int .i64 d.r.2.2.2, .bool d.st, .int .i64 d.bl.1, .int .i64 d.bl.2, .bool d.hb] 42)) := (Below.refl _ _).alloc (Nat.le_refl _) _
  obtain ⟨⟨c0, c1, c2, c3⟩, _⟩ := box8 (World.alloc_heap_new w (.cells #[.int .i64 d.r.1, .int .i64 d.r.2.1, .int .i64 d.r.2.2.1, .int .i64 d.r.2.2.2, .bool d.st, .int .i64 d.bl.1, .int .i64 d.bl.2, .bool d.hb] 42))
  have hdef : inR d.r (x, y) = decide (d.r.1 ≤ x ∧ x < d.r.1 + d.r.2.2.1 ∧ d.r.2.1 ≤ y ∧ y < d.r.2.1 + d.r.2.2.2) := rfl
  obtain ⟨R, hR⟩ : ∃ R, inR d.r (x, y) = R := ⟨_, rfl⟩
  rw [hR] at hdef ⊢
  obtain ⟨⟨r1, r2, r3, r4⟩, st, ⟨p, q⟩, hb⟩ := d
  unfold OkR at hd
  simp only at hd c0 c1 c2 c3 hb0 hdef hx hy ⊢
  have HB := Lib.hid hb0
  clear hR hb0 hw
  by_cases h1 : r1 ≤ x
  · have w1 : IntKind.i64.wrap (x - r1) = x - r1 := by rw [IntKind.wrap_i64]; omega
    by_cases h2 : x - r1 < r3
    · by_cases h3 : r2 ≤ y
      · have w2 : IntKind.i64.wrap (y - r2) = y - r2 := by rw [IntKind.wrap_i64]; omega
        by_cases h4 : y - r2 < r4
        · obtain rfl : R = true := by rw [hdef]; exact decide_eq_true (by omega)
          clear hdef hx hy hd
          go_enter Try.func34, Try.ntmps34
          go_wp2
          go_ret
          exact ⟨rfl, HB.out⟩
        · obtain rfl : R = false := by rw [hdef]; exact decide_eq_false (by omega)
          clear hdef hx hy hd
          go_enter Try.func34, Try.ntmps34
          go_wp2
          go_ret
          exact ⟨rfl, HB.out⟩
      · obtain rfl : R = false := by rw [hdef]; exact decide_eq_false (by omega)
        clear hdef hx hy hd
        go_enter Try.func34, Try.ntmps34
        go_wp2
        go_ret
        exact ⟨rfl, HB.out⟩
    · obtain rfl : R = false := by rw [hdef]; exact decide_eq_false (by omega)
      clear hdef hx hy hd
      go_enter Try.func34, Try.ntmps34
      go_wp2
      go_ret
      exact ⟨rfl, HB.out⟩
  · obtain rfl : R = false := by rw [hdef]; exact decide_eq_false (by omega)
    clear hdef hx hy hd
    go_enter Try.func34, Try.ntmps34
    go_wp2
    go_ret
    exact ⟨rfl, HB.out⟩
theorem rect_any (d : Dc) (w : World) :
    Calls Try.prog 17 #[.agg #[.int .i64 d.r.1, .int .i64 d.r.2.1, .int .i64 d.r.2.2.1, .int .i64 d.r.2.2.2, .bool d.st, .int .i64 d.bl.1, .int .i64 d.bl.2, .bool d.hb]] w fun e w' => e = .returned (.agg #[.int .i64 d.r.1, .int .i64 d.r.2.1, .int .i64 d.r.2.2.1, .int .i64 d.r.2.2.2]) ∧ Below w.heap.size w w' := by
  obtain ⟨⟨r1, r2, r3, r4⟩, st, ⟨p, q⟩, hb⟩ := d
  simp only
  have hb0 : Below w.heap.size w ((w.alloc (.cells #[.int .i64 r1, .int .i64 r2, .int .i64 r3, .int .i64 r4, .bool st, .int .i64 p, .int .i64 q, .bool hb] 42)).alloc (.cells #[.int .i64 r1, .int .i64 r2, .int .i64 r3, .int .i64 r4] 47)) := ((Below.refl _ _).alloc (Nat.le_refl _) _).alloc (by simp) _
  have HB := Lib.hid hb0
  clear hb0
  go_enter Try.func17, Try.ntmps17
  go_wp2
  have hz : ((w.alloc (.cells #[.int .i64 r1, .int .i64 r2, .int .i64 r3, .int .i64 r4, .bool st, .int .i64 p, .int .i64 q, .bool hb] 42)).alloc (.cells #[.int .i64 r1, .int .i64 r2, .int .i64 r3, .int .i64 r4] 47)).heap[w.heap.size + 1]? = some (.cells #[.int .i64 r1, .int .i64 r2, .int .i64 r3, .int .i64 r4] 47 (0, 0)) := by
    simpa using World.alloc_heap_new (w.alloc (.cells #[.int .i64 r1, .int .i64 r2, .int .i64 r3, .int .i64 r4, .bool st, .int .i64 p, .int .i64 q, .bool hb] 42)) (.cells #[.int .i64 r1, .int .i64 r2, .int .i64 r3, .int .i64 r4] 47)
  obtain ⟨g0, g1, g2, g3, _⟩ := box4 hz
  exact bodyPost_ret (v := .agg #[.int .i64 r1, .int .i64 r2, .int .i64 r3, .int .i64 r4]) (by simp [results, Try.f17, go_sem, g0, g1, g2, g3]) rfl ⟨rfl, HB.out⟩
set_option maxHeartbeats 2000000 in
theorem of_any (B : Brd) (vf vl : Value) (n : Nat) (x y : Int) (w : World) (h : RefAt w vf vl B n) (hn : n ≤ 100000) :
    Calls Try.prog 26 #[.agg #[.int .i64 B.rows, .int .i64 B.cols, vf, vl], .int .i64 x, .int .i64 y] w fun e w' => e = .returned (.int .i64 (ofI B (x, y))) ∧ Below w.heap.size w w' := by
  have hb0 : Below w.heap.size w (w.alloc (.cells #[.int .i64 B.rows, .int .i64 B.cols, vf, vl] 29)) := (Below.refl _ _).alloc (Nat.le_refl _) _
  obtain ⟨A, c, rfl, hc, hI⟩ := row8_cells (rowG_later h.row hb0)
  have hz0 := World.alloc_heap_new w (.cells #[.int .i64 B.rows, .int .i64 B.cols, vf, .slice A B.l.length c] 29)
  have hlen := h.len
  obtain ⟨R, hR⟩ : ∃ R, ofI B (x, y) = R := ⟨_, rfl⟩
  rw [hR]
  unfold ofI at hR
  obtain ⟨l, hl⟩ : ∃ l, B.l = l := ⟨_, rfl⟩
  rw [hl] at hR hI hc hz0 hlen hb0 ⊢
  obtain ⟨W0, hW0⟩ : ∃ W0, w.alloc (.cells #[.int .i64 B.rows, .int .i64 B.cols, vf, .slice A l.length c] 29) = W0 := ⟨_, rfl⟩
  rw [hW0] at hb0 hI hz0
  have HB0 := Lib.hid hb0
  have HI := Lib.hid hI
  have HR := Lib.hid hR
  have HW0 := Lib.hid hW0
  obtain ⟨_, _, _, c3, _⟩ := box4 hz0
  clear hb0 hI hz0 hR hW0 h hl
  go_enter Try.func26, Try.ntmps26
  go_wp2_with fail
  rw [HW0.out]
  go_loopw [7] (fun i wr => ∃ k : Nat, k ≤ l.length ∧ i = .int .i64 k ∧ wr = W0 ∧ ∀ q ∈ l.take k, (anc q.r == (x, y)) = false) (fun i _ => l.length - (intOf i).toNat)
  case atStart => exact ⟨0, Nat.zero_le _, rfl, rfl, by simp⟩
  case round =>
    obtain ⟨k, hk, rfl, rfl, hnn⟩ := hrel
    have HN := Lib.hid hnn
    clear hnn
    by_cases hlt : k < l.length
    · have hx : l[k]? = some l[k] := List.getElem?_eq_getElem hlt
      have hd : l.take (k + 1) = l.take k ++ [l[k]] := (List.take_append_getElem hlt).symm
      obtain ⟨d, hdd⟩ : ∃ d, l[k] = d := ⟨_, rfl⟩
      rw [hdd] at hx hd
      have HD := Lib.hid hd
      have HX := Lib.hid hx
      obtain ⟨ad, rfl, k0, k1, _⟩ := HI.out k d hx
      obtain ⟨⟨d1, d2, d3, d4⟩, st, bl, hb⟩ := d
      have hi0 : (0 : Int) ≤ ↑k := by omega
      have hi1 : (↑k : Int) < ↑l.length := by omega
      have hi2 : (↑l.length : Int) ≤ ↑c := by omega
      simp only at k0 k1
      clear hx hd hdd
      by_cases e1 : d1 = x
      · have b1 : (d1 == x) = true := by simpa using e1
        by_cases e2 : d2 = y
        · have b2 : (d2 == y) = true := by simpa using e2
          have hR : R = k := by rw [← HR.out]; exact idxI_at HX.out (by simp [anc, e1, e2]) HN.out
          subst hR
          clear e1 e2
          go_wp2
          go_ret
          exact ⟨rfl, HB0.out⟩
        · have b2 : (d2 == y) = false := by simpa using e2
          have HNE := Lib.hid (show ((d1, d2) == (x, y)) = false by simp [e2])
          clear e1 e2
          go_wp2_with fail
          go_roundw
          case rel => exact ⟨k + 1, by omega, by simp, (by first | rfl | trivial), fun q hq => by
            rw [HD.out] at hq
            rcases List.mem_append.1 hq with hq | hq
            · exact HN.out q hq
            · simp only [List.mem_singleton] at hq; rw [hq]; exact HNE.out⟩
          case measure => simp [intOf]; omega
      · have b1 : (d1 == x) = false := by simpa using e1
        have HNE := Lib.hid (show ((d1, d2) == (x, y)) = false by simp [e1])
        clear e1
        go_wp2_with fail
        go_roundw
        case rel => exact ⟨k + 1, by omega, by simp, (by first | rfl | trivial), fun q hq => by
          rw [HD.out] at hq
          rcases List.mem_append.1 hq with hq | hq
          · exact HN.out q hq
          · simp only [List.mem_singleton] at hq; rw [hq]; exact HNE.out⟩
        case measure => simp [intOf]; omega
    · obtain rfl : k = l.length := by omega
      have hlt2 : ¬ (↑l.length : Int) < ↑l.length := by omega
      have hnn := HN.out
      rw [List.take_length] at hnn
      have hR : R = -1 := by rw [← HR.out]; exact idxI_none hnn
      subst hR
      clear hnn
      go_wp2
      go_ret
      exact ⟨rfl, HB0.out⟩
set_option maxHeartbeats 2000000 in
theorem rown_any (B : Brd) (hi : Inv B) (vf vl : Value) (n : Nat) (x y : Int) (hw : Wf (x, y)) (w : World) (h : RefAt w vf vl B n) (hn : n ≤ 100000) :
    Calls Try.prog 27 #[.agg #[.int .i64 B.rows, .int .i64 B.cols, vf, vl], .int .i64 x, .int .i64 y] w fun e w' => e = .returned (.int .i64 (ownI B (x, y))) ∧ Below w.heap.size w w' := by
  have hok : ∀ d ∈ B.l, OkR d.r := fun d hd => by
    have h1 := (hasP_iff _ _).1 (hi.ats d hd).1
    have h2 := (fitsF_iff _ _).1 (hi.ats d hd).2
    have h3 := hi.r0
    have h4 := hi.c0
    unfold OkR
    simp only [anc] at h1
    omega
  have hb0 : Below w.heap.size w (w.alloc (.cells #[.int .i64 B.rows, .int .i64 B.cols, vf, vl] 29)) := (Below.refl _ _).alloc (Nat.le_refl _) _
  have hr0 := rowG_later h.row hb0
  obtain ⟨A, c, rfl, hc, _⟩ := row8_cells hr0
  have hz0 := World.alloc_heap_new w (.cells #[.int .i64 B.rows, .int .i64 B.cols, vf, .slice A B.l.length c] 29)
  have hlen := h.len
  obtain ⟨R, hR⟩ : ∃ R, ownI B (x, y) = R := ⟨_, rfl⟩
  rw [hR]
  unfold ownI at hR
  obtain ⟨l, hl⟩ : ∃ l, B.l = l := ⟨_, rfl⟩
  rw [hl] at hR hr0 hc hz0 hlen hb0 hok ⊢
  obtain ⟨W0, hW0⟩ : ∃ W0, w.alloc (.cells #[.int .i64 B.rows, .int .i64 B.cols, vf, .slice A l.length c] 29) = W0 := ⟨_, rfl⟩
  rw [hW0] at hb0 hr0 hz0
  have HB0 := Lib.hid hb0
  have HRW := Lib.hid hr0
  have HR := Lib.hid hR
  have HW0 := Lib.hid hW0
  have HOK := Lib.hid hok
  have HZ := Lib.hid hz0
  have HWF := Lib.hid hw
  clear hb0 hr0 hz0 hR hW0 h hl hok hi hw
  go_enter Try.func27, Try.ntmps27
  go_wp2_with fail
  rw [HW0.out]
  go_loopw [7] (fun i wr => ∃ k : Nat, k ≤ l.length ∧ i = .int .i64 k ∧ Below W0.heap.size W0 wr ∧ ∀ q ∈ l.take k, (q.st && inR q.r (x, y)) = false) (fun i _ => l.length - (intOf i).toNat)
  case atStart => exact ⟨0, Nat.zero_le _, rfl, Below.refl _ _, by simp⟩
  case round =>
    obtain ⟨k, hk, rfl, hB, hnn⟩ := hrel
    have HN := Lib.hid hnn
    have HB := Lib.hid hB
    have hgz := (hB.block w.heap.size (Array.getElem?_eq_some_iff.1 HZ.out).1).trans HZ.out
    obtain ⟨_, _, _, c3, _⟩ := box4 hgz
    clear hnn hgz
    by_cases hlt : k < l.length
    · have hx : l[k]? = some l[k] := List.getElem?_eq_getElem hlt
      have hd : l.take (k + 1) = l.take k ++ [l[k]] := (List.take_append_getElem hlt).symm
      obtain ⟨d, hdd⟩ : ∃ d, l[k] = d := ⟨_, rfl⟩
      rw [hdd] at hx hd
      have HD := Lib.hid hd
      have HX := Lib.hid hx
      obtain ⟨A1, c1, hv1, _, hI⟩ := row8_cells (rowG_later HRW.out hB)
      simp only [Value.slice.injEq, true_and] at hv1
      obtain ⟨rfl, rfl⟩ := hv1
      obtain ⟨ad, rfl, k0, k1, k2, k3, k4, k5, k6, k7⟩ := hI k d hx
      have HIN := Lib.hid (in_any d (HOK.out d (List.mem_of_getElem? hx)) x y HWF.out wr)
      obtain ⟨z, hz⟩ : ∃ z, inR d.r (x, y) = z := ⟨_, rfl⟩
      rw [hz] at HIN
      have HZZ := Lib.hid hz
      obtain ⟨⟨d1, d2, d3, d4⟩, st, ⟨p, q⟩, hb⟩ := d
      have hi0 : (0 : Int) ≤ ↑k := by omega
      have hi1 : (↑k : Int) < ↑l.length := by omega
      have hi2 : (↑l.length : Int) ≤ ↑c := by omega
      simp only at k0 k1 k2 k3 k4 k5 k6 k7 HIN HZZ
      clear hx hd hdd hI hB hz
      cases st with
      | false =>
        go_wp2_with fail
        go_roundw
        case rel => exact ⟨k + 1, by omega, by simp, HB.out, fun q hq => by
          rw [HD.out] at hq
          rcases List.mem_append.1 hq with hq | hq
          · exact HN.out q hq
          · simp only [List.mem_singleton] at hq; rw [hq]; rfl⟩
        case measure => simp [intOf]; omega
      | true =>
        go_wp2_with fail
        refine HIN.out.mono ?_
        rintro e w5 ⟨rfl, hb5⟩
        have HB5 := Lib.hid (HB.out.trans (hb5.mono HB.out.size))
        clear hb5
        cases z with
        | false =>
          go_wp2_with fail
          go_roundw
          case rel => exact ⟨k + 1, by omega, by simp, HB5.out, fun q hq => by
            rw [HD.out] at hq
            rcases List.mem_append.1 hq with hq | hq
            · exact HN.out q hq
            · simp only [List.mem_singleton] at hq; rw [hq]; simpa using HZZ.out⟩
          case measure => simp [intOf]; omega
        | true =>
          have hR : R = k := by rw [← HR.out]; exact idxI_at HX.out (by simpa using HZZ.out) HN.out
          subst hR
          have HBF := Lib.hid (HB0.out.trans (HB5.out.mono HB0.out.size))
          go_wp2
          go_ret
          exact ⟨rfl, HBF.out⟩
    · obtain rfl : k = l.length := by omega
      have hlt2 : ¬ (↑l.length : Int) < ↑l.length := by omega
      have hnn := HN.out
      rw [List.take_length] at hnn
      have hR : R = -1 := by rw [← HR.out]; exact idxI_none hnn
      subst hR
      have HBF := Lib.hid (HB0.out.trans (hB.mono HB0.out.size))
      clear hnn hB
      go_wp2
      go_ret
      exact ⟨rfl, HBF.out⟩
end Go.Proofs.Ytdeneogbnmedkaa
