/- The law SpillActs. -/
import Derived.Test.YtdeneogbnmedkaaRg
namespace Go.Proofs.Ytdeneogbnmedkaa
open Go.RowKit Go.Maps Go.Shelf
attribute [local go_sem] Oper.semAt_some

/-- between two rounds: so many rects were told -/
structure AcI (W3 : World) (g : Nat) (pre : List Dc) (W : World) : Prop where
  only : Only (fun b => b = g ∨ W3.heap.size ≤ b) W3 W
  box : Boxed W g 3 (.int .i64 pre.length)
theorem ac_rec {W3 : World} {g : Nat} (_ : g < W3.heap.size) : OwnRec W3.heap.size (AcI W3 g) := fun pre W W' row h hgr hr => by
  have hrow : ∀ k cs t fr, W.heap[k]? = some (.cells cs t fr) → some k ≠ row := fun k cs t fr hk he => by
    obtain ⟨_, o, ho, hi⟩ := hr k he.symm
    rw [hk] at ho
    injection ho with ho
    subst ho
    cases hi
  exact ⟨h.only.trans (Only.of_grown hgr) (fun b hb hlt => by obtain ⟨h1, _⟩ := hr b hb; omega), (hgr.block g (box_lt h.box) (hrow _ _ _ _ h.box)).trans h.box⟩
theorem AcI.later {W3 W W' : World} {g : Nat} {pre : List Dc} (h : AcI W3 g pre W) (hb : Below W.heap.size W W') : AcI W3 g pre W' :=
  ⟨h.only.later hb, box_kept h.box (hb.block _ (box_lt h.box))⟩
set_option maxRecDepth 100000 in
set_option maxHeartbeats 16000000 in
theorem acts_law {w : World} (r : Int) (_ : -9223372036854775808 ≤ r ∧ r ≤ 9223372036854775807) (c : Int) (_ : -9223372036854775808 ≤ c ∧ c ≤ 9223372036854775807) (v : Value) (l : List ActP) (ha : ActsAt w v l) (hwf : ∀ d ∈ l, WfA d) :
    Calls Try.prog 3 #[.int .i64 r, .int .i64 c, v] w fun e w' => e = .returned (.bool true) ∧ Below w.heap.size w w' := by
  obtain ⟨A, cc, rfl, hcc, _⟩ := id ha
  have HA := Lib.hid ha
  have HWF := Lib.hid hwf
  have hb0 : Below w.heap.size w (w.alloc (.cells #[.bool false] 4)) := (Below.refl _ _).alloc (Nat.le_refl _) _
  have hx0 : Boxed (w.alloc (.cells #[.bool false] 4)) w.heap.size 4 (.bool false) := Boxed.new w 4 _
  have hsz : (w.alloc (.cells #[.bool false] 4)).heap.size = w.heap.size + 1 := by simp
  clear ha hwf
  refine (callsIn_wide (n := 6)).1 ?_
  refine callsIn_of_wp_marks Try.func3 rfl trivial ?_ rfl
  simp only [Try.ntmps3, List.size_toArray, List.length_cons, List.length_nil, Nat.reduceAdd, Nat.reduceSub, Array.replicate_succ, Array.replicate_zero, List.push_toArray, List.append_toArray, List.nil_append, List.cons_append]
  have hfA : Fence.wide.fn 9 := trivial
  have hf10 : Fence.wide.fn 10 := trivial
  have hf11 : Fence.wide.fn 11 := trivial
  have hf12 : Fence.wide.fn 12 := trivial
  have hf13 : Fence.wide.fn 13 := trivial
  have hf14 : Fence.wide.fn 14 := trivial
  have hf15 : Fence.wide.fn 15 := trivial
  have hf16 : Fence.wide.fn 16 := trivial
  have hf18 : Fence.wide.fn 18 := trivial
  obtain ⟨W0, hW0⟩ : ∃ W0, W0 = (w.alloc (.cells #[.bool false] 4)) := ⟨_, rfl⟩
  rw [← hW0] at hb0 hx0 hsz
  have HB0 := Lib.hid hb0
  have HX0 := Lib.hid hx0
  have HW0 := Lib.hid hW0
  clear hb0 hx0 hW0
  gi_wp2_with fail
  rw [← HW0.out]
  refine (callsIn_wide.2 (awake_any _)).mono ?_
  rintro e w1 ⟨rfl, hb1⟩
  have HB1 := Lib.hid (HB0.out.trans (hb1.mono (by omega)))
  have hy0 := box_kept HX0.out (hb1.block _ (box_lt HX0.out))
  have hsz1 : w.heap.size + 1 ≤ w1.heap.size := by have := hb1.size; omega
  have HY0 := Lib.hid hy0
  clear hb1 HX0 HB0 HW0 hsz
  by_cases hlen : l.length ≤ 60
  rotate_left
  · have hlt : (60 : Int) < ↑l.length := by omega
    have f2 := hy0.frozen
    have c2 := hy0.cell
    clear hy0
    gi_wp2_with fail
    refine (callsIn_wide.2 (awake_any _)).mono ?_
    rintro e w2 ⟨rfl, hb2⟩
    have hz2 := box_kept HY0.out (hb2.block _ (box_lt HY0.out))
    have c2 := hz2.cell
    have f2 := hz2.frozen
    have HB2 := Lib.hid (HB1.out.trans (hb2.mono HB1.out.size))
    have HZ2 := Lib.hid hz2
    clear hb2 hz2
    gi_wp2
    have r0 := (HZ2.out.set (.bool true)).cell
    exact ⟨.bool true, by simp [results, Try.f3, go_sem, r0], rfl, HB2.out.setCell (p := ⟨w.heap.size, 0, none⟩) (Nat.le_refl _) _⟩
  have hlt : ¬ (60 : Int) < ↑l.length := by omega
  clear hy0
  gi_wp2_with fail
  refine (callsIn_wide.2 (new_up (w := w1) (Below.refl _ _) rfl)).mono ?_
  rintro e w2 ⟨rfl, hu⟩
  obtain ⟨s, hs⟩ : ∃ s, w1.heap.size + 3 = s := ⟨_, rfl⟩
  rw [hs] at hu ⊢
  have HU := Lib.hid hu
  clear hu hs
  gi_wp2_with fail
  refine (callsIn_wide.2 (rnew_any r c w2)).mono ?_
  rintro e w3 ⟨rfl, hb3⟩
  obtain ⟨g8, hg8⟩ : ∃ g8, w3.heap.size = g8 := ⟨_, rfl⟩
  have hgw : w1.heap.size ≤ g8 := by have h1 := HU.out.2.size; have h2 := hb3.size; omega
  obtain ⟨W4, hW4⟩ : ∃ W4, w3.alloc (.cells #[.int .i64 (newF r c).rows, .int .i64 (newF r c).cols, .slice none 0 0, .slice none 0 0] 29) = W4 := ⟨_, rfl⟩
  have hb4 : Below w2.heap.size w2 W4 := by rw [← hW4]; exact hb3.alloc hb3.size _
  have hx4 : XB W4 g8 (newF r c) (.slice none 0 0) (.slice none 0 0) := by unfold XB; rw [← hW4, ← hg8]; exact World.alloc_heap_new w3 _
  have HU4 := Lib.hid (HU.out.later hb4)
  have HX4 := Lib.hid hx4
  have HW4 := Lib.hid hW4
  have HG8 := Lib.hid hg8
  obtain ⟨B0, hB0⟩ : ∃ B0, newF r c = B0 := ⟨_, rfl⟩
  have HR4 : Hid (RefAt W4 (.slice none 0 0) (.slice none 0 0) B0 0) := Lib.hid (by rw [← hB0]; exact refV_nil W4 r c)
  rw [hB0] at HX4 HU4 HW4
  obtain ⟨br0, hbr⟩ : ∃ r, B0.rows = r := ⟨_, rfl⟩
  obtain ⟨bc0, hbc⟩ : ∃ r, B0.cols = r := ⟨_, rfl⟩
  rw [hB0, hbr, hbc]
  rw [hbr, hbc] at HW4
  have HC0 := Lib.hid (And.intro hbr hbc)
  clear hb3 hb4 hx4 hW4 hg8 HU hB0 hbr hbc
  gi_wp2_with fail
  rw [HW4.out, HG8.out]
  clear HW4 HG8
  gi_loopw [9] (fun i wr => ∃ (k : Nat) (B : Brd) (vf vl : Value), k ≤ l.length ∧ i = .int .i64 k ∧ Up w1 s k B wr ∧ RefAt wr vf vl B k ∧ XB wr g8 B vf vl) (fun i _ => l.length - (intOf i).toNat)
  case atStart => exact ⟨0, B0, .slice none 0 0, .slice none 0 0, Nat.zero_le _, rfl, HU4.out, HR4.out, HX4.out⟩
  case round =>
    obtain ⟨k, B, vf, vl, hk, rfl, hu, hrf, hxb⟩ := hrel
    obtain ⟨⟨Af, nf, cf, rfl⟩, Al, nl, cl, rfl⟩ := hrf.shapes
    have HK := Lib.hid hu
    have HRF := Lib.hid hrf
    have HXB := Lib.hid hxb
    clear hu hrf hxb HU4 HR4 HX4 HC0
    obtain ⟨br, hbr⟩ : ∃ r, B.rows = r := ⟨_, rfl⟩
    obtain ⟨bc, hbc⟩ : ∃ r, B.cols = r := ⟨_, rfl⟩
    have HBRC := Lib.hid (And.intro hbr hbc)
    by_cases hlt : k < l.length
    · have hx : l[k]? = some l[k] := List.getElem?_eq_getElem hlt
      obtain ⟨d, hd⟩ : ∃ d, l[k] = d := ⟨_, rfl⟩
      rw [hd] at hx
      have hwd := HWF.out d (List.mem_of_getElem? hx)
      have HWD := Lib.hid hwd.1
      obtain ⟨ad, rfl, hI⟩ := acts_in HA.out hx
      obtain ⟨fi, x, y, a, b⟩ := d
      simp only at HWD
      obtain ⟨e0, e1, e2, e3, e4⟩ := hI wr (HB1.out.trans (HK.out.2.mono HB1.out.size))
      simp only at e0 e1 e2 e3 e4
      have hi0 : (0 : Int) ≤ ↑k := by omega
      have hi1 : (↑k : Int) < ↑l.length := by omega
      have hi2 : (↑l.length : Int) ≤ ↑cc := by omega
      have hbW : Below wr.heap.size wr (wr.alloc (.cells #[.bool fi, .int .i64 x, .int .i64 y, .int .i64 a, .int .i64 b] 32)) := (Below.refl _ _).alloc (Nat.le_refl _) _
      have hnew := World.alloc_heap_new wr (.cells #[.bool fi, .int .i64 x, .int .i64 y, .int .i64 a, .int .i64 b] 32)
      obtain ⟨W5, hW5⟩ : ∃ W5, wr.alloc (.cells #[.bool fi, .int .i64 x, .int .i64 y, .int .i64 a, .int .i64 b] 32) = W5 := ⟨_, rfl⟩
      obtain ⟨n0, n1, n2, n3, n4⟩ := box5 hnew
      have hx5 := HXB.out.later hbW
      unfold XB at hx5
      rw [hbr, hbc] at hx5
      obtain ⟨t0, t1, t2, t3, _⟩ := box4 hx5
      rw [hW5] at hx5 hbW hnew
      have HX5 := Lib.hid hx5
      have HBW := Lib.hid hbW
      have HN := Lib.hid hnew
      have HW5 := Lib.hid hW5
      clear hx hd hwd hI hbW hnew hW5 hx5 hlt
      have HB := Lib.hid (And.intro hbr hbc)
      cases fi with
      | true =>
        gi_wp2_with fail
        rw [HW5.out]
        clear t0 t1 t2 t3 n0 n1 n2 n3 n4 e0 e1 e2 e3 e4 HW5
        have hrf5 := rfill_any B (.slice Af nf cf) (.slice Al nl cl) k x y W5 (HRF.out.later HBW.out) (by omega)
        rw [hbr, hbc] at hrf5
        refine (callsIn_wide.2 hrf5).mono ?_
        rintro e W6 ⟨vf', rfl, hr6, hb6⟩
        obtain ⟨⟨Af', nf', cf', rfl⟩, _⟩ := hr6.shapes
        obtain ⟨q, hq⟩ : ∃ q, fillR B (x, y) = q := ⟨_, rfl⟩
        rw [hq, hbr, hbc]
        have HQ := Lib.hid hq
        have hn6 := (hb6.block _ (Array.getElem?_eq_some_iff.1 HN.out).1).trans HN.out
        have hx6 := (hb6.block _ (Array.getElem?_eq_some_iff.1 HX5.out).1).trans HX5.out
        have hb7 : Below W6.heap.size W6 (W6.alloc (.cells #[.int .i64 br, .int .i64 bc, (.slice Af' nf' cf'), (.slice Al nl cl)] 29)) := (Below.refl _ _).alloc (Nat.le_refl _) _
        have hz7 := World.alloc_heap_new W6 (.cells #[.int .i64 br, .int .i64 bc, (.slice Af' nf' cf'), (.slice Al nl cl)] 29)
        obtain ⟨n0, n1, n2, n3, n4⟩ := box5 ((hb7.block _ (Array.getElem?_eq_some_iff.1 hn6).1).trans hn6)
        obtain ⟨W7, hW7⟩ : ∃ W7, W6.alloc (.cells #[.int .i64 br, .int .i64 bc, (.slice Af' nf' cf'), (.slice Al nl cl)] 29) = W7 := ⟨_, rfl⟩
        have hx7 := (hb7.block _ (Array.getElem?_eq_some_iff.1 hx6).1).trans hx6
        have hz7' := hz7
        rw [hW7] at hx7 hz7'
        have HX7 := Lib.hid hx7
        have HZ7 := Lib.hid hz7'
        have HK7 := Lib.hid (show Up w1 s k B W7 by rw [← hW7]; exact HK.out.later (HBW.out.trans ((hb6.trans (hb7.mono hb6.size)).mono HBW.out.size)))
        have HR7 := Lib.hid (show RefAt W7 (.slice Af' nf' cf') (.slice Al nl cl) (fillB B (x, y)) (k + 1) by rw [← hW7]; exact hr6.later hb7)
        have HW7 := Lib.hid hW7
        clear hx7 hz7' hq hr6 hb6 hn6 hx6 hb7 hz7 hW7 hrf5 HK HRF HXB HX5 HBW HN
        gi_wp2_with fail
        rw [HW7.out]
        clear n0 n1 n2 n3 n4 HW7
        refine (callsIn_wide.2 (fill_sa HK7.out (by omega) HWD.out HQ.out rfl)).mono ?_
        rintro e W8 ⟨rfl, hu8, hq8⟩
        have hx8 := (hq8.same _ _ _ _ HX7.out (by decide) (by decide)).trans HX7.out
        have hz8 := (hq8.same _ _ _ _ HZ7.out (by decide) (by decide)).trans HZ7.out
        have hr8 := HR7.out.quiet hq8
        obtain ⟨p0, p1, p2, p3, _⟩ := box4 hz8
        obtain ⟨t0, t1, t2, t3, t4⟩ := box4 hx8
        have f0 := t4 0
        have f1 := t4 1
        have f2 := t4 2
        have f3 := t4 3
        obtain ⟨k1, k2, k3⟩ := x_set hx8 hgw hu8 hr8
        have hrc : (fillB B (x, y)).rows = br ∧ (fillB B (x, y)).cols = bc := by
          unfold fillB
          split
          · exact ⟨hbr, hbc⟩
          · exact ⟨hbr, hbc⟩
        rw [hrc.1, hrc.2] at k1 k2 k3
        have HU9 := Lib.hid k1
        have HR9 := Lib.hid k2
        have HX9 := Lib.hid k3
        clear hu8 hq8 hx8 hz8 hr8 t4 k1 k2 k3 hrc HX7 HZ7 HK7 HR7
        cases q with
        | true =>
          gi_wp2_with fail
          go_roundw
          case rel => exact ⟨k + 1, fillB B (x, y), (.slice Af' nf' cf'), (.slice Al nl cl), by omega, by simp, HU9.out, HR9.out, HX9.out⟩
          case measure => simp [intOf]; omega
        | false =>
          gi_wp2_with fail
          go_roundw
          case rel => exact ⟨k + 1, fillB B (x, y), (.slice Af' nf' cf'), (.slice Al nl cl), by omega, by simp, HU9.out, HR9.out, HX9.out⟩
          case measure => simp [intOf]; omega
      | false =>
        gi_wp2_with fail
        rw [HW5.out]
        clear t0 t1 t2 t3 n0 n1 n2 n3 n4 e0 e1 e2 e3 e4 HW5
        have hrf5 := rdecide_any B HK.out.1.1 (.slice Af nf cf) (.slice Al nl cl) k x y a b W5 (HRF.out.later HBW.out) (by omega)
        rw [hbr, hbc] at hrf5
        refine (callsIn_wide.2 hrf5).mono ?_
        rintro e W6 ⟨vl', rfl, hr6, hb6⟩
        obtain ⟨Al', cl', rfl⟩ := own_shape hr6.row
        obtain ⟨ln', hln⟩ : ∃ n, (decB B (x, y, a, b)).l.length = n := ⟨_, rfl⟩
        obtain ⟨ev, hq⟩ : ∃ q, decE B (x, y, a, b) = q := ⟨_, rfl⟩
        obtain ⟨q, hq2⟩ : ∃ q, decR B (x, y, a, b) = q := ⟨_, rfl⟩
        rw [hq, hbr, hbc, hln]
        rw [hln] at hr6
        have HQ := Lib.hid (And.intro hq hq2)
        have HLN := Lib.hid hln
        have hn6 := (hb6.block _ (Array.getElem?_eq_some_iff.1 HN.out).1).trans HN.out
        have hx6 := (hb6.block _ (Array.getElem?_eq_some_iff.1 HX5.out).1).trans HX5.out
        have hb7 : Below W6.heap.size W6 (W6.alloc (.cells #[.int .i64 br, .int .i64 bc, .slice Af nf cf, .slice Al' ln' cl'] 29)) := (Below.refl _ _).alloc (Nat.le_refl _) _
        have hz7 := World.alloc_heap_new W6 (.cells #[.int .i64 br, .int .i64 bc, .slice Af nf cf, .slice Al' ln' cl'] 29)
        obtain ⟨n0, n1, n2, n3, n4⟩ := box5 ((hb7.block _ (Array.getElem?_eq_some_iff.1 hn6).1).trans hn6)
        obtain ⟨W7, hW7⟩ : ∃ W7, W6.alloc (.cells #[.int .i64 br, .int .i64 bc, .slice Af nf cf, .slice Al' ln' cl'] 29) = W7 := ⟨_, rfl⟩
        have hx7 := (hb7.block _ (Array.getElem?_eq_some_iff.1 hx6).1).trans hx6
        have hz7' := hz7
        rw [hW7] at hx7 hz7'
        have HX7 := Lib.hid hx7
        have HZ7 := Lib.hid hz7'
        have HK7 := Lib.hid (show Up w1 s k B W7 by rw [← hW7]; exact HK.out.later (HBW.out.trans ((hb6.trans (hb7.mono hb6.size)).mono HBW.out.size)))
        have HR7 := Lib.hid (show RefAt W7 (.slice Af nf cf) (.slice Al' ln' cl') (decB B (x, y, a, b)) (k + 1) by rw [← hW7]; exact hr6.later hb7)
        have HW7 := Lib.hid hW7
        clear hx7 hz7' hq hq2 hln hr6 hb6 hn6 hx6 hb7 hz7 hW7 hrf5 HK HRF HXB HX5 HBW HN
        gi_wp2_with fail
        rw [HW7.out]
        clear n0 n1 n2 n3 n4 HW7
        refine (callsIn_wide.2 (decide_sa HK7.out (by omega) HWD.out HQ.out.2 HQ.out.1 rfl)).mono ?_
        rintro e W8 ⟨rfl, hu8, hq8⟩
        have hx8 := (hq8.same _ _ _ _ HX7.out (by decide) (by decide)).trans HX7.out
        have hz8 := (hq8.same _ _ _ _ HZ7.out (by decide) (by decide)).trans HZ7.out
        have hr8 := HR7.out.quiet hq8
        obtain ⟨p0, p1, p2, p3, _⟩ := box4 hz8
        obtain ⟨t0, t1, t2, t3, t4⟩ := box4 hx8
        have f0 := t4 0
        have f1 := t4 1
        have f2 := t4 2
        have f3 := t4 3
        obtain ⟨k1, k2, k3⟩ := x_set hx8 hgw hu8 hr8
        have hrc : (decB B (x, y, a, b)).rows = br ∧ (decB B (x, y, a, b)).cols = bc := by
          unfold decB
          split
          · exact ⟨hbr, hbc⟩
          · exact ⟨hbr, hbc⟩
        rw [hrc.1, hrc.2] at k1 k2 k3
        have HU9 := Lib.hid k1
        have HR9 := Lib.hid k2
        have HX9 := Lib.hid k3
        have hrel : ∀ wq, wq = ((((W8.setCell ⟨g8, 0, none⟩ (.int .i64 br)).setCell ⟨g8, 1, none⟩ (.int .i64 bc)).setCell ⟨g8, 2, none⟩ (.slice Af nf cf)).setCell ⟨g8, 3, none⟩ (.slice Al' ln' cl')) → ∃ (k' : Nat) (B : Brd) (vf vl : Value), k' ≤ l.length ∧ Value.int .i64 (↑k + 1) = .int .i64 k' ∧ Up w1 s k' B wq ∧ RefAt wq vf vl B k' ∧ XB wq g8 B vf vl := by
          rintro wq rfl
          exact ⟨k + 1, decB B (x, y, a, b), _, _, by omega, by simp, HU9.out, HR9.out, HX9.out⟩
        have HREL := Lib.hid hrel
        have k3' := k3
        unfold XB at k3'
        rw [hrc.1, hrc.2] at k3'
        obtain ⟨z0, z1, z2, z3, _⟩ := box4 k3'
        have k2' := k2.row
        clear k3 k3' hrc hu8 hq8 hx8 hz8 hr8 t4 k1 k2 hrel HX7 HZ7 HK7 HR7
        by_cases hev : ev = 0
        · subst hev
          obtain ⟨hl9, hr9⟩ := dec_last HQ.out.1
          have hlen9 : ln' = B.l.length + 1 := by rw [← HLN.out, hl9]; simp
          have hst : (judF B (x, y, a, b)).st = q := by rw [← hr9]; exact HQ.out.2
          have hat : (decB B (x, y, a, b)).l[B.l.length]? = some (judF B (x, y, a, b)) := by rw [hl9]; simp
          obtain ⟨A9, c9, hv9, hc9, hI9⟩ := row8_cells k2'
          simp only [Value.slice.injEq] at hv9
          obtain ⟨rfl, -, rfl⟩ := hv9
          obtain ⟨ad', rfl, h8⟩ := hI9 _ _ hat
          obtain ⟨_, _, _, _, e4, _⟩ := h8
          rw [hst] at e4
          rw [HLN.out] at hc9
          obtain ⟨n9, hn9⟩ : ∃ n, B.l.length = n := ⟨_, rfl⟩
          rw [hn9] at hlen9 e4
          subst hlen9
          have hj0 : (0 : Int) ≤ ↑n9 := by omega
          have hj1 : ¬ (↑n9 : Int) < 0 := by omega
          have hj2 : (↑n9 : Int) < ↑n9 + 1 := by omega
          have hk60 : k ≤ 60 := by omega
          have hnk : n9 + 1 ≤ k + 1 := by have := HR9.out.len; rw [HLN.out] at this; exact this
          have hcl : (↑n9 : Int) + 1 ≤ ↑cl' := by omega
          clear hl9 hr9 hst hat hI9 hn9 k2' hbr hbc hc9
          cases q with
          | true =>
            gi_wp2_with fail
            go_roundw
            case rel => exact HREL.out _ rfl
            case measure => simp [intOf]; omega
          | false =>
            gi_wp2_with fail
            go_roundw
            case rel => exact HREL.out _ rfl
            case measure => simp [intOf]; omega
        · have hqf : q = false := by rw [← HQ.out.2]; exact dec_not (by rw [HQ.out.1]; exact hev)
          subst hqf
          have he1 : (ev == 0) = false := by simpa using hev
          have he2 : (ev != 0) = true := by simpa using hev
          clear k2' hbr hbc hev
          gi_wp2_with fail
          go_roundw
          case rel => exact HREL.out _ rfl
          case measure => simp [intOf]; omega
    · obtain rfl : k = l.length := by omega
      have hlt2 : ¬ (↑l.length : Int) < ↑l.length := by omega
      obtain ⟨T, hT, hTS, hTq⟩ := brd_tight HK.out.1
      have hTlt : BrdAt wr s (fun b => T b ∧ b < wr.heap.size) l.length B := hT.wider (fun b hb hl => ⟨hb, hl⟩)
      have HT := Lib.hid hTlt
      clear hT hTS hTq hTlt
      gi_wp2_with fail
      refine (callsIn_wide.2 (rects_call _ _)).mono ?_
      rintro e w9 ⟨rfl, rfl⟩
      obtain ⟨W3, hW3⟩ : ∃ W3, W3 = ((wr.alloc (.cells #[.int .i64 0] 3)).alloc (.cells #[.pointer (some ⟨s, 0, none⟩)] 24)) := ⟨_, rfl⟩
      have hb23 : Below wr.heap.size wr W3 := by rw [hW3]; exact ((Below.refl _ _).alloc (Nat.le_refl _) _).alloc (by simp) _
      have hv4 : Boxed W3 wr.heap.size 3 (.int .i64 0) := by rw [hW3]; exact (Boxed.new wr 3 _).alloc _
      have hv3 : Boxed W3 (wr.heap.size + 1) 24 (.pointer (some ⟨s, 0, none⟩)) := by
        rw [hW3]
        have := Boxed.new (wr.alloc (.cells #[.int .i64 0] 3)) 24 (.pointer (some ⟨s, 0, none⟩))
        simpa using this
      have hs3 : W3.heap.size = wr.heap.size + 2 := by rw [hW3]; simp
      have HBR := Lib.hid (HT.out.later hb23)
      have HRF3 := Lib.hid (HRF.out.later hb23)
      have HXB3 := Lib.hid (HXB.out.later hb23)
      have HU3 := Lib.hid (HK.out.later hb23)
      have HK1 := Lib.hid HK.out.2
      have HI0 : Hid (AcI W3 wr.heap.size ([] : List Dc) W3) := Lib.hid ⟨Only.refl _ _, hv4⟩
      gi_wp2_with fail
      rw [← hW3]
      clear hb23 hv4 hW3 HK HRF HXB HT
      refine range_boxesQ (F := Fence.wide) rfl (by omega) (gf := 32) (lb := #[.pointer (some ⟨wr.heap.size + 1, 0, none⟩)]) rfl trivial (enters_of Try.func32 (by kernel_rfl) rfl)
        (rects_runs 5 (by omega) (wr.heap.size + 1) s l.length (fun b => T b ∧ b < wr.heap.size) (fun k => k < W3.heap.size ∧ k ≠ wr.heap.size) B W3 hv3 HBR.out (by omega) ⟨by omega, by omega⟩ (fun k hk hkl => ⟨hkl, by omega⟩)) Keep.trans
        (keep_put (w := W3) (fun k hk => hk.1)) (Below.refl _ _) (fun _ => rfl)
        (AcI W3 wr.heap.size) (ac_rec (by omega)) HI0.out (fun d => .cells #[.int .i64 d.r.1, .int .i64 d.r.2.1, .int .i64 d.r.2.2.1, .int .i64 d.r.2.2.2] 47) (fun d b => { tmps := #[Value.int IntKind.i64 r, Value.int IntKind.i64 c, Value.slice A l.length cc, undef, undef, undef, Value.pointer (some { block := w.heap.size, off := 0 }), Value.pointer (some { block := s, off := 0 }), Value.pointer (some { block := g8, off := 0 }), Value.int IntKind.i64 ↑l.length, u10, u11, u12, u13, u14, u15, u16, Value.pointer (some { block := wr.heap.size, off := 0 }), Value.pointer (some { block := b, off := 0 }), Value.bool d.st, undef, undef, undef, Value.bool true, Value.bool false, Value.bool false, Value.slice A l.length cc, Value.int IntKind.i64 ↑l.length, Value.bool (decide ((60 : Int) < ↑l.length)), Value.bool (decide ((60 : Int) < ↑l.length)), undef, Value.int IntKind.i64 r, Value.int IntKind.i64 c, Value.pointer (some { block := s, off := 0 }), Value.int IntKind.i64 r, Value.int IntKind.i64 c, Value.agg #[Value.int IntKind.i64 br0, Value.int IntKind.i64 bc0, Value.slice none 0 0, Value.slice none 0 0], Value.int IntKind.i64 ↑l.length, Value.slice A l.length cc, Value.int IntKind.i64 ↑l.length, Value.bool false, u41, u42, u43, u44, u45, u46, u47, u48, u49, u50, u51, u52, u53, u54, u55, u56, u57, u58, u59, u60, u61, u62, u63, u64, u65, u66, u67, u68, u69, u70, u71, u72, u73, u74, u75, u76, u77, u78, u79, u80, u81, u82, u83, u84, u85, u86, u87, u88, u89, u90, u91, u92, u93, u94, u95, u96, u97, u98, u99, u100, u101, u102, u103, u104, u105, u106, u107, u108, u109, u110, u111, u112, u113, u114, u115, u116, u117, u118, u119, u120, Value.pointer (some { block := s, off := 0 }), Value.func (Fn.func 32) #[] #[Value.pointer (some { block := wr.heap.size + 1, off := 0 })], Value.agg #[Value.int IntKind.i64 d.r.fst, Value.int IntKind.i64 d.r.snd.fst, Value.int IntKind.i64 d.r.snd.snd.fst, Value.int IntKind.i64 d.r.snd.snd.snd], Value.bool d.st, undef, undef, undef, undef, undef, undef, undef, undef, undef, undef, undef, undef, undef, undef, undef, undef, undef, undef, undef, undef, undef, undef, undef, undef, undef, undef, undef, undef, undef, undef, undef, undef, undef, undef, undef, undef, undef, undef, undef, undef, undef, undef, undef, undef, undef, undef, undef, undef, undef, undef, undef, undef, undef, undef, undef, undef, undef, undef, undef, undef, undef, undef, undef, undef, undef, undef, undef, undef, undef, undef, undef, undef], defers := [] })
        (fun W o => Keep.below ((Below.refl _ W).alloc (Nat.le_refl _) o)) ?assign ?body ?done
      case assign =>
        intro lp d W K hK
        gi_wp2
        exact hK
      case body =>
        rintro lp pre d b W WO hIO hbO hkO hI hpre hbge hbx
        have hat : B.l[pre.length]? = some d := by
          obtain ⟨t, ht⟩ := hpre
          rw [← ht]
          simp
        have hbW : b < W.heap.size := (Array.getElem?_eq_some_iff.1 hbx).1
        have hg83 : g8 < W3.heap.size := (Array.getElem?_eq_some_iff.1 (show W3.heap[g8]? = _ from HXB3.out)).1
        have hg8w : g8 ≠ wr.heap.size := fun e => by
          have h1 : W3.heap[g8]? = _ := HXB3.out
          rw [e, show W3.heap[wr.heap.size]? = _ from HI0.out.box] at h1
          injection h1 with h1
          injection h1 with _ h1
          cases h1
        have hx8 : W.heap[g8]? = some (.cells #[.int .i64 br, .int .i64 bc, .slice Af nf cf, .slice Al nl cl] 29 (0, 0)) := by
          have h1 : W3.heap[g8]? = _ := HXB3.out
          rw [hbr, hbc] at h1
          exact (hI.only.block g8 hg83 (by omega)).trans h1
        have hrf : RefAt W (.slice Af nf cf) (.slice Al nl cl) B l.length := HRF3.out.kept (fun k cs f hk => hI.only.block k (by rcases hk with hk | hk <;> exact (Array.getElem?_eq_some_iff.1 hk).1) (fun hh => by
          rcases hh with hh | hh
          · rw [hh, show W3.heap[wr.heap.size]? = _ from HI0.out.box] at hk
            rcases hk with hk | hk <;> (injection hk with hk; injection hk with _ hk; cases hk)
          · rcases hk with hk | hk <;> (have := (Array.getElem?_eq_some_iff.1 hk).1; omega)))
        have hlenB := hrf.len
        obtain ⟨A9, c9, hv9, hc9, hI9⟩ := row8_cells hrf.row
        simp only [Value.slice.injEq] at hv9
        obtain ⟨rfl, hnl, rfl⟩ := hv9
        obtain ⟨ad', rfl, _⟩ := hI9 _ _ hat
        have hpl : pre.length < nl := by rw [hnl]; exact (List.getElem?_eq_some_iff.1 hat).1
        rw [← hnl] at hc9 hlenB
        have hcell : ∀ X, Below W.heap.size W X → Cell8 X ad' pre.length d := fun X hX => by
          obtain ⟨A2, c2, hv, _, hI2⟩ := row8_cells (rowG_later hrf.row hX)
          simp only [Value.slice.injEq] at hv
          obtain ⟨e, _, _⟩ := hv
          obtain ⟨ad2, e2, hc8⟩ := hI2 _ _ hat
          rw [← e] at e2
          cases e2
          exact hc8
        obtain ⟨⟨x, y, a, b'⟩, st, ⟨p, q⟩, hbb⟩ := d
        obtain ⟨i, hi⟩ : ∃ i, pre.length = i := ⟨_, rfl⟩
        have hbox := hI.box
        rw [hi] at hbox hpl hcell
        have HF : Hid (∀ X, Below W.heap.size W X → X.cell? ⟨wr.heap.size, 0, none⟩ = some (.int .i64 i) ∧ X.cell? ⟨g8, 3, none⟩ = some (.slice (some ad') nl cl) ∧
            X.cell? ⟨b, 0, none⟩ = some (.int .i64 x) ∧ X.cell? ⟨b, 1, none⟩ = some (.int .i64 y) ∧ X.cell? ⟨b, 2, none⟩ = some (.int .i64 a) ∧ X.cell? ⟨b, 3, none⟩ = some (.int .i64 b') ∧ Cell8 X ad' i ⟨(x, y, a, b'), st, (p, q), hbb⟩) := Lib.hid (fun X hX => by
          obtain ⟨_, _, _, k3, _⟩ := box4 ((hX.block g8 (Array.getElem?_eq_some_iff.1 hx8).1).trans hx8)
          obtain ⟨m0, m1, m2, m3, _⟩ := box4 ((hX.block b hbW).trans hbx)
          exact ⟨(box_kept hbox (hX.block _ (box_lt hbox))).cell, k3, m0, m1, m2, m3, hcell X hX⟩)
        have HI := Lib.hid hI
        have HBX := Lib.hid hbx
        have hi60 : i ≤ 60 := by omega
        have hi0 : (0 : Int) ≤ ↑i := by omega
        have hi1 : (↑i : Int) < ↑nl := by omega
        have hi2 : ¬ (↑nl : Int) ≤ ↑i := by omega
        have hi3 : (↑nl : Int) ≤ ↑cl := by omega
        have hne : ∀ w, (binOp .neq 47 (.agg #[.int .i64 x, .int .i64 y, .int .i64 a, .int .i64 b']) (.agg #[.int .i64 x, .int .i64 y, .int .i64 a, .int .i64 b'])).run Try.prog w = .ok (.bool false) w := fun w => by rw [rc_eq]; simp
        have HIP := Lib.hid hi
        clear hIO hbO hkO hI hpre hbx hat hx8 hrf hlenB hc9 hI9 hnl hcell hbox hi hg8w hg83 hbr hbc
        gi_wp2_with fail
        refine wpIn_region_C (S := fun X => Below W.heap.size W X) (by kernel_rfl) ((Below.refl _ _).drew) ?_
        refine wpC_take (i := 0) (v := ?v0bd) rfl (by kernel_rfl) (by kernel_rfl) (by kernel_rfl) (does_yes (fun _ => trivial) (fun c => nofun) (by kernel_rfl) ?h0bd) ?_
        case h0bd => (rintro w2 hb; obtain ⟨e0, e1, e2, e3, e4, e5, q0, q1, q2, q3, q4, q5, q6, q7⟩ := HF.out w2 hb; simp only at q0 q1 q2 q3 q4 q5 q6 q7; go_simp; try with_reducible rfl)
        refine wpC_take (i := 1) (v := ?v1bd) rfl (by kernel_rfl) (by kernel_rfl) (by kernel_rfl) (does_yes (fun _ => trivial) (fun c => nofun) (by kernel_rfl) ?h1bd) ?_
        case h1bd => (rintro w2 hb; obtain ⟨e0, e1, e2, e3, e4, e5, q0, q1, q2, q3, q4, q5, q6, q7⟩ := HF.out w2 hb; simp only at q0 q1 q2 q3 q4 q5 q6 q7; go_simp; try with_reducible rfl)
        refine wpC_take (i := 2) (v := ?v2bd) rfl (by kernel_rfl) (by kernel_rfl) (by kernel_rfl) (does_yes (fun _ => trivial) (fun c => nofun) (by kernel_rfl) ?h2bd) ?_
        case h2bd => (rintro w2 hb; obtain ⟨e0, e1, e2, e3, e4, e5, q0, q1, q2, q3, q4, q5, q6, q7⟩ := HF.out w2 hb; simp only at q0 q1 q2 q3 q4 q5 q6 q7; go_simp; try with_reducible rfl)
        refine wpC_take (i := 3) (v := ?v3bd) rfl (by kernel_rfl) (by kernel_rfl) (by kernel_rfl) (does_yes (fun _ => trivial) (fun c => nofun) (by kernel_rfl) ?h3bd) ?_
        case h3bd => (rintro w2 hb; obtain ⟨e0, e1, e2, e3, e4, e5, q0, q1, q2, q3, q4, q5, q6, q7⟩ := HF.out w2 hb; simp only at q0 q1 q2 q3 q4 q5 q6 q7; go_simp; try with_reducible rfl)
        refine wpC_take (i := 4) (v := .bool false) rfl (by kernel_rfl) (by kernel_rfl) (by kernel_rfl) (does_yes (fun _ => trivial) (fun c => nofun) (by kernel_rfl) ?h4bd) ?_
        case h4bd => (rintro w2 hb; obtain ⟨e0, e1, e2, e3, e4, e5, q0, q1, q2, q3, q4, q5, q6, q7⟩ := HF.out w2 hb; simp only at q0 q1 q2 q3 q4 q5 q6 q7; go_simp; try with_reducible rfl)
        refine wpC_take (i := 5) (v := .bool false) rfl (by kernel_rfl) (by kernel_rfl) (by kernel_rfl) (does_yes (fun _ => trivial) (fun c => nofun) (by kernel_rfl) ?h5bd) ?_
        case h5bd => (rintro w2 hb; obtain ⟨e0, e1, e2, e3, e4, e5, q0, q1, q2, q3, q4, q5, q6, q7⟩ := HF.out w2 hb; simp only at q0 q1 q2 q3 q4 q5 q6 q7; go_simp; try with_reducible rfl)
        refine wpC_take (i := 6) (v := ?v6bd) rfl (by kernel_rfl) (by kernel_rfl) (by kernel_rfl) (does_yes (fun _ => trivial) (fun c => nofun) (by kernel_rfl) ?h6bd) ?_
        case h6bd => (rintro w2 hb; obtain ⟨e0, e1, e2, e3, e4, e5, q0, q1, q2, q3, q4, q5, q6, q7⟩ := HF.out w2 hb; simp only at q0 q1 q2 q3 q4 q5 q6 q7; go_simp; try with_reducible rfl)
        refine wpC_take (i := 7) (v := ?v7bd) rfl (by kernel_rfl) (by kernel_rfl) (by kernel_rfl) (does_yes (fun _ => trivial) (fun c => nofun) (by kernel_rfl) ?h7bd) ?_
        case h7bd => (rintro w2 hb; obtain ⟨e0, e1, e2, e3, e4, e5, q0, q1, q2, q3, q4, q5, q6, q7⟩ := HF.out w2 hb; simp only at q0 q1 q2 q3 q4 q5 q6 q7; go_simp; try with_reducible rfl)
        refine wpC_take (i := 8) (v := ?v8bd) rfl (by kernel_rfl) (by kernel_rfl) (by kernel_rfl) (does_yes (fun _ => trivial) (fun c => nofun) (by kernel_rfl) ?h8bd) ?_
        case h8bd => (rintro w2 hb; obtain ⟨e0, e1, e2, e3, e4, e5, q0, q1, q2, q3, q4, q5, q6, q7⟩ := HF.out w2 hb; simp only at q0 q1 q2 q3 q4 q5 q6 q7; go_simp; try with_reducible rfl)
        refine wpC_take (i := 9) (v := ?v9bd) rfl (by kernel_rfl) (by kernel_rfl) (by kernel_rfl) (does_yes (fun _ => trivial) (fun c => nofun) (by kernel_rfl) ?h9bd) ?_
        case h9bd => (rintro w2 hb; obtain ⟨e0, e1, e2, e3, e4, e5, q0, q1, q2, q3, q4, q5, q6, q7⟩ := HF.out w2 hb; simp only at q0 q1 q2 q3 q4 q5 q6 q7; go_simp; try with_reducible rfl)
        refine wpC_take (i := 10) (v := ?v10bd) rfl (by kernel_rfl) (by kernel_rfl) (by kernel_rfl) (does_yes (fun _ => trivial) (fun c => nofun) (by kernel_rfl) ?h10bd) ?_
        case h10bd => (rintro w2 hb; obtain ⟨e0, e1, e2, e3, e4, e5, q0, q1, q2, q3, q4, q5, q6, q7⟩ := HF.out w2 hb; simp only at q0 q1 q2 q3 q4 q5 q6 q7; go_simp; try with_reducible rfl)
        refine wpC_take (i := 11) (v := ?v11bd) rfl (by kernel_rfl) (by kernel_rfl) (by kernel_rfl) (does_yes (fun _ => trivial) (fun c => nofun) (by kernel_rfl) ?h11bd) ?_
        case h11bd => (rintro w2 hb; obtain ⟨e0, e1, e2, e3, e4, e5, q0, q1, q2, q3, q4, q5, q6, q7⟩ := HF.out w2 hb; simp only at q0 q1 q2 q3 q4 q5 q6 q7; go_simp; try with_reducible rfl)
        refine wpC_take (i := 12) (v := (.agg #[.int .i64 x, .int .i64 y, .int .i64 a, .int .i64 b'])) rfl (by kernel_rfl) (by kernel_rfl) (by kernel_rfl) (does_call 17 #[.agg #[.int .i64 x, .int .i64 y, .int .i64 a, .int .i64 b', .bool st, .int .i64 p, .int .i64 q, .bool hbb]] (fun _ => trivial) (fun c => nofun) (fun _ => by omega) (by kernel_rfl) ?h12bd ?c12bd) ?_
        case h12bd => (rintro w2 hb; obtain ⟨e0, e1, e2, e3, e4, e5, q0, q1, q2, q3, q4, q5, q6, q7⟩ := HF.out w2 hb; simp only at q0 q1 q2 q3 q4 q5 q6 q7; go_simp; try with_reducible rfl)
        case c12bd => (rintro w2 hb; refine (CallsIn.inRound lp (callsIn_wide.2 (rect_any ⟨(x, y, a, b'), st, (p, q), hbb⟩ w2))).mono ?_; rintro e w3 ⟨rfl, hb3⟩; exact ⟨rfl, hb.trans (hb3.mono hb.size)⟩)
        refine wpC_take (i := 13) (v := .bool false) rfl (by kernel_rfl) (by kernel_rfl) (by kernel_rfl) (does_yes (fun _ => trivial) (fun c => nofun) (by kernel_rfl) ?h13bd) ?_
        case h13bd => (rintro w2 hb; obtain ⟨e0, e1, e2, e3, e4, e5, q0, q1, q2, q3, q4, q5, q6, q7⟩ := HF.out w2 hb; simp only at q0 q1 q2 q3 q4 q5 q6 q7; go_simp; try with_reducible rfl)
        refine wpC_take (i := 14) (v := .bool false) rfl (by kernel_rfl) (by kernel_rfl) (by kernel_rfl) (does_yes (fun _ => trivial) (fun c => nofun) (by kernel_rfl) ?h14bd) ?_
        case h14bd => (rintro w2 hb; obtain ⟨e0, e1, e2, e3, e4, e5, q0, q1, q2, q3, q4, q5, q6, q7⟩ := HF.out w2 hb; simp only at q0 q1 q2 q3 q4 q5 q6 q7; go_simp; try with_reducible rfl)
        refine wpC_take (i := 15) (v := .bool false) rfl (by kernel_rfl) (by kernel_rfl) (by kernel_rfl) (does_yes (fun _ => trivial) (fun c => nofun) (by kernel_rfl) ?h15bd) ?_
        case h15bd => (rintro w2 hb; obtain ⟨e0, e1, e2, e3, e4, e5, q0, q1, q2, q3, q4, q5, q6, q7⟩ := HF.out w2 hb; simp only at q0 q1 q2 q3 q4 q5 q6 q7; go_simp; try with_reducible rfl)
        refine wpC_take (i := 16) (v := ?v16bd) rfl (by kernel_rfl) (by kernel_rfl) (by kernel_rfl) (does_yes (fun _ => trivial) (fun c => nofun) (by kernel_rfl) ?h16bd) ?_
        case h16bd => (rintro w2 hb; obtain ⟨e0, e1, e2, e3, e4, e5, q0, q1, q2, q3, q4, q5, q6, q7⟩ := HF.out w2 hb; simp only at q0 q1 q2 q3 q4 q5 q6 q7; go_simp; try with_reducible rfl)
        refine wpC_take (i := 17) (v := ?v17bd) rfl (by kernel_rfl) (by kernel_rfl) (by kernel_rfl) (does_yes (fun _ => trivial) (fun c => nofun) (by kernel_rfl) ?h17bd) ?_
        case h17bd => (rintro w2 hb; obtain ⟨e0, e1, e2, e3, e4, e5, q0, q1, q2, q3, q4, q5, q6, q7⟩ := HF.out w2 hb; simp only at q0 q1 q2 q3 q4 q5 q6 q7; go_simp; try with_reducible rfl)
        refine wpC_take (i := 18) (v := ?v18bd) rfl (by kernel_rfl) (by kernel_rfl) (by kernel_rfl) (does_yes (fun _ => trivial) (fun c => nofun) (by kernel_rfl) ?h18bd) ?_
        case h18bd => (rintro w2 hb; obtain ⟨e0, e1, e2, e3, e4, e5, q0, q1, q2, q3, q4, q5, q6, q7⟩ := HF.out w2 hb; simp only at q0 q1 q2 q3 q4 q5 q6 q7; go_simp; try with_reducible rfl)
        refine wpC_take (i := 19) (v := ?v19bd) rfl (by kernel_rfl) (by kernel_rfl) (by kernel_rfl) (does_yes (fun _ => trivial) (fun c => nofun) (by kernel_rfl) ?h19bd) ?_
        case h19bd => (rintro w2 hb; obtain ⟨e0, e1, e2, e3, e4, e5, q0, q1, q2, q3, q4, q5, q6, q7⟩ := HF.out w2 hb; simp only at q0 q1 q2 q3 q4 q5 q6 q7; go_simp; try with_reducible rfl)
        refine wpC_take (i := 20) (v := ?v20bd) rfl (by kernel_rfl) (by kernel_rfl) (by kernel_rfl) (does_yes (fun _ => trivial) (fun c => nofun) (by kernel_rfl) ?h20bd) ?_
        case h20bd => (rintro w2 hb; obtain ⟨e0, e1, e2, e3, e4, e5, q0, q1, q2, q3, q4, q5, q6, q7⟩ := HF.out w2 hb; simp only at q0 q1 q2 q3 q4 q5 q6 q7; go_simp; try with_reducible rfl)
        refine wpC_take (i := 21) (v := ?v21bd) rfl (by kernel_rfl) (by kernel_rfl) (by kernel_rfl) (does_yes (fun _ => trivial) (fun c => nofun) (by kernel_rfl) ?h21bd) ?_
        case h21bd => (rintro w2 hb; obtain ⟨e0, e1, e2, e3, e4, e5, q0, q1, q2, q3, q4, q5, q6, q7⟩ := HF.out w2 hb; simp only at q0 q1 q2 q3 q4 q5 q6 q7; go_simp; try with_reducible rfl)
        refine wpC_take (i := 22) (v := ?v22bd) rfl (by kernel_rfl) (by kernel_rfl) (by kernel_rfl) (does_yes (fun _ => trivial) (fun c => nofun) (by kernel_rfl) ?h22bd) ?_
        case h22bd => (rintro w2 hb; obtain ⟨e0, e1, e2, e3, e4, e5, q0, q1, q2, q3, q4, q5, q6, q7⟩ := HF.out w2 hb; simp only at q0 q1 q2 q3 q4 q5 q6 q7; go_simp; try with_reducible rfl)
        refine wpC_take (i := 23) (v := .bool false) rfl (by kernel_rfl) (by kernel_rfl) (by kernel_rfl) (does_yes (fun _ => trivial) (fun c => nofun) (by kernel_rfl) ?h23bd) ?_
        case h23bd => (rintro w2 hb; obtain ⟨e0, e1, e2, e3, e4, e5, q0, q1, q2, q3, q4, q5, q6, q7⟩ := HF.out w2 hb; simp only at q0 q1 q2 q3 q4 q5 q6 q7; go_simp; try with_reducible rfl)
        refine wpC_take (i := 24) (v := .bool false) rfl (by kernel_rfl) (by kernel_rfl) (by kernel_rfl) (does_yes (fun _ => trivial) (fun c => nofun) (by kernel_rfl) ?h24bd) ?_
        case h24bd => (rintro w2 hb; obtain ⟨e0, e1, e2, e3, e4, e5, q0, q1, q2, q3, q4, q5, q6, q7⟩ := HF.out w2 hb; simp only at q0 q1 q2 q3 q4 q5 q6 q7; go_simp; try with_reducible rfl)
        refine wpC_done (by kernel_rfl) ?_ _
        intro v1 hS
        go_simp
        have hkx := hS.block
        have hv7 := box_kept HI.out.box (hS.block _ (box_lt HI.out.box))
        rw [HIP.out] at hv7
        have hc7 := hv7.cell
        have hf7 := hv7.frozen
        have hw1 : IntKind.i64.wrap (↑i + 1) = ↑i + 1 := by rw [IntKind.wrap_i64]; omega
        have HS := Lib.hid hS
        have HV7 := Lib.hid hv7
        clear hkx hS hv7 hne hi0 hi1 hi2 hi3 hs3 hlt2
        gi_wp2_with fail
        have hsz9 : W.heap.size ≤ (v1.setCell ⟨wr.heap.size, 0, none⟩ (.int .i64 (↑i + 1))).heap.size := by
          have h2 := HS.out.size
          simpa [World.setCell] using h2
        have hfar : ∀ k o, k ≠ wr.heap.size → W.heap[k]? = some o → (v1.setCell ⟨wr.heap.size, 0, none⟩ (.int .i64 (↑i + 1))).heap[k]? = some o := fun k o hk ho =>
          (Below.heap_setCell _ _ _ _ hk).trans ((HS.out.block k (Array.getElem?_eq_some_iff.1 ho).1).trans ho)
        have hboxW : W.heap[wr.heap.size]? = _ := HI.out.box
        refine ⟨⟨hsz9, fun k o hk ho => hfar k o (fun e => ?_) hk⟩, ⟨hsz9, fun k o hk hq => hfar k o (fun e => ?_) hk⟩, (HI.out.only.later HS.out).trans (only_set wr.heap.size 0 _) (fun b hb _ => .inl hb), ?_⟩
        · rw [e, hboxW] at hk
          injection hk with hk
          subst hk
          cases ho
        · rcases hq with hq | ⟨cur, fr, rfl⟩
          · exact hq.2 e
          · rw [e, hboxW] at hk
            injection hk with hk
            injection hk with _ hk
            cases hk
        · have := HV7.out.set (.int .i64 (↑i + 1))
          rw [List.length_append, HIP.out]
          simpa using this
      case done =>
        rintro D W hD hI hK
        have hg83 : g8 < W3.heap.size := (Array.getElem?_eq_some_iff.1 (show W3.heap[g8]? = _ from HXB3.out)).1
        have hg8w : g8 ≠ wr.heap.size := fun e => by
          have h1 : W3.heap[g8]? = _ := HXB3.out
          rw [e, show W3.heap[wr.heap.size]? = _ from HI0.out.box] at h1
          injection h1 with h1
          injection h1 with _ h1
          cases h1
        have hx8 : W.heap[g8]? = some (.cells #[.int .i64 br, .int .i64 bc, .slice Af nf cf, .slice Al nl cl] 29 (0, 0)) := by
          have h1 : W3.heap[g8]? = _ := HXB3.out
          rw [hbr, hbc] at h1
          exact (hI.only.block g8 hg83 (by omega)).trans h1
        have hrf : RefAt W (.slice Af nf cf) (.slice Al nl cl) B l.length := HRF3.out.kept (fun k cs f hk => hI.only.block k (by rcases hk with hk | hk <;> exact (Array.getElem?_eq_some_iff.1 hk).1) (fun hh => by
          rcases hh with hh | hh
          · rw [hh, show W3.heap[wr.heap.size]? = _ from HI0.out.box] at hk
            rcases hk with hk | hk <;> (injection hk with hk; injection hk with _ hk; cases hk)
          · rcases hk with hk | hk <;> (have := (Array.getElem?_eq_some_iff.1 hk).1; omega)))
        have hbrd : BrdAt W s (fun b => T b ∧ b < wr.heap.size) l.length B := HBR.out.kept hI.only (fun b hb _ h => by omega)
        have hlen9 : B.l.length = nl := by
          obtain ⟨_, _, hv9, _, _⟩ := row8_cells hrf.row
          simp only [Value.slice.injEq] at hv9
          exact hv9.2.1.symm
        have hbox := hI.box
        rw [hlen9] at hbox
        have hw03 : Below w.heap.size w W3 := HB1.out.trans (HU3.out.2.mono HB1.out.size)
        have hbw : Below w.heap.size w W := hw03.trans (hI.only.below hw03.size (fun b hb => by have h1 := HU3.out.2.size; have h2 := HK1.out.size; omega))
        have hres : Boxed W w.heap.size 4 (.bool false) := box_kept HY0.out (((HU3.out.2.block _ (box_lt HY0.out)) ▸ rfl : W3.heap[w.heap.size]? = w1.heap[w.heap.size]?) ▸ (hI.only.block _ (by have := HU3.out.2.size; have := box_lt HY0.out; omega) (by have h1 := HU3.out.2.size; have h2 := box_lt HY0.out; have h3 := HK1.out.size; omega)))
        have hinv := HBR.out.1
        have hr0 := hinv.r0
        have hc0 := hinv.c0
        rw [hbr] at hr0
        rw [hbc] at hc0
        have HSAME : Hid (∀ u v, Wf (u, v) → ∀ X, Below W.heap.size W X → Calls Try.prog 18 #[.pointer (some ⟨s, 0, none⟩), .agg #[.int .i64 br, .int .i64 bc, .slice Af nf cf, .slice Al nl cl], .int .i64 u, .int .i64 v] X fun e w' => e = .returned (.bool true) ∧ Below X.heap.size X w') := Lib.hid (fun u v huv X hX => by
          have := same_any u v huv (hbrd.later hX) (hrf.later hX) (by omega)
          rw [hbr, hbc] at this
          exact this)
        have HG : Hid (∀ X, Below W.heap.size W X → X.cell? ⟨g8, 0, none⟩ = some (.int .i64 br) ∧ X.cell? ⟨g8, 1, none⟩ = some (.int .i64 bc) ∧ X.cell? ⟨g8, 2, none⟩ = some (.slice Af nf cf) ∧ X.cell? ⟨g8, 3, none⟩ = some (.slice Al nl cl)) := Lib.hid (fun X hX => by
          obtain ⟨k0, k1, k2, k3, _⟩ := box4 ((hX.block g8 (Array.getElem?_eq_some_iff.1 hx8).1).trans hx8)
          exact ⟨k0, k1, k2, k3⟩)
        have HBX := Lib.hid hbox
        have HRES := Lib.hid hres
        have HBW := Lib.hid hbw
        have HDK := Lib.hid hK
        have hwD : w.heap.size < D := by have := HU3.out.2.size; omega
        clear hg83 hg8w hx8 hrf hbrd hlen9 hbox hw03 hbw hres hinv hK hI hv3 hs3 hbr hbc hlt2 hlt hk HBRC HI0 HBR HRF3 HXB3 HU3
        gi_wp2_with fail
        gi_loopw [20] (fun i X => ∃ k : Nat, k ≤ l.length ∧ i = .int .i64 k ∧ Below W.heap.size W X) (fun i _ => l.length - (intOf i).toNat)
        case atStart => exact ⟨0, Nat.zero_le _, rfl, Below.refl _ _⟩
        case round =>
          obtain ⟨k, hk, rfl, hX⟩ := hrel
          have HX := Lib.hid hX
          clear hX
          by_cases hlt : k < l.length
          · have hx : l[k]? = some l[k] := List.getElem?_eq_getElem hlt
            obtain ⟨d, hd⟩ : ∃ d, l[k] = d := ⟨_, rfl⟩
            rw [hd] at hx
            have hwd := HWF.out d (List.mem_of_getElem? hx)
            have HWD := Lib.hid hwd.1
            obtain ⟨ad, rfl, hIA⟩ := acts_in HA.out hx
            obtain ⟨fi, x, y, a, b⟩ := d
            have HACT := Lib.hid hIA
            have hi0 : (0 : Int) ≤ ↑k := by omega
            have hi1 : (↑k : Int) < ↑l.length := by omega
            have hi2 : (↑l.length : Int) ≤ ↑cc := by omega
            clear hx hd hwd hIA
            gi_wp2_with fail
            refine wpIn_region_C (S := fun Y => Below W.heap.size W Y) (by kernel_rfl) (HX.out.drew) ?_
            refine wpC_take (i := 0) (v := ?v0sm) rfl (by kernel_rfl) (by kernel_rfl) (by kernel_rfl) (does_yes (fun _ => trivial) (fun c => nofun) (by kernel_rfl) ?h0sm) ?_
            case h0sm => (rintro w2 hb; obtain ⟨g0, g1, g2, g3⟩ := HG.out w2 hb; obtain ⟨_, k1, k2, _, _⟩ := HACT.out w2 (HBW.out.trans (hb.mono HBW.out.size)); (try simp only at k1 k2); go_simp; try with_reducible rfl)
            refine wpC_take (i := 1) (v := ?v1sm) rfl (by kernel_rfl) (by kernel_rfl) (by kernel_rfl) (does_yes (fun _ => trivial) (fun c => nofun) (by kernel_rfl) ?h1sm) ?_
            case h1sm => (rintro w2 hb; obtain ⟨g0, g1, g2, g3⟩ := HG.out w2 hb; obtain ⟨_, k1, k2, _, _⟩ := HACT.out w2 (HBW.out.trans (hb.mono HBW.out.size)); (try simp only at k1 k2); go_simp; try with_reducible rfl)
            refine wpC_take (i := 2) (v := ?v2sm) rfl (by kernel_rfl) (by kernel_rfl) (by kernel_rfl) (does_yes (fun _ => trivial) (fun c => nofun) (by kernel_rfl) ?h2sm) ?_
            case h2sm => (rintro w2 hb; obtain ⟨g0, g1, g2, g3⟩ := HG.out w2 hb; obtain ⟨_, k1, k2, _, _⟩ := HACT.out w2 (HBW.out.trans (hb.mono HBW.out.size)); (try simp only at k1 k2); go_simp; try with_reducible rfl)
            refine wpC_take (i := 3) (v := ?v3sm) rfl (by kernel_rfl) (by kernel_rfl) (by kernel_rfl) (does_yes (fun _ => trivial) (fun c => nofun) (by kernel_rfl) ?h3sm) ?_
            case h3sm => (rintro w2 hb; obtain ⟨g0, g1, g2, g3⟩ := HG.out w2 hb; obtain ⟨_, k1, k2, _, _⟩ := HACT.out w2 (HBW.out.trans (hb.mono HBW.out.size)); (try simp only at k1 k2); go_simp; try with_reducible rfl)
            refine wpC_take (i := 4) (v := ?v4sm) rfl (by kernel_rfl) (by kernel_rfl) (by kernel_rfl) (does_yes (fun _ => trivial) (fun c => nofun) (by kernel_rfl) ?h4sm) ?_
            case h4sm => (rintro w2 hb; obtain ⟨g0, g1, g2, g3⟩ := HG.out w2 hb; obtain ⟨_, k1, k2, _, _⟩ := HACT.out w2 (HBW.out.trans (hb.mono HBW.out.size)); (try simp only at k1 k2); go_simp; try with_reducible rfl)
            refine wpC_take (i := 5) (v := ?v5sm) rfl (by kernel_rfl) (by kernel_rfl) (by kernel_rfl) (does_yes (fun _ => trivial) (fun c => nofun) (by kernel_rfl) ?h5sm) ?_
            case h5sm => (rintro w2 hb; obtain ⟨g0, g1, g2, g3⟩ := HG.out w2 hb; obtain ⟨_, k1, k2, _, _⟩ := HACT.out w2 (HBW.out.trans (hb.mono HBW.out.size)); (try simp only at k1 k2); go_simp; try with_reducible rfl)
            refine wpC_take (i := 6) (v := ?v6sm) rfl (by kernel_rfl) (by kernel_rfl) (by kernel_rfl) (does_yes (fun _ => trivial) (fun c => nofun) (by kernel_rfl) ?h6sm) ?_
            case h6sm => (rintro w2 hb; obtain ⟨g0, g1, g2, g3⟩ := HG.out w2 hb; obtain ⟨_, k1, k2, _, _⟩ := HACT.out w2 (HBW.out.trans (hb.mono HBW.out.size)); (try simp only at k1 k2); go_simp; try with_reducible rfl)
            refine wpC_take (i := 7) (v := ?v7sm) rfl (by kernel_rfl) (by kernel_rfl) (by kernel_rfl) (does_yes (fun _ => trivial) (fun c => nofun) (by kernel_rfl) ?h7sm) ?_
            case h7sm => (rintro w2 hb; obtain ⟨g0, g1, g2, g3⟩ := HG.out w2 hb; obtain ⟨_, k1, k2, _, _⟩ := HACT.out w2 (HBW.out.trans (hb.mono HBW.out.size)); (try simp only at k1 k2); go_simp; try with_reducible rfl)
            refine wpC_take (i := 8) (v := ?v8sm) rfl (by kernel_rfl) (by kernel_rfl) (by kernel_rfl) (does_yes (fun _ => trivial) (fun c => nofun) (by kernel_rfl) ?h8sm) ?_
            case h8sm => (rintro w2 hb; obtain ⟨g0, g1, g2, g3⟩ := HG.out w2 hb; obtain ⟨_, k1, k2, _, _⟩ := HACT.out w2 (HBW.out.trans (hb.mono HBW.out.size)); (try simp only at k1 k2); go_simp; try with_reducible rfl)
            refine wpC_take (i := 9) (v := ?v9sm) rfl (by kernel_rfl) (by kernel_rfl) (by kernel_rfl) (does_yes (fun _ => trivial) (fun c => nofun) (by kernel_rfl) ?h9sm) ?_
            case h9sm => (rintro w2 hb; obtain ⟨g0, g1, g2, g3⟩ := HG.out w2 hb; obtain ⟨_, k1, k2, _, _⟩ := HACT.out w2 (HBW.out.trans (hb.mono HBW.out.size)); (try simp only at k1 k2); go_simp; try with_reducible rfl)
            refine wpC_take (i := 10) (v := ?v10sm) rfl (by kernel_rfl) (by kernel_rfl) (by kernel_rfl) (does_yes (fun _ => trivial) (fun c => nofun) (by kernel_rfl) ?h10sm) ?_
            case h10sm => (rintro w2 hb; obtain ⟨g0, g1, g2, g3⟩ := HG.out w2 hb; obtain ⟨_, k1, k2, _, _⟩ := HACT.out w2 (HBW.out.trans (hb.mono HBW.out.size)); (try simp only at k1 k2); go_simp; try with_reducible rfl)
            refine wpC_take (i := 11) (v := ?v11sm) rfl (by kernel_rfl) (by kernel_rfl) (by kernel_rfl) (does_yes (fun _ => trivial) (fun c => nofun) (by kernel_rfl) ?h11sm) ?_
            case h11sm => (rintro w2 hb; obtain ⟨g0, g1, g2, g3⟩ := HG.out w2 hb; obtain ⟨_, k1, k2, _, _⟩ := HACT.out w2 (HBW.out.trans (hb.mono HBW.out.size)); (try simp only at k1 k2); go_simp; try with_reducible rfl)
            refine wpC_take (i := 12) (v := (.bool true)) rfl (by kernel_rfl) (by kernel_rfl) (by kernel_rfl) (does_call 18 #[.pointer (some ⟨s, 0, none⟩), .agg #[.int .i64 br, .int .i64 bc, .slice Af nf cf, .slice Al nl cl], .int .i64 x, .int .i64 y] (fun _ => trivial) (fun c => nofun) (fun _ => by omega) (by kernel_rfl) ?h12sm ?c12sm) ?_
            case h12sm => (rintro w2 hb; obtain ⟨g0, g1, g2, g3⟩ := HG.out w2 hb; obtain ⟨_, k1, k2, _, _⟩ := HACT.out w2 (HBW.out.trans (hb.mono HBW.out.size)); (try simp only at k1 k2); go_simp; try with_reducible rfl)
            case c12sm => (rintro w2 hb; refine (callsIn_wide.2 (HSAME.out x y HWD.out w2 hb)).mono ?_; rintro e w3 ⟨rfl, hb3⟩; exact ⟨rfl, hb.trans (hb3.mono hb.size)⟩)
            refine wpC_take (i := 13) (v := .bool false) rfl (by kernel_rfl) (by kernel_rfl) (by kernel_rfl) (does_yes (fun _ => trivial) (fun c => nofun) (by kernel_rfl) ?h13sm) ?_
            case h13sm => (rintro w2 hb; obtain ⟨g0, g1, g2, g3⟩ := HG.out w2 hb; obtain ⟨_, k1, k2, _, _⟩ := HACT.out w2 (HBW.out.trans (hb.mono HBW.out.size)); (try simp only at k1 k2); go_simp; try with_reducible rfl)
            refine wpC_done (by kernel_rfl) ?_ _
            intro v1 hS
            go_simp
            have HS := Lib.hid hS
            clear hS
            gi_wp2_with fail
            go_roundw
            case rel => exact ⟨k + 1, by omega, by simp, HS.out⟩
            case measure => simp [intOf]; omega
          · obtain rfl : k = l.length := by omega
            have hlt2 : ¬ (↑l.length : Int) < ↑l.length := by omega
            clear hk hlt hlt2
            gi_wp2_with fail
            gi_loopw [21] (fun i X => ∃ k : Nat, k ≤ 8 ∧ i = .int .i64 k ∧ Below W.heap.size W X) (fun i _ => 8 - (intOf i).toNat)
            case atStart => exact ⟨0, by omega, rfl, HX.out⟩
            case round =>
              obtain ⟨k, hk, rfl, hY⟩ := hrel
              obtain ⟨g0, g1, g2, g3⟩ := HG.out _ hY
              have HY := Lib.hid hY
              clear hY HX
              obtain ⟨mr, hmr⟩ : ∃ m, (if (8 : Int) < br then 8 else br) = m := ⟨_, rfl⟩
              have hm8 : mr ≤ 8 := by rw [← hmr]; split <;> omega
              by_cases hlt : (↑k : Int) < mr
              · have hk8 : k < 8 := by omega
                gi_wp2_with fail
                clear g0 g1 g2 g3 hmr hm8 hlt
                gi_loopw [22] (fun i X => ∃ k : Nat, k ≤ 8 ∧ i = .int .i64 k ∧ Below W.heap.size W X) (fun i _ => 8 - (intOf i).toNat)
                case atStart => exact ⟨0, by omega, rfl, HY.out⟩
                case round =>
                  obtain ⟨j, hj, rfl, hZ⟩ := hrel
                  obtain ⟨g0, g1, g2, g3⟩ := HG.out _ hZ
                  have HZ := Lib.hid hZ
                  clear hZ HY
                  obtain ⟨mc, hmc⟩ : ∃ m, (if (8 : Int) < bc then 8 else bc) = m := ⟨_, rfl⟩
                  have hm8 : mc ≤ 8 := by rw [← hmc]; split <;> omega
                  by_cases hlt2 : (↑j : Int) < mc
                  · have hj8 : j < 8 := by omega
                    have HWD := Lib.hid (wf_of (x := (↑k : Int)) (y := (↑j : Int)) (by omega) (by omega))
                    gi_wp2_with fail
                    clear hmc hm8 hlt2
                    refine (callsIn_wide.2 (HSAME.out _ _ HWD.out _ HZ.out)).mono ?_
                    rintro e Z1 ⟨rfl, hb1⟩
                    have HZ1 := Lib.hid (HZ.out.trans (hb1.mono HZ.out.size))
                    clear hb1 g0 g1 g2 g3
                    gi_wp2_with fail
                    go_roundw
                    case rel => exact ⟨j + 1, by omega, by simp, HZ1.out⟩
                    case measure => simp [intOf]; omega
                  all_goals
                    gi_wp2_with fail
                    go_roundw
                    case rel => exact ⟨k + 1, by omega, by simp, HZ.out⟩
                    case measure => simp [intOf]; omega
              all_goals
                have hx17 := box_kept HBX.out (HY.out.block _ (box_lt HBX.out))
                have hx6 := box_kept HRES.out (HY.out.block _ (box_lt HRES.out))
                have c17 := hx17.cell
                have c6 := hx6.cell
                have f6 := hx6.frozen
                have HX6 := Lib.hid hx6
                have hKY : wr.heap[D]? = some (.deferred (some [])) := (HY.out.block D (Array.getElem?_eq_some_iff.1 HDK.out).1).trans HDK.out
                have hK' : (wr.setCell ⟨w.heap.size, 0, none⟩ (.bool true)).heap[D]? = some (.deferred (some [])) := (KeepsOthers.setCell wr _ _).same D _ hKY rfl
                have HK' := Lib.hid hK'
                have HBF : Hid (Below w.heap.size w wr) := Lib.hid (HBW.out.trans (HY.out.mono HBW.out.size))
                clear hx17 hx6 hKY hK'
                gi_wp2
                clear hmr
                refine ⟨by simp, .inl ⟨_, _, rfl, run_takeDeferred HK'.out, ?_⟩⟩
                have r0 := ((HX6.out.set (.bool true)).kept (grownBy_putObj' _ D (.deferred none)) (fun e => by injection e with e; omega)).cell
                exact ⟨.bool true, by simp [results, Try.f3, go_sem, r0], rfl, below_put (HBF.out.setCell (p := ⟨w.heap.size, 0, none⟩) (Nat.le_refl _) _) (by have := HBF.out.size; simpa [World.setCell] using this) (show w.heap.size ≤ D by omega) _⟩
end Go.Proofs.Ytdeneogbnmedkaa
