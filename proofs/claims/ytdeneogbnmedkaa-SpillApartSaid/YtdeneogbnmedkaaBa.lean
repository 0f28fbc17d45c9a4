/- The law SpillBars. -/
import Derived.Test.YtdeneogbnmedkaaP
import Derived.Test.YtdeneogbnmedkaaN
namespace Go.Proofs.Ytdeneogbnmedkaa
open Go.RowKit Go.Maps Go.Shelf
attribute [local go_sem] Oper.semAt_some

theorem below_rec {α : Type} {w : World} : OwnRec w.heap.size (fun (_ : List α) W => Below w.heap.size w W) := fun _ _ _ _ h hg hr => h.grown hg h.size (fun j e => (hr j e).1)

set_option maxRecDepth 100000 in
set_option maxHeartbeats 4000000 in
theorem bars_law {w : World} (r : Int) (hr : 0 ≤ r ∧ r ≤ 255) (c : Int) (hc : 0 ≤ c ∧ c ≤ 255) (v : Value) (l : List ActP) (ha : ActsAt w v l) (hwf : ∀ d ∈ l, WfA d) :
    Calls Try.prog 6 #[.int .u8 r, .int .u8 c, v] w fun e w' => e = .returned (.bool true) ∧ Below w.heap.size w w' := by
  obtain ⟨A, cc, rfl, hcc, _⟩ := id ha
  have HA := Lib.hid ha
  have HWF := Lib.hid hwf
  have HRB := Lib.hid hr
  have HCB := Lib.hid hc
  have hb0 : Below w.heap.size w (((w.alloc (.cells #[.int .u8 r] 5)).alloc (.cells #[.int .u8 c] 5)).alloc (.cells #[.bool false] 4)) := (((Below.refl _ _).alloc (Nat.le_refl _) _).alloc (by simp) _).alloc (by simp; omega) _
  have hx0 : Boxed (((w.alloc (.cells #[.int .u8 r] 5)).alloc (.cells #[.int .u8 c] 5)).alloc (.cells #[.bool false] 4)) w.heap.size 5 (.int .u8 r) := ((Boxed.new w 5 _).alloc _).alloc _
  have hx1 : Boxed (((w.alloc (.cells #[.int .u8 r] 5)).alloc (.cells #[.int .u8 c] 5)).alloc (.cells #[.bool false] 4)) (w.heap.size + 1) 5 (.int .u8 c) := by
    have := (Boxed.new (w.alloc (.cells #[.int .u8 r] 5)) 5 (.int .u8 c)).alloc (.cells #[.bool false] 4)
    simpa using this
  have hx2 : Boxed (((w.alloc (.cells #[.int .u8 r] 5)).alloc (.cells #[.int .u8 c] 5)).alloc (.cells #[.bool false] 4)) (w.heap.size + 2) 4 (.bool false) := by
    have := Boxed.new ((w.alloc (.cells #[.int .u8 r] 5)).alloc (.cells #[.int .u8 c] 5)) 4 (.bool false)
    simpa using this
  have hsz : (((w.alloc (.cells #[.int .u8 r] 5)).alloc (.cells #[.int .u8 c] 5)).alloc (.cells #[.bool false] 4)).heap.size = w.heap.size + 3 := by simp
  clear ha hwf hr hc
  refine (callsIn_wide (n := 6)).1 ?_
  refine callsIn_of_wp_marks Try.func6 rfl trivial ?_ rfl
  simp only [Try.ntmps6, List.size_toArray, List.length_cons, List.length_nil, Nat.reduceAdd, Nat.reduceSub, Array.replicate_succ, Array.replicate_zero, List.push_toArray, List.append_toArray, List.nil_append, List.cons_append]
  have hfA : Fence.wide.fn 9 := trivial
  have hfP : Fence.wide.fn 19 := trivial
  have hfR : Fence.wide.fn 16 := trivial
  obtain ⟨W0, hW0⟩ : ∃ W0, W0 = (((w.alloc (.cells #[.int .u8 r] 5)).alloc (.cells #[.int .u8 c] 5)).alloc (.cells #[.bool false] 4)) := ⟨_, rfl⟩
  rw [← hW0] at hb0 hx0 hx1 hx2 hsz
  have HB0 := Lib.hid hb0
  have HX0 := Lib.hid hx0
  have HX1 := Lib.hid hx1
  have HX2 := Lib.hid hx2
  have HW0 := Lib.hid hW0
  clear hb0 hx0 hx1 hx2 hW0
  gi_wp2_with fail
  rw [← HW0.out]
  refine (callsIn_wide.2 (awake_any _)).mono ?_
  rintro e w1 ⟨rfl, hb1⟩
  have HB1 := Lib.hid (HB0.out.trans (hb1.mono (by omega)))
  have hy0 := box_kept HX0.out (hb1.block _ (box_lt HX0.out))
  have hy1 := box_kept HX1.out (hb1.block _ (box_lt HX1.out))
  have hy2 := box_kept HX2.out (hb1.block _ (box_lt HX2.out))
  have hsz1 : w.heap.size + 3 ≤ w1.heap.size := by have := hb1.size; omega
  have HY0 := Lib.hid hy0
  have HY1 := Lib.hid hy1
  have HY2 := Lib.hid hy2
  clear hb1 HX0 HX1 HX2 HB0 HW0 hsz
  by_cases hlen : l.length ≤ 60
  · have hlt : ¬ (60 : Int) < ↑l.length := by omega
    have c0 := hy0.cell
    have c1 := hy1.cell
    clear hy0 hy1 hy2
    gi_wp2_with fail
    refine (callsIn_wide.2 (play_up (Below.refl _ w1) _ l (HA.out.below HB1.out) HWF.out hlen r c HRB.out HCB.out)).mono ?_
    rintro e w2 ⟨s, rfl, hu⟩
    have HU := Lib.hid hu
    clear hu c0 c1
    gi_wp2_with fail
    refine (callsIn_wide.2 (rects_call _ _)).mono ?_
    rintro e w3 ⟨rfl, rfl⟩
    obtain ⟨W3, hW3⟩ : ∃ W3, W3 = ((w2.alloc (.cells #[.pointer (some ⟨s, 0, none⟩)] 24)).alloc (.cells #[.pointer (some ⟨s, 0, none⟩)] 24)) := ⟨_, rfl⟩
    have hb23 : Below w2.heap.size w2 W3 := by rw [hW3]; exact ((Below.refl _ _).alloc (Nat.le_refl _) _).alloc (by simp) _
    have hU3 := HU.out.later hb23
    have hv2 : Boxed W3 w2.heap.size 24 (.pointer (some ⟨s, 0, none⟩)) := by rw [hW3]; exact (Boxed.new w2 24 _).alloc _
    have hv3 : Boxed W3 (w2.heap.size + 1) 24 (.pointer (some ⟨s, 0, none⟩)) := by
      rw [hW3]
      have := Boxed.new (w2.alloc (.cells #[.pointer (some ⟨s, 0, none⟩)] 24)) 24 (.pointer (some ⟨s, 0, none⟩))
      simpa using this
    have hs3 : W3.heap.size = w2.heap.size + 2 := by rw [hW3]; simp
    have hb13 : Below w1.heap.size w1 W3 := hU3.2
    have hz0 := box_kept HY0.out (hb13.block _ (box_lt HY0.out))
    have hz1 := box_kept HY1.out (hb13.block _ (box_lt HY1.out))
    have hz2 := box_kept HY2.out (hb13.block _ (box_lt HY2.out))
    have HV2 := Lib.hid hv2
    have HZ0 := Lib.hid hz0
    have HZ1 := Lib.hid hz1
    have HZ2 := Lib.hid hz2
    have HU3 := Lib.hid hU3
    have hbw3 : Below w.heap.size w W3 := HB1.out.trans (hU3.2.mono HB1.out.size)
    have HBW3 := Lib.hid hbw3
    have hs12 : w1.heap.size ≤ w2.heap.size := HU.out.2.size
    gi_wp2_with fail
    rw [← hW3]
    clear hb23 hU3 hv2 hb13 hz0 hz1 hz2 HY0 HY1 HY2 HU hbw3 hW3
    refine range_boxesP (F := Fence.wide) rfl (by omega) (gf := 32) (lb := #[.pointer (some ⟨w2.heap.size + 1, 0, none⟩)]) rfl trivial (enters_of Try.func32 (by kernel_rfl) rfl)
      (rects_runs 5 (by omega) (w2.heap.size + 1) s l.length (fun b => w1.heap.size ≤ b) (fun k => k < W3.heap.size) (playB r c l) W3 hv3 HU3.out.1 (by omega) (by omega) (fun k _ hk => hk)) Keep.trans
      (keep_put (w := W3) (fun k hk => hk)) (Below.refl _ _) (fun _ => rfl)
      (fun _ W => Below W3.heap.size W3 W) below_rec (Below.refl _ _) (fun d => .cells #[.int .i64 d.r.1, .int .i64 d.r.2.1, .int .i64 d.r.2.2.1, .int .i64 d.r.2.2.2] 47) (fun d b => { tmps := #[.int .u8 r, .int .u8 c, .slice A l.length cc, .pointer (some ⟨w.heap.size, 0, none⟩), .pointer (some ⟨w.heap.size + 1, 0, none⟩), undef, .pointer (some ⟨w.heap.size + 1 + 1, 0, none⟩), .pointer (some ⟨w2.heap.size, 0, none⟩), .pointer (some ⟨b, 0, none⟩), .bool d.st, undef, undef, undef, undef, .bool true, .bool false, .bool false, .slice A l.length cc, .int .i64 ↑l.length, .bool (decide ((60 : Int) < ↑l.length)), .bool (decide ((60 : Int) < ↑l.length)), undef, .int .u8 r, .int .u8 c, .slice A l.length cc, .pointer (some ⟨s, 0, none⟩), .pointer (some ⟨s, 0, none⟩), .func (.func 32) #[] #[.pointer (some ⟨w2.heap.size + 1, 0, none⟩)], .agg #[.int .i64 d.r.1, .int .i64 d.r.2.1, .int .i64 d.r.2.2.1, .int .i64 d.r.2.2.2], .bool d.st, undef, undef, undef, undef, undef, undef, undef, undef, undef, undef, undef, undef, undef, undef, undef, undef, undef, undef, undef, undef, undef, undef, undef, undef, undef, undef, undef, undef, undef, undef, undef, undef, undef, undef, undef, undef, undef, undef, undef, undef, undef, undef, undef, undef, undef, undef, undef, undef, undef, undef, undef, undef, undef, undef, undef, undef, undef, undef, undef, undef, undef, undef, undef, undef, undef, undef, undef, undef, undef, undef, undef, undef, undef, undef, undef, undef, undef, undef, undef, undef, undef, undef, undef, undef, undef, undef, undef, undef, undef], defers := [] })
      (fun W o => Keep.below ((Below.refl _ W).alloc (Nat.le_refl _) o)) ?assign ?body ?done
    case assign =>
      intro lp d W K hK
      gi_wp2
      exact hK
    case body =>
      rintro lp pre d b W hB hpre hbge hbx
      have hmem : d ∈ (playB r c l).l := hpre.subset (by simp)
      have hinv := inv_play r c l
      have hD := decF_of hinv hmem
      have hj := hinv.jud d hmem
      have hats := hinv.ats d hmem
      have hps := play_size r c l
      have hr0 := HRB.out
      have hc0 := HCB.out
      have hcr : clampF (r % 12) = r % 12 := by unfold clampF; omega
      have hcc : clampF (c % 12) = c % 12 := by unfold clampF; omega
      rw [hcr, hcc] at hps
      have hbey : beyF (playB r c l) d.r = (decide (r % 12 - d.r.1 < d.r.2.2.1) || decide (c % 12 - d.r.2.1 < d.r.2.2.2)) := by unfold beyF; rw [hps.1, hps.2]
      have hbounds : 0 ≤ d.r.1 ∧ 0 ≤ d.r.2.1 ∧ d.r.1 < r % 12 ∧ d.r.2.1 < c % 12 := by
        have := (hasP_iff _ _).1 hats.1
        rw [hps.1, hps.2] at this
        simpa [anc] using this
      have hfit := (fitsF_iff _ _).1 hats.2
      obtain ⟨⟨x, y, a, b'⟩, st, ⟨p, q⟩, hb⟩ := d
      simp only [anc] at hD hj hbey hbounds hfit hbx ⊢
      have hv : barA (playB r c l) (x, y) = .tuple #[.int .i64 p, .int .i64 q, .bool hb] := by unfold barA dcF; rw [hD]; rfl
      have hbl := blocker_any x y (wf_of (by omega) (by omega)) (HU3.out.1.later hB)
      rw [hv] at hbl
      have HBL := Lib.hid hbl
      have HB := Lib.hid hB
      have HBX := Lib.hid hbx
      have c7 := (box_kept HV2.out (hB.block _ (box_lt HV2.out))).cell
      obtain ⟨e0, e1, e2, e3, _⟩ := box4 hbx
      have hfB : Fence.wide.fn 21 := trivial
      clear hmem hinv hD hats hps hr0 hc0 hcr hcc hv hbl hB hbx hpre
      gi_wp2_with fail
      refine (CallsIn.inRound lp (callsIn_wide.2 HBL.out)).mono ?_
      rintro e W4 ⟨rfl, hb4⟩
      have HB4 := Lib.hid hb4
      have hb34 : Below W3.heap.size W3 W4 := HB.out.trans (hb4.mono HB.out.size)
      have HBF4 := Lib.hid hb34
      have d3 := (box_kept HZ0.out (hb34.block _ (box_lt HZ0.out))).cell
      have d4 := (box_kept HZ1.out (hb34.block _ (box_lt HZ1.out))).cell
      obtain ⟨g0, g1, g2, g3, _⟩ := box4 ((hb4.block b (Array.getElem?_eq_some_iff.1 HBX.out).1).trans HBX.out)
      have hr2 : IntKind.i64.wrap r = r := by have := HRB.out; rw [IntKind.wrap_i64]; omega
      have hc2 : IntKind.i64.wrap c = c := by have := HCB.out; rw [IntKind.wrap_i64]; omega
      have hr1 : r.tmod 12 = r % 12 := Int.tmod_eq_emod_of_nonneg HRB.out.1
      have hc1 : c.tmod 12 = c % 12 := Int.tmod_eq_emod_of_nonneg HCB.out.1
      have hr3 : IntKind.i64.wrap (r % 12) = r % 12 := by rw [IntKind.wrap_i64]; omega
      have hc3 : IntKind.i64.wrap (c % 12) = c % 12 := by rw [IntKind.wrap_i64]; omega
      have hr4 : IntKind.i64.wrap (r % 12 - x) = r % 12 - x := by rw [IntKind.wrap_i64]; omega
      have hc4 : IntKind.i64.wrap (c % 12 - y) = c % 12 - y := by rw [IntKind.wrap_i64]; omega
      obtain ⟨j1, j2, j3, j4⟩ := hj
      rw [hbey] at j1 j2
      clear hb4 hb34 e0 e1 e2 e3 c7 HBL hbey
      by_cases h1 : r % 12 - x < a
      · have hst : st = false := by
          cases st with
          | false => rfl
          | true => have := (j1 rfl).1; simp [h1] at this
        subst hst
        have hhb : hb = false := by rw [j2 rfl]; simp [h1]
        subst hhb
        have hpq := j3 rfl
        simp only [Prod.mk.injEq] at hpq
        obtain ⟨rfl, rfl⟩ := hpq
        clear j1 j2 j3 j4
        gi_wp2
        refine ⟨KeepsRec.of_only (Only.of_below HB4.out) (fun k o hk ho => absurd (Array.getElem?_eq_some_iff.1 ho).1 (by omega)), Keep.below HB4.out, HBF4.out⟩
      by_cases h2 : c % 12 - y < b'
      · have hst : st = false := by
          cases st with
          | false => rfl
          | true => have := (j1 rfl).1; simp [h2] at this
        subst hst
        have hhb : hb = false := by rw [j2 rfl]; simp [h2]
        subst hhb
        have hpq := j3 rfl
        simp only [Prod.mk.injEq] at hpq
        obtain ⟨rfl, rfl⟩ := hpq
        clear j1 j2 j3 j4
        gi_wp2
        refine ⟨KeepsRec.of_only (Only.of_below HB4.out) (fun k o hk ho => absurd (Array.getElem?_eq_some_iff.1 ho).1 (by omega)), Keep.below HB4.out, HBF4.out⟩
      cases st with
      | true =>
        have hhb := (j1 rfl).2
        subst hhb
        have hpq := j3 rfl
        simp only [Prod.mk.injEq] at hpq
        obtain ⟨rfl, rfl⟩ := hpq
        clear j1 j2 j3 j4
        gi_wp2
        refine ⟨KeepsRec.of_only (Only.of_below HB4.out) (fun k o hk ho => absurd (Array.getElem?_eq_some_iff.1 ho).1 (by omega)), Keep.below HB4.out, HBF4.out⟩
      | false =>
        have hhb : hb = true := by rw [j2 rfl]; simp [h1, h2]
        subst hhb
        have hin := (inR_iff _ _).1 (j4 rfl)
        simp only at hin
        have k1 : ¬ p < x := by omega
        have k2 : ¬ q < y := by omega
        have k3 : IntKind.i64.wrap (p - x) = p - x := by rw [IntKind.wrap_i64]; omega
        have k4 : IntKind.i64.wrap (q - y) = q - y := by rw [IntKind.wrap_i64]; omega
        have k5 : ¬ a ≤ p - x := by omega
        have k6 : ¬ b' ≤ q - y := by omega
        clear j1 j2 j3 j4 hin
        gi_wp2
        refine ⟨KeepsRec.of_only (Only.of_below HB4.out) (fun k o hk ho => absurd (Array.getElem?_eq_some_iff.1 ho).1 (by omega)), Keep.below HB4.out, HBF4.out⟩
    case done =>
      rintro D W hD hB hK
      have hx6 := box_kept HZ2.out (hB.block _ (box_lt HZ2.out))
      have c6 := hx6.cell
      have f6 := hx6.frozen
      have HX6 := Lib.hid hx6
      have hK' : (W.setCell ⟨w.heap.size + 2, 0, none⟩ (.bool true)).heap[D]? = some (.deferred (some [])) := (KeepsOthers.setCell W _ _).same D _ hK rfl
      have HK' := Lib.hid hK'
      have HBF := Lib.hid (HBW3.out.trans (hB.mono HBW3.out.size))
      have hs9 := HBW3.out.size
      clear hx6 hK hK' hv3
      gi_wp2
      refine ⟨by simp, .inl ⟨_, _, rfl, run_takeDeferred HK'.out, ?_⟩⟩
      have r0 := ((HX6.out.set (.bool true)).kept (grownBy_putObj' _ D (.deferred none)) (fun e => by injection e with e; omega)).cell
      exact ⟨.bool true, by simp [results, Try.f6, go_sem, r0], rfl, below_put (HBF.out.setCell (p := ⟨w.heap.size + 2, 0, none⟩) (Nat.le_add_right _ _) _) (by have := HBF.out.size; simpa [World.setCell] using this) (show w.heap.size ≤ D by omega) _⟩
  · have hlt : (60 : Int) < ↑l.length := by omega
    have f2 := hy2.frozen
    have c2 := hy2.cell
    clear hy0 hy1 hy2
    gi_wp2_with fail
    refine (callsIn_wide.2 (awake_any _)).mono ?_
    rintro e w2 ⟨rfl, hb2⟩
    have hz2 := box_kept HY2.out (hb2.block _ (box_lt HY2.out))
    have c2 := hz2.cell
    have f2 := hz2.frozen
    have HB2 := Lib.hid (HB1.out.trans (hb2.mono HB1.out.size))
    have HZ2 := Lib.hid hz2
    clear hb2 hz2
    gi_wp2
    have r0 := (HZ2.out.set (.bool true)).cell
    exact ⟨.bool true, by simp [results, Try.f6, go_sem, r0], rfl, HB2.out.setCell (p := ⟨w.heap.size + 2, 0, none⟩) (Nat.le_add_right _ _) _⟩
end Go.Proofs.Ytdeneogbnmedkaa
