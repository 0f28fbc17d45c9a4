/- ShapeParts: what stands beside each other, and is parted again, is itself. -/
import Derived.Test.YtfgddhabepllfaaDoorU
import Derived.Test.YtfgddhabepllfaaDoorV
import Derived.Test.YtfgddhabepllfaaDoorY
namespace Go.Proofs.YtfgddhabepllfaaDoor
open Go.RowKit

theorem bes_all {ra ca rb cb n : Nat} {la lb : List Vl} {va vb : Value} (hra : rightA ⟨ra, ca, la⟩ = true) (hrb : rightA ⟨rb, cb, lb⟩ = true) (hwa : WfL la) (hwb : WfL lb) (w : World) (he : Env w) (hn : n ≤ w.heap.size) (hva : ValAt n w va la) (hvb : ValAt n w vb lb) :
    Calls Tryd.prog 31 #[arV ra ca va, arV rb cb vb] w (if fitsB ((max ra rb : Nat) : Int) ((ca + cb : Nat) : Int) then ArOut2 w ⟨(max ra rb : Nat), (ca + cb : Nat), besL ra ca la rb cb lb⟩ true else ArOut2 w zA false) := by
  split
  · rename_i h; exact bes_yes hra hrb h hwa hwb w he hn hva hvb
  · rename_i h; exact bes_no hra hrb (by simpa using h) hwa hwb w he hn hva hvb
/-- the other one: rows below -/
theorem bel_turned {ra ca rb cb n : Nat} {la lb : List Vl} {va vb : Value} (hra : rightA ⟨ra, ca, la⟩ = true) (hrb : rightA ⟨rb, cb, lb⟩ = true) (hf : fitsB ((max ra rb : Nat) : Int) ((ca + cb : Nat) : Int) = true) (hwa : WfL la) (hwb : WfL lb) (w : World) (he : Env w) (hn : n ≤ w.heap.size)
    (hva : ValAt n w va (turnL ra ca la)) (hvb : ValAt n w vb (turnL rb cb lb)) :
    Calls Tryd.prog 32 #[arV ca ra va, arV cb rb vb] w (ArOut2 w ⟨(ca + cb : Nat), (max ra rb : Nat), turnL (max ra rb) (ca + cb) (besL ra ca la rb cb lb)⟩ true) := by
  obtain ⟨hla, _, _, _, _, _, _⟩ := right_nat hra
  obtain ⟨hlb, _, _, _, _, _, _⟩ := right_nat hrb
  refine below_yes (right_turn hra) (right_turn hrb) (wf_turn hla hwa) (wf_turn hlb hwb) (M := max ra rb) (N := ca + cb) (right_bes hra hrb hf) (wf_bes hla hlb hwa hwb) w he hn hva hvb (fun X v1 v2 hX h1 h2 => ?_)
  rw [turn_turn hla] at h1
  rw [turn_turn hlb] at h2
  exact bes_yes hra hrb hf hwa hwb X (he.below hX) (Nat.le_refl _) h1 h2
theorem part_fits {ra rb ca cb : Nat} (h1 : 1 ≤ ra) (h2 : 1 ≤ rb) (h3 : ra ≤ 4096) (h4 : rb ≤ 4096) (h5 : 1 ≤ ca) (h : fitsB ((max ra rb : Nat) : Int) ((ca + cb : Nat) : Int) = false) : 4096 < ra * (ca + cb) ∨ 4096 < rb * (ca + cb) := by
  by_cases h6 : 4096 < ra * (ca + cb)
  · exact .inl h6
  by_cases h7 : 4096 < rb * (ca + cb)
  · exact .inr h7
  exfalso
  have h8 : max ra rb * (ca + cb) ≤ 4096 := by
    rcases Nat.le_total ra rb with h | h
    · rw [Nat.max_eq_right h]; omega
    · rw [Nat.max_eq_left h]; omega
  have h9 : ca + cb ≤ ra * (ca + cb) := Nat.le_mul_of_pos_left _ h1
  rw [fits_nat.2 ⟨by omega, by omega, by omega, by omega, h8⟩] at h
  cases h
set_option maxRecDepth 100000 in
set_option maxHeartbeats 4000000 in
theorem parts_out (r c r' c' : Int) {va vb : Value} {la lb : List Vl} (z1 z2 z3 z4 : Bool) (h : z1 = false ∨ z2 = false ∨ z3 = false ∨ z4 = false) (w : World) (he : Env w) (hva : ValAt w.heap.size w va la) (hvb : ValAt w.heap.size w vb lb)
    (hs1 : smallB la = z1) (hs2 : smallB lb = z2) (hr1 : rightA ⟨r, c, la⟩ = z3) (hr2 : rightA ⟨r', c', lb⟩ = z4) :
    Calls Tryd.prog 6 #[arV r c va, arV r' c' vb] w fun e w' => e = .returned (.bool true) ∧ Below w.heap.size w w' := by
  obtain ⟨W0, hW0⟩ : ∃ W0, (w.alloc (.cells #[.int .i64 r, .int .i64 c, va] 25)).alloc (.cells #[.int .i64 r', .int .i64 c', vb] 25) = W0 := ⟨_, rfl⟩
  have hb0 : Below w.heap.size w W0 := by rw [← hW0]; exact two_below
  have hx0 : W0.heap[w.heap.size]? = some (.cells #[.int .i64 r, .int .i64 c, va] 25 (0, 0)) := by rw [← hW0]; exact two_old
  have hx1 : W0.heap[w.heap.size + 1]? = some (.cells #[.int .i64 r', .int .i64 c', vb] 25 (0, 0)) := by rw [← hW0]; exact two_new
  have HW0 := Lib.hid hW0
  have HB0 := Lib.hid hb0
  have HX0 := Lib.hid hx0
  have HX1 := Lib.hid hx1
  have HA := Lib.hid (fun W (hW : Below w.heap.size w W) => awake_any W (he.below hW))
  have HSA := Lib.hid (fun W (hW : Below w.heap.size w W) => small_any _ r c va la W hW.size (hva.below hW))
  have HSB := Lib.hid (fun W (hW : Below w.heap.size w W) => small_any _ r' c' vb lb W hW.size (hvb.below hW))
  rw [hs1] at HSA
  rw [hs2] at HSB
  have HRA : Hid (z1 = true → ∀ W, Below w.heap.size w W → Calls Tryd.prog 15 #[arV r c va] W fun e w' => e = .returned (.bool z3) ∧ Below W.heap.size W w') := Lib.hid (fun h1 W hW => by
    rw [← hr1]
    refine rrighta_any _ r c va la ?_ W hW.size (hva.below hW)
    rw [h1] at hs1
    unfold smallB at hs1
    rw [Bool.and_eq_true, decide_eq_true_eq] at hs1
    omega)
  have HRB : Hid (z2 = true → ∀ W, Below w.heap.size w W → Calls Tryd.prog 15 #[arV r' c' vb] W fun e w' => e = .returned (.bool z4) ∧ Below W.heap.size W w') := Lib.hid (fun h1 W hW => by
    rw [← hr2]
    refine rrighta_any _ r' c' vb lb ?_ W hW.size (hvb.below hW)
    rw [h1] at hs2
    unfold smallB at hs2
    rw [Bool.and_eq_true, decide_eq_true_eq] at hs2
    omega)
  obtain ⟨A1, cp1, rfl, _⟩ := id hva
  obtain ⟨A2, cp2, rfl, _⟩ := id hvb
  have HH := Lib.hid h
  clear hs1 hs2 hr1 hr2 he hva hvb hW0 hb0 hx0 hx1 h
  unfold arV at *
  go_enter Tryd.func6, Tryd.ntmps6
  go_wp2_with fail
  rw [HW0.out]
  refine (HA.out _ HB0.out).mono ?_
  rintro e w1 ⟨rfl, hb1⟩
  have HC1 := Lib.hid hb1
  clear hb1
  obtain ⟨a0, a1, a2, _⟩ := box3 (box_kept HX0.out HC1.out (Nat.le_refl _))
  obtain ⟨b0, b1, b2, _⟩ := box3 (box_kept HX1.out HC1.out (Nat.le_refl _))
  go_wp2_with fail
  refine (HSA.out _ (HB0.out.trans (HC1.out.mono HB0.out.size))).mono ?_
  rintro e w2 ⟨rfl, hb2⟩
  have HC2 := Lib.hid (HC1.out.trans (hb2.mono HC1.out.size))
  clear hb2 a0 a1 a2 b0 b1 b2
  obtain ⟨a0, a1, a2, _⟩ := box3 (box_kept HX0.out HC2.out (Nat.le_refl _))
  obtain ⟨b0, b1, b2, _⟩ := box3 (box_kept HX1.out HC2.out (Nat.le_refl _))
  cases z1 with
  | false =>
    go_wp2
    go_ret
    exact ⟨rfl, HB0.out.trans (HC2.out.mono HB0.out.size)⟩
  | true =>
    go_wp2_with fail
    refine (HSB.out _ (HB0.out.trans (HC2.out.mono HB0.out.size))).mono ?_
    rintro e w3 ⟨rfl, hb3⟩
    have HC3 := Lib.hid (HC2.out.trans (hb3.mono HC2.out.size))
    clear hb3 a0 a1 a2 b0 b1 b2
    obtain ⟨a0, a1, a2, _⟩ := box3 (box_kept HX0.out HC3.out (Nat.le_refl _))
    obtain ⟨b0, b1, b2, _⟩ := box3 (box_kept HX1.out HC3.out (Nat.le_refl _))
    cases z2 with
    | false =>
      go_wp2
      go_ret
      exact ⟨rfl, HB0.out.trans (HC3.out.mono HB0.out.size)⟩
    | true =>
      have HRA2 := Lib.hid (HRA.out (by first | trivial | rfl))
      have HRB2 := Lib.hid (HRB.out (by first | trivial | rfl))
      go_wp2_with fail
      refine (HRA2.out _ (HB0.out.trans (HC3.out.mono HB0.out.size))).mono ?_
      rintro e w4 ⟨rfl, hb4⟩
      have HC4 := Lib.hid (HC3.out.trans (hb4.mono HC3.out.size))
      clear hb4 a0 a1 a2 b0 b1 b2
      obtain ⟨a0, a1, a2, _⟩ := box3 (box_kept HX0.out HC4.out (Nat.le_refl _))
      obtain ⟨b0, b1, b2, _⟩ := box3 (box_kept HX1.out HC4.out (Nat.le_refl _))
      cases z3 with
      | false =>
        go_wp2
        go_ret
        exact ⟨rfl, HB0.out.trans (HC4.out.mono HB0.out.size)⟩
      | true =>
        go_wp2_with fail
        refine (HRB2.out _ (HB0.out.trans (HC4.out.mono HB0.out.size))).mono ?_
        rintro e w5 ⟨rfl, hb5⟩
        have HC5 := Lib.hid (HC4.out.trans (hb5.mono HC4.out.size))
        clear hb5 a0 a1 a2 b0 b1 b2
        obtain ⟨a0, a1, a2, _⟩ := box3 (box_kept HX0.out HC5.out (Nat.le_refl _))
        obtain ⟨b0, b1, b2, _⟩ := box3 (box_kept HX1.out HC5.out (Nat.le_refl _))
        cases z4 with
        | false =>
          go_wp2
          go_ret
          exact ⟨rfl, HB0.out.trans (HC5.out.mono HB0.out.size)⟩
        | true => rcases HH.out with h | h | h | h <;> cases h
set_option maxRecDepth 100000 in
set_option maxHeartbeats 4000000 in
theorem parts_no {ra ca rb cb : Nat} {va vb : Value} {la lb : List Vl} (w : World) (he : Env w) (hva : ValAt w.heap.size w va la) (hvb : ValAt w.heap.size w vb lb) (hwa : WfL la) (hwb : WfL lb)
    (hs1 : smallB la = true) (hs2 : smallB lb = true) (hra : rightA ⟨ra, ca, la⟩ = true) (hrb : rightA ⟨rb, cb, lb⟩ = true) (hf : fitsB ((max ra rb : Nat) : Int) ((ca + cb : Nat) : Int) = false) :
    Calls Tryd.prog 6 #[arV ra ca va, arV rb cb vb] w fun e w' => e = .returned (.bool true) ∧ Below w.heap.size w w' := by
  obtain ⟨W0, hW0⟩ : ∃ W0, (w.alloc (.cells #[.int .i64 (ra : Int), .int .i64 (ca : Int), va] 25)).alloc (.cells #[.int .i64 (rb : Int), .int .i64 (cb : Int), vb] 25) = W0 := ⟨_, rfl⟩
  have hb0 : Below w.heap.size w W0 := by rw [← hW0]; exact two_below
  have hx0 : W0.heap[w.heap.size]? = some (.cells #[.int .i64 (ra : Int), .int .i64 (ca : Int), va] 25 (0, 0)) := by rw [← hW0]; exact two_old
  have hx1 : W0.heap[w.heap.size + 1]? = some (.cells #[.int .i64 (rb : Int), .int .i64 (cb : Int), vb] 25 (0, 0)) := by rw [← hW0]; exact two_new
  have HW0 := Lib.hid hW0
  have HB0 := Lib.hid hb0
  have HX0 := Lib.hid hx0
  have HX1 := Lib.hid hx1
  have HA := Lib.hid (fun W (hW : Below w.heap.size w W) => awake_any W (he.below hW))
  have HSA := Lib.hid (fun W (hW : Below w.heap.size w W) => small_any _ ra ca va la W hW.size (hva.below hW))
  have HSB := Lib.hid (fun W (hW : Below w.heap.size w W) => small_any _ rb cb vb lb W hW.size (hvb.below hW))
  rw [hs1] at HSA
  rw [hs2] at HSB
  obtain ⟨hla, hRCa, hRa, hCa, hRa1, hCa1, _⟩ := right_nat hra
  obtain ⟨hlb, hRCb, hRb, hCb, hRb1, hCb1, _⟩ := right_nat hrb
  have HRA := Lib.hid (fun W (hW : Below w.heap.size w W) => rrighta_any _ ra ca va la (by omega) W hW.size (hva.below hW))
  have HRB := Lib.hid (fun W (hW : Below w.heap.size w W) => rrighta_any _ rb cb vb lb (by omega) W hW.size (hvb.below hW))
  rw [hra] at HRA
  rw [hrb] at HRB
  have HBE := Lib.hid (fun W (hW : Below w.heap.size w W) => bes_no hra hrb hf hwa hwb W (he.below hW) hW.size (hva.below hW) (hvb.below hW))
  obtain ⟨m1, hm1⟩ : ∃ m, ra * (ca + cb) = m := ⟨_, rfl⟩
  obtain ⟨m2, hm2⟩ : ∃ m, rb * (ca + cb) = m := ⟨_, rfl⟩
  have hb1 : ra * (ca + cb) ≤ 4096 * 8192 := Nat.mul_le_mul hRa (by omega)
  have hb2 : rb * (ca + cb) ≤ 4096 * 8192 := Nat.mul_le_mul hRb (by omega)
  have hbig := part_fits hRa1 hRb1 hRa hRb hCa1 hf
  have hcs : IntKind.i64.wrap ((ca : Int) + (cb : Int)) = ((ca + cb : Nat) : Int) := by rw [IntKind.wrap_i64]; omega
  have hw1 : IntKind.i64.wrap ((ra : Int) * ((ca + cb : Nat) : Int)) = (m1 : Int) := by rw [← Int.natCast_mul, hm1, IntKind.wrap_i64]; omega
  have hw2 : IntKind.i64.wrap ((rb : Int) * ((ca + cb : Nat) : Int)) = (m2 : Int) := by rw [← Int.natCast_mul, hm2, IntKind.wrap_i64]; omega
  have hw3 : IntKind.i64.wrap ((ra : Int) * ((ca : Int) + (cb : Int))) = (m1 : Int) := by rw [← Int.natCast_add, ← Int.natCast_mul, hm1, IntKind.wrap_i64]; omega
  have hw4 : IntKind.i64.wrap ((rb : Int) * ((ca : Int) + (cb : Int))) = (m2 : Int) := by rw [← Int.natCast_add, ← Int.natCast_mul, hm2, IntKind.wrap_i64]; omega
  obtain ⟨cs, hcs0⟩ : ∃ cs, ca + cb = cs := ⟨_, rfl⟩
  rw [hcs0] at hcs hw1 hw2
  rw [hm1, hm2] at hbig
  have HWW := Lib.hid (And.intro hcs (And.intro hw1 (And.intro hw2 (And.intro hw3 hw4))))
  have HBIG : Hid ((4096 : Int) < (m1 : Int) ∨ (¬ (4096 : Int) < (m1 : Int) ∧ (4096 : Int) < (m2 : Int))) := Lib.hid (by omega)
  obtain ⟨A1, cp1, rfl, _⟩ := id hva
  obtain ⟨A2, cp2, rfl, _⟩ := id hvb
  clear hs1 hs2 hra hrb hf he hva hvb hwa hwb hW0 hb0 hx0 hx1 hla hRCa hRa hCa hRa1 hCa1 hlb hRCb hRb hCb hRb1 hCb1 hm1 hm2 hb1 hb2 hbig hcs hw1 hw2 hw3 hw4 hcs0
  unfold arV at *
  go_enter Tryd.func6, Tryd.ntmps6
  go_wp2_with fail
  rw [HW0.out]
  refine (HA.out _ HB0.out).mono ?_
  rintro e w1 ⟨rfl, hb1⟩
  have HC1 := Lib.hid hb1
  clear hb1
  obtain ⟨a0, a1, a2, _⟩ := box3 (box_kept HX0.out HC1.out (Nat.le_refl _))
  obtain ⟨b0, b1, b2, _⟩ := box3 (box_kept HX1.out HC1.out (Nat.le_refl _))
  go_wp2_with fail
  refine (HSA.out _ (HB0.out.trans (HC1.out.mono HB0.out.size))).mono ?_
  rintro e w2 ⟨rfl, hb2⟩
  have HC2 := Lib.hid (HC1.out.trans (hb2.mono HC1.out.size))
  clear hb2 a0 a1 a2 b0 b1 b2
  obtain ⟨a0, a1, a2, _⟩ := box3 (box_kept HX0.out HC2.out (Nat.le_refl _))
  obtain ⟨b0, b1, b2, _⟩ := box3 (box_kept HX1.out HC2.out (Nat.le_refl _))
  go_wp2_with fail
  refine (HSB.out _ (HB0.out.trans (HC2.out.mono HB0.out.size))).mono ?_
  rintro e w3 ⟨rfl, hb3⟩
  have HC3 := Lib.hid (HC2.out.trans (hb3.mono HC2.out.size))
  clear hb3 a0 a1 a2 b0 b1 b2
  obtain ⟨a0, a1, a2, _⟩ := box3 (box_kept HX0.out HC3.out (Nat.le_refl _))
  obtain ⟨b0, b1, b2, _⟩ := box3 (box_kept HX1.out HC3.out (Nat.le_refl _))
  go_wp2_with fail
  refine (HRA.out _ (HB0.out.trans (HC3.out.mono HB0.out.size))).mono ?_
  rintro e w4 ⟨rfl, hb4⟩
  have HC4 := Lib.hid (HC3.out.trans (hb4.mono HC3.out.size))
  clear hb4 a0 a1 a2 b0 b1 b2
  obtain ⟨a0, a1, a2, _⟩ := box3 (box_kept HX0.out HC4.out (Nat.le_refl _))
  obtain ⟨b0, b1, b2, _⟩ := box3 (box_kept HX1.out HC4.out (Nat.le_refl _))
  go_wp2_with fail
  refine (HRB.out _ (HB0.out.trans (HC4.out.mono HB0.out.size))).mono ?_
  rintro e w5 ⟨rfl, hb5⟩
  have HC5 := Lib.hid (HC4.out.trans (hb5.mono HC4.out.size))
  clear hb5 a0 a1 a2 b0 b1 b2
  obtain ⟨a0, a1, a2, _⟩ := box3 (box_kept HX0.out HC5.out (Nat.le_refl _))
  obtain ⟨b0, b1, b2, _⟩ := box3 (box_kept HX1.out HC5.out (Nat.le_refl _))
  go_wp2_with fail
  refine (HBE.out _ (HB0.out.trans (HC5.out.mono HB0.out.size))).mono ?_
  rintro e w6 ⟨v6, rfl, hv6, hb6⟩
  obtain ⟨A6, cp6, rfl, _⟩ := id hv6
  have hbx := Nm.alloc_below w6 (.cells #[.int .i64 0, .int .i64 0, .slice A6 0 cp6] 25)
  have HC6 := Lib.hid (HC5.out.trans ((hb6.trans (hbx.mono hb6.size)).mono HC5.out.size))
  clear a0 a1 a2 b0 b1 b2
  obtain ⟨a0, a1, a2, _⟩ := box3 (box_kept HX0.out HC6.out (Nat.le_refl _))
  obtain ⟨b0, b1, b2, _⟩ := box3 (box_kept HX1.out HC6.out (Nat.le_refl _))
  obtain ⟨hcs, hw1, hw2, hw3, hw4⟩ := HWW.out
  unfold arV zA
  clear hv6 hb6 hbx
  rcases HBIG.out with h | ⟨h, h'⟩
  all_goals
    go_wp2
    go_ret
    exact ⟨rfl, HB0.out.trans (HC6.out.mono HB0.out.size)⟩
end Go.Proofs.YtfgddhabepllfaaDoor
