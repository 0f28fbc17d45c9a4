/- DotAbove: to cover is an order. -/
import Derived.Test.YtggcnglnclpaeaaH
import Derived.Test.YtggcnglnclpaeaaM
import Derived.Test.YtggcnglnclpaeaaP
namespace Go.Proofs.Ytggcnglnclpaeaa
open Go.RowKit Go.Maps

theorem mem_addsL {ids l : Row} {q : Int × Int} (h : q ∈ addsL l ids) : q ∈ l ∨ q ∈ ids := by
  induction ids generalizing l with
  | nil => exact .inl h
  | cons p ids ih =>
    rcases ih h with h1 | h1
    · simp only [addL] at h1
      split at h1
      · rcases mem_ins h1 with rfl | h2
        · exact .inr (by simp)
        · exact .inl h2
      · exact .inl h1
    · exact .inr (by simp [h1])
theorem small_up {ids : Row} (h : Small ids) : ∀ p ∈ ids, p.2 ≤ 9223372036854775807 := fun p hp => (h p hp).2.2
theorem adds_ok {ids : Row} (h : Small ids) : OkR (addsL [] ids) := addsL_ok OkR.nil (small_up h)
/-- has one all that the other one has? -/
def allB (l m ids : Row) : Bool := ids.all fun p => hasB l p.1 p.2 || !hasB m p.1 p.2
theorem allB_snoc (l m ids : Row) (p : Int × Int) : allB l m (ids ++ [p]) = (allB l m ids && (hasB l p.1 p.2 || !hasB m p.1 p.2)) := by simp [allB]
theorem has_mem {l : Row} (ho : OkR l) {p : Int × Int} (hp : p ∈ l) : hasB l p.1 p.2 = true := by
  unfold hasB
  rw [ho.may p hp, look_mem ho.up hp]; simp
theorem above_all {l ids : Row} (hl : OkR l) (hs : Small ids) : covB l (addsL [] ids) = allB l (addsL [] ids) ids := by
  have hm := adds_ok hs
  rw [Bool.eq_iff_iff]
  constructor
  · intro h
    unfold allB
    rw [List.all_eq_true]
    intro p _
    cases h2 : hasB (addsL [] ids) p.1 p.2 with
    | false => simp
    | true =>
      have h3 := (covB_iff hl hm).1 h p.1
      unfold hasB at h2 ⊢
      simp at h2 ⊢
      exact ⟨h2.1, by omega⟩
  · intro h
    unfold allB at h
    unfold covB
    rw [List.all_eq_true] at h ⊢
    intro q hq
    have h1 : q ∈ ids := by rcases mem_addsL hq with h1 | h1; cases h1; exact h1
    have h2 := h q h1
    rw [has_mem hm hq] at h2
    simpa using h2
theorem cov_trans {l m k : Row} (hl : OkR l) (hm : OkR m) (hk : OkR k) (h1 : covB l m = true) (h2 : covB m k = true) : covB l k = true :=
  (covB_iff hl hk).2 fun a => Int.le_trans ((covB_iff hm hk).1 h2 a) ((covB_iff hl hm).1 h1 a)

/-- a Seen at s, whose blocks lie below the heap's size -/
theorem SeenAt.tight {w : World} {s K : Nat} {S : Nat → Prop} {l : Row} (h : SeenAt w s S K l) : SeenAt w s (fun b => S b ∧ b < w.heap.size) K l := h.wider (fun _ hb hz => ⟨hb, hz⟩) (Nat.le_refl _)
theorem seenP_mk {w : World} {s K : Nat} {S : Nat → Prop} {l : Row} (h : SeenAt w s S K l) : SeenP w (some ⟨s, 0, none⟩) S K l := .inr ⟨s, rfl, h⟩

theorem above_long (u v x : Value) (la lb lc : Row) (w : World) (ha : IdsAt w u la) (hb : IdsAt w v lb) (hc : IdsAt w x lc) (h : 100 < la.length ∨ 100 < lb.length ∨ 100 < lc.length) :
    Calls Try.prog 9 #[u, v, x] w fun e w' => e = .returned (.bool true) ∧ Below w.heap.size w w' := by
  obtain ⟨A, c, rfl, _, _⟩ := ha
  obtain ⟨B, d, rfl, _, _⟩ := hb
  obtain ⟨C, f, rfl, _, _⟩ := hc
  by_cases h1 : 100 < la.length
  · go_enter Try.func9, Try.ntmps9
    go_wp2_with (go_at_call 10; refine (awake_any _).mono ?_; rintro e w1 ⟨rfl, hb1⟩)
    go_ret
    exact ⟨rfl, hb1⟩
  · by_cases h2 : 100 < lb.length
    · go_enter Try.func9, Try.ntmps9
      go_wp2_with (go_at_call 10; refine (awake_any _).mono ?_; rintro e w1 ⟨rfl, hb1⟩)
      go_ret
      exact ⟨rfl, hb1⟩
    · have h3 : 100 < lc.length := by omega
      go_enter Try.func9, Try.ntmps9
      go_wp2_with (go_at_call 10; refine (awake_any _).mono ?_; rintro e w1 ⟨rfl, hb1⟩)
      go_ret
      exact ⟨rfl, hb1⟩

set_option maxHeartbeats 6400000 in
theorem above_short (u v x : Value) (la lb lc : Row) (w : World) (ha : IdsAt w u la) (hb : IdsAt w v lb) (hc : IdsAt w x lc) (sa : Small la) (sb : Small lb) (sc : Small lc) (h1 : ¬ 100 < la.length) (h2 : ¬ 100 < lb.length) (h3 : ¬ 100 < lc.length) :
    Calls Try.prog 9 #[u, v, x] w fun e w' => e = .returned (.bool true) ∧ Below w.heap.size w w' := by
  have okA := adds_ok sa
  have okB := adds_ok sb
  have okC := adds_ok sc
  have nA := addsL_len [] la
  have nB := addsL_len [] lb
  have nC := addsL_len [] lc
  have HALL := Lib.hid (above_all okA sb)
  have HTR := Lib.hid (cov_trans okA okB okC)
  have HIA := Lib.hid ha
  have HIB := Lib.hid hb
  have HIC := Lib.hid hc
  have SA := Lib.hid sa
  have SB := Lib.hid sb
  have SC := Lib.hid sc
  obtain ⟨A, c, rfl, hcA, _⟩ := ha
  obtain ⟨B, d, rfl, hcB, hIB⟩ := hb
  obtain ⟨C, f, rfl, hcC, _⟩ := hc
  have HB := Lib.hid hIB
  clear hIB sa sb sc okA okB okC
  obtain ⟨LA, hLA⟩ : ∃ l, addsL [] la = l := ⟨_, rfl⟩
  obtain ⟨LB, hLB⟩ : ∃ l, addsL [] lb = l := ⟨_, rfl⟩
  obtain ⟨LC, hLC⟩ : ∃ l, addsL [] lc = l := ⟨_, rfl⟩
  rw [hLA, hLB] at HALL
  rw [hLA, hLB, hLC] at HTR
  rw [hLA] at nA
  rw [hLB] at nB
  rw [hLC] at nC
  simp only [List.length_nil, Nat.zero_add] at nA nB nC
  have ELA := Lib.hid hLA
  have ELB := Lib.hid hLB
  have ELC := Lib.hid hLC
  clear hLA hLB hLC
  go_enter Try.func9, Try.ntmps9
  go_wp2_with (go_at_call 10; refine (awake_any _).mono ?_; rintro e w1 ⟨rfl, hb1⟩)
  refine (of_any _ la w1 (HIA.out.below hb1) SA.out (by omega)).mono ?_
  rintro e w2 ⟨v1, rfl, hs1, hi1, hb2⟩
  rw [ELA.out] at hs1
  have P1 := Lib.hid (seenP_mk hs1.tight)
  have B2 := Lib.hid (hb1.trans (hb2.mono hb1.size))
  clear hb1 hb2 hs1 hi1
  go_wp2_with fail
  refine (of_any _ lb w2 (HIB.out.below B2.out) SB.out (by omega)).mono ?_
  rintro e w3 ⟨v2, rfl, hs2, hi2, hb3⟩
  rw [ELB.out] at hs2
  have P2 := Lib.hid (seenP_mk hs2.tight)
  have Q1 := Lib.hid (P1.out.below hb3)
  have B3 := Lib.hid (B2.out.trans (hb3.mono B2.out.size))
  have z23 := hb3.size
  clear hb3 hs2 hi2
  go_wp2_with fail
  refine (of_any _ lc w3 (HIC.out.below B3.out) SC.out (by omega)).mono ?_
  rintro e w4 ⟨v3, rfl, hs3, hi3, hb4⟩
  rw [ELC.out] at hs3
  have P3 := Lib.hid (seenP_mk hs3.tight)
  have R1 := Lib.hid (Q1.out.below hb4)
  have R2 := Lib.hid (P2.out.below hb4)
  have B4 := Lib.hid (B3.out.trans (hb4.mono B3.out.size))
  have z34 := hb4.size
  clear hb4 hs3 hi3 P1 P2 Q1
  have hz1 : ∀ k, (w1.heap.size ≤ k ∧ k < w2.heap.size) → k < w4.heap.size := fun k hk => by omega
  have hz2 : ∀ k, (w2.heap.size ≤ k ∧ k < w3.heap.size) → k < w4.heap.size := fun k hk => by omega
  have hz3 : ∀ k, (w3.heap.size ≤ k ∧ k < w4.heap.size) → k < w4.heap.size := fun k hk => by omega
  have HH1 := Lib.hid (fun (x y : Int) (W : World) (hW : Below w4.heap.size w4 W) (h0 : -9223372036854775808 ≤ x) (h1 : x ≤ 9223372036854775807) => has_any _ _ _ LA x y W (R1.out.below hW) h0 h1)
  have HH2 := Lib.hid (fun (x y : Int) (W : World) (hW : Below w4.heap.size w4 W) (h0 : -9223372036854775808 ≤ x) (h1 : x ≤ 9223372036854775807) => has_any _ _ _ LB x y W (R2.out.below hW) h0 h1)
  have HC12 := Lib.hid (fun (W : World) (hW : Below w4.heap.size w4 W) => covers_any _ _ _ _ _ _ LA LB W (R1.out.below hW) (R2.out.below hW) (fun k hk => by have := hz2 k hk; have := hW.size; omega) (by omega))
  have HC23 := Lib.hid (fun (W : World) (hW : Below w4.heap.size w4 W) => covers_any _ _ _ _ _ _ LB LC W (R2.out.below hW) (P3.out.below hW) (fun k hk => by have := hz3 k hk; have := hW.size; omega) (by omega))
  have HC13 := Lib.hid (fun (W : World) (hW : Below w4.heap.size w4 W) => covers_any _ _ _ _ _ _ LA LC W (R1.out.below hW) (P3.out.below hW) (fun k hk => by have := hz3 k hk; have := hW.size; omega) (by omega))
  clear hz1 hz2 hz3
  go_wp2_with fail
  go_loopw [13, 48] (fun al i wr => ∃ k : Nat, k ≤ lb.length ∧ i = .int .i64 k ∧ al = .bool (allB LA LB (lb.take k)) ∧ Below w4.heap.size w4 wr) (fun _ i _ => lb.length - (intOf i).toNat)
  case atStart => exact ⟨0, Nat.zero_le _, rfl, rfl, Below.refl _ _⟩
  case round =>
    obtain ⟨k, hk, rfl, rfl, hB⟩ := hrel
    have HW := Lib.hid hB
    have hzw := hB.size
    clear hB
    obtain ⟨q, hq⟩ : ∃ q, allB LA LB (lb.take k) = q := ⟨_, rfl⟩
    rw [hq]
    by_cases hlt : k < lb.length
    · have hx : lb[k]? = some lb[k] := List.getElem?_eq_getElem hlt
      obtain ⟨p, hp⟩ : ∃ p, lb[k] = p := ⟨_, rfl⟩
      rw [hp] at hx
      obtain ⟨ad, rfl, c2, c3⟩ := HB.out k p hx
      have hza := cell_lt c2
      rw [add_block] at hza
      have hBW : Below w.heap.size w wr := B4.out.trans (HW.out.mono B4.out.size)
      have c2' := (hBW.cell (by rw [add_block]; exact hza)).trans c2
      have c3' := (hBW.cell (p := ⟨(ad.add (k * 2)).block, _, none⟩) (by simp only [add_block]; exact hza)).trans c3
      have hps := SB.out p (List.mem_of_getElem? hx)
      have hsn : allB LA LB (lb.take (k + 1)) = (q && (hasB LA p.1 p.2 || !hasB LB p.1 p.2)) := by rw [List.take_add_one, hx]; exact (allB_snoc _ _ _ _).trans (by rw [hq])
      obtain ⟨x, y⟩ := p
      obtain ⟨⟨p1, p2⟩, p3, p4⟩ := hps
      simp only at p1 p2
      have hi0 : (0 : Int) ≤ ↑k := by omega
      have hi1 : (↑k : Int) < ↑lb.length := by omega
      have hi2 : (↑lb.length : Int) ≤ ↑d := by omega
      obtain ⟨r1, hr1⟩ : ∃ r, hasB LA x y = r := ⟨_, rfl⟩
      obtain ⟨r2, hr2⟩ : ∃ r, hasB LB x y = r := ⟨_, rfl⟩
      have hwb : Below w4.heap.size w4 (wr.alloc (.cells #[.int .i64 x, .int .i64 y] 24)) := HW.out.alloc hzw _
      have C1 := Lib.hid (HH1.out x y _ hwb p1 p2)
      have C2 := Lib.hid (fun W hW => HH2.out x y W hW p1 p2)
      simp only [hr1, hr2] at hsn C1 C2
      have HSN := Lib.hid hsn
      have HWB := Lib.hid hwb
      have cA0 : (wr.alloc (.cells #[.int .i64 x, .int .i64 y] 24)).cell? ⟨wr.heap.size, 0, none⟩ = some (.int .i64 x) := (World.cell?_alloc_new _ _ _ _).trans rfl
      have cA1 : (wr.alloc (.cells #[.int .i64 x, .int .i64 y] 24)).cell? ⟨wr.heap.size, 1, none⟩ = some (.int .i64 y) := (World.cell?_alloc_new _ _ _ _).trans rfl
      have CA0 := Lib.hid cA0
      have CA1 := Lib.hid cA1
      unfold idV at C1 C2
      clear hp hx c2 c3 hsn hq hBW hr1 hr2 hwb cA0 cA1 HH1 HH2
      cases q
      · go_wp2
        go_roundw
        case rel => exact ⟨k + 1, by omega, by simp, by rw [HSN.out]; rfl, HWB.out⟩
        case measure => simp [intOf]; omega
      · cases r1
        · go_wp2_with fail
          refine C1.out.mono ?_
          rintro e w6 ⟨rfl, hb6⟩
          have d0 := (hb6.cell (p := ⟨wr.heap.size, 0, none⟩) (by simp)).trans CA0.out
          have d1 := (hb6.cell (p := ⟨wr.heap.size, 1, none⟩) (by simp)).trans CA1.out
          have B6 := Lib.hid (HWB.out.trans (hb6.mono HWB.out.size))
          clear hb6 c2' c3'
          go_wp2_with fail
          refine (C2.out _ B6.out).mono ?_
          rintro e w7 ⟨rfl, hb7⟩
          have B7 := Lib.hid (B6.out.trans (hb7.mono B6.out.size))
          clear hb7 d0 d1
          go_wp2
          go_roundw
          case rel => exact ⟨k + 1, by omega, by simp, by rw [HSN.out]; simp, B7.out⟩
          case measure => simp [intOf]; omega
        · go_wp2_with fail
          refine C1.out.mono ?_
          rintro e w6 ⟨rfl, hb6⟩
          have B6 := Lib.hid (HWB.out.trans (hb6.mono HWB.out.size))
          clear hb6 c2' c3'
          go_wp2
          go_roundw
          case rel => exact ⟨k + 1, by omega, by simp, by rw [HSN.out]; rfl, B6.out⟩
          case measure => simp [intOf]; omega
    · obtain rfl : k = lb.length := by omega
      have hlt2 : ¬ (↑lb.length : Int) < ↑lb.length := by omega
      rw [List.take_length] at hq
      have hA := HALL.out
      rw [hq] at hA
      obtain ⟨r23, hr23⟩ : ∃ r, covB LB LC = r := ⟨_, rfl⟩
      obtain ⟨r13, hr13⟩ : ∃ r, covB LA LC = r := ⟨_, rfl⟩
      have T3 := Lib.hid HTR.out
      simp only [hA, hr23, hr13] at T3
      have C12 := Lib.hid HC12.out
      have C23 := Lib.hid HC23.out
      have C13 := Lib.hid HC13.out
      simp only [hA, hr23, hr13] at C12 C23 C13
      clear hq hA hr23 hr13 HC12 HC23 HC13 HH1 HH2
      have hgo : ∀ (q r23 r13 : Bool), True := fun _ _ _ => trivial
      clear hgo
      cases q
      · go_wp2_with fail
        refine (C12.out wr HW.out).mono ?_
        rintro e w6 ⟨rfl, hb6⟩
        have B6 := Lib.hid (HW.out.trans (hb6.mono HW.out.size))
        clear hb6
        go_wp2_with fail
        refine (C12.out w6 B6.out).mono ?_
        rintro e w7 ⟨rfl, hb7⟩
        have B7 := Lib.hid (B6.out.trans (hb7.mono B6.out.size))
        clear hb7
        go_wp2
        go_ret
        exact ⟨rfl, B4.out.trans (B7.out.mono B4.out.size)⟩
      · cases r23
        · go_wp2_with fail
          refine (C12.out wr HW.out).mono ?_
          rintro e w6 ⟨rfl, hb6⟩
          have B6 := Lib.hid (HW.out.trans (hb6.mono HW.out.size))
          clear hb6
          go_wp2_with fail
          refine (C12.out w6 B6.out).mono ?_
          rintro e w7 ⟨rfl, hb7⟩
          have B7 := Lib.hid (B6.out.trans (hb7.mono B6.out.size))
          clear hb7
          go_wp2_with fail
          refine (C23.out w7 B7.out).mono ?_
          rintro e w8 ⟨rfl, hb8⟩
          have B8 := Lib.hid (B7.out.trans (hb8.mono B7.out.size))
          clear hb8
          go_wp2
          go_ret
          exact ⟨rfl, B4.out.trans (B8.out.mono B4.out.size)⟩
        · obtain rfl : r13 = true := T3.out rfl rfl
          go_wp2_with fail
          refine (C12.out wr HW.out).mono ?_
          rintro e w6 ⟨rfl, hb6⟩
          have B6 := Lib.hid (HW.out.trans (hb6.mono HW.out.size))
          clear hb6
          go_wp2_with fail
          refine (C12.out w6 B6.out).mono ?_
          rintro e w7 ⟨rfl, hb7⟩
          have B7 := Lib.hid (B6.out.trans (hb7.mono B6.out.size))
          clear hb7
          go_wp2_with fail
          refine (C23.out w7 B7.out).mono ?_
          rintro e w8 ⟨rfl, hb8⟩
          have B8 := Lib.hid (B7.out.trans (hb8.mono B7.out.size))
          clear hb8
          go_wp2_with fail
          refine (C13.out w8 B8.out).mono ?_
          rintro e w9 ⟨rfl, hb9⟩
          have B9 := Lib.hid (B8.out.trans (hb9.mono B8.out.size))
          clear hb9
          go_wp2
          go_ret
          exact ⟨rfl, B4.out.trans (B9.out.mono B4.out.size)⟩

/-- DotAbove, of any three rows of ids -/
theorem above_any {w : World} (u : Value) (la : Row) (ha : IdsAt w u la) (sa : Small la) (v : Value) (lb : Row) (hb : IdsAt w v lb) (sb : Small lb) (x : Value) (lc : Row) (hc : IdsAt w x lc) (sc : Small lc) :
    Calls Try.prog 9 #[u, v, x] w fun e w' => e = .returned (.bool true) ∧ Below w.heap.size w w' := by
  by_cases h : 100 < la.length ∨ 100 < lb.length ∨ 100 < lc.length
  · exact above_long u v x la lb lc w ha hb hc h
  · exact above_short u v x la lb lc w ha hb hc sa sb sc (by omega) (by omega) (by omega)
end Go.Proofs.Ytggcnglnclpaeaa
