/- DotLater: what comes next comes behind all that was seen. -/
import Derived.Test.YtggcnglnclpaeaaS
import Derived.Deep.RegionHeld3
namespace Go.Proofs.Ytggcnglnclpaeaa
open Go.RowKit Go.Maps

/-- next's box -/
def NB (g : Nat) (a n : Int) (w : World) : Prop := w.cell? ⟨g, 0, none⟩ = some (.int .i64 a) ∧ w.cell? ⟨g, 1, none⟩ = some (.int .i64 n) ∧ g < w.heap.size
theorem NB.below {g : Nat} {a n : Int} {w w' : World} (h : NB g a n w) (hb : Below w.heap.size w w') : NB g a n w' :=
  ⟨(hb.cell (p := ⟨g, 0, none⟩) h.2.2).trans h.1, (hb.cell (p := ⟨g, 1, none⟩) h.2.2).trans h.2.1, Nat.lt_of_lt_of_le h.2.2 hb.size⟩
theorem NB.foot {g : Nat} {a n : Int} {w w' : World} {s K : Nat} {S : Nat → Prop} {l : Row} (h : NB g a n w) (hs : SeenAt w s S K l) (ho : Only (Foot w s S) w w') : NB g a n w' :=
  ⟨int_foot hs ho h.1, int_foot hs ho h.2.1, Nat.lt_of_lt_of_le h.2.2 ho.size⟩

theorem mem_ins_self (l : Row) (a n : Int) : (a, n) ∈ ins a n l := by
  induction l with
  | nil => simp [ins]
  | cons p l ih =>
    unfold ins
    split
    · simp [ih]
    · split <;> simp
theorem later_most {L : Row} (ho : OkR L) {a : Int} (_ : mostL L ≠ 9223372036854775807) : mostL (ins a (mostL L + 1) L) = mostL L + 1 := by
  have hbd := mostL_bd ho
  have h1 : mostL L + 1 ≤ mostL (ins a (mostL L + 1) L) := by
    exact (mostL_ge _).2 _ (mem_ins_self _ _ _)
  rcases mostL_mem (ins a (mostL L + 1) L) with h | ⟨p, hp, h⟩
  · omega
  · rcases mem_ins hp with rfl | hp
    · omega
    · have := (mostL_ge L).2 p hp; omega

theorem later_long (u : Value) (la : Row) (author : Int) (w : World) (ha : IdsAt w u la) (h : 100 < la.length) :
    Calls Try.prog 5 #[u, .int .i64 author] w fun e w' => e = .returned (.bool true) ∧ Below w.heap.size w w' := by
  obtain ⟨A, c, rfl, _, _⟩ := ha
  go_enter Try.func5, Try.ntmps5
  go_wp2_with (go_at_call 10; refine (awake_any _).mono ?_; rintro e w1 ⟨rfl, hb1⟩)
  go_ret
  exact ⟨rfl, hb1⟩

set_option maxHeartbeats 6400000 in
theorem later_none (u : Value) (la : Row) (author : Int) (w : World) (ha : IdsAt w u la) (sa : Small la) (h : ¬ 100 < la.length) (hn : nextL (addsL [] la) author = (0, 0)) :
    Calls Try.prog 5 #[u, .int .i64 author] w fun e w' => e = .returned (.bool true) ∧ Below w.heap.size w w' := by
  have nA := addsL_len [] la
  have HIA := Lib.hid ha
  have SA := Lib.hid sa
  have HN := Lib.hid hn
  obtain ⟨A, c, rfl, _, _⟩ := ha
  simp only [List.length_nil, Nat.zero_add] at nA
  clear sa hn
  go_enter Try.func5, Try.ntmps5
  go_wp2_with (go_at_call 10; refine (awake_any _).mono ?_; rintro e w1 ⟨rfl, hb1⟩)
  refine (of_any _ la w1 (HIA.out.below hb1) SA.out (by omega)).mono ?_
  rintro e w2 ⟨v1, rfl, hs1, hi1, hb2⟩
  have P1 := Lib.hid (seenP_mk hs1.tight)
  have B2 := Lib.hid (hb1.trans (hb2.mono hb1.size))
  clear hb1 hb2 hs1 hi1
  go_wp2_with fail
  refine (next_any _ _ _ (addsL [] la) author w2 P1.out (fun k hk => hk.2) (by omega)).mono ?_
  rw [HN.out]
  unfold idV
  rintro e w3 ⟨rfl, hb3⟩
  have B3 := Lib.hid (B2.out.trans (hb3.mono B2.out.size))
  clear hb3
  go_wp2
  go_ret
  exact ⟨rfl, B3.out.alloc B3.out.size _⟩

set_option maxHeartbeats 12800000 in
set_option maxRecDepth 100000 in
theorem later_some (u : Value) (la : Row) (author : Int) (w : World) (ha : IdsAt w u la) (sa : Small la) (h : ¬ 100 < la.length) (h1 : 1 ≤ author) (h2 : author ≤ 1000) (hm : mostL (addsL [] la) ≠ 9223372036854775807) :
    Calls Try.prog 5 #[u, .int .i64 author] w fun e w' => e = .returned (.bool true) ∧ Below w.heap.size w w' := by
  have nA := addsL_len [] la
  have ok := adds_ok sa
  obtain ⟨L, hL⟩ : ∃ l, addsL [] la = l := ⟨_, rfl⟩
  rw [hL] at nA ok hm
  have hbd := mostL_bd ok
  have hlm := fun a => look_most L a
  have hmx := later_most (a := author) ok hm
  obtain ⟨m, hmm⟩ : ∃ m, mostL L = m := ⟨_, rfl⟩
  have hN : nextL L author = (author, m + 1) := by unfold nextL; rw [hmm] at hm ⊢; simp [h1, h2, hm]
  rw [hmm] at hbd hm hmx
  simp only [hmm] at hlm
  have hmay : mayB author (m + 1) = true := (mayB_iff _ _).2 ⟨h1, h2, by omega⟩
  have v1 : hasB L author (m + 1) = false := by unfold hasB; rw [hmay]; have := hlm author; simp; omega
  have v2 : addB L author (m + 1) = true := by unfold addB; rw [hmay, v1]; rfl
  have v2' : addL L author (m + 1) = ins author (m + 1) L := by unfold addL; rw [v2]; rfl
  have v3 : hasB (addL L author (m + 1)) author (m + 1) = true := by unfold hasB; rw [hmay, v2', look_ins ok.up, if_pos rfl]; simp
  have v4 : addB (addL L author (m + 1)) author (m + 1) = false := by unfold addB; rw [v3]; simp
  have v5 : addL (addL L author (m + 1)) author (m + 1) = addL L author (m + 1) := by
    show (if addB (addL L author (m + 1)) author (m + 1) then _ else _) = _
    rw [v4]; rfl
  have v6 : m + 1 ≠ 9223372036854775807 → nextL (addL L author (m + 1)) author = (author, m + 2) := fun hne => by
    unfold nextL; rw [v2', hmx]; simp [h1, h2, hne]; omega
  have hbef : ∀ w, Calls Try.prog 25 #[.agg #[.int .i64 author, .int .i64 (m + 1)], .agg #[.int .i64 author, .int .i64 (m + 2)]] w fun e w' => e = .returned (.bool true) ∧ Below w.heap.size w w' := fun w => by
    have := before_any (author, m + 1) (author, m + 2) w
    rw [show befB (author, m + 1) (author, m + 2) = true by unfold befB; simp] at this
    exact this
  have hbid : ∀ x y, hasB L x y = true → befB (x, y) (author, m + 1) = true := fun x y hh => by
    unfold hasB at hh; simp at hh; have := hlm x; unfold befB; simp; omega
  have nL2 : (addL L author (m + 1)).length ≤ 1000 := by
    have := addsL_len L [(author, m + 1)]
    simp only [List.length_nil, Nat.zero_add] at nA
    have e : addsL L [(author, m + 1)] = addL L author (m + 1) := rfl
    rw [e] at this; simp at this; omega
  simp only [List.length_nil, Nat.zero_add] at nA
  have V1 := Lib.hid v1
  have V2 := Lib.hid v2
  have V3 := Lib.hid v3
  have V4 := Lib.hid v4
  have V5 := Lib.hid v5
  have V6' := Lib.hid v6
  have BEF := Lib.hid hbef
  have HBI := Lib.hid hbid
  have HN := Lib.hid hN
  have ELA := Lib.hid hL
  have HIA := Lib.hid ha
  have SA := Lib.hid sa
  obtain ⟨A, c, rfl, hc, hI⟩ := ha
  have HI := Lib.hid hI
  obtain ⟨m0, m1⟩ := hbd
  have a0 : -9223372036854775808 ≤ author := by omega
  have a1 : author ≤ 9223372036854775807 := by omega
  clear v1 v2 v2' v3 v4 v5 v6 hbef hbid hN hL sa hI hmm hlm hmx hmay ok
  go_enter Try.func5, Try.ntmps5
  go_wp2_with (go_at_call 10; refine (awake_any _).mono ?_; rintro e w1 ⟨rfl, hb1⟩)
  refine (of_any _ la w1 (HIA.out.below hb1) SA.out (by omega)).mono ?_
  rintro e w2 ⟨v1, rfl, hs1, hi1, hb2⟩
  rw [ELA.out] at hs1
  have S1 := Lib.hid hs1.tight
  have B2 := Lib.hid (hb1.trans (hb2.mono hb1.size))
  have zw1 := hb1.size
  clear hb1 hb2 hs1 hi1
  go_wp2_with fail
  refine (next_any _ _ _ L author w2 (seenP_mk S1.out) (fun k hk => hk.2) (by omega)).mono ?_
  rw [HN.out]
  unfold idV
  rintro e w3 ⟨rfl, hb3⟩
  have B3 := Lib.hid (B2.out.trans (hb3.mono B2.out.size))
  have S3 := Lib.hid (S1.out.later hb3)
  have z23 := hb3.size
  clear hb3
  have hne0 : (author == 0) = false := by simp; omega
  have hbA : Below w3.heap.size w3 (w3.alloc (.cells #[.int .i64 author, .int .i64 (m + 1)] 24)) := (Below.refl _ _).alloc (Nat.le_refl _) _
  have SX := Lib.hid (S3.out.later hbA)
  have NX := Lib.hid (show NB w3.heap.size author (m + 1) (w3.alloc (.cells #[.int .i64 author, .int .i64 (m + 1)] 24)) from ⟨(World.cell?_alloc_new _ _ _ _).trans rfl, (World.cell?_alloc_new _ _ _ _).trans rfl, by simp⟩)
  have BX := Lib.hid (B3.out.trans (hbA.mono B3.out.size))
  have zX : (w3.alloc (.cells #[.int .i64 author, .int .i64 (m + 1)] 24)).heap.size = w3.heap.size + 1 := by simp
  clear hbA
  go_wp2_with fail
  obtain ⟨wx, hwx⟩ : ∃ wx, w3.alloc (.cells #[.int .i64 author, .int .i64 (m + 1)] 24) = wx := ⟨_, rfl⟩
  rw [hwx] at SX NX BX zX ⊢
  clear hwx
  go_loopw [28] (fun i wr => ∃ k : Nat, k ≤ la.length ∧ i = .int .i64 k ∧ Below wx.heap.size wx wr) (fun i _ => la.length - (intOf i).toNat)
  case atStart => exact ⟨0, Nat.zero_le _, rfl, Below.refl _ _⟩
  case round =>
    obtain ⟨k, hk, rfl, hB⟩ := hrel
    have HW := Lib.hid hB
    have NR := Lib.hid (NX.out.below hB)
    have SR := Lib.hid (SX.out.later hB)
    have hzw := hB.size
    clear hB
    by_cases hlt : k < la.length
    · have hx : la[k]? = some la[k] := List.getElem?_eq_getElem hlt
      obtain ⟨p, hp⟩ : ∃ p, la[k] = p := ⟨_, rfl⟩
      rw [hp] at hx
      obtain ⟨ad, rfl, c2, c3⟩ := HI.out k p hx
      have hza := cell_lt c2
      rw [add_block] at hza
      have hBW : Below w.heap.size w wr := BX.out.trans (HW.out.mono BX.out.size)
      have c2' := (hBW.cell (by rw [add_block]; exact hza)).trans c2
      have c3' := (hBW.cell (p := ⟨(ad.add (k * 2)).block, _, none⟩) (by simp only [add_block]; exact hza)).trans c3
      have hps := SA.out p (List.mem_of_getElem? hx)
      obtain ⟨x, y⟩ := p
      obtain ⟨⟨p1, p2⟩, p3, p4⟩ := hps
      simp only at p1 p2
      have hi0 : (0 : Int) ≤ ↑k := by omega
      have hi1 : (↑k : Int) < ↑la.length := by omega
      have hi2 : (↑la.length : Int) ≤ ↑c := by omega
      obtain ⟨r1, hr1⟩ : ∃ r, hasB L x y = r := ⟨_, rfl⟩
      have hwb : Below wr.heap.size wr (wr.alloc (.cells #[.int .i64 x, .int .i64 y] 24)) := (Below.refl _ _).alloc (Nat.le_refl _) _
      have C1 := Lib.hid (has_any _ _ _ L x y _ (seenP_mk (SR.out.later hwb)) p1 p2)
      have hbb := HBI.out x y
      rw [hr1] at C1 hbb
      have HBB := Lib.hid hbb
      have HWB := Lib.hid (HW.out.trans (hwb.mono HW.out.size))
      have N1 := Lib.hid (NR.out.below hwb)
      have cA0 : (wr.alloc (.cells #[.int .i64 x, .int .i64 y] 24)).cell? ⟨wr.heap.size, 0, none⟩ = some (.int .i64 x) := (World.cell?_alloc_new _ _ _ _).trans rfl
      have cA1 : (wr.alloc (.cells #[.int .i64 x, .int .i64 y] 24)).cell? ⟨wr.heap.size, 1, none⟩ = some (.int .i64 y) := (World.cell?_alloc_new _ _ _ _).trans rfl
      have CA0 := Lib.hid cA0
      have CA1 := Lib.hid cA1
      unfold idV at C1
      clear hp hx c2 c3 hBW hr1 hwb cA0 cA1 hbb
      cases r1
      · go_wp2_with fail
        refine C1.out.mono ?_
        rintro e w6 ⟨rfl, hb6⟩
        have B6 := Lib.hid (HWB.out.trans (hb6.mono HWB.out.size))
        clear hb6 c2' c3'
        go_wp2
        go_roundw
        case rel => exact ⟨k + 1, by omega, by simp, B6.out⟩
        case measure => simp [intOf]; omega
      · go_wp2_with fail
        refine C1.out.mono ?_
        rintro e w6 ⟨rfl, hb6⟩
        have d0 := (hb6.cell (p := ⟨wr.heap.size, 0, none⟩) (by simp)).trans CA0.out
        have d1 := (hb6.cell (p := ⟨wr.heap.size, 1, none⟩) (by simp)).trans CA1.out
        have N6 := N1.out.below hb6
        obtain ⟨n0, n1, _⟩ := N6
        have B6 := Lib.hid (HWB.out.trans (hb6.mono HWB.out.size))
        clear hb6 c2' c3'
        go_wp2_with fail
        refine (before_any (x, y) (author, m + 1) w6).mono ?_
        rw [HBB.out (by trivial)]
        rintro e w7 ⟨rfl, hb7⟩
        have B7 := Lib.hid (B6.out.trans (hb7.mono B6.out.size))
        clear hb7 d0 d1 n0 n1
        go_wp2
        go_roundw
        case rel => exact ⟨k + 1, by omega, by simp, B7.out⟩
        case measure => simp [intOf]; omega
    · obtain rfl : k = la.length := by omega
      have hlt2 : ¬ (↑la.length : Int) < ↑la.length := by omega
      have G0 : Hid (SeenAt wr.drew w1.heap.size (fun b => w1.heap.size ≤ b ∧ b < w2.heap.size) la.length L) := Lib.hid SR.out
      have E0 : Hid (Below w.heap.size w wr.drew) := Lib.hid (BX.out.trans (HW.out.mono BX.out.size)).drew
      have hNr : NB w3.heap.size author (m + 1) wr.drew := NR.out
      have HNR := Lib.hid hNr
      clear hNr
      by_cases hmx2 : m + 1 = 9223372036854775807
      · have hmb : (m + 1 == 9223372036854775807) = true := by simpa using hmx2
        clear hmx2
        go_wp2_with fail
        refine wp_region_held_drew (S := NB w3.heap.size author (m + 1)) (by kernel_rfl) HNR.out (fun hS => ?_)
        refine wpAnyH_take (i := 0) (v := ?v0a) rfl (by kernel_rfl) (by kernel_rfl) (by kernel_rfl) (fun _ _ _ h => h) (Or.inl ⟨by kernel_rfl, ?h0a⟩) hS ?_
        case h0a => (rintro w2 ⟨e0, e1, _⟩; go_simp; try with_reducible rfl)
        refine wpAnyH_take (i := 1) (v := ?v1a) rfl (by kernel_rfl) (by kernel_rfl) (by kernel_rfl) (fun _ _ _ h => h) (Or.inl ⟨by kernel_rfl, ?h1a⟩) hS ?_
        case h1a => (rintro w2 ⟨e0, e1, _⟩; go_simp; try with_reducible rfl)
        refine wpAnyH_take (i := 2) (v := ?v2a) rfl (by kernel_rfl) (by kernel_rfl) (by kernel_rfl) (fun _ _ _ h => h) (Or.inl ⟨by kernel_rfl, ?h2a⟩) hS ?_
        case h2a => (rintro w2 ⟨e0, e1, _⟩; go_simp; try with_reducible rfl)
        refine wpAnyH_take (i := 3) (v := ?v3a) rfl (by kernel_rfl) (by kernel_rfl) (by kernel_rfl) (fun _ _ _ h => h) (Or.inl ⟨by kernel_rfl, ?h3a⟩) hS ?_
        case h3a => (rintro w2 ⟨e0, e1, _⟩; go_simp; try with_reducible rfl)
        refine wpAnyH_take (i := 4) (v := ?v4a) rfl (by kernel_rfl) (by kernel_rfl) (by kernel_rfl) (fun _ _ _ h => h) (Or.inl ⟨by kernel_rfl, ?h4a⟩) hS ?_
        case h4a => (rintro w2 ⟨e0, e1, _⟩; go_simp; try with_reducible rfl)
        refine wpAnyH_take (i := 5) (v := ?v5a) rfl (by kernel_rfl) (by kernel_rfl) (by kernel_rfl) (fun _ _ _ h => h) (Or.inl ⟨by kernel_rfl, ?h5a⟩) hS ?_
        case h5a => (rintro w2 ⟨e0, e1, _⟩; go_simp; try with_reducible rfl)
        refine wpAnyH_take (i := 6) (v := ?v6a) rfl (by kernel_rfl) (by kernel_rfl) (by kernel_rfl) (fun _ _ _ h => h) (Or.inl ⟨by kernel_rfl, ?h6a⟩) hS ?_
        case h6a => (rintro w2 ⟨e0, e1, _⟩; go_simp; try with_reducible rfl)
        refine wpAnyH_ready (rs := [7]) (by kernel_rfl) (by simp) (AllReadyH.cons rfl (fun K hK => ?_) AllReadyH.nil)
        go_simp
        go_wp2_with (go_at_call 15; refine (has_any _ _ _ L author (m + 1) _ (seenP_mk G0.out) a0 a1).mono ?_; rw [V1.out]; rintro e w17 ⟨rfl, hb17⟩)
        refine hK.out _ _ (hS.below hb17) (fun hS7 => ?_); clear hK K
        have G1 := Lib.hid (G0.out.later hb17)
        have E1 := Lib.hid (E0.out.trans (hb17.mono E0.out.size))
        have z17 := E1.out.size
        clear hb17
        refine wpAnyH_take (i := 8) (v := ?v8a) rfl (by kernel_rfl) (by kernel_rfl) (by kernel_rfl) (fun _ _ _ h => h) (Or.inl ⟨by kernel_rfl, ?h8a⟩) hS7 ?_
        case h8a => (rintro w2 ⟨e0, e1, _⟩; go_simp; try with_reducible rfl)
        refine wpAnyH_take (i := 9) (v := ?v9a) rfl (by kernel_rfl) (by kernel_rfl) (by kernel_rfl) (fun _ _ _ h => h) (Or.inl ⟨by kernel_rfl, ?h9a⟩) hS7 ?_
        case h9a => (rintro w2 ⟨e0, e1, _⟩; go_simp; try with_reducible rfl)
        refine wpAnyH_take (i := 10) (v := ?v10a) rfl (by kernel_rfl) (by kernel_rfl) (by kernel_rfl) (fun _ _ _ h => h) (Or.inl ⟨by kernel_rfl, ?h10a⟩) hS7 ?_
        case h10a => (rintro w2 ⟨e0, e1, _⟩; go_simp; try with_reducible rfl)
        refine wpAnyH_take (i := 11) (v := ?v11a) rfl (by kernel_rfl) (by kernel_rfl) (by kernel_rfl) (fun _ _ _ h => h) (Or.inl ⟨by kernel_rfl, ?h11a⟩) hS7 ?_
        case h11a => (rintro w2 ⟨e0, e1, _⟩; go_simp; try with_reducible rfl)
        refine wpAnyH_take (i := 12) (v := ?v12a) rfl (by kernel_rfl) (by kernel_rfl) (by kernel_rfl) (fun _ _ _ h => h) (Or.inl ⟨by kernel_rfl, ?h12a⟩) hS7 ?_
        case h12a => (rintro w2 ⟨e0, e1, _⟩; go_simp; try with_reducible rfl)
        refine wpAnyH_ready (rs := [13]) (by kernel_rfl) (by simp) (AllReadyH.cons rfl (fun K hK => ?_) AllReadyH.nil)
        go_simp
        go_wp2_with (go_at_call 13; refine (add_any _ _ _ L author (m + 1) _ G1.out a0 a1 (by omega) (by unfold maxLen; omega)).mono ?_; rw [V2.out]; rintro e w23 ⟨rfl, hs23, hO23⟩)
        refine hK.out _ _ (hS7.foot G1.out hO23) (fun hS13 => ?_); clear hK K
        have G2 := Lib.hid (hs23.tight)
        have E2 := Lib.hid (E1.out.trans (foot_below hO23 E1.out.size (by omega) (fun b hb => by omega)))
        have z23 := hO23.size
        clear hs23 hO23
        refine wpAnyH_take (i := 14) (v := ?v14a) rfl (by kernel_rfl) (by kernel_rfl) (by kernel_rfl) (fun _ _ _ h => h) (Or.inl ⟨by kernel_rfl, ?h14a⟩) hS13 ?_
        case h14a => (rintro w2 ⟨e0, e1, _⟩; go_simp; try with_reducible rfl)
        refine wpAnyH_take (i := 15) (v := ?v15a) rfl (by kernel_rfl) (by kernel_rfl) (by kernel_rfl) (fun _ _ _ h => h) (Or.inl ⟨by kernel_rfl, ?h15a⟩) hS13 ?_
        case h15a => (rintro w2 ⟨e0, e1, _⟩; go_simp; try with_reducible rfl)
        refine wpAnyH_take (i := 16) (v := ?v16a) rfl (by kernel_rfl) (by kernel_rfl) (by kernel_rfl) (fun _ _ _ h => h) (Or.inl ⟨by kernel_rfl, ?h16a⟩) hS13 ?_
        case h16a => (rintro w2 ⟨e0, e1, _⟩; go_simp; try with_reducible rfl)
        refine wpAnyH_take (i := 17) (v := ?v17a) rfl (by kernel_rfl) (by kernel_rfl) (by kernel_rfl) (fun _ _ _ h => h) (Or.inl ⟨by kernel_rfl, ?h17a⟩) hS13 ?_
        case h17a => (rintro w2 ⟨e0, e1, _⟩; go_simp; try with_reducible rfl)
        refine wpAnyH_ready (rs := [18]) (by kernel_rfl) (by simp) (AllReadyH.cons rfl (fun K hK => ?_) AllReadyH.nil)
        go_simp
        go_wp2_with (go_at_call 15; refine (has_any _ _ _ _ author (m + 1) _ (seenP_mk G2.out) a0 a1).mono ?_; rw [V3.out]; rintro e w28 ⟨rfl, hb28⟩)
        refine hK.out _ _ (hS13.below hb28) (fun hS18 => ?_); clear hK K
        have G3 := Lib.hid (G2.out.later hb28)
        have E3 := Lib.hid (E2.out.trans (hb28.mono E2.out.size))
        have z28 := hb28.size
        clear hb28
        refine wpAnyH_take (i := 19) (v := ?v19a) rfl (by kernel_rfl) (by kernel_rfl) (by kernel_rfl) (fun _ _ _ h => h) (Or.inl ⟨by kernel_rfl, ?h19a⟩) hS18 ?_
        case h19a => (rintro w2 ⟨e0, e1, _⟩; go_simp; try with_reducible rfl)
        refine wpAnyH_take (i := 20) (v := ?v20a) rfl (by kernel_rfl) (by kernel_rfl) (by kernel_rfl) (fun _ _ _ h => h) (Or.inl ⟨by kernel_rfl, ?h20a⟩) hS18 ?_
        case h20a => (rintro w2 ⟨e0, e1, _⟩; go_simp; try with_reducible rfl)
        refine wpAnyH_take (i := 21) (v := ?v21a) rfl (by kernel_rfl) (by kernel_rfl) (by kernel_rfl) (fun _ _ _ h => h) (Or.inl ⟨by kernel_rfl, ?h21a⟩) hS18 ?_
        case h21a => (rintro w2 ⟨e0, e1, _⟩; go_simp; try with_reducible rfl)
        refine wpAnyH_take (i := 22) (v := ?v22a) rfl (by kernel_rfl) (by kernel_rfl) (by kernel_rfl) (fun _ _ _ h => h) (Or.inl ⟨by kernel_rfl, ?h22a⟩) hS18 ?_
        case h22a => (rintro w2 ⟨e0, e1, _⟩; go_simp; try with_reducible rfl)
        refine wpAnyH_ready (rs := [23]) (by kernel_rfl) (by simp) (AllReadyH.cons rfl (fun K hK => ?_) AllReadyH.nil)
        go_simp
        go_wp2_with (go_at_call 13; refine (add_any _ _ _ _ author (m + 1) _ G3.out a0 a1 (by omega) (by unfold maxLen; omega)).mono ?_; rw [V4.out]; rintro e w33 ⟨rfl, hs33, hO33⟩)
        refine hK.out _ _ (hS18.foot G3.out hO33) (fun hS23 => ?_); clear hK K
        rw [V5.out] at hs33
        have G4 := Lib.hid (hs33.tight)
        have E4 := Lib.hid (E3.out.trans (foot_below hO33 E3.out.size (by omega) (fun b hb => by omega)))
        clear hs33 hO33
        refine wpAnyH_take (i := 24) (v := ?v24a) rfl (by kernel_rfl) (by kernel_rfl) (by kernel_rfl) (fun _ _ _ h => h) (Or.inl ⟨by kernel_rfl, ?h24a⟩) hS23 ?_
        case h24a => (rintro w2 ⟨e0, e1, _⟩; go_simp; try with_reducible rfl)
        refine wpAnyH_take (i := 25) (v := ?v25a) rfl (by kernel_rfl) (by kernel_rfl) (by kernel_rfl) (fun _ _ _ h => h) (Or.inl ⟨by kernel_rfl, ?h25a⟩) hS23 ?_
        case h25a => (rintro w2 ⟨e0, e1, _⟩; go_simp; try with_reducible rfl)
        refine wpAnyH_take (i := 26) (v := ?v26a) rfl (by kernel_rfl) (by kernel_rfl) (by kernel_rfl) (fun _ _ _ h => h) (Or.inl ⟨by kernel_rfl, ?h26a⟩) hS23 ?_
        case h26a => (rintro w2 ⟨e0, e1, _⟩; go_simp; try with_reducible rfl)
        refine wpAnyH_take (i := 27) (v := ?v27a) rfl (by kernel_rfl) (by kernel_rfl) (by kernel_rfl) (fun _ _ _ h => h) (Or.inl ⟨by kernel_rfl, ?h27a⟩) hS23 ?_
        case h27a => (rintro w2 ⟨e0, e1, _⟩; go_simp; try with_reducible rfl)
        refine wpAnyH_take (i := 28) (v := ?v28a) rfl (by kernel_rfl) (by kernel_rfl) (by kernel_rfl) (fun _ _ _ h => h) (Or.inl ⟨by kernel_rfl, ?h28a⟩) hS23 ?_
        case h28a => (rintro w2 ⟨e0, e1, _⟩; go_simp; try with_reducible rfl)
        refine wpAnyH_take (i := 29) (v := ?v29a) rfl (by kernel_rfl) (by kernel_rfl) (by kernel_rfl) (fun _ _ _ h => h) (Or.inl ⟨by kernel_rfl, ?h29a⟩) hS23 ?_
        case h29a => (rintro w2 ⟨e0, e1, _⟩; go_simp; try with_reducible rfl)
        refine wpAnyH_take (i := 30) (v := ?v30a) rfl (by kernel_rfl) (by kernel_rfl) (by kernel_rfl) (fun _ _ _ h => h) (Or.inl ⟨by kernel_rfl, ?h30a⟩) hS23 ?_
        case h30a => (rintro w2 ⟨e0, e1, _⟩; go_simp; try with_reducible rfl)
        refine wpAnyH_take (i := 31) (v := undef) rfl (by kernel_rfl) (by kernel_rfl) (by kernel_rfl) (fun _ _ _ h => h) (Or.inr ⟨by kernel_rfl, rfl⟩) hS23 ?_
        refine wpAnyH_take (i := 32) (v := undef) rfl (by kernel_rfl) (by kernel_rfl) (by kernel_rfl) (fun _ _ _ h => h) (Or.inr ⟨by kernel_rfl, rfl⟩) hS23 ?_
        refine wpAnyH_take (i := 33) (v := undef) rfl (by kernel_rfl) (by kernel_rfl) (by kernel_rfl) (fun _ _ _ h => h) (Or.inr ⟨by kernel_rfl, rfl⟩) hS23 ?_
        refine wpAnyH_take (i := 34) (v := undef) rfl (by kernel_rfl) (by kernel_rfl) (by kernel_rfl) (fun _ _ _ h => h) (Or.inr ⟨by kernel_rfl, rfl⟩) hS23 ?_
        refine wpAnyH_take (i := 35) (v := undef) rfl (by kernel_rfl) (by kernel_rfl) (by kernel_rfl) (fun _ _ _ h => h) (Or.inr ⟨by kernel_rfl, rfl⟩) hS23 ?_
        refine wpAnyH_take (i := 36) (v := ?v36a) rfl (by kernel_rfl) (by kernel_rfl) (by kernel_rfl) (fun _ _ _ h => h) (Or.inl ⟨by kernel_rfl, ?h36a⟩) hS23 ?_
        case h36a => (rintro w2 ⟨e0, e1, _⟩; go_simp; try with_reducible rfl)
        refine wpAnyH_take (i := 37) (v := ?v37a) rfl (by kernel_rfl) (by kernel_rfl) (by kernel_rfl) (fun _ _ _ h => h) (Or.inl ⟨by kernel_rfl, ?h37a⟩) hS23 ?_
        case h37a => (rintro w2 ⟨e0, e1, _⟩; go_simp; try with_reducible rfl)
        refine wpAnyH_take (i := 38) (v := ?v38a) rfl (by kernel_rfl) (by kernel_rfl) (by kernel_rfl) (fun _ _ _ h => h) (Or.inl ⟨by kernel_rfl, ?h38a⟩) hS23 ?_
        case h38a => (rintro w2 ⟨e0, e1, _⟩; go_simp; try with_reducible rfl)
        refine wpAnyH_done (by kernel_rfl) ?_ _
        go_simp
        go_wp2
        go_ret
        exact ⟨rfl, E4.out⟩
      · have hmb : (m + 1 == 9223372036854775807) = false := by simpa using hmx2
        have V6 := Lib.hid (V6'.out hmx2)
        clear hmx2
        go_wp2_with fail
        refine wp_region_held_drew (S := NB w3.heap.size author (m + 1)) (by kernel_rfl) HNR.out (fun hS => ?_)
        refine wpAnyH_take (i := 0) (v := ?v0b) rfl (by kernel_rfl) (by kernel_rfl) (by kernel_rfl) (fun _ _ _ h => h) (Or.inl ⟨by kernel_rfl, ?h0b⟩) hS ?_
        case h0b => (rintro w2 ⟨e0, e1, _⟩; go_simp; try with_reducible rfl)
        refine wpAnyH_take (i := 1) (v := ?v1b) rfl (by kernel_rfl) (by kernel_rfl) (by kernel_rfl) (fun _ _ _ h => h) (Or.inl ⟨by kernel_rfl, ?h1b⟩) hS ?_
        case h1b => (rintro w2 ⟨e0, e1, _⟩; go_simp; try with_reducible rfl)
        refine wpAnyH_take (i := 2) (v := ?v2b) rfl (by kernel_rfl) (by kernel_rfl) (by kernel_rfl) (fun _ _ _ h => h) (Or.inl ⟨by kernel_rfl, ?h2b⟩) hS ?_
        case h2b => (rintro w2 ⟨e0, e1, _⟩; go_simp; try with_reducible rfl)
        refine wpAnyH_take (i := 3) (v := ?v3b) rfl (by kernel_rfl) (by kernel_rfl) (by kernel_rfl) (fun _ _ _ h => h) (Or.inl ⟨by kernel_rfl, ?h3b⟩) hS ?_
        case h3b => (rintro w2 ⟨e0, e1, _⟩; go_simp; try with_reducible rfl)
        refine wpAnyH_take (i := 4) (v := ?v4b) rfl (by kernel_rfl) (by kernel_rfl) (by kernel_rfl) (fun _ _ _ h => h) (Or.inl ⟨by kernel_rfl, ?h4b⟩) hS ?_
        case h4b => (rintro w2 ⟨e0, e1, _⟩; go_simp; try with_reducible rfl)
        refine wpAnyH_take (i := 5) (v := ?v5b) rfl (by kernel_rfl) (by kernel_rfl) (by kernel_rfl) (fun _ _ _ h => h) (Or.inl ⟨by kernel_rfl, ?h5b⟩) hS ?_
        case h5b => (rintro w2 ⟨e0, e1, _⟩; go_simp; try with_reducible rfl)
        refine wpAnyH_take (i := 6) (v := ?v6b) rfl (by kernel_rfl) (by kernel_rfl) (by kernel_rfl) (fun _ _ _ h => h) (Or.inl ⟨by kernel_rfl, ?h6b⟩) hS ?_
        case h6b => (rintro w2 ⟨e0, e1, _⟩; go_simp; try with_reducible rfl)
        refine wpAnyH_ready (rs := [7]) (by kernel_rfl) (by simp) (AllReadyH.cons rfl (fun K hK => ?_) AllReadyH.nil)
        go_simp
        go_wp2_with (go_at_call 15; refine (has_any _ _ _ L author (m + 1) _ (seenP_mk G0.out) a0 a1).mono ?_; rw [V1.out]; rintro e w17 ⟨rfl, hb17⟩)
        refine hK.out _ _ (hS.below hb17) (fun hS7 => ?_); clear hK K
        have G1 := Lib.hid (G0.out.later hb17)
        have E1 := Lib.hid (E0.out.trans (hb17.mono E0.out.size))
        have z17 := E1.out.size
        clear hb17
        refine wpAnyH_take (i := 8) (v := ?v8b) rfl (by kernel_rfl) (by kernel_rfl) (by kernel_rfl) (fun _ _ _ h => h) (Or.inl ⟨by kernel_rfl, ?h8b⟩) hS7 ?_
        case h8b => (rintro w2 ⟨e0, e1, _⟩; go_simp; try with_reducible rfl)
        refine wpAnyH_take (i := 9) (v := ?v9b) rfl (by kernel_rfl) (by kernel_rfl) (by kernel_rfl) (fun _ _ _ h => h) (Or.inl ⟨by kernel_rfl, ?h9b⟩) hS7 ?_
        case h9b => (rintro w2 ⟨e0, e1, _⟩; go_simp; try with_reducible rfl)
        refine wpAnyH_take (i := 10) (v := ?v10b) rfl (by kernel_rfl) (by kernel_rfl) (by kernel_rfl) (fun _ _ _ h => h) (Or.inl ⟨by kernel_rfl, ?h10b⟩) hS7 ?_
        case h10b => (rintro w2 ⟨e0, e1, _⟩; go_simp; try with_reducible rfl)
        refine wpAnyH_take (i := 11) (v := ?v11b) rfl (by kernel_rfl) (by kernel_rfl) (by kernel_rfl) (fun _ _ _ h => h) (Or.inl ⟨by kernel_rfl, ?h11b⟩) hS7 ?_
        case h11b => (rintro w2 ⟨e0, e1, _⟩; go_simp; try with_reducible rfl)
        refine wpAnyH_take (i := 12) (v := ?v12b) rfl (by kernel_rfl) (by kernel_rfl) (by kernel_rfl) (fun _ _ _ h => h) (Or.inl ⟨by kernel_rfl, ?h12b⟩) hS7 ?_
        case h12b => (rintro w2 ⟨e0, e1, _⟩; go_simp; try with_reducible rfl)
        refine wpAnyH_ready (rs := [13]) (by kernel_rfl) (by simp) (AllReadyH.cons rfl (fun K hK => ?_) AllReadyH.nil)
        go_simp
        go_wp2_with (go_at_call 13; refine (add_any _ _ _ L author (m + 1) _ G1.out a0 a1 (by omega) (by unfold maxLen; omega)).mono ?_; rw [V2.out]; rintro e w23 ⟨rfl, hs23, hO23⟩)
        refine hK.out _ _ (hS7.foot G1.out hO23) (fun hS13 => ?_); clear hK K
        have G2 := Lib.hid (hs23.tight)
        have E2 := Lib.hid (E1.out.trans (foot_below hO23 E1.out.size (by omega) (fun b hb => by omega)))
        have z23 := hO23.size
        clear hs23 hO23
        refine wpAnyH_take (i := 14) (v := ?v14b) rfl (by kernel_rfl) (by kernel_rfl) (by kernel_rfl) (fun _ _ _ h => h) (Or.inl ⟨by kernel_rfl, ?h14b⟩) hS13 ?_
        case h14b => (rintro w2 ⟨e0, e1, _⟩; go_simp; try with_reducible rfl)
        refine wpAnyH_take (i := 15) (v := ?v15b) rfl (by kernel_rfl) (by kernel_rfl) (by kernel_rfl) (fun _ _ _ h => h) (Or.inl ⟨by kernel_rfl, ?h15b⟩) hS13 ?_
        case h15b => (rintro w2 ⟨e0, e1, _⟩; go_simp; try with_reducible rfl)
        refine wpAnyH_take (i := 16) (v := ?v16b) rfl (by kernel_rfl) (by kernel_rfl) (by kernel_rfl) (fun _ _ _ h => h) (Or.inl ⟨by kernel_rfl, ?h16b⟩) hS13 ?_
        case h16b => (rintro w2 ⟨e0, e1, _⟩; go_simp; try with_reducible rfl)
        refine wpAnyH_take (i := 17) (v := ?v17b) rfl (by kernel_rfl) (by kernel_rfl) (by kernel_rfl) (fun _ _ _ h => h) (Or.inl ⟨by kernel_rfl, ?h17b⟩) hS13 ?_
        case h17b => (rintro w2 ⟨e0, e1, _⟩; go_simp; try with_reducible rfl)
        refine wpAnyH_ready (rs := [18]) (by kernel_rfl) (by simp) (AllReadyH.cons rfl (fun K hK => ?_) AllReadyH.nil)
        go_simp
        go_wp2_with (go_at_call 15; refine (has_any _ _ _ _ author (m + 1) _ (seenP_mk G2.out) a0 a1).mono ?_; rw [V3.out]; rintro e w28 ⟨rfl, hb28⟩)
        refine hK.out _ _ (hS13.below hb28) (fun hS18 => ?_); clear hK K
        have G3 := Lib.hid (G2.out.later hb28)
        have E3 := Lib.hid (E2.out.trans (hb28.mono E2.out.size))
        have z28 := hb28.size
        clear hb28
        refine wpAnyH_take (i := 19) (v := ?v19b) rfl (by kernel_rfl) (by kernel_rfl) (by kernel_rfl) (fun _ _ _ h => h) (Or.inl ⟨by kernel_rfl, ?h19b⟩) hS18 ?_
        case h19b => (rintro w2 ⟨e0, e1, _⟩; go_simp; try with_reducible rfl)
        refine wpAnyH_take (i := 20) (v := ?v20b) rfl (by kernel_rfl) (by kernel_rfl) (by kernel_rfl) (fun _ _ _ h => h) (Or.inl ⟨by kernel_rfl, ?h20b⟩) hS18 ?_
        case h20b => (rintro w2 ⟨e0, e1, _⟩; go_simp; try with_reducible rfl)
        refine wpAnyH_take (i := 21) (v := ?v21b) rfl (by kernel_rfl) (by kernel_rfl) (by kernel_rfl) (fun _ _ _ h => h) (Or.inl ⟨by kernel_rfl, ?h21b⟩) hS18 ?_
        case h21b => (rintro w2 ⟨e0, e1, _⟩; go_simp; try with_reducible rfl)
        refine wpAnyH_take (i := 22) (v := ?v22b) rfl (by kernel_rfl) (by kernel_rfl) (by kernel_rfl) (fun _ _ _ h => h) (Or.inl ⟨by kernel_rfl, ?h22b⟩) hS18 ?_
        case h22b => (rintro w2 ⟨e0, e1, _⟩; go_simp; try with_reducible rfl)
        refine wpAnyH_ready (rs := [23]) (by kernel_rfl) (by simp) (AllReadyH.cons rfl (fun K hK => ?_) AllReadyH.nil)
        go_simp
        go_wp2_with (go_at_call 13; refine (add_any _ _ _ _ author (m + 1) _ G3.out a0 a1 (by omega) (by unfold maxLen; omega)).mono ?_; rw [V4.out]; rintro e w33 ⟨rfl, hs33, hO33⟩)
        refine hK.out _ _ (hS18.foot G3.out hO33) (fun hS23 => ?_); clear hK K
        rw [V5.out] at hs33
        have G4 := Lib.hid (hs33.tight)
        have E4 := Lib.hid (E3.out.trans (foot_below hO33 E3.out.size (by omega) (fun b hb => by omega)))
        clear hs33 hO33
        refine wpAnyH_take (i := 24) (v := ?v24b) rfl (by kernel_rfl) (by kernel_rfl) (by kernel_rfl) (fun _ _ _ h => h) (Or.inl ⟨by kernel_rfl, ?h24b⟩) hS23 ?_
        case h24b => (rintro w2 ⟨e0, e1, _⟩; go_simp; try with_reducible rfl)
        refine wpAnyH_take (i := 25) (v := ?v25b) rfl (by kernel_rfl) (by kernel_rfl) (by kernel_rfl) (fun _ _ _ h => h) (Or.inl ⟨by kernel_rfl, ?h25b⟩) hS23 ?_
        case h25b => (rintro w2 ⟨e0, e1, _⟩; go_simp; try with_reducible rfl)
        refine wpAnyH_take (i := 26) (v := ?v26b) rfl (by kernel_rfl) (by kernel_rfl) (by kernel_rfl) (fun _ _ _ h => h) (Or.inl ⟨by kernel_rfl, ?h26b⟩) hS23 ?_
        case h26b => (rintro w2 ⟨e0, e1, _⟩; go_simp; try with_reducible rfl)
        refine wpAnyH_take (i := 27) (v := ?v27b) rfl (by kernel_rfl) (by kernel_rfl) (by kernel_rfl) (fun _ _ _ h => h) (Or.inl ⟨by kernel_rfl, ?h27b⟩) hS23 ?_
        case h27b => (rintro w2 ⟨e0, e1, _⟩; go_simp; try with_reducible rfl)
        refine wpAnyH_take (i := 28) (v := ?v28b) rfl (by kernel_rfl) (by kernel_rfl) (by kernel_rfl) (fun _ _ _ h => h) (Or.inl ⟨by kernel_rfl, ?h28b⟩) hS23 ?_
        case h28b => (rintro w2 ⟨e0, e1, _⟩; go_simp; try with_reducible rfl)
        refine wpAnyH_take (i := 29) (v := ?v29b) rfl (by kernel_rfl) (by kernel_rfl) (by kernel_rfl) (fun _ _ _ h => h) (Or.inl ⟨by kernel_rfl, ?h29b⟩) hS23 ?_
        case h29b => (rintro w2 ⟨e0, e1, _⟩; go_simp; try with_reducible rfl)
        refine wpAnyH_take (i := 30) (v := ?v30b) rfl (by kernel_rfl) (by kernel_rfl) (by kernel_rfl) (fun _ _ _ h => h) (Or.inl ⟨by kernel_rfl, ?h30b⟩) hS23 ?_
        case h30b => (rintro w2 ⟨e0, e1, _⟩; go_simp; try with_reducible rfl)
        refine wpAnyH_take (i := 31) (v := ?v31b) rfl (by kernel_rfl) (by kernel_rfl) (by kernel_rfl) (fun _ _ _ h => h) (Or.inl ⟨by kernel_rfl, ?h31b⟩) hS23 ?_
        case h31b => (rintro w2 ⟨e0, e1, _⟩; go_simp; try with_reducible rfl)
        refine wpAnyH_take (i := 32) (v := ?v32b) rfl (by kernel_rfl) (by kernel_rfl) (by kernel_rfl) (fun _ _ _ h => h) (Or.inl ⟨by kernel_rfl, ?h32b⟩) hS23 ?_
        case h32b => (rintro w2 ⟨e0, e1, _⟩; go_simp; try with_reducible rfl)
        refine wpAnyH_take (i := 33) (v := ?v33b) rfl (by kernel_rfl) (by kernel_rfl) (by kernel_rfl) (fun _ _ _ h => h) (Or.inl ⟨by kernel_rfl, ?h33b⟩) hS23 ?_
        case h33b => (rintro w2 ⟨e0, e1, _⟩; go_simp; try with_reducible rfl)
        refine wpAnyH_ready (rs := [34]) (by kernel_rfl) (by simp) (AllReadyH.cons rfl (fun K hK => ?_) AllReadyH.nil)
        go_simp
        go_wp2_with (go_at_call 17; refine (next_any _ _ _ _ author _ (seenP_mk G4.out) (fun k hk => hk.2) (by omega)).mono ?_; rw [V6.out]; rintro e w44 ⟨rfl, hb44⟩)
        refine hK.out _ _ (hS23.below hb44) (fun hS34 => ?_); clear hK K
        have E5 := Lib.hid (E4.out.trans (hb44.mono E4.out.size))
        clear hb44
        refine wpAnyH_ready (rs := [35]) (by kernel_rfl) (by simp) (AllReadyH.cons rfl (fun K hK => ?_) AllReadyH.nil)
        go_simp
        go_wp2_with (go_at_call 25; refine (BEF.out _).mono ?_; rintro e w45 ⟨rfl, hb45⟩)
        refine hK.out _ _ (hS34.below hb45) (fun hS35 => ?_); clear hK K
        have E6 := Lib.hid (E5.out.trans (hb45.mono E5.out.size))
        clear hb45
        refine wpAnyH_take (i := 36) (v := ?v36b) rfl (by kernel_rfl) (by kernel_rfl) (by kernel_rfl) (fun _ _ _ h => h) (Or.inl ⟨by kernel_rfl, ?h36b⟩) hS35 ?_
        case h36b => (rintro w2 ⟨e0, e1, _⟩; go_simp; try with_reducible rfl)
        refine wpAnyH_take (i := 37) (v := ?v37b) rfl (by kernel_rfl) (by kernel_rfl) (by kernel_rfl) (fun _ _ _ h => h) (Or.inl ⟨by kernel_rfl, ?h37b⟩) hS35 ?_
        case h37b => (rintro w2 ⟨e0, e1, _⟩; go_simp; try with_reducible rfl)
        refine wpAnyH_take (i := 38) (v := ?v38b) rfl (by kernel_rfl) (by kernel_rfl) (by kernel_rfl) (fun _ _ _ h => h) (Or.inl ⟨by kernel_rfl, ?h38b⟩) hS35 ?_
        case h38b => (rintro w2 ⟨e0, e1, _⟩; go_simp; try with_reducible rfl)
        refine wpAnyH_done (by kernel_rfl) ?_ _
        go_simp
        go_wp2
        go_ret
        exact ⟨rfl, E6.out⟩

/-- DotLater, of any row of ids and any author -/
theorem later_any {w : World} (u : Value) (la : Row) (ha : IdsAt w u la) (sa : Small la) (author : Int) (_ : -9223372036854775808 ≤ author ∧ author ≤ 9223372036854775807) :
    Calls Try.prog 5 #[u, .int .i64 author] w fun e w' => e = .returned (.bool true) ∧ Below w.heap.size w w' := by
  by_cases h : 100 < la.length
  · exact later_long u la author w ha h
  · by_cases h1 : 1 ≤ author ∧ author ≤ 1000 ∧ mostL (addsL [] la) ≠ 9223372036854775807
    · exact later_some u la author w ha sa h h1.1 h1.2.1 h1.2.2
    · refine later_none u la author w ha sa h ?_
      unfold nextL
      rw [if_neg]
      simp only [Bool.and_eq_true, decide_eq_true_eq, Bool.not_eq_true', decide_eq_false_iff_not, and_assoc]
      exact h1
end Go.Proofs.Ytggcnglnclpaeaa
