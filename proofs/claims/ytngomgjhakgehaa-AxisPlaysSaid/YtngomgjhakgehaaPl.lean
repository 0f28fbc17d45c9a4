/- The law AxisPlays. -/
import Derived.Test.YtngomgjhakgehaaSc
import Derived.Test.YtngomgjhakgehaaSb
namespace Go.Proofs.Ytngomgjhakgehaa
open Go.RowKit Go.Maps

theorem placeF_gone (l : List Ent) (p : IdP) : ∀ n : Int, p ∉ liveE l → placeF p n l = (0, false) := by
  induction l with
  | nil => intro n _; rfl
  | cons e l ih =>
    obtain ⟨q, b⟩ := e
    intro n h
    cases b with
    | false =>
      have h1 : liveE ((q, false) :: l) = liveE l := by simp [liveE]
      rw [h1] at h
      have := ih n h
      simp [placeF, this]
    | true =>
      have h1 : liveE ((q, true) :: l) = q :: liveE l := by simp [liveE]
      rw [h1] at h
      have hq : (q == p) = false := by
        cases hc : q == p with
        | false => rfl
        | true => exact absurd (by rw [eq_of_beq hc]; exact List.mem_cons_self ..) h
      have := ih (n + 1) (fun hm => h (List.mem_cons_of_mem _ hm))
      simp [placeF, this, hq]
theorem place_two {l : List Ent} (ho : Once l) (p : IdP) : (∃ k : Nat, placeF p 0 l = ((k : Int), true) ∧ findE (liveQ l) p = (k : Int)) ∨ (placeF p 0 l = (0, false) ∧ findE (liveQ l) p = -1) := by
  cases hx : idxE (liveQ l) p with
  | none =>
    have hf : findE (liveQ l) p = -1 := by unfold findE; rw [hx]
    refine .inr ⟨placeF_gone l p 0 (fun hm => ?_), hf⟩
    have h1 : hasE (liveQ l) p = true := (hasE_iff _ _).2 ⟨(p, true), List.mem_map.2 ⟨p, hm, rfl⟩, rfl⟩
    rw [has_find, hf] at h1
    exact absurd h1 (by decide)
  | some k =>
    obtain ⟨b, hb⟩ := idxE_some hx
    unfold liveQ at hb
    rw [List.getElem?_map] at hb
    obtain ⟨q, hq, he⟩ := Option.map_eq_some_iff.1 hb
    obtain rfl : q = p := by injection he
    have := placeF_live l 0 ho k q hq
    rw [Int.zero_add] at this
    exact .inl ⟨k, this, by unfold findE; rw [hx]⟩
theorem at_three (l : List Ent) (i : Int) : (∃ (k : Nat) (o : IdP), i = k ∧ k < (liveE l).length ∧ (liveE l)[k]? = some o ∧ atF i 0 l = (o, true)) ∨ (i < 0 ∧ atF i 0 l = ((0, 0), false)) ∨ (0 ≤ i ∧ ((liveE l).length : Int) ≤ i ∧ atF i 0 l = ((0, 0), false)) := by
  have h := atF_live l 0 i
  by_cases h0 : 0 ≤ i
  · obtain ⟨k, rfl⟩ := Int.eq_ofNat_of_zero_le h0
    rw [if_pos h0, Int.sub_zero, Int.toNat_natCast] at h
    by_cases hk : k < (liveE l).length
    · rw [List.getElem?_eq_getElem hk] at h
      exact .inl ⟨k, _, rfl, hk, List.getElem?_eq_getElem hk, h⟩
    · rw [List.getElem?_eq_none (by omega)] at h
      exact .inr (.inr ⟨h0, by omega, h⟩)
  · rw [if_neg h0] at h
    exact .inr (.inl ⟨by omega, h⟩)
def SP (B s2 g : Nat) (x1 x2 : Int) (L : List Ent) (v W : World) : Prop := Below v.heap.size v W ∧ IdBox W g (x1, x2) ∧ Pair B W B s2 L L
theorem SP.keep {B s2 g : Nat} {x1 x2 : Int} {L : List Ent} {v W W' : World} (h : SP B s2 g x1 x2 L v W) (hb : Below W.heap.size W W') : SP B s2 g x1 x2 L v W' :=
  ⟨h.1.trans (hb.mono h.1.size), h.2.1.below hb, h.2.2.later hb⟩

set_option maxRecDepth 100000 in
set_option maxHeartbeats 12800000 in
theorem plays_law0 {w : World} (u : Value) (ids : List IdP) (hu : IdsAt w u ids) (hs : SmallI ids) (dv : Value) (ds : List DeedP) (hd : DeedsAt w dv ds) (x1 x2 i : Int) :
    Calls Try.prog 3 #[u, dv, .agg #[.int .i64 x1, .int .i64 x2], .int .i64 i] w fun e w' => e = .returned (.bool true) ∧ Below w.heap.size w w' := by
  obtain ⟨A, c, rfl, hc, hI⟩ := id hu
  obtain ⟨DA, dc, rfl, hdc, hDI⟩ := id hd
  have HS := Lib.hid hs
  have HU := Lib.hid hu
  have HD := Lib.hid hd
  have hb0 : Below w.heap.size w (w.alloc (.cells #[.int .i64 x1, .int .i64 x2] 25)) := (Below.refl _ _).alloc (Nat.le_refl _) _
  have hn0 : IdBox (w.alloc (.cells #[.int .i64 x1, .int .i64 x2] 25)) w.heap.size (x1, x2) := IdBox.new _ _ _
  obtain ⟨w0, hw0⟩ : ∃ w0, (w.alloc (.cells #[.int .i64 x1, .int .i64 x2] 25)) = w0 := ⟨_, rfl⟩
  have hB0 : Below w.heap.size w w0 := by rw [← hw0]; exact hb0
  have hsz0 : w.heap.size + 1 ≤ w0.heap.size := by rw [← hw0]; simp
  have hx0 : IdBox w0 w.heap.size (x1, x2) := by rw [← hw0]; exact hn0
  have HB0 := Lib.hid hB0
  have HW0 := Lib.hid hw0
  have HX0 := Lib.hid hx0
  clear hs hu hd hI hDI hw0 hB0 hb0 hn0 hx0
  go_enter Try.func3, Try.ntmps3
  go_wp2_with fail
  rw [HW0.out]
  refine (awake_any _).mono ?_
  rintro e w1 ⟨rfl, hB⟩
  have HB1 := Lib.hid (HB0.out.trans (hB.mono HB0.out.size))
  have HY0 := Lib.hid (HX0.out.below hB)
  have hsz1 : w.heap.size + 1 ≤ w1.heap.size := by have := hB.size; omega
  clear hB HB0 HX0 hsz0 HW0
  by_cases hlen : ids.length ≤ 100
  · have hlt : ¬ (100 : Int) < ↑ids.length := by omega
    by_cases hdl : ds.length ≤ 100
    · have hdt : ¬ (100 : Int) < ↑ds.length := by omega
      have hs1 : ∃ s, w1.heap.size = s := ⟨_, rfl⟩
      have HUS : Hid (∀ W, Below w1.heap.size w1 W → IdsAt W (.slice A ids.length c) ids) := Lib.hid (fun W hW => (HU.out.below HB1.out).below hW)
      have HDS : Hid (∀ W, Below w1.heap.size w1 W → DeedsAt W (.slice DA ds.length dc) ds) := Lib.hid (fun W hW => (HD.out.below HB1.out).below hW)
      have HXS0 : Hid (∀ W, Below w1.heap.size w1 W → IdBox W w.heap.size (x1, x2)) := Lib.hid (fun W hW => HY0.out.below hW)
      have HBS : Hid (∀ W, Below w1.heap.size w1 W → Below w.heap.size w W) := Lib.hid (fun W hW => HB1.out.trans (hW.mono (by omega)))
      obtain ⟨B, hB1⟩ := hs1
      have hBa : B ≤ w1.heap.size := by omega
      have hBb : w1.heap.size ≤ B := by omega
      have hBw : w.heap.size + 1 ≤ B := by omega
      rw [hB1] at HUS HDS HBS HXS0
      clear hsz1 HB1 HU HD HY0
      go_wp2_with fail
      refine (new_any _ ids w1 (HUS.out _ (Below.refl _ _)) HS.out (by omega)).mono ?_
      rintro e w2 ⟨rfl, hA, hB⟩
      rw [hB1] at hA hB ⊢
      have HA2 := Lib.hid hA
      have HB2 := Lib.hid hB
      have hz2 : B ≤ w2.heap.size := by have := hB.size; omega
      clear hA hB hB1
      go_wp2_with fail
      refine (rnew_any _ ids w2 (HUS.out _ HB2.out) (by omega)).mono ?_
      rintro e w3 ⟨rfl, hA, hB⟩
      have hll := newE_len ids
      have HF := Lib.hid (newE_fresh ids).once
      obtain ⟨l, hl⟩ : ∃ l, newE ids = l := ⟨_, rfl⟩
      have hz3 : w2.heap.size ≤ w3.heap.size := hB.size
      have hP : Pair B w3 B w2.heap.size l l := by
        rw [hl] at hA
        have h2 := HA2.out.later hB
        rw [hl] at h2
        refine ⟨fun b => B ≤ b ∧ b < w2.heap.size, fun b => w2.heap.size ≤ b ∧ b < w3.heap.size, ?_, hA.wider (fun b h1 h2 => ⟨h1, h2⟩), fun b h1 h2 => by omega, fun b h => by omega, fun b h => by omega⟩
        have h3 := HA2.out
        rw [hl] at h3
        exact (h3.wider (T := fun b => B ≤ b ∧ b < w2.heap.size) (fun b h1 h2 => ⟨h1, h2⟩)).later hB
      have HP := Lib.hid hP
      have HB3 := Lib.hid (HB2.out.trans (hB.mono hz2))
      rw [hl] at hll HF
      have hl9 : l.length ≤ 100 := by omega
      obtain ⟨s2, hs2⟩ : ∃ s, w2.heap.size = s := ⟨_, rfl⟩
      rw [hs2] at HP ⊢
      clear hA hB hP HA2 HB2 hl hll hs2 hz3
      go_wp2_with fail
      go_loopw [11] (fun i wr => ∃ k : Nat, k ≤ ds.length ∧ i = .int .i64 k ∧ Pair B wr B s2 (deedsL l (ds.take k)) (deedsL l (ds.take k)) ∧ Below B w1 wr) (fun i _ => ds.length - (intOf i).toNat)
      case atStart => exact ⟨0, Nat.zero_le _, rfl, HP.out, HB3.out⟩
      case round =>
        obtain ⟨k, hk, rfl, hp, hB⟩ := hrel
        have HPR := Lib.hid hp
        have HBR := Lib.hid hB
        clear hp hB HP HB3
        have hz : B ≤ wr.heap.size := by have := HBR.out.size; omega
        by_cases hlt : k < ds.length
        · have hx : ds[k]? = some ds[k] := List.getElem?_eq_getElem hlt
          obtain ⟨d, hd⟩ : ∃ d, ds[k] = d := ⟨_, rfl⟩
          rw [hd] at hx
          have hsn : deedsL l (ds.take (k + 1)) = deedL (deedsL l (ds.take k)) d := by rw [List.take_add_one, hx]; exact deedsL_snoc _ _ _
          have hln := deedsL_len (ds.take k) l
          rw [List.length_take] at hln
          have HSN := Lib.hid hsn
          obtain ⟨A2, c2, hv2, hc2, hI2⟩ := HDS.out _ HBR.out
          obtain ⟨rfl, _, rfl⟩ := Value.slice.inj hv2
          obtain ⟨ad, rfl, q0, q1, q2, q3, q4⟩ := hI2 k d hx
          obtain ⟨dk, ⟨d1, d2⟩, ⟨d3, d4⟩⟩ := d
          simp only at q0 q1 q2 q3 q4
          have hi0 : (0 : Int) ≤ ↑k := by omega
          have hi1 : (↑k : Int) < ↑ds.length := by omega
          have hi2 : (↑ds.length : Int) ≤ ↑dc := by omega
          clear hx hd hsn hI2 hv2
          go_wp2_with fail
          refine (do_any B B s2 (deedsL l (ds.take k)) dk d1 d2 d3 d4 wr HPR.out (by omega) hz _ rfl).mono ?_
          rintro e w5 ⟨rfl, hp, hb⟩
          rw [← HSN.out] at hp
          have HP5 := Lib.hid hp
          have HB5 := Lib.hid (HBR.out.trans hb)
          clear hp hb
          go_wp2_with fail
          go_roundw
          case rel => exact ⟨k + 1, by omega, by simp, HP5.out, HB5.out⟩
          case measure => simp [intOf]; omega
        · obtain rfl : k = ds.length := by omega
          have hlt2 : ¬ (↑ds.length : Int) < ↑ds.length := by omega
          have hp := HPR.out
          rw [List.take_length] at hp
          have hLl := deedsL_len ds l
          have HON := Lib.hid (once_deeds ds (l := l) HF.out)
          obtain ⟨L, hL⟩ : ∃ L, deedsL l ds = L := ⟨_, rfl⟩
          rw [hL] at hp hLl HON
          have HP := Lib.hid hp
          have hL9 : L.length ≤ 200 := by omega
          clear hp HPR hL hLl HF
          obtain ⟨M, hM⟩ : ∃ M, liveE L = M := ⟨_, rfl⟩
          have hMl : M.length ≤ 200 := by rw [← hM]; exact Nat.le_trans (liveE_len _) hL9
          have h3 := at_three L i
          have h2 := place_two HON.out (x1, x2)
          rw [hM] at h3
          have HM := Lib.hid hM
          obtain ⟨hh, hhh⟩ : ∃ b, hasE L (x1, x2) = b := ⟨_, rfl⟩
          have HH := Lib.hid hhh
          obtain ⟨fd, hfd⟩ : ∃ b, findE L (x1, x2) = b := ⟨_, rfl⟩
          have HFD := Lib.hid hfd
          have hfp : (0 ≤ fd) ↔ hh = true := by rw [← hfd, ← hhh, has_find]; simp
          have HFP := Lib.hid hfp
          obtain ⟨x0, x1', _⟩ := HXS0.out _ HBR.out
          simp only at x0 x1'
          clear hhh hfd hM hfp
          go_wp2_with fail
          refine (rorder_any s2 L wr HP.out.r (by omega)).mono ?_
          rw [HM.out]
          rintro e v1 ⟨⟨b, rfl, hown⟩, hB⟩
          obtain ⟨A9, c9, rfl⟩ := own_shape hown
          have HI := Lib.hid (ids_of_own hown)
          have HP1 := Lib.hid (HP.out.later hB)
          have HB1' := Lib.hid (HBR.out.trans (hB.mono hz))
          have hz1 : B ≤ v1.heap.size := Nat.le_trans hz hB.size
          clear hown hB x0 x1' HP HBR
          obtain ⟨ov, hov⟩ : ∃ ov, atF i 0 L = ov := ⟨_, rfl⟩
          obtain ⟨pv, hpv⟩ : ∃ pv, placeF (x1, x2) 0 L = pv := ⟨_, rfl⟩
          obtain ⟨rp, hrp⟩ : ∃ rp, findE (liveQ L) (x1, x2) = rp := ⟨_, rfl⟩
          rw [hov] at h3
          rw [hpv, hrp] at h2
          obtain ⟨⟨o1, o2⟩, ok⟩ := ov
          obtain ⟨pl, is⟩ := pv
          have HOV := Lib.hid hov
          have HPV := Lib.hid hpv
          have HRP := Lib.hid hrp
          have H3 := Lib.hid h3
          have H2 := Lib.hid h2
          clear hov hpv hrp h3 h2
          go_wp2_with fail
          refine (at_is HP1.out.o.p (by omega) HOV.out).mono ?_
          rintro e v2 ⟨rfl, hB⟩
          have HP2 := Lib.hid ((HP1.out.later hB).later ((Below.refl _ _).alloc (Nat.le_refl _) (.cells #[.int .i64 o1, .int .i64 o2] 25)))
          have HV2 := Lib.hid (hB.alloc hB.size (.cells #[.int .i64 o1, .int .i64 o2] 25))
          have HT := Lib.hid (IdBox.new v2 o1 o2)
          have hsz2 : v1.heap.size ≤ v2.heap.size := hB.size
          clear hB HP1
          obtain ⟨x0, x1', _⟩ := HXS0.out _ (HB1'.out.trans (HV2.out.mono hz1))
          simp only at x0 x1'
          go_wp2_with fail
          refine (place_is HP2.out.o.p (by omega) HPV.out).mono ?_
          rintro e v3 ⟨rfl, hB⟩
          have HP3 := Lib.hid (HP2.out.later hB)
          have HT3 := Lib.hid (HT.out.below hB)
          have HV3 := Lib.hid (HV2.out.trans (hB.mono HV2.out.size))
          clear hB x0 x1' HP2 HT HV2
          obtain ⟨x0, x1', _⟩ := HXS0.out _ (HB1'.out.trans (HV3.out.mono hz1))
          simp only at x0 x1'
          go_wp2_with fail
          refine (rplace_any s2 L x1 x2 v3 HP3.out.r (by omega)).mono ?_
          rw [HRP.out]
          rintro e v4 ⟨rfl, hB⟩
          have HP4 := Lib.hid (HP3.out.later hB)
          have HT4 := Lib.hid (HT3.out.below hB)
          have HV4 := Lib.hid (HV3.out.trans (hB.mono HV3.out.size))
          clear hB x0 x1' HP3 HT3 HV3
          obtain ⟨ts, hts⟩ : ∃ t, v2.heap.size = t := ⟨_, rfl⟩
          rw [hts] at HT4 ⊢
          clear hts hsz2
          have HBX := Lib.hid (HXS0.out _ (HB1'.out.trans (HV4.out.mono hz1)))
          have HS : Hid (SP B s2 w.heap.size x1 x2 L v4 v4.drew) := Lib.hid ⟨(Below.refl _ _).drew, HBX.out.below ((Below.refl _ _).drew), HP4.out.later ((Below.refl _ _).drew)⟩
          have HBW4 := Lib.hid (HB1'.out.trans (HV4.out.mono hz1))
          have hfp := HFP.out
          have hrp : (0 ≤ rp) ↔ is = true := by
            rcases H2.out with ⟨k, h1, h2⟩ | ⟨h1, h2⟩
            · injection h1 with h1 h1'; subst h1'; subst h2; simp
            · injection h1 with h1 h1'; subst h1'; subst h2; simp
          go_wp2_with fail
          rcases H3.out with ⟨k, ⟨p1, p2⟩, rfl, hkl, ho, h1⟩ | ⟨hi9, h1⟩ | ⟨hi8, hi9, h1⟩
          · injection h1 with h1 h1'
            injection h1 with h1 h1''
            subst h1 h1' h1''
            have hk0 : (0 : Int) ≤ ↑k := by omega
            have hk1 : (↑k : Int) < ↑M.length := by omega
            refine wp_region_held_drew (S := SP B s2 w.heap.size x1 x2 L v4) (by kernel_rfl) HS.out (fun hS => ?_)
            refine wpAnyH_take (i := 0) (v := ?v0b) rfl (by kernel_rfl) (by kernel_rfl) (by kernel_rfl) (fun _ _ _ h => h) (Or.inl ⟨by kernel_rfl, ?h0b⟩) hS ?_
            case h0b => (rintro w9 ⟨_, ⟨e1, e2, _⟩, _⟩; go_simp; try with_reducible rfl)
            refine wpAnyH_take (i := 1) (v := ?v1b) rfl (by kernel_rfl) (by kernel_rfl) (by kernel_rfl) (fun _ _ _ h => h) (Or.inl ⟨by kernel_rfl, ?h1b⟩) hS ?_
            case h1b => (rintro w9 ⟨_, ⟨e1, e2, _⟩, _⟩; go_simp; try with_reducible rfl)
            refine wpAnyH_ready (rs := [2]) (by kernel_rfl) (by simp) (AllReadyH.cons rfl (fun K hK => ?_) AllReadyH.nil)
            go_simp
            obtain ⟨e1, e2, _⟩ := hS.2.1
            simp only at e1 e2
            go_wp2_with (go_at_call 18; refine (same_eq _ _ L _ hS.2.2.o hS.2.2.r (by omega)).mono ?_; rintro e u ⟨rfl, hB⟩)
            have hSa := hS.keep hB
            refine hK.out _ _ hSa (fun _ => ?_); clear hK K hB e1 e2
            refine wpAnyH_take (i := 3) (v := .bool false) rfl (by kernel_rfl) (by kernel_rfl) (by kernel_rfl) (fun _ _ _ h => h) (Or.inl ⟨by kernel_rfl, ?h3b⟩) hSa ?_
            case h3b => (rintro w9 ⟨_, ⟨e1, e2, _⟩, _⟩; go_simp; try with_reducible rfl)
            refine wpAnyH_take (i := 4) (v := .bool false) rfl (by kernel_rfl) (by kernel_rfl) (by kernel_rfl) (fun _ _ _ h => h) (Or.inl ⟨by kernel_rfl, ?h4b⟩) hSa ?_
            case h4b => (rintro w9 ⟨_, ⟨e1, e2, _⟩, _⟩; go_simp; try with_reducible rfl)
            refine wpAnyH_take (i := 5) (v := ?v5b) rfl (by kernel_rfl) (by kernel_rfl) (by kernel_rfl) (fun _ _ _ h => h) (Or.inl ⟨by kernel_rfl, ?h5b⟩) hSa ?_
            case h5b => (rintro w9 ⟨_, ⟨e1, e2, _⟩, _⟩; go_simp; try with_reducible rfl)
            refine wpAnyH_take (i := 7) (v := ?v7b) rfl (by kernel_rfl) (by kernel_rfl) (by kernel_rfl) (fun _ _ _ h => h) (Or.inl ⟨by kernel_rfl, ?h7b⟩) hSa ?_
            case h7b => (rintro w9 ⟨_, ⟨e1, e2, _⟩, _⟩; go_simp; try with_reducible rfl)
            refine wpAnyH_take (i := 8) (v := ?v8b) rfl (by kernel_rfl) (by kernel_rfl) (by kernel_rfl) (fun _ _ _ h => h) (Or.inl ⟨by kernel_rfl, ?h8b⟩) hSa ?_
            case h8b => (rintro w9 ⟨_, ⟨e1, e2, _⟩, _⟩; go_simp; try with_reducible rfl)
            refine wpAnyH_ready (rs := [6]) (by kernel_rfl) (by simp) (AllReadyH.cons rfl (fun K hK => ?_) AllReadyH.nil)
            go_simp
            obtain ⟨e1, e2, _⟩ := hSa.2.1
            simp only at e1 e2
            go_wp2_with (go_at_call 19; refine (len_any _ L _ hSa.2.2.o (by omega)).mono ?_; rw [HM.out]; rintro e u ⟨rfl, hB⟩)
            have hSb := hSa.keep hB
            refine hK.out _ _ hSb (fun _ => ?_); clear hK K hB e1 e2
            refine wpAnyH_take (i := 9) (v := .bool false) rfl (by kernel_rfl) (by kernel_rfl) (by kernel_rfl) (fun _ _ _ h => h) (Or.inl ⟨by kernel_rfl, ?h9b⟩) hSb ?_
            case h9b => (rintro w9 ⟨_, ⟨e1, e2, _⟩, _⟩; go_simp; try with_reducible rfl)
            refine wpAnyH_take (i := 10) (v := .bool false) rfl (by kernel_rfl) (by kernel_rfl) (by kernel_rfl) (fun _ _ _ h => h) (Or.inl ⟨by kernel_rfl, ?h10b⟩) hSb ?_
            case h10b => (rintro w9 ⟨_, ⟨e1, e2, _⟩, _⟩; go_simp; try with_reducible rfl)
            refine wpAnyH_take (i := 11) (v := .bool false) rfl (by kernel_rfl) (by kernel_rfl) (by kernel_rfl) (fun _ _ _ h => h) (Or.inl ⟨by kernel_rfl, ?h11b⟩) hSb ?_
            case h11b => (rintro w9 ⟨_, ⟨e1, e2, _⟩, _⟩; go_simp; try with_reducible rfl)
            refine wpAnyH_take (i := 12) (v := ?v12b) rfl (by kernel_rfl) (by kernel_rfl) (by kernel_rfl) (fun _ _ _ h => h) (Or.inl ⟨by kernel_rfl, ?h12b⟩) hSb ?_
            case h12b => (rintro w9 ⟨_, ⟨e1, e2, _⟩, _⟩; go_simp; try with_reducible rfl)
            refine wpAnyH_take (i := 13) (v := ?v13b) rfl (by kernel_rfl) (by kernel_rfl) (by kernel_rfl) (fun _ _ _ h => h) (Or.inl ⟨by kernel_rfl, ?h13b⟩) hSb ?_
            case h13b => (rintro w9 ⟨_, ⟨e1, e2, _⟩, _⟩; go_simp; try with_reducible rfl)
            refine wpAnyH_take (i := 15) (v := ?v15b) rfl (by kernel_rfl) (by kernel_rfl) (by kernel_rfl) (fun _ _ _ h => h) (Or.inl ⟨by kernel_rfl, ?h15b⟩) hSb ?_
            case h15b => (rintro w9 ⟨_, ⟨e1, e2, _⟩, _⟩; go_simp; try with_reducible rfl)
            refine wpAnyH_take (i := 16) (v := ?v16b) rfl (by kernel_rfl) (by kernel_rfl) (by kernel_rfl) (fun _ _ _ h => h) (Or.inl ⟨by kernel_rfl, ?h16b⟩) hSb ?_
            case h16b => (rintro w9 ⟨_, ⟨e1, e2, _⟩, _⟩; go_simp; try with_reducible rfl)
            refine wpAnyH_ready (rs := [14]) (by kernel_rfl) (by simp) (AllReadyH.cons rfl (fun K hK => ?_) AllReadyH.nil)
            go_simp
            obtain ⟨e1, e2, _⟩ := hSb.2.1
            simp only at e1 e2
            go_wp2_with (go_at_call 20; refine (has_is (b := hh) hSb.2.2.o.p (by omega) HH.out).mono ?_; rintro e u ⟨rfl, hB⟩)
            have hSc := hSb.keep hB
            refine hK.out _ _ hSc (fun _ => ?_); clear hK K hB e1 e2
            refine wpAnyH_ready (rs := [17]) (by kernel_rfl) (by simp) (AllReadyH.cons rfl (fun K hK => ?_) AllReadyH.nil)
            go_simp
            obtain ⟨e1, e2, _⟩ := hSc.2.1
            simp only at e1 e2
            go_wp2_with (go_at_call 21; refine (rfind_any s2 L x1 x2 _ hSc.2.2.r (by omega)).mono ?_; rw [HFD.out]; rintro e u ⟨rfl, hB⟩)
            have hSd := hSc.keep hB
            refine hK.out _ _ hSd (fun _ => ?_); clear hK K hB e1 e2
            refine wpAnyH_take (i := 18) (v := .bool hh) rfl (by kernel_rfl) (by kernel_rfl) (by kernel_rfl) (fun _ _ _ h => h) (Or.inl ⟨by kernel_rfl, ?h18b⟩) hSd ?_
            case h18b => (rintro w9 ⟨_, ⟨e1, e2, _⟩, _⟩; go_simp; try with_reducible rfl)
            refine wpAnyH_take (i := 19) (v := .bool false) rfl (by kernel_rfl) (by kernel_rfl) (by kernel_rfl) (fun _ _ _ h => h) (Or.inl ⟨by kernel_rfl, ?h19b⟩) hSd ?_
            case h19b => (rintro w9 ⟨_, ⟨e1, e2, _⟩, _⟩; go_simp; try with_reducible rfl)
            refine wpAnyH_take (i := 20) (v := .bool false) rfl (by kernel_rfl) (by kernel_rfl) (by kernel_rfl) (fun _ _ _ h => h) (Or.inl ⟨by kernel_rfl, ?h20b⟩) hSd ?_
            case h20b => (rintro w9 ⟨_, ⟨e1, e2, _⟩, _⟩; go_simp; try with_reducible rfl)
            refine wpAnyH_take (i := 21) (v := .bool false) rfl (by kernel_rfl) (by kernel_rfl) (by kernel_rfl) (fun _ _ _ h => h) (Or.inl ⟨by kernel_rfl, ?h21b⟩) hSd ?_
            case h21b => (rintro w9 ⟨_, ⟨e1, e2, _⟩, _⟩; go_simp; try with_reducible rfl)
            refine wpAnyH_take (i := 22) (v := ?v22b) rfl (by kernel_rfl) (by kernel_rfl) (by kernel_rfl) (fun _ _ _ h => h) (Or.inl ⟨by kernel_rfl, ?h22b⟩) hSd ?_
            case h22b => (rintro w9 ⟨_, ⟨e1, e2, _⟩, _⟩; go_simp; try with_reducible rfl)
            refine wpAnyH_take (i := 23) (v := ?v23b) rfl (by kernel_rfl) (by kernel_rfl) (by kernel_rfl) (fun _ _ _ h => h) (Or.inl ⟨by kernel_rfl, ?h23b⟩) hSd ?_
            case h23b => (rintro w9 ⟨_, ⟨e1, e2, _⟩, _⟩; go_simp; try with_reducible rfl)
            refine wpAnyH_take (i := 24) (v := .bool true) rfl (by kernel_rfl) (by kernel_rfl) (by kernel_rfl) (fun _ _ _ h => h) (Or.inl ⟨by kernel_rfl, ?h24b⟩) hSd ?_
            case h24b => (rintro w9 ⟨_, ⟨e1, e2, _⟩, _⟩; go_simp; try with_reducible rfl)
            refine wpAnyH_take (i := 25) (v := .bool true) rfl (by kernel_rfl) (by kernel_rfl) (by kernel_rfl) (fun _ _ _ h => h) (Or.inl ⟨by kernel_rfl, ?h25b⟩) hSd ?_
            case h25b => (rintro w9 ⟨_, ⟨e1, e2, _⟩, _⟩; go_simp; try with_reducible rfl)
            refine wpAnyH_take (i := 26) (v := ?v26b) rfl (by kernel_rfl) (by kernel_rfl) (by kernel_rfl) (fun _ _ _ h => h) (Or.inl ⟨by kernel_rfl, ?h26b⟩) hSd ?_
            case h26b => (rintro w9 ⟨_, ⟨e1, e2, _⟩, _⟩; go_simp; try with_reducible rfl)
            refine wpAnyH_take (i := 27) (v := ?v27b) rfl (by kernel_rfl) (by kernel_rfl) (by kernel_rfl) (fun _ _ _ h => h) (Or.inl ⟨by kernel_rfl, ?h27b⟩) hSd ?_
            case h27b => (rintro w9 ⟨_, ⟨e1, e2, _⟩, _⟩; go_simp; try with_reducible rfl)
            refine wpAnyH_take (i := 28) (v := ?v28b) rfl (by kernel_rfl) (by kernel_rfl) (by kernel_rfl) (fun _ _ _ h => h) (Or.inl ⟨by kernel_rfl, ?h28b⟩) hSd ?_
            case h28b => (rintro w9 ⟨_, ⟨e1, e2, _⟩, _⟩; go_simp; try with_reducible rfl)
            refine wpAnyH_take (i := 29) (v := .bool true) rfl (by kernel_rfl) (by kernel_rfl) (by kernel_rfl) (fun _ _ _ h => h) (Or.inl ⟨by kernel_rfl, ?h29b⟩) hSd ?_
            case h29b => (rintro w9 ⟨_, ⟨e1, e2, _⟩, _⟩; go_simp; try with_reducible rfl)
            refine wpAnyH_take (i := 30) (v := .bool true) rfl (by kernel_rfl) (by kernel_rfl) (by kernel_rfl) (fun _ _ _ h => h) (Or.inl ⟨by kernel_rfl, ?h30b⟩) hSd ?_
            case h30b => (rintro w9 ⟨_, ⟨e1, e2, _⟩, _⟩; go_simp; try with_reducible rfl)
            refine wpAnyH_take (i := 31) (v := .bool false) rfl (by kernel_rfl) (by kernel_rfl) (by kernel_rfl) (fun _ _ _ h => h) (Or.inl ⟨by kernel_rfl, ?h31b⟩) hSd ?_
            case h31b => (rintro w9 ⟨_, ⟨e1, e2, _⟩, _⟩; go_simp; try with_reducible rfl)
            refine wpAnyH_take (i := 32) (v := .bool false) rfl (by kernel_rfl) (by kernel_rfl) (by kernel_rfl) (fun _ _ _ h => h) (Or.inl ⟨by kernel_rfl, ?h32b⟩) hSd ?_
            case h32b => (rintro w9 ⟨_, ⟨e1, e2, _⟩, _⟩; go_simp; try with_reducible rfl)
            refine wpAnyH_take (i := 33) (v := .bool false) rfl (by kernel_rfl) (by kernel_rfl) (by kernel_rfl) (fun _ _ _ h => h) (Or.inl ⟨by kernel_rfl, ?h33b⟩) hSd ?_
            case h33b => (rintro w9 ⟨_, ⟨e1, e2, _⟩, _⟩; go_simp; try with_reducible rfl)
            refine wpAnyH_take (i := 34) (v := ?v34b) rfl (by kernel_rfl) (by kernel_rfl) (by kernel_rfl) (fun _ _ _ h => h) (Or.inl ⟨by kernel_rfl, ?h34b⟩) hSd ?_
            case h34b => (rintro w9 ⟨_, ⟨e1, e2, _⟩, _⟩; go_simp; try with_reducible rfl)
            refine wpAnyH_take (i := 35) (v := ?v35b) rfl (by kernel_rfl) (by kernel_rfl) (by kernel_rfl) (fun _ _ _ h => h) (Or.inl ⟨by kernel_rfl, ?h35b⟩) hSd ?_
            case h35b => (rintro w9 ⟨_, ⟨e1, e2, _⟩, _⟩; go_simp; try with_reducible rfl)
            refine wpAnyH_take (i := 36) (v := .bool is) rfl (by kernel_rfl) (by kernel_rfl) (by kernel_rfl) (fun _ _ _ h => h) (Or.inl ⟨by kernel_rfl, ?h36b⟩) hSd ?_
            case h36b => (rintro w9 ⟨_, ⟨e1, e2, _⟩, _⟩; go_simp; try with_reducible rfl)
            refine wpAnyH_take (i := 37) (v := .bool false) rfl (by kernel_rfl) (by kernel_rfl) (by kernel_rfl) (fun _ _ _ h => h) (Or.inl ⟨by kernel_rfl, ?h37b⟩) hSd ?_
            case h37b => (rintro w9 ⟨_, ⟨e1, e2, _⟩, _⟩; go_simp; try with_reducible rfl)
            refine wpAnyH_take (i := 38) (v := .bool false) rfl (by kernel_rfl) (by kernel_rfl) (by kernel_rfl) (fun _ _ _ h => h) (Or.inl ⟨by kernel_rfl, ?h38b⟩) hSd ?_
            case h38b => (rintro w9 ⟨_, ⟨e1, e2, _⟩, _⟩; go_simp; try with_reducible rfl)
            refine wpAnyH_done (by kernel_rfl) ?_ _
            go_simp
            have hdS := hSd
            have HBW5 := Lib.hid (HBW4.out.trans (hSd.1.mono (Nat.le_trans hz1 HV4.out.size)))
            obtain ⟨t0, t1, _⟩ := (HT4.out.below hSd.1).below ((Below.refl _ _).drew)
            simp only at t0 t1
            obtain ⟨A2, c2, hv2, hc2, hI2⟩ := (HI.out.below (HV4.out.trans (hSd.1.mono HV4.out.size))).below ((Below.refl _ _).drew)
            obtain ⟨rfl, _, rfl⟩ := Value.slice.inj hv2
            obtain ⟨ad, rfl, m0, m1⟩ := hI2 k (o1, o2) ho
            simp only at m0 m1
            have hk9 : (↑M.length : Int) ≤ ↑c9 := by omega
            have heo : ∀ w, (binOp .eql 25 (.agg #[.int .i64 o1, .int .i64 o2]) (.agg #[.int .i64 o1, .int .i64 o2])).run Try.prog w = .ok (.bool true) w := fun w => by rw [id_eq o1 o2 o1 o2 w]; simp
            have h2 := H2.out
            clear hS hSa hSb hSc hSd hdS HS
            go_wp2_with fail
            rcases h2 with h2 | h2
            · obtain ⟨kk, h1, h2⟩ := h2
              injection h1 with h1 h1'
              subst h1 h1' h2
              refine wp_region_held_drew (S := fun W => W = u.drew) (by kernel_rfl) rfl (fun hS9 => ?_)
              refine wpAnyH_take (i := 0) (v := .bool true) rfl (by kernel_rfl) (by kernel_rfl) (by kernel_rfl) (fun _ _ _ h => h) (Or.inl ⟨by kernel_rfl, ?h0bx⟩) hS9 ?_
              case h0bx => (rintro w9 rfl; go_simp; try with_reducible rfl)
              refine wpAnyH_take (i := 1) (v := .bool true) rfl (by kernel_rfl) (by kernel_rfl) (by kernel_rfl) (fun _ _ _ h => h) (Or.inl ⟨by kernel_rfl, ?h1bx⟩) hS9 ?_
              case h1bx => (rintro w9 rfl; go_simp; try with_reducible rfl)
              refine wpAnyH_take (i := 2) (v := ?v2bx) rfl (by kernel_rfl) (by kernel_rfl) (by kernel_rfl) (fun _ _ _ h => h) (Or.inl ⟨by kernel_rfl, ?h2bx⟩) hS9 ?_
              case h2bx => (rintro w9 rfl; go_simp; try with_reducible rfl)
              refine wpAnyH_take (i := 3) (v := ?v3bx) rfl (by kernel_rfl) (by kernel_rfl) (by kernel_rfl) (fun _ _ _ h => h) (Or.inl ⟨by kernel_rfl, ?h3bx⟩) hS9 ?_
              case h3bx => (rintro w9 rfl; go_simp; try with_reducible rfl)
              refine wpAnyH_take (i := 4) (v := ?v4bx) rfl (by kernel_rfl) (by kernel_rfl) (by kernel_rfl) (fun _ _ _ h => h) (Or.inl ⟨by kernel_rfl, ?h4bx⟩) hS9 ?_
              case h4bx => (rintro w9 rfl; go_simp; try with_reducible rfl)
              refine wpAnyH_take (i := 5) (v := ?v5bx) rfl (by kernel_rfl) (by kernel_rfl) (by kernel_rfl) (fun _ _ _ h => h) (Or.inl ⟨by kernel_rfl, ?h5bx⟩) hS9 ?_
              case h5bx => (rintro w9 rfl; go_simp; try with_reducible rfl)
              refine wpAnyH_take (i := 6) (v := ?v6bx) rfl (by kernel_rfl) (by kernel_rfl) (by kernel_rfl) (fun _ _ _ h => h) (Or.inl ⟨by kernel_rfl, ?h6bx⟩) hS9 ?_
              case h6bx => (rintro w9 rfl; go_simp; try with_reducible rfl)
              refine wpAnyH_take (i := 7) (v := .bool true) rfl (by kernel_rfl) (by kernel_rfl) (by kernel_rfl) (fun _ _ _ h => h) (Or.inl ⟨by kernel_rfl, ?h7bx⟩) hS9 ?_
              case h7bx => (rintro w9 rfl; go_simp; try with_reducible rfl)
              refine wpAnyH_take (i := 8) (v := .bool true) rfl (by kernel_rfl) (by kernel_rfl) (by kernel_rfl) (fun _ _ _ h => h) (Or.inl ⟨by kernel_rfl, ?h8bx⟩) hS9 ?_
              case h8bx => (rintro w9 rfl; go_simp; try with_reducible rfl)
              refine wpAnyH_take (i := 9) (v := .bool true) rfl (by kernel_rfl) (by kernel_rfl) (by kernel_rfl) (fun _ _ _ h => h) (Or.inl ⟨by kernel_rfl, ?h9bx⟩) hS9 ?_
              case h9bx => (rintro w9 rfl; go_simp; try with_reducible rfl)
              refine wpAnyH_take (i := 10) (v := undef) rfl (by kernel_rfl) (by kernel_rfl) (by kernel_rfl) (fun _ _ _ h => h) (Or.inr ⟨by kernel_rfl, rfl⟩) hS9 ?_
              refine wpAnyH_take (i := 11) (v := undef) rfl (by kernel_rfl) (by kernel_rfl) (by kernel_rfl) (fun _ _ _ h => h) (Or.inr ⟨by kernel_rfl, rfl⟩) hS9 ?_
              refine wpAnyH_take (i := 12) (v := undef) rfl (by kernel_rfl) (by kernel_rfl) (by kernel_rfl) (fun _ _ _ h => h) (Or.inr ⟨by kernel_rfl, rfl⟩) hS9 ?_
              refine wpAnyH_take (i := 13) (v := undef) rfl (by kernel_rfl) (by kernel_rfl) (by kernel_rfl) (fun _ _ _ h => h) (Or.inr ⟨by kernel_rfl, rfl⟩) hS9 ?_
              refine wpAnyH_take (i := 14) (v := undef) rfl (by kernel_rfl) (by kernel_rfl) (by kernel_rfl) (fun _ _ _ h => h) (Or.inr ⟨by kernel_rfl, rfl⟩) hS9 ?_
              refine wpAnyH_take (i := 15) (v := undef) rfl (by kernel_rfl) (by kernel_rfl) (by kernel_rfl) (fun _ _ _ h => h) (Or.inr ⟨by kernel_rfl, rfl⟩) hS9 ?_
              refine wpAnyH_take (i := 16) (v := undef) rfl (by kernel_rfl) (by kernel_rfl) (by kernel_rfl) (fun _ _ _ h => h) (Or.inr ⟨by kernel_rfl, rfl⟩) hS9 ?_
              refine wpAnyH_take (i := 17) (v := .bool true) rfl (by kernel_rfl) (by kernel_rfl) (by kernel_rfl) (fun _ _ _ h => h) (Or.inl ⟨by kernel_rfl, ?h17bx⟩) hS9 ?_
              case h17bx => (rintro w9 rfl; go_simp; try with_reducible rfl)
              refine wpAnyH_take (i := 18) (v := .bool true) rfl (by kernel_rfl) (by kernel_rfl) (by kernel_rfl) (fun _ _ _ h => h) (Or.inl ⟨by kernel_rfl, ?h18bx⟩) hS9 ?_
              case h18bx => (rintro w9 rfl; go_simp; try with_reducible rfl)
              refine wpAnyH_take (i := 19) (v := .bool true) rfl (by kernel_rfl) (by kernel_rfl) (by kernel_rfl) (fun _ _ _ h => h) (Or.inl ⟨by kernel_rfl, ?h19bx⟩) hS9 ?_
              case h19bx => (rintro w9 rfl; go_simp; try with_reducible rfl)
              refine wpAnyH_take (i := 20) (v := .bool true) rfl (by kernel_rfl) (by kernel_rfl) (by kernel_rfl) (fun _ _ _ h => h) (Or.inl ⟨by kernel_rfl, ?h20bx⟩) hS9 ?_
              case h20bx => (rintro w9 rfl; go_simp; try with_reducible rfl)
              refine wpAnyH_take (i := 21) (v := ?v21bx) rfl (by kernel_rfl) (by kernel_rfl) (by kernel_rfl) (fun _ _ _ h => h) (Or.inl ⟨by kernel_rfl, ?h21bx⟩) hS9 ?_
              case h21bx => (rintro w9 rfl; go_simp; try with_reducible rfl)
              refine wpAnyH_take (i := 22) (v := ?v22bx) rfl (by kernel_rfl) (by kernel_rfl) (by kernel_rfl) (fun _ _ _ h => h) (Or.inl ⟨by kernel_rfl, ?h22bx⟩) hS9 ?_
              case h22bx => (rintro w9 rfl; go_simp; try with_reducible rfl)
              refine wpAnyH_take (i := 23) (v := .bool true) rfl (by kernel_rfl) (by kernel_rfl) (by kernel_rfl) (fun _ _ _ h => h) (Or.inl ⟨by kernel_rfl, ?h23bx⟩) hS9 ?_
              case h23bx => (rintro w9 rfl; go_simp; try with_reducible rfl)
              refine wpAnyH_take (i := 24) (v := .bool true) rfl (by kernel_rfl) (by kernel_rfl) (by kernel_rfl) (fun _ _ _ h => h) (Or.inl ⟨by kernel_rfl, ?h24bx⟩) hS9 ?_
              case h24bx => (rintro w9 rfl; go_simp; try with_reducible rfl)
              refine wpAnyH_take (i := 25) (v := .bool true) rfl (by kernel_rfl) (by kernel_rfl) (by kernel_rfl) (fun _ _ _ h => h) (Or.inl ⟨by kernel_rfl, ?h25bx⟩) hS9 ?_
              case h25bx => (rintro w9 rfl; go_simp; try with_reducible rfl)
              refine wpAnyH_take (i := 26) (v := undef) rfl (by kernel_rfl) (by kernel_rfl) (by kernel_rfl) (fun _ _ _ h => h) (Or.inr ⟨by kernel_rfl, rfl⟩) hS9 ?_
              refine wpAnyH_take (i := 27) (v := undef) rfl (by kernel_rfl) (by kernel_rfl) (by kernel_rfl) (fun _ _ _ h => h) (Or.inr ⟨by kernel_rfl, rfl⟩) hS9 ?_
              refine wpAnyH_take (i := 28) (v := undef) rfl (by kernel_rfl) (by kernel_rfl) (by kernel_rfl) (fun _ _ _ h => h) (Or.inr ⟨by kernel_rfl, rfl⟩) hS9 ?_
              refine wpAnyH_take (i := 29) (v := undef) rfl (by kernel_rfl) (by kernel_rfl) (by kernel_rfl) (fun _ _ _ h => h) (Or.inr ⟨by kernel_rfl, rfl⟩) hS9 ?_
              refine wpAnyH_take (i := 30) (v := undef) rfl (by kernel_rfl) (by kernel_rfl) (by kernel_rfl) (fun _ _ _ h => h) (Or.inr ⟨by kernel_rfl, rfl⟩) hS9 ?_
              refine wpAnyH_take (i := 31) (v := undef) rfl (by kernel_rfl) (by kernel_rfl) (by kernel_rfl) (fun _ _ _ h => h) (Or.inr ⟨by kernel_rfl, rfl⟩) hS9 ?_
              refine wpAnyH_take (i := 32) (v := .bool true) rfl (by kernel_rfl) (by kernel_rfl) (by kernel_rfl) (fun _ _ _ h => h) (Or.inl ⟨by kernel_rfl, ?h32bx⟩) hS9 ?_
              case h32bx => (rintro w9 rfl; go_simp; try with_reducible rfl)
              refine wpAnyH_take (i := 33) (v := .bool true) rfl (by kernel_rfl) (by kernel_rfl) (by kernel_rfl) (fun _ _ _ h => h) (Or.inl ⟨by kernel_rfl, ?h33bx⟩) hS9 ?_
              case h33bx => (rintro w9 rfl; go_simp; try with_reducible rfl)
              refine wpAnyH_take (i := 34) (v := .bool true) rfl (by kernel_rfl) (by kernel_rfl) (by kernel_rfl) (fun _ _ _ h => h) (Or.inl ⟨by kernel_rfl, ?h34bx⟩) hS9 ?_
              case h34bx => (rintro w9 rfl; go_simp; try with_reducible rfl)
              refine wpAnyH_done (by kernel_rfl) ?_ _
              go_simp
              go_wp2
              go_ret
              exact ⟨rfl, HBS.out _ (HBW5.out.drew)⟩
            · obtain ⟨h1, h2⟩ := h2
              injection h1 with h1 h1'
              subst h1 h1' h2
              refine wp_region_held_drew (S := fun W => W = u.drew) (by kernel_rfl) rfl (fun hS9 => ?_)
              refine wpAnyH_take (i := 0) (v := .bool true) rfl (by kernel_rfl) (by kernel_rfl) (by kernel_rfl) (fun _ _ _ h => h) (Or.inl ⟨by kernel_rfl, ?h0by⟩) hS9 ?_
              case h0by => (rintro w9 rfl; go_simp; try with_reducible rfl)
              refine wpAnyH_take (i := 1) (v := .bool true) rfl (by kernel_rfl) (by kernel_rfl) (by kernel_rfl) (fun _ _ _ h => h) (Or.inl ⟨by kernel_rfl, ?h1by⟩) hS9 ?_
              case h1by => (rintro w9 rfl; go_simp; try with_reducible rfl)
              refine wpAnyH_take (i := 2) (v := ?v2by) rfl (by kernel_rfl) (by kernel_rfl) (by kernel_rfl) (fun _ _ _ h => h) (Or.inl ⟨by kernel_rfl, ?h2by⟩) hS9 ?_
              case h2by => (rintro w9 rfl; go_simp; try with_reducible rfl)
              refine wpAnyH_take (i := 3) (v := ?v3by) rfl (by kernel_rfl) (by kernel_rfl) (by kernel_rfl) (fun _ _ _ h => h) (Or.inl ⟨by kernel_rfl, ?h3by⟩) hS9 ?_
              case h3by => (rintro w9 rfl; go_simp; try with_reducible rfl)
              refine wpAnyH_take (i := 4) (v := ?v4by) rfl (by kernel_rfl) (by kernel_rfl) (by kernel_rfl) (fun _ _ _ h => h) (Or.inl ⟨by kernel_rfl, ?h4by⟩) hS9 ?_
              case h4by => (rintro w9 rfl; go_simp; try with_reducible rfl)
              refine wpAnyH_take (i := 5) (v := ?v5by) rfl (by kernel_rfl) (by kernel_rfl) (by kernel_rfl) (fun _ _ _ h => h) (Or.inl ⟨by kernel_rfl, ?h5by⟩) hS9 ?_
              case h5by => (rintro w9 rfl; go_simp; try with_reducible rfl)
              refine wpAnyH_take (i := 6) (v := ?v6by) rfl (by kernel_rfl) (by kernel_rfl) (by kernel_rfl) (fun _ _ _ h => h) (Or.inl ⟨by kernel_rfl, ?h6by⟩) hS9 ?_
              case h6by => (rintro w9 rfl; go_simp; try with_reducible rfl)
              refine wpAnyH_take (i := 7) (v := .bool true) rfl (by kernel_rfl) (by kernel_rfl) (by kernel_rfl) (fun _ _ _ h => h) (Or.inl ⟨by kernel_rfl, ?h7by⟩) hS9 ?_
              case h7by => (rintro w9 rfl; go_simp; try with_reducible rfl)
              refine wpAnyH_take (i := 8) (v := .bool true) rfl (by kernel_rfl) (by kernel_rfl) (by kernel_rfl) (fun _ _ _ h => h) (Or.inl ⟨by kernel_rfl, ?h8by⟩) hS9 ?_
              case h8by => (rintro w9 rfl; go_simp; try with_reducible rfl)
              refine wpAnyH_take (i := 9) (v := .bool true) rfl (by kernel_rfl) (by kernel_rfl) (by kernel_rfl) (fun _ _ _ h => h) (Or.inl ⟨by kernel_rfl, ?h9by⟩) hS9 ?_
              case h9by => (rintro w9 rfl; go_simp; try with_reducible rfl)
              refine wpAnyH_take (i := 10) (v := undef) rfl (by kernel_rfl) (by kernel_rfl) (by kernel_rfl) (fun _ _ _ h => h) (Or.inr ⟨by kernel_rfl, rfl⟩) hS9 ?_
              refine wpAnyH_take (i := 11) (v := undef) rfl (by kernel_rfl) (by kernel_rfl) (by kernel_rfl) (fun _ _ _ h => h) (Or.inr ⟨by kernel_rfl, rfl⟩) hS9 ?_
              refine wpAnyH_take (i := 12) (v := undef) rfl (by kernel_rfl) (by kernel_rfl) (by kernel_rfl) (fun _ _ _ h => h) (Or.inr ⟨by kernel_rfl, rfl⟩) hS9 ?_
              refine wpAnyH_take (i := 13) (v := undef) rfl (by kernel_rfl) (by kernel_rfl) (by kernel_rfl) (fun _ _ _ h => h) (Or.inr ⟨by kernel_rfl, rfl⟩) hS9 ?_
              refine wpAnyH_take (i := 14) (v := undef) rfl (by kernel_rfl) (by kernel_rfl) (by kernel_rfl) (fun _ _ _ h => h) (Or.inr ⟨by kernel_rfl, rfl⟩) hS9 ?_
              refine wpAnyH_take (i := 15) (v := undef) rfl (by kernel_rfl) (by kernel_rfl) (by kernel_rfl) (fun _ _ _ h => h) (Or.inr ⟨by kernel_rfl, rfl⟩) hS9 ?_
              refine wpAnyH_take (i := 16) (v := undef) rfl (by kernel_rfl) (by kernel_rfl) (by kernel_rfl) (fun _ _ _ h => h) (Or.inr ⟨by kernel_rfl, rfl⟩) hS9 ?_
              refine wpAnyH_take (i := 17) (v := .bool true) rfl (by kernel_rfl) (by kernel_rfl) (by kernel_rfl) (fun _ _ _ h => h) (Or.inl ⟨by kernel_rfl, ?h17by⟩) hS9 ?_
              case h17by => (rintro w9 rfl; go_simp; try with_reducible rfl)
              refine wpAnyH_take (i := 18) (v := .bool true) rfl (by kernel_rfl) (by kernel_rfl) (by kernel_rfl) (fun _ _ _ h => h) (Or.inl ⟨by kernel_rfl, ?h18by⟩) hS9 ?_
              case h18by => (rintro w9 rfl; go_simp; try with_reducible rfl)
              refine wpAnyH_take (i := 19) (v := .bool false) rfl (by kernel_rfl) (by kernel_rfl) (by kernel_rfl) (fun _ _ _ h => h) (Or.inl ⟨by kernel_rfl, ?h19by⟩) hS9 ?_
              case h19by => (rintro w9 rfl; go_simp; try with_reducible rfl)
              refine wpAnyH_take (i := 20) (v := .bool false) rfl (by kernel_rfl) (by kernel_rfl) (by kernel_rfl) (fun _ _ _ h => h) (Or.inl ⟨by kernel_rfl, ?h20by⟩) hS9 ?_
              case h20by => (rintro w9 rfl; go_simp; try with_reducible rfl)
              refine wpAnyH_take (i := 21) (v := undef) rfl (by kernel_rfl) (by kernel_rfl) (by kernel_rfl) (fun _ _ _ h => h) (Or.inr ⟨by kernel_rfl, rfl⟩) hS9 ?_
              refine wpAnyH_take (i := 22) (v := undef) rfl (by kernel_rfl) (by kernel_rfl) (by kernel_rfl) (fun _ _ _ h => h) (Or.inr ⟨by kernel_rfl, rfl⟩) hS9 ?_
              refine wpAnyH_take (i := 23) (v := undef) rfl (by kernel_rfl) (by kernel_rfl) (by kernel_rfl) (fun _ _ _ h => h) (Or.inr ⟨by kernel_rfl, rfl⟩) hS9 ?_
              refine wpAnyH_take (i := 24) (v := .bool false) rfl (by kernel_rfl) (by kernel_rfl) (by kernel_rfl) (fun _ _ _ h => h) (Or.inl ⟨by kernel_rfl, ?h24by⟩) hS9 ?_
              case h24by => (rintro w9 rfl; go_simp; try with_reducible rfl)
              refine wpAnyH_take (i := 25) (v := .bool false) rfl (by kernel_rfl) (by kernel_rfl) (by kernel_rfl) (fun _ _ _ h => h) (Or.inl ⟨by kernel_rfl, ?h25by⟩) hS9 ?_
              case h25by => (rintro w9 rfl; go_simp; try with_reducible rfl)
              refine wpAnyH_take (i := 26) (v := .bool false) rfl (by kernel_rfl) (by kernel_rfl) (by kernel_rfl) (fun _ _ _ h => h) (Or.inl ⟨by kernel_rfl, ?h26by⟩) hS9 ?_
              case h26by => (rintro w9 rfl; go_simp; try with_reducible rfl)
              refine wpAnyH_take (i := 27) (v := .bool true) rfl (by kernel_rfl) (by kernel_rfl) (by kernel_rfl) (fun _ _ _ h => h) (Or.inl ⟨by kernel_rfl, ?h27by⟩) hS9 ?_
              case h27by => (rintro w9 rfl; go_simp; try with_reducible rfl)
              refine wpAnyH_take (i := 28) (v := .bool true) rfl (by kernel_rfl) (by kernel_rfl) (by kernel_rfl) (fun _ _ _ h => h) (Or.inl ⟨by kernel_rfl, ?h28by⟩) hS9 ?_
              case h28by => (rintro w9 rfl; go_simp; try with_reducible rfl)
              refine wpAnyH_take (i := 29) (v := ?v29by) rfl (by kernel_rfl) (by kernel_rfl) (by kernel_rfl) (fun _ _ _ h => h) (Or.inl ⟨by kernel_rfl, ?h29by⟩) hS9 ?_
              case h29by => (rintro w9 rfl; go_simp; try with_reducible rfl)
              refine wpAnyH_take (i := 30) (v := .bool true) rfl (by kernel_rfl) (by kernel_rfl) (by kernel_rfl) (fun _ _ _ h => h) (Or.inl ⟨by kernel_rfl, ?h30by⟩) hS9 ?_
              case h30by => (rintro w9 rfl; go_simp; try with_reducible rfl)
              refine wpAnyH_take (i := 31) (v := .bool true) rfl (by kernel_rfl) (by kernel_rfl) (by kernel_rfl) (fun _ _ _ h => h) (Or.inl ⟨by kernel_rfl, ?h31by⟩) hS9 ?_
              case h31by => (rintro w9 rfl; go_simp; try with_reducible rfl)
              refine wpAnyH_take (i := 32) (v := .bool true) rfl (by kernel_rfl) (by kernel_rfl) (by kernel_rfl) (fun _ _ _ h => h) (Or.inl ⟨by kernel_rfl, ?h32by⟩) hS9 ?_
              case h32by => (rintro w9 rfl; go_simp; try with_reducible rfl)
              refine wpAnyH_take (i := 33) (v := .bool true) rfl (by kernel_rfl) (by kernel_rfl) (by kernel_rfl) (fun _ _ _ h => h) (Or.inl ⟨by kernel_rfl, ?h33by⟩) hS9 ?_
              case h33by => (rintro w9 rfl; go_simp; try with_reducible rfl)
              refine wpAnyH_take (i := 34) (v := .bool true) rfl (by kernel_rfl) (by kernel_rfl) (by kernel_rfl) (fun _ _ _ h => h) (Or.inl ⟨by kernel_rfl, ?h34by⟩) hS9 ?_
              case h34by => (rintro w9 rfl; go_simp; try with_reducible rfl)
              refine wpAnyH_done (by kernel_rfl) ?_ _
              go_simp
              go_wp2
              go_ret
              exact ⟨rfl, HBS.out _ (HBW5.out.drew)⟩
          · injection h1 with h1 h1'
            injection h1 with h1 h1''
            subst h1 h1' h1''
            have hi7 : ¬ (0 : Int) ≤ i := by omega
            refine wp_region_held_drew (S := SP B s2 w.heap.size x1 x2 L v4) (by kernel_rfl) HS.out (fun hS => ?_)
            refine wpAnyH_take (i := 0) (v := ?v0a) rfl (by kernel_rfl) (by kernel_rfl) (by kernel_rfl) (fun _ _ _ h => h) (Or.inl ⟨by kernel_rfl, ?h0a⟩) hS ?_
            case h0a => (rintro w9 ⟨_, ⟨e1, e2, _⟩, _⟩; go_simp; try with_reducible rfl)
            refine wpAnyH_take (i := 1) (v := ?v1a) rfl (by kernel_rfl) (by kernel_rfl) (by kernel_rfl) (fun _ _ _ h => h) (Or.inl ⟨by kernel_rfl, ?h1a⟩) hS ?_
            case h1a => (rintro w9 ⟨_, ⟨e1, e2, _⟩, _⟩; go_simp; try with_reducible rfl)
            refine wpAnyH_ready (rs := [2]) (by kernel_rfl) (by simp) (AllReadyH.cons rfl (fun K hK => ?_) AllReadyH.nil)
            go_simp
            obtain ⟨e1, e2, _⟩ := hS.2.1
            simp only at e1 e2
            go_wp2_with (go_at_call 18; refine (same_eq _ _ L _ hS.2.2.o hS.2.2.r (by omega)).mono ?_; rintro e u ⟨rfl, hB⟩)
            have hSa := hS.keep hB
            refine hK.out _ _ hSa (fun _ => ?_); clear hK K hB e1 e2
            refine wpAnyH_take (i := 3) (v := .bool false) rfl (by kernel_rfl) (by kernel_rfl) (by kernel_rfl) (fun _ _ _ h => h) (Or.inl ⟨by kernel_rfl, ?h3a⟩) hSa ?_
            case h3a => (rintro w9 ⟨_, ⟨e1, e2, _⟩, _⟩; go_simp; try with_reducible rfl)
            refine wpAnyH_take (i := 4) (v := .bool false) rfl (by kernel_rfl) (by kernel_rfl) (by kernel_rfl) (fun _ _ _ h => h) (Or.inl ⟨by kernel_rfl, ?h4a⟩) hSa ?_
            case h4a => (rintro w9 ⟨_, ⟨e1, e2, _⟩, _⟩; go_simp; try with_reducible rfl)
            refine wpAnyH_take (i := 5) (v := ?v5a) rfl (by kernel_rfl) (by kernel_rfl) (by kernel_rfl) (fun _ _ _ h => h) (Or.inl ⟨by kernel_rfl, ?h5a⟩) hSa ?_
            case h5a => (rintro w9 ⟨_, ⟨e1, e2, _⟩, _⟩; go_simp; try with_reducible rfl)
            refine wpAnyH_take (i := 7) (v := ?v7a) rfl (by kernel_rfl) (by kernel_rfl) (by kernel_rfl) (fun _ _ _ h => h) (Or.inl ⟨by kernel_rfl, ?h7a⟩) hSa ?_
            case h7a => (rintro w9 ⟨_, ⟨e1, e2, _⟩, _⟩; go_simp; try with_reducible rfl)
            refine wpAnyH_take (i := 8) (v := ?v8a) rfl (by kernel_rfl) (by kernel_rfl) (by kernel_rfl) (fun _ _ _ h => h) (Or.inl ⟨by kernel_rfl, ?h8a⟩) hSa ?_
            case h8a => (rintro w9 ⟨_, ⟨e1, e2, _⟩, _⟩; go_simp; try with_reducible rfl)
            refine wpAnyH_ready (rs := [6]) (by kernel_rfl) (by simp) (AllReadyH.cons rfl (fun K hK => ?_) AllReadyH.nil)
            go_simp
            obtain ⟨e1, e2, _⟩ := hSa.2.1
            simp only at e1 e2
            go_wp2_with (go_at_call 19; refine (len_any _ L _ hSa.2.2.o (by omega)).mono ?_; rw [HM.out]; rintro e u ⟨rfl, hB⟩)
            have hSb := hSa.keep hB
            refine hK.out _ _ hSb (fun _ => ?_); clear hK K hB e1 e2
            refine wpAnyH_take (i := 9) (v := .bool false) rfl (by kernel_rfl) (by kernel_rfl) (by kernel_rfl) (fun _ _ _ h => h) (Or.inl ⟨by kernel_rfl, ?h9a⟩) hSb ?_
            case h9a => (rintro w9 ⟨_, ⟨e1, e2, _⟩, _⟩; go_simp; try with_reducible rfl)
            refine wpAnyH_take (i := 10) (v := .bool false) rfl (by kernel_rfl) (by kernel_rfl) (by kernel_rfl) (fun _ _ _ h => h) (Or.inl ⟨by kernel_rfl, ?h10a⟩) hSb ?_
            case h10a => (rintro w9 ⟨_, ⟨e1, e2, _⟩, _⟩; go_simp; try with_reducible rfl)
            refine wpAnyH_take (i := 11) (v := .bool false) rfl (by kernel_rfl) (by kernel_rfl) (by kernel_rfl) (fun _ _ _ h => h) (Or.inl ⟨by kernel_rfl, ?h11a⟩) hSb ?_
            case h11a => (rintro w9 ⟨_, ⟨e1, e2, _⟩, _⟩; go_simp; try with_reducible rfl)
            refine wpAnyH_take (i := 12) (v := ?v12a) rfl (by kernel_rfl) (by kernel_rfl) (by kernel_rfl) (fun _ _ _ h => h) (Or.inl ⟨by kernel_rfl, ?h12a⟩) hSb ?_
            case h12a => (rintro w9 ⟨_, ⟨e1, e2, _⟩, _⟩; go_simp; try with_reducible rfl)
            refine wpAnyH_take (i := 13) (v := ?v13a) rfl (by kernel_rfl) (by kernel_rfl) (by kernel_rfl) (fun _ _ _ h => h) (Or.inl ⟨by kernel_rfl, ?h13a⟩) hSb ?_
            case h13a => (rintro w9 ⟨_, ⟨e1, e2, _⟩, _⟩; go_simp; try with_reducible rfl)
            refine wpAnyH_take (i := 15) (v := ?v15a) rfl (by kernel_rfl) (by kernel_rfl) (by kernel_rfl) (fun _ _ _ h => h) (Or.inl ⟨by kernel_rfl, ?h15a⟩) hSb ?_
            case h15a => (rintro w9 ⟨_, ⟨e1, e2, _⟩, _⟩; go_simp; try with_reducible rfl)
            refine wpAnyH_take (i := 16) (v := ?v16a) rfl (by kernel_rfl) (by kernel_rfl) (by kernel_rfl) (fun _ _ _ h => h) (Or.inl ⟨by kernel_rfl, ?h16a⟩) hSb ?_
            case h16a => (rintro w9 ⟨_, ⟨e1, e2, _⟩, _⟩; go_simp; try with_reducible rfl)
            refine wpAnyH_ready (rs := [14]) (by kernel_rfl) (by simp) (AllReadyH.cons rfl (fun K hK => ?_) AllReadyH.nil)
            go_simp
            obtain ⟨e1, e2, _⟩ := hSb.2.1
            simp only at e1 e2
            go_wp2_with (go_at_call 20; refine (has_is (b := hh) hSb.2.2.o.p (by omega) HH.out).mono ?_; rintro e u ⟨rfl, hB⟩)
            have hSc := hSb.keep hB
            refine hK.out _ _ hSc (fun _ => ?_); clear hK K hB e1 e2
            refine wpAnyH_ready (rs := [17]) (by kernel_rfl) (by simp) (AllReadyH.cons rfl (fun K hK => ?_) AllReadyH.nil)
            go_simp
            obtain ⟨e1, e2, _⟩ := hSc.2.1
            simp only at e1 e2
            go_wp2_with (go_at_call 21; refine (rfind_any s2 L x1 x2 _ hSc.2.2.r (by omega)).mono ?_; rw [HFD.out]; rintro e u ⟨rfl, hB⟩)
            have hSd := hSc.keep hB
            refine hK.out _ _ hSd (fun _ => ?_); clear hK K hB e1 e2
            refine wpAnyH_take (i := 18) (v := .bool hh) rfl (by kernel_rfl) (by kernel_rfl) (by kernel_rfl) (fun _ _ _ h => h) (Or.inl ⟨by kernel_rfl, ?h18a⟩) hSd ?_
            case h18a => (rintro w9 ⟨_, ⟨e1, e2, _⟩, _⟩; go_simp; try with_reducible rfl)
            refine wpAnyH_take (i := 19) (v := .bool false) rfl (by kernel_rfl) (by kernel_rfl) (by kernel_rfl) (fun _ _ _ h => h) (Or.inl ⟨by kernel_rfl, ?h19a⟩) hSd ?_
            case h19a => (rintro w9 ⟨_, ⟨e1, e2, _⟩, _⟩; go_simp; try with_reducible rfl)
            refine wpAnyH_take (i := 20) (v := .bool false) rfl (by kernel_rfl) (by kernel_rfl) (by kernel_rfl) (fun _ _ _ h => h) (Or.inl ⟨by kernel_rfl, ?h20a⟩) hSd ?_
            case h20a => (rintro w9 ⟨_, ⟨e1, e2, _⟩, _⟩; go_simp; try with_reducible rfl)
            refine wpAnyH_take (i := 21) (v := .bool false) rfl (by kernel_rfl) (by kernel_rfl) (by kernel_rfl) (fun _ _ _ h => h) (Or.inl ⟨by kernel_rfl, ?h21a⟩) hSd ?_
            case h21a => (rintro w9 ⟨_, ⟨e1, e2, _⟩, _⟩; go_simp; try with_reducible rfl)
            refine wpAnyH_take (i := 22) (v := ?v22a) rfl (by kernel_rfl) (by kernel_rfl) (by kernel_rfl) (fun _ _ _ h => h) (Or.inl ⟨by kernel_rfl, ?h22a⟩) hSd ?_
            case h22a => (rintro w9 ⟨_, ⟨e1, e2, _⟩, _⟩; go_simp; try with_reducible rfl)
            refine wpAnyH_take (i := 23) (v := ?v23a) rfl (by kernel_rfl) (by kernel_rfl) (by kernel_rfl) (fun _ _ _ h => h) (Or.inl ⟨by kernel_rfl, ?h23a⟩) hSd ?_
            case h23a => (rintro w9 ⟨_, ⟨e1, e2, _⟩, _⟩; go_simp; try with_reducible rfl)
            refine wpAnyH_take (i := 24) (v := .bool false) rfl (by kernel_rfl) (by kernel_rfl) (by kernel_rfl) (fun _ _ _ h => h) (Or.inl ⟨by kernel_rfl, ?h24a⟩) hSd ?_
            case h24a => (rintro w9 ⟨_, ⟨e1, e2, _⟩, _⟩; go_simp; try with_reducible rfl)
            refine wpAnyH_take (i := 25) (v := .bool false) rfl (by kernel_rfl) (by kernel_rfl) (by kernel_rfl) (fun _ _ _ h => h) (Or.inl ⟨by kernel_rfl, ?h25a⟩) hSd ?_
            case h25a => (rintro w9 ⟨_, ⟨e1, e2, _⟩, _⟩; go_simp; try with_reducible rfl)
            refine wpAnyH_take (i := 26) (v := undef) rfl (by kernel_rfl) (by kernel_rfl) (by kernel_rfl) (fun _ _ _ h => h) (Or.inr ⟨by kernel_rfl, rfl⟩) hSd ?_
            refine wpAnyH_take (i := 27) (v := undef) rfl (by kernel_rfl) (by kernel_rfl) (by kernel_rfl) (fun _ _ _ h => h) (Or.inr ⟨by kernel_rfl, rfl⟩) hSd ?_
            refine wpAnyH_take (i := 28) (v := undef) rfl (by kernel_rfl) (by kernel_rfl) (by kernel_rfl) (fun _ _ _ h => h) (Or.inr ⟨by kernel_rfl, rfl⟩) hSd ?_
            refine wpAnyH_take (i := 29) (v := undef) rfl (by kernel_rfl) (by kernel_rfl) (by kernel_rfl) (fun _ _ _ h => h) (Or.inr ⟨by kernel_rfl, rfl⟩) hSd ?_
            refine wpAnyH_take (i := 30) (v := .bool false) rfl (by kernel_rfl) (by kernel_rfl) (by kernel_rfl) (fun _ _ _ h => h) (Or.inl ⟨by kernel_rfl, ?h30a⟩) hSd ?_
            case h30a => (rintro w9 ⟨_, ⟨e1, e2, _⟩, _⟩; go_simp; try with_reducible rfl)
            refine wpAnyH_take (i := 31) (v := .bool false) rfl (by kernel_rfl) (by kernel_rfl) (by kernel_rfl) (fun _ _ _ h => h) (Or.inl ⟨by kernel_rfl, ?h31a⟩) hSd ?_
            case h31a => (rintro w9 ⟨_, ⟨e1, e2, _⟩, _⟩; go_simp; try with_reducible rfl)
            refine wpAnyH_take (i := 32) (v := .bool false) rfl (by kernel_rfl) (by kernel_rfl) (by kernel_rfl) (fun _ _ _ h => h) (Or.inl ⟨by kernel_rfl, ?h32a⟩) hSd ?_
            case h32a => (rintro w9 ⟨_, ⟨e1, e2, _⟩, _⟩; go_simp; try with_reducible rfl)
            refine wpAnyH_take (i := 33) (v := .bool false) rfl (by kernel_rfl) (by kernel_rfl) (by kernel_rfl) (fun _ _ _ h => h) (Or.inl ⟨by kernel_rfl, ?h33a⟩) hSd ?_
            case h33a => (rintro w9 ⟨_, ⟨e1, e2, _⟩, _⟩; go_simp; try with_reducible rfl)
            refine wpAnyH_take (i := 34) (v := ?v34a) rfl (by kernel_rfl) (by kernel_rfl) (by kernel_rfl) (fun _ _ _ h => h) (Or.inl ⟨by kernel_rfl, ?h34a⟩) hSd ?_
            case h34a => (rintro w9 ⟨_, ⟨e1, e2, _⟩, _⟩; go_simp; try with_reducible rfl)
            refine wpAnyH_take (i := 35) (v := ?v35a) rfl (by kernel_rfl) (by kernel_rfl) (by kernel_rfl) (fun _ _ _ h => h) (Or.inl ⟨by kernel_rfl, ?h35a⟩) hSd ?_
            case h35a => (rintro w9 ⟨_, ⟨e1, e2, _⟩, _⟩; go_simp; try with_reducible rfl)
            refine wpAnyH_take (i := 36) (v := .bool is) rfl (by kernel_rfl) (by kernel_rfl) (by kernel_rfl) (fun _ _ _ h => h) (Or.inl ⟨by kernel_rfl, ?h36a⟩) hSd ?_
            case h36a => (rintro w9 ⟨_, ⟨e1, e2, _⟩, _⟩; go_simp; try with_reducible rfl)
            refine wpAnyH_take (i := 37) (v := .bool false) rfl (by kernel_rfl) (by kernel_rfl) (by kernel_rfl) (fun _ _ _ h => h) (Or.inl ⟨by kernel_rfl, ?h37a⟩) hSd ?_
            case h37a => (rintro w9 ⟨_, ⟨e1, e2, _⟩, _⟩; go_simp; try with_reducible rfl)
            refine wpAnyH_take (i := 38) (v := .bool false) rfl (by kernel_rfl) (by kernel_rfl) (by kernel_rfl) (fun _ _ _ h => h) (Or.inl ⟨by kernel_rfl, ?h38a⟩) hSd ?_
            case h38a => (rintro w9 ⟨_, ⟨e1, e2, _⟩, _⟩; go_simp; try with_reducible rfl)
            refine wpAnyH_done (by kernel_rfl) ?_ _
            go_simp
            have hdS := hSd
            have HBW5 := Lib.hid (HBW4.out.trans (hSd.1.mono (Nat.le_trans hz1 HV4.out.size)))
            obtain ⟨t0, t1, _⟩ := (HT4.out.below hSd.1).below ((Below.refl _ _).drew)
            simp only at t0 t1
            have heo : ∀ w, (binOp .eql 25 (.agg #[.int .i64 0, .int .i64 0]) (.agg #[.int .i64 0, .int .i64 0])).run Try.prog w = .ok (.bool true) w := fun w => by rw [id_eq 0 0 0 0 w]; simp
            have h2 := H2.out
            clear hS hSa hSb hSc hSd hdS HS
            go_wp2_with fail
            rcases h2 with h2 | h2
            · obtain ⟨kk, h1, h2⟩ := h2
              injection h1 with h1 h1'
              subst h1 h1' h2
              refine wp_region_held_drew (S := fun W => W = u.drew) (by kernel_rfl) rfl (fun hS9 => ?_)
              refine wpAnyH_take (i := 0) (v := .bool false) rfl (by kernel_rfl) (by kernel_rfl) (by kernel_rfl) (fun _ _ _ h => h) (Or.inl ⟨by kernel_rfl, ?h0ax⟩) hS9 ?_
              case h0ax => (rintro w9 rfl; go_simp; try with_reducible rfl)
              refine wpAnyH_take (i := 1) (v := .bool false) rfl (by kernel_rfl) (by kernel_rfl) (by kernel_rfl) (fun _ _ _ h => h) (Or.inl ⟨by kernel_rfl, ?h1ax⟩) hS9 ?_
              case h1ax => (rintro w9 rfl; go_simp; try with_reducible rfl)
              refine wpAnyH_take (i := 2) (v := undef) rfl (by kernel_rfl) (by kernel_rfl) (by kernel_rfl) (fun _ _ _ h => h) (Or.inr ⟨by kernel_rfl, rfl⟩) hS9 ?_
              refine wpAnyH_take (i := 3) (v := undef) rfl (by kernel_rfl) (by kernel_rfl) (by kernel_rfl) (fun _ _ _ h => h) (Or.inr ⟨by kernel_rfl, rfl⟩) hS9 ?_
              refine wpAnyH_take (i := 4) (v := undef) rfl (by kernel_rfl) (by kernel_rfl) (by kernel_rfl) (fun _ _ _ h => h) (Or.inr ⟨by kernel_rfl, rfl⟩) hS9 ?_
              refine wpAnyH_take (i := 5) (v := undef) rfl (by kernel_rfl) (by kernel_rfl) (by kernel_rfl) (fun _ _ _ h => h) (Or.inr ⟨by kernel_rfl, rfl⟩) hS9 ?_
              refine wpAnyH_take (i := 6) (v := undef) rfl (by kernel_rfl) (by kernel_rfl) (by kernel_rfl) (fun _ _ _ h => h) (Or.inr ⟨by kernel_rfl, rfl⟩) hS9 ?_
              refine wpAnyH_take (i := 7) (v := undef) rfl (by kernel_rfl) (by kernel_rfl) (by kernel_rfl) (fun _ _ _ h => h) (Or.inr ⟨by kernel_rfl, rfl⟩) hS9 ?_
              refine wpAnyH_take (i := 8) (v := .bool false) rfl (by kernel_rfl) (by kernel_rfl) (by kernel_rfl) (fun _ _ _ h => h) (Or.inl ⟨by kernel_rfl, ?h8ax⟩) hS9 ?_
              case h8ax => (rintro w9 rfl; go_simp; try with_reducible rfl)
              refine wpAnyH_take (i := 9) (v := .bool false) rfl (by kernel_rfl) (by kernel_rfl) (by kernel_rfl) (fun _ _ _ h => h) (Or.inl ⟨by kernel_rfl, ?h9ax⟩) hS9 ?_
              case h9ax => (rintro w9 rfl; go_simp; try with_reducible rfl)
              refine wpAnyH_take (i := 10) (v := .bool false) rfl (by kernel_rfl) (by kernel_rfl) (by kernel_rfl) (fun _ _ _ h => h) (Or.inl ⟨by kernel_rfl, ?h10ax⟩) hS9 ?_
              case h10ax => (rintro w9 rfl; go_simp; try with_reducible rfl)
              refine wpAnyH_take (i := 11) (v := .bool true) rfl (by kernel_rfl) (by kernel_rfl) (by kernel_rfl) (fun _ _ _ h => h) (Or.inl ⟨by kernel_rfl, ?h11ax⟩) hS9 ?_
              case h11ax => (rintro w9 rfl; go_simp; try with_reducible rfl)
              refine wpAnyH_take (i := 12) (v := .bool true) rfl (by kernel_rfl) (by kernel_rfl) (by kernel_rfl) (fun _ _ _ h => h) (Or.inl ⟨by kernel_rfl, ?h12ax⟩) hS9 ?_
              case h12ax => (rintro w9 rfl; go_simp; try with_reducible rfl)
              refine wpAnyH_take (i := 13) (v := ?v13ax) rfl (by kernel_rfl) (by kernel_rfl) (by kernel_rfl) (fun _ _ _ h => h) (Or.inl ⟨by kernel_rfl, ?h13ax⟩) hS9 ?_
              case h13ax => (rintro w9 rfl; go_simp; try with_reducible rfl)
              refine wpAnyH_take (i := 14) (v := ?v14ax) rfl (by kernel_rfl) (by kernel_rfl) (by kernel_rfl) (fun _ _ _ h => h) (Or.inl ⟨by kernel_rfl, ?h14ax⟩) hS9 ?_
              case h14ax => (rintro w9 rfl; go_simp; try with_reducible rfl)
              refine wpAnyH_take (i := 15) (v := .bool true) rfl (by kernel_rfl) (by kernel_rfl) (by kernel_rfl) (fun _ _ _ h => h) (Or.inl ⟨by kernel_rfl, ?h15ax⟩) hS9 ?_
              case h15ax => (rintro w9 rfl; go_simp; try with_reducible rfl)
              refine wpAnyH_take (i := 16) (v := .bool true) rfl (by kernel_rfl) (by kernel_rfl) (by kernel_rfl) (fun _ _ _ h => h) (Or.inl ⟨by kernel_rfl, ?h16ax⟩) hS9 ?_
              case h16ax => (rintro w9 rfl; go_simp; try with_reducible rfl)
              refine wpAnyH_take (i := 17) (v := .bool true) rfl (by kernel_rfl) (by kernel_rfl) (by kernel_rfl) (fun _ _ _ h => h) (Or.inl ⟨by kernel_rfl, ?h17ax⟩) hS9 ?_
              case h17ax => (rintro w9 rfl; go_simp; try with_reducible rfl)
              refine wpAnyH_take (i := 18) (v := .bool true) rfl (by kernel_rfl) (by kernel_rfl) (by kernel_rfl) (fun _ _ _ h => h) (Or.inl ⟨by kernel_rfl, ?h18ax⟩) hS9 ?_
              case h18ax => (rintro w9 rfl; go_simp; try with_reducible rfl)
              refine wpAnyH_take (i := 19) (v := .bool true) rfl (by kernel_rfl) (by kernel_rfl) (by kernel_rfl) (fun _ _ _ h => h) (Or.inl ⟨by kernel_rfl, ?h19ax⟩) hS9 ?_
              case h19ax => (rintro w9 rfl; go_simp; try with_reducible rfl)
              refine wpAnyH_take (i := 20) (v := .bool true) rfl (by kernel_rfl) (by kernel_rfl) (by kernel_rfl) (fun _ _ _ h => h) (Or.inl ⟨by kernel_rfl, ?h20ax⟩) hS9 ?_
              case h20ax => (rintro w9 rfl; go_simp; try with_reducible rfl)
              refine wpAnyH_take (i := 21) (v := ?v21ax) rfl (by kernel_rfl) (by kernel_rfl) (by kernel_rfl) (fun _ _ _ h => h) (Or.inl ⟨by kernel_rfl, ?h21ax⟩) hS9 ?_
              case h21ax => (rintro w9 rfl; go_simp; try with_reducible rfl)
              refine wpAnyH_take (i := 22) (v := ?v22ax) rfl (by kernel_rfl) (by kernel_rfl) (by kernel_rfl) (fun _ _ _ h => h) (Or.inl ⟨by kernel_rfl, ?h22ax⟩) hS9 ?_
              case h22ax => (rintro w9 rfl; go_simp; try with_reducible rfl)
              refine wpAnyH_take (i := 23) (v := .bool true) rfl (by kernel_rfl) (by kernel_rfl) (by kernel_rfl) (fun _ _ _ h => h) (Or.inl ⟨by kernel_rfl, ?h23ax⟩) hS9 ?_
              case h23ax => (rintro w9 rfl; go_simp; try with_reducible rfl)
              refine wpAnyH_take (i := 24) (v := .bool true) rfl (by kernel_rfl) (by kernel_rfl) (by kernel_rfl) (fun _ _ _ h => h) (Or.inl ⟨by kernel_rfl, ?h24ax⟩) hS9 ?_
              case h24ax => (rintro w9 rfl; go_simp; try with_reducible rfl)
              refine wpAnyH_take (i := 25) (v := .bool true) rfl (by kernel_rfl) (by kernel_rfl) (by kernel_rfl) (fun _ _ _ h => h) (Or.inl ⟨by kernel_rfl, ?h25ax⟩) hS9 ?_
              case h25ax => (rintro w9 rfl; go_simp; try with_reducible rfl)
              refine wpAnyH_take (i := 26) (v := undef) rfl (by kernel_rfl) (by kernel_rfl) (by kernel_rfl) (fun _ _ _ h => h) (Or.inr ⟨by kernel_rfl, rfl⟩) hS9 ?_
              refine wpAnyH_take (i := 27) (v := undef) rfl (by kernel_rfl) (by kernel_rfl) (by kernel_rfl) (fun _ _ _ h => h) (Or.inr ⟨by kernel_rfl, rfl⟩) hS9 ?_
              refine wpAnyH_take (i := 28) (v := undef) rfl (by kernel_rfl) (by kernel_rfl) (by kernel_rfl) (fun _ _ _ h => h) (Or.inr ⟨by kernel_rfl, rfl⟩) hS9 ?_
              refine wpAnyH_take (i := 29) (v := undef) rfl (by kernel_rfl) (by kernel_rfl) (by kernel_rfl) (fun _ _ _ h => h) (Or.inr ⟨by kernel_rfl, rfl⟩) hS9 ?_
              refine wpAnyH_take (i := 30) (v := undef) rfl (by kernel_rfl) (by kernel_rfl) (by kernel_rfl) (fun _ _ _ h => h) (Or.inr ⟨by kernel_rfl, rfl⟩) hS9 ?_
              refine wpAnyH_take (i := 31) (v := undef) rfl (by kernel_rfl) (by kernel_rfl) (by kernel_rfl) (fun _ _ _ h => h) (Or.inr ⟨by kernel_rfl, rfl⟩) hS9 ?_
              refine wpAnyH_take (i := 32) (v := .bool true) rfl (by kernel_rfl) (by kernel_rfl) (by kernel_rfl) (fun _ _ _ h => h) (Or.inl ⟨by kernel_rfl, ?h32ax⟩) hS9 ?_
              case h32ax => (rintro w9 rfl; go_simp; try with_reducible rfl)
              refine wpAnyH_take (i := 33) (v := .bool true) rfl (by kernel_rfl) (by kernel_rfl) (by kernel_rfl) (fun _ _ _ h => h) (Or.inl ⟨by kernel_rfl, ?h33ax⟩) hS9 ?_
              case h33ax => (rintro w9 rfl; go_simp; try with_reducible rfl)
              refine wpAnyH_take (i := 34) (v := .bool true) rfl (by kernel_rfl) (by kernel_rfl) (by kernel_rfl) (fun _ _ _ h => h) (Or.inl ⟨by kernel_rfl, ?h34ax⟩) hS9 ?_
              case h34ax => (rintro w9 rfl; go_simp; try with_reducible rfl)
              refine wpAnyH_done (by kernel_rfl) ?_ _
              go_simp
              go_wp2
              go_ret
              exact ⟨rfl, HBS.out _ (HBW5.out.drew)⟩
            · obtain ⟨h1, h2⟩ := h2
              injection h1 with h1 h1'
              subst h1 h1' h2
              refine wp_region_held_drew (S := fun W => W = u.drew) (by kernel_rfl) rfl (fun hS9 => ?_)
              refine wpAnyH_take (i := 0) (v := .bool false) rfl (by kernel_rfl) (by kernel_rfl) (by kernel_rfl) (fun _ _ _ h => h) (Or.inl ⟨by kernel_rfl, ?h0ay⟩) hS9 ?_
              case h0ay => (rintro w9 rfl; go_simp; try with_reducible rfl)
              refine wpAnyH_take (i := 1) (v := .bool false) rfl (by kernel_rfl) (by kernel_rfl) (by kernel_rfl) (fun _ _ _ h => h) (Or.inl ⟨by kernel_rfl, ?h1ay⟩) hS9 ?_
              case h1ay => (rintro w9 rfl; go_simp; try with_reducible rfl)
              refine wpAnyH_take (i := 2) (v := undef) rfl (by kernel_rfl) (by kernel_rfl) (by kernel_rfl) (fun _ _ _ h => h) (Or.inr ⟨by kernel_rfl, rfl⟩) hS9 ?_
              refine wpAnyH_take (i := 3) (v := undef) rfl (by kernel_rfl) (by kernel_rfl) (by kernel_rfl) (fun _ _ _ h => h) (Or.inr ⟨by kernel_rfl, rfl⟩) hS9 ?_
              refine wpAnyH_take (i := 4) (v := undef) rfl (by kernel_rfl) (by kernel_rfl) (by kernel_rfl) (fun _ _ _ h => h) (Or.inr ⟨by kernel_rfl, rfl⟩) hS9 ?_
              refine wpAnyH_take (i := 5) (v := undef) rfl (by kernel_rfl) (by kernel_rfl) (by kernel_rfl) (fun _ _ _ h => h) (Or.inr ⟨by kernel_rfl, rfl⟩) hS9 ?_
              refine wpAnyH_take (i := 6) (v := undef) rfl (by kernel_rfl) (by kernel_rfl) (by kernel_rfl) (fun _ _ _ h => h) (Or.inr ⟨by kernel_rfl, rfl⟩) hS9 ?_
              refine wpAnyH_take (i := 7) (v := undef) rfl (by kernel_rfl) (by kernel_rfl) (by kernel_rfl) (fun _ _ _ h => h) (Or.inr ⟨by kernel_rfl, rfl⟩) hS9 ?_
              refine wpAnyH_take (i := 8) (v := .bool false) rfl (by kernel_rfl) (by kernel_rfl) (by kernel_rfl) (fun _ _ _ h => h) (Or.inl ⟨by kernel_rfl, ?h8ay⟩) hS9 ?_
              case h8ay => (rintro w9 rfl; go_simp; try with_reducible rfl)
              refine wpAnyH_take (i := 9) (v := .bool false) rfl (by kernel_rfl) (by kernel_rfl) (by kernel_rfl) (fun _ _ _ h => h) (Or.inl ⟨by kernel_rfl, ?h9ay⟩) hS9 ?_
              case h9ay => (rintro w9 rfl; go_simp; try with_reducible rfl)
              refine wpAnyH_take (i := 10) (v := .bool false) rfl (by kernel_rfl) (by kernel_rfl) (by kernel_rfl) (fun _ _ _ h => h) (Or.inl ⟨by kernel_rfl, ?h10ay⟩) hS9 ?_
              case h10ay => (rintro w9 rfl; go_simp; try with_reducible rfl)
              refine wpAnyH_take (i := 11) (v := .bool true) rfl (by kernel_rfl) (by kernel_rfl) (by kernel_rfl) (fun _ _ _ h => h) (Or.inl ⟨by kernel_rfl, ?h11ay⟩) hS9 ?_
              case h11ay => (rintro w9 rfl; go_simp; try with_reducible rfl)
              refine wpAnyH_take (i := 12) (v := .bool true) rfl (by kernel_rfl) (by kernel_rfl) (by kernel_rfl) (fun _ _ _ h => h) (Or.inl ⟨by kernel_rfl, ?h12ay⟩) hS9 ?_
              case h12ay => (rintro w9 rfl; go_simp; try with_reducible rfl)
              refine wpAnyH_take (i := 13) (v := ?v13ay) rfl (by kernel_rfl) (by kernel_rfl) (by kernel_rfl) (fun _ _ _ h => h) (Or.inl ⟨by kernel_rfl, ?h13ay⟩) hS9 ?_
              case h13ay => (rintro w9 rfl; go_simp; try with_reducible rfl)
              refine wpAnyH_take (i := 14) (v := ?v14ay) rfl (by kernel_rfl) (by kernel_rfl) (by kernel_rfl) (fun _ _ _ h => h) (Or.inl ⟨by kernel_rfl, ?h14ay⟩) hS9 ?_
              case h14ay => (rintro w9 rfl; go_simp; try with_reducible rfl)
              refine wpAnyH_take (i := 15) (v := .bool true) rfl (by kernel_rfl) (by kernel_rfl) (by kernel_rfl) (fun _ _ _ h => h) (Or.inl ⟨by kernel_rfl, ?h15ay⟩) hS9 ?_
              case h15ay => (rintro w9 rfl; go_simp; try with_reducible rfl)
              refine wpAnyH_take (i := 16) (v := .bool true) rfl (by kernel_rfl) (by kernel_rfl) (by kernel_rfl) (fun _ _ _ h => h) (Or.inl ⟨by kernel_rfl, ?h16ay⟩) hS9 ?_
              case h16ay => (rintro w9 rfl; go_simp; try with_reducible rfl)
              refine wpAnyH_take (i := 17) (v := .bool true) rfl (by kernel_rfl) (by kernel_rfl) (by kernel_rfl) (fun _ _ _ h => h) (Or.inl ⟨by kernel_rfl, ?h17ay⟩) hS9 ?_
              case h17ay => (rintro w9 rfl; go_simp; try with_reducible rfl)
              refine wpAnyH_take (i := 18) (v := .bool true) rfl (by kernel_rfl) (by kernel_rfl) (by kernel_rfl) (fun _ _ _ h => h) (Or.inl ⟨by kernel_rfl, ?h18ay⟩) hS9 ?_
              case h18ay => (rintro w9 rfl; go_simp; try with_reducible rfl)
              refine wpAnyH_take (i := 19) (v := .bool false) rfl (by kernel_rfl) (by kernel_rfl) (by kernel_rfl) (fun _ _ _ h => h) (Or.inl ⟨by kernel_rfl, ?h19ay⟩) hS9 ?_
              case h19ay => (rintro w9 rfl; go_simp; try with_reducible rfl)
              refine wpAnyH_take (i := 20) (v := .bool false) rfl (by kernel_rfl) (by kernel_rfl) (by kernel_rfl) (fun _ _ _ h => h) (Or.inl ⟨by kernel_rfl, ?h20ay⟩) hS9 ?_
              case h20ay => (rintro w9 rfl; go_simp; try with_reducible rfl)
              refine wpAnyH_take (i := 21) (v := undef) rfl (by kernel_rfl) (by kernel_rfl) (by kernel_rfl) (fun _ _ _ h => h) (Or.inr ⟨by kernel_rfl, rfl⟩) hS9 ?_
              refine wpAnyH_take (i := 22) (v := undef) rfl (by kernel_rfl) (by kernel_rfl) (by kernel_rfl) (fun _ _ _ h => h) (Or.inr ⟨by kernel_rfl, rfl⟩) hS9 ?_
              refine wpAnyH_take (i := 23) (v := undef) rfl (by kernel_rfl) (by kernel_rfl) (by kernel_rfl) (fun _ _ _ h => h) (Or.inr ⟨by kernel_rfl, rfl⟩) hS9 ?_
              refine wpAnyH_take (i := 24) (v := .bool false) rfl (by kernel_rfl) (by kernel_rfl) (by kernel_rfl) (fun _ _ _ h => h) (Or.inl ⟨by kernel_rfl, ?h24ay⟩) hS9 ?_
              case h24ay => (rintro w9 rfl; go_simp; try with_reducible rfl)
              refine wpAnyH_take (i := 25) (v := .bool false) rfl (by kernel_rfl) (by kernel_rfl) (by kernel_rfl) (fun _ _ _ h => h) (Or.inl ⟨by kernel_rfl, ?h25ay⟩) hS9 ?_
              case h25ay => (rintro w9 rfl; go_simp; try with_reducible rfl)
              refine wpAnyH_take (i := 26) (v := .bool false) rfl (by kernel_rfl) (by kernel_rfl) (by kernel_rfl) (fun _ _ _ h => h) (Or.inl ⟨by kernel_rfl, ?h26ay⟩) hS9 ?_
              case h26ay => (rintro w9 rfl; go_simp; try with_reducible rfl)
              refine wpAnyH_take (i := 27) (v := .bool true) rfl (by kernel_rfl) (by kernel_rfl) (by kernel_rfl) (fun _ _ _ h => h) (Or.inl ⟨by kernel_rfl, ?h27ay⟩) hS9 ?_
              case h27ay => (rintro w9 rfl; go_simp; try with_reducible rfl)
              refine wpAnyH_take (i := 28) (v := .bool true) rfl (by kernel_rfl) (by kernel_rfl) (by kernel_rfl) (fun _ _ _ h => h) (Or.inl ⟨by kernel_rfl, ?h28ay⟩) hS9 ?_
              case h28ay => (rintro w9 rfl; go_simp; try with_reducible rfl)
              refine wpAnyH_take (i := 29) (v := ?v29ay) rfl (by kernel_rfl) (by kernel_rfl) (by kernel_rfl) (fun _ _ _ h => h) (Or.inl ⟨by kernel_rfl, ?h29ay⟩) hS9 ?_
              case h29ay => (rintro w9 rfl; go_simp; try with_reducible rfl)
              refine wpAnyH_take (i := 30) (v := .bool true) rfl (by kernel_rfl) (by kernel_rfl) (by kernel_rfl) (fun _ _ _ h => h) (Or.inl ⟨by kernel_rfl, ?h30ay⟩) hS9 ?_
              case h30ay => (rintro w9 rfl; go_simp; try with_reducible rfl)
              refine wpAnyH_take (i := 31) (v := .bool true) rfl (by kernel_rfl) (by kernel_rfl) (by kernel_rfl) (fun _ _ _ h => h) (Or.inl ⟨by kernel_rfl, ?h31ay⟩) hS9 ?_
              case h31ay => (rintro w9 rfl; go_simp; try with_reducible rfl)
              refine wpAnyH_take (i := 32) (v := .bool true) rfl (by kernel_rfl) (by kernel_rfl) (by kernel_rfl) (fun _ _ _ h => h) (Or.inl ⟨by kernel_rfl, ?h32ay⟩) hS9 ?_
              case h32ay => (rintro w9 rfl; go_simp; try with_reducible rfl)
              refine wpAnyH_take (i := 33) (v := .bool true) rfl (by kernel_rfl) (by kernel_rfl) (by kernel_rfl) (fun _ _ _ h => h) (Or.inl ⟨by kernel_rfl, ?h33ay⟩) hS9 ?_
              case h33ay => (rintro w9 rfl; go_simp; try with_reducible rfl)
              refine wpAnyH_take (i := 34) (v := .bool true) rfl (by kernel_rfl) (by kernel_rfl) (by kernel_rfl) (fun _ _ _ h => h) (Or.inl ⟨by kernel_rfl, ?h34ay⟩) hS9 ?_
              case h34ay => (rintro w9 rfl; go_simp; try with_reducible rfl)
              refine wpAnyH_done (by kernel_rfl) ?_ _
              go_simp
              go_wp2
              go_ret
              exact ⟨rfl, HBS.out _ (HBW5.out.drew)⟩
          · injection h1 with h1 h1'
            injection h1 with h1 h1''
            subst h1 h1' h1''
            have hi7 : ¬ i < (↑M.length : Int) := by omega
            refine wp_region_held_drew (S := SP B s2 w.heap.size x1 x2 L v4) (by kernel_rfl) HS.out (fun hS => ?_)
            refine wpAnyH_take (i := 0) (v := ?v0c) rfl (by kernel_rfl) (by kernel_rfl) (by kernel_rfl) (fun _ _ _ h => h) (Or.inl ⟨by kernel_rfl, ?h0c⟩) hS ?_
            case h0c => (rintro w9 ⟨_, ⟨e1, e2, _⟩, _⟩; go_simp; try with_reducible rfl)
            refine wpAnyH_take (i := 1) (v := ?v1c) rfl (by kernel_rfl) (by kernel_rfl) (by kernel_rfl) (fun _ _ _ h => h) (Or.inl ⟨by kernel_rfl, ?h1c⟩) hS ?_
            case h1c => (rintro w9 ⟨_, ⟨e1, e2, _⟩, _⟩; go_simp; try with_reducible rfl)
            refine wpAnyH_ready (rs := [2]) (by kernel_rfl) (by simp) (AllReadyH.cons rfl (fun K hK => ?_) AllReadyH.nil)
            go_simp
            obtain ⟨e1, e2, _⟩ := hS.2.1
            simp only at e1 e2
            go_wp2_with (go_at_call 18; refine (same_eq _ _ L _ hS.2.2.o hS.2.2.r (by omega)).mono ?_; rintro e u ⟨rfl, hB⟩)
            have hSa := hS.keep hB
            refine hK.out _ _ hSa (fun _ => ?_); clear hK K hB e1 e2
            refine wpAnyH_take (i := 3) (v := .bool false) rfl (by kernel_rfl) (by kernel_rfl) (by kernel_rfl) (fun _ _ _ h => h) (Or.inl ⟨by kernel_rfl, ?h3c⟩) hSa ?_
            case h3c => (rintro w9 ⟨_, ⟨e1, e2, _⟩, _⟩; go_simp; try with_reducible rfl)
            refine wpAnyH_take (i := 4) (v := .bool false) rfl (by kernel_rfl) (by kernel_rfl) (by kernel_rfl) (fun _ _ _ h => h) (Or.inl ⟨by kernel_rfl, ?h4c⟩) hSa ?_
            case h4c => (rintro w9 ⟨_, ⟨e1, e2, _⟩, _⟩; go_simp; try with_reducible rfl)
            refine wpAnyH_take (i := 5) (v := ?v5c) rfl (by kernel_rfl) (by kernel_rfl) (by kernel_rfl) (fun _ _ _ h => h) (Or.inl ⟨by kernel_rfl, ?h5c⟩) hSa ?_
            case h5c => (rintro w9 ⟨_, ⟨e1, e2, _⟩, _⟩; go_simp; try with_reducible rfl)
            refine wpAnyH_take (i := 7) (v := ?v7c) rfl (by kernel_rfl) (by kernel_rfl) (by kernel_rfl) (fun _ _ _ h => h) (Or.inl ⟨by kernel_rfl, ?h7c⟩) hSa ?_
            case h7c => (rintro w9 ⟨_, ⟨e1, e2, _⟩, _⟩; go_simp; try with_reducible rfl)
            refine wpAnyH_take (i := 8) (v := ?v8c) rfl (by kernel_rfl) (by kernel_rfl) (by kernel_rfl) (fun _ _ _ h => h) (Or.inl ⟨by kernel_rfl, ?h8c⟩) hSa ?_
            case h8c => (rintro w9 ⟨_, ⟨e1, e2, _⟩, _⟩; go_simp; try with_reducible rfl)
            refine wpAnyH_ready (rs := [6]) (by kernel_rfl) (by simp) (AllReadyH.cons rfl (fun K hK => ?_) AllReadyH.nil)
            go_simp
            obtain ⟨e1, e2, _⟩ := hSa.2.1
            simp only at e1 e2
            go_wp2_with (go_at_call 19; refine (len_any _ L _ hSa.2.2.o (by omega)).mono ?_; rw [HM.out]; rintro e u ⟨rfl, hB⟩)
            have hSb := hSa.keep hB
            refine hK.out _ _ hSb (fun _ => ?_); clear hK K hB e1 e2
            refine wpAnyH_take (i := 9) (v := .bool false) rfl (by kernel_rfl) (by kernel_rfl) (by kernel_rfl) (fun _ _ _ h => h) (Or.inl ⟨by kernel_rfl, ?h9c⟩) hSb ?_
            case h9c => (rintro w9 ⟨_, ⟨e1, e2, _⟩, _⟩; go_simp; try with_reducible rfl)
            refine wpAnyH_take (i := 10) (v := .bool false) rfl (by kernel_rfl) (by kernel_rfl) (by kernel_rfl) (fun _ _ _ h => h) (Or.inl ⟨by kernel_rfl, ?h10c⟩) hSb ?_
            case h10c => (rintro w9 ⟨_, ⟨e1, e2, _⟩, _⟩; go_simp; try with_reducible rfl)
            refine wpAnyH_take (i := 11) (v := .bool false) rfl (by kernel_rfl) (by kernel_rfl) (by kernel_rfl) (fun _ _ _ h => h) (Or.inl ⟨by kernel_rfl, ?h11c⟩) hSb ?_
            case h11c => (rintro w9 ⟨_, ⟨e1, e2, _⟩, _⟩; go_simp; try with_reducible rfl)
            refine wpAnyH_take (i := 12) (v := ?v12c) rfl (by kernel_rfl) (by kernel_rfl) (by kernel_rfl) (fun _ _ _ h => h) (Or.inl ⟨by kernel_rfl, ?h12c⟩) hSb ?_
            case h12c => (rintro w9 ⟨_, ⟨e1, e2, _⟩, _⟩; go_simp; try with_reducible rfl)
            refine wpAnyH_take (i := 13) (v := ?v13c) rfl (by kernel_rfl) (by kernel_rfl) (by kernel_rfl) (fun _ _ _ h => h) (Or.inl ⟨by kernel_rfl, ?h13c⟩) hSb ?_
            case h13c => (rintro w9 ⟨_, ⟨e1, e2, _⟩, _⟩; go_simp; try with_reducible rfl)
            refine wpAnyH_take (i := 15) (v := ?v15c) rfl (by kernel_rfl) (by kernel_rfl) (by kernel_rfl) (fun _ _ _ h => h) (Or.inl ⟨by kernel_rfl, ?h15c⟩) hSb ?_
            case h15c => (rintro w9 ⟨_, ⟨e1, e2, _⟩, _⟩; go_simp; try with_reducible rfl)
            refine wpAnyH_take (i := 16) (v := ?v16c) rfl (by kernel_rfl) (by kernel_rfl) (by kernel_rfl) (fun _ _ _ h => h) (Or.inl ⟨by kernel_rfl, ?h16c⟩) hSb ?_
            case h16c => (rintro w9 ⟨_, ⟨e1, e2, _⟩, _⟩; go_simp; try with_reducible rfl)
            refine wpAnyH_ready (rs := [14]) (by kernel_rfl) (by simp) (AllReadyH.cons rfl (fun K hK => ?_) AllReadyH.nil)
            go_simp
            obtain ⟨e1, e2, _⟩ := hSb.2.1
            simp only at e1 e2
            go_wp2_with (go_at_call 20; refine (has_is (b := hh) hSb.2.2.o.p (by omega) HH.out).mono ?_; rintro e u ⟨rfl, hB⟩)
            have hSc := hSb.keep hB
            refine hK.out _ _ hSc (fun _ => ?_); clear hK K hB e1 e2
            refine wpAnyH_ready (rs := [17]) (by kernel_rfl) (by simp) (AllReadyH.cons rfl (fun K hK => ?_) AllReadyH.nil)
            go_simp
            obtain ⟨e1, e2, _⟩ := hSc.2.1
            simp only at e1 e2
            go_wp2_with (go_at_call 21; refine (rfind_any s2 L x1 x2 _ hSc.2.2.r (by omega)).mono ?_; rw [HFD.out]; rintro e u ⟨rfl, hB⟩)
            have hSd := hSc.keep hB
            refine hK.out _ _ hSd (fun _ => ?_); clear hK K hB e1 e2
            refine wpAnyH_take (i := 18) (v := .bool hh) rfl (by kernel_rfl) (by kernel_rfl) (by kernel_rfl) (fun _ _ _ h => h) (Or.inl ⟨by kernel_rfl, ?h18c⟩) hSd ?_
            case h18c => (rintro w9 ⟨_, ⟨e1, e2, _⟩, _⟩; go_simp; try with_reducible rfl)
            refine wpAnyH_take (i := 19) (v := .bool false) rfl (by kernel_rfl) (by kernel_rfl) (by kernel_rfl) (fun _ _ _ h => h) (Or.inl ⟨by kernel_rfl, ?h19c⟩) hSd ?_
            case h19c => (rintro w9 ⟨_, ⟨e1, e2, _⟩, _⟩; go_simp; try with_reducible rfl)
            refine wpAnyH_take (i := 20) (v := .bool false) rfl (by kernel_rfl) (by kernel_rfl) (by kernel_rfl) (fun _ _ _ h => h) (Or.inl ⟨by kernel_rfl, ?h20c⟩) hSd ?_
            case h20c => (rintro w9 ⟨_, ⟨e1, e2, _⟩, _⟩; go_simp; try with_reducible rfl)
            refine wpAnyH_take (i := 21) (v := .bool false) rfl (by kernel_rfl) (by kernel_rfl) (by kernel_rfl) (fun _ _ _ h => h) (Or.inl ⟨by kernel_rfl, ?h21c⟩) hSd ?_
            case h21c => (rintro w9 ⟨_, ⟨e1, e2, _⟩, _⟩; go_simp; try with_reducible rfl)
            refine wpAnyH_take (i := 22) (v := ?v22c) rfl (by kernel_rfl) (by kernel_rfl) (by kernel_rfl) (fun _ _ _ h => h) (Or.inl ⟨by kernel_rfl, ?h22c⟩) hSd ?_
            case h22c => (rintro w9 ⟨_, ⟨e1, e2, _⟩, _⟩; go_simp; try with_reducible rfl)
            refine wpAnyH_take (i := 23) (v := ?v23c) rfl (by kernel_rfl) (by kernel_rfl) (by kernel_rfl) (fun _ _ _ h => h) (Or.inl ⟨by kernel_rfl, ?h23c⟩) hSd ?_
            case h23c => (rintro w9 ⟨_, ⟨e1, e2, _⟩, _⟩; go_simp; try with_reducible rfl)
            refine wpAnyH_take (i := 24) (v := .bool true) rfl (by kernel_rfl) (by kernel_rfl) (by kernel_rfl) (fun _ _ _ h => h) (Or.inl ⟨by kernel_rfl, ?h24c⟩) hSd ?_
            case h24c => (rintro w9 ⟨_, ⟨e1, e2, _⟩, _⟩; go_simp; try with_reducible rfl)
            refine wpAnyH_take (i := 25) (v := .bool true) rfl (by kernel_rfl) (by kernel_rfl) (by kernel_rfl) (fun _ _ _ h => h) (Or.inl ⟨by kernel_rfl, ?h25c⟩) hSd ?_
            case h25c => (rintro w9 ⟨_, ⟨e1, e2, _⟩, _⟩; go_simp; try with_reducible rfl)
            refine wpAnyH_take (i := 26) (v := ?v26c) rfl (by kernel_rfl) (by kernel_rfl) (by kernel_rfl) (fun _ _ _ h => h) (Or.inl ⟨by kernel_rfl, ?h26c⟩) hSd ?_
            case h26c => (rintro w9 ⟨_, ⟨e1, e2, _⟩, _⟩; go_simp; try with_reducible rfl)
            refine wpAnyH_take (i := 27) (v := ?v27c) rfl (by kernel_rfl) (by kernel_rfl) (by kernel_rfl) (fun _ _ _ h => h) (Or.inl ⟨by kernel_rfl, ?h27c⟩) hSd ?_
            case h27c => (rintro w9 ⟨_, ⟨e1, e2, _⟩, _⟩; go_simp; try with_reducible rfl)
            refine wpAnyH_take (i := 28) (v := ?v28c) rfl (by kernel_rfl) (by kernel_rfl) (by kernel_rfl) (fun _ _ _ h => h) (Or.inl ⟨by kernel_rfl, ?h28c⟩) hSd ?_
            case h28c => (rintro w9 ⟨_, ⟨e1, e2, _⟩, _⟩; go_simp; try with_reducible rfl)
            refine wpAnyH_take (i := 29) (v := .bool false) rfl (by kernel_rfl) (by kernel_rfl) (by kernel_rfl) (fun _ _ _ h => h) (Or.inl ⟨by kernel_rfl, ?h29c⟩) hSd ?_
            case h29c => (rintro w9 ⟨_, ⟨e1, e2, _⟩, _⟩; go_simp; try with_reducible rfl)
            refine wpAnyH_take (i := 30) (v := .bool false) rfl (by kernel_rfl) (by kernel_rfl) (by kernel_rfl) (fun _ _ _ h => h) (Or.inl ⟨by kernel_rfl, ?h30c⟩) hSd ?_
            case h30c => (rintro w9 ⟨_, ⟨e1, e2, _⟩, _⟩; go_simp; try with_reducible rfl)
            refine wpAnyH_take (i := 31) (v := .bool false) rfl (by kernel_rfl) (by kernel_rfl) (by kernel_rfl) (fun _ _ _ h => h) (Or.inl ⟨by kernel_rfl, ?h31c⟩) hSd ?_
            case h31c => (rintro w9 ⟨_, ⟨e1, e2, _⟩, _⟩; go_simp; try with_reducible rfl)
            refine wpAnyH_take (i := 32) (v := .bool false) rfl (by kernel_rfl) (by kernel_rfl) (by kernel_rfl) (fun _ _ _ h => h) (Or.inl ⟨by kernel_rfl, ?h32c⟩) hSd ?_
            case h32c => (rintro w9 ⟨_, ⟨e1, e2, _⟩, _⟩; go_simp; try with_reducible rfl)
            refine wpAnyH_take (i := 33) (v := .bool false) rfl (by kernel_rfl) (by kernel_rfl) (by kernel_rfl) (fun _ _ _ h => h) (Or.inl ⟨by kernel_rfl, ?h33c⟩) hSd ?_
            case h33c => (rintro w9 ⟨_, ⟨e1, e2, _⟩, _⟩; go_simp; try with_reducible rfl)
            refine wpAnyH_take (i := 34) (v := ?v34c) rfl (by kernel_rfl) (by kernel_rfl) (by kernel_rfl) (fun _ _ _ h => h) (Or.inl ⟨by kernel_rfl, ?h34c⟩) hSd ?_
            case h34c => (rintro w9 ⟨_, ⟨e1, e2, _⟩, _⟩; go_simp; try with_reducible rfl)
            refine wpAnyH_take (i := 35) (v := ?v35c) rfl (by kernel_rfl) (by kernel_rfl) (by kernel_rfl) (fun _ _ _ h => h) (Or.inl ⟨by kernel_rfl, ?h35c⟩) hSd ?_
            case h35c => (rintro w9 ⟨_, ⟨e1, e2, _⟩, _⟩; go_simp; try with_reducible rfl)
            refine wpAnyH_take (i := 36) (v := .bool is) rfl (by kernel_rfl) (by kernel_rfl) (by kernel_rfl) (fun _ _ _ h => h) (Or.inl ⟨by kernel_rfl, ?h36c⟩) hSd ?_
            case h36c => (rintro w9 ⟨_, ⟨e1, e2, _⟩, _⟩; go_simp; try with_reducible rfl)
            refine wpAnyH_take (i := 37) (v := .bool false) rfl (by kernel_rfl) (by kernel_rfl) (by kernel_rfl) (fun _ _ _ h => h) (Or.inl ⟨by kernel_rfl, ?h37c⟩) hSd ?_
            case h37c => (rintro w9 ⟨_, ⟨e1, e2, _⟩, _⟩; go_simp; try with_reducible rfl)
            refine wpAnyH_take (i := 38) (v := .bool false) rfl (by kernel_rfl) (by kernel_rfl) (by kernel_rfl) (fun _ _ _ h => h) (Or.inl ⟨by kernel_rfl, ?h38c⟩) hSd ?_
            case h38c => (rintro w9 ⟨_, ⟨e1, e2, _⟩, _⟩; go_simp; try with_reducible rfl)
            refine wpAnyH_done (by kernel_rfl) ?_ _
            go_simp
            have hdS := hSd
            have HBW5 := Lib.hid (HBW4.out.trans (hSd.1.mono (Nat.le_trans hz1 HV4.out.size)))
            obtain ⟨t0, t1, _⟩ := (HT4.out.below hSd.1).below ((Below.refl _ _).drew)
            simp only at t0 t1
            have heo : ∀ w, (binOp .eql 25 (.agg #[.int .i64 0, .int .i64 0]) (.agg #[.int .i64 0, .int .i64 0])).run Try.prog w = .ok (.bool true) w := fun w => by rw [id_eq 0 0 0 0 w]; simp
            have h2 := H2.out
            clear hS hSa hSb hSc hSd hdS HS
            go_wp2_with fail
            rcases h2 with h2 | h2
            · obtain ⟨kk, h1, h2⟩ := h2
              injection h1 with h1 h1'
              subst h1 h1' h2
              refine wp_region_held_drew (S := fun W => W = u.drew) (by kernel_rfl) rfl (fun hS9 => ?_)
              refine wpAnyH_take (i := 0) (v := .bool false) rfl (by kernel_rfl) (by kernel_rfl) (by kernel_rfl) (fun _ _ _ h => h) (Or.inl ⟨by kernel_rfl, ?h0cx⟩) hS9 ?_
              case h0cx => (rintro w9 rfl; go_simp; try with_reducible rfl)
              refine wpAnyH_take (i := 1) (v := .bool false) rfl (by kernel_rfl) (by kernel_rfl) (by kernel_rfl) (fun _ _ _ h => h) (Or.inl ⟨by kernel_rfl, ?h1cx⟩) hS9 ?_
              case h1cx => (rintro w9 rfl; go_simp; try with_reducible rfl)
              refine wpAnyH_take (i := 2) (v := undef) rfl (by kernel_rfl) (by kernel_rfl) (by kernel_rfl) (fun _ _ _ h => h) (Or.inr ⟨by kernel_rfl, rfl⟩) hS9 ?_
              refine wpAnyH_take (i := 3) (v := undef) rfl (by kernel_rfl) (by kernel_rfl) (by kernel_rfl) (fun _ _ _ h => h) (Or.inr ⟨by kernel_rfl, rfl⟩) hS9 ?_
              refine wpAnyH_take (i := 4) (v := undef) rfl (by kernel_rfl) (by kernel_rfl) (by kernel_rfl) (fun _ _ _ h => h) (Or.inr ⟨by kernel_rfl, rfl⟩) hS9 ?_
              refine wpAnyH_take (i := 5) (v := undef) rfl (by kernel_rfl) (by kernel_rfl) (by kernel_rfl) (fun _ _ _ h => h) (Or.inr ⟨by kernel_rfl, rfl⟩) hS9 ?_
              refine wpAnyH_take (i := 6) (v := undef) rfl (by kernel_rfl) (by kernel_rfl) (by kernel_rfl) (fun _ _ _ h => h) (Or.inr ⟨by kernel_rfl, rfl⟩) hS9 ?_
              refine wpAnyH_take (i := 7) (v := undef) rfl (by kernel_rfl) (by kernel_rfl) (by kernel_rfl) (fun _ _ _ h => h) (Or.inr ⟨by kernel_rfl, rfl⟩) hS9 ?_
              refine wpAnyH_take (i := 8) (v := .bool false) rfl (by kernel_rfl) (by kernel_rfl) (by kernel_rfl) (fun _ _ _ h => h) (Or.inl ⟨by kernel_rfl, ?h8cx⟩) hS9 ?_
              case h8cx => (rintro w9 rfl; go_simp; try with_reducible rfl)
              refine wpAnyH_take (i := 9) (v := .bool false) rfl (by kernel_rfl) (by kernel_rfl) (by kernel_rfl) (fun _ _ _ h => h) (Or.inl ⟨by kernel_rfl, ?h9cx⟩) hS9 ?_
              case h9cx => (rintro w9 rfl; go_simp; try with_reducible rfl)
              refine wpAnyH_take (i := 10) (v := .bool false) rfl (by kernel_rfl) (by kernel_rfl) (by kernel_rfl) (fun _ _ _ h => h) (Or.inl ⟨by kernel_rfl, ?h10cx⟩) hS9 ?_
              case h10cx => (rintro w9 rfl; go_simp; try with_reducible rfl)
              refine wpAnyH_take (i := 11) (v := .bool true) rfl (by kernel_rfl) (by kernel_rfl) (by kernel_rfl) (fun _ _ _ h => h) (Or.inl ⟨by kernel_rfl, ?h11cx⟩) hS9 ?_
              case h11cx => (rintro w9 rfl; go_simp; try with_reducible rfl)
              refine wpAnyH_take (i := 12) (v := .bool true) rfl (by kernel_rfl) (by kernel_rfl) (by kernel_rfl) (fun _ _ _ h => h) (Or.inl ⟨by kernel_rfl, ?h12cx⟩) hS9 ?_
              case h12cx => (rintro w9 rfl; go_simp; try with_reducible rfl)
              refine wpAnyH_take (i := 13) (v := ?v13cx) rfl (by kernel_rfl) (by kernel_rfl) (by kernel_rfl) (fun _ _ _ h => h) (Or.inl ⟨by kernel_rfl, ?h13cx⟩) hS9 ?_
              case h13cx => (rintro w9 rfl; go_simp; try with_reducible rfl)
              refine wpAnyH_take (i := 14) (v := ?v14cx) rfl (by kernel_rfl) (by kernel_rfl) (by kernel_rfl) (fun _ _ _ h => h) (Or.inl ⟨by kernel_rfl, ?h14cx⟩) hS9 ?_
              case h14cx => (rintro w9 rfl; go_simp; try with_reducible rfl)
              refine wpAnyH_take (i := 15) (v := .bool true) rfl (by kernel_rfl) (by kernel_rfl) (by kernel_rfl) (fun _ _ _ h => h) (Or.inl ⟨by kernel_rfl, ?h15cx⟩) hS9 ?_
              case h15cx => (rintro w9 rfl; go_simp; try with_reducible rfl)
              refine wpAnyH_take (i := 16) (v := .bool true) rfl (by kernel_rfl) (by kernel_rfl) (by kernel_rfl) (fun _ _ _ h => h) (Or.inl ⟨by kernel_rfl, ?h16cx⟩) hS9 ?_
              case h16cx => (rintro w9 rfl; go_simp; try with_reducible rfl)
              refine wpAnyH_take (i := 17) (v := .bool true) rfl (by kernel_rfl) (by kernel_rfl) (by kernel_rfl) (fun _ _ _ h => h) (Or.inl ⟨by kernel_rfl, ?h17cx⟩) hS9 ?_
              case h17cx => (rintro w9 rfl; go_simp; try with_reducible rfl)
              refine wpAnyH_take (i := 18) (v := .bool true) rfl (by kernel_rfl) (by kernel_rfl) (by kernel_rfl) (fun _ _ _ h => h) (Or.inl ⟨by kernel_rfl, ?h18cx⟩) hS9 ?_
              case h18cx => (rintro w9 rfl; go_simp; try with_reducible rfl)
              refine wpAnyH_take (i := 19) (v := .bool true) rfl (by kernel_rfl) (by kernel_rfl) (by kernel_rfl) (fun _ _ _ h => h) (Or.inl ⟨by kernel_rfl, ?h19cx⟩) hS9 ?_
              case h19cx => (rintro w9 rfl; go_simp; try with_reducible rfl)
              refine wpAnyH_take (i := 20) (v := .bool true) rfl (by kernel_rfl) (by kernel_rfl) (by kernel_rfl) (fun _ _ _ h => h) (Or.inl ⟨by kernel_rfl, ?h20cx⟩) hS9 ?_
              case h20cx => (rintro w9 rfl; go_simp; try with_reducible rfl)
              refine wpAnyH_take (i := 21) (v := ?v21cx) rfl (by kernel_rfl) (by kernel_rfl) (by kernel_rfl) (fun _ _ _ h => h) (Or.inl ⟨by kernel_rfl, ?h21cx⟩) hS9 ?_
              case h21cx => (rintro w9 rfl; go_simp; try with_reducible rfl)
              refine wpAnyH_take (i := 22) (v := ?v22cx) rfl (by kernel_rfl) (by kernel_rfl) (by kernel_rfl) (fun _ _ _ h => h) (Or.inl ⟨by kernel_rfl, ?h22cx⟩) hS9 ?_
              case h22cx => (rintro w9 rfl; go_simp; try with_reducible rfl)
              refine wpAnyH_take (i := 23) (v := .bool true) rfl (by kernel_rfl) (by kernel_rfl) (by kernel_rfl) (fun _ _ _ h => h) (Or.inl ⟨by kernel_rfl, ?h23cx⟩) hS9 ?_
              case h23cx => (rintro w9 rfl; go_simp; try with_reducible rfl)
              refine wpAnyH_take (i := 24) (v := .bool true) rfl (by kernel_rfl) (by kernel_rfl) (by kernel_rfl) (fun _ _ _ h => h) (Or.inl ⟨by kernel_rfl, ?h24cx⟩) hS9 ?_
              case h24cx => (rintro w9 rfl; go_simp; try with_reducible rfl)
              refine wpAnyH_take (i := 25) (v := .bool true) rfl (by kernel_rfl) (by kernel_rfl) (by kernel_rfl) (fun _ _ _ h => h) (Or.inl ⟨by kernel_rfl, ?h25cx⟩) hS9 ?_
              case h25cx => (rintro w9 rfl; go_simp; try with_reducible rfl)
              refine wpAnyH_take (i := 26) (v := undef) rfl (by kernel_rfl) (by kernel_rfl) (by kernel_rfl) (fun _ _ _ h => h) (Or.inr ⟨by kernel_rfl, rfl⟩) hS9 ?_
              refine wpAnyH_take (i := 27) (v := undef) rfl (by kernel_rfl) (by kernel_rfl) (by kernel_rfl) (fun _ _ _ h => h) (Or.inr ⟨by kernel_rfl, rfl⟩) hS9 ?_
              refine wpAnyH_take (i := 28) (v := undef) rfl (by kernel_rfl) (by kernel_rfl) (by kernel_rfl) (fun _ _ _ h => h) (Or.inr ⟨by kernel_rfl, rfl⟩) hS9 ?_
              refine wpAnyH_take (i := 29) (v := undef) rfl (by kernel_rfl) (by kernel_rfl) (by kernel_rfl) (fun _ _ _ h => h) (Or.inr ⟨by kernel_rfl, rfl⟩) hS9 ?_
              refine wpAnyH_take (i := 30) (v := undef) rfl (by kernel_rfl) (by kernel_rfl) (by kernel_rfl) (fun _ _ _ h => h) (Or.inr ⟨by kernel_rfl, rfl⟩) hS9 ?_
              refine wpAnyH_take (i := 31) (v := undef) rfl (by kernel_rfl) (by kernel_rfl) (by kernel_rfl) (fun _ _ _ h => h) (Or.inr ⟨by kernel_rfl, rfl⟩) hS9 ?_
              refine wpAnyH_take (i := 32) (v := .bool true) rfl (by kernel_rfl) (by kernel_rfl) (by kernel_rfl) (fun _ _ _ h => h) (Or.inl ⟨by kernel_rfl, ?h32cx⟩) hS9 ?_
              case h32cx => (rintro w9 rfl; go_simp; try with_reducible rfl)
              refine wpAnyH_take (i := 33) (v := .bool true) rfl (by kernel_rfl) (by kernel_rfl) (by kernel_rfl) (fun _ _ _ h => h) (Or.inl ⟨by kernel_rfl, ?h33cx⟩) hS9 ?_
              case h33cx => (rintro w9 rfl; go_simp; try with_reducible rfl)
              refine wpAnyH_take (i := 34) (v := .bool true) rfl (by kernel_rfl) (by kernel_rfl) (by kernel_rfl) (fun _ _ _ h => h) (Or.inl ⟨by kernel_rfl, ?h34cx⟩) hS9 ?_
              case h34cx => (rintro w9 rfl; go_simp; try with_reducible rfl)
              refine wpAnyH_done (by kernel_rfl) ?_ _
              go_simp
              go_wp2
              go_ret
              exact ⟨rfl, HBS.out _ (HBW5.out.drew)⟩
            · obtain ⟨h1, h2⟩ := h2
              injection h1 with h1 h1'
              subst h1 h1' h2
              refine wp_region_held_drew (S := fun W => W = u.drew) (by kernel_rfl) rfl (fun hS9 => ?_)
              refine wpAnyH_take (i := 0) (v := .bool false) rfl (by kernel_rfl) (by kernel_rfl) (by kernel_rfl) (fun _ _ _ h => h) (Or.inl ⟨by kernel_rfl, ?h0cy⟩) hS9 ?_
              case h0cy => (rintro w9 rfl; go_simp; try with_reducible rfl)
              refine wpAnyH_take (i := 1) (v := .bool false) rfl (by kernel_rfl) (by kernel_rfl) (by kernel_rfl) (fun _ _ _ h => h) (Or.inl ⟨by kernel_rfl, ?h1cy⟩) hS9 ?_
              case h1cy => (rintro w9 rfl; go_simp; try with_reducible rfl)
              refine wpAnyH_take (i := 2) (v := undef) rfl (by kernel_rfl) (by kernel_rfl) (by kernel_rfl) (fun _ _ _ h => h) (Or.inr ⟨by kernel_rfl, rfl⟩) hS9 ?_
              refine wpAnyH_take (i := 3) (v := undef) rfl (by kernel_rfl) (by kernel_rfl) (by kernel_rfl) (fun _ _ _ h => h) (Or.inr ⟨by kernel_rfl, rfl⟩) hS9 ?_
              refine wpAnyH_take (i := 4) (v := undef) rfl (by kernel_rfl) (by kernel_rfl) (by kernel_rfl) (fun _ _ _ h => h) (Or.inr ⟨by kernel_rfl, rfl⟩) hS9 ?_
              refine wpAnyH_take (i := 5) (v := undef) rfl (by kernel_rfl) (by kernel_rfl) (by kernel_rfl) (fun _ _ _ h => h) (Or.inr ⟨by kernel_rfl, rfl⟩) hS9 ?_
              refine wpAnyH_take (i := 6) (v := undef) rfl (by kernel_rfl) (by kernel_rfl) (by kernel_rfl) (fun _ _ _ h => h) (Or.inr ⟨by kernel_rfl, rfl⟩) hS9 ?_
              refine wpAnyH_take (i := 7) (v := undef) rfl (by kernel_rfl) (by kernel_rfl) (by kernel_rfl) (fun _ _ _ h => h) (Or.inr ⟨by kernel_rfl, rfl⟩) hS9 ?_
              refine wpAnyH_take (i := 8) (v := .bool false) rfl (by kernel_rfl) (by kernel_rfl) (by kernel_rfl) (fun _ _ _ h => h) (Or.inl ⟨by kernel_rfl, ?h8cy⟩) hS9 ?_
              case h8cy => (rintro w9 rfl; go_simp; try with_reducible rfl)
              refine wpAnyH_take (i := 9) (v := .bool false) rfl (by kernel_rfl) (by kernel_rfl) (by kernel_rfl) (fun _ _ _ h => h) (Or.inl ⟨by kernel_rfl, ?h9cy⟩) hS9 ?_
              case h9cy => (rintro w9 rfl; go_simp; try with_reducible rfl)
              refine wpAnyH_take (i := 10) (v := .bool false) rfl (by kernel_rfl) (by kernel_rfl) (by kernel_rfl) (fun _ _ _ h => h) (Or.inl ⟨by kernel_rfl, ?h10cy⟩) hS9 ?_
              case h10cy => (rintro w9 rfl; go_simp; try with_reducible rfl)
              refine wpAnyH_take (i := 11) (v := .bool true) rfl (by kernel_rfl) (by kernel_rfl) (by kernel_rfl) (fun _ _ _ h => h) (Or.inl ⟨by kernel_rfl, ?h11cy⟩) hS9 ?_
              case h11cy => (rintro w9 rfl; go_simp; try with_reducible rfl)
              refine wpAnyH_take (i := 12) (v := .bool true) rfl (by kernel_rfl) (by kernel_rfl) (by kernel_rfl) (fun _ _ _ h => h) (Or.inl ⟨by kernel_rfl, ?h12cy⟩) hS9 ?_
              case h12cy => (rintro w9 rfl; go_simp; try with_reducible rfl)
              refine wpAnyH_take (i := 13) (v := ?v13cy) rfl (by kernel_rfl) (by kernel_rfl) (by kernel_rfl) (fun _ _ _ h => h) (Or.inl ⟨by kernel_rfl, ?h13cy⟩) hS9 ?_
              case h13cy => (rintro w9 rfl; go_simp; try with_reducible rfl)
              refine wpAnyH_take (i := 14) (v := ?v14cy) rfl (by kernel_rfl) (by kernel_rfl) (by kernel_rfl) (fun _ _ _ h => h) (Or.inl ⟨by kernel_rfl, ?h14cy⟩) hS9 ?_
              case h14cy => (rintro w9 rfl; go_simp; try with_reducible rfl)
              refine wpAnyH_take (i := 15) (v := .bool true) rfl (by kernel_rfl) (by kernel_rfl) (by kernel_rfl) (fun _ _ _ h => h) (Or.inl ⟨by kernel_rfl, ?h15cy⟩) hS9 ?_
              case h15cy => (rintro w9 rfl; go_simp; try with_reducible rfl)
              refine wpAnyH_take (i := 16) (v := .bool true) rfl (by kernel_rfl) (by kernel_rfl) (by kernel_rfl) (fun _ _ _ h => h) (Or.inl ⟨by kernel_rfl, ?h16cy⟩) hS9 ?_
              case h16cy => (rintro w9 rfl; go_simp; try with_reducible rfl)
              refine wpAnyH_take (i := 17) (v := .bool true) rfl (by kernel_rfl) (by kernel_rfl) (by kernel_rfl) (fun _ _ _ h => h) (Or.inl ⟨by kernel_rfl, ?h17cy⟩) hS9 ?_
              case h17cy => (rintro w9 rfl; go_simp; try with_reducible rfl)
              refine wpAnyH_take (i := 18) (v := .bool true) rfl (by kernel_rfl) (by kernel_rfl) (by kernel_rfl) (fun _ _ _ h => h) (Or.inl ⟨by kernel_rfl, ?h18cy⟩) hS9 ?_
              case h18cy => (rintro w9 rfl; go_simp; try with_reducible rfl)
              refine wpAnyH_take (i := 19) (v := .bool false) rfl (by kernel_rfl) (by kernel_rfl) (by kernel_rfl) (fun _ _ _ h => h) (Or.inl ⟨by kernel_rfl, ?h19cy⟩) hS9 ?_
              case h19cy => (rintro w9 rfl; go_simp; try with_reducible rfl)
              refine wpAnyH_take (i := 20) (v := .bool false) rfl (by kernel_rfl) (by kernel_rfl) (by kernel_rfl) (fun _ _ _ h => h) (Or.inl ⟨by kernel_rfl, ?h20cy⟩) hS9 ?_
              case h20cy => (rintro w9 rfl; go_simp; try with_reducible rfl)
              refine wpAnyH_take (i := 21) (v := undef) rfl (by kernel_rfl) (by kernel_rfl) (by kernel_rfl) (fun _ _ _ h => h) (Or.inr ⟨by kernel_rfl, rfl⟩) hS9 ?_
              refine wpAnyH_take (i := 22) (v := undef) rfl (by kernel_rfl) (by kernel_rfl) (by kernel_rfl) (fun _ _ _ h => h) (Or.inr ⟨by kernel_rfl, rfl⟩) hS9 ?_
              refine wpAnyH_take (i := 23) (v := undef) rfl (by kernel_rfl) (by kernel_rfl) (by kernel_rfl) (fun _ _ _ h => h) (Or.inr ⟨by kernel_rfl, rfl⟩) hS9 ?_
              refine wpAnyH_take (i := 24) (v := .bool false) rfl (by kernel_rfl) (by kernel_rfl) (by kernel_rfl) (fun _ _ _ h => h) (Or.inl ⟨by kernel_rfl, ?h24cy⟩) hS9 ?_
              case h24cy => (rintro w9 rfl; go_simp; try with_reducible rfl)
              refine wpAnyH_take (i := 25) (v := .bool false) rfl (by kernel_rfl) (by kernel_rfl) (by kernel_rfl) (fun _ _ _ h => h) (Or.inl ⟨by kernel_rfl, ?h25cy⟩) hS9 ?_
              case h25cy => (rintro w9 rfl; go_simp; try with_reducible rfl)
              refine wpAnyH_take (i := 26) (v := .bool false) rfl (by kernel_rfl) (by kernel_rfl) (by kernel_rfl) (fun _ _ _ h => h) (Or.inl ⟨by kernel_rfl, ?h26cy⟩) hS9 ?_
              case h26cy => (rintro w9 rfl; go_simp; try with_reducible rfl)
              refine wpAnyH_take (i := 27) (v := .bool true) rfl (by kernel_rfl) (by kernel_rfl) (by kernel_rfl) (fun _ _ _ h => h) (Or.inl ⟨by kernel_rfl, ?h27cy⟩) hS9 ?_
              case h27cy => (rintro w9 rfl; go_simp; try with_reducible rfl)
              refine wpAnyH_take (i := 28) (v := .bool true) rfl (by kernel_rfl) (by kernel_rfl) (by kernel_rfl) (fun _ _ _ h => h) (Or.inl ⟨by kernel_rfl, ?h28cy⟩) hS9 ?_
              case h28cy => (rintro w9 rfl; go_simp; try with_reducible rfl)
              refine wpAnyH_take (i := 29) (v := ?v29cy) rfl (by kernel_rfl) (by kernel_rfl) (by kernel_rfl) (fun _ _ _ h => h) (Or.inl ⟨by kernel_rfl, ?h29cy⟩) hS9 ?_
              case h29cy => (rintro w9 rfl; go_simp; try with_reducible rfl)
              refine wpAnyH_take (i := 30) (v := .bool true) rfl (by kernel_rfl) (by kernel_rfl) (by kernel_rfl) (fun _ _ _ h => h) (Or.inl ⟨by kernel_rfl, ?h30cy⟩) hS9 ?_
              case h30cy => (rintro w9 rfl; go_simp; try with_reducible rfl)
              refine wpAnyH_take (i := 31) (v := .bool true) rfl (by kernel_rfl) (by kernel_rfl) (by kernel_rfl) (fun _ _ _ h => h) (Or.inl ⟨by kernel_rfl, ?h31cy⟩) hS9 ?_
              case h31cy => (rintro w9 rfl; go_simp; try with_reducible rfl)
              refine wpAnyH_take (i := 32) (v := .bool true) rfl (by kernel_rfl) (by kernel_rfl) (by kernel_rfl) (fun _ _ _ h => h) (Or.inl ⟨by kernel_rfl, ?h32cy⟩) hS9 ?_
              case h32cy => (rintro w9 rfl; go_simp; try with_reducible rfl)
              refine wpAnyH_take (i := 33) (v := .bool true) rfl (by kernel_rfl) (by kernel_rfl) (by kernel_rfl) (fun _ _ _ h => h) (Or.inl ⟨by kernel_rfl, ?h33cy⟩) hS9 ?_
              case h33cy => (rintro w9 rfl; go_simp; try with_reducible rfl)
              refine wpAnyH_take (i := 34) (v := .bool true) rfl (by kernel_rfl) (by kernel_rfl) (by kernel_rfl) (fun _ _ _ h => h) (Or.inl ⟨by kernel_rfl, ?h34cy⟩) hS9 ?_
              case h34cy => (rintro w9 rfl; go_simp; try with_reducible rfl)
              refine wpAnyH_done (by kernel_rfl) ?_ _
              go_simp
              go_wp2
              go_ret
              exact ⟨rfl, HBS.out _ (HBW5.out.drew)⟩
    · have hdt : (100 : Int) < ↑ds.length := by omega
      go_wp2
      go_ret
      exact ⟨rfl, HB1.out⟩
  · have hlt : (100 : Int) < ↑ids.length := by omega
    go_wp2
    go_ret
    exact ⟨rfl, HB1.out⟩
theorem plays_law {w : World} (u : Value) (ids : List IdP) (hu : IdsAt w u ids) (hs : SmallI ids) (dv : Value) (ds : List DeedP) (hd : DeedsAt w dv ds) (_ : True) (p : IdP) (_ : Wf p) (i : Int) (_ : True) :
    Calls Try.prog 3 #[u, dv, idV p, .int .i64 i] w fun e w' => e = .returned (.bool true) ∧ Below w.heap.size w w' := plays_law0 u ids hu hs dv ds hd p.1 p.2 i
end Go.Proofs.Ytngomgjhakgehaa
