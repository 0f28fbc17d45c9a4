/- SpillTurned: rects apart by columns. -/
import Derived.Test.YtdeneogbnmedkaaTw
namespace Go.Proofs.Ytdeneogbnmedkaa
open Go.RowKit Go.Maps
set_option maxRecDepth 100000 in
set_option maxHeartbeats 16000000 in
theorem turned_a2 {w : World} (af : Bool) (ar ac ah aw : Int) (cf : Bool) (cr cl ch cw : Int) (HWA : Hid (Wf (ar, ac))) (HWC : Hid (Wf (cr, cl))) (v : Value) (l : List Pl) (HL : Hid (PairsAt w v l)) (HLB : Hid (∀ d ∈ l, Byte2 d)) (hlen : l.length ≤ 60) (h0 : ¬ ar < 0) (h1 : ¬ ac < 0) (h2 : ¬ cr < 0) (h3 : ¬ cl < 0) (h4 : ¬ 12 < ar) (h5 : ¬ 12 < ac) (h6 : ¬ 12 < cr) (h7 : ¬ 12 < cl) (h8 : ¬ ah < 1) (h9 : ¬ aw < 1) (h10 : ¬ ch < 1) (h11 : ¬ cw < 1) (h12 : ¬ 12 < ah) (h13 : ¬ 12 < aw) (h14 : ¬ 12 < ch) (h15 : ¬ 12 < cw) (k0 : ar < cr + ch) (k1 : cr < ar + ah) (k2 : ¬ ac < cl + cw) :
    Calls Try.prog 7 #[.agg #[.bool af, .int .i64 ar, .int .i64 ac, .int .i64 ah, .int .i64 aw], .agg #[.bool cf, .int .i64 cr, .int .i64 cl, .int .i64 ch, .int .i64 cw], v] w fun e w' => e = .returned (.bool true) ∧ Below w.heap.size w w' := by
  obtain ⟨A, cc, rfl, hcc, _⟩ := id HL.out
  have hb0 : Below w.heap.size w ((w.alloc (.cells #[.bool af, .int .i64 ar, .int .i64 ac, .int .i64 ah, .int .i64 aw] 32)).alloc (.cells #[.bool cf, .int .i64 cr, .int .i64 cl, .int .i64 ch, .int .i64 cw] 32)) := ((Below.refl _ _).alloc (Nat.le_refl _) _).alloc (by simp) _
  have hz0 : ((w.alloc (.cells #[.bool af, .int .i64 ar, .int .i64 ac, .int .i64 ah, .int .i64 aw] 32)).alloc (.cells #[.bool cf, .int .i64 cr, .int .i64 cl, .int .i64 ch, .int .i64 cw] 32)).heap[w.heap.size]? = some (.cells #[.bool af, .int .i64 ar, .int .i64 ac, .int .i64 ah, .int .i64 aw] 32 (0, 0)) := (Below.heap_alloc _ _ _ (by simp)).trans (World.alloc_heap_new w _)
  have hz1 : ((w.alloc (.cells #[.bool af, .int .i64 ar, .int .i64 ac, .int .i64 ah, .int .i64 aw] 32)).alloc (.cells #[.bool cf, .int .i64 cr, .int .i64 cl, .int .i64 ch, .int .i64 cw] 32)).heap[w.heap.size + 1]? = some (.cells #[.bool cf, .int .i64 cr, .int .i64 cl, .int .i64 ch, .int .i64 cw] 32 (0, 0)) := by
    simpa using World.alloc_heap_new (w.alloc (.cells #[.bool af, .int .i64 ar, .int .i64 ac, .int .i64 ah, .int .i64 aw] 32)) (.cells #[.bool cf, .int .i64 cr, .int .i64 cl, .int .i64 ch, .int .i64 cw] 32)
  obtain ⟨W0, hW0⟩ : ∃ W0, W0 = ((w.alloc (.cells #[.bool af, .int .i64 ar, .int .i64 ac, .int .i64 ah, .int .i64 aw] 32)).alloc (.cells #[.bool cf, .int .i64 cr, .int .i64 cl, .int .i64 ch, .int .i64 cw] 32)) := ⟨_, rfl⟩
  rw [← hW0] at hb0 hz0 hz1
  have HB0 := Lib.hid hb0
  have HZ0 := Lib.hid hz0
  have HZ1 := Lib.hid hz1
  have HW0 := Lib.hid hW0
  clear hb0 hz0 hz1 hW0
  go_enter Try.func7, Try.ntmps7
  go_wp2_with fail
  rw [← HW0.out]
  refine (awake_any _).mono ?_
  rintro e w1 ⟨rfl, hb1⟩
  have HB1 := Lib.hid (HB0.out.trans (hb1.mono HB0.out.size))
  have HY0 := Lib.hid ((hb1.block _ (Array.getElem?_eq_some_iff.1 HZ0.out).1).trans HZ0.out)
  have HY1 := Lib.hid ((hb1.block _ (Array.getElem?_eq_some_iff.1 HZ1.out).1).trans HZ1.out)
  clear hb1 HZ0 HZ1 HB0 HW0
  have hlt : ¬ (60 : Int) < ↑l.length := by omega
  obtain ⟨_, a1, a2, a3, a4⟩ := box5 HY0.out
  obtain ⟨_, b1, b2, b3, b4⟩ := box5 HY1.out
  have hw1 : IntKind.i64.wrap (cr + ch) = cr + ch := by rw [IntKind.wrap_i64]; omega
  have hw2 : IntKind.i64.wrap (ar + ah) = ar + ah := by rw [IntKind.wrap_i64]; omega
  have hw3 : IntKind.i64.wrap (cl + cw) = cl + cw := by rw [IntKind.wrap_i64]; omega
  have hw4 : IntKind.i64.wrap (ac + aw) = ac + aw := by rw [IntKind.wrap_i64]; omega
  have HAP : Hid (∀ p, inR (ar, ac, ah, aw) p = true → inR (cr, cl, ch, cw) p = true → False) := Lib.hid fun p h1 h2 => by have h1 := (inR_iff _ _).1 h1; have h2 := (inR_iff _ _).1 h2; simp only at h1 h2; omega
  have hfa : 1 ≤ ah ∧ 1 ≤ aw := by omega
  have hfc : 1 ≤ ch ∧ 1 ≤ cw := by omega
  have HFA := Lib.hid hfa
  have HFC := Lib.hid hfc
  clear hfa hfc
  go_wp2_with fail
  clear h0 h1 h2 h3 h4 h5 h6 h7 h8 h9 h10 h11 h12 h13 h14 h15 hw1 hw2 hw3 hw4 k0 k1 k2 a1 a2 a3 a4 b1 b2 b3 b4 hlt
  refine (new_any 12 12 w1).mono ?_
  rintro e w2 ⟨rfl, n1, n2, n3⟩
  have N1 := Lib.hid n1
  have N2 := Lib.hid n2
  have N3 := Lib.hid n3
  clear n1 n2 n3
  go_wp2_with fail
  refine (new_any 12 12 w2).mono ?_
  rintro e w3 ⟨rfl, n4, n5, n6⟩
  have hT : Two w1 (w1.heap.size + 3) (w2.heap.size + 3) 0 0 (newF 12 12) (newF 12 12) w3 := by
    refine ⟨_, _, N1.out.later n5, n4, fun b hb hc => ?_, fun b hb => ?_, N2.out.trans (n5.mono N2.out.size)⟩
    · have := N3.out; omega
    · have := N3.out; rcases hb with hb | hb <;> omega
  obtain ⟨s1, hs1⟩ : ∃ s, w1.heap.size + 3 = s := ⟨_, rfl⟩
  obtain ⟨s2, hs2⟩ : ∃ s, w2.heap.size + 3 = s := ⟨_, rfl⟩
  rw [hs1, hs2] at hT
  rw [hs1, hs2]
  have HT := Lib.hid hT
  clear n4 n5 n6 hT hs1 hs2 N1 N2 N3
  go_wp2_with fail
  go_loopw [9] (fun i wr => ∃ k : Nat, k ≤ l.length ∧ i = .int .i64 k ∧ Two w1 s1 s2 k k (fillsB (newF 12 12) (l.take k)) (fillsB (newF 12 12) (l.take k)) wr) (fun i _ => l.length - (intOf i).toNat)
  case atStart => exact ⟨0, Nat.zero_le _, rfl, HT.out⟩
  case round =>
    obtain ⟨k, hk, rfl, hu⟩ := hrel
    have HK := Lib.hid hu
    clear hu HT
    by_cases hlt : k < l.length
    · have hx : l[k]? = some l[k] := List.getElem?_eq_getElem hlt
      obtain ⟨d, hd⟩ : ∃ d, l[k] = d := ⟨_, rfl⟩
      rw [hd] at hx
      have hsn : fillsB (newF 12 12) (l.take (k + 1)) = fillB (fillsB (newF 12 12) (l.take k)) d := by rw [List.take_add_one, hx]; exact fillsB_snoc _ _ _
      obtain ⟨B, hB⟩ : ∃ B, fillsB (newF 12 12) (l.take k) = B := ⟨_, rfl⟩
      rw [hB] at HK hsn
      have HSN := Lib.hid hsn
      have hbd := HLB.out d (List.mem_of_getElem? hx)
      have HWD := Lib.hid (byte_wf hbd)
      obtain ⟨ad, rfl, hI⟩ := pairs_in HL.out hx
      have HI := Lib.hid hI
      obtain ⟨x, y⟩ := d
      have hx2 : IntKind.i64.wrap x = x := by have := hbd.1; simp only at this; rw [IntKind.wrap_i64]; omega
      have hy2 : IntKind.i64.wrap y = y := by have := hbd.2; simp only at this; rw [IntKind.wrap_i64]; omega
      have hi0 : (0 : Int) ≤ ↑k := by omega
      have hi1 : (↑k : Int) < ↑l.length := by omega
      have hi2 : (↑l.length : Int) ≤ ↑cc := by omega
      obtain ⟨q1, hq1⟩ : ∃ q, fillR B (x, y) = q := ⟨_, rfl⟩
      have HQ := Lib.hid hq1
      simp only at HI HWD
      clear hx hd hsn hB hbd hI hq1
      go_wp2_with fail
      refine wp_region_held_drew (S := fun X => Below w.heap.size w X) (by kernel_rfl) ((HB1.out.trans (HK.out.below.mono HB1.out.size)).drew) (fun hS => ?_)
      refine wpAnyH_take (i := 0) (v := ?v0x) rfl (by kernel_rfl) (by kernel_rfl) (by kernel_rfl) (fun _ _ _ h => h) (Or.inl ⟨by kernel_rfl, ?h0x⟩) hS ?_
      case h0x => (rintro w2 hb; obtain ⟨e1, e2⟩ := HI.out w2 hb; go_simp; try with_reducible rfl)
      refine wpAnyH_take (i := 1) (v := ?v1x) rfl (by kernel_rfl) (by kernel_rfl) (by kernel_rfl) (fun _ _ _ h => h) (Or.inl ⟨by kernel_rfl, ?h1x⟩) hS ?_
      case h1x => (rintro w2 hb; obtain ⟨e1, e2⟩ := HI.out w2 hb; go_simp; try with_reducible rfl)
      refine wpAnyH_take (i := 2) (v := ?v2x) rfl (by kernel_rfl) (by kernel_rfl) (by kernel_rfl) (fun _ _ _ h => h) (Or.inl ⟨by kernel_rfl, ?h2x⟩) hS ?_
      case h2x => (rintro w2 hb; obtain ⟨e1, e2⟩ := HI.out w2 hb; go_simp; try with_reducible rfl)
      refine wpAnyH_take (i := 3) (v := ?v3x) rfl (by kernel_rfl) (by kernel_rfl) (by kernel_rfl) (fun _ _ _ h => h) (Or.inl ⟨by kernel_rfl, ?h3x⟩) hS ?_
      case h3x => (rintro w2 hb; obtain ⟨e1, e2⟩ := HI.out w2 hb; go_simp; try with_reducible rfl)
      refine wpAnyH_take (i := 4) (v := ?v4x) rfl (by kernel_rfl) (by kernel_rfl) (by kernel_rfl) (fun _ _ _ h => h) (Or.inl ⟨by kernel_rfl, ?h4x⟩) hS ?_
      case h4x => (rintro w2 hb; obtain ⟨e1, e2⟩ := HI.out w2 hb; go_simp; try with_reducible rfl)
      refine wpAnyH_take (i := 5) (v := ?v5x) rfl (by kernel_rfl) (by kernel_rfl) (by kernel_rfl) (fun _ _ _ h => h) (Or.inl ⟨by kernel_rfl, ?h5x⟩) hS ?_
      case h5x => (rintro w2 hb; obtain ⟨e1, e2⟩ := HI.out w2 hb; go_simp; try with_reducible rfl)
      refine wpAnyH_take (i := 6) (v := ?v6x) rfl (by kernel_rfl) (by kernel_rfl) (by kernel_rfl) (fun _ _ _ h => h) (Or.inl ⟨by kernel_rfl, ?h6x⟩) hS ?_
      case h6x => (rintro w2 hb; obtain ⟨e1, e2⟩ := HI.out w2 hb; go_simp; try with_reducible rfl)
      refine wpAnyH_take (i := 7) (v := ?v7x) rfl (by kernel_rfl) (by kernel_rfl) (by kernel_rfl) (fun _ _ _ h => h) (Or.inl ⟨by kernel_rfl, ?h7x⟩) hS ?_
      case h7x => (rintro w2 hb; obtain ⟨e1, e2⟩ := HI.out w2 hb; go_simp; try with_reducible rfl)
      refine wpAnyH_take (i := 8) (v := ?v8x) rfl (by kernel_rfl) (by kernel_rfl) (by kernel_rfl) (fun _ _ _ h => h) (Or.inl ⟨by kernel_rfl, ?h8x⟩) hS ?_
      case h8x => (rintro w2 hb; obtain ⟨e1, e2⟩ := HI.out w2 hb; go_simp; try with_reducible rfl)
      refine wpAnyH_take (i := 9) (v := ?v9x) rfl (by kernel_rfl) (by kernel_rfl) (by kernel_rfl) (fun _ _ _ h => h) (Or.inl ⟨by kernel_rfl, ?h9x⟩) hS ?_
      case h9x => (rintro w2 hb; obtain ⟨e1, e2⟩ := HI.out w2 hb; go_simp; try with_reducible rfl)
      refine wpAnyH_take (i := 10) (v := ?v10x) rfl (by kernel_rfl) (by kernel_rfl) (by kernel_rfl) (fun _ _ _ h => h) (Or.inl ⟨by kernel_rfl, ?h10x⟩) hS ?_
      case h10x => (rintro w2 hb; obtain ⟨e1, e2⟩ := HI.out w2 hb; go_simp; try with_reducible rfl)
      refine wpAnyH_take (i := 11) (v := ?v11x) rfl (by kernel_rfl) (by kernel_rfl) (by kernel_rfl) (fun _ _ _ h => h) (Or.inl ⟨by kernel_rfl, ?h11x⟩) hS ?_
      case h11x => (rintro w2 hb; obtain ⟨e1, e2⟩ := HI.out w2 hb; go_simp; try with_reducible rfl)
      refine wpAnyH_take (i := 12) (v := ?v12x) rfl (by kernel_rfl) (by kernel_rfl) (by kernel_rfl) (fun _ _ _ h => h) (Or.inl ⟨by kernel_rfl, ?h12x⟩) hS ?_
      case h12x => (rintro w2 hb; obtain ⟨e1, e2⟩ := HI.out w2 hb; go_simp; try with_reducible rfl)
      refine wpAnyH_ready (rs := [13]) (by kernel_rfl) (by simp) (AllReadyH.cons rfl (fun K hK => ?_) AllReadyH.nil)
      go_simp
      go_wp2_with (go_at_call 13; refine (fill_two (HK.out.later ((Below.refl _ _).drew)) (by omega) HWD.out HQ.out rfl).mono ?_; rintro e v1 ⟨rfl, hU⟩; have HU2 := Lib.hid hU; clear hU)
      refine hK.out _ _ (HB1.out.trans (HU2.out.below.mono HB1.out.size)) (fun hS13 => ?_); clear hK K
      refine wpAnyH_done (by kernel_rfl) ?_ _
      go_simp
      go_wp2_with fail
      refine wp_region_held_drew (S := fun X => Below w.heap.size w X) (by kernel_rfl) ((HB1.out.trans (HU2.out.below.mono HB1.out.size)).drew) (fun hS => ?_)
      refine wpAnyH_take (i := 0) (v := ?v0y) rfl (by kernel_rfl) (by kernel_rfl) (by kernel_rfl) (fun _ _ _ h => h) (Or.inl ⟨by kernel_rfl, ?h0y⟩) hS ?_
      case h0y => (rintro w2 hb; obtain ⟨e1, e2⟩ := HI.out w2 hb; go_simp; try with_reducible rfl)
      refine wpAnyH_take (i := 1) (v := ?v1y) rfl (by kernel_rfl) (by kernel_rfl) (by kernel_rfl) (fun _ _ _ h => h) (Or.inl ⟨by kernel_rfl, ?h1y⟩) hS ?_
      case h1y => (rintro w2 hb; obtain ⟨e1, e2⟩ := HI.out w2 hb; go_simp; try with_reducible rfl)
      refine wpAnyH_take (i := 2) (v := ?v2y) rfl (by kernel_rfl) (by kernel_rfl) (by kernel_rfl) (fun _ _ _ h => h) (Or.inl ⟨by kernel_rfl, ?h2y⟩) hS ?_
      case h2y => (rintro w2 hb; obtain ⟨e1, e2⟩ := HI.out w2 hb; go_simp; try with_reducible rfl)
      refine wpAnyH_take (i := 3) (v := ?v3y) rfl (by kernel_rfl) (by kernel_rfl) (by kernel_rfl) (fun _ _ _ h => h) (Or.inl ⟨by kernel_rfl, ?h3y⟩) hS ?_
      case h3y => (rintro w2 hb; obtain ⟨e1, e2⟩ := HI.out w2 hb; go_simp; try with_reducible rfl)
      refine wpAnyH_take (i := 4) (v := ?v4y) rfl (by kernel_rfl) (by kernel_rfl) (by kernel_rfl) (fun _ _ _ h => h) (Or.inl ⟨by kernel_rfl, ?h4y⟩) hS ?_
      case h4y => (rintro w2 hb; obtain ⟨e1, e2⟩ := HI.out w2 hb; go_simp; try with_reducible rfl)
      refine wpAnyH_take (i := 5) (v := ?v5y) rfl (by kernel_rfl) (by kernel_rfl) (by kernel_rfl) (fun _ _ _ h => h) (Or.inl ⟨by kernel_rfl, ?h5y⟩) hS ?_
      case h5y => (rintro w2 hb; obtain ⟨e1, e2⟩ := HI.out w2 hb; go_simp; try with_reducible rfl)
      refine wpAnyH_take (i := 6) (v := ?v6y) rfl (by kernel_rfl) (by kernel_rfl) (by kernel_rfl) (fun _ _ _ h => h) (Or.inl ⟨by kernel_rfl, ?h6y⟩) hS ?_
      case h6y => (rintro w2 hb; obtain ⟨e1, e2⟩ := HI.out w2 hb; go_simp; try with_reducible rfl)
      refine wpAnyH_take (i := 7) (v := ?v7y) rfl (by kernel_rfl) (by kernel_rfl) (by kernel_rfl) (fun _ _ _ h => h) (Or.inl ⟨by kernel_rfl, ?h7y⟩) hS ?_
      case h7y => (rintro w2 hb; obtain ⟨e1, e2⟩ := HI.out w2 hb; go_simp; try with_reducible rfl)
      refine wpAnyH_take (i := 8) (v := ?v8y) rfl (by kernel_rfl) (by kernel_rfl) (by kernel_rfl) (fun _ _ _ h => h) (Or.inl ⟨by kernel_rfl, ?h8y⟩) hS ?_
      case h8y => (rintro w2 hb; obtain ⟨e1, e2⟩ := HI.out w2 hb; go_simp; try with_reducible rfl)
      refine wpAnyH_take (i := 9) (v := ?v9y) rfl (by kernel_rfl) (by kernel_rfl) (by kernel_rfl) (fun _ _ _ h => h) (Or.inl ⟨by kernel_rfl, ?h9y⟩) hS ?_
      case h9y => (rintro w2 hb; obtain ⟨e1, e2⟩ := HI.out w2 hb; go_simp; try with_reducible rfl)
      refine wpAnyH_take (i := 10) (v := ?v10y) rfl (by kernel_rfl) (by kernel_rfl) (by kernel_rfl) (fun _ _ _ h => h) (Or.inl ⟨by kernel_rfl, ?h10y⟩) hS ?_
      case h10y => (rintro w2 hb; obtain ⟨e1, e2⟩ := HI.out w2 hb; go_simp; try with_reducible rfl)
      refine wpAnyH_take (i := 11) (v := ?v11y) rfl (by kernel_rfl) (by kernel_rfl) (by kernel_rfl) (fun _ _ _ h => h) (Or.inl ⟨by kernel_rfl, ?h11y⟩) hS ?_
      case h11y => (rintro w2 hb; obtain ⟨e1, e2⟩ := HI.out w2 hb; go_simp; try with_reducible rfl)
      refine wpAnyH_take (i := 12) (v := ?v12y) rfl (by kernel_rfl) (by kernel_rfl) (by kernel_rfl) (fun _ _ _ h => h) (Or.inl ⟨by kernel_rfl, ?h12y⟩) hS ?_
      case h12y => (rintro w2 hb; obtain ⟨e1, e2⟩ := HI.out w2 hb; go_simp; try with_reducible rfl)
      refine wpAnyH_ready (rs := [13]) (by kernel_rfl) (by simp) (AllReadyH.cons rfl (fun K hK => ?_) AllReadyH.nil)
      go_simp
      go_wp2_with (go_at_call 13; refine (fill_two (HU2.out.symm.later ((Below.refl _ _).drew)) (by omega) HWD.out HQ.out rfl).mono ?_; rintro e v2 ⟨rfl, hU⟩; have HU3 := Lib.hid hU; clear hU)
      refine hK.out _ _ (HB1.out.trans (HU3.out.below.mono HB1.out.size)) (fun hS13 => ?_); clear hK K
      refine wpAnyH_done (by kernel_rfl) ?_ _
      go_simp
      go_wp2_with fail
      go_roundw
      case rel => exact ⟨k + 1, by omega, by simp, by rw [HSN.out]; exact HU3.out.symm⟩
      case measure => simp [intOf]; omega
    · obtain rfl : k = l.length := by omega
      have hlt2 : ¬ (↑l.length : Int) < ↑l.length := by omega
      have hu := HK.out
      rw [List.take_length] at hu
      obtain ⟨B, hB⟩ : ∃ B, fillsB (newF 12 12) l = B := ⟨_, rfl⟩
      rw [hB] at hu
      have hca := dec_apart B (ar, ac, ah, aw) (cr, cl, ch, cw) HFA.out HFC.out HAP.out
      have hac := dec_apart B (cr, cl, ch, cw) (ar, ac, ah, aw) HFC.out HFA.out (fun p h1 h2 => HAP.out p h2 h1)
      obtain ⟨p1, hp1⟩ : ∃ q, decR B (ar, ac, ah, aw) = q := ⟨_, rfl⟩
      obtain ⟨p2, hp2⟩ : ∃ q, decE B (ar, ac, ah, aw) = q := ⟨_, rfl⟩
      obtain ⟨q1, hq1⟩ : ∃ q, decR B (cr, cl, ch, cw) = q := ⟨_, rfl⟩
      obtain ⟨q2, hq2⟩ : ∃ q, decE B (cr, cl, ch, cw) = q := ⟨_, rfl⟩
      rw [hq1, hq2] at hca
      rw [hp1, hp2] at hac
      have HU := Lib.hid hu
      have HP := Lib.hid (And.intro hp1 hp2)
      have HQ := Lib.hid (And.intro hq1 hq2)
      have HCA := Lib.hid hca
      have HAC := Lib.hid hac
      have hbw := hu.below
      obtain ⟨_, a1, a2, a3, a4⟩ := box5 ((hbw.block _ (Array.getElem?_eq_some_iff.1 HY0.out).1).trans HY0.out)
      clear hu hB hca hac hp1 hp2 hq1 hq2 hbw HK
      go_wp2_with fail
      refine (decide_two HU.out (by omega) HWA.out HP.out.1 HP.out.2 rfl).mono ?_
      rintro e v1 ⟨rfl, hu⟩
      have HU1 := Lib.hid hu
      have hbw := hu.below
      obtain ⟨_, b1, b2, b3, b4⟩ := box5 ((hbw.block _ (Array.getElem?_eq_some_iff.1 HY1.out).1).trans HY1.out)
      clear hu hbw a1 a2 a3 a4
      go_wp2_with fail
      refine (decide_two HU1.out (by omega) HWC.out HCA.out.2 HCA.out.1 rfl).mono ?_
      rintro e v2 ⟨rfl, hu⟩
      have HU2 := Lib.hid hu.symm
      have hbw := hu.below
      obtain ⟨_, b1, b2, b3, b4⟩ := box5 ((hbw.block _ (Array.getElem?_eq_some_iff.1 HY1.out).1).trans HY1.out)
      clear hu hbw
      go_wp2_with fail
      refine (decide_two HU2.out (by omega) HWC.out HQ.out.1 HQ.out.2 rfl).mono ?_
      rintro e v3 ⟨rfl, hu⟩
      have HU3 := Lib.hid hu
      have hbw := hu.below
      obtain ⟨_, a1, a2, a3, a4⟩ := box5 ((hbw.block _ (Array.getElem?_eq_some_iff.1 HY0.out).1).trans HY0.out)
      clear hu hbw
      go_wp2_with fail
      refine (decide_two HU3.out (by omega) HWA.out HAC.out.2 HAC.out.1 rfl).mono ?_
      rintro e v4 ⟨rfl, hu⟩
      have HBF := Lib.hid (HB1.out.trans (hu.below.mono HB1.out.size))
      clear hu a1 a2 a3 a4
      go_wp2
      go_ret
      exact ⟨by simp, HBF.out⟩

set_option maxRecDepth 100000 in
set_option maxHeartbeats 16000000 in
theorem turned_a3 {w : World} (af : Bool) (ar ac ah aw : Int) (cf : Bool) (cr cl ch cw : Int) (HWA : Hid (Wf (ar, ac))) (HWC : Hid (Wf (cr, cl))) (v : Value) (l : List Pl) (HL : Hid (PairsAt w v l)) (HLB : Hid (∀ d ∈ l, Byte2 d)) (hlen : l.length ≤ 60) (h0 : ¬ ar < 0) (h1 : ¬ ac < 0) (h2 : ¬ cr < 0) (h3 : ¬ cl < 0) (h4 : ¬ 12 < ar) (h5 : ¬ 12 < ac) (h6 : ¬ 12 < cr) (h7 : ¬ 12 < cl) (h8 : ¬ ah < 1) (h9 : ¬ aw < 1) (h10 : ¬ ch < 1) (h11 : ¬ cw < 1) (h12 : ¬ 12 < ah) (h13 : ¬ 12 < aw) (h14 : ¬ 12 < ch) (h15 : ¬ 12 < cw) (k0 : ar < cr + ch) (k1 : cr < ar + ah) (k2 : ac < cl + cw) (k3 : ¬ cl < ac + aw) :
    Calls Try.prog 7 #[.agg #[.bool af, .int .i64 ar, .int .i64 ac, .int .i64 ah, .int .i64 aw], .agg #[.bool cf, .int .i64 cr, .int .i64 cl, .int .i64 ch, .int .i64 cw], v] w fun e w' => e = .returned (.bool true) ∧ Below w.heap.size w w' := by
  obtain ⟨A, cc, rfl, hcc, _⟩ := id HL.out
  have hb0 : Below w.heap.size w ((w.alloc (.cells #[.bool af, .int .i64 ar, .int .i64 ac, .int .i64 ah, .int .i64 aw] 32)).alloc (.cells #[.bool cf, .int .i64 cr, .int .i64 cl, .int .i64 ch, .int .i64 cw] 32)) := ((Below.refl _ _).alloc (Nat.le_refl _) _).alloc (by simp) _
  have hz0 : ((w.alloc (.cells #[.bool af, .int .i64 ar, .int .i64 ac, .int .i64 ah, .int .i64 aw] 32)).alloc (.cells #[.bool cf, .int .i64 cr, .int .i64 cl, .int .i64 ch, .int .i64 cw] 32)).heap[w.heap.size]? = some (.cells #[.bool af, .int .i64 ar, .int .i64 ac, .int .i64 ah, .int .i64 aw] 32 (0, 0)) := (Below.heap_alloc _ _ _ (by simp)).trans (World.alloc_heap_new w _)
  have hz1 : ((w.alloc (.cells #[.bool af, .int .i64 ar, .int .i64 ac, .int .i64 ah, .int .i64 aw] 32)).alloc (.cells #[.bool cf, .int .i64 cr, .int .i64 cl, .int .i64 ch, .int .i64 cw] 32)).heap[w.heap.size + 1]? = some (.cells #[.bool cf, .int .i64 cr, .int .i64 cl, .int .i64 ch, .int .i64 cw] 32 (0, 0)) := by
    simpa using World.alloc_heap_new (w.alloc (.cells #[.bool af, .int .i64 ar, .int .i64 ac, .int .i64 ah, .int .i64 aw] 32)) (.cells #[.bool cf, .int .i64 cr, .int .i64 cl, .int .i64 ch, .int .i64 cw] 32)
  obtain ⟨W0, hW0⟩ : ∃ W0, W0 = ((w.alloc (.cells #[.bool af, .int .i64 ar, .int .i64 ac, .int .i64 ah, .int .i64 aw] 32)).alloc (.cells #[.bool cf, .int .i64 cr, .int .i64 cl, .int .i64 ch, .int .i64 cw] 32)) := ⟨_, rfl⟩
  rw [← hW0] at hb0 hz0 hz1
  have HB0 := Lib.hid hb0
  have HZ0 := Lib.hid hz0
  have HZ1 := Lib.hid hz1
  have HW0 := Lib.hid hW0
  clear hb0 hz0 hz1 hW0
  go_enter Try.func7, Try.ntmps7
  go_wp2_with fail
  rw [← HW0.out]
  refine (awake_any _).mono ?_
  rintro e w1 ⟨rfl, hb1⟩
  have HB1 := Lib.hid (HB0.out.trans (hb1.mono HB0.out.size))
  have HY0 := Lib.hid ((hb1.block _ (Array.getElem?_eq_some_iff.1 HZ0.out).1).trans HZ0.out)
  have HY1 := Lib.hid ((hb1.block _ (Array.getElem?_eq_some_iff.1 HZ1.out).1).trans HZ1.out)
  clear hb1 HZ0 HZ1 HB0 HW0
  have hlt : ¬ (60 : Int) < ↑l.length := by omega
  obtain ⟨_, a1, a2, a3, a4⟩ := box5 HY0.out
  obtain ⟨_, b1, b2, b3, b4⟩ := box5 HY1.out
  have hw1 : IntKind.i64.wrap (cr + ch) = cr + ch := by rw [IntKind.wrap_i64]; omega
  have hw2 : IntKind.i64.wrap (ar + ah) = ar + ah := by rw [IntKind.wrap_i64]; omega
  have hw3 : IntKind.i64.wrap (cl + cw) = cl + cw := by rw [IntKind.wrap_i64]; omega
  have hw4 : IntKind.i64.wrap (ac + aw) = ac + aw := by rw [IntKind.wrap_i64]; omega
  have HAP : Hid (∀ p, inR (ar, ac, ah, aw) p = true → inR (cr, cl, ch, cw) p = true → False) := Lib.hid fun p h1 h2 => by have h1 := (inR_iff _ _).1 h1; have h2 := (inR_iff _ _).1 h2; simp only at h1 h2; omega
  have hfa : 1 ≤ ah ∧ 1 ≤ aw := by omega
  have hfc : 1 ≤ ch ∧ 1 ≤ cw := by omega
  have HFA := Lib.hid hfa
  have HFC := Lib.hid hfc
  clear hfa hfc
  go_wp2_with fail
  clear h0 h1 h2 h3 h4 h5 h6 h7 h8 h9 h10 h11 h12 h13 h14 h15 hw1 hw2 hw3 hw4 k0 k1 k2 k3 a1 a2 a3 a4 b1 b2 b3 b4 hlt
  refine (new_any 12 12 w1).mono ?_
  rintro e w2 ⟨rfl, n1, n2, n3⟩
  have N1 := Lib.hid n1
  have N2 := Lib.hid n2
  have N3 := Lib.hid n3
  clear n1 n2 n3
  go_wp2_with fail
  refine (new_any 12 12 w2).mono ?_
  rintro e w3 ⟨rfl, n4, n5, n6⟩
  have hT : Two w1 (w1.heap.size + 3) (w2.heap.size + 3) 0 0 (newF 12 12) (newF 12 12) w3 := by
    refine ⟨_, _, N1.out.later n5, n4, fun b hb hc => ?_, fun b hb => ?_, N2.out.trans (n5.mono N2.out.size)⟩
    · have := N3.out; omega
    · have := N3.out; rcases hb with hb | hb <;> omega
  obtain ⟨s1, hs1⟩ : ∃ s, w1.heap.size + 3 = s := ⟨_, rfl⟩
  obtain ⟨s2, hs2⟩ : ∃ s, w2.heap.size + 3 = s := ⟨_, rfl⟩
  rw [hs1, hs2] at hT
  rw [hs1, hs2]
  have HT := Lib.hid hT
  clear n4 n5 n6 hT hs1 hs2 N1 N2 N3
  go_wp2_with fail
  go_loopw [9] (fun i wr => ∃ k : Nat, k ≤ l.length ∧ i = .int .i64 k ∧ Two w1 s1 s2 k k (fillsB (newF 12 12) (l.take k)) (fillsB (newF 12 12) (l.take k)) wr) (fun i _ => l.length - (intOf i).toNat)
  case atStart => exact ⟨0, Nat.zero_le _, rfl, HT.out⟩
  case round =>
    obtain ⟨k, hk, rfl, hu⟩ := hrel
    have HK := Lib.hid hu
    clear hu HT
    by_cases hlt : k < l.length
    · have hx : l[k]? = some l[k] := List.getElem?_eq_getElem hlt
      obtain ⟨d, hd⟩ : ∃ d, l[k] = d := ⟨_, rfl⟩
      rw [hd] at hx
      have hsn : fillsB (newF 12 12) (l.take (k + 1)) = fillB (fillsB (newF 12 12) (l.take k)) d := by rw [List.take_add_one, hx]; exact fillsB_snoc _ _ _
      obtain ⟨B, hB⟩ : ∃ B, fillsB (newF 12 12) (l.take k) = B := ⟨_, rfl⟩
      rw [hB] at HK hsn
      have HSN := Lib.hid hsn
      have hbd := HLB.out d (List.mem_of_getElem? hx)
      have HWD := Lib.hid (byte_wf hbd)
      obtain ⟨ad, rfl, hI⟩ := pairs_in HL.out hx
      have HI := Lib.hid hI
      obtain ⟨x, y⟩ := d
      have hx2 : IntKind.i64.wrap x = x := by have := hbd.1; simp only at this; rw [IntKind.wrap_i64]; omega
      have hy2 : IntKind.i64.wrap y = y := by have := hbd.2; simp only at this; rw [IntKind.wrap_i64]; omega
      have hi0 : (0 : Int) ≤ ↑k := by omega
      have hi1 : (↑k : Int) < ↑l.length := by omega
      have hi2 : (↑l.length : Int) ≤ ↑cc := by omega
      obtain ⟨q1, hq1⟩ : ∃ q, fillR B (x, y) = q := ⟨_, rfl⟩
      have HQ := Lib.hid hq1
      simp only at HI HWD
      clear hx hd hsn hB hbd hI hq1
      go_wp2_with fail
      refine wp_region_held_drew (S := fun X => Below w.heap.size w X) (by kernel_rfl) ((HB1.out.trans (HK.out.below.mono HB1.out.size)).drew) (fun hS => ?_)
      refine wpAnyH_take (i := 0) (v := ?v0x) rfl (by kernel_rfl) (by kernel_rfl) (by kernel_rfl) (fun _ _ _ h => h) (Or.inl ⟨by kernel_rfl, ?h0x⟩) hS ?_
      case h0x => (rintro w2 hb; obtain ⟨e1, e2⟩ := HI.out w2 hb; go_simp; try with_reducible rfl)
      refine wpAnyH_take (i := 1) (v := ?v1x) rfl (by kernel_rfl) (by kernel_rfl) (by kernel_rfl) (fun _ _ _ h => h) (Or.inl ⟨by kernel_rfl, ?h1x⟩) hS ?_
      case h1x => (rintro w2 hb; obtain ⟨e1, e2⟩ := HI.out w2 hb; go_simp; try with_reducible rfl)
      refine wpAnyH_take (i := 2) (v := ?v2x) rfl (by kernel_rfl) (by kernel_rfl) (by kernel_rfl) (fun _ _ _ h => h) (Or.inl ⟨by kernel_rfl, ?h2x⟩) hS ?_
      case h2x => (rintro w2 hb; obtain ⟨e1, e2⟩ := HI.out w2 hb; go_simp; try with_reducible rfl)
      refine wpAnyH_take (i := 3) (v := ?v3x) rfl (by kernel_rfl) (by kernel_rfl) (by kernel_rfl) (fun _ _ _ h => h) (Or.inl ⟨by kernel_rfl, ?h3x⟩) hS ?_
      case h3x => (rintro w2 hb; obtain ⟨e1, e2⟩ := HI.out w2 hb; go_simp; try with_reducible rfl)
      refine wpAnyH_take (i := 4) (v := ?v4x) rfl (by kernel_rfl) (by kernel_rfl) (by kernel_rfl) (fun _ _ _ h => h) (Or.inl ⟨by kernel_rfl, ?h4x⟩) hS ?_
      case h4x => (rintro w2 hb; obtain ⟨e1, e2⟩ := HI.out w2 hb; go_simp; try with_reducible rfl)
      refine wpAnyH_take (i := 5) (v := ?v5x) rfl (by kernel_rfl) (by kernel_rfl) (by kernel_rfl) (fun _ _ _ h => h) (Or.inl ⟨by kernel_rfl, ?h5x⟩) hS ?_
      case h5x => (rintro w2 hb; obtain ⟨e1, e2⟩ := HI.out w2 hb; go_simp; try with_reducible rfl)
      refine wpAnyH_take (i := 6) (v := ?v6x) rfl (by kernel_rfl) (by kernel_rfl) (by kernel_rfl) (fun _ _ _ h => h) (Or.inl ⟨by kernel_rfl, ?h6x⟩) hS ?_
      case h6x => (rintro w2 hb; obtain ⟨e1, e2⟩ := HI.out w2 hb; go_simp; try with_reducible rfl)
      refine wpAnyH_take (i := 7) (v := ?v7x) rfl (by kernel_rfl) (by kernel_rfl) (by kernel_rfl) (fun _ _ _ h => h) (Or.inl ⟨by kernel_rfl, ?h7x⟩) hS ?_
      case h7x => (rintro w2 hb; obtain ⟨e1, e2⟩ := HI.out w2 hb; go_simp; try with_reducible rfl)
      refine wpAnyH_take (i := 8) (v := ?v8x) rfl (by kernel_rfl) (by kernel_rfl) (by kernel_rfl) (fun _ _ _ h => h) (Or.inl ⟨by kernel_rfl, ?h8x⟩) hS ?_
      case h8x => (rintro w2 hb; obtain ⟨e1, e2⟩ := HI.out w2 hb; go_simp; try with_reducible rfl)
      refine wpAnyH_take (i := 9) (v := ?v9x) rfl (by kernel_rfl) (by kernel_rfl) (by kernel_rfl) (fun _ _ _ h => h) (Or.inl ⟨by kernel_rfl, ?h9x⟩) hS ?_
      case h9x => (rintro w2 hb; obtain ⟨e1, e2⟩ := HI.out w2 hb; go_simp; try with_reducible rfl)
      refine wpAnyH_take (i := 10) (v := ?v10x) rfl (by kernel_rfl) (by kernel_rfl) (by kernel_rfl) (fun _ _ _ h => h) (Or.inl ⟨by kernel_rfl, ?h10x⟩) hS ?_
      case h10x => (rintro w2 hb; obtain ⟨e1, e2⟩ := HI.out w2 hb; go_simp; try with_reducible rfl)
      refine wpAnyH_take (i := 11) (v := ?v11x) rfl (by kernel_rfl) (by kernel_rfl) (by kernel_rfl) (fun _ _ _ h => h) (Or.inl ⟨by kernel_rfl, ?h11x⟩) hS ?_
      case h11x => (rintro w2 hb; obtain ⟨e1, e2⟩ := HI.out w2 hb; go_simp; try with_reducible rfl)
      refine wpAnyH_take (i := 12) (v := ?v12x) rfl (by kernel_rfl) (by kernel_rfl) (by kernel_rfl) (fun _ _ _ h => h) (Or.inl ⟨by kernel_rfl, ?h12x⟩) hS ?_
      case h12x => (rintro w2 hb; obtain ⟨e1, e2⟩ := HI.out w2 hb; go_simp; try with_reducible rfl)
      refine wpAnyH_ready (rs := [13]) (by kernel_rfl) (by simp) (AllReadyH.cons rfl (fun K hK => ?_) AllReadyH.nil)
      go_simp
      go_wp2_with (go_at_call 13; refine (fill_two (HK.out.later ((Below.refl _ _).drew)) (by omega) HWD.out HQ.out rfl).mono ?_; rintro e v1 ⟨rfl, hU⟩; have HU2 := Lib.hid hU; clear hU)
      refine hK.out _ _ (HB1.out.trans (HU2.out.below.mono HB1.out.size)) (fun hS13 => ?_); clear hK K
      refine wpAnyH_done (by kernel_rfl) ?_ _
      go_simp
      go_wp2_with fail
      refine wp_region_held_drew (S := fun X => Below w.heap.size w X) (by kernel_rfl) ((HB1.out.trans (HU2.out.below.mono HB1.out.size)).drew) (fun hS => ?_)
      refine wpAnyH_take (i := 0) (v := ?v0y) rfl (by kernel_rfl) (by kernel_rfl) (by kernel_rfl) (fun _ _ _ h => h) (Or.inl ⟨by kernel_rfl, ?h0y⟩) hS ?_
      case h0y => (rintro w2 hb; obtain ⟨e1, e2⟩ := HI.out w2 hb; go_simp; try with_reducible rfl)
      refine wpAnyH_take (i := 1) (v := ?v1y) rfl (by kernel_rfl) (by kernel_rfl) (by kernel_rfl) (fun _ _ _ h => h) (Or.inl ⟨by kernel_rfl, ?h1y⟩) hS ?_
      case h1y => (rintro w2 hb; obtain ⟨e1, e2⟩ := HI.out w2 hb; go_simp; try with_reducible rfl)
      refine wpAnyH_take (i := 2) (v := ?v2y) rfl (by kernel_rfl) (by kernel_rfl) (by kernel_rfl) (fun _ _ _ h => h) (Or.inl ⟨by kernel_rfl, ?h2y⟩) hS ?_
      case h2y => (rintro w2 hb; obtain ⟨e1, e2⟩ := HI.out w2 hb; go_simp; try with_reducible rfl)
      refine wpAnyH_take (i := 3) (v := ?v3y) rfl (by kernel_rfl) (by kernel_rfl) (by kernel_rfl) (fun _ _ _ h => h) (Or.inl ⟨by kernel_rfl, ?h3y⟩) hS ?_
      case h3y => (rintro w2 hb; obtain ⟨e1, e2⟩ := HI.out w2 hb; go_simp; try with_reducible rfl)
      refine wpAnyH_take (i := 4) (v := ?v4y) rfl (by kernel_rfl) (by kernel_rfl) (by kernel_rfl) (fun _ _ _ h => h) (Or.inl ⟨by kernel_rfl, ?h4y⟩) hS ?_
      case h4y => (rintro w2 hb; obtain ⟨e1, e2⟩ := HI.out w2 hb; go_simp; try with_reducible rfl)
      refine wpAnyH_take (i := 5) (v := ?v5y) rfl (by kernel_rfl) (by kernel_rfl) (by kernel_rfl) (fun _ _ _ h => h) (Or.inl ⟨by kernel_rfl, ?h5y⟩) hS ?_
      case h5y => (rintro w2 hb; obtain ⟨e1, e2⟩ := HI.out w2 hb; go_simp; try with_reducible rfl)
      refine wpAnyH_take (i := 6) (v := ?v6y) rfl (by kernel_rfl) (by kernel_rfl) (by kernel_rfl) (fun _ _ _ h => h) (Or.inl ⟨by kernel_rfl, ?h6y⟩) hS ?_
      case h6y => (rintro w2 hb; obtain ⟨e1, e2⟩ := HI.out w2 hb; go_simp; try with_reducible rfl)
      refine wpAnyH_take (i := 7) (v := ?v7y) rfl (by kernel_rfl) (by kernel_rfl) (by kernel_rfl) (fun _ _ _ h => h) (Or.inl ⟨by kernel_rfl, ?h7y⟩) hS ?_
      case h7y => (rintro w2 hb; obtain ⟨e1, e2⟩ := HI.out w2 hb; go_simp; try with_reducible rfl)
      refine wpAnyH_take (i := 8) (v := ?v8y) rfl (by kernel_rfl) (by kernel_rfl) (by kernel_rfl) (fun _ _ _ h => h) (Or.inl ⟨by kernel_rfl, ?h8y⟩) hS ?_
      case h8y => (rintro w2 hb; obtain ⟨e1, e2⟩ := HI.out w2 hb; go_simp; try with_reducible rfl)
      refine wpAnyH_take (i := 9) (v := ?v9y) rfl (by kernel_rfl) (by kernel_rfl) (by kernel_rfl) (fun _ _ _ h => h) (Or.inl ⟨by kernel_rfl, ?h9y⟩) hS ?_
      case h9y => (rintro w2 hb; obtain ⟨e1, e2⟩ := HI.out w2 hb; go_simp; try with_reducible rfl)
      refine wpAnyH_take (i := 10) (v := ?v10y) rfl (by kernel_rfl) (by kernel_rfl) (by kernel_rfl) (fun _ _ _ h => h) (Or.inl ⟨by kernel_rfl, ?h10y⟩) hS ?_
      case h10y => (rintro w2 hb; obtain ⟨e1, e2⟩ := HI.out w2 hb; go_simp; try with_reducible rfl)
      refine wpAnyH_take (i := 11) (v := ?v11y) rfl (by kernel_rfl) (by kernel_rfl) (by kernel_rfl) (fun _ _ _ h => h) (Or.inl ⟨by kernel_rfl, ?h11y⟩) hS ?_
      case h11y => (rintro w2 hb; obtain ⟨e1, e2⟩ := HI.out w2 hb; go_simp; try with_reducible rfl)
      refine wpAnyH_take (i := 12) (v := ?v12y) rfl (by kernel_rfl) (by kernel_rfl) (by kernel_rfl) (fun _ _ _ h => h) (Or.inl ⟨by kernel_rfl, ?h12y⟩) hS ?_
      case h12y => (rintro w2 hb; obtain ⟨e1, e2⟩ := HI.out w2 hb; go_simp; try with_reducible rfl)
      refine wpAnyH_ready (rs := [13]) (by kernel_rfl) (by simp) (AllReadyH.cons rfl (fun K hK => ?_) AllReadyH.nil)
      go_simp
      go_wp2_with (go_at_call 13; refine (fill_two (HU2.out.symm.later ((Below.refl _ _).drew)) (by omega) HWD.out HQ.out rfl).mono ?_; rintro e v2 ⟨rfl, hU⟩; have HU3 := Lib.hid hU; clear hU)
      refine hK.out _ _ (HB1.out.trans (HU3.out.below.mono HB1.out.size)) (fun hS13 => ?_); clear hK K
      refine wpAnyH_done (by kernel_rfl) ?_ _
      go_simp
      go_wp2_with fail
      go_roundw
      case rel => exact ⟨k + 1, by omega, by simp, by rw [HSN.out]; exact HU3.out.symm⟩
      case measure => simp [intOf]; omega
    · obtain rfl : k = l.length := by omega
      have hlt2 : ¬ (↑l.length : Int) < ↑l.length := by omega
      have hu := HK.out
      rw [List.take_length] at hu
      obtain ⟨B, hB⟩ : ∃ B, fillsB (newF 12 12) l = B := ⟨_, rfl⟩
      rw [hB] at hu
      have hca := dec_apart B (ar, ac, ah, aw) (cr, cl, ch, cw) HFA.out HFC.out HAP.out
      have hac := dec_apart B (cr, cl, ch, cw) (ar, ac, ah, aw) HFC.out HFA.out (fun p h1 h2 => HAP.out p h2 h1)
      obtain ⟨p1, hp1⟩ : ∃ q, decR B (ar, ac, ah, aw) = q := ⟨_, rfl⟩
      obtain ⟨p2, hp2⟩ : ∃ q, decE B (ar, ac, ah, aw) = q := ⟨_, rfl⟩
      obtain ⟨q1, hq1⟩ : ∃ q, decR B (cr, cl, ch, cw) = q := ⟨_, rfl⟩
      obtain ⟨q2, hq2⟩ : ∃ q, decE B (cr, cl, ch, cw) = q := ⟨_, rfl⟩
      rw [hq1, hq2] at hca
      rw [hp1, hp2] at hac
      have HU := Lib.hid hu
      have HP := Lib.hid (And.intro hp1 hp2)
      have HQ := Lib.hid (And.intro hq1 hq2)
      have HCA := Lib.hid hca
      have HAC := Lib.hid hac
      have hbw := hu.below
      obtain ⟨_, a1, a2, a3, a4⟩ := box5 ((hbw.block _ (Array.getElem?_eq_some_iff.1 HY0.out).1).trans HY0.out)
      clear hu hB hca hac hp1 hp2 hq1 hq2 hbw HK
      go_wp2_with fail
      refine (decide_two HU.out (by omega) HWA.out HP.out.1 HP.out.2 rfl).mono ?_
      rintro e v1 ⟨rfl, hu⟩
      have HU1 := Lib.hid hu
      have hbw := hu.below
      obtain ⟨_, b1, b2, b3, b4⟩ := box5 ((hbw.block _ (Array.getElem?_eq_some_iff.1 HY1.out).1).trans HY1.out)
      clear hu hbw a1 a2 a3 a4
      go_wp2_with fail
      refine (decide_two HU1.out (by omega) HWC.out HCA.out.2 HCA.out.1 rfl).mono ?_
      rintro e v2 ⟨rfl, hu⟩
      have HU2 := Lib.hid hu.symm
      have hbw := hu.below
      obtain ⟨_, b1, b2, b3, b4⟩ := box5 ((hbw.block _ (Array.getElem?_eq_some_iff.1 HY1.out).1).trans HY1.out)
      clear hu hbw
      go_wp2_with fail
      refine (decide_two HU2.out (by omega) HWC.out HQ.out.1 HQ.out.2 rfl).mono ?_
      rintro e v3 ⟨rfl, hu⟩
      have HU3 := Lib.hid hu
      have hbw := hu.below
      obtain ⟨_, a1, a2, a3, a4⟩ := box5 ((hbw.block _ (Array.getElem?_eq_some_iff.1 HY0.out).1).trans HY0.out)
      clear hu hbw
      go_wp2_with fail
      refine (decide_two HU3.out (by omega) HWA.out HAC.out.2 HAC.out.1 rfl).mono ?_
      rintro e v4 ⟨rfl, hu⟩
      have HBF := Lib.hid (HB1.out.trans (hu.below.mono HB1.out.size))
      clear hu a1 a2 a3 a4
      go_wp2
      go_ret
      exact ⟨by simp, HBF.out⟩
end Go.Proofs.Ytdeneogbnmedkaa
