/- The document's Between. -/
import Derived.Test.YtngomgjhakgehaaRf
import Derived.Test.YtngomgjhakgehaaRe
namespace Go.Proofs.Ytngomgjhakgehaa
open Go.RowKit Go.Maps

set_option maxRecDepth 100000 in
set_option maxHeartbeats 6400000 in
theorem rbetween_none (s : Nat) (l : List Ent) (f1 f2 t1 t2 : Int) (w : World) (h : RefR w s l) (hlen : l.length ≤ 100000) (r1 r2 : Int) (h1 : findE l (f1, f2) = r1) (h2 : findE l (t1, t2) = r2) (hr : r1 < 0 ∨ r2 < 0) :
    Calls Try.prog 24 #[.pointer (some ⟨s, 0, none⟩), .agg #[.int .i64 f1, .int .i64 f2], .agg #[.int .i64 t1, .int .i64 t2]] w fun e w' => e = .returned (.slice none 0 0) ∧ Below w.heap.size w w' := by
  have F1 := Lib.hid h1
  have F2 := Lib.hid h2
  have hz1 : (w.alloc (.cells #[.int .i64 f1, .int .i64 f2] 25)).heap.size = w.heap.size + 1 := by simp
  obtain ⟨w0, hw0⟩ : ∃ w0, (w.alloc (.cells #[.int .i64 f1, .int .i64 f2] 25)).alloc (.cells #[.int .i64 t1, .int .i64 t2] 25) = w0 := ⟨_, rfl⟩
  have hb0 : Below w.heap.size w w0 := by rw [← hw0]; exact ((Below.refl _ _).alloc (Nat.le_refl _) _).alloc (by simp) _
  have B0 : Hid (Below w.heap.size w w0.drew) := Lib.hid hb0.drew
  have HP : Hid (∀ W, Below w0.drew.heap.size w0.drew W → RefR W s l) := Lib.hid (fun W hW => RefR.below (w := w0.drew) (h.below hb0.drew) hW)
  have hN : IdBox w0.drew w.heap.size (f1, f2) ∧ IdBox w0.drew (w.heap.size + 1) (t1, t2) := by
    have e1 : IdBox w0 w.heap.size (f1, f2) := by rw [← hw0]; exact (IdBox.new w f1 f2).below ((Below.refl _ _).alloc (Nat.le_refl _) _)
    have e2 : IdBox w0 (w.heap.size + 1) (t1, t2) := by
      have := IdBox.new (w.alloc (.cells #[.int .i64 f1, .int .i64 f2] 25)) t1 t2
      rw [hz1, hw0] at this
      exact this
    exact ⟨e1, e2⟩
  have HN := Lib.hid hN
  clear h1 h2 h hb0 hN hz1
  go_enter Try.func24, Try.ntmps24
  go_wp2_with fail
  clear hw0
  refine wp_region_held_drew (S := fun W => IdBox W w.heap.size (f1, f2) ∧ IdBox W (w.heap.size + 1) (t1, t2)) (by kernel_rfl) HN.out (fun hS => ?_)
  refine wpAnyH_take (i := 0) (v := ?v0a) rfl (by kernel_rfl) (by kernel_rfl) (by kernel_rfl) (fun _ _ _ h => h) (Or.inl ⟨by kernel_rfl, ?h0a⟩) hS ?_
  case h0a => (rintro w2 ⟨⟨e0, e1, _⟩, e2, e3, _⟩; go_simp; try with_reducible rfl)
  refine wpAnyH_take (i := 1) (v := ?v1a) rfl (by kernel_rfl) (by kernel_rfl) (by kernel_rfl) (fun _ _ _ h => h) (Or.inl ⟨by kernel_rfl, ?h1a⟩) hS ?_
  case h1a => (rintro w2 ⟨⟨e0, e1, _⟩, e2, e3, _⟩; go_simp; try with_reducible rfl)
  refine wpAnyH_take (i := 3) (v := ?v3a) rfl (by kernel_rfl) (by kernel_rfl) (by kernel_rfl) (fun _ _ _ h => h) (Or.inl ⟨by kernel_rfl, ?h3a⟩) hS ?_
  case h3a => (rintro w2 ⟨⟨e0, e1, _⟩, e2, e3, _⟩; go_simp; try with_reducible rfl)
  refine wpAnyH_take (i := 4) (v := ?v4a) rfl (by kernel_rfl) (by kernel_rfl) (by kernel_rfl) (fun _ _ _ h => h) (Or.inl ⟨by kernel_rfl, ?h4a⟩) hS ?_
  case h4a => (rintro w2 ⟨⟨e0, e1, _⟩, e2, e3, _⟩; go_simp; try with_reducible rfl)
  refine wpAnyH_ready (rs := [2]) (by kernel_rfl) (by simp) (AllReadyH.cons rfl (fun K hK => ?_) AllReadyH.nil)
  go_simp
  go_wp2_with (go_at_call 21; refine (rfind_any s l f1 f2 _ (HP.out _ (Below.refl _ _)) hlen).mono ?_; rw [F1.out]; rintro e w20 ⟨rfl, hb20⟩)
  refine hK.out _ _ (⟨hS.1.below hb20, hS.2.below hb20⟩) (fun hS2 => ?_); clear hK K
  have D20 := Lib.hid hb20
  clear hb20
  refine wpAnyH_ready (rs := [5]) (by kernel_rfl) (by simp) (AllReadyH.cons rfl (fun K hK => ?_) AllReadyH.nil)
  go_simp
  go_wp2_with (go_at_call 21; refine (rfind_any s l t1 t2 _ (HP.out _ D20.out) hlen).mono ?_; rw [F2.out]; rintro e w21 ⟨rfl, hb21⟩)
  refine hK.out _ _ (⟨hS2.1.below hb21, hS2.2.below hb21⟩) (fun hS5 => ?_); clear hK K
  have D21 := Lib.hid (D20.out.trans (hb21.mono D20.out.size))
  clear hb21 D20
  refine wpAnyH_take (i := 6) (v := ?v6a) rfl (by kernel_rfl) (by kernel_rfl) (by kernel_rfl) (fun _ _ _ h => h) (Or.inl ⟨by kernel_rfl, ?h6a⟩) hS5 ?_
  case h6a => (rintro w2 ⟨⟨e0, e1, _⟩, e2, e3, _⟩; go_simp; try with_reducible rfl)
  refine wpAnyH_take (i := 7) (v := ?v7a) rfl (by kernel_rfl) (by kernel_rfl) (by kernel_rfl) (fun _ _ _ h => h) (Or.inl ⟨by kernel_rfl, ?h7a⟩) hS5 ?_
  case h7a => (rintro w2 ⟨⟨e0, e1, _⟩, e2, e3, _⟩; go_simp; try with_reducible rfl)
  refine wpAnyH_done (by kernel_rfl) ?_ _
  go_simp
  by_cases hr1 : r1 < 0
  · go_wp2
    go_ret
    exact ⟨rfl, B0.out.trans (D21.out.mono B0.out.size)⟩
  · have hr2 : r2 < 0 := by omega
    go_wp2
    go_ret
    exact ⟨rfl, B0.out.trans (D21.out.mono B0.out.size)⟩

set_option maxRecDepth 100000 in
set_option maxHeartbeats 6400000 in
theorem rbetween_some (s : Nat) (l : List Ent) (f1 f2 t1 t2 : Int) (w : World) (h : RefR w s l) (hlen : l.length ≤ 100000) (i j lo hi : Nat) (h1 : findE l (f1, f2) = (i : Int)) (h2 : findE l (t1, t2) = (j : Int)) (hi0 : i < l.length) (hj0 : j < l.length) (hlo : lo = min i j) (hhi : hi = max i j) (m : List Ent) (hm0 : (l.drop lo).take (hi + 1 - lo) = m) :
    Calls Try.prog 24 #[.pointer (some ⟨s, 0, none⟩), .agg #[.int .i64 f1, .int .i64 f2], .agg #[.int .i64 t1, .int .i64 t2]] w fun e w' => (∃ v, e = .returned v ∧ w'.ownsRow w.heap.size 25 2 v (liveE m).length (flat2 (liveE m))) ∧ Below w.heap.size w w' := by
  have F1 := Lib.hid h1
  have F2 := Lib.hid h2
  have hz1 : (w.alloc (.cells #[.int .i64 f1, .int .i64 f2] 25)).heap.size = w.heap.size + 1 := by simp
  obtain ⟨w0, hw0⟩ : ∃ w0, (w.alloc (.cells #[.int .i64 f1, .int .i64 f2] 25)).alloc (.cells #[.int .i64 t1, .int .i64 t2] 25) = w0 := ⟨_, rfl⟩
  have hb0 : Below w.heap.size w w0 := by rw [← hw0]; exact ((Below.refl _ _).alloc (Nat.le_refl _) _).alloc (by simp) _
  have B0 : Hid (Below w.heap.size w w0.drew) := Lib.hid hb0.drew
  have HP : Hid (∀ W, Below w0.drew.heap.size w0.drew W → RefR W s l) := Lib.hid (fun W hW => RefR.below (w := w0.drew) (h.below hb0.drew) hW)
  have hN : IdBox w0.drew w.heap.size (f1, f2) ∧ IdBox w0.drew (w.heap.size + 1) (t1, t2) := by
    have e1 : IdBox w0 w.heap.size (f1, f2) := by rw [← hw0]; exact (IdBox.new w f1 f2).below ((Below.refl _ _).alloc (Nat.le_refl _) _)
    have e2 : IdBox w0 (w.heap.size + 1) (t1, t2) := by
      have := IdBox.new (w.alloc (.cells #[.int .i64 f1, .int .i64 f2] 25)) t1 t2
      rw [hz1, hw0] at this
      exact this
    exact ⟨e1, e2⟩
  have HN := Lib.hid hN
  obtain ⟨i0, hj, hj0', hj1', hj2⟩ := info_parts info25
  have HM := Lib.hid hm0
  clear hm0
  clear h1 h2 h hb0 hN hz1
  go_enter Try.func24, Try.ntmps24
  go_wp2_with fail
  clear hw0
  refine wp_region_held_drew (S := fun W => IdBox W w.heap.size (f1, f2) ∧ IdBox W (w.heap.size + 1) (t1, t2)) (by kernel_rfl) HN.out (fun hS => ?_)
  refine wpAnyH_take (i := 0) (v := ?v0a) rfl (by kernel_rfl) (by kernel_rfl) (by kernel_rfl) (fun _ _ _ h => h) (Or.inl ⟨by kernel_rfl, ?h0a⟩) hS ?_
  case h0a => (rintro w2 ⟨⟨e0, e1, _⟩, e2, e3, _⟩; go_simp; try with_reducible rfl)
  refine wpAnyH_take (i := 1) (v := ?v1a) rfl (by kernel_rfl) (by kernel_rfl) (by kernel_rfl) (fun _ _ _ h => h) (Or.inl ⟨by kernel_rfl, ?h1a⟩) hS ?_
  case h1a => (rintro w2 ⟨⟨e0, e1, _⟩, e2, e3, _⟩; go_simp; try with_reducible rfl)
  refine wpAnyH_take (i := 3) (v := ?v3a) rfl (by kernel_rfl) (by kernel_rfl) (by kernel_rfl) (fun _ _ _ h => h) (Or.inl ⟨by kernel_rfl, ?h3a⟩) hS ?_
  case h3a => (rintro w2 ⟨⟨e0, e1, _⟩, e2, e3, _⟩; go_simp; try with_reducible rfl)
  refine wpAnyH_take (i := 4) (v := ?v4a) rfl (by kernel_rfl) (by kernel_rfl) (by kernel_rfl) (fun _ _ _ h => h) (Or.inl ⟨by kernel_rfl, ?h4a⟩) hS ?_
  case h4a => (rintro w2 ⟨⟨e0, e1, _⟩, e2, e3, _⟩; go_simp; try with_reducible rfl)
  refine wpAnyH_ready (rs := [2]) (by kernel_rfl) (by simp) (AllReadyH.cons rfl (fun K hK => ?_) AllReadyH.nil)
  go_simp
  go_wp2_with (go_at_call 21; refine (rfind_any s l f1 f2 _ (HP.out _ (Below.refl _ _)) hlen).mono ?_; rw [F1.out]; rintro e w20 ⟨rfl, hb20⟩)
  refine hK.out _ _ (⟨hS.1.below hb20, hS.2.below hb20⟩) (fun hS2 => ?_); clear hK K
  have D20 := Lib.hid hb20
  clear hb20
  refine wpAnyH_ready (rs := [5]) (by kernel_rfl) (by simp) (AllReadyH.cons rfl (fun K hK => ?_) AllReadyH.nil)
  go_simp
  go_wp2_with (go_at_call 21; refine (rfind_any s l t1 t2 _ (HP.out _ D20.out) hlen).mono ?_; rw [F2.out]; rintro e w21 ⟨rfl, hb21⟩)
  refine hK.out _ _ (⟨hS2.1.below hb21, hS2.2.below hb21⟩) (fun hS5 => ?_); clear hK K
  have D21 := Lib.hid (D20.out.trans (hb21.mono D20.out.size))
  clear hb21 D20
  refine wpAnyH_take (i := 6) (v := ?v6a) rfl (by kernel_rfl) (by kernel_rfl) (by kernel_rfl) (fun _ _ _ h => h) (Or.inl ⟨by kernel_rfl, ?h6a⟩) hS5 ?_
  case h6a => (rintro w2 ⟨⟨e0, e1, _⟩, e2, e3, _⟩; go_simp; try with_reducible rfl)
  refine wpAnyH_take (i := 7) (v := ?v7a) rfl (by kernel_rfl) (by kernel_rfl) (by kernel_rfl) (fun _ _ _ h => h) (Or.inl ⟨by kernel_rfl, ?h7a⟩) hS5 ?_
  case h7a => (rintro w2 ⟨⟨e0, e1, _⟩, e2, e3, _⟩; go_simp; try with_reducible rfl)
  refine wpAnyH_done (by kernel_rfl) ?_ _
  go_simp
  have hi1 : ¬ (↑i : Int) < 0 := by omega
  have hj1 : ¬ (↑j : Int) < 0 := by omega
  by_cases hij : i ≤ j
  · have hij1 : ¬ (↑j : Int) < ↑i := by omega
    obtain ⟨e1, e2⟩ : lo = i ∧ hi = j := by omega
    clear hlo hhi
    subst e1 e2
    have HBW := Lib.hid (B0.out.trans (D21.out.mono B0.out.size))
    have hzz : w.heap.size ≤ w21.heap.size := HBW.out.size
    have HRR := Lib.hid (HP.out _ D21.out)
    clear hS hS2 hS5 HP HN D21 B0 F1 F2 hi1 hj1
    go_wp2_with fail
    go_loopw [9, 10] (fun u i wr => ∃ k : Nat, lo ≤ k ∧ k ≤ hi + 1 ∧ i = .int .i64 k ∧ wr.ownsRow w21.heap.size 25 2 u (liveE ((l.drop lo).take (k - lo))).length (flat2 (liveE ((l.drop lo).take (k - lo)))) ∧ Below w21.heap.size w21 wr) (fun _ i _ => hi + 1 - (intOf i).toNat)
    case atStart => exact ⟨lo, Nat.le_refl _, by omega, rfl, by rw [Nat.sub_self]; exact ⟨rfl, .inl ⟨rfl, rfl⟩⟩, Below.refl _ _⟩
    case round =>
      obtain ⟨k, hlk, hk, rfl, hrow, hB⟩ := hrel
      obtain ⟨A9, c9, rfl⟩ := own_shape hrow
      have HROW := Lib.hid hrow
      have HW := Lib.hid hB
      have HR2 := Lib.hid (HRR.out.below hB)
      clear hrow hB
      by_cases hlt : k ≤ hi
      · have hkl : k < l.length := by omega
        have hx : l[k]? = some l[k] := List.getElem?_eq_getElem hkl
        have hd : (l.drop lo).take (k + 1 - lo) = (l.drop lo).take (k - lo) ++ [l[k]] := by
          rw [show k + 1 - lo = (k - lo) + 1 by omega, List.take_add_one, List.getElem?_drop, show lo + (k - lo) = k by omega, hx]
          rfl
        obtain ⟨e, he⟩ : ∃ e, l[k] = e := ⟨_, rfl⟩
        rw [he] at hx hd
        have HD := Lib.hid hd
        obtain ⟨v, hv, A, c, hve, hc, hI⟩ := HR2.out.ids
        rw [List.length_map] at hve hc
        subst hve
        obtain ⟨ad, rfl, c2, c3⟩ := hI k e.1 (by rw [List.getElem?_map, hx]; rfl)
        obtain ⟨BB, dd, hv2, hd2, hbs⟩ := HR2.out.live
        obtain ⟨be, rfl, c4⟩ := hbs k e hx
        obtain ⟨⟨x, y⟩, b⟩ := e
        simp only at c2 c3 c4
        have hk0 : (0 : Int) ≤ ↑k := by omega
        have hk1 : (↑k : Int) < ↑l.length := by omega
        have hk2 : (↑l.length : Int) ≤ ↑c := by omega
        have hk3 : (↑l.length : Int) ≤ ↑dd := by omega
        have hk4 : (↑k : Int) ≤ ↑hi := by omega
        have hz := HW.out.size
        have hln : (liveE ((l.drop lo).take (k - lo))).length ≤ l.length := Nat.le_trans (liveE_len _) (by simp; omega)
        clear hx hd he hI hbs
        cases b
        · go_wp2_with fail
          go_roundw
          case rel => exact ⟨k + 1, by omega, by omega, by simp, by rw [HD.out, liveE_snoc]; simpa using HROW.out, HW.out⟩
          case measure => simp [intOf]; omega
        · go_wp2_with (at_builtin; refine wpList_append_own _ rfl _ _ 22 rfl w21.heap.size 25 i0 (.agg #[.int .i64 0, .int .i64 0]) 2 16 Try.underlying22 hj hj0' hj1' hj2 rfl (by decide) _ _ _ rfl (HROW.out.alloc _) ⟨wr.heap.size, 0, none⟩ 1 1 [.int .i64 x, .int .i64 y] rfl rfl (lit_at rfl) (one_lit _ _) (by unfold maxLen; omega) (by omega) (by simp; omega) ?_; intro v1 w3 hown1 hgrow1 hnil1; have HO1 := Lib.hid hown1; have HG1 := Lib.hid hgrow1; clear hown1 hgrow1 hnil1)
          refine ⟨⟨k + 1, by omega, by omega, by simp, ?_, ?_⟩, by simp [intOf]; omega⟩
          · rw [HD.out, liveE_snoc]
            have h9 := HO1.out
            simp only [if_true, List.length_append, List.length_cons, List.length_nil, flat2_app]
            exact h9
          · refine (HW.out.alloc hz _).grown HG1.out (by simp; omega) (fun j e => ?_)
            by_cases hj9 : w21.heap.size ≤ j
            · exact hj9
            · exact absurd e.symm (own_ge2 HROW.out (by omega))
      · obtain rfl : k = hi + 1 := by omega
        have hlt2 : ¬ (↑hi + 1 : Int) ≤ ↑hi := by omega
        have hlt3 : ¬ (↑(hi + 1) : Int) ≤ ↑hi := by omega
        go_wp2
        refine bodyPost_ret (v := .slice A9 (liveE ((l.drop lo).take (hi + 1 - lo))).length c9) (by simp [results, Try.f24, go_sem]) rfl ⟨⟨_, rfl, ?_⟩, HBW.out.trans (HW.out.mono hzz)⟩
        rw [← HM.out]
        exact own_base HROW.out hzz
  · have hij1 : (↑j : Int) < ↑i := by omega
    obtain ⟨e1, e2⟩ : lo = j ∧ hi = i := by omega
    clear hlo hhi
    subst e1 e2
    have HBW := Lib.hid (B0.out.trans (D21.out.mono B0.out.size))
    have hzz : w.heap.size ≤ w21.heap.size := HBW.out.size
    have HRR := Lib.hid (HP.out _ D21.out)
    clear hS hS2 hS5 HP HN D21 B0 F1 F2 hi1 hj1
    go_wp2_with fail
    go_loopw [9, 10] (fun u i wr => ∃ k : Nat, lo ≤ k ∧ k ≤ hi + 1 ∧ i = .int .i64 k ∧ wr.ownsRow w21.heap.size 25 2 u (liveE ((l.drop lo).take (k - lo))).length (flat2 (liveE ((l.drop lo).take (k - lo)))) ∧ Below w21.heap.size w21 wr) (fun _ i _ => hi + 1 - (intOf i).toNat)
    case atStart => exact ⟨lo, Nat.le_refl _, by omega, rfl, by rw [Nat.sub_self]; exact ⟨rfl, .inl ⟨rfl, rfl⟩⟩, Below.refl _ _⟩
    case round =>
      obtain ⟨k, hlk, hk, rfl, hrow, hB⟩ := hrel
      obtain ⟨A9, c9, rfl⟩ := own_shape hrow
      have HROW := Lib.hid hrow
      have HW := Lib.hid hB
      have HR2 := Lib.hid (HRR.out.below hB)
      clear hrow hB
      by_cases hlt : k ≤ hi
      · have hkl : k < l.length := by omega
        have hx : l[k]? = some l[k] := List.getElem?_eq_getElem hkl
        have hd : (l.drop lo).take (k + 1 - lo) = (l.drop lo).take (k - lo) ++ [l[k]] := by
          rw [show k + 1 - lo = (k - lo) + 1 by omega, List.take_add_one, List.getElem?_drop, show lo + (k - lo) = k by omega, hx]
          rfl
        obtain ⟨e, he⟩ : ∃ e, l[k] = e := ⟨_, rfl⟩
        rw [he] at hx hd
        have HD := Lib.hid hd
        obtain ⟨v, hv, A, c, hve, hc, hI⟩ := HR2.out.ids
        rw [List.length_map] at hve hc
        subst hve
        obtain ⟨ad, rfl, c2, c3⟩ := hI k e.1 (by rw [List.getElem?_map, hx]; rfl)
        obtain ⟨BB, dd, hv2, hd2, hbs⟩ := HR2.out.live
        obtain ⟨be, rfl, c4⟩ := hbs k e hx
        obtain ⟨⟨x, y⟩, b⟩ := e
        simp only at c2 c3 c4
        have hk0 : (0 : Int) ≤ ↑k := by omega
        have hk1 : (↑k : Int) < ↑l.length := by omega
        have hk2 : (↑l.length : Int) ≤ ↑c := by omega
        have hk3 : (↑l.length : Int) ≤ ↑dd := by omega
        have hk4 : (↑k : Int) ≤ ↑hi := by omega
        have hz := HW.out.size
        have hln : (liveE ((l.drop lo).take (k - lo))).length ≤ l.length := Nat.le_trans (liveE_len _) (by simp; omega)
        clear hx hd he hI hbs
        cases b
        · go_wp2_with fail
          go_roundw
          case rel => exact ⟨k + 1, by omega, by omega, by simp, by rw [HD.out, liveE_snoc]; simpa using HROW.out, HW.out⟩
          case measure => simp [intOf]; omega
        · go_wp2_with (at_builtin; refine wpList_append_own _ rfl _ _ 22 rfl w21.heap.size 25 i0 (.agg #[.int .i64 0, .int .i64 0]) 2 16 Try.underlying22 hj hj0' hj1' hj2 rfl (by decide) _ _ _ rfl (HROW.out.alloc _) ⟨wr.heap.size, 0, none⟩ 1 1 [.int .i64 x, .int .i64 y] rfl rfl (lit_at rfl) (one_lit _ _) (by unfold maxLen; omega) (by omega) (by simp; omega) ?_; intro v1 w3 hown1 hgrow1 hnil1; have HO1 := Lib.hid hown1; have HG1 := Lib.hid hgrow1; clear hown1 hgrow1 hnil1)
          refine ⟨⟨k + 1, by omega, by omega, by simp, ?_, ?_⟩, by simp [intOf]; omega⟩
          · rw [HD.out, liveE_snoc]
            have h9 := HO1.out
            simp only [if_true, List.length_append, List.length_cons, List.length_nil, flat2_app]
            exact h9
          · refine (HW.out.alloc hz _).grown HG1.out (by simp; omega) (fun j e => ?_)
            by_cases hj9 : w21.heap.size ≤ j
            · exact hj9
            · exact absurd e.symm (own_ge2 HROW.out (by omega))
      · obtain rfl : k = hi + 1 := by omega
        have hlt2 : ¬ (↑hi + 1 : Int) ≤ ↑hi := by omega
        have hlt3 : ¬ (↑(hi + 1) : Int) ≤ ↑hi := by omega
        go_wp2
        refine bodyPost_ret (v := .slice A9 (liveE ((l.drop lo).take (hi + 1 - lo))).length c9) (by simp [results, Try.f24, go_sem]) rfl ⟨⟨_, rfl, ?_⟩, HBW.out.trans (HW.out.mono hzz)⟩
        rw [← HM.out]
        exact own_base HROW.out hzz
/-- the document's Between, of every two -/
theorem rbetween_any (s : Nat) (l : List Ent) (f1 f2 t1 t2 : Int) (w : World) (h : RefR w s l) (hlen : l.length ≤ 100000) :
    Calls Try.prog 24 #[.pointer (some ⟨s, 0, none⟩), .agg #[.int .i64 f1, .int .i64 f2], .agg #[.int .i64 t1, .int .i64 t2]] w fun e w' => (∃ v, e = .returned v ∧ w'.ownsRow w.heap.size 25 2 v (betweenE l (f1, f2) (t1, t2)).length (flat2 (betweenE l (f1, f2) (t1, t2)))) ∧ Below w.heap.size w w' := by
  have hnil : ∀ w' : World, w'.ownsRow w.heap.size 25 2 (.slice none 0 0) 0 [] := fun _ => ⟨rfl, .inl ⟨rfl, rfl⟩⟩
  cases hf : idxE l (f1, f2) with
  | none =>
    have e0 : betweenE l (f1, f2) (t1, t2) = [] := by unfold betweenE; rw [hf]
    rw [e0]
    refine (rbetween_none s l f1 f2 t1 t2 w h hlen _ _ rfl rfl (.inl (by unfold findE; rw [hf]; simp))).mono ?_
    rintro e w' ⟨rfl, hb⟩
    exact ⟨⟨_, rfl, hnil _⟩, hb⟩
  | some i =>
    cases ht : idxE l (t1, t2) with
    | none =>
      have e0 : betweenE l (f1, f2) (t1, t2) = [] := by unfold betweenE; rw [hf, ht]
      rw [e0]
      refine (rbetween_none s l f1 f2 t1 t2 w h hlen _ _ rfl rfl (.inr (by unfold findE; rw [ht]; simp))).mono ?_
      rintro e w' ⟨rfl, hb⟩
      exact ⟨⟨_, rfl, hnil _⟩, hb⟩
    | some j =>
      obtain ⟨_, hi⟩ := idxE_some hf
      obtain ⟨_, hj⟩ := idxE_some ht
      have e0 : betweenE l (f1, f2) (t1, t2) = liveE ((l.drop (min i j)).take (max i j + 1 - min i j)) := by unfold betweenE; rw [hf, ht]
      rw [e0]
      exact rbetween_some s l f1 f2 t1 t2 w h hlen i j _ _ (by unfold findE; rw [hf]) (by unfold findE; rw [ht]) (List.getElem?_eq_some_iff.1 hi).1 (List.getElem?_eq_some_iff.1 hj).1 rfl rfl _ rfl
end Go.Proofs.Ytngomgjhakgehaa
