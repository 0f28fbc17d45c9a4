/- The law AxisFull. -/
import Derived.Test.YtngomgjhakgehaaP
import Derived.Test.YtngomgjhakgehaaRc
namespace Go.Proofs.Ytngomgjhakgehaa
open Go.RowKit Go.Maps

def fullL (k : Nat) : List IdP := (List.range k).map fun (i : Nat) => ((7 : Int), (i : Int) + 1)
theorem fullL_len (k : Nat) : (fullL k).length = k := by simp [fullL]
theorem fullL_snoc (k : Nat) : fullL (k + 1) = fullL k ++ [(7, (k : Int) + 1)] := by simp [fullL, List.range_succ]
theorem fullL_small (k : Nat) (hk : k ≤ 2000) : SmallI (fullL k) := by
  intro p hp
  obtain ⟨i, hi, rfl⟩ := List.mem_map.1 hp
  have := List.mem_range.1 hi
  refine ⟨show (Lit.int IntKind.i64 7).wf = true by decide, ?_⟩
  simp [Lit.wf, show IntKind.i64.min = -9223372036854775808 from rfl, show IntKind.i64.max = 9223372036854775807 from rfl]
  omega
theorem new_full (k : Nat) : newE (fullL k) = (fullL (min k 1000)).map (fun p => (p, true)) := by
  induction k with
  | zero => rfl
  | succ k ih =>
    rw [fullL_snoc, newE_snoc, ih]
    have hh : hasE ((fullL (min k 1000)).map (fun p => (p, true))) (7, (k : Int) + 1) = false := by
      cases hc : hasE ((fullL (min k 1000)).map (fun p => (p, true))) (7, (k : Int) + 1) with
      | false => rfl
      | true =>
        obtain ⟨e, he, hp⟩ := (hasE_iff _ _).1 hc
        obtain ⟨q, hq, rfl⟩ := List.mem_map.1 he
        obtain ⟨i, hi, rfl⟩ := List.mem_map.1 hq
        have := List.mem_range.1 hi
        simp at hp
        omega
    unfold newS takesE
    rw [hh, List.length_map, fullL_len]
    by_cases hk : k < 1000
    · have h1 : min k 1000 = k := by omega
      have h2 : min (k + 1) 1000 = k + 1 := by omega
      rw [h1, h2, fullL_snoc, List.map_append]
      simp [hk]
    · have h1 : min k 1000 = 1000 := by omega
      have h2 : min (k + 1) 1000 = 1000 := by omega
      rw [h1, h2]
      simp
theorem insL_live {l : List Ent} {b p : IdP} (h : ∀ e ∈ l, e.2 = true) : ∀ e ∈ insL l b p, e.2 = true := by
  unfold insL
  split
  · exact insE_live h
  · exact h

theorem rinsert_is {s : Nat} {S : Nat → Prop} {l : List Ent} {b1 b2 x y : Int} {w : World} (h : RefAt w s S l) (hlen : l.length ≤ 100000) {r : Int} {m : List Ent} (hr : insR l (b1, b2) (x, y) = r) (hm : insL l (b1, b2) (x, y) = m) :
    Calls Try.prog 30 #[.pointer (some ⟨s, 0, none⟩), .agg #[.int .i64 b1, .int .i64 b2], .agg #[.int .i64 x, .int .i64 y]] w fun e w' => e = .returned (.int .i64 r) ∧ RefAt w' s (fun k => S k ∨ w.heap.size ≤ k) m ∧ Only S w w' := by
  subst hr hm
  exact rinsert_any s S l b1 b2 x y w h hlen
set_option maxRecDepth 100000 in
set_option maxHeartbeats 6400000 in
theorem full_any {w : World} (n a b : Int) (hn : 0 ≤ n ∧ n ≤ 65535) :
    Calls Try.prog 7 #[.int .u16 n, .agg #[.int .i64 a, .int .i64 b]] w fun e w' => e = .returned (.bool true) ∧ Below w.heap.size w w' := by
  obtain ⟨i0, hj, hj0, hj1, hj2⟩ := info_parts info25
  have hb0 : Below w.heap.size w (w.alloc (.cells #[.int .i64 a, .int .i64 b] 25)) := (Below.refl _ _).alloc (Nat.le_refl _) _
  have HB0 := Lib.hid hb0
  have HX0 := Lib.hid (IdBox.new w a b)
  clear hb0
  go_enter Try.func7, Try.ntmps7
  go_wp2_with fail
  refine (awake_any _).mono ?_
  rintro e w1 ⟨rfl, hB⟩
  have HB1 := Lib.hid (HB0.out.trans (hB.mono HB0.out.size))
  have HX1 := Lib.hid (HX0.out.below hB)
  have hsz1 : w.heap.size + 1 ≤ w1.heap.size := by have := hB.size; simpa using this
  clear hB HB0 HX0
  go_wp2_with fail
  obtain ⟨M, hM⟩ : ∃ M : Nat, (M : Int) = 990 + n % 20 := ⟨(990 + n % 20).toNat, by omega⟩
  have hM1 : 990 ≤ M ∧ M ≤ 1009 := by omega
  rw [← hM]
  clear hM
  have hz1 := HB1.out.size
  go_loopw [5, 7] (fun u i wr => ∃ k : Nat, k ≤ M ∧ i = .int .i64 (↑k + 1) ∧ wr.ownsRow w1.heap.size 25 2 u k (flat2 (fullL k)) ∧ Below w1.heap.size w1 wr) (fun _ i _ => M + 1 - (intOf i).toNat)
  case atStart => exact ⟨0, Nat.zero_le _, rfl, ⟨rfl, .inl ⟨rfl, rfl⟩⟩, Below.refl _ _⟩
  case round =>
    obtain ⟨k, hk, rfl, hrow, hB⟩ := hrel
    obtain ⟨A9, c9, rfl⟩ := own_shape hrow
    have HROW := Lib.hid hrow
    have HW := Lib.hid hB
    clear hrow hB
    by_cases hlt : k < M
    · have hk1 : (↑k : Int) + 1 ≤ ↑M := by omega
      have hz := HW.out.size
      go_wp2_with (at_builtin; refine wpList_append_own _ rfl _ _ 22 rfl w1.heap.size 25 i0 (.agg #[.int .i64 0, .int .i64 0]) 2 16 Try.underlying22 hj hj0 hj1 hj2 rfl (by decide) _ _ _ rfl (HROW.out.alloc _) ⟨wr.heap.size, 0, none⟩ 1 1 [.int .i64 7, .int .i64 (↑k + 1)] rfl rfl (lit_at rfl) (one_lit _ _) (by unfold maxLen; omega) (by omega) (by simp; omega) ?_; intro v1 w3 hown1 hgrow1 hnil1; have HO1 := Lib.hid hown1; have HG1 := Lib.hid hgrow1; clear hown1 hgrow1 hnil1)
      refine ⟨⟨k + 1, by omega, by simp, ?_, ?_⟩, by simp [intOf]; omega⟩
      · rw [fullL_snoc, flat2_app]
        exact HO1.out
      · refine (HW.out.alloc hz _).grown HG1.out (by simp; omega) (fun j e => ?_)
        by_cases hj9 : w1.heap.size ≤ j
        · exact hj9
        · exact absurd e.symm (own_ge2 HROW.out (by omega))
    · obtain rfl : k = M := by omega
      have hk1 : ¬ (↑k : Int) + 1 ≤ ↑k := by omega
      have hids := ids_of_own (l := fullL k) (by rw [fullL_len]; exact HROW.out)
      have hs1 : ∃ s, wr.heap.size = s := ⟨_, rfl⟩
      have HIDS : Hid (∀ W, Below wr.heap.size wr W → IdsAt W (.slice A9 k c9) (fullL k)) := Lib.hid (fun W hW => hids.below hW)
      have HXS : Hid (∀ W, Below wr.heap.size wr W → IdBox W w.heap.size (a, b)) := Lib.hid (fun W hW => (HX1.out.below HW.out).below hW)
      have hw9 : w.heap.size < wr.heap.size := by have := HW.out.size; omega
      have HBS : Hid (∀ W, Below wr.heap.size wr W → Below w.heap.size w W) := Lib.hid (fun W hW => (HB1.out.trans (HW.out.mono hz1)).trans (hW.mono (by omega)))
      clear HROW HB1 HX1 hids
      go_wp2_with fail
      refine (new_any _ (fullL k) wr (HIDS.out _ (Below.refl _ _)) (fullL_small k (by omega)) (by rw [fullL_len]; omega)).mono ?_
      rintro e w2 ⟨rfl, hA, hB⟩
      obtain ⟨s1, hs1⟩ := hs1
      have hs1a : s1 ≤ wr.heap.size := by omega
      have hs1b : wr.heap.size ≤ s1 := by omega
      rw [hs1] at hA hB HIDS HXS HBS hw9 ⊢
      have HA := Lib.hid hA
      have HB := Lib.hid hB
      clear hA hB hs1 HW
      obtain ⟨l, hl⟩ : ∃ l, newE (fullL k) = l := ⟨_, rfl⟩
      have hfr := newE_fresh (fullL k)
      have hll := newE_len (fullL k)
      have hlm : l.length = min k 1000 := by rw [← hl, new_full, List.length_map, fullL_len]
      rw [hl] at HA hfr
      rw [hl, fullL_len] at hll
      have HF := Lib.hid hfr
      have HL := Lib.hid hl
      have hl9 : l.length ≤ 100000 := by omega
      have HLl := Lib.hid (show (liveE l).length = min k 1000 by rw [live_all HF.out.live, List.length_map, hlm])
      have hmi : ((min k 1000 : Nat) : Int) = min (↑k) 1000 := by omega
      clear hl hfr hlm
      go_wp2_with fail
      refine (len_is HA.out.o hl9 HLl.out).mono ?_
      rintro e w3 ⟨rfl, hB⟩
      have HA3 := Lib.hid (HA.out.later hB)
      have HB3 := Lib.hid (HB.out.trans (hB.mono (by have := HB.out.size; omega)))
      clear hB HA HB
      obtain ⟨x0, x1, _⟩ := HXS.out _ HB3.out
      simp only at x0 x1
      obtain ⟨r, hr⟩ : ∃ r, insR l (0, 0) (a, b) = r := ⟨_, rfl⟩
      obtain ⟨m, hm⟩ : ∃ m, insL l (0, 0) (a, b) = m := ⟨_, rfl⟩
      have HRr := Lib.hid hr
      have HM := Lib.hid hm
      have hml : m.length ≤ l.length + 1 := by
        rw [← hm]; unfold insL; split
        · rw [insE_len _ (insAt_le _)]; exact Nat.le_refl _
        · omega
      have HLm := Lib.hid (show (liveE m).length = m.length by rw [← hm, live_all (insL_live HF.out.live), List.length_map])
      clear hr hm
      go_wp2_with fail
      refine (insert_is HA3.out hl9 HRr.out HM.out).mono ?_
      rintro e w4 ⟨rfl, hA, hO⟩
      have hzz := HB3.out.size
      have HB4 := Lib.hid (HB3.out.trans (hO.below (by omega) (fun b hb => hb)))
      have hz4 : s1 ≤ w4.heap.size := by have := HB4.out.size; omega
      have HA4 : Hid (AxAt w4 s1 (fun b => s1 ≤ b ∧ b < w4.heap.size) m) := Lib.hid (hA.wider (fun b h1 h2 => ⟨by rcases h1 with h1 | h1 <;> omega, h2⟩))
      clear hA hO HA3 HB3 x0 x1
      obtain ⟨top, htop⟩ : ∃ t, w4.heap.size = t := ⟨_, rfl⟩
      go_wp2_with fail
      refine (rnew_any _ (fullL k) w4 (HIDS.out _ HB4.out) (by rw [fullL_len]; omega)).mono ?_
      rintro e w5 ⟨rfl, hA, hB⟩
      rw [htop] at hA HA4 hB hz4 ⊢
      rw [HL.out] at hA
      have HA5 := Lib.hid (HA4.out.later (by rw [htop]; exact hB))
      have HR5 := Lib.hid hA
      have HB5 := Lib.hid (HB4.out.trans (hB.mono hz4))
      clear hA hB HA4 HB4
      clear htop
      have HX5 := Lib.hid (HXS.out _ HB5.out)
      have hSS : IdBox w5.drew w.heap.size (a, b) ∧ AxAt w5.drew s1 (fun b => s1 ≤ b ∧ b < top) m := ⟨HX5.out, HA5.out⟩
      have HSS := Lib.hid hSS
      have htz := HR5.out.r.lt
      clear hSS
      go_wp2_with fail
      refine wp_region_held_drew (S := fun W => IdBox W w.heap.size (a, b) ∧ AxAt W s1 (fun b => s1 ≤ b ∧ b < top) m) (by kernel_rfl) HSS.out (fun hS => ?_)
      refine wpAnyH_take (i := 0) (v := ?v0) rfl (by kernel_rfl) (by kernel_rfl) (by kernel_rfl) (fun _ _ _ h => h) (Or.inl ⟨by kernel_rfl, ?h0⟩) hS ?_
      case h0 => (rintro w9 ⟨⟨e0, e1, _⟩, _⟩; go_simp; try with_reducible rfl)
      refine wpAnyH_take (i := 1) (v := ?v1) rfl (by kernel_rfl) (by kernel_rfl) (by kernel_rfl) (fun _ _ _ h => h) (Or.inl ⟨by kernel_rfl, ?h1⟩) hS ?_
      case h1 => (rintro w9 ⟨⟨e0, e1, _⟩, _⟩; go_simp; try with_reducible rfl)
      refine wpAnyH_take (i := 2) (v := ?v2) rfl (by kernel_rfl) (by kernel_rfl) (by kernel_rfl) (fun _ _ _ h => h) (Or.inl ⟨by kernel_rfl, ?h2⟩) hS ?_
      case h2 => (rintro w9 ⟨⟨e0, e1, _⟩, _⟩; go_simp; try with_reducible rfl)
      refine wpAnyH_take (i := 3) (v := ?v3) rfl (by kernel_rfl) (by kernel_rfl) (by kernel_rfl) (fun _ _ _ h => h) (Or.inl ⟨by kernel_rfl, ?h3⟩) hS ?_
      case h3 => (rintro w9 ⟨⟨e0, e1, _⟩, _⟩; go_simp; try with_reducible rfl)
      refine wpAnyH_ready (rs := [4]) (by kernel_rfl) (by simp) (AllReadyH.cons rfl (fun K hK => ?_) AllReadyH.nil)
      go_simp
      go_wp2_with (go_at_call 30; go_loud (refine (rinsert_is (HR5.out.later ((Below.refl w5.heap.size w5).drew)) hl9 HRr.out HM.out).mono ?_; rintro e w20 ⟨rfl, hA20, hO20⟩))
      have hA21 : RefAt w20 top (fun b => top ≤ b) m := hA20.wider (fun b h1 _ => by rcases h1 with h1 | h1; exact h1; exact Nat.le_trans (Nat.le_of_lt htz) h1)
      have hB20 : Below top w5 w20 := ((Below.refl top w5).drew).trans (hO20.below (Nat.le_of_lt htz) (fun b hb => hb))
      refine hK.out _ _ ⟨hS.1.only hO20 (by omega), hS.2.kept hO20 (fun b h1 _ h2 => by omega)⟩ (fun hS4 => ?_); clear hK K
      obtain ⟨u9, v9, hraw9⟩ := hA21
      obtain ⟨A8, c8, rfl⟩ := own_shape hraw9.ids
      have hq9 : w20.cell? ⟨top, 0, none⟩ = some (.slice A8 m.length c8) := by simp [World.cell?, hraw9.box]
      refine wpAnyH_take (i := 5) (v := ?v5) rfl (by kernel_rfl) (by kernel_rfl) (by kernel_rfl) (fun _ _ _ h => h) (Or.inl ⟨by kernel_rfl, ?h5⟩) hS4 ?_
      case h5 => (rintro w9 ⟨⟨e0, e1, _⟩, _⟩; go_simp; try with_reducible rfl)
      refine wpAnyH_take (i := 6) (v := ?v6) rfl (by kernel_rfl) (by kernel_rfl) (by kernel_rfl) (fun _ _ _ h => h) (Or.inl ⟨by kernel_rfl, ?h6⟩) hS4 ?_
      case h6 => (rintro w9 ⟨⟨e0, e1, _⟩, _⟩; go_simp; try with_reducible rfl)
      refine wpAnyH_take (i := 7) (v := ?v7) rfl (by kernel_rfl) (by kernel_rfl) (by kernel_rfl) (fun _ _ _ h => h) (Or.inl ⟨by kernel_rfl, ?h7⟩) hS4 ?_
      case h7 => (rintro w9 ⟨⟨e0, e1, _⟩, _⟩; go_simp; try with_reducible rfl)
      refine wpAnyH_take (i := 9) (v := ?v9) rfl (by kernel_rfl) (by kernel_rfl) (by kernel_rfl) (fun _ _ _ h => h) (Or.inl ⟨by kernel_rfl, ?h9⟩) hS4 ?_
      case h9 => (rintro w9 ⟨⟨e0, e1, _⟩, _⟩; go_simp; try with_reducible rfl)
      refine wpAnyH_take (i := 10) (v := ?v10) rfl (by kernel_rfl) (by kernel_rfl) (by kernel_rfl) (fun _ _ _ h => h) (Or.inl ⟨by kernel_rfl, ?h10⟩) hS4 ?_
      case h10 => (rintro w9 ⟨⟨e0, e1, _⟩, _⟩; go_simp; try with_reducible rfl)
      refine wpAnyH_take (i := 11) (v := ?v11) rfl (by kernel_rfl) (by kernel_rfl) (by kernel_rfl) (fun _ _ _ h => h) (Or.inl ⟨by kernel_rfl, ?h11⟩) hS4 ?_
      case h11 => (rintro w9 ⟨⟨e0, e1, _⟩, _⟩; go_simp; try with_reducible rfl)
      have HFB := Lib.hid (HBS.out _ (HB5.out.trans (hB20.mono (by omega))))
      clear hraw9 hA20 hO20
      refine wpAnyH_ready (rs := [8, 12]) (by kernel_rfl) (by simp) (AllReadyH.cons rfl (fun K hK => ?_) (AllReadyH.cons rfl (fun K hK => ?_) AllReadyH.nil))
      · go_simp
        go_wp2_with (go_at_call 19; refine (len_is hS4.2.o (show m.length ≤ 100000 by omega) HLm.out).mono ?_; rintro e w21 ⟨rfl, hb21⟩)
        refine hK.out _ _ ⟨hS4.1.below hb21, hS4.2.later hb21⟩ (fun hS8 => ?_); clear hK K
        have hq21 := (hb21.cell (p := ⟨top, 0, none⟩) (cell_lt hq9)).trans hq9
        refine wpAnyH_ready (rs := [12]) (by kernel_rfl) (by simp) (AllReadyH.cons rfl (fun K hK => ?_) AllReadyH.nil)
        go_simp
        refine hK.out _ _ hS8 (fun hS12 => ?_); clear hK K
        refine wpAnyH_take (i := 13) (v := ?v13p) rfl (by kernel_rfl) (by kernel_rfl) (by kernel_rfl) (fun _ _ _ h => h) (Or.inl ⟨by kernel_rfl, ?h13p⟩) hS12 ?_
        case h13p => (rintro w9 ⟨⟨e0, e1, _⟩, _⟩; go_simp; try with_reducible rfl)
        refine wpAnyH_take (i := 14) (v := ?v14p) rfl (by kernel_rfl) (by kernel_rfl) (by kernel_rfl) (fun _ _ _ h => h) (Or.inl ⟨by kernel_rfl, ?h14p⟩) hS12 ?_
        case h14p => (rintro w9 ⟨⟨e0, e1, _⟩, _⟩; go_simp; try with_reducible rfl)
        refine wpAnyH_take (i := 15) (v := ?v15p) rfl (by kernel_rfl) (by kernel_rfl) (by kernel_rfl) (fun _ _ _ h => h) (Or.inl ⟨by kernel_rfl, ?h15p⟩) hS12 ?_
        case h15p => (rintro w9 ⟨⟨e0, e1, _⟩, _⟩; go_simp; try with_reducible rfl)
        refine wpAnyH_take (i := 16) (v := ?v16p) rfl (by kernel_rfl) (by kernel_rfl) (by kernel_rfl) (fun _ _ _ h => h) (Or.inl ⟨by kernel_rfl, ?h16p⟩) hS12 ?_
        case h16p => (rintro w9 ⟨⟨e0, e1, _⟩, _⟩; go_simp; try with_reducible rfl)
        refine wpAnyH_done (by kernel_rfl) ?_ _
        go_simp
        go_wp2
        go_ret
        exact ⟨rfl, HFB.out.trans (hb21.mono HFB.out.size)⟩
      · go_simp
        refine hK.out _ _ hS4 (fun hS12 => ?_); clear hK K
        refine wpAnyH_take (i := 13) (v := ?v13q) rfl (by kernel_rfl) (by kernel_rfl) (by kernel_rfl) (fun _ _ _ h => h) (Or.inl ⟨by kernel_rfl, ?h13q⟩) hS12 ?_
        case h13q => (rintro w9 ⟨⟨e0, e1, _⟩, _⟩; go_simp; try with_reducible rfl)
        refine wpAnyH_ready (rs := [8]) (by kernel_rfl) (by simp) (AllReadyH.cons rfl (fun K hK => ?_) AllReadyH.nil)
        go_simp
        go_wp2_with (go_at_call 19; refine (len_is hS12.2.o (show m.length ≤ 100000 by omega) HLm.out).mono ?_; rintro e w21 ⟨rfl, hb21⟩)
        refine hK.out _ _ ⟨hS12.1.below hb21, hS12.2.later hb21⟩ (fun hS8 => ?_); clear hK K
        refine wpAnyH_take (i := 14) (v := ?v14q) rfl (by kernel_rfl) (by kernel_rfl) (by kernel_rfl) (fun _ _ _ h => h) (Or.inl ⟨by kernel_rfl, ?h14q⟩) hS8 ?_
        case h14q => (rintro w9 ⟨⟨e0, e1, _⟩, _⟩; go_simp; try with_reducible rfl)
        refine wpAnyH_take (i := 15) (v := ?v15q) rfl (by kernel_rfl) (by kernel_rfl) (by kernel_rfl) (fun _ _ _ h => h) (Or.inl ⟨by kernel_rfl, ?h15q⟩) hS8 ?_
        case h15q => (rintro w9 ⟨⟨e0, e1, _⟩, _⟩; go_simp; try with_reducible rfl)
        refine wpAnyH_take (i := 16) (v := ?v16q) rfl (by kernel_rfl) (by kernel_rfl) (by kernel_rfl) (fun _ _ _ h => h) (Or.inl ⟨by kernel_rfl, ?h16q⟩) hS8 ?_
        case h16q => (rintro w9 ⟨⟨e0, e1, _⟩, _⟩; go_simp; try with_reducible rfl)
        refine wpAnyH_done (by kernel_rfl) ?_ _
        go_simp
        go_wp2
        go_ret
        exact ⟨rfl, HFB.out.trans (hb21.mono HFB.out.size)⟩
theorem wf_u16 {n : Int} (h : (Lit.int .u16 n).wf = true) : 0 ≤ n ∧ n ≤ 65535 := by
  simp [Lit.wf, show IntKind.u16.min = 0 from rfl, show IntKind.u16.max = 65535 from rfl] at h
  omega
theorem full_law {w : World} (n : Int) (hn : 0 ≤ n ∧ n ≤ 65535) (p : IdP) (_ : Wf p) :
    Calls Try.prog 7 #[.int .u16 n, idV p] w fun e w' => e = .returned (.bool true) ∧ Below w.heap.size w w' := full_any n p.1 p.2 hn
end Go.Proofs.Ytngomgjhakgehaa
