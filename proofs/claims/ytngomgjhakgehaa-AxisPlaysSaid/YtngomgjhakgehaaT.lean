/- Between, of two that are there. -/
import Derived.Test.YtngomgjhakgehaaS
namespace Go.Proofs.Ytngomgjhakgehaa
open Go.RowKit Go.Maps

theorem add_off3 (g j n : Nat) : (⟨g, j, none⟩ : Addr).add n = ⟨g, j + n, none⟩ := by unfold Addr.add; split <;> simp_all
/-- a list's cells from an address on -/
def CellsAt (w : World) (ad : Addr) (l : List Ent) : Prop := ∀ (k : Nat) e, l[k]? = some e → w.cell? (ad.add (k * 3)) = some (.int .i64 e.1.1) ∧ w.cell? ⟨(ad.add (k * 3)).block, (ad.add (k * 3)).off + 1, none⟩ = some (.int .i64 e.1.2) ∧ w.cell? ⟨(ad.add (k * 3)).block, (ad.add (k * 3)).off + 2, none⟩ = some (.bool e.2)
theorem lit_at {w : World} {x y : Value} {b : Nat} (hb : b = w.heap.size) : ∀ (j : Nat) (u : Value), [x, y][j]? = some u → (w.alloc (.cells #[x, y] 25)).cell? ((⟨b, 0, none⟩ : Addr).add j) = some u := by subst hb; exact lit_cells w x y
theorem own_ge2 {w : World} {base : Nat} {v : Value} {n : Nat} {xs : List Value} (h : w.ownsRow base 25 2 v n xs) {b : Nat} (hb : b < base) : some b ≠ v.ownBlock := by
  rcases h.2 with ⟨rfl, _⟩ | ⟨g, cap, cur, rfl, hg, _⟩
  · intro he; cases he
  · intro he; injection he with he; simp only at he; omega
theorem own_base {w : World} {b b' : Nat} {v : Value} {n : Nat} {xs : List Value} (h : w.ownsRow b 25 2 v n xs) (hb : b' ≤ b) : w.ownsRow b' 25 2 v n xs := by
  refine ⟨h.1, ?_⟩
  rcases h.2 with h5 | ⟨g, cap, cur, hv, h0, h6⟩
  · exact .inl h5
  · exact .inr ⟨g, cap, cur, hv, Nat.le_trans hb h0, h6⟩
theorem cells_at {w : World} {ad : Addr} {l : List Ent} (h : ∀ (k : Nat) e, l[k]? = some e → ∃ a, some ad = some a ∧ w.cell? (a.add (k * 3)) = some (.int .i64 e.1.1) ∧ w.cell? ⟨(a.add (k * 3)).block, (a.add (k * 3)).off + 1, none⟩ = some (.int .i64 e.1.2) ∧ w.cell? ⟨(a.add (k * 3)).block, (a.add (k * 3)).off + 2, none⟩ = some (.bool e.2)) : CellsAt w ad l := by
  intro k e hk
  obtain ⟨a, ha, h⟩ := h k e hk
  injection ha with ha
  subst ha
  exact h
theorem sub_at {w : World} {g lo N c : Nat} {l : List Ent} (h : CellsAt w ⟨g, 0, none⟩ l) (_ : lo + N ≤ l.length) (_ : l.length ≤ c) : CellsAt w ⟨g, lo * 3, none⟩ ((l.drop lo).take N) := by
  intro k e hk
  rw [List.getElem?_take] at hk
  split at hk
  · rw [List.getElem?_drop] at hk
    have := h (lo + k) e hk
    rw [add_off3] at this ⊢
    rw [show 0 + (lo + k) * 3 = lo * 3 + k * 3 by omega] at this
    exact this
  · cases hk

set_option maxRecDepth 100000 in
set_option maxHeartbeats 6400000 in
theorem between_some (p : Option Addr) (l : List Ent) (f1 f2 t1 t2 : Int) (w : World) (h : AxO w p l) (hlen : l.length ≤ 100000) (i j lo hi : Nat) (h1 : findE l (f1, f2) = (i : Int)) (h2 : findE l (t1, t2) = (j : Int)) (hi0 : i < l.length) (hj0 : j < l.length) (hlo : lo = min i j) (hhi : hi = max i j) (m : List Ent) (hm0 : (l.drop lo).take (hi + 1 - lo) = m) :
    Calls Try.prog 22 #[.pointer p, .agg #[.int .i64 f1, .int .i64 f2], .agg #[.int .i64 t1, .int .i64 t2]] w fun e w' => (∃ v, e = .returned v ∧ w'.ownsRow w.heap.size 25 2 v (liveE m).length (flat2 (liveE m))) ∧ Below w.heap.size w w' := by
  have F1 := Lib.hid h1
  have F2 := Lib.hid h2
  have hz1 : (w.alloc (.cells #[.int .i64 f1, .int .i64 f2] 25)).heap.size = w.heap.size + 1 := by simp
  obtain ⟨w0, hw0⟩ : ∃ w0, (w.alloc (.cells #[.int .i64 f1, .int .i64 f2] 25)).alloc (.cells #[.int .i64 t1, .int .i64 t2] 25) = w0 := ⟨_, rfl⟩
  have hb0 : Below w.heap.size w w0 := by rw [← hw0]; exact ((Below.refl _ _).alloc (Nat.le_refl _) _).alloc (by simp) _
  have B0 : Hid (Below w.heap.size w w0.drew) := Lib.hid hb0.drew
  have HP : Hid (∀ W, Below w0.drew.heap.size w0.drew W → AxP W p l) := Lib.hid (fun W hW => AxP.below (w := w0.drew) (show AxP w0.drew p l from (h.below hb0).p) hW)
  have hN : IdBox w0.drew w.heap.size (f1, f2) ∧ IdBox w0.drew (w.heap.size + 1) (t1, t2) := by
    have e1 : IdBox w0 w.heap.size (f1, f2) := by rw [← hw0]; exact (IdBox.new w f1 f2).below ((Below.refl _ _).alloc (Nat.le_refl _) _)
    have e2 : IdBox w0 (w.heap.size + 1) (t1, t2) := by
      have := IdBox.new (w.alloc (.cells #[.int .i64 f1, .int .i64 f2] 25)) t1 t2
      rw [hz1, hw0] at this
      exact this
    exact ⟨e1, e2⟩
  have HN := Lib.hid hN
  have HA : Hid (∀ W, Below w0.drew.heap.size w0.drew W → AxO W p l) := Lib.hid (fun W hW => AxO.below (w := w0.drew) (h.below hb0.drew) hW)
  obtain ⟨i0, hj, hj0', hj1', hj2⟩ := info_parts info25
  have HM := Lib.hid hm0
  clear h1 h2 h hb0 hN hz1 hm0
  go_enter Try.func22, Try.ntmps22
  go_wp2_with fail

  clear hw0
  refine wp_region_held_drew (S := fun W => IdBox W w.heap.size (f1, f2) ∧ IdBox W (w.heap.size + 1) (t1, t2)) (by kernel_rfl) HN.out (fun hS => ?_)
  refine wpAnyH_take (i := 0) (v := ?v0a) rfl (by kernel_rfl) (by kernel_rfl) (by kernel_rfl) (fun _ _ _ h => h) (Or.inl ⟨by kernel_rfl, ?h0a⟩) hS ?_
  case h0a => (rintro w2 ⟨⟨e0, e1, _⟩, e2, e3, _⟩; go_simp; try with_reducible rfl)
  refine wpAnyH_take (i := 1) (v := ?v1a) rfl (by kernel_rfl) (by kernel_rfl) (by kernel_rfl) (fun _ _ _ h => h) (Or.inl ⟨by kernel_rfl, ?h1a⟩) hS ?_
  case h1a => (rintro w2 ⟨⟨e0, e1, _⟩, e2, e3, _⟩; go_simp; try with_reducible rfl)
  refine wpAnyH_take (i := 3) (v := ?v3a) rfl (by kernel_rfl) (by kernel_rfl) (by kernel_rfl) (fun _ _ _ h => h) (Or.inl ⟨by kernel_rfl, ?h3a⟩) hS ?_
  case h3a => (rintro w2 ⟨⟨e0, e1, _⟩, e2, e3, _⟩; go_simp; try with_reducible rfl)
  refine wpAnyH_take (i := 4) (v := ?v4a) rfl (by kernel_rfl) (by kernel_rfl) (by kernel_rfl) (fun _ _ _ h => h) (Or.inl ⟨by kernel_rfl, ?h4a⟩) hS ?_
  case h4a => (rintro w2 ⟨⟨e0, e1, _⟩, e2, e3, _⟩; go_simp; try with_reducible rfl)
  refine wpAnyH_ready (rs := [2]) (by kernel_rfl) (by simp) (AllReadyH.cons rfl (fun K hK => ?_) AllReadyH.nil)
  go_simp
  go_wp2_with (go_at_call 34; refine (find_any p l f1 f2 _ (HP.out _ (Below.refl _ _)) hlen).mono ?_; rw [F1.out]; rintro e w20 ⟨rfl, hb20⟩)
  refine hK.out _ _ (⟨hS.1.below hb20, hS.2.below hb20⟩) (fun hS2 => ?_); clear hK K
  have D20 := Lib.hid hb20
  clear hb20
  refine wpAnyH_ready (rs := [5]) (by kernel_rfl) (by simp) (AllReadyH.cons rfl (fun K hK => ?_) AllReadyH.nil)
  go_simp
  go_wp2_with (go_at_call 34; refine (find_any p l t1 t2 _ (HP.out _ D20.out) hlen).mono ?_; rw [F2.out]; rintro e w21 ⟨rfl, hb21⟩)
  refine hK.out _ _ (⟨hS2.1.below hb21, hS2.2.below hb21⟩) (fun hS5 => ?_); clear hK K
  have D21 := Lib.hid (D20.out.trans (hb21.mono D20.out.size))
  clear hb21 D20
  refine wpAnyH_take (i := 6) (v := ?v6a) rfl (by kernel_rfl) (by kernel_rfl) (by kernel_rfl) (fun _ _ _ h => h) (Or.inl ⟨by kernel_rfl, ?h6a⟩) hS5 ?_
  case h6a => (rintro w2 ⟨⟨e0, e1, _⟩, e2, e3, _⟩; go_simp; try with_reducible rfl)
  refine wpAnyH_take (i := 7) (v := ?v7a) rfl (by kernel_rfl) (by kernel_rfl) (by kernel_rfl) (fun _ _ _ h => h) (Or.inl ⟨by kernel_rfl, ?h7a⟩) hS5 ?_
  case h7a => (rintro w2 ⟨⟨e0, e1, _⟩, e2, e3, _⟩; go_simp; try with_reducible rfl)
  refine wpAnyH_done (by kernel_rfl) ?_ _
  go_simp
  rcases HA.out _ D21.out with ⟨_, rfl⟩ | ⟨s, v, rfl, hb, hr⟩
  · simp at hi0
  have hl := list_of_own hr
  obtain ⟨A, c, rfl, hc, hI⟩ := hl
  obtain ⟨ad, rfl, _⟩ := hI i l[i] (List.getElem?_eq_getElem hi0)
  obtain ⟨⟨g, rfl⟩, _⟩ := own_addr hr
  have HI := Lib.hid (cells_at hI)
  have hcell := hb.cell
  clear hb hI hr
  have hi1 : ¬ (↑i : Int) < 0 := by omega
  have hj1 : ¬ (↑j : Int) < 0 := by omega
  rcases Nat.lt_trichotomy i j with hij | hij | hij
  · have hij2 : (↑i : Int) < ↑j := by omega
    have hij1 : ¬ (↑j : Int) < ↑i := by omega
    obtain ⟨e1, e2⟩ : lo = i ∧ hi = j := by omega
    clear hlo hhi
    subst e1 e2
    have hs0 : (0 : Int) ≤ ↑lo := by omega
    have hs1 : (↑lo : Int) ≤ ↑hi + 1 := by omega
    have hs2 : (↑hi : Int) + 1 ≤ ↑c := by omega
    have hs3 : (↑hi : Int) + 1 - ↑lo = ↑(hi + 1 - lo) := by omega
    have hs4 : (↑hi : Int) ≤ 100000 := by omega
    have hs5 : ((↑hi : Int) + 1).toNat = hi + 1 := by omega
    have hs6 : True := trivial
    go_wp2_with fail
    clear hij1 hij2
    have HSUB := Lib.hid (sub_at HI.out (lo := lo) (N := hi + 1 - lo) (by omega) hc)
    obtain ⟨ad, had⟩ : ∃ ad, (⟨g, lo * 3, none⟩ : Addr) = ad := ⟨_, rfl⟩
    rw [had] at HSUB ⊢
    have hm := HM.out
    rw [hm] at HSUB
    have hml : m.length = hi + 1 - lo := by rw [← hm]; simp; omega
    obtain ⟨N, hN⟩ : ∃ N, N = hi + 1 - lo := ⟨_, rfl⟩
    rw [← hN]
    have HML := Lib.hid (hml.trans hN.symm)
    have HNN : N ≤ 100000 := by omega
    have HNC : N ≤ c - lo := by omega
    have HBW := Lib.hid (B0.out.trans (D21.out.mono B0.out.size))
    have hzz : w.heap.size ≤ w21.heap.size := HBW.out.size
    clear hm had hml hN hs0 hs1 hs2 hs3 hs4 hs5 hs6 HI hS hS2 hS5 HP HN HA D21 B0 F1 F2
    go_loopw [9, 37] (fun u i wr => ∃ k : Nat, k ≤ N ∧ i = .int .i64 k ∧ wr.ownsRow w21.heap.size 25 2 u (liveE (m.take k)).length (flat2 (liveE (m.take k))) ∧ Below w21.heap.size w21 wr) (fun _ i _ => N - (intOf i).toNat)
    case atStart => exact ⟨0, Nat.zero_le _, rfl, ⟨rfl, .inl ⟨rfl, rfl⟩⟩, Below.refl _ _⟩
    case round =>
      obtain ⟨k, hk, rfl, hrow, hB⟩ := hrel
      have HW := Lib.hid hB
      obtain ⟨A9, c9, rfl⟩ := own_shape hrow
      have HROW := Lib.hid hrow
      clear hB hrow
      by_cases hlt : k < N
      · have hkm : k < m.length := by have := HML.out; omega
        have hx : m[k]? = some m[k] := List.getElem?_eq_getElem hkm
        have hd : m.take (k + 1) = m.take k ++ [m[k]] := (List.take_append_getElem hkm).symm
        obtain ⟨e, he⟩ : ∃ e, m[k] = e := ⟨_, rfl⟩
        rw [he] at hx hd
        have HD := Lib.hid hd
        obtain ⟨c2, c3, c4⟩ := HSUB.out k e hx
        have hza := cell_lt c2
        rw [add_block] at hza
        have c2' := (HW.out.cell (by rw [add_block]; exact hza)).trans c2
        have c3' := (HW.out.cell (p := ⟨(ad.add (k * 3)).block, _, none⟩) (by simp only [add_block]; exact hza)).trans c3
        have c4' := (HW.out.cell (p := ⟨(ad.add (k * 3)).block, _, none⟩) (by simp only [add_block]; exact hza)).trans c4
        obtain ⟨⟨x, y⟩, b⟩ := e
        simp only at c2' c3' c4'
        have hi0 : (0 : Int) ≤ ↑k := by omega
        have hi1 : (↑k : Int) < ↑N := by omega
        have hi2 : (↑N : Int) ≤ ↑(c - lo) := by omega
        have hbb : Below w21.heap.size w21 (wr.alloc (.cells #[.int .i64 x, .int .i64 y, .bool b] 68)) := HW.out.alloc HW.out.size _
        have HB2 := Lib.hid hbb
        have hln : (liveE (m.take k)).length ≤ k := Nat.le_trans (liveE_len _) (by simp; omega)
        clear hx hd he c2 c3 c4 hza hkm hbb
        cases b
        · go_wp2_with fail
          go_roundw
          case rel => exact ⟨k + 1, by omega, by simp, by rw [HD.out, liveE_snoc]; simpa using HROW.out.alloc _, HB2.out⟩
          case measure => simp [intOf]; omega
        · go_wp2_with (at_builtin; go_loud (refine wpList_append_own _ rfl _ _ 22 rfl w21.heap.size 25 i0 (.agg #[.int .i64 0, .int .i64 0]) 2 16 Try.underlying22 hj hj0' hj1' hj2 rfl (by decide) _ _ _ rfl ((HROW.out.alloc _).alloc _) ⟨wr.heap.size + 1, 0, none⟩ 1 1 [.int .i64 x, .int .i64 y] rfl rfl (lit_at (by simp)) (one_lit _ _) (by unfold maxLen; omega) (by omega) (by simp; have := HW.out.size; omega) ?_; intro v1 w3 hown1 hgrow1 hnil1; have HO1 := Lib.hid hown1; have HG1 := Lib.hid hgrow1; clear hown1 hgrow1 hnil1))
          refine ⟨⟨k + 1, by omega, by simp, ?_, ?_⟩, by simp [intOf]; omega⟩
          · rw [HD.out, liveE_snoc]
            have h9 := HO1.out
            simp only [if_true, List.length_append, List.length_cons, List.length_nil, flat2_app]
            exact h9
          · refine (HB2.out.alloc (by have := HB2.out.size; omega) _).grown HG1.out (by have := HB2.out.size; simp at this ⊢; omega) (fun j e => ?_)
            by_cases hj9 : w21.heap.size ≤ j
            · exact hj9
            · exact absurd e.symm (own_ge2 HROW.out (by omega))
      · obtain rfl : k = N := by omega
        have hlt2 : ¬ (↑k : Int) < ↑k := by omega
        go_wp2
        have hfin : m.take k = m := by rw [← HML.out]; exact List.take_length
        refine bodyPost_ret (v := .slice A9 (liveE (m.take k)).length c9) (by simp [results, Try.f22, go_sem]) rfl ⟨⟨_, rfl, ?_⟩, HBW.out.trans (HW.out.mono hzz)⟩
        have h9 := HROW.out
        rw [hfin] at h9 ⊢
        exact own_base h9 hzz
  · have hij1 : ¬ (↑j : Int) < ↑i := by omega
    have hij2 : ¬ (↑i : Int) < ↑j := by omega
    obtain ⟨e1, e2, e3⟩ : lo = i ∧ lo = hi ∧ lo = j := by omega
    clear hlo hhi
    subst e1 e2 e3
    have hs0 : (0 : Int) ≤ ↑lo := by omega
    have hs1 : (↑lo : Int) ≤ ↑lo + 1 := by omega
    have hs2 : (↑lo : Int) + 1 ≤ ↑c := by omega
    have hs3 : (↑lo : Int) + 1 - ↑lo = 1 := by omega
    have hs4 : (↑lo : Int) ≤ 100000 := by omega
    have hs5 : ((↑lo : Int) + 1).toNat = lo + 1 := by omega
    have hs6 : lo + 1 - lo = 1 := by omega
    go_wp2_with fail
    clear hij1 hij2
    have HSUB := Lib.hid (sub_at HI.out (lo := lo) (N := 1) (by omega) hc)
    obtain ⟨ad, had⟩ : ∃ ad, (⟨g, lo * 3, none⟩ : Addr) = ad := ⟨_, rfl⟩
    rw [had] at HSUB ⊢
    have hm := HM.out
    rw [hs6] at hm
    rw [hm] at HSUB
    have hml : m.length = 1 := by rw [← hm]; simp; omega
    have HML := Lib.hid (hml)
    have HNC : 1 ≤ c - lo := by omega
    have HBW := Lib.hid (B0.out.trans (D21.out.mono B0.out.size))
    have hzz : w.heap.size ≤ w21.heap.size := HBW.out.size
    clear hm had hml hs0 hs1 hs2 hs3 hs4 hs5 hs6 HI hS hS2 hS5 HP HN HA D21 B0 F1 F2
    go_loopw [9, 37] (fun u i wr => ∃ k : Nat, k ≤ 1 ∧ i = .int .i64 k ∧ wr.ownsRow w21.heap.size 25 2 u (liveE (m.take k)).length (flat2 (liveE (m.take k))) ∧ Below w21.heap.size w21 wr) (fun _ i _ => 1 - (intOf i).toNat)
    case atStart => exact ⟨0, Nat.zero_le _, rfl, ⟨rfl, .inl ⟨rfl, rfl⟩⟩, Below.refl _ _⟩
    case round =>
      obtain ⟨k, hk, rfl, hrow, hB⟩ := hrel
      have HW := Lib.hid hB
      obtain ⟨A9, c9, rfl⟩ := own_shape hrow
      have HROW := Lib.hid hrow
      clear hB hrow
      by_cases hlt : k < 1
      · have hkm : k < m.length := by have := HML.out; omega
        have hx : m[k]? = some m[k] := List.getElem?_eq_getElem hkm
        have hd : m.take (k + 1) = m.take k ++ [m[k]] := (List.take_append_getElem hkm).symm
        obtain ⟨e, he⟩ : ∃ e, m[k] = e := ⟨_, rfl⟩
        rw [he] at hx hd
        have HD := Lib.hid hd
        obtain ⟨c2, c3, c4⟩ := HSUB.out k e hx
        have hza := cell_lt c2
        rw [add_block] at hza
        have c2' := (HW.out.cell (by rw [add_block]; exact hza)).trans c2
        have c3' := (HW.out.cell (p := ⟨(ad.add (k * 3)).block, _, none⟩) (by simp only [add_block]; exact hza)).trans c3
        have c4' := (HW.out.cell (p := ⟨(ad.add (k * 3)).block, _, none⟩) (by simp only [add_block]; exact hza)).trans c4
        obtain ⟨⟨x, y⟩, b⟩ := e
        simp only at c2' c3' c4'
        have hi0 : (0 : Int) ≤ ↑k := by omega
        have hi1 : (↑k : Int) < (1 : Int) := by omega
        have hi2 : ((1 : Int) : Int) ≤ ↑(c - lo) := by omega
        have hbb : Below w21.heap.size w21 (wr.alloc (.cells #[.int .i64 x, .int .i64 y, .bool b] 68)) := HW.out.alloc HW.out.size _
        have HB2 := Lib.hid hbb
        have hln : (liveE (m.take k)).length ≤ k := Nat.le_trans (liveE_len _) (by simp; omega)
        clear hx hd he c2 c3 c4 hza hkm hbb
        cases b
        · go_wp2_with fail
          go_roundw
          case rel => exact ⟨k + 1, by omega, by simp, by rw [HD.out, liveE_snoc]; simpa using HROW.out.alloc _, HB2.out⟩
          case measure => simp [intOf]; omega
        · go_wp2_with (at_builtin; go_loud (refine wpList_append_own _ rfl _ _ 22 rfl w21.heap.size 25 i0 (.agg #[.int .i64 0, .int .i64 0]) 2 16 Try.underlying22 hj hj0' hj1' hj2 rfl (by decide) _ _ _ rfl ((HROW.out.alloc _).alloc _) ⟨wr.heap.size + 1, 0, none⟩ 1 1 [.int .i64 x, .int .i64 y] rfl rfl (lit_at (by simp)) (one_lit _ _) (by unfold maxLen; omega) (by omega) (by simp; have := HW.out.size; omega) ?_; intro v1 w3 hown1 hgrow1 hnil1; have HO1 := Lib.hid hown1; have HG1 := Lib.hid hgrow1; clear hown1 hgrow1 hnil1))
          refine ⟨⟨k + 1, by omega, by simp, ?_, ?_⟩, by simp [intOf]; omega⟩
          · rw [HD.out, liveE_snoc]
            have h9 := HO1.out
            simp only [if_true, List.length_append, List.length_cons, List.length_nil, flat2_app]
            exact h9
          · refine (HB2.out.alloc (by have := HB2.out.size; omega) _).grown HG1.out (by have := HB2.out.size; simp at this ⊢; omega) (fun j e => ?_)
            by_cases hj9 : w21.heap.size ≤ j
            · exact hj9
            · exact absurd e.symm (own_ge2 HROW.out (by omega))
      · obtain rfl : k = 1 := by omega
        go_wp2
        have hfin : m.take 1 = m := by rw [← HML.out]; exact List.take_length
        refine bodyPost_ret (v := .slice A9 (liveE (m.take 1)).length c9) (by simp [results, Try.f22, go_sem]) rfl ⟨⟨_, rfl, ?_⟩, HBW.out.trans (HW.out.mono hzz)⟩
        have h9 := HROW.out
        rw [hfin] at h9 ⊢
        exact own_base h9 hzz
  · have hij1 : (↑j : Int) < ↑i := by omega
    have hij2 : ¬ (↑i : Int) < ↑j := by omega
    obtain ⟨e1, e2⟩ : lo = j ∧ hi = i := by omega
    clear hlo hhi
    subst e1 e2
    have hs0 : (0 : Int) ≤ ↑lo := by omega
    have hs1 : (↑lo : Int) ≤ ↑hi + 1 := by omega
    have hs2 : (↑hi : Int) + 1 ≤ ↑c := by omega
    have hs3 : (↑hi : Int) + 1 - ↑lo = ↑(hi + 1 - lo) := by omega
    have hs4 : (↑hi : Int) ≤ 100000 := by omega
    have hs5 : ((↑hi : Int) + 1).toNat = hi + 1 := by omega
    have hs6 : True := trivial
    go_wp2_with fail
    clear hij1 hij2
    have HSUB := Lib.hid (sub_at HI.out (lo := lo) (N := hi + 1 - lo) (by omega) hc)
    obtain ⟨ad, had⟩ : ∃ ad, (⟨g, lo * 3, none⟩ : Addr) = ad := ⟨_, rfl⟩
    rw [had] at HSUB ⊢
    have hm := HM.out
    rw [hm] at HSUB
    have hml : m.length = hi + 1 - lo := by rw [← hm]; simp; omega
    obtain ⟨N, hN⟩ : ∃ N, N = hi + 1 - lo := ⟨_, rfl⟩
    rw [← hN]
    have HML := Lib.hid (hml.trans hN.symm)
    have HNN : N ≤ 100000 := by omega
    have HNC : N ≤ c - lo := by omega
    have HBW := Lib.hid (B0.out.trans (D21.out.mono B0.out.size))
    have hzz : w.heap.size ≤ w21.heap.size := HBW.out.size
    clear hm had hml hN hs0 hs1 hs2 hs3 hs4 hs5 hs6 HI hS hS2 hS5 HP HN HA D21 B0 F1 F2
    go_loopw [9, 37] (fun u i wr => ∃ k : Nat, k ≤ N ∧ i = .int .i64 k ∧ wr.ownsRow w21.heap.size 25 2 u (liveE (m.take k)).length (flat2 (liveE (m.take k))) ∧ Below w21.heap.size w21 wr) (fun _ i _ => N - (intOf i).toNat)
    case atStart => exact ⟨0, Nat.zero_le _, rfl, ⟨rfl, .inl ⟨rfl, rfl⟩⟩, Below.refl _ _⟩
    case round =>
      obtain ⟨k, hk, rfl, hrow, hB⟩ := hrel
      have HW := Lib.hid hB
      obtain ⟨A9, c9, rfl⟩ := own_shape hrow
      have HROW := Lib.hid hrow
      clear hB hrow
      by_cases hlt : k < N
      · have hkm : k < m.length := by have := HML.out; omega
        have hx : m[k]? = some m[k] := List.getElem?_eq_getElem hkm
        have hd : m.take (k + 1) = m.take k ++ [m[k]] := (List.take_append_getElem hkm).symm
        obtain ⟨e, he⟩ : ∃ e, m[k] = e := ⟨_, rfl⟩
        rw [he] at hx hd
        have HD := Lib.hid hd
        obtain ⟨c2, c3, c4⟩ := HSUB.out k e hx
        have hza := cell_lt c2
        rw [add_block] at hza
        have c2' := (HW.out.cell (by rw [add_block]; exact hza)).trans c2
        have c3' := (HW.out.cell (p := ⟨(ad.add (k * 3)).block, _, none⟩) (by simp only [add_block]; exact hza)).trans c3
        have c4' := (HW.out.cell (p := ⟨(ad.add (k * 3)).block, _, none⟩) (by simp only [add_block]; exact hza)).trans c4
        obtain ⟨⟨x, y⟩, b⟩ := e
        simp only at c2' c3' c4'
        have hi0 : (0 : Int) ≤ ↑k := by omega
        have hi1 : (↑k : Int) < ↑N := by omega
        have hi2 : (↑N : Int) ≤ ↑(c - lo) := by omega
        have hbb : Below w21.heap.size w21 (wr.alloc (.cells #[.int .i64 x, .int .i64 y, .bool b] 68)) := HW.out.alloc HW.out.size _
        have HB2 := Lib.hid hbb
        have hln : (liveE (m.take k)).length ≤ k := Nat.le_trans (liveE_len _) (by simp; omega)
        clear hx hd he c2 c3 c4 hza hkm hbb
        cases b
        · go_wp2_with fail
          go_roundw
          case rel => exact ⟨k + 1, by omega, by simp, by rw [HD.out, liveE_snoc]; simpa using HROW.out.alloc _, HB2.out⟩
          case measure => simp [intOf]; omega
        · go_wp2_with (at_builtin; go_loud (refine wpList_append_own _ rfl _ _ 22 rfl w21.heap.size 25 i0 (.agg #[.int .i64 0, .int .i64 0]) 2 16 Try.underlying22 hj hj0' hj1' hj2 rfl (by decide) _ _ _ rfl ((HROW.out.alloc _).alloc _) ⟨wr.heap.size + 1, 0, none⟩ 1 1 [.int .i64 x, .int .i64 y] rfl rfl (lit_at (by simp)) (one_lit _ _) (by unfold maxLen; omega) (by omega) (by simp; have := HW.out.size; omega) ?_; intro v1 w3 hown1 hgrow1 hnil1; have HO1 := Lib.hid hown1; have HG1 := Lib.hid hgrow1; clear hown1 hgrow1 hnil1))
          refine ⟨⟨k + 1, by omega, by simp, ?_, ?_⟩, by simp [intOf]; omega⟩
          · rw [HD.out, liveE_snoc]
            have h9 := HO1.out
            simp only [if_true, List.length_append, List.length_cons, List.length_nil, flat2_app]
            exact h9
          · refine (HB2.out.alloc (by have := HB2.out.size; omega) _).grown HG1.out (by have := HB2.out.size; simp at this ⊢; omega) (fun j e => ?_)
            by_cases hj9 : w21.heap.size ≤ j
            · exact hj9
            · exact absurd e.symm (own_ge2 HROW.out (by omega))
      · obtain rfl : k = N := by omega
        have hlt2 : ¬ (↑k : Int) < ↑k := by omega
        go_wp2
        have hfin : m.take k = m := by rw [← HML.out]; exact List.take_length
        refine bodyPost_ret (v := .slice A9 (liveE (m.take k)).length c9) (by simp [results, Try.f22, go_sem]) rfl ⟨⟨_, rfl, ?_⟩, HBW.out.trans (HW.out.mono hzz)⟩
        have h9 := HROW.out
        rw [hfin] at h9 ⊢
        exact own_base h9 hzz
theorem flat2_at {l : List IdP} {k : Nat} {p : IdP} (h : l[k]? = some p) : (flat2 l)[k * 2]? = some (.int .i64 p.1) ∧ (flat2 l)[k * 2 + 1]? = some (.int .i64 p.2) := by
  induction l generalizing k with
  | nil => simp at h
  | cons q l ih =>
    have hc : flat2 (q :: l) = .int .i64 q.1 :: .int .i64 q.2 :: flat2 l := by simp [flat2]
    cases k with
    | zero =>
      simp only [List.getElem?_cons_zero, Option.some.injEq] at h
      subst h
      rw [hc]
      exact ⟨rfl, rfl⟩
    | succ k =>
      rw [List.getElem?_cons_succ] at h
      obtain ⟨h1, h2⟩ := ih h
      rw [hc, show (k + 1) * 2 + 1 = k * 2 + 1 + 1 + 1 by omega, show (k + 1) * 2 = k * 2 + 1 + 1 by omega]
      exact ⟨h1, h2⟩
theorem flat2_len (l : List IdP) : (flat2 l).length = l.length * 2 := by
  induction l with
  | nil => rfl
  | cons q l ih =>
    have hc : flat2 (q :: l) = .int .i64 q.1 :: .int .i64 q.2 :: flat2 l := by simp [flat2]
    rw [hc, List.length_cons, List.length_cons, ih, List.length_cons]
    omega
theorem ids_of_own {w : World} {base : Nat} {v : Value} {l : List IdP} (h : w.ownsRow base 25 2 v l.length (flat2 l)) : IdsAt w v l := by
  rcases h.2 with ⟨rfl, h0⟩ | ⟨g, cap, cur, rfl, _, hb, hnc, _, hsz, hcur⟩
  · obtain rfl : l = [] := List.eq_nil_of_length_eq_zero h0
    exact ⟨none, 0, rfl, Nat.le_refl _, fun k p hk => by simp at hk⟩
  · refine ⟨_, _, rfl, hnc, fun k p hk => ⟨_, rfl, ?_⟩⟩
    obtain ⟨e1, e2⟩ := flat2_at hk
    have hat : ∀ j u, (flat2 l)[j]? = some u → cur[j]? = some u := fun j u hu => by
      have hj : j < l.length * 2 := by have := (List.getElem?_eq_some_iff.1 hu).1; rw [flat2_len] at this; exact this
      rw [← hcur, List.getElem?_take_of_lt hj] at hu
      simpa using hu
    rw [add_off]
    refine ⟨?_, ?_⟩
    · simp [World.cell?, hb, hat _ _ e1]
    · simp [World.cell?, hb, hat _ _ e2]
/-- Between, of every two -/
theorem between_any (p : Option Addr) (l : List Ent) (f1 f2 t1 t2 : Int) (w : World) (h : AxO w p l) (hlen : l.length ≤ 100000) :
    Calls Try.prog 22 #[.pointer p, .agg #[.int .i64 f1, .int .i64 f2], .agg #[.int .i64 t1, .int .i64 t2]] w fun e w' => (∃ v, e = .returned v ∧ w'.ownsRow w.heap.size 25 2 v (betweenE l (f1, f2) (t1, t2)).length (flat2 (betweenE l (f1, f2) (t1, t2)))) ∧ Below w.heap.size w w' := by
  have hnil : ∀ w' : World, w'.ownsRow w.heap.size 25 2 (.slice none 0 0) 0 [] := fun _ => ⟨rfl, .inl ⟨rfl, rfl⟩⟩
  cases hf : idxE l (f1, f2) with
  | none =>
    have e0 : betweenE l (f1, f2) (t1, t2) = [] := by unfold betweenE; rw [hf]
    rw [e0]
    refine (between_none p l f1 f2 t1 t2 w h hlen _ _ rfl rfl (.inl (by unfold findE; rw [hf]; simp))).mono ?_
    rintro e w' ⟨rfl, hb⟩
    exact ⟨⟨_, rfl, hnil _⟩, hb⟩
  | some i =>
    cases ht : idxE l (t1, t2) with
    | none =>
      have e0 : betweenE l (f1, f2) (t1, t2) = [] := by unfold betweenE; rw [hf, ht]
      rw [e0]
      refine (between_none p l f1 f2 t1 t2 w h hlen _ _ rfl rfl (.inr (by unfold findE; rw [ht]; simp))).mono ?_
      rintro e w' ⟨rfl, hb⟩
      exact ⟨⟨_, rfl, hnil _⟩, hb⟩
    | some j =>
      obtain ⟨_, hi⟩ := idxE_some hf
      obtain ⟨_, hj⟩ := idxE_some ht
      have e0 : betweenE l (f1, f2) (t1, t2) = liveE ((l.drop (min i j)).take (max i j + 1 - min i j)) := by unfold betweenE; rw [hf, ht]
      rw [e0]
      exact between_some p l f1 f2 t1 t2 w h hlen i j _ _ (by unfold findE; rw [hf]) (by unfold findE; rw [ht]) (List.getElem?_eq_some_iff.1 hi).1 (List.getElem?_eq_some_iff.1 hj).1 rfl rfl _ rfl
end Go.Proofs.Ytngomgjhakgehaa
