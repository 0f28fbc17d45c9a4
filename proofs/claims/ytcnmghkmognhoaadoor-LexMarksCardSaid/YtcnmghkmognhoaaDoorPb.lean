/- Tokens that are read; the same tokens as the document's; whether two rows of tokens are the same. -/
import Derived.Test.YtcnmghkmognhoaaDoorPa
import Derived.StillTailTactics
namespace Go.Proofs.YtcnmghkmognhoaaDoor
open Go.RowKit Go.Shelf

theorem info35 : (Tryd.prog.info? 35).map (fun i => (i.zero, i.size, i.bytes)) = some (some (.agg #[.int .i64 0, .string ⟨#[]⟩, .int .i64 0]), 3, 32) := by kernel_rfl
def CellO (w : World) (g o k : Nat) (t : Tok) : Prop := w.cell? ⟨g, o + k * 3, none⟩ = some (.int .i64 t.kind) ∧ w.cell? ⟨g, o + k * 3 + 1, none⟩ = some (.string ⟨t.text.toArray⟩) ∧ w.cell? ⟨g, o + k * 3 + 2, none⟩ = some (.int .i64 t.at')
theorem CellO.below {w w' : World} {g o k : Nat} {t : Tok} (h : CellO w g o k t) (hb : Below w.heap.size w w') (hg : g < w.heap.size) : CellO w' g o k t :=
  ⟨(hb.cell (p := ⟨g, _, none⟩) hg).trans h.1, (hb.cell (p := ⟨g, _, none⟩) hg).trans h.2.1, (hb.cell (p := ⟨g, _, none⟩) hg).trans h.2.2⟩
theorem lit39d {w : World} {a b c : Value} {k t : Nat} (hk : k = w.heap.size) : ∀ (j : Nat) (u : Value), [a, b, c][j]? = some u → (w.alloc (.cells #[a, b, c] t)).drew.cell? ((⟨k, 0, none⟩ : Addr).add j) = some u := lit39 hk
/-- a slice that reads as these tokens -/
def TokAt (w : World) (v : Value) (l : List Tok) : Prop := ∃ A c, v = .slice A l.length c ∧ l.length ≤ c ∧ ∀ (k : Nat) t, l[k]? = some t → ∃ g o, A = some ⟨g, o, none⟩ ∧ g < w.heap.size ∧ CellO w g o k t
theorem TokAt.below {w w' : World} {v : Value} {l : List Tok} (h : TokAt w v l) (hb : Below w.heap.size w w') : TokAt w' v l := by
  obtain ⟨A, c, hv, hc, h⟩ := h
  refine ⟨A, c, hv, hc, fun k t hk => ?_⟩
  obtain ⟨g, o, hA, hg, h1⟩ := h k t hk
  exact ⟨g, o, hA, Nat.lt_of_lt_of_le hg hb.size, h1.below hb hg⟩
theorem tok_of_own {w : World} {base e : Nat} {v : Value} {l : List Tok} (h : w.ownsRow base e 3 v l.length (flatT l)) : TokAt w v l := by
  obtain ⟨A, c, hv, hc, hI⟩ := rowT_cells h
  refine ⟨A, c, hv, hc, fun k t hk => ?_⟩
  obtain ⟨g, hA, _, hg, h1, h2, h3⟩ := hI k t hk
  exact ⟨g, 0, hA, hg, by simpa [CellO] using ⟨h1, h2, h3⟩⟩
set_option maxRecDepth 100000 in
set_option maxHeartbeats 1000000 in
/-- the program's tokens as the document has them -/
theorem of_any (v : Value) (l : List Tok) (hl : l.length ≤ 100000) (w : World) (h : TokAt w v l) :
    Calls Tryd.prog 14 #[v] w fun e w' => (∃ u, e = .returned u ∧ w'.ownsRow w.heap.size 35 3 u l.length (flatT l)) ∧ Below w.heap.size w w' := by
  obtain ⟨i0, hj, hj0, hj1, hj2⟩ := info_parts info35
  obtain ⟨Q, hQ⟩ : ∃ Q : Ending → World → Prop, (fun e w' => (∃ u, e = .returned u ∧ w'.ownsRow w.heap.size 35 3 u l.length (flatT l)) ∧ Below w.heap.size w w') = Q := ⟨_, rfl⟩
  rw [hQ]
  have HQ := Lib.hid hQ
  obtain ⟨A, c, rfl, hc, hI⟩ := id h
  have HI := Lib.hid (fun k t hk W hb => by
    obtain ⟨A2, c2, hv, _, hI2⟩ := h.below (w' := W) hb
    simp only [Value.slice.injEq, true_and] at hv
    obtain ⟨rfl, rfl⟩ := hv
    exact hI2 k t hk : ∀ (k : Nat) t, l[k]? = some t → ∀ W, Below w.heap.size w W → ∃ g o, A = some ⟨g, o, none⟩ ∧ g < W.heap.size ∧ CellO W g o k t)
  have hnil : w.ownsRow w.heap.size 35 3 (.slice none 0 0) 0 [] := ⟨rfl, .inl ⟨rfl, rfl⟩⟩
  have HN0 := Lib.hid hnil
  clear hQ h hI hnil
  go_enter Tryd.func14, Tryd.ntmps14
  go_wp2_with fail
  go_loopw [3, 4] (fun u i wr => ∃ k : Nat, k ≤ l.length ∧ i = .int .i64 (k : Int) ∧ wr.ownsRow w.heap.size 35 3 u (l.take k).length (flatT (l.take k)) ∧ Below w.heap.size w wr) (fun _ i _ => l.length - (intOf i).toNat)
  case atStart => exact ⟨0, by omega, rfl, HN0.out, Below.refl _ _⟩
  case round =>
    obtain ⟨k, hk, rfl, hrow, hB⟩ := hrel
    obtain ⟨A9, c9, rfl⟩ := own_shape hrow
    have HROW := Lib.hid hrow
    have HB := Lib.hid hB
    clear hrow hB
    by_cases hlt : k < l.length
    · have hx : l[k]? = some l[k] := List.getElem?_eq_getElem hlt
      obtain ⟨t, ht⟩ : ∃ t, l[k] = t := ⟨_, rfl⟩
      have htk : l.take (k + 1) = l.take k ++ [t] := by rw [← ht]; exact (List.take_append_getElem hlt).symm
      rw [ht] at hx
      have hbd : Below w.heap.size w wr.drew := HB.out.drew
      obtain ⟨g, o, rfl, hg, _⟩ := HI.out k t hx wr.drew hbd
      have HKK : Hid (∀ W, Below w.heap.size w W → CellO W g o k t) := Lib.hid (fun W hW => by
        obtain ⟨g2, o2, e, _, hcc⟩ := HI.out k t hx W hW
        injection e with e
        injection e with e1 e2
        subst e1 e2
        exact hcc)
      obtain ⟨kd, tx, a⟩ := t
      have hi : (k : Int) < (l.length : Int) := by omega
      have hi0 : (0 : Int) ≤ (k : Int) := by omega
      have hi2 : (l.length : Int) ≤ (c : Int) := by omega
      have HTK := Lib.hid htk
      obtain ⟨ts, hts⟩ : ∃ ts : ByteArray, ⟨tx.toArray⟩ = ts := ⟨_, rfl⟩
      have HTS := Lib.hid hts
      have hlk : (l.take k).length = k := by rw [List.length_take]; omega
      obtain ⟨m, hm⟩ : ∃ m, (l.take k).length = m := ⟨_, rfl⟩
      rw [hm] at HROW hlk
      have HM := Lib.hid hm
      have HLK := Lib.hid hlk
      have hm100 : m ≤ 100000 := by omega
      rw [hm]
      clear hx ht htk hbd hts hm hlk
      go_wp2_with fail
      refine wp_region_held_drew (S := fun X => Below w.heap.size w X) (by kernel_rfl) (HB.out.drew) (fun hS => ?_)
      refine wpAnyH_take (i := 0) (v := ?v0o) rfl (by kernel_rfl) (by kernel_rfl) (by kernel_rfl) (fun _ _ _ h => h) (Or.inl ⟨by kernel_rfl, ?h0o⟩) hS ?_
      case h0o => (rintro w2 hb; obtain ⟨k0, k1, k2⟩ := HKK.out w2 hb; simp only [HTS.out] at k0 k1 k2; go_simp; try with_reducible rfl)
      refine wpAnyH_take (i := 1) (v := ?v1o) rfl (by kernel_rfl) (by kernel_rfl) (by kernel_rfl) (fun _ _ _ h => h) (Or.inl ⟨by kernel_rfl, ?h1o⟩) hS ?_
      case h1o => (rintro w2 hb; obtain ⟨k0, k1, k2⟩ := HKK.out w2 hb; simp only [HTS.out] at k0 k1 k2; go_simp; try with_reducible rfl)
      refine wpAnyH_take (i := 2) (v := ?v2o) rfl (by kernel_rfl) (by kernel_rfl) (by kernel_rfl) (fun _ _ _ h => h) (Or.inl ⟨by kernel_rfl, ?h2o⟩) hS ?_
      case h2o => (rintro w2 hb; obtain ⟨k0, k1, k2⟩ := HKK.out w2 hb; simp only [HTS.out] at k0 k1 k2; go_simp; try with_reducible rfl)
      refine wpAnyH_take (i := 3) (v := ?v3o) rfl (by kernel_rfl) (by kernel_rfl) (by kernel_rfl) (fun _ _ _ h => h) (Or.inl ⟨by kernel_rfl, ?h3o⟩) hS ?_
      case h3o => (rintro w2 hb; obtain ⟨k0, k1, k2⟩ := HKK.out w2 hb; simp only [HTS.out] at k0 k1 k2; go_simp; try with_reducible rfl)
      refine wpAnyH_take (i := 4) (v := ?v4o) rfl (by kernel_rfl) (by kernel_rfl) (by kernel_rfl) (fun _ _ _ h => h) (Or.inl ⟨by kernel_rfl, ?h4o⟩) hS ?_
      case h4o => (rintro w2 hb; obtain ⟨k0, k1, k2⟩ := HKK.out w2 hb; simp only [HTS.out] at k0 k1 k2; go_simp; try with_reducible rfl)
      refine wpAnyH_take (i := 5) (v := ?v5o) rfl (by kernel_rfl) (by kernel_rfl) (by kernel_rfl) (fun _ _ _ h => h) (Or.inl ⟨by kernel_rfl, ?h5o⟩) hS ?_
      case h5o => (rintro w2 hb; obtain ⟨k0, k1, k2⟩ := HKK.out w2 hb; simp only [HTS.out] at k0 k1 k2; go_simp; try with_reducible rfl)
      refine wpAnyH_take (i := 6) (v := ?v6o) rfl (by kernel_rfl) (by kernel_rfl) (by kernel_rfl) (fun _ _ _ h => h) (Or.inl ⟨by kernel_rfl, ?h6o⟩) hS ?_
      case h6o => (rintro w2 hb; obtain ⟨k0, k1, k2⟩ := HKK.out w2 hb; simp only [HTS.out] at k0 k1 k2; go_simp; try with_reducible rfl)
      refine wpAnyH_take (i := 7) (v := ?v7o) rfl (by kernel_rfl) (by kernel_rfl) (by kernel_rfl) (fun _ _ _ h => h) (Or.inl ⟨by kernel_rfl, ?h7o⟩) hS ?_
      case h7o => (rintro w2 hb; obtain ⟨k0, k1, k2⟩ := HKK.out w2 hb; simp only [HTS.out] at k0 k1 k2; go_simp; try with_reducible rfl)
      refine wpAnyH_take (i := 8) (v := ?v8o) rfl (by kernel_rfl) (by kernel_rfl) (by kernel_rfl) (fun _ _ _ h => h) (Or.inl ⟨by kernel_rfl, ?h8o⟩) hS ?_
      case h8o => (rintro w2 hb; obtain ⟨k0, k1, k2⟩ := HKK.out w2 hb; simp only [HTS.out] at k0 k1 k2; go_simp; try with_reducible rfl)
      refine wpAnyH_take (i := 9) (v := ?v9o) rfl (by kernel_rfl) (by kernel_rfl) (by kernel_rfl) (fun _ _ _ h => h) (Or.inl ⟨by kernel_rfl, ?h9o⟩) hS ?_
      case h9o => (rintro w2 hb; obtain ⟨k0, k1, k2⟩ := HKK.out w2 hb; simp only [HTS.out] at k0 k1 k2; go_simp; try with_reducible rfl)
      refine wpAnyH_take (i := 10) (v := ?v10o) rfl (by kernel_rfl) (by kernel_rfl) (by kernel_rfl) (fun _ _ _ h => h) (Or.inl ⟨by kernel_rfl, ?h10o⟩) hS ?_
      case h10o => (rintro w2 hb; obtain ⟨k0, k1, k2⟩ := HKK.out w2 hb; simp only [HTS.out] at k0 k1 k2; go_simp; try with_reducible rfl)
      refine wpAnyH_take (i := 11) (v := ?v11o) rfl (by kernel_rfl) (by kernel_rfl) (by kernel_rfl) (fun _ _ _ h => h) (Or.inl ⟨by kernel_rfl, ?h11o⟩) hS ?_
      case h11o => (rintro w2 hb; obtain ⟨k0, k1, k2⟩ := HKK.out w2 hb; simp only [HTS.out] at k0 k1 k2; go_simp; try with_reducible rfl)
      refine wpAnyH_take (i := 12) (v := ?v12o) rfl (by kernel_rfl) (by kernel_rfl) (by kernel_rfl) (fun _ _ _ h => h) (Or.inl ⟨by kernel_rfl, ?h12o⟩) hS ?_
      case h12o => (rintro w2 hb; obtain ⟨k0, k1, k2⟩ := HKK.out w2 hb; simp only [HTS.out] at k0 k1 k2; go_simp; try with_reducible rfl)
      refine wpAnyH_take (i := 13) (v := ?v13o) rfl (by kernel_rfl) (by kernel_rfl) (by kernel_rfl) (fun _ _ _ h => h) (Or.inl ⟨by kernel_rfl, ?h13o⟩) hS ?_
      case h13o => (rintro w2 hb; obtain ⟨k0, k1, k2⟩ := HKK.out w2 hb; simp only [HTS.out] at k0 k1 k2; go_simp; try with_reducible rfl)
      refine wpAnyH_take (i := 14) (v := ?v14o) rfl (by kernel_rfl) (by kernel_rfl) (by kernel_rfl) (fun _ _ _ h => h) (Or.inl ⟨by kernel_rfl, ?h14o⟩) hS ?_
      case h14o => (rintro w2 hb; obtain ⟨k0, k1, k2⟩ := HKK.out w2 hb; simp only [HTS.out] at k0 k1 k2; go_simp; try with_reducible rfl)
      refine wpAnyH_take (i := 15) (v := ?v15o) rfl (by kernel_rfl) (by kernel_rfl) (by kernel_rfl) (fun _ _ _ h => h) (Or.inl ⟨by kernel_rfl, ?h15o⟩) hS ?_
      case h15o => (rintro w2 hb; obtain ⟨k0, k1, k2⟩ := HKK.out w2 hb; simp only [HTS.out] at k0 k1 k2; go_simp; try with_reducible rfl)
      refine wpAnyH_take (i := 16) (v := ?v16o) rfl (by kernel_rfl) (by kernel_rfl) (by kernel_rfl) (fun _ _ _ h => h) (Or.inl ⟨by kernel_rfl, ?h16o⟩) hS ?_
      case h16o => (rintro w2 hb; obtain ⟨k0, k1, k2⟩ := HKK.out w2 hb; simp only [HTS.out] at k0 k1 k2; go_simp; try with_reducible rfl)
      refine wpAnyH_ready (rs := [17]) (by kernel_rfl) (by simp) (AllReadyH.cons rfl (fun K hK => ?_) AllReadyH.nil)
      go_simp
      have hba : Below wr.heap.size wr (wr.alloc (.cells #[.int .i64 kd, .string ts, .int .i64 a] 35)).drew := ((Below.refl _ _).alloc (Nat.le_refl _) _).drew
      have HR2 := Lib.hid (rowG_later HROW.out hba)
      have HB2 := Lib.hid (HB.out.trans (hba.mono HB.out.size))
      refine hK.out _ _ HB2.out (fun hS17 => ?_)
      clear hK K hba
      refine wpAnyH_ready (rs := [18]) (by kernel_rfl) (by simp) (AllReadyH.cons rfl (fun K hK => ?_) AllReadyH.nil)
      refine wp_append_own _ (.tmp 11) (.tmp 28) 27 rfl w.heap.size 35 i0 (.agg #[.int .i64 0, .string ⟨#[]⟩, .int .i64 0]) 3 32 Tryd.underlying27 hj hj0 hj1 hj2 rfl (by decide) (.slice A9 m c9) m (flatT (l.take k)) (by go_simp) HR2.out ⟨wr.heap.size, 0, none⟩ 1 1 [.int .i64 kd, .string ts, .int .i64 a] (by go_simp) rfl (lit39d rfl) (one39 _ _ _) (by unfold maxLen; omega) (by omega) HB2.out.size ?_
      intro v2 w4 hown2 hgrow2 hnil2
      obtain ⟨A2, c2, rfl⟩ := own_shape hown2
      have HR4 := Lib.hid hown2
      have HB4 := Lib.hid (HB2.out.grown hgrow2 HB2.out.size (fun j e => (rowG_lt HR2.out e).2))
      clear hown2 hgrow2 hnil2
      refine hK.out _ _ HB4.out (fun hS18 => ?_)
      clear hK K
      refine wpAnyH_take (i := 19) (v := ?v19p) rfl (by kernel_rfl) (by kernel_rfl) (by kernel_rfl) (fun _ _ _ h => h) (Or.inl ⟨by kernel_rfl, ?h19p⟩) hS18 ?_
      case h19p => (rintro w2 hb; go_simp; try with_reducible rfl)
      refine wpAnyH_done (by kernel_rfl) ?_ _
      go_simp
      go_wp2_with fail
      go_roundw
      case rel => exact ⟨k + 1, by omega, by simp, by
        rw [HTK.out, List.length_append, HM.out, flatT_app]
        have := HR4.out
        rw [← HTS.out] at this
        exact this, HB4.out⟩
      case measure => simp [intOf]; omega
    · obtain rfl : k = l.length := by omega
      have hi : ¬ (l.length : Int) < (l.length : Int) := by omega
      rw [List.take_length] at HROW
      rw [List.take_length]
      go_wp2
      rw [← HQ.out]
      exact ⟨⟨_, rfl, HROW.out⟩, HB.out⟩
set_option maxRecDepth 100000 in
set_option maxHeartbeats 2000000 in
/-- rows of like tokens are the same -/
theorem same_true (v u : Value) (l m : List Tok) (hl : l.length ≤ 100000) (hlm : l.length = m.length) (he : ∀ (k : Nat) t r, l[k]? = some t → m[k]? = some r → t.kind = r.kind ∧ t.text = r.text ∧ t.at' = r.at') (w : World) (h : TokAt w v l) (h' : TokAt w u m) :
    Calls Tryd.prog 13 #[v, u, .bool true] w fun e w' => e = .returned (.bool true) ∧ Below w.heap.size w w' := by
  obtain ⟨A, c, rfl, hc, hI⟩ := id h
  obtain ⟨A', c', rfl, hc', hI'⟩ := id h'
  have HI : Hid (∀ (k : Nat) t, l[k]? = some t → ∀ W, Below w.heap.size w W → ∃ g o, A = some ⟨g, o, none⟩ ∧ CellO W g o k t) := Lib.hid (fun k t hk W hb => by
    obtain ⟨A2, c2, hv, _, hI2⟩ := h.below (w' := W) hb
    simp only [Value.slice.injEq, true_and] at hv
    obtain ⟨rfl, rfl⟩ := hv
    obtain ⟨g, o, e1, _, e2⟩ := hI2 k t hk
    exact ⟨g, o, e1, e2⟩)
  have HI' : Hid (∀ (k : Nat) t, m[k]? = some t → ∀ W, Below w.heap.size w W → ∃ g o, A' = some ⟨g, o, none⟩ ∧ CellO W g o k t) := Lib.hid (fun k t hk W hb => by
    obtain ⟨A2, c2, hv, _, hI2⟩ := h'.below (w' := W) hb
    simp only [Value.slice.injEq, true_and] at hv
    obtain ⟨rfl, rfl⟩ := hv
    obtain ⟨g, o, e1, _, e2⟩ := hI2 k t hk
    exact ⟨g, o, e1, e2⟩)
  have HEQ := Lib.hid he
  obtain ⟨n, hn⟩ : ∃ n, l.length = n := ⟨_, rfl⟩
  rw [← hlm, hn] at hc'
  rw [← hlm]
  rw [hn] at hc hl ⊢
  have HN := Lib.hid (And.intro hn (hlm.symm.trans hn))
  clear h h' hI hI' he hn hlm
  go_enter Tryd.func13, Tryd.ntmps13
  go_wp2_with fail
  go_loopw [7] (fun i wr => ∃ k : Nat, k ≤ n ∧ i = .int .i64 (k : Int) ∧ Below w.heap.size w wr) (fun i _ => n - (intOf i).toNat)
  case atStart => exact ⟨0, by omega, rfl, Below.refl _ _⟩
  case round =>
    obtain ⟨k, hk, rfl, hB⟩ := hrel
    have HB := Lib.hid hB
    clear hB
    by_cases hlt : k < n
    · have hx : l[k]? = some (l[k]'(by rw [HN.out.1]; exact hlt)) := List.getElem?_eq_getElem _
      have hy : m[k]? = some (m[k]'(by rw [HN.out.2]; exact hlt)) := List.getElem?_eq_getElem _
      obtain ⟨t, ht⟩ : ∃ t, (l[k]'(by rw [HN.out.1]; exact hlt)) = t := ⟨_, rfl⟩
      obtain ⟨r, hr⟩ : ∃ r, (m[k]'(by rw [HN.out.2]; exact hlt)) = r := ⟨_, rfl⟩
      rw [ht] at hx
      rw [hr] at hy
      obtain ⟨g, o, rfl, k0, k1, k2⟩ := HI.out k t hx wr.drew HB.out.drew
      obtain ⟨g', o', rfl, n0, n1, n2⟩ := HI'.out k r hy wr.drew HB.out.drew
      have heq := HEQ.out k t r hx hy
      obtain ⟨kd, tx, a⟩ := t
      obtain ⟨kd', tx', a'⟩ := r
      simp only at k0 k1 k2 n0 n1 n2 heq
      obtain ⟨rfl, rfl, rfl⟩ := heq
      obtain ⟨ts, hts⟩ : ∃ ts : ByteArray, ⟨tx.toArray⟩ = ts := ⟨_, rfl⟩
      rw [hts] at k1 n1
      have hi : (k : Int) < (n : Int) := by omega
      have hi0 : (0 : Int) ≤ (k : Int) := by omega
      have hi2 : (n : Int) ≤ (c : Int) := by omega
      have hi3 : (n : Int) ≤ (c' : Int) := by omega
      clear hx hy ht hr hts
      go_wp2_with fail
      refine wp_region_held_drew (S := fun X => X = wr.drew) (by kernel_rfl) rfl (fun hS => ?_)
      refine wpAnyH_take (i := 0) (v := ?v0t) rfl (by kernel_rfl) (by kernel_rfl) (by kernel_rfl) (fun _ _ _ h => h) (Or.inl ⟨by kernel_rfl, ?h0t⟩) hS ?_
      case h0t => (rintro w2 rfl; go_simp; try with_reducible rfl)
      refine wpAnyH_take (i := 1) (v := ?v1t) rfl (by kernel_rfl) (by kernel_rfl) (by kernel_rfl) (fun _ _ _ h => h) (Or.inl ⟨by kernel_rfl, ?h1t⟩) hS ?_
      case h1t => (rintro w2 rfl; go_simp; try with_reducible rfl)
      refine wpAnyH_take (i := 2) (v := ?v2t) rfl (by kernel_rfl) (by kernel_rfl) (by kernel_rfl) (fun _ _ _ h => h) (Or.inl ⟨by kernel_rfl, ?h2t⟩) hS ?_
      case h2t => (rintro w2 rfl; go_simp; try with_reducible rfl)
      refine wpAnyH_take (i := 3) (v := ?v3t) rfl (by kernel_rfl) (by kernel_rfl) (by kernel_rfl) (fun _ _ _ h => h) (Or.inl ⟨by kernel_rfl, ?h3t⟩) hS ?_
      case h3t => (rintro w2 rfl; go_simp; try with_reducible rfl)
      refine wpAnyH_take (i := 4) (v := ?v4t) rfl (by kernel_rfl) (by kernel_rfl) (by kernel_rfl) (fun _ _ _ h => h) (Or.inl ⟨by kernel_rfl, ?h4t⟩) hS ?_
      case h4t => (rintro w2 rfl; go_simp; try with_reducible rfl)
      refine wpAnyH_take (i := 5) (v := ?v5t) rfl (by kernel_rfl) (by kernel_rfl) (by kernel_rfl) (fun _ _ _ h => h) (Or.inl ⟨by kernel_rfl, ?h5t⟩) hS ?_
      case h5t => (rintro w2 rfl; go_simp; try with_reducible rfl)
      refine wpAnyH_take (i := 6) (v := ?v6t) rfl (by kernel_rfl) (by kernel_rfl) (by kernel_rfl) (fun _ _ _ h => h) (Or.inl ⟨by kernel_rfl, ?h6t⟩) hS ?_
      case h6t => (rintro w2 rfl; go_simp; try with_reducible rfl)
      refine wpAnyH_take (i := 7) (v := ?v7t) rfl (by kernel_rfl) (by kernel_rfl) (by kernel_rfl) (fun _ _ _ h => h) (Or.inl ⟨by kernel_rfl, ?h7t⟩) hS ?_
      case h7t => (rintro w2 rfl; go_simp; try with_reducible rfl)
      refine wpAnyH_take (i := 8) (v := ?v8t) rfl (by kernel_rfl) (by kernel_rfl) (by kernel_rfl) (fun _ _ _ h => h) (Or.inl ⟨by kernel_rfl, ?h8t⟩) hS ?_
      case h8t => (rintro w2 rfl; go_simp; try with_reducible rfl)
      refine wpAnyH_take (i := 9) (v := ?v9t) rfl (by kernel_rfl) (by kernel_rfl) (by kernel_rfl) (fun _ _ _ h => h) (Or.inl ⟨by kernel_rfl, ?h9t⟩) hS ?_
      case h9t => (rintro w2 rfl; go_simp; try with_reducible rfl)
      refine wpAnyH_take (i := 10) (v := .bool false) rfl (by kernel_rfl) (by kernel_rfl) (by kernel_rfl) (fun _ _ _ h => h) (Or.inl ⟨by kernel_rfl, ?h10t⟩) hS ?_
      case h10t => (rintro w2 rfl; go_simp; try with_reducible rfl)
      refine wpAnyH_take (i := 11) (v := .bool false) rfl (by kernel_rfl) (by kernel_rfl) (by kernel_rfl) (fun _ _ _ h => h) (Or.inl ⟨by kernel_rfl, ?h11t⟩) hS ?_
      case h11t => (rintro w2 rfl; go_simp; try with_reducible rfl)
      refine wpAnyH_take (i := 12) (v := ?v12t) rfl (by kernel_rfl) (by kernel_rfl) (by kernel_rfl) (fun _ _ _ h => h) (Or.inl ⟨by kernel_rfl, ?h12t⟩) hS ?_
      case h12t => (rintro w2 rfl; go_simp; try with_reducible rfl)
      refine wpAnyH_take (i := 13) (v := ?v13t) rfl (by kernel_rfl) (by kernel_rfl) (by kernel_rfl) (fun _ _ _ h => h) (Or.inl ⟨by kernel_rfl, ?h13t⟩) hS ?_
      case h13t => (rintro w2 rfl; go_simp; try with_reducible rfl)
      refine wpAnyH_take (i := 14) (v := ?v14t) rfl (by kernel_rfl) (by kernel_rfl) (by kernel_rfl) (fun _ _ _ h => h) (Or.inl ⟨by kernel_rfl, ?h14t⟩) hS ?_
      case h14t => (rintro w2 rfl; go_simp; try with_reducible rfl)
      refine wpAnyH_take (i := 15) (v := ?v15t) rfl (by kernel_rfl) (by kernel_rfl) (by kernel_rfl) (fun _ _ _ h => h) (Or.inl ⟨by kernel_rfl, ?h15t⟩) hS ?_
      case h15t => (rintro w2 rfl; go_simp; try with_reducible rfl)
      refine wpAnyH_take (i := 16) (v := ?v16t) rfl (by kernel_rfl) (by kernel_rfl) (by kernel_rfl) (fun _ _ _ h => h) (Or.inl ⟨by kernel_rfl, ?h16t⟩) hS ?_
      case h16t => (rintro w2 rfl; go_simp; try with_reducible rfl)
      refine wpAnyH_take (i := 17) (v := ?v17t) rfl (by kernel_rfl) (by kernel_rfl) (by kernel_rfl) (fun _ _ _ h => h) (Or.inl ⟨by kernel_rfl, ?h17t⟩) hS ?_
      case h17t => (rintro w2 rfl; go_simp; try with_reducible rfl)
      refine wpAnyH_take (i := 18) (v := ?v18t) rfl (by kernel_rfl) (by kernel_rfl) (by kernel_rfl) (fun _ _ _ h => h) (Or.inl ⟨by kernel_rfl, ?h18t⟩) hS ?_
      case h18t => (rintro w2 rfl; go_simp; try with_reducible rfl)
      refine wpAnyH_take (i := 19) (v := ?v19t) rfl (by kernel_rfl) (by kernel_rfl) (by kernel_rfl) (fun _ _ _ h => h) (Or.inl ⟨by kernel_rfl, ?h19t⟩) hS ?_
      case h19t => (rintro w2 rfl; go_simp; try with_reducible rfl)
      refine wpAnyH_take (i := 20) (v := ?v20t) rfl (by kernel_rfl) (by kernel_rfl) (by kernel_rfl) (fun _ _ _ h => h) (Or.inl ⟨by kernel_rfl, ?h20t⟩) hS ?_
      case h20t => (rintro w2 rfl; go_simp; try with_reducible rfl)
      refine wpAnyH_take (i := 21) (v := ?v21t) rfl (by kernel_rfl) (by kernel_rfl) (by kernel_rfl) (fun _ _ _ h => h) (Or.inl ⟨by kernel_rfl, ?h21t⟩) hS ?_
      case h21t => (rintro w2 rfl; go_simp; try with_reducible rfl)
      refine wpAnyH_take (i := 22) (v := .bool false) rfl (by kernel_rfl) (by kernel_rfl) (by kernel_rfl) (fun _ _ _ h => h) (Or.inl ⟨by kernel_rfl, ?h22t⟩) hS ?_
      case h22t => (rintro w2 rfl; go_simp; try with_reducible rfl)
      refine wpAnyH_take (i := 23) (v := .bool false) rfl (by kernel_rfl) (by kernel_rfl) (by kernel_rfl) (fun _ _ _ h => h) (Or.inl ⟨by kernel_rfl, ?h23t⟩) hS ?_
      case h23t => (rintro w2 rfl; go_simp; try with_reducible rfl)
      refine wpAnyH_take (i := 24) (v := .bool false) rfl (by kernel_rfl) (by kernel_rfl) (by kernel_rfl) (fun _ _ _ h => h) (Or.inl ⟨by kernel_rfl, ?h24t⟩) hS ?_
      case h24t => (rintro w2 rfl; go_simp; try with_reducible rfl)
      refine wpAnyH_take (i := 25) (v := .bool true) rfl (by kernel_rfl) (by kernel_rfl) (by kernel_rfl) (fun _ _ _ h => h) (Or.inl ⟨by kernel_rfl, ?h25t⟩) hS ?_
      case h25t => (rintro w2 rfl; go_simp; try with_reducible rfl)
      refine wpAnyH_take (i := 26) (v := .bool true) rfl (by kernel_rfl) (by kernel_rfl) (by kernel_rfl) (fun _ _ _ h => h) (Or.inl ⟨by kernel_rfl, ?h26t⟩) hS ?_
      case h26t => (rintro w2 rfl; go_simp; try with_reducible rfl)
      refine wpAnyH_take (i := 27) (v := ?v27t) rfl (by kernel_rfl) (by kernel_rfl) (by kernel_rfl) (fun _ _ _ h => h) (Or.inl ⟨by kernel_rfl, ?h27t⟩) hS ?_
      case h27t => (rintro w2 rfl; go_simp; try with_reducible rfl)
      refine wpAnyH_take (i := 28) (v := ?v28t) rfl (by kernel_rfl) (by kernel_rfl) (by kernel_rfl) (fun _ _ _ h => h) (Or.inl ⟨by kernel_rfl, ?h28t⟩) hS ?_
      case h28t => (rintro w2 rfl; go_simp; try with_reducible rfl)
      refine wpAnyH_take (i := 29) (v := ?v29t) rfl (by kernel_rfl) (by kernel_rfl) (by kernel_rfl) (fun _ _ _ h => h) (Or.inl ⟨by kernel_rfl, ?h29t⟩) hS ?_
      case h29t => (rintro w2 rfl; go_simp; try with_reducible rfl)
      refine wpAnyH_take (i := 30) (v := ?v30t) rfl (by kernel_rfl) (by kernel_rfl) (by kernel_rfl) (fun _ _ _ h => h) (Or.inl ⟨by kernel_rfl, ?h30t⟩) hS ?_
      case h30t => (rintro w2 rfl; go_simp; try with_reducible rfl)
      refine wpAnyH_take (i := 31) (v := ?v31t) rfl (by kernel_rfl) (by kernel_rfl) (by kernel_rfl) (fun _ _ _ h => h) (Or.inl ⟨by kernel_rfl, ?h31t⟩) hS ?_
      case h31t => (rintro w2 rfl; go_simp; try with_reducible rfl)
      refine wpAnyH_take (i := 32) (v := ?v32t) rfl (by kernel_rfl) (by kernel_rfl) (by kernel_rfl) (fun _ _ _ h => h) (Or.inl ⟨by kernel_rfl, ?h32t⟩) hS ?_
      case h32t => (rintro w2 rfl; go_simp; try with_reducible rfl)
      refine wpAnyH_take (i := 33) (v := ?v33t) rfl (by kernel_rfl) (by kernel_rfl) (by kernel_rfl) (fun _ _ _ h => h) (Or.inl ⟨by kernel_rfl, ?h33t⟩) hS ?_
      case h33t => (rintro w2 rfl; go_simp; try with_reducible rfl)
      refine wpAnyH_take (i := 34) (v := ?v34t) rfl (by kernel_rfl) (by kernel_rfl) (by kernel_rfl) (fun _ _ _ h => h) (Or.inl ⟨by kernel_rfl, ?h34t⟩) hS ?_
      case h34t => (rintro w2 rfl; go_simp; try with_reducible rfl)
      refine wpAnyH_take (i := 35) (v := ?v35t) rfl (by kernel_rfl) (by kernel_rfl) (by kernel_rfl) (fun _ _ _ h => h) (Or.inl ⟨by kernel_rfl, ?h35t⟩) hS ?_
      case h35t => (rintro w2 rfl; go_simp; try with_reducible rfl)
      refine wpAnyH_take (i := 36) (v := ?v36t) rfl (by kernel_rfl) (by kernel_rfl) (by kernel_rfl) (fun _ _ _ h => h) (Or.inl ⟨by kernel_rfl, ?h36t⟩) hS ?_
      case h36t => (rintro w2 rfl; go_simp; try with_reducible rfl)
      refine wpAnyH_take (i := 37) (v := .bool false) rfl (by kernel_rfl) (by kernel_rfl) (by kernel_rfl) (fun _ _ _ h => h) (Or.inl ⟨by kernel_rfl, ?h37t⟩) hS ?_
      case h37t => (rintro w2 rfl; go_simp; try with_reducible rfl)
      refine wpAnyH_take (i := 38) (v := .bool false) rfl (by kernel_rfl) (by kernel_rfl) (by kernel_rfl) (fun _ _ _ h => h) (Or.inl ⟨by kernel_rfl, ?h38t⟩) hS ?_
      case h38t => (rintro w2 rfl; go_simp; try with_reducible rfl)
      refine wpAnyH_take (i := 39) (v := .bool false) rfl (by kernel_rfl) (by kernel_rfl) (by kernel_rfl) (fun _ _ _ h => h) (Or.inl ⟨by kernel_rfl, ?h39t⟩) hS ?_
      case h39t => (rintro w2 rfl; go_simp; try with_reducible rfl)
      refine wpAnyH_done (by kernel_rfl) ?_ _
      go_simp
      go_wp2_with fail
      go_roundw
      case rel => exact ⟨k + 1, by omega, by simp, HB.out.drew⟩
      case measure => simp [intOf]; omega
    · obtain rfl : k = n := by omega
      have hi : ¬ (k : Int) < (k : Int) := by omega
      go_wp2
      go_ret
      exact ⟨rfl, HB.out⟩
set_option maxRecDepth 100000 in
set_option maxHeartbeats 2000000 in
/-- rows of like tokens are the same -/
theorem same_false (v u : Value) (l m : List Tok) (hl : l.length ≤ 100000) (hlm : l.length = m.length) (he : ∀ (k : Nat) t r, l[k]? = some t → m[k]? = some r → t.kind = r.kind ∧ t.text = r.text) (w : World) (h : TokAt w v l) (h' : TokAt w u m) :
    Calls Tryd.prog 13 #[v, u, .bool false] w fun e w' => e = .returned (.bool true) ∧ Below w.heap.size w w' := by
  obtain ⟨A, c, rfl, hc, hI⟩ := id h
  obtain ⟨A', c', rfl, hc', hI'⟩ := id h'
  have HI : Hid (∀ (k : Nat) t, l[k]? = some t → ∀ W, Below w.heap.size w W → ∃ g o, A = some ⟨g, o, none⟩ ∧ CellO W g o k t) := Lib.hid (fun k t hk W hb => by
    obtain ⟨A2, c2, hv, _, hI2⟩ := h.below (w' := W) hb
    simp only [Value.slice.injEq, true_and] at hv
    obtain ⟨rfl, rfl⟩ := hv
    obtain ⟨g, o, e1, _, e2⟩ := hI2 k t hk
    exact ⟨g, o, e1, e2⟩)
  have HI' : Hid (∀ (k : Nat) t, m[k]? = some t → ∀ W, Below w.heap.size w W → ∃ g o, A' = some ⟨g, o, none⟩ ∧ CellO W g o k t) := Lib.hid (fun k t hk W hb => by
    obtain ⟨A2, c2, hv, _, hI2⟩ := h'.below (w' := W) hb
    simp only [Value.slice.injEq, true_and] at hv
    obtain ⟨rfl, rfl⟩ := hv
    obtain ⟨g, o, e1, _, e2⟩ := hI2 k t hk
    exact ⟨g, o, e1, e2⟩)
  have HEQ := Lib.hid he
  obtain ⟨n, hn⟩ : ∃ n, l.length = n := ⟨_, rfl⟩
  rw [← hlm, hn] at hc'
  rw [← hlm]
  rw [hn] at hc hl ⊢
  have HN := Lib.hid (And.intro hn (hlm.symm.trans hn))
  clear h h' hI hI' he hn hlm
  go_enter Tryd.func13, Tryd.ntmps13
  go_wp2_with fail
  go_loopw [7] (fun i wr => ∃ k : Nat, k ≤ n ∧ i = .int .i64 (k : Int) ∧ Below w.heap.size w wr) (fun i _ => n - (intOf i).toNat)
  case atStart => exact ⟨0, by omega, rfl, Below.refl _ _⟩
  case round =>
    obtain ⟨k, hk, rfl, hB⟩ := hrel
    have HB := Lib.hid hB
    clear hB
    by_cases hlt : k < n
    · have hx : l[k]? = some (l[k]'(by rw [HN.out.1]; exact hlt)) := List.getElem?_eq_getElem _
      have hy : m[k]? = some (m[k]'(by rw [HN.out.2]; exact hlt)) := List.getElem?_eq_getElem _
      obtain ⟨t, ht⟩ : ∃ t, (l[k]'(by rw [HN.out.1]; exact hlt)) = t := ⟨_, rfl⟩
      obtain ⟨r, hr⟩ : ∃ r, (m[k]'(by rw [HN.out.2]; exact hlt)) = r := ⟨_, rfl⟩
      rw [ht] at hx
      rw [hr] at hy
      obtain ⟨g, o, rfl, k0, k1, k2⟩ := HI.out k t hx wr.drew HB.out.drew
      obtain ⟨g', o', rfl, n0, n1, n2⟩ := HI'.out k r hy wr.drew HB.out.drew
      have heq := HEQ.out k t r hx hy
      obtain ⟨kd, tx, a⟩ := t
      obtain ⟨kd', tx', a'⟩ := r
      simp only at k0 k1 k2 n0 n1 n2 heq
      obtain ⟨rfl, rfl⟩ := heq
      obtain ⟨ts, hts⟩ : ∃ ts : ByteArray, ⟨tx.toArray⟩ = ts := ⟨_, rfl⟩
      rw [hts] at k1 n1
      have hi : (k : Int) < (n : Int) := by omega
      have hi0 : (0 : Int) ≤ (k : Int) := by omega
      have hi2 : (n : Int) ≤ (c : Int) := by omega
      have hi3 : (n : Int) ≤ (c' : Int) := by omega
      clear hx hy ht hr hts
      go_wp2_with fail
      refine wp_region_held_drew (S := fun X => X = wr.drew) (by kernel_rfl) rfl (fun hS => ?_)
      refine wpAnyH_take (i := 0) (v := ?v0f) rfl (by kernel_rfl) (by kernel_rfl) (by kernel_rfl) (fun _ _ _ h => h) (Or.inl ⟨by kernel_rfl, ?h0f⟩) hS ?_
      case h0f => (rintro w2 rfl; go_simp; try with_reducible rfl)
      refine wpAnyH_take (i := 1) (v := ?v1f) rfl (by kernel_rfl) (by kernel_rfl) (by kernel_rfl) (fun _ _ _ h => h) (Or.inl ⟨by kernel_rfl, ?h1f⟩) hS ?_
      case h1f => (rintro w2 rfl; go_simp; try with_reducible rfl)
      refine wpAnyH_take (i := 2) (v := ?v2f) rfl (by kernel_rfl) (by kernel_rfl) (by kernel_rfl) (fun _ _ _ h => h) (Or.inl ⟨by kernel_rfl, ?h2f⟩) hS ?_
      case h2f => (rintro w2 rfl; go_simp; try with_reducible rfl)
      refine wpAnyH_take (i := 3) (v := ?v3f) rfl (by kernel_rfl) (by kernel_rfl) (by kernel_rfl) (fun _ _ _ h => h) (Or.inl ⟨by kernel_rfl, ?h3f⟩) hS ?_
      case h3f => (rintro w2 rfl; go_simp; try with_reducible rfl)
      refine wpAnyH_take (i := 4) (v := ?v4f) rfl (by kernel_rfl) (by kernel_rfl) (by kernel_rfl) (fun _ _ _ h => h) (Or.inl ⟨by kernel_rfl, ?h4f⟩) hS ?_
      case h4f => (rintro w2 rfl; go_simp; try with_reducible rfl)
      refine wpAnyH_take (i := 5) (v := ?v5f) rfl (by kernel_rfl) (by kernel_rfl) (by kernel_rfl) (fun _ _ _ h => h) (Or.inl ⟨by kernel_rfl, ?h5f⟩) hS ?_
      case h5f => (rintro w2 rfl; go_simp; try with_reducible rfl)
      refine wpAnyH_take (i := 6) (v := ?v6f) rfl (by kernel_rfl) (by kernel_rfl) (by kernel_rfl) (fun _ _ _ h => h) (Or.inl ⟨by kernel_rfl, ?h6f⟩) hS ?_
      case h6f => (rintro w2 rfl; go_simp; try with_reducible rfl)
      refine wpAnyH_take (i := 7) (v := ?v7f) rfl (by kernel_rfl) (by kernel_rfl) (by kernel_rfl) (fun _ _ _ h => h) (Or.inl ⟨by kernel_rfl, ?h7f⟩) hS ?_
      case h7f => (rintro w2 rfl; go_simp; try with_reducible rfl)
      refine wpAnyH_take (i := 8) (v := ?v8f) rfl (by kernel_rfl) (by kernel_rfl) (by kernel_rfl) (fun _ _ _ h => h) (Or.inl ⟨by kernel_rfl, ?h8f⟩) hS ?_
      case h8f => (rintro w2 rfl; go_simp; try with_reducible rfl)
      refine wpAnyH_take (i := 9) (v := ?v9f) rfl (by kernel_rfl) (by kernel_rfl) (by kernel_rfl) (fun _ _ _ h => h) (Or.inl ⟨by kernel_rfl, ?h9f⟩) hS ?_
      case h9f => (rintro w2 rfl; go_simp; try with_reducible rfl)
      refine wpAnyH_take (i := 10) (v := .bool false) rfl (by kernel_rfl) (by kernel_rfl) (by kernel_rfl) (fun _ _ _ h => h) (Or.inl ⟨by kernel_rfl, ?h10f⟩) hS ?_
      case h10f => (rintro w2 rfl; go_simp; try with_reducible rfl)
      refine wpAnyH_take (i := 11) (v := .bool false) rfl (by kernel_rfl) (by kernel_rfl) (by kernel_rfl) (fun _ _ _ h => h) (Or.inl ⟨by kernel_rfl, ?h11f⟩) hS ?_
      case h11f => (rintro w2 rfl; go_simp; try with_reducible rfl)
      refine wpAnyH_take (i := 12) (v := ?v12f) rfl (by kernel_rfl) (by kernel_rfl) (by kernel_rfl) (fun _ _ _ h => h) (Or.inl ⟨by kernel_rfl, ?h12f⟩) hS ?_
      case h12f => (rintro w2 rfl; go_simp; try with_reducible rfl)
      refine wpAnyH_take (i := 13) (v := ?v13f) rfl (by kernel_rfl) (by kernel_rfl) (by kernel_rfl) (fun _ _ _ h => h) (Or.inl ⟨by kernel_rfl, ?h13f⟩) hS ?_
      case h13f => (rintro w2 rfl; go_simp; try with_reducible rfl)
      refine wpAnyH_take (i := 14) (v := ?v14f) rfl (by kernel_rfl) (by kernel_rfl) (by kernel_rfl) (fun _ _ _ h => h) (Or.inl ⟨by kernel_rfl, ?h14f⟩) hS ?_
      case h14f => (rintro w2 rfl; go_simp; try with_reducible rfl)
      refine wpAnyH_take (i := 15) (v := ?v15f) rfl (by kernel_rfl) (by kernel_rfl) (by kernel_rfl) (fun _ _ _ h => h) (Or.inl ⟨by kernel_rfl, ?h15f⟩) hS ?_
      case h15f => (rintro w2 rfl; go_simp; try with_reducible rfl)
      refine wpAnyH_take (i := 16) (v := ?v16f) rfl (by kernel_rfl) (by kernel_rfl) (by kernel_rfl) (fun _ _ _ h => h) (Or.inl ⟨by kernel_rfl, ?h16f⟩) hS ?_
      case h16f => (rintro w2 rfl; go_simp; try with_reducible rfl)
      refine wpAnyH_take (i := 17) (v := ?v17f) rfl (by kernel_rfl) (by kernel_rfl) (by kernel_rfl) (fun _ _ _ h => h) (Or.inl ⟨by kernel_rfl, ?h17f⟩) hS ?_
      case h17f => (rintro w2 rfl; go_simp; try with_reducible rfl)
      refine wpAnyH_take (i := 18) (v := ?v18f) rfl (by kernel_rfl) (by kernel_rfl) (by kernel_rfl) (fun _ _ _ h => h) (Or.inl ⟨by kernel_rfl, ?h18f⟩) hS ?_
      case h18f => (rintro w2 rfl; go_simp; try with_reducible rfl)
      refine wpAnyH_take (i := 19) (v := ?v19f) rfl (by kernel_rfl) (by kernel_rfl) (by kernel_rfl) (fun _ _ _ h => h) (Or.inl ⟨by kernel_rfl, ?h19f⟩) hS ?_
      case h19f => (rintro w2 rfl; go_simp; try with_reducible rfl)
      refine wpAnyH_take (i := 20) (v := ?v20f) rfl (by kernel_rfl) (by kernel_rfl) (by kernel_rfl) (fun _ _ _ h => h) (Or.inl ⟨by kernel_rfl, ?h20f⟩) hS ?_
      case h20f => (rintro w2 rfl; go_simp; try with_reducible rfl)
      refine wpAnyH_take (i := 21) (v := ?v21f) rfl (by kernel_rfl) (by kernel_rfl) (by kernel_rfl) (fun _ _ _ h => h) (Or.inl ⟨by kernel_rfl, ?h21f⟩) hS ?_
      case h21f => (rintro w2 rfl; go_simp; try with_reducible rfl)
      refine wpAnyH_take (i := 22) (v := .bool false) rfl (by kernel_rfl) (by kernel_rfl) (by kernel_rfl) (fun _ _ _ h => h) (Or.inl ⟨by kernel_rfl, ?h22f⟩) hS ?_
      case h22f => (rintro w2 rfl; go_simp; try with_reducible rfl)
      refine wpAnyH_take (i := 23) (v := .bool false) rfl (by kernel_rfl) (by kernel_rfl) (by kernel_rfl) (fun _ _ _ h => h) (Or.inl ⟨by kernel_rfl, ?h23f⟩) hS ?_
      case h23f => (rintro w2 rfl; go_simp; try with_reducible rfl)
      refine wpAnyH_take (i := 24) (v := .bool false) rfl (by kernel_rfl) (by kernel_rfl) (by kernel_rfl) (fun _ _ _ h => h) (Or.inl ⟨by kernel_rfl, ?h24f⟩) hS ?_
      case h24f => (rintro w2 rfl; go_simp; try with_reducible rfl)
      refine wpAnyH_take (i := 25) (v := .bool false) rfl (by kernel_rfl) (by kernel_rfl) (by kernel_rfl) (fun _ _ _ h => h) (Or.inl ⟨by kernel_rfl, ?h25f⟩) hS ?_
      case h25f => (rintro w2 rfl; go_simp; try with_reducible rfl)
      refine wpAnyH_take (i := 26) (v := .bool false) rfl (by kernel_rfl) (by kernel_rfl) (by kernel_rfl) (fun _ _ _ h => h) (Or.inl ⟨by kernel_rfl, ?h26f⟩) hS ?_
      case h26f => (rintro w2 rfl; go_simp; try with_reducible rfl)
      refine wpAnyH_take (i := 27) (v := undef) rfl (by kernel_rfl) (by kernel_rfl) (by kernel_rfl) (fun _ _ _ h => h) (Or.inr ⟨by kernel_rfl, rfl⟩) hS ?_
      refine wpAnyH_take (i := 28) (v := undef) rfl (by kernel_rfl) (by kernel_rfl) (by kernel_rfl) (fun _ _ _ h => h) (Or.inr ⟨by kernel_rfl, rfl⟩) hS ?_
      refine wpAnyH_take (i := 29) (v := undef) rfl (by kernel_rfl) (by kernel_rfl) (by kernel_rfl) (fun _ _ _ h => h) (Or.inr ⟨by kernel_rfl, rfl⟩) hS ?_
      refine wpAnyH_take (i := 30) (v := undef) rfl (by kernel_rfl) (by kernel_rfl) (by kernel_rfl) (fun _ _ _ h => h) (Or.inr ⟨by kernel_rfl, rfl⟩) hS ?_
      refine wpAnyH_take (i := 31) (v := undef) rfl (by kernel_rfl) (by kernel_rfl) (by kernel_rfl) (fun _ _ _ h => h) (Or.inr ⟨by kernel_rfl, rfl⟩) hS ?_
      refine wpAnyH_take (i := 32) (v := undef) rfl (by kernel_rfl) (by kernel_rfl) (by kernel_rfl) (fun _ _ _ h => h) (Or.inr ⟨by kernel_rfl, rfl⟩) hS ?_
      refine wpAnyH_take (i := 33) (v := undef) rfl (by kernel_rfl) (by kernel_rfl) (by kernel_rfl) (fun _ _ _ h => h) (Or.inr ⟨by kernel_rfl, rfl⟩) hS ?_
      refine wpAnyH_take (i := 34) (v := undef) rfl (by kernel_rfl) (by kernel_rfl) (by kernel_rfl) (fun _ _ _ h => h) (Or.inr ⟨by kernel_rfl, rfl⟩) hS ?_
      refine wpAnyH_take (i := 35) (v := undef) rfl (by kernel_rfl) (by kernel_rfl) (by kernel_rfl) (fun _ _ _ h => h) (Or.inr ⟨by kernel_rfl, rfl⟩) hS ?_
      refine wpAnyH_take (i := 36) (v := undef) rfl (by kernel_rfl) (by kernel_rfl) (by kernel_rfl) (fun _ _ _ h => h) (Or.inr ⟨by kernel_rfl, rfl⟩) hS ?_
      refine wpAnyH_take (i := 37) (v := undef) rfl (by kernel_rfl) (by kernel_rfl) (by kernel_rfl) (fun _ _ _ h => h) (Or.inr ⟨by kernel_rfl, rfl⟩) hS ?_
      refine wpAnyH_take (i := 38) (v := .bool false) rfl (by kernel_rfl) (by kernel_rfl) (by kernel_rfl) (fun _ _ _ h => h) (Or.inl ⟨by kernel_rfl, ?h38f⟩) hS ?_
      case h38f => (rintro w2 rfl; go_simp; try with_reducible rfl)
      refine wpAnyH_take (i := 39) (v := .bool false) rfl (by kernel_rfl) (by kernel_rfl) (by kernel_rfl) (fun _ _ _ h => h) (Or.inl ⟨by kernel_rfl, ?h39f⟩) hS ?_
      case h39f => (rintro w2 rfl; go_simp; try with_reducible rfl)
      refine wpAnyH_done (by kernel_rfl) ?_ _
      go_simp
      go_wp2_with fail
      go_roundw
      case rel => exact ⟨k + 1, by omega, by simp, HB.out.drew⟩
      case measure => simp [intOf]; omega
    · obtain rfl : k = n := by omega
      have hi : ¬ (k : Int) < (k : Int) := by omega
      go_wp2
      go_ret
      exact ⟨rfl, HB.out⟩
end Go.Proofs.YtcnmghkmognhoaaDoor
