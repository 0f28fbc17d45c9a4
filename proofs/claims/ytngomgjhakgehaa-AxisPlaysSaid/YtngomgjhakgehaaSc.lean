/- The document's Order and Place. -/
import Derived.Test.YtngomgjhakgehaaEd
namespace Go.Proofs.Ytngomgjhakgehaa
open Go.RowKit Go.Maps

set_option maxRecDepth 100000 in
set_option maxHeartbeats 6400000 in
theorem rorder_any (s : Nat) (l : List Ent) (w : World) (h : RefR w s l) (hlen : l.length ≤ 100000) :
    Calls Try.prog 14 #[.pointer (some ⟨s, 0, none⟩)] w fun e w' => (∃ v, e = .returned v ∧ w'.ownsRow w.heap.size 25 2 v (liveE l).length (flat2 (liveE l))) ∧ Below w.heap.size w w' := by
  have HRR := Lib.hid h
  obtain ⟨i0, hj, hj0', hj1', hj2⟩ := info_parts info25
  clear h
  go_enter Try.func14, Try.ntmps14
  go_wp2_with fail
  go_loopw [3, 4] (fun u i wr => ∃ k : Nat, k ≤ l.length ∧ i = .int .i64 k ∧ wr.ownsRow w.heap.size 25 2 u (liveE (l.take k)).length (flat2 (liveE (l.take k))) ∧ Below w.heap.size w wr) (fun _ i _ => l.length - (intOf i).toNat)
  case atStart => exact ⟨0, Nat.zero_le _, rfl, ⟨rfl, .inl ⟨rfl, rfl⟩⟩, Below.refl _ _⟩
  case round =>
    obtain ⟨k, hk, rfl, hrow, hB⟩ := hrel
    obtain ⟨A9, c9, rfl⟩ := own_shape hrow
    have HROW := Lib.hid hrow
    have HW := Lib.hid hB
    have HR2 := Lib.hid (HRR.out.below hB)
    clear hrow hB
    obtain ⟨v, hv, A, c, hve, hc, hI⟩ := HR2.out.ids
    rw [List.length_map] at hve hc
    subst hve
    by_cases hlt : k < l.length
    · have hx : l[k]? = some l[k] := List.getElem?_eq_getElem hlt
      have hd : l.take (k + 1) = l.take k ++ [l[k]] := (List.take_append_getElem hlt).symm
      obtain ⟨e, he⟩ : ∃ e, l[k] = e := ⟨_, rfl⟩
      rw [he] at hx hd
      have HD := Lib.hid hd
      obtain ⟨ad, rfl, c2, c3⟩ := hI k e.1 (by rw [List.getElem?_map, hx]; rfl)
      obtain ⟨BB, dd, hv2, hd2, hbs⟩ := HR2.out.live
      obtain ⟨be, rfl, c4⟩ := hbs k e hx
      obtain ⟨⟨x, y⟩, b⟩ := e
      simp only at c2 c3 c4
      have hk0 : (0 : Int) ≤ ↑k := by omega
      have hk1 : (↑k : Int) < ↑l.length := by omega
      have hk2 : (↑l.length : Int) ≤ ↑c := by omega
      have hk3 : (↑l.length : Int) ≤ ↑dd := by omega
      have hz := HW.out.size
      have hln : (liveE (l.take k)).length ≤ l.length := Nat.le_trans (liveE_len _) (by simp; omega)
      clear hx hd he hI hbs
      cases b
      · go_wp2_with fail
        go_roundw
        case rel => exact ⟨k + 1, by omega, by simp, by rw [HD.out, liveE_snoc]; simpa using HROW.out, HW.out⟩
        case measure => simp [intOf]; omega
      · go_wp2_with (at_builtin; refine wpList_append_own _ rfl _ _ 22 rfl w.heap.size 25 i0 (.agg #[.int .i64 0, .int .i64 0]) 2 16 Try.underlying22 hj hj0' hj1' hj2 rfl (by decide) _ _ _ rfl (HROW.out.alloc _) ⟨wr.heap.size, 0, none⟩ 1 1 [.int .i64 x, .int .i64 y] rfl rfl (lit_at rfl) (one_lit _ _) (by unfold maxLen; omega) (by omega) (by simp; omega) ?_; intro v1 w3 hown1 hgrow1 hnil1; have HO1 := Lib.hid hown1; have HG1 := Lib.hid hgrow1; clear hown1 hgrow1 hnil1)
        refine ⟨⟨k + 1, by omega, by simp, ?_, ?_⟩, by simp [intOf]; omega⟩
        · rw [HD.out, liveE_snoc]
          have h9 := HO1.out
          simp only [if_true, List.length_append, List.length_cons, List.length_nil, flat2_app]
          exact h9
        · refine (HW.out.alloc hz _).grown HG1.out (by simp; omega) (fun j e => ?_)
          by_cases hj9 : w.heap.size ≤ j
          · exact hj9
          · exact absurd e.symm (own_ge2 HROW.out (by omega))
    · obtain rfl : k = l.length := by omega
      have hlt2 : ¬ (↑l.length : Int) < ↑l.length := by omega
      go_wp2
      refine bodyPost_ret (v := .slice A9 (liveE (l.take l.length)).length c9) (by simp [results, Try.f14, go_sem]) rfl ⟨⟨_, rfl, ?_⟩, HW.out⟩
      have h9 := HROW.out
      rw [List.take_length] at h9 ⊢
      exact h9
/-- the live ones as entries -/
def liveQ (l : List Ent) : List Ent := (liveE l).map fun q => (q, true)
theorem liveQ_len (l : List Ent) : (liveQ l).length = (liveE l).length := List.length_map ..
/-- the cells that Place's region loads -/
def F4 (g : Nat) (ad : Addr) (k : Nat) (x y a n : Int) (w : World) : Prop :=
  w.cell? (ad.add (k * 2)) = some (.int .i64 x) ∧ w.cell? ⟨(ad.add (k * 2)).block, (ad.add (k * 2)).off + 1, none⟩ = some (.int .i64 y) ∧ w.cell? ⟨g, 0, none⟩ = some (.int .i64 a) ∧ w.cell? ⟨g, 1, none⟩ = some (.int .i64 n)
set_option maxRecDepth 100000 in
set_option maxHeartbeats 3200000 in
theorem rplace_any (s : Nat) (l : List Ent) (a n : Int) (w : World) (h : RefR w s l) (hlen : l.length ≤ 100000) :
    Calls Try.prog 17 #[.pointer (some ⟨s, 0, none⟩), .agg #[.int .i64 a, .int .i64 n]] w fun e w' => e = .returned (.int .i64 (findE (liveQ l) (a, n))) ∧ Below w.heap.size w w' := by
  have hb0 : Below w.heap.size w (w.alloc (.cells #[.int .i64 a, .int .i64 n] 25)) := (Below.refl _ _).alloc (Nat.le_refl _) _
  have H0 := Lib.hid (h.below hb0)
  have HB0 := Lib.hid hb0
  have HG0 := Lib.hid (IdBox.new w a n)
  obtain ⟨R, hR⟩ : ∃ R, findE (liveQ l) (a, n) = R := ⟨_, rfl⟩
  rw [hR]
  have HR := Lib.hid hR
  clear h hb0 hR
  go_enter Try.func17, Try.ntmps17
  go_wp2_with fail
  refine (rorder_any s l _ H0.out hlen).mono ?_
  rintro e w0 ⟨⟨v, rfl, hown⟩, hB⟩
  obtain ⟨A, c, rfl⟩ := own_shape hown
  have HI := Lib.hid (ids_of_own hown)
  have HG := Lib.hid (HG0.out.below hB)
  have HB1 := Lib.hid (HB0.out.trans (hB.mono HB0.out.size))
  have hcap : (liveE l).length ≤ c := by
    obtain ⟨A2, c2, hv2, hc2, _⟩ := ids_of_own hown
    obtain ⟨_, _, rfl⟩ := Value.slice.inj hv2
    exact hc2
  have hll := liveE_len l
  have hQ := liveQ_len l
  obtain ⟨M, hM⟩ : ∃ M, liveE l = M := ⟨_, rfl⟩
  obtain ⟨E, hE⟩ : ∃ E, liveQ l = E := ⟨_, rfl⟩
  have HE := Lib.hid (show E = M.map (fun q => (q, true)) by rw [← hE, ← hM]; rfl)
  have HRE := Lib.hid (show findE E (a, n) = R by rw [← hE]; exact HR.out)
  rw [hM] at HI hcap hll hQ ⊢
  rw [hE] at hQ
  clear hown hB H0 HB0 HG0 hM hE HR
  go_wp2_with fail
  go_loopw [6] (fun i wr => ∃ k : Nat, k ≤ M.length ∧ i = .int .i64 k ∧ (∀ e ∈ E.take k, (e.1 == (a, n)) = false) ∧ Below w0.heap.size w0 wr) (fun i _ => M.length - (intOf i).toNat)
  case atStart => exact ⟨0, Nat.zero_le _, rfl, by simp, Below.refl _ _⟩
  case round =>
    obtain ⟨k, hk, rfl, hn, hB⟩ := hrel
    have HN := Lib.hid hn
    have HW := Lib.hid hB
    have HGG := Lib.hid (HG.out.below hB)
    by_cases hlt : k < M.length
    · have hx : M[k]? = some M[k] := List.getElem?_eq_getElem hlt
      obtain ⟨q, hq⟩ : ∃ q, M[k] = q := ⟨_, rfl⟩
      rw [hq] at hx
      have HX : Hid (E[k]? = some (q, true)) := Lib.hid (by rw [HE.out, List.getElem?_map, hx]; rfl)
      obtain ⟨A2, c2, hv2, hc2, hI2⟩ := HI.out.below hB
      obtain ⟨rfl, _, rfl⟩ := Value.slice.inj hv2
      obtain ⟨ad, rfl, q0, q1⟩ := hI2 k q hx
      obtain ⟨x, y⟩ := q
      simp only at q0 q1
      obtain ⟨z, hz⟩ : ∃ z, ((x, y) == (a, n)) = z := ⟨_, rfl⟩
      have heq : ∀ w, (binOp .eql 25 (.agg #[.int .i64 x, .int .i64 y]) (.agg #[.int .i64 a, .int .i64 n])).run Try.prog w = .ok (.bool z) w := fun w => by rw [← hz]; exact id_eq x y a n w
      have HZ := Lib.hid hz
      have hi0 : (0 : Int) ≤ ↑k := by omega
      have hi1 : (↑k : Int) < ↑M.length := by omega
      have hi2 : (↑M.length : Int) ≤ ↑c := by omega
      have HB3 : Hid (Below w0.heap.size w0 wr.drew) := Lib.hid HW.out.drew
      have H5 : Hid (F4 w.heap.size ad k x y a n wr.drew) := Lib.hid ⟨q0, q1, HGG.out.1, HGG.out.2.1⟩
      clear hn hB hx hq q0 q1 hI2 hv2 hz
      go_wp2_with fail
      refine wp_region_held_drew (S := F4 w.heap.size ad k x y a n) (by kernel_rfl) H5.out (fun hS => ?_)
      refine wpAnyH_take (i := 0) (v := ?v0a) rfl (by kernel_rfl) (by kernel_rfl) (by kernel_rfl) (fun _ _ _ h => h) (Or.inl ⟨by kernel_rfl, ?h0a⟩) hS ?_
      case h0a => (rintro w2 ⟨e1, e2, e3, e4⟩; go_simp; try with_reducible rfl)
      refine wpAnyH_take (i := 1) (v := ?v1a) rfl (by kernel_rfl) (by kernel_rfl) (by kernel_rfl) (fun _ _ _ h => h) (Or.inl ⟨by kernel_rfl, ?h1a⟩) hS ?_
      case h1a => (rintro w2 ⟨e1, e2, e3, e4⟩; go_simp; try with_reducible rfl)
      refine wpAnyH_take (i := 2) (v := ?v2a) rfl (by kernel_rfl) (by kernel_rfl) (by kernel_rfl) (fun _ _ _ h => h) (Or.inl ⟨by kernel_rfl, ?h2a⟩) hS ?_
      case h2a => (rintro w2 ⟨e1, e2, e3, e4⟩; go_simp; try with_reducible rfl)
      refine wpAnyH_take (i := 3) (v := ?v3a) rfl (by kernel_rfl) (by kernel_rfl) (by kernel_rfl) (fun _ _ _ h => h) (Or.inl ⟨by kernel_rfl, ?h3a⟩) hS ?_
      case h3a => (rintro w2 ⟨e1, e2, e3, e4⟩; go_simp; try with_reducible rfl)
      refine wpAnyH_take (i := 4) (v := ?v4a) rfl (by kernel_rfl) (by kernel_rfl) (by kernel_rfl) (fun _ _ _ h => h) (Or.inl ⟨by kernel_rfl, ?h4a⟩) hS ?_
      case h4a => (rintro w2 ⟨e1, e2, e3, e4⟩; go_simp; try with_reducible rfl)
      refine wpAnyH_take (i := 5) (v := ?v5a) rfl (by kernel_rfl) (by kernel_rfl) (by kernel_rfl) (fun _ _ _ h => h) (Or.inl ⟨by kernel_rfl, ?h5a⟩) hS ?_
      case h5a => (rintro w2 ⟨e1, e2, e3, e4⟩; go_simp; try with_reducible rfl)
      refine wpAnyH_done (by kernel_rfl) ?_ _
      go_simp
      cases z
      · go_wp2_with fail
        go_roundw
        case rel => exact ⟨k + 1, by omega, by simp, idxE_step HX.out HZ.out HN.out, HB3.out⟩
        case measure => simp [intOf]; omega
      · have hRk : R = k := by
          rw [← HRE.out]
          unfold findE
          rw [idxE_at HX.out HZ.out HN.out]
        subst hRk
        go_wp2
        go_ret
        exact ⟨rfl, HB1.out.trans (HB3.out.mono HB1.out.size)⟩
    · obtain rfl : k = M.length := by omega
      have hlt2 : ¬ (↑M.length : Int) < ↑M.length := by omega
      have hR1 : R = -1 := by
        rw [← HRE.out]
        unfold findE
        rw [← hQ, List.take_length] at hn
        rw [idxE_none hn]
      subst hR1
      clear hn hB
      go_wp2
      go_ret
      exact ⟨rfl, HB1.out.trans (HW.out.mono HB1.out.size)⟩
end Go.Proofs.Ytngomgjhakgehaa
