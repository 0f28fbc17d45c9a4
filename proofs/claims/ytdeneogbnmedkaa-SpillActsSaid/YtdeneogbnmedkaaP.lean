/- A board on which acts were done. -/
import Derived.Test.YtdeneogbnmedkaaQ
namespace Go.Proofs.Ytdeneogbnmedkaa
open Go.RowKit Go.Maps

def stepB (B : Brd) (a : ActP) : Brd := if a.fi then fillB B (a.row, a.col) else decB B a.rc
def playB (r c : Int) (l : List ActP) : Brd := l.foldl stepB (newF (r % 12) (c % 12))
theorem playB_snoc (r c : Int) (l : List ActP) (a : ActP) : playB r c (l ++ [a]) = stepB (playB r c l) a := by simp [playB]
theorem inv_step {B : Brd} (h : Inv B) (a : ActP) : Inv (stepB B a) := by
  unfold stepB
  split
  · exact inv_fill h _
  · exact inv_dec h _
theorem inv_play (r c : Int) (l : List ActP) : Inv (playB r c l) := by
  have : ∀ (l : List ActP) (B : Brd), Inv B → Inv (l.foldl stepB B) := by
    intro l
    induction l with
    | nil => intro B h; exact h
    | cons a l ih => intro B h; exact ih _ (inv_step h a)
  exact this l _ (inv_new _ _)
theorem step_size (B : Brd) (a : ActP) : (stepB B a).rows = B.rows ∧ (stepB B a).cols = B.cols := by
  unfold stepB fillB decB
  split <;> split <;> exact ⟨rfl, rfl⟩
theorem play_size (r c : Int) (l : List ActP) : (playB r c l).rows = clampF (r % 12) ∧ (playB r c l).cols = clampF (c % 12) := by
  have : ∀ (l : List ActP) (B : Brd), (l.foldl stepB B).rows = B.rows ∧ (l.foldl stepB B).cols = B.cols := by
    intro l
    induction l with
    | nil => intro B; exact ⟨rfl, rfl⟩
    | cons a l ih => intro B; have h1 := ih (stepB B a); have h2 := step_size B a; exact ⟨h1.1.trans h2.1, h1.2.trans h2.2⟩
  exact this l _
/-- the cells of a list of acts, in every world that keeps what was there -/
theorem acts_in {w : World} {A : Option Addr} {c : Nat} {l : List ActP} (h : ActsAt w (.slice A l.length c) l) {k : Nat} {d : ActP} (hk : l[k]? = some d) :
    ∃ ad, A = some ad ∧ ∀ W, Below w.heap.size w W → W.cell? (ad.add (k * 5)) = some (.bool d.fi) ∧ W.cell? ⟨(ad.add (k * 5)).block, (ad.add (k * 5)).off + 1, none⟩ = some (.int .i64 d.row) ∧
    W.cell? ⟨(ad.add (k * 5)).block, (ad.add (k * 5)).off + 2, none⟩ = some (.int .i64 d.col) ∧ W.cell? ⟨(ad.add (k * 5)).block, (ad.add (k * 5)).off + 3, none⟩ = some (.int .i64 d.rows) ∧ W.cell? ⟨(ad.add (k * 5)).block, (ad.add (k * 5)).off + 4, none⟩ = some (.int .i64 d.cols) := by
  obtain ⟨A', c', hv, hc, hI⟩ := h
  simp only [Value.slice.injEq, true_and] at hv
  obtain ⟨rfl, rfl⟩ := hv
  obtain ⟨ad, rfl, h1, h2, h3, h4, h5⟩ := hI k d hk
  exact ⟨ad, rfl, fun W hb => ⟨(hb.cell (cell_lt h1)).trans h1, (hb.cell (cell_lt h2)).trans h2, (hb.cell (cell_lt h3)).trans h3, (hb.cell (cell_lt h4)).trans h4, (hb.cell (cell_lt h5)).trans h5⟩⟩

set_option maxRecDepth 100000 in
set_option maxHeartbeats 4000000 in
theorem play_up {w W : World} (hW : Below w.heap.size w W) (v : Value) (l : List ActP) (ha : ActsAt w v l) (hwf : ∀ d ∈ l, WfA d) (hlen : l.length ≤ 60) (r c : Int) (hr : 0 ≤ r ∧ r ≤ 255) (hc : 0 ≤ c ∧ c ≤ 255) :
    Calls Try.prog 19 #[.int .u8 r, .int .u8 c, v] W fun e W' => ∃ s, e = .returned (.pointer (some ⟨s, 0, none⟩)) ∧ Up w s l.length (playB r c l) W' := by
  obtain ⟨A, cc, rfl, hcc, _⟩ := id ha
  have HA := Lib.hid ha
  have HWF := Lib.hid hwf
  have HW := Lib.hid hW
  have hr1 : r.tmod 12 = r % 12 := Int.tmod_eq_emod_of_nonneg hr.1
  have hc1 : c.tmod 12 = c % 12 := Int.tmod_eq_emod_of_nonneg hc.1
  have hr2 : IntKind.i64.wrap r = r := by rw [IntKind.wrap_i64]; omega
  have hc2 : IntKind.i64.wrap c = c := by rw [IntKind.wrap_i64]; omega
  have hr3 : IntKind.i64.wrap (r % 12) = r % 12 := by rw [IntKind.wrap_i64]; omega
  have hc3 : IntKind.i64.wrap (c % 12) = c % 12 := by rw [IntKind.wrap_i64]; omega
  clear ha hwf hW
  go_enter Try.func19, Try.ntmps19
  go_wp2_with fail
  refine (new_up HW.out rfl).mono ?_
  rintro e w1 ⟨rfl, hu⟩
  obtain ⟨s, hs⟩ : ∃ s, W.heap.size + 3 = s := ⟨_, rfl⟩
  rw [hs] at hu ⊢
  have HU := Lib.hid hu
  clear hu hs hr1 hc1 hr2 hc2 hr3 hc3 hr hc HW
  go_wp2_with fail
  go_loopw [8] (fun i wr => ∃ k : Nat, k ≤ l.length ∧ i = .int .i64 k ∧ Up w s k (playB r c (l.take k)) wr) (fun i _ => l.length - (intOf i).toNat)
  case atStart => exact ⟨0, Nat.zero_le _, rfl, HU.out⟩
  case round =>
    obtain ⟨k, hk, rfl, hu⟩ := hrel
    have HK := Lib.hid hu
    clear hu HU
    by_cases hlt : k < l.length
    · have hx : l[k]? = some l[k] := List.getElem?_eq_getElem hlt
      obtain ⟨d, hd⟩ : ∃ d, l[k] = d := ⟨_, rfl⟩
      rw [hd] at hx
      have hsn : playB r c (l.take (k + 1)) = stepB (playB r c (l.take k)) d := by rw [List.take_add_one, hx]; exact playB_snoc _ _ _ _
      obtain ⟨B, hB⟩ : ∃ B, playB r c (l.take k) = B := ⟨_, rfl⟩
      rw [hB] at HK hsn
      have HSN := Lib.hid hsn
      have hwd := HWF.out d (List.mem_of_getElem? hx)
      have HWD := Lib.hid hwd.1
      obtain ⟨ad, rfl, hI⟩ := acts_in HA.out hx
      have HI := Lib.hid hI
      obtain ⟨c0, _⟩ := hI wr HK.out.2
      obtain ⟨fi, x, y, a, b⟩ := d
      have hi0 : (0 : Int) ≤ ↑k := by omega
      have hi1 : (↑k : Int) < ↑l.length := by omega
      have hi2 : (↑l.length : Int) ≤ ↑cc := by omega
      simp only at HI c0
      clear hx hd hsn hB hwd hI
      cases fi
      · have hst : stepB B ⟨false, x, y, a, b⟩ = decB B (x, y, a, b) := rfl
        rw [hst] at HSN
        obtain ⟨q1, hq1⟩ : ∃ q, decR B (x, y, a, b) = q := ⟨_, rfl⟩
        obtain ⟨q2, hq2⟩ : ∃ q, decE B (x, y, a, b) = q := ⟨_, rfl⟩
        have HQ := Lib.hid (And.intro hq1 hq2)
        clear hst hq1 hq2
        go_wp2_with fail
        refine wp_region_held_drew (S := fun X => Below w.heap.size w X) (by kernel_rfl) (HK.out.2.drew) (fun hS => ?_)
        refine wpAnyH_take (i := 0) (v := ?v0d) rfl (by kernel_rfl) (by kernel_rfl) (by kernel_rfl) (fun _ _ _ h => h) (Or.inl ⟨by kernel_rfl, ?h0d⟩) hS ?_
        case h0d => (rintro w2 hb; obtain ⟨_, e1, e2, e3, e4⟩ := HI.out w2 hb; go_simp; try with_reducible rfl)
        refine wpAnyH_take (i := 1) (v := ?v1d) rfl (by kernel_rfl) (by kernel_rfl) (by kernel_rfl) (fun _ _ _ h => h) (Or.inl ⟨by kernel_rfl, ?h1d⟩) hS ?_
        case h1d => (rintro w2 hb; obtain ⟨_, e1, e2, e3, e4⟩ := HI.out w2 hb; go_simp; try with_reducible rfl)
        refine wpAnyH_take (i := 2) (v := ?v2d) rfl (by kernel_rfl) (by kernel_rfl) (by kernel_rfl) (fun _ _ _ h => h) (Or.inl ⟨by kernel_rfl, ?h2d⟩) hS ?_
        case h2d => (rintro w2 hb; obtain ⟨_, e1, e2, e3, e4⟩ := HI.out w2 hb; go_simp; try with_reducible rfl)
        refine wpAnyH_take (i := 3) (v := ?v3d) rfl (by kernel_rfl) (by kernel_rfl) (by kernel_rfl) (fun _ _ _ h => h) (Or.inl ⟨by kernel_rfl, ?h3d⟩) hS ?_
        case h3d => (rintro w2 hb; obtain ⟨_, e1, e2, e3, e4⟩ := HI.out w2 hb; go_simp; try with_reducible rfl)
        refine wpAnyH_take (i := 4) (v := ?v4d) rfl (by kernel_rfl) (by kernel_rfl) (by kernel_rfl) (fun _ _ _ h => h) (Or.inl ⟨by kernel_rfl, ?h4d⟩) hS ?_
        case h4d => (rintro w2 hb; obtain ⟨_, e1, e2, e3, e4⟩ := HI.out w2 hb; go_simp; try with_reducible rfl)
        refine wpAnyH_take (i := 5) (v := ?v5d) rfl (by kernel_rfl) (by kernel_rfl) (by kernel_rfl) (fun _ _ _ h => h) (Or.inl ⟨by kernel_rfl, ?h5d⟩) hS ?_
        case h5d => (rintro w2 hb; obtain ⟨_, e1, e2, e3, e4⟩ := HI.out w2 hb; go_simp; try with_reducible rfl)
        refine wpAnyH_take (i := 6) (v := ?v6d) rfl (by kernel_rfl) (by kernel_rfl) (by kernel_rfl) (fun _ _ _ h => h) (Or.inl ⟨by kernel_rfl, ?h6d⟩) hS ?_
        case h6d => (rintro w2 hb; obtain ⟨_, e1, e2, e3, e4⟩ := HI.out w2 hb; go_simp; try with_reducible rfl)
        refine wpAnyH_take (i := 7) (v := ?v7d) rfl (by kernel_rfl) (by kernel_rfl) (by kernel_rfl) (fun _ _ _ h => h) (Or.inl ⟨by kernel_rfl, ?h7d⟩) hS ?_
        case h7d => (rintro w2 hb; obtain ⟨_, e1, e2, e3, e4⟩ := HI.out w2 hb; go_simp; try with_reducible rfl)
        refine wpAnyH_take (i := 8) (v := ?v8d) rfl (by kernel_rfl) (by kernel_rfl) (by kernel_rfl) (fun _ _ _ h => h) (Or.inl ⟨by kernel_rfl, ?h8d⟩) hS ?_
        case h8d => (rintro w2 hb; obtain ⟨_, e1, e2, e3, e4⟩ := HI.out w2 hb; go_simp; try with_reducible rfl)
        refine wpAnyH_take (i := 9) (v := ?v9d) rfl (by kernel_rfl) (by kernel_rfl) (by kernel_rfl) (fun _ _ _ h => h) (Or.inl ⟨by kernel_rfl, ?h9d⟩) hS ?_
        case h9d => (rintro w2 hb; obtain ⟨_, e1, e2, e3, e4⟩ := HI.out w2 hb; go_simp; try with_reducible rfl)
        refine wpAnyH_take (i := 10) (v := ?v10d) rfl (by kernel_rfl) (by kernel_rfl) (by kernel_rfl) (fun _ _ _ h => h) (Or.inl ⟨by kernel_rfl, ?h10d⟩) hS ?_
        case h10d => (rintro w2 hb; obtain ⟨_, e1, e2, e3, e4⟩ := HI.out w2 hb; go_simp; try with_reducible rfl)
        refine wpAnyH_take (i := 11) (v := ?v11d) rfl (by kernel_rfl) (by kernel_rfl) (by kernel_rfl) (fun _ _ _ h => h) (Or.inl ⟨by kernel_rfl, ?h11d⟩) hS ?_
        case h11d => (rintro w2 hb; obtain ⟨_, e1, e2, e3, e4⟩ := HI.out w2 hb; go_simp; try with_reducible rfl)
        refine wpAnyH_take (i := 12) (v := ?v12d) rfl (by kernel_rfl) (by kernel_rfl) (by kernel_rfl) (fun _ _ _ h => h) (Or.inl ⟨by kernel_rfl, ?h12d⟩) hS ?_
        case h12d => (rintro w2 hb; obtain ⟨_, e1, e2, e3, e4⟩ := HI.out w2 hb; go_simp; try with_reducible rfl)
        refine wpAnyH_take (i := 13) (v := ?v13d) rfl (by kernel_rfl) (by kernel_rfl) (by kernel_rfl) (fun _ _ _ h => h) (Or.inl ⟨by kernel_rfl, ?h13d⟩) hS ?_
        case h13d => (rintro w2 hb; obtain ⟨_, e1, e2, e3, e4⟩ := HI.out w2 hb; go_simp; try with_reducible rfl)
        refine wpAnyH_take (i := 14) (v := ?v14d) rfl (by kernel_rfl) (by kernel_rfl) (by kernel_rfl) (fun _ _ _ h => h) (Or.inl ⟨by kernel_rfl, ?h14d⟩) hS ?_
        case h14d => (rintro w2 hb; obtain ⟨_, e1, e2, e3, e4⟩ := HI.out w2 hb; go_simp; try with_reducible rfl)
        refine wpAnyH_take (i := 15) (v := ?v15d) rfl (by kernel_rfl) (by kernel_rfl) (by kernel_rfl) (fun _ _ _ h => h) (Or.inl ⟨by kernel_rfl, ?h15d⟩) hS ?_
        case h15d => (rintro w2 hb; obtain ⟨_, e1, e2, e3, e4⟩ := HI.out w2 hb; go_simp; try with_reducible rfl)
        refine wpAnyH_take (i := 16) (v := ?v16d) rfl (by kernel_rfl) (by kernel_rfl) (by kernel_rfl) (fun _ _ _ h => h) (Or.inl ⟨by kernel_rfl, ?h16d⟩) hS ?_
        case h16d => (rintro w2 hb; obtain ⟨_, e1, e2, e3, e4⟩ := HI.out w2 hb; go_simp; try with_reducible rfl)
        refine wpAnyH_take (i := 17) (v := ?v17d) rfl (by kernel_rfl) (by kernel_rfl) (by kernel_rfl) (fun _ _ _ h => h) (Or.inl ⟨by kernel_rfl, ?h17d⟩) hS ?_
        case h17d => (rintro w2 hb; obtain ⟨_, e1, e2, e3, e4⟩ := HI.out w2 hb; go_simp; try with_reducible rfl)
        refine wpAnyH_take (i := 18) (v := ?v18d) rfl (by kernel_rfl) (by kernel_rfl) (by kernel_rfl) (fun _ _ _ h => h) (Or.inl ⟨by kernel_rfl, ?h18d⟩) hS ?_
        case h18d => (rintro w2 hb; obtain ⟨_, e1, e2, e3, e4⟩ := HI.out w2 hb; go_simp; try with_reducible rfl)
        refine wpAnyH_take (i := 19) (v := ?v19d) rfl (by kernel_rfl) (by kernel_rfl) (by kernel_rfl) (fun _ _ _ h => h) (Or.inl ⟨by kernel_rfl, ?h19d⟩) hS ?_
        case h19d => (rintro w2 hb; obtain ⟨_, e1, e2, e3, e4⟩ := HI.out w2 hb; go_simp; try with_reducible rfl)
        refine wpAnyH_take (i := 20) (v := ?v20d) rfl (by kernel_rfl) (by kernel_rfl) (by kernel_rfl) (fun _ _ _ h => h) (Or.inl ⟨by kernel_rfl, ?h20d⟩) hS ?_
        case h20d => (rintro w2 hb; obtain ⟨_, e1, e2, e3, e4⟩ := HI.out w2 hb; go_simp; try with_reducible rfl)
        refine wpAnyH_ready (rs := [21]) (by kernel_rfl) (by simp) (AllReadyH.cons rfl (fun K hK => ?_) AllReadyH.nil)
        go_simp
        go_wp2_with (go_at_call 15; refine (decide_up (HK.out.later ((Below.refl _ _).drew)) (by omega) HWD.out HQ.out.1 HQ.out.2 rfl).mono ?_; rintro e v1 ⟨rfl, hU⟩; have HU2 := Lib.hid hU; clear hU)
        refine hK.out _ _ (HU2.out.2) (fun hS21 => ?_); clear hK K
        refine wpAnyH_done (by kernel_rfl) ?_ _
        go_simp
        go_wp2_with fail
        go_roundw
        case rel => exact ⟨k + 1, by omega, by simp, by rw [HSN.out]; exact HU2.out⟩
        case measure => simp [intOf]; omega
      · have hst : stepB B ⟨true, x, y, a, b⟩ = fillB B (x, y) := rfl
        rw [hst] at HSN
        obtain ⟨q1, hq1⟩ : ∃ q, fillR B (x, y) = q := ⟨_, rfl⟩
        have HQ := Lib.hid hq1
        clear hst hq1
        go_wp2_with fail
        refine wp_region_held_drew (S := fun X => Below w.heap.size w X) (by kernel_rfl) (HK.out.2.drew) (fun hS => ?_)
        refine wpAnyH_take (i := 0) (v := ?v0f) rfl (by kernel_rfl) (by kernel_rfl) (by kernel_rfl) (fun _ _ _ h => h) (Or.inl ⟨by kernel_rfl, ?h0f⟩) hS ?_
        case h0f => (rintro w2 hb; obtain ⟨_, e1, e2, _⟩ := HI.out w2 hb; go_simp; try with_reducible rfl)
        refine wpAnyH_take (i := 1) (v := ?v1f) rfl (by kernel_rfl) (by kernel_rfl) (by kernel_rfl) (fun _ _ _ h => h) (Or.inl ⟨by kernel_rfl, ?h1f⟩) hS ?_
        case h1f => (rintro w2 hb; obtain ⟨_, e1, e2, _⟩ := HI.out w2 hb; go_simp; try with_reducible rfl)
        refine wpAnyH_take (i := 2) (v := ?v2f) rfl (by kernel_rfl) (by kernel_rfl) (by kernel_rfl) (fun _ _ _ h => h) (Or.inl ⟨by kernel_rfl, ?h2f⟩) hS ?_
        case h2f => (rintro w2 hb; obtain ⟨_, e1, e2, _⟩ := HI.out w2 hb; go_simp; try with_reducible rfl)
        refine wpAnyH_take (i := 3) (v := ?v3f) rfl (by kernel_rfl) (by kernel_rfl) (by kernel_rfl) (fun _ _ _ h => h) (Or.inl ⟨by kernel_rfl, ?h3f⟩) hS ?_
        case h3f => (rintro w2 hb; obtain ⟨_, e1, e2, _⟩ := HI.out w2 hb; go_simp; try with_reducible rfl)
        refine wpAnyH_take (i := 4) (v := ?v4f) rfl (by kernel_rfl) (by kernel_rfl) (by kernel_rfl) (fun _ _ _ h => h) (Or.inl ⟨by kernel_rfl, ?h4f⟩) hS ?_
        case h4f => (rintro w2 hb; obtain ⟨_, e1, e2, _⟩ := HI.out w2 hb; go_simp; try with_reducible rfl)
        refine wpAnyH_take (i := 5) (v := ?v5f) rfl (by kernel_rfl) (by kernel_rfl) (by kernel_rfl) (fun _ _ _ h => h) (Or.inl ⟨by kernel_rfl, ?h5f⟩) hS ?_
        case h5f => (rintro w2 hb; obtain ⟨_, e1, e2, _⟩ := HI.out w2 hb; go_simp; try with_reducible rfl)
        refine wpAnyH_take (i := 6) (v := ?v6f) rfl (by kernel_rfl) (by kernel_rfl) (by kernel_rfl) (fun _ _ _ h => h) (Or.inl ⟨by kernel_rfl, ?h6f⟩) hS ?_
        case h6f => (rintro w2 hb; obtain ⟨_, e1, e2, _⟩ := HI.out w2 hb; go_simp; try with_reducible rfl)
        refine wpAnyH_take (i := 7) (v := ?v7f) rfl (by kernel_rfl) (by kernel_rfl) (by kernel_rfl) (fun _ _ _ h => h) (Or.inl ⟨by kernel_rfl, ?h7f⟩) hS ?_
        case h7f => (rintro w2 hb; obtain ⟨_, e1, e2, _⟩ := HI.out w2 hb; go_simp; try with_reducible rfl)
        refine wpAnyH_take (i := 8) (v := ?v8f) rfl (by kernel_rfl) (by kernel_rfl) (by kernel_rfl) (fun _ _ _ h => h) (Or.inl ⟨by kernel_rfl, ?h8f⟩) hS ?_
        case h8f => (rintro w2 hb; obtain ⟨_, e1, e2, _⟩ := HI.out w2 hb; go_simp; try with_reducible rfl)
        refine wpAnyH_take (i := 9) (v := ?v9f) rfl (by kernel_rfl) (by kernel_rfl) (by kernel_rfl) (fun _ _ _ h => h) (Or.inl ⟨by kernel_rfl, ?h9f⟩) hS ?_
        case h9f => (rintro w2 hb; obtain ⟨_, e1, e2, _⟩ := HI.out w2 hb; go_simp; try with_reducible rfl)
        refine wpAnyH_take (i := 10) (v := ?v10f) rfl (by kernel_rfl) (by kernel_rfl) (by kernel_rfl) (fun _ _ _ h => h) (Or.inl ⟨by kernel_rfl, ?h10f⟩) hS ?_
        case h10f => (rintro w2 hb; obtain ⟨_, e1, e2, _⟩ := HI.out w2 hb; go_simp; try with_reducible rfl)
        refine wpAnyH_ready (rs := [11]) (by kernel_rfl) (by simp) (AllReadyH.cons rfl (fun K hK => ?_) AllReadyH.nil)
        go_simp
        go_wp2_with (go_at_call 13; refine (fill_up (HK.out.later ((Below.refl _ _).drew)) (by omega) HWD.out HQ.out rfl).mono ?_; rintro e v1 ⟨rfl, hU⟩; have HU2 := Lib.hid hU; clear hU)
        refine hK.out _ _ (HU2.out.2) (fun hS11 => ?_); clear hK K
        refine wpAnyH_done (by kernel_rfl) ?_ _
        go_simp
        go_wp2_with fail
        go_roundw
        case rel => exact ⟨k + 1, by omega, by simp, by rw [HSN.out]; exact HU2.out⟩
        case measure => simp [intOf]; omega
    · obtain rfl : k = l.length := by omega
      have hlt2 : ¬ (↑l.length : Int) < ↑l.length := by omega
      have hu := HK.out
      rw [List.take_length] at hu
      have HU := Lib.hid hu
      clear hu
      go_wp2
      go_ret
      exact ⟨_, rfl, HU.out⟩
end Go.Proofs.Ytdeneogbnmedkaa
