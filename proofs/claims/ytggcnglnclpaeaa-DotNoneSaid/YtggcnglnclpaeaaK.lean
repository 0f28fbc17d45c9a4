/- A slice of ids in memory. The document's May and Has. -/
import Derived.Test.YtggcnglnclpaeaaC
import Derived.Deep.RegionHeld3
namespace Go.Proofs.Ytggcnglnclpaeaa
open Go.RowKit Go.Maps

/-- the slice value v holds the ids l -/
def IdsAt (w : World) (v : Value) (l : Row) : Prop :=
  ∃ A c, v = .slice A l.length c ∧ l.length ≤ c ∧ ∀ (k : Nat) p, l[k]? = some p → ∃ ad, A = some ad ∧ w.cell? (ad.add (k * 2)) = some (.int .i64 p.1) ∧ w.cell? ⟨(ad.add (k * 2)).block, (ad.add (k * 2)).off + 1, none⟩ = some (.int .i64 p.2)

theorem add_block (a : Addr) (n : Nat) : (a.add n).block = a.block := by unfold Addr.add; split <;> rfl
theorem cell_lt {w : World} {a : Addr} {v : Value} (h : w.cell? a = some v) : a.block < w.heap.size := by
  rcases Nat.lt_or_ge a.block w.heap.size with hlt | hge
  · exact hlt
  · unfold World.cell? at h; rw [Array.getElem?_eq_none hge] at h; simp at h
theorem IdsAt.kept {w w' : World} {v : Value} {l : Row} {T : Nat → Prop} (h : IdsAt w v l) (ho : Only T w w') (hT : ∀ b, T b → b < w.heap.size → ∀ (a : Addr) (n : Int), a.block = b → w.cell? a ≠ some (.int .i64 n)) : IdsAt w' v l := by
  obtain ⟨A, c, hv, hc, h⟩ := h
  refine ⟨A, c, hv, hc, fun k p hk => ?_⟩
  obtain ⟨ad, hA, h1, h2⟩ := h k p hk
  refine ⟨ad, hA, ?_, ?_⟩
  · exact (World.cell?_of_block (ho.block _ (cell_lt h1) (fun ht => hT _ ht (cell_lt h1) _ _ rfl h1))).trans h1
  · exact (World.cell?_of_block (ho.block _ (cell_lt h2) (fun ht => hT _ ht (cell_lt h2) _ _ rfl h2))).trans h2
theorem IdsAt.below {w w' : World} {v : Value} {l : Row} (h : IdsAt w v l) (hb : Below w.heap.size w w') : IdsAt w' v l := h.kept (Only.of_below hb) (fun b h1 h2 => by omega)
theorem IdsAt.nil (w : World) : IdsAt w (.slice none 0 0) [] := ⟨none, 0, rfl, Nat.le_refl _, fun k p h => by simp at h⟩

theorem may_any (a n : Int) (w : World) : Calls Try.prog 27 #[idV a n] w fun e w' => e = .returned (.bool (mayB a n)) ∧ Below w.heap.size w w' := by
  unfold idV
  by_cases h1 : 1 ≤ a <;> by_cases h2 : a ≤ 1000 <;> by_cases h3 : 1 ≤ n
  all_goals try (exfalso; omega)
  all_goals
    go_enter Try.func27, Try.ntmps27
    go_wp2
    go_ret
    exact ⟨by simp [mayB, h1, h2, h3], (Below.refl _ _).alloc (Nat.le_refl _) _⟩

/-- what a round of Has reads -/
def KR (w : World) (g : Nat) (ad : Addr) (k : Nat) (a n x y : Int) (w' : World) : Prop :=
  w'.cell? ⟨g, 0, none⟩ = some (.int .i64 a) ∧ w'.cell? ⟨g, 1, none⟩ = some (.int .i64 n) ∧ w'.cell? (ad.add (k * 2)) = some (.int .i64 x) ∧ w'.cell? ⟨(ad.add (k * 2)).block, (ad.add (k * 2)).off + 1, none⟩ = some (.int .i64 y) ∧ Below w.heap.size w w' ∧ g < w'.heap.size ∧ ad.block < w'.heap.size
theorem KR.later {w w1 w2 : World} {g : Nat} {ad : Addr} {k : Nat} {a n x y : Int} (h : KR w g ad k a n x y w1) (hb : Below w1.heap.size w1 w2) : KR w g ad k a n x y w2 := by
  obtain ⟨c0, c1, c2, c3, hb1, hz, hz2⟩ := h
  have := hb.size
  exact ⟨(hb.cell (p := ⟨g, 0, none⟩) hz).trans c0, (hb.cell (p := ⟨g, 1, none⟩) hz).trans c1, (hb.cell (by rw [add_block]; exact hz2)).trans c2, (hb.cell (p := ⟨(ad.add (k * 2)).block, _, none⟩) (by simp only [add_block]; exact hz2)).trans c3, hb1.trans (hb.mono hb1.size), by omega, by omega⟩

set_option maxHeartbeats 3200000 in
theorem rhas_any (v : Value) (l : Row) (a n : Int) (w : World) (h : IdsAt w v l) (hok : OkR l) (hlen : l.length ≤ 100000) :
    Calls Try.prog 16 #[v, idV a n] w fun e w' => e = .returned (.bool (hasB l a n)) ∧ Below w.heap.size w w' := by
  obtain ⟨A, c, rfl, hc, hI⟩ := h
  obtain ⟨m, hm⟩ : ∃ m, mayB a n = m := ⟨_, rfl⟩
  have HR : Hid (∀ w, Calls Try.prog 27 #[.agg #[.int .i64 a, .int .i64 n]] w fun e w' => e = .returned (.bool m) ∧ Below w.heap.size w w') := Lib.hid (fun w => by have := may_any a n w; rw [hm] at this; exact this)
  have HM := Lib.hid hm
  have HI := Lib.hid hI
  have HOK := Lib.hid hok
  clear hm hI hok
  unfold idV
  go_enter Try.func16, Try.ntmps16
  go_wp2
  go_loopw [5] (fun i wr => ∃ k : Nat, k ≤ l.length ∧ i = .int .i64 k ∧ (∀ j p, j < k → l[j]? = some p → (m && decide (p.1 = a) && decide (n ≤ p.2)) = false) ∧ wr.cell? ⟨w.heap.size, 0, none⟩ = some (.int .i64 a) ∧ wr.cell? ⟨w.heap.size, 1, none⟩ = some (.int .i64 n) ∧ Below w.heap.size w wr ∧ w.heap.size < wr.heap.size) (fun i _ => l.length - (intOf i).toNat)
  case atStart =>
    exact ⟨0, Nat.zero_le _, rfl, fun j p hj => by omega, (World.cell?_alloc_new _ _ _ _).trans rfl, (World.cell?_alloc_new _ _ _ _).trans rfl, (Below.refl _ _).alloc (Nat.le_refl _) _, by simp⟩
  case round =>
    obtain ⟨k, hk, rfl, hno, c0, c1, hB, hz⟩ := hrel
    have HNO := Lib.hid hno
    have HBB := Lib.hid hB
    clear hno hB
    by_cases hlt : k < l.length
    · have hx : l[k]? = some l[k] := List.getElem?_eq_getElem hlt
      obtain ⟨p, hp⟩ : ∃ p, l[k] = p := ⟨_, rfl⟩
      rw [hp] at hx
      obtain ⟨ad, rfl, c2, c3⟩ := HI.out k p hx
      have hza := cell_lt c2
      rw [add_block] at hza
      have c2' := (HBB.out.cell (by rw [add_block]; exact hza)).trans c2
      have c3' := (HBB.out.cell (p := ⟨(ad.add (k * 2)).block, _, none⟩) (by simp only [add_block]; exact hza)).trans c3
      obtain ⟨x, y⟩ := p
      have hfst : Hid (KR w w.heap.size ad k a n x y wr.drew) := Lib.hid ⟨c0, c1, c2', c3', HBB.out.drew, hz, by show ad.block < wr.heap.size; have := HBB.out.size; omega⟩
      clear c0 c1 c2 c3 c2' c3' hp
      go_wp2_with fail
      refine wp_region_held_drew (S := KR w w.heap.size ad k a n x y) (by kernel_rfl) hfst.out (fun hS => ?_)
      have hi0 : (0 : Int) ≤ ↑k := by omega
      have hi1 : (↑k : Int) < ↑l.length := by omega
      have hi2 : (↑l.length : Int) ≤ ↑c := by omega
      have HNX := Lib.hid (fun (he : (m && decide (x = a) && decide (n ≤ y)) = false) (j : Nat) (p : Int × Int) (hj : j < k + 1) (hp : l[j]? = some p) => (by
        by_cases e : j = k
        · subst e; rw [hx] at hp; injection hp with hp; subst hp; exact he
        · exact HNO.out j p (by omega) hp : (m && decide (p.1 = a) && decide (n ≤ p.2)) = false))
      have hmem : (x, y) ∈ l := List.mem_of_getElem? hx
      have HMEM := Lib.hid hmem
      clear hmem hx
      cases m
      · clear hi0 hi1 hi2
        refine wpAnyH_take (i := 0) (v := ?v0a) rfl (by kernel_rfl) (by kernel_rfl) (by kernel_rfl) (fun _ _ _ h => h) (Or.inl ⟨by kernel_rfl, ?h0a⟩) hS ?_
        case h0a => (rintro w2 ⟨c0, c1, c2, c3, _⟩; go_simp; try with_reducible rfl)
        refine wpAnyH_ready (rs := [1]) (by kernel_rfl) (by simp) (AllReadyH.cons rfl (fun K hK => ?_) AllReadyH.nil)
        go_simp
        go_wp2_with (go_at_call 27; refine (HR.out _).mono ?_; rintro e w1 ⟨rfl, hb1⟩)
        refine hK.out _ _ (hS.later hb1) (fun hS1 => ?_); clear hK K
        refine wpAnyH_take (i := 2) (v := ?v2a) rfl (by kernel_rfl) (by kernel_rfl) (by kernel_rfl) (fun _ _ _ h => h) (Or.inl ⟨by kernel_rfl, ?h2a⟩) hS1 ?_
        case h2a => (rintro w2 ⟨c0, c1, c2, c3, _⟩; go_simp; try with_reducible rfl)
        refine wpAnyH_take (i := 3) (v := undef) rfl (by kernel_rfl) (by kernel_rfl) (by kernel_rfl) (fun _ _ _ h => h) (Or.inr ⟨by kernel_rfl, rfl⟩) hS1 ?_
        refine wpAnyH_take (i := 4) (v := undef) rfl (by kernel_rfl) (by kernel_rfl) (by kernel_rfl) (fun _ _ _ h => h) (Or.inr ⟨by kernel_rfl, rfl⟩) hS1 ?_
        refine wpAnyH_take (i := 5) (v := undef) rfl (by kernel_rfl) (by kernel_rfl) (by kernel_rfl) (fun _ _ _ h => h) (Or.inr ⟨by kernel_rfl, rfl⟩) hS1 ?_
        refine wpAnyH_take (i := 6) (v := undef) rfl (by kernel_rfl) (by kernel_rfl) (by kernel_rfl) (fun _ _ _ h => h) (Or.inr ⟨by kernel_rfl, rfl⟩) hS1 ?_
        refine wpAnyH_take (i := 7) (v := undef) rfl (by kernel_rfl) (by kernel_rfl) (by kernel_rfl) (fun _ _ _ h => h) (Or.inr ⟨by kernel_rfl, rfl⟩) hS1 ?_
        refine wpAnyH_take (i := 8) (v := undef) rfl (by kernel_rfl) (by kernel_rfl) (by kernel_rfl) (fun _ _ _ h => h) (Or.inr ⟨by kernel_rfl, rfl⟩) hS1 ?_
        refine wpAnyH_take (i := 9) (v := undef) rfl (by kernel_rfl) (by kernel_rfl) (by kernel_rfl) (fun _ _ _ h => h) (Or.inr ⟨by kernel_rfl, rfl⟩) hS1 ?_
        refine wpAnyH_take (i := 10) (v := undef) rfl (by kernel_rfl) (by kernel_rfl) (by kernel_rfl) (fun _ _ _ h => h) (Or.inr ⟨by kernel_rfl, rfl⟩) hS1 ?_
        refine wpAnyH_take (i := 11) (v := ?v11a) rfl (by kernel_rfl) (by kernel_rfl) (by kernel_rfl) (fun _ _ _ h => h) (Or.inl ⟨by kernel_rfl, ?h11a⟩) hS1 ?_
        case h11a => (rintro w2 ⟨c0, c1, c2, c3, _⟩; go_simp; try with_reducible rfl)
        refine wpAnyH_take (i := 12) (v := ?v12a) rfl (by kernel_rfl) (by kernel_rfl) (by kernel_rfl) (fun _ _ _ h => h) (Or.inl ⟨by kernel_rfl, ?h12a⟩) hS1 ?_
        case h12a => (rintro w2 ⟨c0, c1, c2, c3, _⟩; go_simp; try with_reducible rfl)
        refine wpAnyH_take (i := 13) (v := undef) rfl (by kernel_rfl) (by kernel_rfl) (by kernel_rfl) (fun _ _ _ h => h) (Or.inr ⟨by kernel_rfl, rfl⟩) hS1 ?_
        refine wpAnyH_take (i := 14) (v := undef) rfl (by kernel_rfl) (by kernel_rfl) (by kernel_rfl) (fun _ _ _ h => h) (Or.inr ⟨by kernel_rfl, rfl⟩) hS1 ?_
        refine wpAnyH_take (i := 15) (v := undef) rfl (by kernel_rfl) (by kernel_rfl) (by kernel_rfl) (fun _ _ _ h => h) (Or.inr ⟨by kernel_rfl, rfl⟩) hS1 ?_
        refine wpAnyH_take (i := 16) (v := undef) rfl (by kernel_rfl) (by kernel_rfl) (by kernel_rfl) (fun _ _ _ h => h) (Or.inr ⟨by kernel_rfl, rfl⟩) hS1 ?_
        refine wpAnyH_take (i := 17) (v := undef) rfl (by kernel_rfl) (by kernel_rfl) (by kernel_rfl) (fun _ _ _ h => h) (Or.inr ⟨by kernel_rfl, rfl⟩) hS1 ?_
        refine wpAnyH_take (i := 18) (v := undef) rfl (by kernel_rfl) (by kernel_rfl) (by kernel_rfl) (fun _ _ _ h => h) (Or.inr ⟨by kernel_rfl, rfl⟩) hS1 ?_
        refine wpAnyH_take (i := 19) (v := undef) rfl (by kernel_rfl) (by kernel_rfl) (by kernel_rfl) (fun _ _ _ h => h) (Or.inr ⟨by kernel_rfl, rfl⟩) hS1 ?_
        refine wpAnyH_take (i := 20) (v := undef) rfl (by kernel_rfl) (by kernel_rfl) (by kernel_rfl) (fun _ _ _ h => h) (Or.inr ⟨by kernel_rfl, rfl⟩) hS1 ?_
        refine wpAnyH_take (i := 21) (v := ?v21a) rfl (by kernel_rfl) (by kernel_rfl) (by kernel_rfl) (fun _ _ _ h => h) (Or.inl ⟨by kernel_rfl, ?h21a⟩) hS1 ?_
        case h21a => (rintro w2 ⟨c0, c1, c2, c3, _⟩; go_simp; try with_reducible rfl)
        refine wpAnyH_done (by kernel_rfl) ?_ _
        go_simp
        obtain ⟨d0, d1, _, _, hb2, hz2, _⟩ := hS1
        go_wp2
        go_roundw
        case rel => exact ⟨k + 1, by omega, by simp, HNX.out rfl, d0, d1, hb2, hz2⟩
        case measure => simp [intOf]; omega
      · by_cases hxa : x = a
        · subst hxa
          by_cases hny : n ≤ y
          · skip
            refine wpAnyH_take (i := 0) (v := ?v0c) rfl (by kernel_rfl) (by kernel_rfl) (by kernel_rfl) (fun _ _ _ h => h) (Or.inl ⟨by kernel_rfl, ?h0c⟩) hS ?_
            case h0c => (rintro w2 ⟨c0, c1, c2, c3, _⟩; go_simp; try with_reducible rfl)
            refine wpAnyH_ready (rs := [1]) (by kernel_rfl) (by simp) (AllReadyH.cons rfl (fun K hK => ?_) AllReadyH.nil)
            go_simp
            go_wp2_with (go_at_call 27; refine (HR.out _).mono ?_; rintro e w1 ⟨rfl, hb1⟩)
            refine hK.out _ _ (hS.later hb1) (fun hS1 => ?_); clear hK K
            refine wpAnyH_take (i := 2) (v := ?v2c) rfl (by kernel_rfl) (by kernel_rfl) (by kernel_rfl) (fun _ _ _ h => h) (Or.inl ⟨by kernel_rfl, ?h2c⟩) hS1 ?_
            case h2c => (rintro w2 ⟨c0, c1, c2, c3, _⟩; go_simp; try with_reducible rfl)
            refine wpAnyH_take (i := 3) (v := ?v3c) rfl (by kernel_rfl) (by kernel_rfl) (by kernel_rfl) (fun _ _ _ h => h) (Or.inl ⟨by kernel_rfl, ?h3c⟩) hS1 ?_
            case h3c => (rintro w2 ⟨c0, c1, c2, c3, _⟩; go_simp; try with_reducible rfl)
            refine wpAnyH_take (i := 4) (v := ?v4c) rfl (by kernel_rfl) (by kernel_rfl) (by kernel_rfl) (fun _ _ _ h => h) (Or.inl ⟨by kernel_rfl, ?h4c⟩) hS1 ?_
            case h4c => (rintro w2 ⟨c0, c1, c2, c3, _⟩; go_simp; try with_reducible rfl)
            refine wpAnyH_take (i := 5) (v := ?v5c) rfl (by kernel_rfl) (by kernel_rfl) (by kernel_rfl) (fun _ _ _ h => h) (Or.inl ⟨by kernel_rfl, ?h5c⟩) hS1 ?_
            case h5c => (rintro w2 ⟨c0, c1, c2, c3, _⟩; go_simp; try with_reducible rfl)
            refine wpAnyH_take (i := 6) (v := ?v6c) rfl (by kernel_rfl) (by kernel_rfl) (by kernel_rfl) (fun _ _ _ h => h) (Or.inl ⟨by kernel_rfl, ?h6c⟩) hS1 ?_
            case h6c => (rintro w2 ⟨c0, c1, c2, c3, _⟩; go_simp; try with_reducible rfl)
            refine wpAnyH_take (i := 7) (v := ?v7c) rfl (by kernel_rfl) (by kernel_rfl) (by kernel_rfl) (fun _ _ _ h => h) (Or.inl ⟨by kernel_rfl, ?h7c⟩) hS1 ?_
            case h7c => (rintro w2 ⟨c0, c1, c2, c3, _⟩; go_simp; try with_reducible rfl)
            refine wpAnyH_take (i := 8) (v := ?v8c) rfl (by kernel_rfl) (by kernel_rfl) (by kernel_rfl) (fun _ _ _ h => h) (Or.inl ⟨by kernel_rfl, ?h8c⟩) hS1 ?_
            case h8c => (rintro w2 ⟨c0, c1, c2, c3, _⟩; go_simp; try with_reducible rfl)
            refine wpAnyH_take (i := 9) (v := ?v9c) rfl (by kernel_rfl) (by kernel_rfl) (by kernel_rfl) (fun _ _ _ h => h) (Or.inl ⟨by kernel_rfl, ?h9c⟩) hS1 ?_
            case h9c => (rintro w2 ⟨c0, c1, c2, c3, _⟩; go_simp; try with_reducible rfl)
            refine wpAnyH_take (i := 10) (v := ?v10c) rfl (by kernel_rfl) (by kernel_rfl) (by kernel_rfl) (fun _ _ _ h => h) (Or.inl ⟨by kernel_rfl, ?h10c⟩) hS1 ?_
            case h10c => (rintro w2 ⟨c0, c1, c2, c3, _⟩; go_simp; try with_reducible rfl)
            refine wpAnyH_take (i := 11) (v := ?v11c) rfl (by kernel_rfl) (by kernel_rfl) (by kernel_rfl) (fun _ _ _ h => h) (Or.inl ⟨by kernel_rfl, ?h11c⟩) hS1 ?_
            case h11c => (rintro w2 ⟨c0, c1, c2, c3, _⟩; go_simp; try with_reducible rfl)
            refine wpAnyH_take (i := 12) (v := ?v12c) rfl (by kernel_rfl) (by kernel_rfl) (by kernel_rfl) (fun _ _ _ h => h) (Or.inl ⟨by kernel_rfl, ?h12c⟩) hS1 ?_
            case h12c => (rintro w2 ⟨c0, c1, c2, c3, _⟩; go_simp; try with_reducible rfl)
            refine wpAnyH_take (i := 13) (v := ?v13c) rfl (by kernel_rfl) (by kernel_rfl) (by kernel_rfl) (fun _ _ _ h => h) (Or.inl ⟨by kernel_rfl, ?h13c⟩) hS1 ?_
            case h13c => (rintro w2 ⟨c0, c1, c2, c3, _⟩; go_simp; try with_reducible rfl)
            refine wpAnyH_take (i := 14) (v := ?v14c) rfl (by kernel_rfl) (by kernel_rfl) (by kernel_rfl) (fun _ _ _ h => h) (Or.inl ⟨by kernel_rfl, ?h14c⟩) hS1 ?_
            case h14c => (rintro w2 ⟨c0, c1, c2, c3, _⟩; go_simp; try with_reducible rfl)
            refine wpAnyH_take (i := 15) (v := ?v15c) rfl (by kernel_rfl) (by kernel_rfl) (by kernel_rfl) (fun _ _ _ h => h) (Or.inl ⟨by kernel_rfl, ?h15c⟩) hS1 ?_
            case h15c => (rintro w2 ⟨c0, c1, c2, c3, _⟩; go_simp; try with_reducible rfl)
            refine wpAnyH_take (i := 16) (v := ?v16c) rfl (by kernel_rfl) (by kernel_rfl) (by kernel_rfl) (fun _ _ _ h => h) (Or.inl ⟨by kernel_rfl, ?h16c⟩) hS1 ?_
            case h16c => (rintro w2 ⟨c0, c1, c2, c3, _⟩; go_simp; try with_reducible rfl)
            refine wpAnyH_take (i := 17) (v := ?v17c) rfl (by kernel_rfl) (by kernel_rfl) (by kernel_rfl) (fun _ _ _ h => h) (Or.inl ⟨by kernel_rfl, ?h17c⟩) hS1 ?_
            case h17c => (rintro w2 ⟨c0, c1, c2, c3, _⟩; go_simp; try with_reducible rfl)
            refine wpAnyH_take (i := 18) (v := ?v18c) rfl (by kernel_rfl) (by kernel_rfl) (by kernel_rfl) (fun _ _ _ h => h) (Or.inl ⟨by kernel_rfl, ?h18c⟩) hS1 ?_
            case h18c => (rintro w2 ⟨c0, c1, c2, c3, _⟩; go_simp; try with_reducible rfl)
            refine wpAnyH_take (i := 19) (v := ?v19c) rfl (by kernel_rfl) (by kernel_rfl) (by kernel_rfl) (fun _ _ _ h => h) (Or.inl ⟨by kernel_rfl, ?h19c⟩) hS1 ?_
            case h19c => (rintro w2 ⟨c0, c1, c2, c3, _⟩; go_simp; try with_reducible rfl)
            refine wpAnyH_take (i := 20) (v := ?v20c) rfl (by kernel_rfl) (by kernel_rfl) (by kernel_rfl) (fun _ _ _ h => h) (Or.inl ⟨by kernel_rfl, ?h20c⟩) hS1 ?_
            case h20c => (rintro w2 ⟨c0, c1, c2, c3, _⟩; go_simp; try with_reducible rfl)
            refine wpAnyH_take (i := 21) (v := ?v21c) rfl (by kernel_rfl) (by kernel_rfl) (by kernel_rfl) (fun _ _ _ h => h) (Or.inl ⟨by kernel_rfl, ?h21c⟩) hS1 ?_
            case h21c => (rintro w2 ⟨c0, c1, c2, c3, _⟩; go_simp; try with_reducible rfl)
            refine wpAnyH_done (by kernel_rfl) ?_ _
            go_simp
            have hb2 := hS1.2.2.2.2.1
            have hfin : hasB l x n = true := by
              have := look_mem HOK.out.up HMEM.out
              simp only at this
              unfold hasB
              rw [HM.out, this]; simpa using hny
            have HFIN := Lib.hid hfin
            clear hfin
            go_wp2
            go_ret
            exact ⟨by rw [HFIN.out]; rfl, hb2⟩
          · skip
            refine wpAnyH_take (i := 0) (v := ?v0d) rfl (by kernel_rfl) (by kernel_rfl) (by kernel_rfl) (fun _ _ _ h => h) (Or.inl ⟨by kernel_rfl, ?h0d⟩) hS ?_
            case h0d => (rintro w2 ⟨c0, c1, c2, c3, _⟩; go_simp; try with_reducible rfl)
            refine wpAnyH_ready (rs := [1]) (by kernel_rfl) (by simp) (AllReadyH.cons rfl (fun K hK => ?_) AllReadyH.nil)
            go_simp
            go_wp2_with (go_at_call 27; refine (HR.out _).mono ?_; rintro e w1 ⟨rfl, hb1⟩)
            refine hK.out _ _ (hS.later hb1) (fun hS1 => ?_); clear hK K
            refine wpAnyH_take (i := 2) (v := ?v2d) rfl (by kernel_rfl) (by kernel_rfl) (by kernel_rfl) (fun _ _ _ h => h) (Or.inl ⟨by kernel_rfl, ?h2d⟩) hS1 ?_
            case h2d => (rintro w2 ⟨c0, c1, c2, c3, _⟩; go_simp; try with_reducible rfl)
            refine wpAnyH_take (i := 3) (v := ?v3d) rfl (by kernel_rfl) (by kernel_rfl) (by kernel_rfl) (fun _ _ _ h => h) (Or.inl ⟨by kernel_rfl, ?h3d⟩) hS1 ?_
            case h3d => (rintro w2 ⟨c0, c1, c2, c3, _⟩; go_simp; try with_reducible rfl)
            refine wpAnyH_take (i := 4) (v := ?v4d) rfl (by kernel_rfl) (by kernel_rfl) (by kernel_rfl) (fun _ _ _ h => h) (Or.inl ⟨by kernel_rfl, ?h4d⟩) hS1 ?_
            case h4d => (rintro w2 ⟨c0, c1, c2, c3, _⟩; go_simp; try with_reducible rfl)
            refine wpAnyH_take (i := 5) (v := ?v5d) rfl (by kernel_rfl) (by kernel_rfl) (by kernel_rfl) (fun _ _ _ h => h) (Or.inl ⟨by kernel_rfl, ?h5d⟩) hS1 ?_
            case h5d => (rintro w2 ⟨c0, c1, c2, c3, _⟩; go_simp; try with_reducible rfl)
            refine wpAnyH_take (i := 6) (v := ?v6d) rfl (by kernel_rfl) (by kernel_rfl) (by kernel_rfl) (fun _ _ _ h => h) (Or.inl ⟨by kernel_rfl, ?h6d⟩) hS1 ?_
            case h6d => (rintro w2 ⟨c0, c1, c2, c3, _⟩; go_simp; try with_reducible rfl)
            refine wpAnyH_take (i := 7) (v := ?v7d) rfl (by kernel_rfl) (by kernel_rfl) (by kernel_rfl) (fun _ _ _ h => h) (Or.inl ⟨by kernel_rfl, ?h7d⟩) hS1 ?_
            case h7d => (rintro w2 ⟨c0, c1, c2, c3, _⟩; go_simp; try with_reducible rfl)
            refine wpAnyH_take (i := 8) (v := ?v8d) rfl (by kernel_rfl) (by kernel_rfl) (by kernel_rfl) (fun _ _ _ h => h) (Or.inl ⟨by kernel_rfl, ?h8d⟩) hS1 ?_
            case h8d => (rintro w2 ⟨c0, c1, c2, c3, _⟩; go_simp; try with_reducible rfl)
            refine wpAnyH_take (i := 9) (v := ?v9d) rfl (by kernel_rfl) (by kernel_rfl) (by kernel_rfl) (fun _ _ _ h => h) (Or.inl ⟨by kernel_rfl, ?h9d⟩) hS1 ?_
            case h9d => (rintro w2 ⟨c0, c1, c2, c3, _⟩; go_simp; try with_reducible rfl)
            refine wpAnyH_take (i := 10) (v := ?v10d) rfl (by kernel_rfl) (by kernel_rfl) (by kernel_rfl) (fun _ _ _ h => h) (Or.inl ⟨by kernel_rfl, ?h10d⟩) hS1 ?_
            case h10d => (rintro w2 ⟨c0, c1, c2, c3, _⟩; go_simp; try with_reducible rfl)
            refine wpAnyH_take (i := 11) (v := ?v11d) rfl (by kernel_rfl) (by kernel_rfl) (by kernel_rfl) (fun _ _ _ h => h) (Or.inl ⟨by kernel_rfl, ?h11d⟩) hS1 ?_
            case h11d => (rintro w2 ⟨c0, c1, c2, c3, _⟩; go_simp; try with_reducible rfl)
            refine wpAnyH_take (i := 12) (v := ?v12d) rfl (by kernel_rfl) (by kernel_rfl) (by kernel_rfl) (fun _ _ _ h => h) (Or.inl ⟨by kernel_rfl, ?h12d⟩) hS1 ?_
            case h12d => (rintro w2 ⟨c0, c1, c2, c3, _⟩; go_simp; try with_reducible rfl)
            refine wpAnyH_take (i := 13) (v := ?v13d) rfl (by kernel_rfl) (by kernel_rfl) (by kernel_rfl) (fun _ _ _ h => h) (Or.inl ⟨by kernel_rfl, ?h13d⟩) hS1 ?_
            case h13d => (rintro w2 ⟨c0, c1, c2, c3, _⟩; go_simp; try with_reducible rfl)
            refine wpAnyH_take (i := 14) (v := ?v14d) rfl (by kernel_rfl) (by kernel_rfl) (by kernel_rfl) (fun _ _ _ h => h) (Or.inl ⟨by kernel_rfl, ?h14d⟩) hS1 ?_
            case h14d => (rintro w2 ⟨c0, c1, c2, c3, _⟩; go_simp; try with_reducible rfl)
            refine wpAnyH_take (i := 15) (v := ?v15d) rfl (by kernel_rfl) (by kernel_rfl) (by kernel_rfl) (fun _ _ _ h => h) (Or.inl ⟨by kernel_rfl, ?h15d⟩) hS1 ?_
            case h15d => (rintro w2 ⟨c0, c1, c2, c3, _⟩; go_simp; try with_reducible rfl)
            refine wpAnyH_take (i := 16) (v := ?v16d) rfl (by kernel_rfl) (by kernel_rfl) (by kernel_rfl) (fun _ _ _ h => h) (Or.inl ⟨by kernel_rfl, ?h16d⟩) hS1 ?_
            case h16d => (rintro w2 ⟨c0, c1, c2, c3, _⟩; go_simp; try with_reducible rfl)
            refine wpAnyH_take (i := 17) (v := ?v17d) rfl (by kernel_rfl) (by kernel_rfl) (by kernel_rfl) (fun _ _ _ h => h) (Or.inl ⟨by kernel_rfl, ?h17d⟩) hS1 ?_
            case h17d => (rintro w2 ⟨c0, c1, c2, c3, _⟩; go_simp; try with_reducible rfl)
            refine wpAnyH_take (i := 18) (v := ?v18d) rfl (by kernel_rfl) (by kernel_rfl) (by kernel_rfl) (fun _ _ _ h => h) (Or.inl ⟨by kernel_rfl, ?h18d⟩) hS1 ?_
            case h18d => (rintro w2 ⟨c0, c1, c2, c3, _⟩; go_simp; try with_reducible rfl)
            refine wpAnyH_take (i := 19) (v := ?v19d) rfl (by kernel_rfl) (by kernel_rfl) (by kernel_rfl) (fun _ _ _ h => h) (Or.inl ⟨by kernel_rfl, ?h19d⟩) hS1 ?_
            case h19d => (rintro w2 ⟨c0, c1, c2, c3, _⟩; go_simp; try with_reducible rfl)
            refine wpAnyH_take (i := 20) (v := ?v20d) rfl (by kernel_rfl) (by kernel_rfl) (by kernel_rfl) (fun _ _ _ h => h) (Or.inl ⟨by kernel_rfl, ?h20d⟩) hS1 ?_
            case h20d => (rintro w2 ⟨c0, c1, c2, c3, _⟩; go_simp; try with_reducible rfl)
            refine wpAnyH_take (i := 21) (v := ?v21d) rfl (by kernel_rfl) (by kernel_rfl) (by kernel_rfl) (fun _ _ _ h => h) (Or.inl ⟨by kernel_rfl, ?h21d⟩) hS1 ?_
            case h21d => (rintro w2 ⟨c0, c1, c2, c3, _⟩; go_simp; try with_reducible rfl)
            refine wpAnyH_done (by kernel_rfl) ?_ _
            go_simp
            obtain ⟨d0, d1, _, _, hb2, hz2, _⟩ := hS1
            go_wp2
            go_roundw
            case rel => exact ⟨k + 1, by omega, by simp, HNX.out (by simpa using hny), d0, d1, hb2, hz2⟩
            case measure => simp [intOf]; omega
        · have hxb : (x == a) = false := by simpa using hxa
          refine wpAnyH_take (i := 0) (v := ?v0b) rfl (by kernel_rfl) (by kernel_rfl) (by kernel_rfl) (fun _ _ _ h => h) (Or.inl ⟨by kernel_rfl, ?h0b⟩) hS ?_
          case h0b => (rintro w2 ⟨c0, c1, c2, c3, _⟩; go_simp; try with_reducible rfl)
          refine wpAnyH_ready (rs := [1]) (by kernel_rfl) (by simp) (AllReadyH.cons rfl (fun K hK => ?_) AllReadyH.nil)
          go_simp
          go_wp2_with (go_at_call 27; refine (HR.out _).mono ?_; rintro e w1 ⟨rfl, hb1⟩)
          refine hK.out _ _ (hS.later hb1) (fun hS1 => ?_); clear hK K
          refine wpAnyH_take (i := 2) (v := ?v2b) rfl (by kernel_rfl) (by kernel_rfl) (by kernel_rfl) (fun _ _ _ h => h) (Or.inl ⟨by kernel_rfl, ?h2b⟩) hS1 ?_
          case h2b => (rintro w2 ⟨c0, c1, c2, c3, _⟩; go_simp; try with_reducible rfl)
          refine wpAnyH_take (i := 3) (v := ?v3b) rfl (by kernel_rfl) (by kernel_rfl) (by kernel_rfl) (fun _ _ _ h => h) (Or.inl ⟨by kernel_rfl, ?h3b⟩) hS1 ?_
          case h3b => (rintro w2 ⟨c0, c1, c2, c3, _⟩; go_simp; try with_reducible rfl)
          refine wpAnyH_take (i := 4) (v := ?v4b) rfl (by kernel_rfl) (by kernel_rfl) (by kernel_rfl) (fun _ _ _ h => h) (Or.inl ⟨by kernel_rfl, ?h4b⟩) hS1 ?_
          case h4b => (rintro w2 ⟨c0, c1, c2, c3, _⟩; go_simp; try with_reducible rfl)
          refine wpAnyH_take (i := 5) (v := ?v5b) rfl (by kernel_rfl) (by kernel_rfl) (by kernel_rfl) (fun _ _ _ h => h) (Or.inl ⟨by kernel_rfl, ?h5b⟩) hS1 ?_
          case h5b => (rintro w2 ⟨c0, c1, c2, c3, _⟩; go_simp; try with_reducible rfl)
          refine wpAnyH_take (i := 6) (v := ?v6b) rfl (by kernel_rfl) (by kernel_rfl) (by kernel_rfl) (fun _ _ _ h => h) (Or.inl ⟨by kernel_rfl, ?h6b⟩) hS1 ?_
          case h6b => (rintro w2 ⟨c0, c1, c2, c3, _⟩; go_simp; try with_reducible rfl)
          refine wpAnyH_take (i := 7) (v := ?v7b) rfl (by kernel_rfl) (by kernel_rfl) (by kernel_rfl) (fun _ _ _ h => h) (Or.inl ⟨by kernel_rfl, ?h7b⟩) hS1 ?_
          case h7b => (rintro w2 ⟨c0, c1, c2, c3, _⟩; go_simp; try with_reducible rfl)
          refine wpAnyH_take (i := 8) (v := ?v8b) rfl (by kernel_rfl) (by kernel_rfl) (by kernel_rfl) (fun _ _ _ h => h) (Or.inl ⟨by kernel_rfl, ?h8b⟩) hS1 ?_
          case h8b => (rintro w2 ⟨c0, c1, c2, c3, _⟩; go_simp; try with_reducible rfl)
          refine wpAnyH_take (i := 9) (v := ?v9b) rfl (by kernel_rfl) (by kernel_rfl) (by kernel_rfl) (fun _ _ _ h => h) (Or.inl ⟨by kernel_rfl, ?h9b⟩) hS1 ?_
          case h9b => (rintro w2 ⟨c0, c1, c2, c3, _⟩; go_simp; try with_reducible rfl)
          refine wpAnyH_take (i := 10) (v := ?v10b) rfl (by kernel_rfl) (by kernel_rfl) (by kernel_rfl) (fun _ _ _ h => h) (Or.inl ⟨by kernel_rfl, ?h10b⟩) hS1 ?_
          case h10b => (rintro w2 ⟨c0, c1, c2, c3, _⟩; go_simp; try with_reducible rfl)
          refine wpAnyH_take (i := 11) (v := ?v11b) rfl (by kernel_rfl) (by kernel_rfl) (by kernel_rfl) (fun _ _ _ h => h) (Or.inl ⟨by kernel_rfl, ?h11b⟩) hS1 ?_
          case h11b => (rintro w2 ⟨c0, c1, c2, c3, _⟩; go_simp; try with_reducible rfl)
          refine wpAnyH_take (i := 12) (v := ?v12b) rfl (by kernel_rfl) (by kernel_rfl) (by kernel_rfl) (fun _ _ _ h => h) (Or.inl ⟨by kernel_rfl, ?h12b⟩) hS1 ?_
          case h12b => (rintro w2 ⟨c0, c1, c2, c3, _⟩; go_simp; try with_reducible rfl)
          refine wpAnyH_take (i := 13) (v := undef) rfl (by kernel_rfl) (by kernel_rfl) (by kernel_rfl) (fun _ _ _ h => h) (Or.inr ⟨by kernel_rfl, rfl⟩) hS1 ?_
          refine wpAnyH_take (i := 14) (v := undef) rfl (by kernel_rfl) (by kernel_rfl) (by kernel_rfl) (fun _ _ _ h => h) (Or.inr ⟨by kernel_rfl, rfl⟩) hS1 ?_
          refine wpAnyH_take (i := 15) (v := undef) rfl (by kernel_rfl) (by kernel_rfl) (by kernel_rfl) (fun _ _ _ h => h) (Or.inr ⟨by kernel_rfl, rfl⟩) hS1 ?_
          refine wpAnyH_take (i := 16) (v := undef) rfl (by kernel_rfl) (by kernel_rfl) (by kernel_rfl) (fun _ _ _ h => h) (Or.inr ⟨by kernel_rfl, rfl⟩) hS1 ?_
          refine wpAnyH_take (i := 17) (v := undef) rfl (by kernel_rfl) (by kernel_rfl) (by kernel_rfl) (fun _ _ _ h => h) (Or.inr ⟨by kernel_rfl, rfl⟩) hS1 ?_
          refine wpAnyH_take (i := 18) (v := undef) rfl (by kernel_rfl) (by kernel_rfl) (by kernel_rfl) (fun _ _ _ h => h) (Or.inr ⟨by kernel_rfl, rfl⟩) hS1 ?_
          refine wpAnyH_take (i := 19) (v := undef) rfl (by kernel_rfl) (by kernel_rfl) (by kernel_rfl) (fun _ _ _ h => h) (Or.inr ⟨by kernel_rfl, rfl⟩) hS1 ?_
          refine wpAnyH_take (i := 20) (v := undef) rfl (by kernel_rfl) (by kernel_rfl) (by kernel_rfl) (fun _ _ _ h => h) (Or.inr ⟨by kernel_rfl, rfl⟩) hS1 ?_
          refine wpAnyH_take (i := 21) (v := ?v21b) rfl (by kernel_rfl) (by kernel_rfl) (by kernel_rfl) (fun _ _ _ h => h) (Or.inl ⟨by kernel_rfl, ?h21b⟩) hS1 ?_
          case h21b => (rintro w2 ⟨c0, c1, c2, c3, _⟩; go_simp; try with_reducible rfl)
          refine wpAnyH_done (by kernel_rfl) ?_ _
          go_simp
          obtain ⟨d0, d1, _, _, hb2, hz2, _⟩ := hS1
          go_wp2
          go_roundw
          case rel => exact ⟨k + 1, by omega, by simp, HNX.out (by simp [hxa]), d0, d1, hb2, hz2⟩
          case measure => simp [intOf]; omega
    · obtain rfl : k = l.length := by omega
      have hfin : hasB l a n = false := by
        unfold hasB
        rw [HM.out]
        rcases look_cases l a with ⟨h1, _⟩ | h1
        · cases hm2 : m
          · rfl
          · have h3 := (mayB_iff a n).1 (HM.out.trans hm2)
            rw [h1]; simp; omega
        · obtain ⟨j, hj, hj2⟩ := List.getElem_of_mem h1
          have h4 := HNO.out j (a, look l a) hj (by rw [List.getElem?_eq_getElem hj, hj2])
          simpa using h4
      have HFIN := Lib.hid hfin
      clear hfin
      go_wp2
      go_ret
      exact ⟨by rw [HFIN.out]; rfl, HBB.out⟩
end Go.Proofs.Ytggcnglnclpaeaa
