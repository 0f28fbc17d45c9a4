/- DotOrder: before is an order. -/
import Derived.Test.YtggcnglnclpaeaaP
import Derived.Deep.RegionHeld3
namespace Go.Proofs.Ytggcnglnclpaeaa
open Go.RowKit Go.Maps

/-- three boxes -/
def K3 (w : World) (a b c : Int × Int) (w' : World) : Prop :=
  w'.cell? ⟨w.heap.size, 0, none⟩ = some (.int .i64 a.1) ∧ w'.cell? ⟨w.heap.size, 1, none⟩ = some (.int .i64 a.2) ∧ w'.cell? ⟨w.heap.size + 1, 0, none⟩ = some (.int .i64 b.1) ∧ w'.cell? ⟨w.heap.size + 1, 1, none⟩ = some (.int .i64 b.2) ∧
    w'.cell? ⟨w.heap.size + 1 + 1, 0, none⟩ = some (.int .i64 c.1) ∧ w'.cell? ⟨w.heap.size + 1 + 1, 1, none⟩ = some (.int .i64 c.2) ∧ Below w.heap.size w w' ∧ w.heap.size + 2 < w'.heap.size
theorem K3.later {w : World} {a b c : Int × Int} {w1 w2 : World} (h : K3 w a b c w1) (hb : Below w1.heap.size w1 w2) : K3 w a b c w2 := by
  obtain ⟨c0, c1, c2, c3, c4, c5, hb1, hz⟩ := h
  have := hb.size
  have hc : ∀ x o, x ≤ w.heap.size + 2 → w2.cell? ⟨x, o, none⟩ = w1.cell? ⟨x, o, none⟩ := fun x o hx => hb.cell (p := ⟨x, o, none⟩) (by simp only; omega)
  exact ⟨(hc _ _ (by omega)).trans c0, (hc _ _ (by omega)).trans c1, (hc _ _ (by omega)).trans c2, (hc _ _ (by omega)).trans c3, (hc _ _ (by omega)).trans c4, (hc _ _ (by omega)).trans c5, hb1.trans (hb.mono hb1.size), by omega⟩
theorem K3.drew {w : World} {a b c : Int × Int} {w1 : World} (h : K3 w a b c w1) : K3 w a b c w1.drew := by
  obtain ⟨c0, c1, c2, c3, c4, c5, hb1, hz⟩ := h
  exact ⟨c0, c1, c2, c3, c4, c5, hb1.drew, hz⟩
theorem K3.first (w : World) (a b c : Int × Int) : K3 w a b c (((w.alloc (.cells #[.int .i64 a.1, .int .i64 a.2] 24)).alloc (.cells #[.int .i64 b.1, .int .i64 b.2] 24)).alloc (.cells #[.int .i64 c.1, .int .i64 c.2] 24)) := by
  have h0 : Two (((w.alloc (.cells #[.int .i64 a.1, .int .i64 a.2] 24)).alloc (.cells #[.int .i64 b.1, .int .i64 b.2] 24)).alloc (.cells #[.int .i64 c.1, .int .i64 c.2] 24)) w.heap.size (.int .i64 a.1) (.int .i64 a.2) :=
    (Below.heap_alloc _ _ _ (by simp; omega)).trans ((Below.heap_alloc _ _ _ (by simp)).trans (World.alloc_heap_new w _))
  have h1 : Two (((w.alloc (.cells #[.int .i64 a.1, .int .i64 a.2] 24)).alloc (.cells #[.int .i64 b.1, .int .i64 b.2] 24)).alloc (.cells #[.int .i64 c.1, .int .i64 c.2] 24)) (w.heap.size + 1) (.int .i64 b.1) (.int .i64 b.2) := by
    refine (Below.heap_alloc _ _ _ (by simp)).trans ?_
    have := World.alloc_heap_new (w.alloc (.cells #[.int .i64 a.1, .int .i64 a.2] 24)) (.cells #[.int .i64 b.1, .int .i64 b.2] 24)
    simpa using this
  have h2 : Two (((w.alloc (.cells #[.int .i64 a.1, .int .i64 a.2] 24)).alloc (.cells #[.int .i64 b.1, .int .i64 b.2] 24)).alloc (.cells #[.int .i64 c.1, .int .i64 c.2] 24)) (w.heap.size + 1 + 1) (.int .i64 c.1) (.int .i64 c.2) := by
    have := World.alloc_heap_new ((w.alloc (.cells #[.int .i64 a.1, .int .i64 a.2] 24)).alloc (.cells #[.int .i64 b.1, .int .i64 b.2] 24)) (.cells #[.int .i64 c.1, .int .i64 c.2] 24)
    simp only [World.size_alloc] at this
    exact this
  exact ⟨(two_cells h0).1, (two_cells h0).2, (two_cells h1).1, (two_cells h1).2, (two_cells h2).1, (two_cells h2).2, (((Below.refl _ w).alloc (Nat.le_refl _) _).alloc (by simp) _).alloc (by simp; omega) _, by simp⟩

theorem bef_aa (a : Int × Int) : befB a a = false := by unfold befB; simp
theorem bef_asym {a b : Int × Int} (h : befB a b = true) : befB b a = false := by unfold befB at *; simp at *; omega
theorem bef_total {a b : Int × Int} (h : a ≠ b) (h1 : befB a b = false) : befB b a = true := by
  have hne : ¬ (a.1 = b.1 ∧ a.2 = b.2) := fun hh => h (Prod.ext hh.1 hh.2)
  unfold befB at *; simp at *; omega
theorem bef_trans {a b c : Int × Int} (h1 : befB a b = true) (h2 : befB b c = true) : befB a c = true := by unfold befB at *; simp at *; omega

set_option maxHeartbeats 6400000 in
set_option maxRecDepth 100000 in
theorem order_tt (a b c : Int × Int) (w : World) (hab : befB a b = true) (hbc : befB b c = true) :
    Calls Try.prog 6 #[idV a.1 a.2, idV b.1 b.2, idV c.1 c.2] w fun e w' => e = .returned (.bool true) ∧ Below w.heap.size w w' := by
  have hne : a ≠ b := fun h => by subst h; rw [bef_aa] at hab; cases hab
  have hba : befB b a = false := bef_asym hab
  have HNE := Lib.hid (show ¬ (a.1 = b.1 ∧ a.2 = b.2) from fun h => hne (Prod.ext h.1 h.2))
  have hac : befB a c = true := bef_trans hab hbc
  have HAB : Hid (∀ w, Calls Try.prog 25 #[.agg #[.int .i64 a.1, .int .i64 a.2], .agg #[.int .i64 b.1, .int .i64 b.2]] w fun e w' => e = .returned (.bool true) ∧ Below w.heap.size w w') := Lib.hid (fun w => by have := before_any a b w; rw [hab] at this; exact this)
  have HRAB : Hid (∀ w, Calls Try.prog 26 #[.agg #[.int .i64 a.1, .int .i64 a.2], .agg #[.int .i64 b.1, .int .i64 b.2]] w fun e w' => e = .returned (.bool true) ∧ Below w.heap.size w w') := Lib.hid (fun w => by have := rbefore_any a b w; rw [hab] at this; exact this)
  have HAA : Hid (∀ w, Calls Try.prog 25 #[.agg #[.int .i64 a.1, .int .i64 a.2], .agg #[.int .i64 a.1, .int .i64 a.2]] w fun e w' => e = .returned (.bool false) ∧ Below w.heap.size w w') := Lib.hid (fun w => by have := before_any a a w; rw [bef_aa] at this; exact this)
  have HBA : Hid (∀ w, Calls Try.prog 25 #[.agg #[.int .i64 b.1, .int .i64 b.2], .agg #[.int .i64 a.1, .int .i64 a.2]] w fun e w' => e = .returned (.bool false) ∧ Below w.heap.size w w') := Lib.hid (fun w => by have := before_any b a w; rw [hba] at this; exact this)
  have HBC : Hid (∀ w, Calls Try.prog 25 #[.agg #[.int .i64 b.1, .int .i64 b.2], .agg #[.int .i64 c.1, .int .i64 c.2]] w fun e w' => e = .returned (.bool true) ∧ Below w.heap.size w w') := Lib.hid (fun w => by have := before_any b c w; rw [hbc] at this; exact this)
  have HAC : Hid (∀ w, Calls Try.prog 25 #[.agg #[.int .i64 a.1, .int .i64 a.2], .agg #[.int .i64 c.1, .int .i64 c.2]] w fun e w' => e = .returned (.bool true) ∧ Below w.heap.size w w') := Lib.hid (fun w => by have := before_any a c w; rw [hac] at this; exact this)
  clear hab hba hbc hac hne
  have h0 := Lib.hid (K3.first w a b c)
  obtain ⟨a1, a2⟩ := a
  obtain ⟨b1, b2⟩ := b
  obtain ⟨c1, c2⟩ := c
  unfold idV
  go_enter Try.func6, Try.ntmps6
  go_wp2_with fail
  refine (awake_any _).mono ?_
  rintro e w1 ⟨rfl, hb1⟩
  have h1 := Lib.hid (h0.out.later hb1)
  clear hb1
  go_wp2_with fail
  refine wp_region_held_drew (S := K3 w (a1, a2) (b1, b2) (c1, c2)) (by kernel_rfl) h1.out.drew (fun hS => ?_)
  refine wpAnyH_take (i := 0) (v := ?v0a) rfl (by kernel_rfl) (by kernel_rfl) (by kernel_rfl) (fun _ _ _ h => h) (Or.inl ⟨by kernel_rfl, ?h0a⟩) hS ?_
  case h0a => (rintro w2 ⟨e0, e1, e2, e3, e4, e5, _⟩; go_simp; try with_reducible rfl)
  refine wpAnyH_take (i := 1) (v := ?v1a) rfl (by kernel_rfl) (by kernel_rfl) (by kernel_rfl) (fun _ _ _ h => h) (Or.inl ⟨by kernel_rfl, ?h1a⟩) hS ?_
  case h1a => (rintro w2 ⟨e0, e1, e2, e3, e4, e5, _⟩; go_simp; try with_reducible rfl)
  refine wpAnyH_take (i := 3) (v := ?v3a) rfl (by kernel_rfl) (by kernel_rfl) (by kernel_rfl) (fun _ _ _ h => h) (Or.inl ⟨by kernel_rfl, ?h3a⟩) hS ?_
  case h3a => (rintro w2 ⟨e0, e1, e2, e3, e4, e5, _⟩; go_simp; try with_reducible rfl)
  refine wpAnyH_take (i := 4) (v := ?v4a) rfl (by kernel_rfl) (by kernel_rfl) (by kernel_rfl) (fun _ _ _ h => h) (Or.inl ⟨by kernel_rfl, ?h4a⟩) hS ?_
  case h4a => (rintro w2 ⟨e0, e1, e2, e3, e4, e5, _⟩; go_simp; try with_reducible rfl)
  refine wpAnyH_ready (rs := [2]) (by kernel_rfl) (by simp) (AllReadyH.cons rfl (fun K hK => ?_) AllReadyH.nil)
  go_simp
  go_wp2_with (go_at_call 25; refine (HAB.out _).mono ?_; rintro e w12 ⟨rfl, hb12⟩)
  refine hK.out _ _ (hS.later hb12) (fun hS2 => ?_); clear hK K
  refine wpAnyH_ready (rs := [5]) (by kernel_rfl) (by simp) (AllReadyH.cons rfl (fun K hK => ?_) AllReadyH.nil)
  go_simp
  go_wp2_with (go_at_call 26; refine (HRAB.out _).mono ?_; rintro e w15 ⟨rfl, hb15⟩)
  refine hK.out _ _ (hS2.later hb15) (fun hS5 => ?_); clear hK K
  refine wpAnyH_take (i := 6) (v := ?v6a) rfl (by kernel_rfl) (by kernel_rfl) (by kernel_rfl) (fun _ _ _ h => h) (Or.inl ⟨by kernel_rfl, ?h6a⟩) hS5 ?_
  case h6a => (rintro w2 ⟨e0, e1, e2, e3, e4, e5, _⟩; go_simp; try with_reducible rfl)
  refine wpAnyH_take (i := 7) (v := ?v7a) rfl (by kernel_rfl) (by kernel_rfl) (by kernel_rfl) (fun _ _ _ h => h) (Or.inl ⟨by kernel_rfl, ?h7a⟩) hS5 ?_
  case h7a => (rintro w2 ⟨e0, e1, e2, e3, e4, e5, _⟩; go_simp; try with_reducible rfl)
  refine wpAnyH_take (i := 8) (v := ?v8a) rfl (by kernel_rfl) (by kernel_rfl) (by kernel_rfl) (fun _ _ _ h => h) (Or.inl ⟨by kernel_rfl, ?h8a⟩) hS5 ?_
  case h8a => (rintro w2 ⟨e0, e1, e2, e3, e4, e5, _⟩; go_simp; try with_reducible rfl)
  refine wpAnyH_take (i := 9) (v := ?v9a) rfl (by kernel_rfl) (by kernel_rfl) (by kernel_rfl) (fun _ _ _ h => h) (Or.inl ⟨by kernel_rfl, ?h9a⟩) hS5 ?_
  case h9a => (rintro w2 ⟨e0, e1, e2, e3, e4, e5, _⟩; go_simp; try with_reducible rfl)
  refine wpAnyH_ready (rs := [10]) (by kernel_rfl) (by simp) (AllReadyH.cons rfl (fun K hK => ?_) AllReadyH.nil)
  go_simp
  go_wp2_with (go_at_call 25; refine (HAA.out _).mono ?_; rintro e w20 ⟨rfl, hb20⟩)
  refine hK.out _ _ (hS5.later hb20) (fun hS10 => ?_); clear hK K
  refine wpAnyH_take (i := 11) (v := ?v11a) rfl (by kernel_rfl) (by kernel_rfl) (by kernel_rfl) (fun _ _ _ h => h) (Or.inl ⟨by kernel_rfl, ?h11a⟩) hS10 ?_
  case h11a => (rintro w2 ⟨e0, e1, e2, e3, e4, e5, _⟩; go_simp; try with_reducible rfl)
  refine wpAnyH_take (i := 12) (v := ?v12a) rfl (by kernel_rfl) (by kernel_rfl) (by kernel_rfl) (fun _ _ _ h => h) (Or.inl ⟨by kernel_rfl, ?h12a⟩) hS10 ?_
  case h12a => (rintro w2 ⟨e0, e1, e2, e3, e4, e5, _⟩; go_simp; try with_reducible rfl)
  refine wpAnyH_take (i := 13) (v := ?v13a) rfl (by kernel_rfl) (by kernel_rfl) (by kernel_rfl) (fun _ _ _ h => h) (Or.inl ⟨by kernel_rfl, ?h13a⟩) hS10 ?_
  case h13a => (rintro w2 ⟨e0, e1, e2, e3, e4, e5, _⟩; go_simp; try with_reducible rfl)
  refine wpAnyH_take (i := 14) (v := ?v14a) rfl (by kernel_rfl) (by kernel_rfl) (by kernel_rfl) (fun _ _ _ h => h) (Or.inl ⟨by kernel_rfl, ?h14a⟩) hS10 ?_
  case h14a => (rintro w2 ⟨e0, e1, e2, e3, e4, e5, _⟩; go_simp; try with_reducible rfl)
  refine wpAnyH_ready (rs := [15]) (by kernel_rfl) (by simp) (AllReadyH.cons rfl (fun K hK => ?_) AllReadyH.nil)
  go_simp
  go_wp2_with (go_at_call 25; refine (HAB.out _).mono ?_; rintro e w25 ⟨rfl, hb25⟩)
  refine hK.out _ _ (hS10.later hb25) (fun hS15 => ?_); clear hK K
  refine wpAnyH_take (i := 16) (v := ?v16a) rfl (by kernel_rfl) (by kernel_rfl) (by kernel_rfl) (fun _ _ _ h => h) (Or.inl ⟨by kernel_rfl, ?h16a⟩) hS15 ?_
  case h16a => (rintro w2 ⟨e0, e1, e2, e3, e4, e5, _⟩; go_simp; try with_reducible rfl)
  refine wpAnyH_take (i := 17) (v := ?v17a) rfl (by kernel_rfl) (by kernel_rfl) (by kernel_rfl) (fun _ _ _ h => h) (Or.inl ⟨by kernel_rfl, ?h17a⟩) hS15 ?_
  case h17a => (rintro w2 ⟨e0, e1, e2, e3, e4, e5, _⟩; go_simp; try with_reducible rfl)
  refine wpAnyH_take (i := 18) (v := ?v18a) rfl (by kernel_rfl) (by kernel_rfl) (by kernel_rfl) (fun _ _ _ h => h) (Or.inl ⟨by kernel_rfl, ?h18a⟩) hS15 ?_
  case h18a => (rintro w2 ⟨e0, e1, e2, e3, e4, e5, _⟩; go_simp; try with_reducible rfl)
  refine wpAnyH_ready (rs := [19]) (by kernel_rfl) (by simp) (AllReadyH.cons rfl (fun K hK => ?_) AllReadyH.nil)
  go_simp
  go_wp2_with (go_at_call 25; refine (HBA.out _).mono ?_; rintro e w29 ⟨rfl, hb29⟩)
  refine hK.out _ _ (hS15.later hb29) (fun hS19 => ?_); clear hK K
  refine wpAnyH_take (i := 20) (v := ?v20a) rfl (by kernel_rfl) (by kernel_rfl) (by kernel_rfl) (fun _ _ _ h => h) (Or.inl ⟨by kernel_rfl, ?h20a⟩) hS19 ?_
  case h20a => (rintro w2 ⟨e0, e1, e2, e3, e4, e5, _⟩; go_simp; try with_reducible rfl)
  refine wpAnyH_take (i := 21) (v := ?v21a) rfl (by kernel_rfl) (by kernel_rfl) (by kernel_rfl) (fun _ _ _ h => h) (Or.inl ⟨by kernel_rfl, ?h21a⟩) hS19 ?_
  case h21a => (rintro w2 ⟨e0, e1, e2, e3, e4, e5, _⟩; go_simp; try with_reducible rfl)
  refine wpAnyH_take (i := 22) (v := ?v22a) rfl (by kernel_rfl) (by kernel_rfl) (by kernel_rfl) (fun _ _ _ h => h) (Or.inl ⟨by kernel_rfl, ?h22a⟩) hS19 ?_
  case h22a => (rintro w2 ⟨e0, e1, e2, e3, e4, e5, _⟩; go_simp; try with_reducible rfl)
  refine wpAnyH_take (i := 23) (v := ?v23a) rfl (by kernel_rfl) (by kernel_rfl) (by kernel_rfl) (fun _ _ _ h => h) (Or.inl ⟨by kernel_rfl, ?h23a⟩) hS19 ?_
  case h23a => (rintro w2 ⟨e0, e1, e2, e3, e4, e5, _⟩; go_simp; try with_reducible rfl)
  refine wpAnyH_take (i := 24) (v := ?v24a) rfl (by kernel_rfl) (by kernel_rfl) (by kernel_rfl) (fun _ _ _ h => h) (Or.inl ⟨by kernel_rfl, ?h24a⟩) hS19 ?_
  case h24a => (rintro w2 ⟨e0, e1, e2, e3, e4, e5, _⟩; go_simp; try with_reducible rfl)
  refine wpAnyH_take (i := 25) (v := .bool true) rfl (by kernel_rfl) (by kernel_rfl) (by kernel_rfl) (fun _ _ _ h => h) (Or.inl ⟨by kernel_rfl, ?h25a⟩) hS19 ?_
  case h25a => (rintro w2 ⟨e0, e1, e2, e3, e4, e5, _⟩; go_simp; exact fun q1 q2 => HNE.out ⟨q1, q2⟩)
  refine wpAnyH_take (i := 26) (v := ?v26a) rfl (by kernel_rfl) (by kernel_rfl) (by kernel_rfl) (fun _ _ _ h => h) (Or.inl ⟨by kernel_rfl, ?h26a⟩) hS19 ?_
  case h26a => (rintro w2 ⟨e0, e1, e2, e3, e4, e5, _⟩; go_simp; try with_reducible rfl)
  refine wpAnyH_take (i := 27) (v := ?v27a) rfl (by kernel_rfl) (by kernel_rfl) (by kernel_rfl) (fun _ _ _ h => h) (Or.inl ⟨by kernel_rfl, ?h27a⟩) hS19 ?_
  case h27a => (rintro w2 ⟨e0, e1, e2, e3, e4, e5, _⟩; go_simp; try with_reducible rfl)
  refine wpAnyH_take (i := 28) (v := ?v28a) rfl (by kernel_rfl) (by kernel_rfl) (by kernel_rfl) (fun _ _ _ h => h) (Or.inl ⟨by kernel_rfl, ?h28a⟩) hS19 ?_
  case h28a => (rintro w2 ⟨e0, e1, e2, e3, e4, e5, _⟩; go_simp; try with_reducible rfl)
  refine wpAnyH_ready (rs := [29]) (by kernel_rfl) (by simp) (AllReadyH.cons rfl (fun K hK => ?_) AllReadyH.nil)
  go_simp
  go_wp2_with (go_at_call 25; refine (HAB.out _).mono ?_; rintro e w39 ⟨rfl, hb39⟩)
  refine hK.out _ _ (hS19.later hb39) (fun hS29 => ?_); clear hK K
  refine wpAnyH_take (i := 30) (v := ?v30a) rfl (by kernel_rfl) (by kernel_rfl) (by kernel_rfl) (fun _ _ _ h => h) (Or.inl ⟨by kernel_rfl, ?h30a⟩) hS29 ?_
  case h30a => (rintro w2 ⟨e0, e1, e2, e3, e4, e5, _⟩; go_simp; try with_reducible rfl)
  refine wpAnyH_take (i := 31) (v := ?v31a) rfl (by kernel_rfl) (by kernel_rfl) (by kernel_rfl) (fun _ _ _ h => h) (Or.inl ⟨by kernel_rfl, ?h31a⟩) hS29 ?_
  case h31a => (rintro w2 ⟨e0, e1, e2, e3, e4, e5, _⟩; go_simp; try with_reducible rfl)
  refine wpAnyH_take (i := 32) (v := ?v32a) rfl (by kernel_rfl) (by kernel_rfl) (by kernel_rfl) (fun _ _ _ h => h) (Or.inl ⟨by kernel_rfl, ?h32a⟩) hS29 ?_
  case h32a => (rintro w2 ⟨e0, e1, e2, e3, e4, e5, _⟩; go_simp; try with_reducible rfl)
  refine wpAnyH_take (i := 33) (v := undef) rfl (by kernel_rfl) (by kernel_rfl) (by kernel_rfl) (fun _ _ _ h => h) (Or.inr ⟨by kernel_rfl, rfl⟩) hS29 ?_
  refine wpAnyH_take (i := 34) (v := undef) rfl (by kernel_rfl) (by kernel_rfl) (by kernel_rfl) (fun _ _ _ h => h) (Or.inr ⟨by kernel_rfl, rfl⟩) hS29 ?_
  refine wpAnyH_take (i := 35) (v := undef) rfl (by kernel_rfl) (by kernel_rfl) (by kernel_rfl) (fun _ _ _ h => h) (Or.inr ⟨by kernel_rfl, rfl⟩) hS29 ?_
  refine wpAnyH_take (i := 36) (v := undef) rfl (by kernel_rfl) (by kernel_rfl) (by kernel_rfl) (fun _ _ _ h => h) (Or.inr ⟨by kernel_rfl, rfl⟩) hS29 ?_
  refine wpAnyH_take (i := 37) (v := ?v37a) rfl (by kernel_rfl) (by kernel_rfl) (by kernel_rfl) (fun _ _ _ h => h) (Or.inl ⟨by kernel_rfl, ?h37a⟩) hS29 ?_
  case h37a => (rintro w2 ⟨e0, e1, e2, e3, e4, e5, _⟩; go_simp; try with_reducible rfl)
  refine wpAnyH_take (i := 38) (v := ?v38a) rfl (by kernel_rfl) (by kernel_rfl) (by kernel_rfl) (fun _ _ _ h => h) (Or.inl ⟨by kernel_rfl, ?h38a⟩) hS29 ?_
  case h38a => (rintro w2 ⟨e0, e1, e2, e3, e4, e5, _⟩; go_simp; try with_reducible rfl)
  refine wpAnyH_done (by kernel_rfl) ?_ _
  go_simp
  have h2 := Lib.hid hS29
  obtain ⟨e0, e1, e2, e3, e4, e5, _⟩ := h2.out
  go_wp2_with fail
  refine (HAB.out _).mono ?_
  rintro e v0 ⟨rfl, hb0⟩
  have k0 := Lib.hid (h2.out.later hb0)
  clear hb0 e0 e1 e2 e3 e4 e5
  obtain ⟨e0, e1, e2, e3, e4, e5, _⟩ := k0.out
  go_wp2_with fail
  refine (HBC.out _).mono ?_
  rintro e v1 ⟨rfl, hb1⟩
  have k1 := Lib.hid (k0.out.later hb1)
  clear hb1 e0 e1 e2 e3 e4 e5
  obtain ⟨e0, e1, e2, e3, e4, e5, _⟩ := k1.out
  go_wp2_with fail
  refine (HAC.out _).mono ?_
  rintro e v2 ⟨rfl, hb2⟩
  have k2 := Lib.hid (k1.out.later hb2)
  clear hb2 e0 e1 e2 e3 e4 e5
  obtain ⟨e0, e1, e2, e3, e4, e5, _⟩ := k2.out
  go_wp2_with fail
  go_ret
  exact ⟨rfl, k2.out.2.2.2.2.2.2.1⟩

set_option maxHeartbeats 6400000 in
set_option maxRecDepth 100000 in
theorem order_tf (a b c : Int × Int) (w : World) (hab : befB a b = true) (hbc : befB b c = false) :
    Calls Try.prog 6 #[idV a.1 a.2, idV b.1 b.2, idV c.1 c.2] w fun e w' => e = .returned (.bool true) ∧ Below w.heap.size w w' := by
  have hne : a ≠ b := fun h => by subst h; rw [bef_aa] at hab; cases hab
  have hba : befB b a = false := bef_asym hab
  have HNE := Lib.hid (show ¬ (a.1 = b.1 ∧ a.2 = b.2) from fun h => hne (Prod.ext h.1 h.2))
  have HAB : Hid (∀ w, Calls Try.prog 25 #[.agg #[.int .i64 a.1, .int .i64 a.2], .agg #[.int .i64 b.1, .int .i64 b.2]] w fun e w' => e = .returned (.bool true) ∧ Below w.heap.size w w') := Lib.hid (fun w => by have := before_any a b w; rw [hab] at this; exact this)
  have HRAB : Hid (∀ w, Calls Try.prog 26 #[.agg #[.int .i64 a.1, .int .i64 a.2], .agg #[.int .i64 b.1, .int .i64 b.2]] w fun e w' => e = .returned (.bool true) ∧ Below w.heap.size w w') := Lib.hid (fun w => by have := rbefore_any a b w; rw [hab] at this; exact this)
  have HAA : Hid (∀ w, Calls Try.prog 25 #[.agg #[.int .i64 a.1, .int .i64 a.2], .agg #[.int .i64 a.1, .int .i64 a.2]] w fun e w' => e = .returned (.bool false) ∧ Below w.heap.size w w') := Lib.hid (fun w => by have := before_any a a w; rw [bef_aa] at this; exact this)
  have HBA : Hid (∀ w, Calls Try.prog 25 #[.agg #[.int .i64 b.1, .int .i64 b.2], .agg #[.int .i64 a.1, .int .i64 a.2]] w fun e w' => e = .returned (.bool false) ∧ Below w.heap.size w w') := Lib.hid (fun w => by have := before_any b a w; rw [hba] at this; exact this)
  have HBC : Hid (∀ w, Calls Try.prog 25 #[.agg #[.int .i64 b.1, .int .i64 b.2], .agg #[.int .i64 c.1, .int .i64 c.2]] w fun e w' => e = .returned (.bool false) ∧ Below w.heap.size w w') := Lib.hid (fun w => by have := before_any b c w; rw [hbc] at this; exact this)
  clear hab hba hbc hne
  have h0 := Lib.hid (K3.first w a b c)
  obtain ⟨a1, a2⟩ := a
  obtain ⟨b1, b2⟩ := b
  obtain ⟨c1, c2⟩ := c
  unfold idV
  go_enter Try.func6, Try.ntmps6
  go_wp2_with fail
  refine (awake_any _).mono ?_
  rintro e w1 ⟨rfl, hb1⟩
  have h1 := Lib.hid (h0.out.later hb1)
  clear hb1
  go_wp2_with fail
  refine wp_region_held_drew (S := K3 w (a1, a2) (b1, b2) (c1, c2)) (by kernel_rfl) h1.out.drew (fun hS => ?_)
  refine wpAnyH_take (i := 0) (v := ?v0a) rfl (by kernel_rfl) (by kernel_rfl) (by kernel_rfl) (fun _ _ _ h => h) (Or.inl ⟨by kernel_rfl, ?h0a⟩) hS ?_
  case h0a => (rintro w2 ⟨e0, e1, e2, e3, e4, e5, _⟩; go_simp; try with_reducible rfl)
  refine wpAnyH_take (i := 1) (v := ?v1a) rfl (by kernel_rfl) (by kernel_rfl) (by kernel_rfl) (fun _ _ _ h => h) (Or.inl ⟨by kernel_rfl, ?h1a⟩) hS ?_
  case h1a => (rintro w2 ⟨e0, e1, e2, e3, e4, e5, _⟩; go_simp; try with_reducible rfl)
  refine wpAnyH_take (i := 3) (v := ?v3a) rfl (by kernel_rfl) (by kernel_rfl) (by kernel_rfl) (fun _ _ _ h => h) (Or.inl ⟨by kernel_rfl, ?h3a⟩) hS ?_
  case h3a => (rintro w2 ⟨e0, e1, e2, e3, e4, e5, _⟩; go_simp; try with_reducible rfl)
  refine wpAnyH_take (i := 4) (v := ?v4a) rfl (by kernel_rfl) (by kernel_rfl) (by kernel_rfl) (fun _ _ _ h => h) (Or.inl ⟨by kernel_rfl, ?h4a⟩) hS ?_
  case h4a => (rintro w2 ⟨e0, e1, e2, e3, e4, e5, _⟩; go_simp; try with_reducible rfl)
  refine wpAnyH_ready (rs := [2]) (by kernel_rfl) (by simp) (AllReadyH.cons rfl (fun K hK => ?_) AllReadyH.nil)
  go_simp
  go_wp2_with (go_at_call 25; refine (HAB.out _).mono ?_; rintro e w12 ⟨rfl, hb12⟩)
  refine hK.out _ _ (hS.later hb12) (fun hS2 => ?_); clear hK K
  refine wpAnyH_ready (rs := [5]) (by kernel_rfl) (by simp) (AllReadyH.cons rfl (fun K hK => ?_) AllReadyH.nil)
  go_simp
  go_wp2_with (go_at_call 26; refine (HRAB.out _).mono ?_; rintro e w15 ⟨rfl, hb15⟩)
  refine hK.out _ _ (hS2.later hb15) (fun hS5 => ?_); clear hK K
  refine wpAnyH_take (i := 6) (v := ?v6a) rfl (by kernel_rfl) (by kernel_rfl) (by kernel_rfl) (fun _ _ _ h => h) (Or.inl ⟨by kernel_rfl, ?h6a⟩) hS5 ?_
  case h6a => (rintro w2 ⟨e0, e1, e2, e3, e4, e5, _⟩; go_simp; try with_reducible rfl)
  refine wpAnyH_take (i := 7) (v := ?v7a) rfl (by kernel_rfl) (by kernel_rfl) (by kernel_rfl) (fun _ _ _ h => h) (Or.inl ⟨by kernel_rfl, ?h7a⟩) hS5 ?_
  case h7a => (rintro w2 ⟨e0, e1, e2, e3, e4, e5, _⟩; go_simp; try with_reducible rfl)
  refine wpAnyH_take (i := 8) (v := ?v8a) rfl (by kernel_rfl) (by kernel_rfl) (by kernel_rfl) (fun _ _ _ h => h) (Or.inl ⟨by kernel_rfl, ?h8a⟩) hS5 ?_
  case h8a => (rintro w2 ⟨e0, e1, e2, e3, e4, e5, _⟩; go_simp; try with_reducible rfl)
  refine wpAnyH_take (i := 9) (v := ?v9a) rfl (by kernel_rfl) (by kernel_rfl) (by kernel_rfl) (fun _ _ _ h => h) (Or.inl ⟨by kernel_rfl, ?h9a⟩) hS5 ?_
  case h9a => (rintro w2 ⟨e0, e1, e2, e3, e4, e5, _⟩; go_simp; try with_reducible rfl)
  refine wpAnyH_ready (rs := [10]) (by kernel_rfl) (by simp) (AllReadyH.cons rfl (fun K hK => ?_) AllReadyH.nil)
  go_simp
  go_wp2_with (go_at_call 25; refine (HAA.out _).mono ?_; rintro e w20 ⟨rfl, hb20⟩)
  refine hK.out _ _ (hS5.later hb20) (fun hS10 => ?_); clear hK K
  refine wpAnyH_take (i := 11) (v := ?v11a) rfl (by kernel_rfl) (by kernel_rfl) (by kernel_rfl) (fun _ _ _ h => h) (Or.inl ⟨by kernel_rfl, ?h11a⟩) hS10 ?_
  case h11a => (rintro w2 ⟨e0, e1, e2, e3, e4, e5, _⟩; go_simp; try with_reducible rfl)
  refine wpAnyH_take (i := 12) (v := ?v12a) rfl (by kernel_rfl) (by kernel_rfl) (by kernel_rfl) (fun _ _ _ h => h) (Or.inl ⟨by kernel_rfl, ?h12a⟩) hS10 ?_
  case h12a => (rintro w2 ⟨e0, e1, e2, e3, e4, e5, _⟩; go_simp; try with_reducible rfl)
  refine wpAnyH_take (i := 13) (v := ?v13a) rfl (by kernel_rfl) (by kernel_rfl) (by kernel_rfl) (fun _ _ _ h => h) (Or.inl ⟨by kernel_rfl, ?h13a⟩) hS10 ?_
  case h13a => (rintro w2 ⟨e0, e1, e2, e3, e4, e5, _⟩; go_simp; try with_reducible rfl)
  refine wpAnyH_take (i := 14) (v := ?v14a) rfl (by kernel_rfl) (by kernel_rfl) (by kernel_rfl) (fun _ _ _ h => h) (Or.inl ⟨by kernel_rfl, ?h14a⟩) hS10 ?_
  case h14a => (rintro w2 ⟨e0, e1, e2, e3, e4, e5, _⟩; go_simp; try with_reducible rfl)
  refine wpAnyH_ready (rs := [15]) (by kernel_rfl) (by simp) (AllReadyH.cons rfl (fun K hK => ?_) AllReadyH.nil)
  go_simp
  go_wp2_with (go_at_call 25; refine (HAB.out _).mono ?_; rintro e w25 ⟨rfl, hb25⟩)
  refine hK.out _ _ (hS10.later hb25) (fun hS15 => ?_); clear hK K
  refine wpAnyH_take (i := 16) (v := ?v16a) rfl (by kernel_rfl) (by kernel_rfl) (by kernel_rfl) (fun _ _ _ h => h) (Or.inl ⟨by kernel_rfl, ?h16a⟩) hS15 ?_
  case h16a => (rintro w2 ⟨e0, e1, e2, e3, e4, e5, _⟩; go_simp; try with_reducible rfl)
  refine wpAnyH_take (i := 17) (v := ?v17a) rfl (by kernel_rfl) (by kernel_rfl) (by kernel_rfl) (fun _ _ _ h => h) (Or.inl ⟨by kernel_rfl, ?h17a⟩) hS15 ?_
  case h17a => (rintro w2 ⟨e0, e1, e2, e3, e4, e5, _⟩; go_simp; try with_reducible rfl)
  refine wpAnyH_take (i := 18) (v := ?v18a) rfl (by kernel_rfl) (by kernel_rfl) (by kernel_rfl) (fun _ _ _ h => h) (Or.inl ⟨by kernel_rfl, ?h18a⟩) hS15 ?_
  case h18a => (rintro w2 ⟨e0, e1, e2, e3, e4, e5, _⟩; go_simp; try with_reducible rfl)
  refine wpAnyH_ready (rs := [19]) (by kernel_rfl) (by simp) (AllReadyH.cons rfl (fun K hK => ?_) AllReadyH.nil)
  go_simp
  go_wp2_with (go_at_call 25; refine (HBA.out _).mono ?_; rintro e w29 ⟨rfl, hb29⟩)
  refine hK.out _ _ (hS15.later hb29) (fun hS19 => ?_); clear hK K
  refine wpAnyH_take (i := 20) (v := ?v20a) rfl (by kernel_rfl) (by kernel_rfl) (by kernel_rfl) (fun _ _ _ h => h) (Or.inl ⟨by kernel_rfl, ?h20a⟩) hS19 ?_
  case h20a => (rintro w2 ⟨e0, e1, e2, e3, e4, e5, _⟩; go_simp; try with_reducible rfl)
  refine wpAnyH_take (i := 21) (v := ?v21a) rfl (by kernel_rfl) (by kernel_rfl) (by kernel_rfl) (fun _ _ _ h => h) (Or.inl ⟨by kernel_rfl, ?h21a⟩) hS19 ?_
  case h21a => (rintro w2 ⟨e0, e1, e2, e3, e4, e5, _⟩; go_simp; try with_reducible rfl)
  refine wpAnyH_take (i := 22) (v := ?v22a) rfl (by kernel_rfl) (by kernel_rfl) (by kernel_rfl) (fun _ _ _ h => h) (Or.inl ⟨by kernel_rfl, ?h22a⟩) hS19 ?_
  case h22a => (rintro w2 ⟨e0, e1, e2, e3, e4, e5, _⟩; go_simp; try with_reducible rfl)
  refine wpAnyH_take (i := 23) (v := ?v23a) rfl (by kernel_rfl) (by kernel_rfl) (by kernel_rfl) (fun _ _ _ h => h) (Or.inl ⟨by kernel_rfl, ?h23a⟩) hS19 ?_
  case h23a => (rintro w2 ⟨e0, e1, e2, e3, e4, e5, _⟩; go_simp; try with_reducible rfl)
  refine wpAnyH_take (i := 24) (v := ?v24a) rfl (by kernel_rfl) (by kernel_rfl) (by kernel_rfl) (fun _ _ _ h => h) (Or.inl ⟨by kernel_rfl, ?h24a⟩) hS19 ?_
  case h24a => (rintro w2 ⟨e0, e1, e2, e3, e4, e5, _⟩; go_simp; try with_reducible rfl)
  refine wpAnyH_take (i := 25) (v := .bool true) rfl (by kernel_rfl) (by kernel_rfl) (by kernel_rfl) (fun _ _ _ h => h) (Or.inl ⟨by kernel_rfl, ?h25a⟩) hS19 ?_
  case h25a => (rintro w2 ⟨e0, e1, e2, e3, e4, e5, _⟩; go_simp; exact fun q1 q2 => HNE.out ⟨q1, q2⟩)
  refine wpAnyH_take (i := 26) (v := ?v26a) rfl (by kernel_rfl) (by kernel_rfl) (by kernel_rfl) (fun _ _ _ h => h) (Or.inl ⟨by kernel_rfl, ?h26a⟩) hS19 ?_
  case h26a => (rintro w2 ⟨e0, e1, e2, e3, e4, e5, _⟩; go_simp; try with_reducible rfl)
  refine wpAnyH_take (i := 27) (v := ?v27a) rfl (by kernel_rfl) (by kernel_rfl) (by kernel_rfl) (fun _ _ _ h => h) (Or.inl ⟨by kernel_rfl, ?h27a⟩) hS19 ?_
  case h27a => (rintro w2 ⟨e0, e1, e2, e3, e4, e5, _⟩; go_simp; try with_reducible rfl)
  refine wpAnyH_take (i := 28) (v := ?v28a) rfl (by kernel_rfl) (by kernel_rfl) (by kernel_rfl) (fun _ _ _ h => h) (Or.inl ⟨by kernel_rfl, ?h28a⟩) hS19 ?_
  case h28a => (rintro w2 ⟨e0, e1, e2, e3, e4, e5, _⟩; go_simp; try with_reducible rfl)
  refine wpAnyH_ready (rs := [29]) (by kernel_rfl) (by simp) (AllReadyH.cons rfl (fun K hK => ?_) AllReadyH.nil)
  go_simp
  go_wp2_with (go_at_call 25; refine (HAB.out _).mono ?_; rintro e w39 ⟨rfl, hb39⟩)
  refine hK.out _ _ (hS19.later hb39) (fun hS29 => ?_); clear hK K
  refine wpAnyH_take (i := 30) (v := ?v30a) rfl (by kernel_rfl) (by kernel_rfl) (by kernel_rfl) (fun _ _ _ h => h) (Or.inl ⟨by kernel_rfl, ?h30a⟩) hS29 ?_
  case h30a => (rintro w2 ⟨e0, e1, e2, e3, e4, e5, _⟩; go_simp; try with_reducible rfl)
  refine wpAnyH_take (i := 31) (v := ?v31a) rfl (by kernel_rfl) (by kernel_rfl) (by kernel_rfl) (fun _ _ _ h => h) (Or.inl ⟨by kernel_rfl, ?h31a⟩) hS29 ?_
  case h31a => (rintro w2 ⟨e0, e1, e2, e3, e4, e5, _⟩; go_simp; try with_reducible rfl)
  refine wpAnyH_take (i := 32) (v := ?v32a) rfl (by kernel_rfl) (by kernel_rfl) (by kernel_rfl) (fun _ _ _ h => h) (Or.inl ⟨by kernel_rfl, ?h32a⟩) hS29 ?_
  case h32a => (rintro w2 ⟨e0, e1, e2, e3, e4, e5, _⟩; go_simp; try with_reducible rfl)
  refine wpAnyH_take (i := 33) (v := undef) rfl (by kernel_rfl) (by kernel_rfl) (by kernel_rfl) (fun _ _ _ h => h) (Or.inr ⟨by kernel_rfl, rfl⟩) hS29 ?_
  refine wpAnyH_take (i := 34) (v := undef) rfl (by kernel_rfl) (by kernel_rfl) (by kernel_rfl) (fun _ _ _ h => h) (Or.inr ⟨by kernel_rfl, rfl⟩) hS29 ?_
  refine wpAnyH_take (i := 35) (v := undef) rfl (by kernel_rfl) (by kernel_rfl) (by kernel_rfl) (fun _ _ _ h => h) (Or.inr ⟨by kernel_rfl, rfl⟩) hS29 ?_
  refine wpAnyH_take (i := 36) (v := undef) rfl (by kernel_rfl) (by kernel_rfl) (by kernel_rfl) (fun _ _ _ h => h) (Or.inr ⟨by kernel_rfl, rfl⟩) hS29 ?_
  refine wpAnyH_take (i := 37) (v := ?v37a) rfl (by kernel_rfl) (by kernel_rfl) (by kernel_rfl) (fun _ _ _ h => h) (Or.inl ⟨by kernel_rfl, ?h37a⟩) hS29 ?_
  case h37a => (rintro w2 ⟨e0, e1, e2, e3, e4, e5, _⟩; go_simp; try with_reducible rfl)
  refine wpAnyH_take (i := 38) (v := ?v38a) rfl (by kernel_rfl) (by kernel_rfl) (by kernel_rfl) (fun _ _ _ h => h) (Or.inl ⟨by kernel_rfl, ?h38a⟩) hS29 ?_
  case h38a => (rintro w2 ⟨e0, e1, e2, e3, e4, e5, _⟩; go_simp; try with_reducible rfl)
  refine wpAnyH_done (by kernel_rfl) ?_ _
  go_simp
  have h2 := Lib.hid hS29
  obtain ⟨e0, e1, e2, e3, e4, e5, _⟩ := h2.out
  go_wp2_with fail
  refine (HAB.out _).mono ?_
  rintro e v0 ⟨rfl, hb0⟩
  have k0 := Lib.hid (h2.out.later hb0)
  clear hb0 e0 e1 e2 e3 e4 e5
  obtain ⟨e0, e1, e2, e3, e4, e5, _⟩ := k0.out
  go_wp2_with fail
  refine (HBC.out _).mono ?_
  rintro e v1 ⟨rfl, hb1⟩
  have k1 := Lib.hid (k0.out.later hb1)
  clear hb1 e0 e1 e2 e3 e4 e5
  obtain ⟨e0, e1, e2, e3, e4, e5, _⟩ := k1.out
  go_wp2_with fail
  go_ret
  exact ⟨rfl, k1.out.2.2.2.2.2.2.1⟩

set_option maxHeartbeats 6400000 in
set_option maxRecDepth 100000 in
theorem order_fn (a b c : Int × Int) (w : World) (hab : befB a b = false) (hne : a ≠ b) :
    Calls Try.prog 6 #[idV a.1 a.2, idV b.1 b.2, idV c.1 c.2] w fun e w' => e = .returned (.bool true) ∧ Below w.heap.size w w' := by
  have hba : befB b a = true := bef_total hne hab
  have HNE := Lib.hid (show ¬ (a.1 = b.1 ∧ a.2 = b.2) from fun h => hne (Prod.ext h.1 h.2))
  have HAB : Hid (∀ w, Calls Try.prog 25 #[.agg #[.int .i64 a.1, .int .i64 a.2], .agg #[.int .i64 b.1, .int .i64 b.2]] w fun e w' => e = .returned (.bool false) ∧ Below w.heap.size w w') := Lib.hid (fun w => by have := before_any a b w; rw [hab] at this; exact this)
  have HRAB : Hid (∀ w, Calls Try.prog 26 #[.agg #[.int .i64 a.1, .int .i64 a.2], .agg #[.int .i64 b.1, .int .i64 b.2]] w fun e w' => e = .returned (.bool false) ∧ Below w.heap.size w w') := Lib.hid (fun w => by have := rbefore_any a b w; rw [hab] at this; exact this)
  have HAA : Hid (∀ w, Calls Try.prog 25 #[.agg #[.int .i64 a.1, .int .i64 a.2], .agg #[.int .i64 a.1, .int .i64 a.2]] w fun e w' => e = .returned (.bool false) ∧ Below w.heap.size w w') := Lib.hid (fun w => by have := before_any a a w; rw [bef_aa] at this; exact this)
  have HBA : Hid (∀ w, Calls Try.prog 25 #[.agg #[.int .i64 b.1, .int .i64 b.2], .agg #[.int .i64 a.1, .int .i64 a.2]] w fun e w' => e = .returned (.bool true) ∧ Below w.heap.size w w') := Lib.hid (fun w => by have := before_any b a w; rw [hba] at this; exact this)
  clear hab hba hne
  have h0 := Lib.hid (K3.first w a b c)
  obtain ⟨a1, a2⟩ := a
  obtain ⟨b1, b2⟩ := b
  obtain ⟨c1, c2⟩ := c
  unfold idV
  go_enter Try.func6, Try.ntmps6
  go_wp2_with fail
  refine (awake_any _).mono ?_
  rintro e w1 ⟨rfl, hb1⟩
  have h1 := Lib.hid (h0.out.later hb1)
  clear hb1
  go_wp2_with fail
  refine wp_region_held_drew (S := K3 w (a1, a2) (b1, b2) (c1, c2)) (by kernel_rfl) h1.out.drew (fun hS => ?_)
  refine wpAnyH_take (i := 0) (v := ?v0a) rfl (by kernel_rfl) (by kernel_rfl) (by kernel_rfl) (fun _ _ _ h => h) (Or.inl ⟨by kernel_rfl, ?h0a⟩) hS ?_
  case h0a => (rintro w2 ⟨e0, e1, e2, e3, e4, e5, _⟩; go_simp; try with_reducible rfl)
  refine wpAnyH_take (i := 1) (v := ?v1a) rfl (by kernel_rfl) (by kernel_rfl) (by kernel_rfl) (fun _ _ _ h => h) (Or.inl ⟨by kernel_rfl, ?h1a⟩) hS ?_
  case h1a => (rintro w2 ⟨e0, e1, e2, e3, e4, e5, _⟩; go_simp; try with_reducible rfl)
  refine wpAnyH_take (i := 3) (v := ?v3a) rfl (by kernel_rfl) (by kernel_rfl) (by kernel_rfl) (fun _ _ _ h => h) (Or.inl ⟨by kernel_rfl, ?h3a⟩) hS ?_
  case h3a => (rintro w2 ⟨e0, e1, e2, e3, e4, e5, _⟩; go_simp; try with_reducible rfl)
  refine wpAnyH_take (i := 4) (v := ?v4a) rfl (by kernel_rfl) (by kernel_rfl) (by kernel_rfl) (fun _ _ _ h => h) (Or.inl ⟨by kernel_rfl, ?h4a⟩) hS ?_
  case h4a => (rintro w2 ⟨e0, e1, e2, e3, e4, e5, _⟩; go_simp; try with_reducible rfl)
  refine wpAnyH_ready (rs := [2]) (by kernel_rfl) (by simp) (AllReadyH.cons rfl (fun K hK => ?_) AllReadyH.nil)
  go_simp
  go_wp2_with (go_at_call 25; refine (HAB.out _).mono ?_; rintro e w12 ⟨rfl, hb12⟩)
  refine hK.out _ _ (hS.later hb12) (fun hS2 => ?_); clear hK K
  refine wpAnyH_ready (rs := [5]) (by kernel_rfl) (by simp) (AllReadyH.cons rfl (fun K hK => ?_) AllReadyH.nil)
  go_simp
  go_wp2_with (go_at_call 26; refine (HRAB.out _).mono ?_; rintro e w15 ⟨rfl, hb15⟩)
  refine hK.out _ _ (hS2.later hb15) (fun hS5 => ?_); clear hK K
  refine wpAnyH_take (i := 6) (v := ?v6a) rfl (by kernel_rfl) (by kernel_rfl) (by kernel_rfl) (fun _ _ _ h => h) (Or.inl ⟨by kernel_rfl, ?h6a⟩) hS5 ?_
  case h6a => (rintro w2 ⟨e0, e1, e2, e3, e4, e5, _⟩; go_simp; try with_reducible rfl)
  refine wpAnyH_take (i := 7) (v := ?v7a) rfl (by kernel_rfl) (by kernel_rfl) (by kernel_rfl) (fun _ _ _ h => h) (Or.inl ⟨by kernel_rfl, ?h7a⟩) hS5 ?_
  case h7a => (rintro w2 ⟨e0, e1, e2, e3, e4, e5, _⟩; go_simp; try with_reducible rfl)
  refine wpAnyH_take (i := 8) (v := ?v8a) rfl (by kernel_rfl) (by kernel_rfl) (by kernel_rfl) (fun _ _ _ h => h) (Or.inl ⟨by kernel_rfl, ?h8a⟩) hS5 ?_
  case h8a => (rintro w2 ⟨e0, e1, e2, e3, e4, e5, _⟩; go_simp; try with_reducible rfl)
  refine wpAnyH_take (i := 9) (v := ?v9a) rfl (by kernel_rfl) (by kernel_rfl) (by kernel_rfl) (fun _ _ _ h => h) (Or.inl ⟨by kernel_rfl, ?h9a⟩) hS5 ?_
  case h9a => (rintro w2 ⟨e0, e1, e2, e3, e4, e5, _⟩; go_simp; try with_reducible rfl)
  refine wpAnyH_ready (rs := [10]) (by kernel_rfl) (by simp) (AllReadyH.cons rfl (fun K hK => ?_) AllReadyH.nil)
  go_simp
  go_wp2_with (go_at_call 25; refine (HAA.out _).mono ?_; rintro e w20 ⟨rfl, hb20⟩)
  refine hK.out _ _ (hS5.later hb20) (fun hS10 => ?_); clear hK K
  refine wpAnyH_take (i := 11) (v := ?v11a) rfl (by kernel_rfl) (by kernel_rfl) (by kernel_rfl) (fun _ _ _ h => h) (Or.inl ⟨by kernel_rfl, ?h11a⟩) hS10 ?_
  case h11a => (rintro w2 ⟨e0, e1, e2, e3, e4, e5, _⟩; go_simp; try with_reducible rfl)
  refine wpAnyH_take (i := 12) (v := ?v12a) rfl (by kernel_rfl) (by kernel_rfl) (by kernel_rfl) (fun _ _ _ h => h) (Or.inl ⟨by kernel_rfl, ?h12a⟩) hS10 ?_
  case h12a => (rintro w2 ⟨e0, e1, e2, e3, e4, e5, _⟩; go_simp; try with_reducible rfl)
  refine wpAnyH_take (i := 13) (v := ?v13a) rfl (by kernel_rfl) (by kernel_rfl) (by kernel_rfl) (fun _ _ _ h => h) (Or.inl ⟨by kernel_rfl, ?h13a⟩) hS10 ?_
  case h13a => (rintro w2 ⟨e0, e1, e2, e3, e4, e5, _⟩; go_simp; try with_reducible rfl)
  refine wpAnyH_take (i := 14) (v := ?v14a) rfl (by kernel_rfl) (by kernel_rfl) (by kernel_rfl) (fun _ _ _ h => h) (Or.inl ⟨by kernel_rfl, ?h14a⟩) hS10 ?_
  case h14a => (rintro w2 ⟨e0, e1, e2, e3, e4, e5, _⟩; go_simp; try with_reducible rfl)
  refine wpAnyH_ready (rs := [15]) (by kernel_rfl) (by simp) (AllReadyH.cons rfl (fun K hK => ?_) AllReadyH.nil)
  go_simp
  go_wp2_with (go_at_call 25; refine (HAB.out _).mono ?_; rintro e w25 ⟨rfl, hb25⟩)
  refine hK.out _ _ (hS10.later hb25) (fun hS15 => ?_); clear hK K
  refine wpAnyH_take (i := 16) (v := ?v16a) rfl (by kernel_rfl) (by kernel_rfl) (by kernel_rfl) (fun _ _ _ h => h) (Or.inl ⟨by kernel_rfl, ?h16a⟩) hS15 ?_
  case h16a => (rintro w2 ⟨e0, e1, e2, e3, e4, e5, _⟩; go_simp; try with_reducible rfl)
  refine wpAnyH_take (i := 17) (v := undef) rfl (by kernel_rfl) (by kernel_rfl) (by kernel_rfl) (fun _ _ _ h => h) (Or.inr ⟨by kernel_rfl, rfl⟩) hS15 ?_
  refine wpAnyH_take (i := 18) (v := undef) rfl (by kernel_rfl) (by kernel_rfl) (by kernel_rfl) (fun _ _ _ h => h) (Or.inr ⟨by kernel_rfl, rfl⟩) hS15 ?_
  refine wpAnyH_take (i := 19) (v := undef) rfl (by kernel_rfl) (by kernel_rfl) (by kernel_rfl) (fun _ _ _ h => h) (Or.inr ⟨by kernel_rfl, rfl⟩) hS15 ?_
  refine wpAnyH_take (i := 20) (v := ?v20a) rfl (by kernel_rfl) (by kernel_rfl) (by kernel_rfl) (fun _ _ _ h => h) (Or.inl ⟨by kernel_rfl, ?h20a⟩) hS15 ?_
  case h20a => (rintro w2 ⟨e0, e1, e2, e3, e4, e5, _⟩; go_simp; try with_reducible rfl)
  refine wpAnyH_take (i := 21) (v := ?v21a) rfl (by kernel_rfl) (by kernel_rfl) (by kernel_rfl) (fun _ _ _ h => h) (Or.inl ⟨by kernel_rfl, ?h21a⟩) hS15 ?_
  case h21a => (rintro w2 ⟨e0, e1, e2, e3, e4, e5, _⟩; go_simp; try with_reducible rfl)
  refine wpAnyH_take (i := 22) (v := ?v22a) rfl (by kernel_rfl) (by kernel_rfl) (by kernel_rfl) (fun _ _ _ h => h) (Or.inl ⟨by kernel_rfl, ?h22a⟩) hS15 ?_
  case h22a => (rintro w2 ⟨e0, e1, e2, e3, e4, e5, _⟩; go_simp; try with_reducible rfl)
  refine wpAnyH_take (i := 23) (v := ?v23a) rfl (by kernel_rfl) (by kernel_rfl) (by kernel_rfl) (fun _ _ _ h => h) (Or.inl ⟨by kernel_rfl, ?h23a⟩) hS15 ?_
  case h23a => (rintro w2 ⟨e0, e1, e2, e3, e4, e5, _⟩; go_simp; try with_reducible rfl)
  refine wpAnyH_take (i := 24) (v := ?v24a) rfl (by kernel_rfl) (by kernel_rfl) (by kernel_rfl) (fun _ _ _ h => h) (Or.inl ⟨by kernel_rfl, ?h24a⟩) hS15 ?_
  case h24a => (rintro w2 ⟨e0, e1, e2, e3, e4, e5, _⟩; go_simp; try with_reducible rfl)
  refine wpAnyH_take (i := 25) (v := .bool true) rfl (by kernel_rfl) (by kernel_rfl) (by kernel_rfl) (fun _ _ _ h => h) (Or.inl ⟨by kernel_rfl, ?h25a⟩) hS15 ?_
  case h25a => (rintro w2 ⟨e0, e1, e2, e3, e4, e5, _⟩; go_simp; exact fun q1 q2 => HNE.out ⟨q1, q2⟩)
  refine wpAnyH_take (i := 26) (v := ?v26a) rfl (by kernel_rfl) (by kernel_rfl) (by kernel_rfl) (fun _ _ _ h => h) (Or.inl ⟨by kernel_rfl, ?h26a⟩) hS15 ?_
  case h26a => (rintro w2 ⟨e0, e1, e2, e3, e4, e5, _⟩; go_simp; try with_reducible rfl)
  refine wpAnyH_take (i := 27) (v := ?v27a) rfl (by kernel_rfl) (by kernel_rfl) (by kernel_rfl) (fun _ _ _ h => h) (Or.inl ⟨by kernel_rfl, ?h27a⟩) hS15 ?_
  case h27a => (rintro w2 ⟨e0, e1, e2, e3, e4, e5, _⟩; go_simp; try with_reducible rfl)
  refine wpAnyH_take (i := 28) (v := ?v28a) rfl (by kernel_rfl) (by kernel_rfl) (by kernel_rfl) (fun _ _ _ h => h) (Or.inl ⟨by kernel_rfl, ?h28a⟩) hS15 ?_
  case h28a => (rintro w2 ⟨e0, e1, e2, e3, e4, e5, _⟩; go_simp; try with_reducible rfl)
  refine wpAnyH_ready (rs := [29]) (by kernel_rfl) (by simp) (AllReadyH.cons rfl (fun K hK => ?_) AllReadyH.nil)
  go_simp
  go_wp2_with (go_at_call 25; refine (HAB.out _).mono ?_; rintro e w39 ⟨rfl, hb39⟩)
  refine hK.out _ _ (hS15.later hb39) (fun hS29 => ?_); clear hK K
  refine wpAnyH_take (i := 30) (v := ?v30a) rfl (by kernel_rfl) (by kernel_rfl) (by kernel_rfl) (fun _ _ _ h => h) (Or.inl ⟨by kernel_rfl, ?h30a⟩) hS29 ?_
  case h30a => (rintro w2 ⟨e0, e1, e2, e3, e4, e5, _⟩; go_simp; try with_reducible rfl)
  refine wpAnyH_take (i := 31) (v := ?v31a) rfl (by kernel_rfl) (by kernel_rfl) (by kernel_rfl) (fun _ _ _ h => h) (Or.inl ⟨by kernel_rfl, ?h31a⟩) hS29 ?_
  case h31a => (rintro w2 ⟨e0, e1, e2, e3, e4, e5, _⟩; go_simp; try with_reducible rfl)
  refine wpAnyH_take (i := 32) (v := ?v32a) rfl (by kernel_rfl) (by kernel_rfl) (by kernel_rfl) (fun _ _ _ h => h) (Or.inl ⟨by kernel_rfl, ?h32a⟩) hS29 ?_
  case h32a => (rintro w2 ⟨e0, e1, e2, e3, e4, e5, _⟩; go_simp; try with_reducible rfl)
  refine wpAnyH_take (i := 33) (v := ?v33a) rfl (by kernel_rfl) (by kernel_rfl) (by kernel_rfl) (fun _ _ _ h => h) (Or.inl ⟨by kernel_rfl, ?h33a⟩) hS29 ?_
  case h33a => (rintro w2 ⟨e0, e1, e2, e3, e4, e5, _⟩; go_simp; try with_reducible rfl)
  refine wpAnyH_take (i := 34) (v := ?v34a) rfl (by kernel_rfl) (by kernel_rfl) (by kernel_rfl) (fun _ _ _ h => h) (Or.inl ⟨by kernel_rfl, ?h34a⟩) hS29 ?_
  case h34a => (rintro w2 ⟨e0, e1, e2, e3, e4, e5, _⟩; go_simp; try with_reducible rfl)
  refine wpAnyH_ready (rs := [35]) (by kernel_rfl) (by simp) (AllReadyH.cons rfl (fun K hK => ?_) AllReadyH.nil)
  go_simp
  go_wp2_with (go_at_call 25; refine (HBA.out _).mono ?_; rintro e w45 ⟨rfl, hb45⟩)
  refine hK.out _ _ (hS29.later hb45) (fun hS35 => ?_); clear hK K
  refine wpAnyH_take (i := 36) (v := ?v36a) rfl (by kernel_rfl) (by kernel_rfl) (by kernel_rfl) (fun _ _ _ h => h) (Or.inl ⟨by kernel_rfl, ?h36a⟩) hS35 ?_
  case h36a => (rintro w2 ⟨e0, e1, e2, e3, e4, e5, _⟩; go_simp; try with_reducible rfl)
  refine wpAnyH_take (i := 37) (v := ?v37a) rfl (by kernel_rfl) (by kernel_rfl) (by kernel_rfl) (fun _ _ _ h => h) (Or.inl ⟨by kernel_rfl, ?h37a⟩) hS35 ?_
  case h37a => (rintro w2 ⟨e0, e1, e2, e3, e4, e5, _⟩; go_simp; try with_reducible rfl)
  refine wpAnyH_take (i := 38) (v := ?v38a) rfl (by kernel_rfl) (by kernel_rfl) (by kernel_rfl) (fun _ _ _ h => h) (Or.inl ⟨by kernel_rfl, ?h38a⟩) hS35 ?_
  case h38a => (rintro w2 ⟨e0, e1, e2, e3, e4, e5, _⟩; go_simp; try with_reducible rfl)
  refine wpAnyH_done (by kernel_rfl) ?_ _
  go_simp
  have h2 := Lib.hid hS35
  obtain ⟨e0, e1, e2, e3, e4, e5, _⟩ := h2.out
  go_wp2_with fail
  refine (HAB.out _).mono ?_
  rintro e v0 ⟨rfl, hb0⟩
  have k0 := Lib.hid (h2.out.later hb0)
  clear hb0 e0 e1 e2 e3 e4 e5
  obtain ⟨e0, e1, e2, e3, e4, e5, _⟩ := k0.out
  go_wp2_with fail
  go_ret
  exact ⟨rfl, k0.out.2.2.2.2.2.2.1⟩

set_option maxHeartbeats 6400000 in
set_option maxRecDepth 100000 in
theorem order_fe (a b c : Int × Int) (w : World) (hab : befB a b = false) (he : a = b) :
    Calls Try.prog 6 #[idV a.1 a.2, idV b.1 b.2, idV c.1 c.2] w fun e w' => e = .returned (.bool true) ∧ Below w.heap.size w w' := by
  have hba : befB b a = false := by subst he; exact bef_aa a
  have HAB : Hid (∀ w, Calls Try.prog 25 #[.agg #[.int .i64 a.1, .int .i64 a.2], .agg #[.int .i64 b.1, .int .i64 b.2]] w fun e w' => e = .returned (.bool false) ∧ Below w.heap.size w w') := Lib.hid (fun w => by have := before_any a b w; rw [hab] at this; exact this)
  have HRAB : Hid (∀ w, Calls Try.prog 26 #[.agg #[.int .i64 a.1, .int .i64 a.2], .agg #[.int .i64 b.1, .int .i64 b.2]] w fun e w' => e = .returned (.bool false) ∧ Below w.heap.size w w') := Lib.hid (fun w => by have := rbefore_any a b w; rw [hab] at this; exact this)
  have HAA : Hid (∀ w, Calls Try.prog 25 #[.agg #[.int .i64 a.1, .int .i64 a.2], .agg #[.int .i64 a.1, .int .i64 a.2]] w fun e w' => e = .returned (.bool false) ∧ Below w.heap.size w w') := Lib.hid (fun w => by have := before_any a a w; rw [bef_aa] at this; exact this)
  have HBA : Hid (∀ w, Calls Try.prog 25 #[.agg #[.int .i64 b.1, .int .i64 b.2], .agg #[.int .i64 a.1, .int .i64 a.2]] w fun e w' => e = .returned (.bool false) ∧ Below w.heap.size w w') := Lib.hid (fun w => by have := before_any b a w; rw [hba] at this; exact this)
  clear hab hba
  have h0 := Lib.hid (K3.first w a b c)
  subst he
  obtain ⟨a1, a2⟩ := a
  obtain ⟨c1, c2⟩ := c
  unfold idV
  go_enter Try.func6, Try.ntmps6
  go_wp2_with fail
  refine (awake_any _).mono ?_
  rintro e w1 ⟨rfl, hb1⟩
  have h1 := Lib.hid (h0.out.later hb1)
  clear hb1
  go_wp2_with fail
  refine wp_region_held_drew (S := K3 w (a1, a2) (a1, a2) (c1, c2)) (by kernel_rfl) h1.out.drew (fun hS => ?_)
  refine wpAnyH_take (i := 0) (v := ?v0a) rfl (by kernel_rfl) (by kernel_rfl) (by kernel_rfl) (fun _ _ _ h => h) (Or.inl ⟨by kernel_rfl, ?h0a⟩) hS ?_
  case h0a => (rintro w2 ⟨e0, e1, e2, e3, e4, e5, _⟩; go_simp; try with_reducible rfl)
  refine wpAnyH_take (i := 1) (v := ?v1a) rfl (by kernel_rfl) (by kernel_rfl) (by kernel_rfl) (fun _ _ _ h => h) (Or.inl ⟨by kernel_rfl, ?h1a⟩) hS ?_
  case h1a => (rintro w2 ⟨e0, e1, e2, e3, e4, e5, _⟩; go_simp; try with_reducible rfl)
  refine wpAnyH_take (i := 3) (v := ?v3a) rfl (by kernel_rfl) (by kernel_rfl) (by kernel_rfl) (fun _ _ _ h => h) (Or.inl ⟨by kernel_rfl, ?h3a⟩) hS ?_
  case h3a => (rintro w2 ⟨e0, e1, e2, e3, e4, e5, _⟩; go_simp; try with_reducible rfl)
  refine wpAnyH_take (i := 4) (v := ?v4a) rfl (by kernel_rfl) (by kernel_rfl) (by kernel_rfl) (fun _ _ _ h => h) (Or.inl ⟨by kernel_rfl, ?h4a⟩) hS ?_
  case h4a => (rintro w2 ⟨e0, e1, e2, e3, e4, e5, _⟩; go_simp; try with_reducible rfl)
  refine wpAnyH_ready (rs := [2]) (by kernel_rfl) (by simp) (AllReadyH.cons rfl (fun K hK => ?_) AllReadyH.nil)
  go_simp
  go_wp2_with (go_at_call 25; refine (HAB.out _).mono ?_; rintro e w12 ⟨rfl, hb12⟩)
  refine hK.out _ _ (hS.later hb12) (fun hS2 => ?_); clear hK K
  refine wpAnyH_ready (rs := [5]) (by kernel_rfl) (by simp) (AllReadyH.cons rfl (fun K hK => ?_) AllReadyH.nil)
  go_simp
  go_wp2_with (go_at_call 26; refine (HRAB.out _).mono ?_; rintro e w15 ⟨rfl, hb15⟩)
  refine hK.out _ _ (hS2.later hb15) (fun hS5 => ?_); clear hK K
  refine wpAnyH_take (i := 6) (v := ?v6a) rfl (by kernel_rfl) (by kernel_rfl) (by kernel_rfl) (fun _ _ _ h => h) (Or.inl ⟨by kernel_rfl, ?h6a⟩) hS5 ?_
  case h6a => (rintro w2 ⟨e0, e1, e2, e3, e4, e5, _⟩; go_simp; try with_reducible rfl)
  refine wpAnyH_take (i := 7) (v := ?v7a) rfl (by kernel_rfl) (by kernel_rfl) (by kernel_rfl) (fun _ _ _ h => h) (Or.inl ⟨by kernel_rfl, ?h7a⟩) hS5 ?_
  case h7a => (rintro w2 ⟨e0, e1, e2, e3, e4, e5, _⟩; go_simp; try with_reducible rfl)
  refine wpAnyH_take (i := 8) (v := ?v8a) rfl (by kernel_rfl) (by kernel_rfl) (by kernel_rfl) (fun _ _ _ h => h) (Or.inl ⟨by kernel_rfl, ?h8a⟩) hS5 ?_
  case h8a => (rintro w2 ⟨e0, e1, e2, e3, e4, e5, _⟩; go_simp; try with_reducible rfl)
  refine wpAnyH_take (i := 9) (v := ?v9a) rfl (by kernel_rfl) (by kernel_rfl) (by kernel_rfl) (fun _ _ _ h => h) (Or.inl ⟨by kernel_rfl, ?h9a⟩) hS5 ?_
  case h9a => (rintro w2 ⟨e0, e1, e2, e3, e4, e5, _⟩; go_simp; try with_reducible rfl)
  refine wpAnyH_ready (rs := [10]) (by kernel_rfl) (by simp) (AllReadyH.cons rfl (fun K hK => ?_) AllReadyH.nil)
  go_simp
  go_wp2_with (go_at_call 25; refine (HAA.out _).mono ?_; rintro e w20 ⟨rfl, hb20⟩)
  refine hK.out _ _ (hS5.later hb20) (fun hS10 => ?_); clear hK K
  refine wpAnyH_take (i := 11) (v := ?v11a) rfl (by kernel_rfl) (by kernel_rfl) (by kernel_rfl) (fun _ _ _ h => h) (Or.inl ⟨by kernel_rfl, ?h11a⟩) hS10 ?_
  case h11a => (rintro w2 ⟨e0, e1, e2, e3, e4, e5, _⟩; go_simp; try with_reducible rfl)
  refine wpAnyH_take (i := 12) (v := ?v12a) rfl (by kernel_rfl) (by kernel_rfl) (by kernel_rfl) (fun _ _ _ h => h) (Or.inl ⟨by kernel_rfl, ?h12a⟩) hS10 ?_
  case h12a => (rintro w2 ⟨e0, e1, e2, e3, e4, e5, _⟩; go_simp; try with_reducible rfl)
  refine wpAnyH_take (i := 13) (v := ?v13a) rfl (by kernel_rfl) (by kernel_rfl) (by kernel_rfl) (fun _ _ _ h => h) (Or.inl ⟨by kernel_rfl, ?h13a⟩) hS10 ?_
  case h13a => (rintro w2 ⟨e0, e1, e2, e3, e4, e5, _⟩; go_simp; try with_reducible rfl)
  refine wpAnyH_take (i := 14) (v := ?v14a) rfl (by kernel_rfl) (by kernel_rfl) (by kernel_rfl) (fun _ _ _ h => h) (Or.inl ⟨by kernel_rfl, ?h14a⟩) hS10 ?_
  case h14a => (rintro w2 ⟨e0, e1, e2, e3, e4, e5, _⟩; go_simp; try with_reducible rfl)
  refine wpAnyH_ready (rs := [15]) (by kernel_rfl) (by simp) (AllReadyH.cons rfl (fun K hK => ?_) AllReadyH.nil)
  go_simp
  go_wp2_with (go_at_call 25; refine (HAB.out _).mono ?_; rintro e w25 ⟨rfl, hb25⟩)
  refine hK.out _ _ (hS10.later hb25) (fun hS15 => ?_); clear hK K
  refine wpAnyH_take (i := 16) (v := ?v16a) rfl (by kernel_rfl) (by kernel_rfl) (by kernel_rfl) (fun _ _ _ h => h) (Or.inl ⟨by kernel_rfl, ?h16a⟩) hS15 ?_
  case h16a => (rintro w2 ⟨e0, e1, e2, e3, e4, e5, _⟩; go_simp; try with_reducible rfl)
  refine wpAnyH_take (i := 17) (v := undef) rfl (by kernel_rfl) (by kernel_rfl) (by kernel_rfl) (fun _ _ _ h => h) (Or.inr ⟨by kernel_rfl, rfl⟩) hS15 ?_
  refine wpAnyH_take (i := 18) (v := undef) rfl (by kernel_rfl) (by kernel_rfl) (by kernel_rfl) (fun _ _ _ h => h) (Or.inr ⟨by kernel_rfl, rfl⟩) hS15 ?_
  refine wpAnyH_take (i := 19) (v := undef) rfl (by kernel_rfl) (by kernel_rfl) (by kernel_rfl) (fun _ _ _ h => h) (Or.inr ⟨by kernel_rfl, rfl⟩) hS15 ?_
  refine wpAnyH_take (i := 20) (v := ?v20a) rfl (by kernel_rfl) (by kernel_rfl) (by kernel_rfl) (fun _ _ _ h => h) (Or.inl ⟨by kernel_rfl, ?h20a⟩) hS15 ?_
  case h20a => (rintro w2 ⟨e0, e1, e2, e3, e4, e5, _⟩; go_simp; try with_reducible rfl)
  refine wpAnyH_take (i := 21) (v := ?v21a) rfl (by kernel_rfl) (by kernel_rfl) (by kernel_rfl) (fun _ _ _ h => h) (Or.inl ⟨by kernel_rfl, ?h21a⟩) hS15 ?_
  case h21a => (rintro w2 ⟨e0, e1, e2, e3, e4, e5, _⟩; go_simp; try with_reducible rfl)
  refine wpAnyH_take (i := 22) (v := ?v22a) rfl (by kernel_rfl) (by kernel_rfl) (by kernel_rfl) (fun _ _ _ h => h) (Or.inl ⟨by kernel_rfl, ?h22a⟩) hS15 ?_
  case h22a => (rintro w2 ⟨e0, e1, e2, e3, e4, e5, _⟩; go_simp; try with_reducible rfl)
  refine wpAnyH_take (i := 23) (v := ?v23a) rfl (by kernel_rfl) (by kernel_rfl) (by kernel_rfl) (fun _ _ _ h => h) (Or.inl ⟨by kernel_rfl, ?h23a⟩) hS15 ?_
  case h23a => (rintro w2 ⟨e0, e1, e2, e3, e4, e5, _⟩; go_simp; try with_reducible rfl)
  refine wpAnyH_take (i := 24) (v := ?v24a) rfl (by kernel_rfl) (by kernel_rfl) (by kernel_rfl) (fun _ _ _ h => h) (Or.inl ⟨by kernel_rfl, ?h24a⟩) hS15 ?_
  case h24a => (rintro w2 ⟨e0, e1, e2, e3, e4, e5, _⟩; go_simp; try with_reducible rfl)
  refine wpAnyH_take (i := 25) (v := ?v25a) rfl (by kernel_rfl) (by kernel_rfl) (by kernel_rfl) (fun _ _ _ h => h) (Or.inl ⟨by kernel_rfl, ?h25a⟩) hS15 ?_
  case h25a => (rintro w2 ⟨e0, e1, e2, e3, e4, e5, _⟩; go_simp; try with_reducible rfl)
  refine wpAnyH_take (i := 26) (v := ?v26a) rfl (by kernel_rfl) (by kernel_rfl) (by kernel_rfl) (fun _ _ _ h => h) (Or.inl ⟨by kernel_rfl, ?h26a⟩) hS15 ?_
  case h26a => (rintro w2 ⟨e0, e1, e2, e3, e4, e5, _⟩; go_simp; try with_reducible rfl)
  refine wpAnyH_take (i := 27) (v := undef) rfl (by kernel_rfl) (by kernel_rfl) (by kernel_rfl) (fun _ _ _ h => h) (Or.inr ⟨by kernel_rfl, rfl⟩) hS15 ?_
  refine wpAnyH_take (i := 28) (v := undef) rfl (by kernel_rfl) (by kernel_rfl) (by kernel_rfl) (fun _ _ _ h => h) (Or.inr ⟨by kernel_rfl, rfl⟩) hS15 ?_
  refine wpAnyH_take (i := 29) (v := undef) rfl (by kernel_rfl) (by kernel_rfl) (by kernel_rfl) (fun _ _ _ h => h) (Or.inr ⟨by kernel_rfl, rfl⟩) hS15 ?_
  refine wpAnyH_take (i := 30) (v := undef) rfl (by kernel_rfl) (by kernel_rfl) (by kernel_rfl) (fun _ _ _ h => h) (Or.inr ⟨by kernel_rfl, rfl⟩) hS15 ?_
  refine wpAnyH_take (i := 31) (v := ?v31a) rfl (by kernel_rfl) (by kernel_rfl) (by kernel_rfl) (fun _ _ _ h => h) (Or.inl ⟨by kernel_rfl, ?h31a⟩) hS15 ?_
  case h31a => (rintro w2 ⟨e0, e1, e2, e3, e4, e5, _⟩; go_simp; try with_reducible rfl)
  refine wpAnyH_take (i := 32) (v := ?v32a) rfl (by kernel_rfl) (by kernel_rfl) (by kernel_rfl) (fun _ _ _ h => h) (Or.inl ⟨by kernel_rfl, ?h32a⟩) hS15 ?_
  case h32a => (rintro w2 ⟨e0, e1, e2, e3, e4, e5, _⟩; go_simp; try with_reducible rfl)
  refine wpAnyH_take (i := 33) (v := undef) rfl (by kernel_rfl) (by kernel_rfl) (by kernel_rfl) (fun _ _ _ h => h) (Or.inr ⟨by kernel_rfl, rfl⟩) hS15 ?_
  refine wpAnyH_take (i := 34) (v := undef) rfl (by kernel_rfl) (by kernel_rfl) (by kernel_rfl) (fun _ _ _ h => h) (Or.inr ⟨by kernel_rfl, rfl⟩) hS15 ?_
  refine wpAnyH_take (i := 35) (v := undef) rfl (by kernel_rfl) (by kernel_rfl) (by kernel_rfl) (fun _ _ _ h => h) (Or.inr ⟨by kernel_rfl, rfl⟩) hS15 ?_
  refine wpAnyH_take (i := 36) (v := undef) rfl (by kernel_rfl) (by kernel_rfl) (by kernel_rfl) (fun _ _ _ h => h) (Or.inr ⟨by kernel_rfl, rfl⟩) hS15 ?_
  refine wpAnyH_take (i := 37) (v := ?v37a) rfl (by kernel_rfl) (by kernel_rfl) (by kernel_rfl) (fun _ _ _ h => h) (Or.inl ⟨by kernel_rfl, ?h37a⟩) hS15 ?_
  case h37a => (rintro w2 ⟨e0, e1, e2, e3, e4, e5, _⟩; go_simp; try with_reducible rfl)
  refine wpAnyH_take (i := 38) (v := ?v38a) rfl (by kernel_rfl) (by kernel_rfl) (by kernel_rfl) (fun _ _ _ h => h) (Or.inl ⟨by kernel_rfl, ?h38a⟩) hS15 ?_
  case h38a => (rintro w2 ⟨e0, e1, e2, e3, e4, e5, _⟩; go_simp; try with_reducible rfl)
  refine wpAnyH_done (by kernel_rfl) ?_ _
  go_simp
  have h2 := Lib.hid hS15
  obtain ⟨e0, e1, e2, e3, e4, e5, _⟩ := h2.out
  go_wp2_with fail
  refine (HAB.out _).mono ?_
  rintro e v0 ⟨rfl, hb0⟩
  have k0 := Lib.hid (h2.out.later hb0)
  clear hb0 e0 e1 e2 e3 e4 e5
  obtain ⟨e0, e1, e2, e3, e4, e5, _⟩ := k0.out
  go_wp2_with fail
  go_ret
  exact ⟨rfl, k0.out.2.2.2.2.2.2.1⟩

/-- DotOrder, of any three ids -/
theorem order_any (a b c : Int × Int) (w : World) : Calls Try.prog 6 #[idV a.1 a.2, idV b.1 b.2, idV c.1 c.2] w fun e w' => e = .returned (.bool true) ∧ Below w.heap.size w w' := by
  cases hab : befB a b with
  | true =>
    cases hbc : befB b c with
    | true => exact order_tt a b c w hab hbc
    | false => exact order_tf a b c w hab hbc
  | false =>
    by_cases he : a = b
    · exact order_fe a b c w hab he
    · exact order_fn a b c w hab he
end Go.Proofs.Ytggcnglnclpaeaa
