/- Walks over the document's Of and Right. -/
import Derived.Test.YtkdjdoncmihkfaaDoorNo
namespace Go.Proofs.YtkdjdoncmihkfaaDoor
open Go.RowKit

/-- what lies there -/
def got (w : World) (a : Addr) : Value := (w.cell? a).getD undef
theorem got_of {w : World} {a : Addr} (h : (w.cell? a).isSome = true) : w.cell? a = some (got w a) := by
  unfold got
  cases hc : w.cell? a with
  | none => rw [hc] at h; simp at h
  | some v => rfl
theorem is_got {w : World} {a : Addr} {v : Value} (h : w.cell? a = some v) : (w.cell? a).isSome = true := by rw [h]; rfl
theorem some_set {w : World} {a : Addr} (h : (w.cell? a).isSome = true) (b : Addr) (v : Value) : ((w.setCell b v).cell? a).isSome = true := by
  by_cases e : b = a
  · subst e; rw [World.cell?_setCell_same' _ _ _ h]; rfl
  · rw [World.cell?_setCell_other _ _ _ _ e]; exact h
/-- what Of's walk holds -/
def Kf (w : World) (a b : Int) (w' : World) : Prop :=
  w'.cell? ⟨w.heap.size, 0, none⟩ = some (.int .i64 a) ∧ w'.cell? ⟨w.heap.size, 1, none⟩ = some (.int .i64 b) ∧
  w'.cell? ⟨w.heap.size + 1, 0, none⟩ = some (got w' ⟨w.heap.size + 1, 0, none⟩) ∧ w'.cell? ⟨w.heap.size + 1, 1, none⟩ = some (got w' ⟨w.heap.size + 1, 1, none⟩) ∧ w'.cell? ⟨w.heap.size + 1, 2, none⟩ = some (got w' ⟨w.heap.size + 1, 2, none⟩) ∧
  w'.frozen? ⟨w.heap.size + 1, 0, none⟩ = false ∧ w'.frozen? ⟨w.heap.size + 1, 1, none⟩ = false ∧ w'.frozen? ⟨w.heap.size + 1, 2, none⟩ = false ∧ w.heap.size + 2 ≤ w'.heap.size ∧ Below w.heap.size w w'
theorem Kf.later {w : World} {a b : Int} {w1 w2 : World} (h : Kf w a b w1) (hb : Below w1.heap.size w1 w2) : Kf w a b w2 := by
  obtain ⟨h1, h2, h3, h4, h5, h6, h7, h8, h9, h10⟩ := h
  exact ⟨(hb.cell (p := ⟨w.heap.size, 0, none⟩) (show w.heap.size < w1.heap.size by omega)).trans h1, (hb.cell (p := ⟨w.heap.size, 1, none⟩) (show w.heap.size < w1.heap.size by omega)).trans h2,
    got_of (is_got ((hb.cell (p := ⟨w.heap.size + 1, 0, none⟩) (show w.heap.size + 1 < w1.heap.size by omega)).trans h3)), got_of (is_got ((hb.cell (p := ⟨w.heap.size + 1, 1, none⟩) (show w.heap.size + 1 < w1.heap.size by omega)).trans h4)), got_of (is_got ((hb.cell (p := ⟨w.heap.size + 1, 2, none⟩) (show w.heap.size + 1 < w1.heap.size by omega)).trans h5)),
    (hb.frozen (p := ⟨w.heap.size + 1, 0, none⟩) (show w.heap.size + 1 < w1.heap.size by omega)).trans h6, (hb.frozen (p := ⟨w.heap.size + 1, 1, none⟩) (show w.heap.size + 1 < w1.heap.size by omega)).trans h7, (hb.frozen (p := ⟨w.heap.size + 1, 2, none⟩) (show w.heap.size + 1 < w1.heap.size by omega)).trans h8,
    by have := hb.size; omega, h10.trans (hb.mono (by omega))⟩
theorem Kf.first (w : World) (a b : Int) : Kf w a b ((w.alloc (.cells #[.int .i64 a, .int .i64 b] 24)).alloc (.cells #[.bool false, .slice none 0 0, .int .i64 0] 45)) := by
  have hb := below2 w (.cells #[.int .i64 a, .int .i64 b] 24) (.cells #[.bool false, .slice none 0 0, .int .i64 0] 45)
  have hs := (Slot.new w a b).below (C := w.heap.size + 1) (w' := (w.alloc (.cells #[.int .i64 a, .int .i64 b] 24)).alloc (.cells #[.bool false, .slice none 0 0, .int .i64 0] 45)) ((Below.refl _ _).alloc (by simp) _) (by omega)
  have e : (w.alloc (.cells #[.int .i64 a, .int .i64 b] 24)).heap.size = w.heap.size + 1 := by simp
  refine ⟨hs.c0, hs.c1, ?_, ?_, ?_, ?_, ?_, ?_, by simp, hb⟩
  iterate 3 (exact got_of (by rw [← e]; simp))
  all_goals (rw [← e]; simp)
theorem Kf.stored {w : World} {a b : Int} {w1 : World} (h : Kf w a b w1) (u0 u1 u2 : Value) : Kf w a b (((w1.setCell ⟨w.heap.size + 1, 0, none⟩ u0).setCell ⟨w.heap.size + 1, 1, none⟩ u1).setCell ⟨w.heap.size + 1, 2, none⟩ u2) := by
  obtain ⟨h1, h2, h3, h4, h5, h6, h7, h8, h9, h10⟩ := h
  have hb : Below (w.heap.size + 1) w1 (((w1.setCell ⟨w.heap.size + 1, 0, none⟩ u0).setCell ⟨w.heap.size + 1, 1, none⟩ u1).setCell ⟨w.heap.size + 1, 2, none⟩ u2) :=
    (((Below.refl _ _).setCell (p := ⟨w.heap.size + 1, 0, none⟩) (Nat.le_refl _) _).setCell (p := ⟨w.heap.size + 1, 1, none⟩) (Nat.le_refl _) _).setCell (p := ⟨w.heap.size + 1, 2, none⟩) (Nat.le_refl _) _
  exact ⟨(hb.cell (p := ⟨w.heap.size, 0, none⟩) (Nat.lt_succ_self _)).trans h1, (hb.cell (p := ⟨w.heap.size, 1, none⟩) (Nat.lt_succ_self _)).trans h2,
    got_of (some_set (some_set (some_set (is_got h3) _ _) _ _) _ _), got_of (some_set (some_set (some_set (is_got h4) _ _) _ _) _ _), got_of (some_set (some_set (some_set (is_got h5) _ _) _ _) _ _),
    by simpa [World.frozen?_setCell] using h6, by simpa [World.frozen?_setCell] using h7, by simpa [World.frozen?_setCell] using h8, by have := hb.size; omega, h10.trans (hb.mono (by omega))⟩

theorem cell3_0 {w : World} {B : Nat} (h : (w.cell? ⟨B, 0, none⟩).isSome = true) (u0 u1 u2 : Value) : (((w.setCell ⟨B, 0, none⟩ u0).setCell ⟨B, 1, none⟩ u1).setCell ⟨B, 2, none⟩ u2).cell? ⟨B, 0, none⟩ = some u0 := by
  rw [World.cell?_setCell_other _ _ _ _ (by simp), World.cell?_setCell_other _ _ _ _ (by simp), World.cell?_setCell_same' _ _ _ h]
theorem cell3_1 {w : World} {B : Nat} (h : (w.cell? ⟨B, 1, none⟩).isSome = true) (u0 u1 u2 : Value) : (((w.setCell ⟨B, 0, none⟩ u0).setCell ⟨B, 1, none⟩ u1).setCell ⟨B, 2, none⟩ u2).cell? ⟨B, 1, none⟩ = some u1 := by
  rw [World.cell?_setCell_other _ _ _ _ (by simp), World.cell?_setCell_same' _ _ _ (some_set h _ _)]
theorem cell3_2 {w : World} {B : Nat} (h : (w.cell? ⟨B, 2, none⟩).isSome = true) (u0 u1 u2 : Value) : (((w.setCell ⟨B, 0, none⟩ u0).setCell ⟨B, 1, none⟩ u1).setCell ⟨B, 2, none⟩ u2).cell? ⟨B, 2, none⟩ = some u2 := by
  rw [World.cell?_setCell_same' _ _ _ (some_set (some_set h _ _) _ _)]
theorem OwnI.set {w : World} {B : Nat} {v : Value} {l : List Int} (h : OwnI w B v l) {a : Addr} (ha : a.block < B) (u : Value) : OwnI (w.setCell a u) B v l :=
  ⟨ownsRow_setCell_below h.1 ha u, h.2⟩
theorem OwnI.ne {w : World} {B : Nat} {v : Value} {l : List Int} (h : OwnI w B v l) (hl : 0 < l.length) : ∃ g c, v = .slice (some ⟨g, 0, none⟩) l.length c := by
  rcases h.2 with ⟨_, rfl⟩ | h
  · simp at hl
  · exact h
theorem OwnI.isnil {w : World} {B : Nat} {v : Value} {l : List Int} (h : OwnI w B v l) (hl : l.length = 0) : v = .slice none 0 0 ∨ ∃ g c, v = .slice (some ⟨g, 0, none⟩) 0 c := by
  rcases h.2 with ⟨h, _⟩ | ⟨g, c, h⟩
  · exact .inl h
  · exact .inr ⟨g, c, by rw [hl] at h; exact h⟩

set_option maxRecDepth 1000000 in
set_option maxHeartbeats 2000000 in
theorem of_some (m e : Int) (D : List Int) (hD : D = dI m.natAbs) (hm : m ≠ 0) (h0 : -9223372036854775808 ≤ m) (h1 : m ≤ 9223372036854775807) (w : World) :
    Calls Tryd.prog 45 #[numV m e] w fun r w' => ∃ g c, r = .returned (.agg #[.bool (decide (m < 0)), .slice (some ⟨g, 0, none⟩) D.length c, .int .i64 e]) ∧ OwnI w' (w.heap.size + 2) (.slice (some ⟨g, 0, none⟩) D.length c) D ∧ Below w.heap.size w w' := by
  have hDl : 0 < D.length := by rw [hD, dI_len, nd, dif_neg (by omega)]; omega
  have RD : Hid (∀ w1, Calls Tryd.prog 50 #[.int .i64 m] w1 fun e w' => ∃ g c, e = .returned (.slice (some ⟨g, 0, none⟩) D.length c) ∧ OwnI w' w1.heap.size (.slice (some ⟨g, 0, none⟩) D.length c) D ∧ Below w1.heap.size w1 w') := fun w1 =>
    (rdigs_aux m D hD h0 h1 w1).mono fun e w' ⟨v, he, ho, hb⟩ => by
      obtain ⟨g, c, rfl⟩ := ho.ne hDl
      exact ⟨g, c, he, ho, hb⟩
  have H0 := Lib.hid (Kf.first w m e)
  clear hD hDl hm
  unfold numV
  go_enter Tryd.func45, Tryd.ntmps45
  go_wp2_with fail
  go_region_held3 (fun w' => w'.cell? ⟨w.heap.size, 0, none⟩ = some (.int .i64 m) ∧ w'.cell? ⟨w.heap.size, 1, none⟩ = some (.int .i64 e) ∧
  w'.cell? ⟨w.heap.size + 1, 0, none⟩ = some (got w' ⟨w.heap.size + 1, 0, none⟩) ∧ w'.cell? ⟨w.heap.size + 1, 1, none⟩ = some (got w' ⟨w.heap.size + 1, 1, none⟩) ∧ w'.cell? ⟨w.heap.size + 1, 2, none⟩ = some (got w' ⟨w.heap.size + 1, 2, none⟩) ∧
  w'.frozen? ⟨w.heap.size + 1, 0, none⟩ = false ∧ w'.frozen? ⟨w.heap.size + 1, 1, none⟩ = false ∧ w'.frozen? ⟨w.heap.size + 1, 2, none⟩ = false ∧ w.heap.size + 2 ≤ w'.heap.size ∧ Below w.heap.size w w')
    (first | exact H0.out.later (below_dr _) | exact Kf.later (hb := hb5) (h := by assumption) | exact Kf.stored (h := by assumption) _ _ _)
    (first
      | (go_at_call 50; refine (RD.out _).mono ?_; rintro e w5 ⟨g5, c5, rfl, hown5, hb5⟩))
  have K4 := H0.out.later (below_dr _)
  have K5 := K4.later hb5
  have hK4 : w.heap.size + 2 ≤ ((w.alloc (Obj.cells #[Value.int IntKind.i64 m, Value.int IntKind.i64 e] 24)).alloc (Obj.cells #[Value.bool false, Value.slice none 0 0, Value.int IntKind.i64 0] 45)).drew.heap.size := K4.2.2.2.2.2.2.2.2.1
  have O5 : OwnI w5 (w.heap.size + 2) (.slice (some ⟨g5, 0, none⟩) D.length c5) D := hown5.mono hK4
  clear hown5 hb5 hK4 K4 H0 RD
  obtain ⟨h1, h2, h3, h4, h5, h6, h7, h8, h9, h10⟩ := K5
  have c0 := cell3_0 (is_got h3) (.bool (decide (m < 0))) (.slice (some ⟨g5, 0, none⟩) D.length c5) (.int .i64 e)
  have c1 := cell3_1 (is_got h4) (.bool (decide (m < 0))) (.slice (some ⟨g5, 0, none⟩) D.length c5) (.int .i64 e)
  have c2 := cell3_2 (is_got h5) (.bool (decide (m < 0))) (.slice (some ⟨g5, 0, none⟩) D.length c5) (.int .i64 e)
  have b3 := (((h10.setCell (p := ⟨w.heap.size + 1, 0, none⟩) (show w.heap.size ≤ w.heap.size + 1 by omega) (.bool (decide (m < 0)))).setCell (p := ⟨w.heap.size + 1, 1, none⟩) (show w.heap.size ≤ w.heap.size + 1 by omega) (.slice (some ⟨g5, 0, none⟩) D.length c5)).setCell (p := ⟨w.heap.size + 1, 2, none⟩) (show w.heap.size ≤ w.heap.size + 1 by omega) (.int .i64 e))
  have O6 := ((O5.set (a := ⟨w.heap.size + 1, 0, none⟩) (show w.heap.size + 1 < w.heap.size + 2 by omega) (.bool (decide (m < 0)))).set (a := ⟨w.heap.size + 1, 1, none⟩) (show w.heap.size + 1 < w.heap.size + 2 by omega) (.slice (some ⟨g5, 0, none⟩) D.length c5)).set (a := ⟨w.heap.size + 1, 2, none⟩) (show w.heap.size + 1 < w.heap.size + 2 by omega) (.int .i64 e)
  clear h1 h2 h3 h4 h5 h6 h7 h8 h9 h10 O5
  go_wp2
  refine bodyPost_ret (v := .agg #[.bool (decide (m < 0)), .slice (some ⟨g5, 0, none⟩) D.length c5, .int .i64 e]) (by simp [results, Tryd.results45, go_sem, c0, c1, c2]) rfl ⟨g5, c5, rfl, O6, b3⟩

/-- what the walk holds of a number's cells -/
def Kone (w : World) (a b : Int) (w' : World) : Prop :=
  w'.cell? ⟨w.heap.size, 0, none⟩ = some (.int .i64 a) ∧ w'.cell? ⟨w.heap.size, 1, none⟩ = some (.int .i64 b) ∧ w.heap.size + 1 ≤ w'.heap.size ∧ Below w.heap.size w w'
theorem Kone.later {w : World} {a b : Int} {w1 w2 : World} (h : Kone w a b w1) (hb : Below w1.heap.size w1 w2) : Kone w a b w2 := by
  obtain ⟨h1, h2, h3, h4⟩ := h
  exact ⟨(hb.cell (p := ⟨w.heap.size, 0, none⟩) (show w.heap.size < w1.heap.size by omega)).trans h1, (hb.cell (p := ⟨w.heap.size, 1, none⟩) (show w.heap.size < w1.heap.size by omega)).trans h2, by have := hb.size; omega, h4.trans (hb.mono (by omega))⟩
theorem Kone.first (w : World) (a b : Int) : Kone w a b (w.alloc (.cells #[.int .i64 a, .int .i64 b] 24)) :=
  ⟨(Slot.new w a b).c0, (Slot.new w a b).c1, by simp, alloc_below _ _⟩
theorem rright_zero (e : Int) (w : World) : Calls Tryd.prog 18 #[numV 0 e] w fun r w' => r = .returned (.bool (e == 0)) ∧ Below w.heap.size w w' := by
  unfold numV
  go_enter Tryd.func18, Tryd.ntmps18
  go_wp2
  go_ret
  exact ⟨rfl, alloc_below _ _⟩
theorem rright_no (m e : Int) (hm : (m == 0) = false) (h : 1000000000000000 ≤ m ∨ m ≤ -1000000000000000 ∨ (m.tmod 10 == 0) = true ∨ e < -40 ∨ 40 < e) (w : World) : Calls Tryd.prog 18 #[numV m e] w fun r w' => r = .returned (.bool false) ∧ Below w.heap.size w w' := by
  have H := Lib.hid h
  clear h
  by_cases h1 : 1000000000000000 ≤ m
  · clear H
    unfold numV
    go_enter Tryd.func18, Tryd.ntmps18
    go_wp2
    go_ret
    exact ⟨rfl, alloc_below _ _⟩
  · by_cases h2 : m ≤ -1000000000000000
    · clear H
      unfold numV
      go_enter Tryd.func18, Tryd.ntmps18
      go_wp2
      go_ret
      exact ⟨rfl, alloc_below _ _⟩
    · by_cases h3 : (m.tmod 10 == 0) = true
      · clear H
        unfold numV
        go_enter Tryd.func18, Tryd.ntmps18
        go_wp2
        go_ret
        exact ⟨rfl, alloc_below _ _⟩
      · have h3' : (m.tmod 10 == 0) = false := by simpa using h3
        clear h3
        by_cases h4 : e < -40
        · clear H
          unfold numV
          go_enter Tryd.func18, Tryd.ntmps18
          go_wp2
          go_ret
          exact ⟨rfl, alloc_below _ _⟩
        · have h5 : 40 < e := by
            have := H.out
            rcases this with h | h | h | h | h
            · omega
            · omega
            · rw [h3'] at h; simp at h
            · omega
            · exact h
          clear H
          unfold numV
          go_enter Tryd.func18, Tryd.ntmps18
          go_wp2
          go_ret
          exact ⟨rfl, alloc_below _ _⟩
set_option maxRecDepth 1000000 in
set_option maxHeartbeats 2000000 in
theorem rright_yes (m e : Int) (n : Nat) (hn : Hid (nd m.natAbs = n)) (hn2 : n ≤ 19) (hm : (m == 0) = false) (h1 : ¬ 1000000000000000 ≤ m) (h2 : ¬ m ≤ -1000000000000000) (h3 : (m.tmod 10 == 0) = false) (h4 : ¬ e < -40) (h5 : ¬ 40 < e) (w : World) : Calls Tryd.prog 18 #[numV m e] w fun r w' => r = .returned (.bool (decide ((n : Int) + e ≤ 40))) ∧ Below w.heap.size w w' := by
  have hm0 : m ≠ 0 := by rw [beq_eq_false_iff_ne] at hm; exact hm
  have OF : Hid (∀ w1, Calls Tryd.prog 45 #[.agg #[.int .i64 m, .int .i64 e]] w1 fun r w' => ∃ g c, r = .returned (.agg #[.bool (decide (m < 0)), .slice (some ⟨g, 0, none⟩) n c, .int .i64 e]) ∧ Below w1.heap.size w1 w') := fun w1 =>
    (of_some m e _ rfl hm0 (by omega) (by omega) w1).mono fun r w' ⟨g, c, he, _, hb⟩ => by
      rw [dI_len, hn.out] at he
      exact ⟨g, c, he, hb⟩
  have S0 := Lib.hid (Kone.first w m e)
  have hwr : IntKind.i64.wrap ((n : Int) + e) = (n : Int) + e := by rw [IntKind.wrap_i64]; omega
  have HFD : ∀ (g c : Nat) (w1 : World), (Instr.field 45 (.agg #[.bool (decide (m < 0)), .slice (some ⟨g, 0, none⟩) n c, .int .i64 e]) 1).run Tryd.prog w1 = .ok (.slice (some ⟨g, 0, none⟩) n c) w1 := fun _ _ _ => by kernel_rfl
  clear hm0 hn
  unfold numV
  go_enter Tryd.func18, Tryd.ntmps18
  go_wp2_with fail
  go_region_held3 (fun w' => w'.cell? ⟨w.heap.size, 0, none⟩ = some (.int .i64 m) ∧ w'.cell? ⟨w.heap.size, 1, none⟩ = some (.int .i64 e) ∧ w.heap.size + 1 ≤ w'.heap.size ∧ Below w.heap.size w w')
    (first | exact S0.out.later (below_dr _) | exact Kone.later (hb := hb5) (h := by assumption))
    (first
      | (go_at_call 45; refine (OF.out _).mono ?_; rintro e w5 ⟨g5, c5, rfl, hb5⟩))
  have hk : Below w.heap.size w w5 := (show Kone w m e w5 by assumption).2.2.2
  go_wp2
  go_ret
  exact ⟨rfl, hk⟩
/-- the document's Right, of every number -/
theorem rright_any (m e : Int) (w : World) : Calls Tryd.prog 18 #[numV m e] w fun r w' => r = .returned (.bool (rightB m e)) ∧ Below w.heap.size w w' := by
  by_cases hm : m = 0
  · subst hm
    have e1 : rightB 0 e = (e == 0) := by unfold rightB; rw [if_pos rfl]; rfl
    rw [e1]; exact rright_zero e w
  · have hm' : (m == 0) = false := by rw [beq_eq_false_iff_ne]; exact hm
    by_cases hno : 1000000000000000 ≤ m ∨ m ≤ -1000000000000000 ∨ (m.tmod 10 == 0) = true ∨ e < -40 ∨ 40 < e
    · have e1 : rightB m e = false := by
        unfold rightB
        rw [if_neg hm]
        have hge : 1000000000000000 ≤ m.natAbs → ¬ nd m.natAbs ≤ 15 := fun h1 h2 => by
          have := (nd_le_iff _ _).1 h2
          have e15 : (10 : Nat) ^ 15 = 1000000000000000 := by decide
          omega
        have hn1 : 1 ≤ nd m.natAbs := by rw [nd, dif_neg (by omega)]; omega
        by_cases h2 : m.tmod 10 = 0 ∨ e < -40
        · rw [if_pos h2]
        · rw [if_neg h2]
          have : ¬ (nd m.natAbs ≤ 15 ∧ e ≤ 40 - (nd m.natAbs : Int)) := by
            rintro ⟨h3, h4⟩
            rcases hno with h | h | h | h | h
            · exact hge (by omega) h3
            · exact hge (by omega) h3
            · exact h2 (.inl (by simpa using h))
            · exact h2 (.inr h)
            · omega
          simpa using this
      rw [e1]; exact rright_no m e hm' hno w
    · have g1 : ¬ 1000000000000000 ≤ m := fun h => hno (.inl h)
      have g2 : ¬ m ≤ -1000000000000000 := fun h => hno (.inr (.inl h))
      have g3 : (m.tmod 10 == 0) = false := by
        by_cases h : (m.tmod 10 == 0) = true
        · exact absurd (.inr (.inr (.inl h))) hno
        · simpa using h
      have g4 : ¬ e < -40 := fun h => hno (.inr (.inr (.inr (.inl h))))
      have g5 : ¬ 40 < e := fun h => hno (.inr (.inr (.inr (.inr h))))
      have hn15 : nd m.natAbs ≤ 15 := nd_le 15 _ (by have e15 : (10 : Nat) ^ 15 = 1000000000000000 := by decide
                                                     omega)
      have e1 : rightB m e = decide ((nd m.natAbs : Int) + e ≤ 40) := by
        unfold rightB
        rw [if_neg hm, if_neg (fun h => h.elim (fun h => by rw [h] at g3; simp at g3) g4)]
        rw [decide_eq_decide]
        omega
      rw [e1]
      exact rright_yes m e _ rfl (by omega) hm' g1 g2 g3 g4 g5 w
end Go.Proofs.YtkdjdoncmihkfaaDoor
