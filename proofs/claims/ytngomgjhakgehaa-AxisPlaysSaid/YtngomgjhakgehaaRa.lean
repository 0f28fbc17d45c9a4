/- The document's axis: what lies where; Find. -/
import Derived.Test.YtngomgjhakgehaaP
namespace Go.Proofs.Ytngomgjhakgehaa
open Go.RowKit Go.Maps

/-- the document's axis, to be read -/
structure RefR (w : World) (s : Nat) (l : List Ent) : Prop where
  lt : s < w.heap.size
  ids : ∃ v, w.cell? ⟨s, 0, none⟩ = some v ∧ IdsAt w v (l.map (·.1))
  live : ∃ B d, w.cell? ⟨s, 1, none⟩ = some (.slice B l.length d) ∧ l.length ≤ d ∧ ∀ (k : Nat) e, l[k]? = some e → ∃ be, B = some be ∧ w.cell? (be.add k) = some (.bool e.2)
theorem RefR.below {w w' : World} {s : Nat} {l : List Ent} (h : RefR w s l) (hb : Below w.heap.size w w') : RefR w' s l := by
  obtain ⟨h1, ⟨v, h2, h3⟩, B, d, h4, h5, h6⟩ := h
  refine ⟨Nat.lt_of_lt_of_le h1 hb.size, ⟨v, (hb.cell (p := ⟨s, 0, none⟩) h1).trans h2, h3.below hb⟩, B, d, (hb.cell (p := ⟨s, 1, none⟩) h1).trans h4, h5, fun k e hk => ?_⟩
  obtain ⟨be, h7, h8⟩ := h6 k e hk
  exact ⟨be, h7, (hb.cell (cell_lt h8)).trans h8⟩

theorem idxE_step {l : List Ent} {p : IdP} {k : Nat} {e : Ent} (hx : l[k]? = some e) (he : (e.1 == p) = false) (hn : ∀ e ∈ l.take k, (e.1 == p) = false) : ∀ e ∈ l.take (k + 1), (e.1 == p) = false := by
  intro f hf
  rw [List.take_add_one, hx] at hf
  rcases List.mem_append.1 hf with hf | hf
  · exact hn f hf
  · simp at hf; rw [hf]; exact he

/-- what a round of Find loads -/
def F5 (s g : Nat) (v : Value) (ad : Addr) (k : Nat) (x y a n : Int) (w : World) : Prop :=
  w.cell? ⟨s, 0, none⟩ = some v ∧ w.cell? (ad.add (k * 2)) = some (.int .i64 x) ∧ w.cell? ⟨(ad.add (k * 2)).block, (ad.add (k * 2)).off + 1, none⟩ = some (.int .i64 y) ∧ w.cell? ⟨g, 0, none⟩ = some (.int .i64 a) ∧ w.cell? ⟨g, 1, none⟩ = some (.int .i64 n)

set_option maxRecDepth 100000 in
set_option maxHeartbeats 3200000 in
theorem rfind_any (s : Nat) (l : List Ent) (a n : Int) (w : World) (h : RefR w s l) (hlen : l.length ≤ 100000) :
    Calls Try.prog 21 #[.pointer (some ⟨s, 0, none⟩), .agg #[.int .i64 a, .int .i64 n]] w fun e w' => e = .returned (.int .i64 (findE l (a, n))) ∧ Below w.heap.size w w' := by
  have hb0 : Below w.heap.size w (w.alloc (.cells #[.int .i64 a, .int .i64 n] 25)) := (Below.refl _ _).alloc (Nat.le_refl _) _
  have H0 := Lib.hid (h.below hb0)
  have HB0 := Lib.hid hb0
  have HG := Lib.hid (IdBox.new w a n)
  obtain ⟨R, hR⟩ : ∃ R, findE l (a, n) = R := ⟨_, rfl⟩
  rw [hR]
  have HR := Lib.hid hR
  have hsl : s < w.heap.size := h.lt
  clear h hb0 hR
  go_enter Try.func21, Try.ntmps21
  go_wp2_with fail
  obtain ⟨w0, hw0⟩ : ∃ w0, w.alloc (.cells #[.int .i64 a, .int .i64 n] 25) = w0 := ⟨_, rfl⟩
  rw [hw0] at H0 HB0 HG ⊢
  clear hw0
  go_loopw [5] (fun i wr => ∃ k : Nat, k ≤ l.length ∧ i = .int .i64 k ∧ (∀ e ∈ l.take k, (e.1 == (a, n)) = false) ∧ Below w0.heap.size w0 wr) (fun i _ => l.length - (intOf i).toNat)
  case atStart => exact ⟨0, Nat.zero_le _, rfl, by simp, Below.refl _ _⟩
  case round =>
    obtain ⟨k, hk, rfl, hn, hB⟩ := hrel
    have HN := Lib.hid hn
    have HW := Lib.hid hB
    have HRR := Lib.hid (H0.out.below hB)
    have HGG := Lib.hid (HG.out.below hB)
    obtain ⟨v, hv, A, c, hve, hc, hI⟩ := HRR.out.ids
    rw [List.length_map] at hve hc
    subst hve
    by_cases hlt : k < l.length
    · have hx : l[k]? = some l[k] := List.getElem?_eq_getElem hlt
      obtain ⟨e, he⟩ : ∃ e, l[k] = e := ⟨_, rfl⟩
      rw [he] at hx
      have HX := Lib.hid hx
      obtain ⟨ad, rfl, c2, c3⟩ := hI k e.1 (by rw [List.getElem?_map, hx]; rfl)
      obtain ⟨⟨x, y⟩, b⟩ := e
      obtain ⟨z, hz⟩ : ∃ z, ((x, y) == (a, n)) = z := ⟨_, rfl⟩
      have heq : ∀ w, (binOp .eql 25 (.agg #[.int .i64 x, .int .i64 y]) (.agg #[.int .i64 a, .int .i64 n])).run Try.prog w = .ok (.bool z) w := fun w => by rw [← hz]; exact id_eq x y a n w
      have HZ := Lib.hid hz
      have hi0 : (0 : Int) ≤ ↑k := by omega
      have hi1 : (↑k : Int) < ↑l.length := by omega
      have hi2 : (↑l.length : Int) ≤ ↑c := by omega
      have HB3 : Hid (Below w0.heap.size w0 wr.drew) := Lib.hid HW.out.drew
      have H5 : Hid (F5 s w.heap.size (.slice (some ad) l.length c) ad k x y a n wr.drew) := Lib.hid ⟨hv, c2, c3, HGG.out.1, HGG.out.2.1⟩
      clear hn hB hx he c2 c3 hI hz
      go_wp2_with fail
      clear hv
      refine wp_region_held_drew (S := F5 s w.heap.size (.slice (some ad) l.length c) ad k x y a n) (by kernel_rfl) H5.out (fun hS => ?_)
      refine wpAnyH_take (i := 0) (v := ?v0a) rfl (by kernel_rfl) (by kernel_rfl) (by kernel_rfl) (fun _ _ _ h => h) (Or.inl ⟨by kernel_rfl, ?h0a⟩) hS ?_
      case h0a => (rintro w2 ⟨e0, e1, e2, e3, e4⟩; go_simp; try with_reducible rfl)
      refine wpAnyH_take (i := 1) (v := ?v1a) rfl (by kernel_rfl) (by kernel_rfl) (by kernel_rfl) (fun _ _ _ h => h) (Or.inl ⟨by kernel_rfl, ?h1a⟩) hS ?_
      case h1a => (rintro w2 ⟨e0, e1, e2, e3, e4⟩; go_simp; try with_reducible rfl)
      refine wpAnyH_take (i := 2) (v := ?v2a) rfl (by kernel_rfl) (by kernel_rfl) (by kernel_rfl) (fun _ _ _ h => h) (Or.inl ⟨by kernel_rfl, ?h2a⟩) hS ?_
      case h2a => (rintro w2 ⟨e0, e1, e2, e3, e4⟩; go_simp; try with_reducible rfl)
      refine wpAnyH_take (i := 3) (v := ?v3a) rfl (by kernel_rfl) (by kernel_rfl) (by kernel_rfl) (fun _ _ _ h => h) (Or.inl ⟨by kernel_rfl, ?h3a⟩) hS ?_
      case h3a => (rintro w2 ⟨e0, e1, e2, e3, e4⟩; go_simp; try with_reducible rfl)
      refine wpAnyH_take (i := 4) (v := ?v4a) rfl (by kernel_rfl) (by kernel_rfl) (by kernel_rfl) (fun _ _ _ h => h) (Or.inl ⟨by kernel_rfl, ?h4a⟩) hS ?_
      case h4a => (rintro w2 ⟨e0, e1, e2, e3, e4⟩; go_simp; try with_reducible rfl)
      refine wpAnyH_take (i := 5) (v := ?v5a) rfl (by kernel_rfl) (by kernel_rfl) (by kernel_rfl) (fun _ _ _ h => h) (Or.inl ⟨by kernel_rfl, ?h5a⟩) hS ?_
      case h5a => (rintro w2 ⟨e0, e1, e2, e3, e4⟩; go_simp; try with_reducible rfl)
      refine wpAnyH_take (i := 6) (v := ?v6a) rfl (by kernel_rfl) (by kernel_rfl) (by kernel_rfl) (fun _ _ _ h => h) (Or.inl ⟨by kernel_rfl, ?h6a⟩) hS ?_
      case h6a => (rintro w2 ⟨e0, e1, e2, e3, e4⟩; go_simp; try with_reducible rfl)
      refine wpAnyH_take (i := 7) (v := ?v7a) rfl (by kernel_rfl) (by kernel_rfl) (by kernel_rfl) (fun _ _ _ h => h) (Or.inl ⟨by kernel_rfl, ?h7a⟩) hS ?_
      case h7a => (rintro w2 ⟨e0, e1, e2, e3, e4⟩; go_simp; try with_reducible rfl)
      refine wpAnyH_take (i := 8) (v := ?v8a) rfl (by kernel_rfl) (by kernel_rfl) (by kernel_rfl) (fun _ _ _ h => h) (Or.inl ⟨by kernel_rfl, ?h8a⟩) hS ?_
      case h8a => (rintro w2 ⟨e0, e1, e2, e3, e4⟩; go_simp; try with_reducible rfl)
      refine wpAnyH_done (by kernel_rfl) ?_ _
      go_simp
      cases z
      · go_wp2_with fail
        go_roundw
        case rel => exact ⟨k + 1, by omega, by simp, idxE_step HX.out HZ.out HN.out, HB3.out⟩
        case measure => simp [intOf]; omega
      · have hRk : R = k := by
          rw [← HR.out]
          unfold findE
          rw [idxE_at HX.out HZ.out HN.out]
        subst hRk
        go_wp2
        go_ret
        exact ⟨rfl, HB0.out.trans (HB3.out.mono HB0.out.size)⟩
    · obtain rfl : k = l.length := by omega
      have hlt2 : ¬ (↑l.length : Int) < ↑l.length := by omega
      have hRk : R = -1 := by
        rw [← HR.out]
        unfold findE
        rw [idxE_none (by have := HN.out; rwa [List.take_length] at this)]
      subst hRk
      clear hn hB hI
      go_wp2
      go_ret
      exact ⟨rfl, HB0.out.trans (HW.out.mono HB0.out.size)⟩
end Go.Proofs.Ytngomgjhakgehaa
