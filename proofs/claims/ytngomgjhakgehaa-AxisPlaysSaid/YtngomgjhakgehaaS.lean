/- Between. -/
import Derived.Test.YtngomgjhakgehaaR
namespace Go.Proofs.Ytngomgjhakgehaa
open Go.RowKit Go.Maps

theorem AxO.p {w : World} {p : Option Addr} {l : List Ent} (h : AxO w p l) : AxP w p l := by
  rcases h with h | ⟨s, v, hp, h1, h2⟩
  · exact .inl h
  · exact .inr ⟨s, v, hp, h1, list_of_own h2⟩
def betweenE (l : List Ent) (f t : IdP) : List IdP := match idxE l f, idxE l t with
  | some i, some j => liveE ((l.drop (min i j)).take (max i j + 1 - min i j))
  | _, _ => []

set_option maxHeartbeats 6400000 in
theorem between_none (p : Option Addr) (l : List Ent) (f1 f2 t1 t2 : Int) (w : World) (h : AxO w p l) (hlen : l.length ≤ 100000) (r1 r2 : Int) (h1 : findE l (f1, f2) = r1) (h2 : findE l (t1, t2) = r2) (hr : r1 < 0 ∨ r2 < 0) :
    Calls Try.prog 22 #[.pointer p, .agg #[.int .i64 f1, .int .i64 f2], .agg #[.int .i64 t1, .int .i64 t2]] w fun e w' => e = .returned (.slice none 0 0) ∧ Below w.heap.size w w' := by
  have F1 := Lib.hid h1
  have F2 := Lib.hid h2
  have hz1 : (w.alloc (.cells #[.int .i64 f1, .int .i64 f2] 25)).heap.size = w.heap.size + 1 := by simp
  obtain ⟨w0, hw0⟩ : ∃ w0, (w.alloc (.cells #[.int .i64 f1, .int .i64 f2] 25)).alloc (.cells #[.int .i64 t1, .int .i64 t2] 25) = w0 := ⟨_, rfl⟩
  have hb0 : Below w.heap.size w w0 := by rw [← hw0]; exact ((Below.refl _ _).alloc (Nat.le_refl _) _).alloc (by simp) _
  have B0 : Hid (Below w.heap.size w w0.drew) := Lib.hid hb0.drew
  have HP : Hid (∀ W, Below w0.drew.heap.size w0.drew W → AxP W p l) := Lib.hid (fun W hW => AxP.below (w := w0.drew) (show AxP w0.drew p l from (h.below hb0).p) hW)
  have hN : IdBox w0.drew w.heap.size (f1, f2) ∧ IdBox w0.drew (w.heap.size + 1) (t1, t2) := by
    have e1 : IdBox w0 w.heap.size (f1, f2) := by rw [← hw0]; exact (IdBox.new w f1 f2).below ((Below.refl _ _).alloc (Nat.le_refl _) _)
    have e2 : IdBox w0 (w.heap.size + 1) (t1, t2) := by
      have := IdBox.new (w.alloc (.cells #[.int .i64 f1, .int .i64 f2] 25)) t1 t2
      rw [hz1, hw0] at this
      exact this
    exact ⟨e1, e2⟩
  have HN := Lib.hid hN
  clear h1 h2 h hb0 hN hz1
  go_enter Try.func22, Try.ntmps22
  go_wp2_with fail

  clear hw0
  refine wp_region_held_drew (S := fun W => IdBox W w.heap.size (f1, f2) ∧ IdBox W (w.heap.size + 1) (t1, t2)) (by kernel_rfl) HN.out (fun hS => ?_)
  refine wpAnyH_take (i := 0) (v := ?v0a) rfl (by kernel_rfl) (by kernel_rfl) (by kernel_rfl) (fun _ _ _ h => h) (Or.inl ⟨by kernel_rfl, ?h0a⟩) hS ?_
  case h0a => (rintro w2 ⟨⟨e0, e1, _⟩, e2, e3, _⟩; go_simp; try with_reducible rfl)
  refine wpAnyH_take (i := 1) (v := ?v1a) rfl (by kernel_rfl) (by kernel_rfl) (by kernel_rfl) (fun _ _ _ h => h) (Or.inl ⟨by kernel_rfl, ?h1a⟩) hS ?_
  case h1a => (rintro w2 ⟨⟨e0, e1, _⟩, e2, e3, _⟩; go_simp; try with_reducible rfl)
  refine wpAnyH_take (i := 3) (v := ?v3a) rfl (by kernel_rfl) (by kernel_rfl) (by kernel_rfl) (fun _ _ _ h => h) (Or.inl ⟨by kernel_rfl, ?h3a⟩) hS ?_
  case h3a => (rintro w2 ⟨⟨e0, e1, _⟩, e2, e3, _⟩; go_simp; try with_reducible rfl)
  refine wpAnyH_take (i := 4) (v := ?v4a) rfl (by kernel_rfl) (by kernel_rfl) (by kernel_rfl) (fun _ _ _ h => h) (Or.inl ⟨by kernel_rfl, ?h4a⟩) hS ?_
  case h4a => (rintro w2 ⟨⟨e0, e1, _⟩, e2, e3, _⟩; go_simp; try with_reducible rfl)
  refine wpAnyH_ready (rs := [2]) (by kernel_rfl) (by simp) (AllReadyH.cons rfl (fun K hK => ?_) AllReadyH.nil)
  go_simp
  go_wp2_with (go_at_call 34; refine (find_any p l f1 f2 _ (HP.out _ (Below.refl _ _)) hlen).mono ?_; rw [F1.out]; rintro e w20 ⟨rfl, hb20⟩)
  refine hK.out _ _ (⟨hS.1.below hb20, hS.2.below hb20⟩) (fun hS2 => ?_); clear hK K
  have D20 := Lib.hid hb20
  clear hb20
  refine wpAnyH_ready (rs := [5]) (by kernel_rfl) (by simp) (AllReadyH.cons rfl (fun K hK => ?_) AllReadyH.nil)
  go_simp
  go_wp2_with (go_at_call 34; refine (find_any p l t1 t2 _ (HP.out _ D20.out) hlen).mono ?_; rw [F2.out]; rintro e w21 ⟨rfl, hb21⟩)
  refine hK.out _ _ (⟨hS2.1.below hb21, hS2.2.below hb21⟩) (fun hS5 => ?_); clear hK K
  have D21 := Lib.hid (D20.out.trans (hb21.mono D20.out.size))
  clear hb21 D20
  refine wpAnyH_take (i := 6) (v := ?v6a) rfl (by kernel_rfl) (by kernel_rfl) (by kernel_rfl) (fun _ _ _ h => h) (Or.inl ⟨by kernel_rfl, ?h6a⟩) hS5 ?_
  case h6a => (rintro w2 ⟨⟨e0, e1, _⟩, e2, e3, _⟩; go_simp; try with_reducible rfl)
  refine wpAnyH_take (i := 7) (v := ?v7a) rfl (by kernel_rfl) (by kernel_rfl) (by kernel_rfl) (fun _ _ _ h => h) (Or.inl ⟨by kernel_rfl, ?h7a⟩) hS5 ?_
  case h7a => (rintro w2 ⟨⟨e0, e1, _⟩, e2, e3, _⟩; go_simp; try with_reducible rfl)
  refine wpAnyH_done (by kernel_rfl) ?_ _
  go_simp
  by_cases hr1 : r1 < 0
  · go_wp2
    go_ret
    exact ⟨rfl, B0.out.trans (D21.out.mono B0.out.size)⟩
  · have hr2 : r2 < 0 := by omega
    go_wp2
    go_ret
    exact ⟨rfl, B0.out.trans (D21.out.mono B0.out.size)⟩
end Go.Proofs.Ytngomgjhakgehaa
