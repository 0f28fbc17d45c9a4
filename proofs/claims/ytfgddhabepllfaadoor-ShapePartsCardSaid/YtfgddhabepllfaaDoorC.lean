/- Whether a value may be: the program, the document. -/
import Derived.Test.YtfgddhabepllfaaDoorB
import Derived.Deep.RegionHeld3
namespace Go.Proofs.YtfgddhabepllfaaDoor
open Go.RowKit

def rightV (v : Vl) : Bool :=
  if v.k = 0 then eqV v zV else if v.k = 1 then eqV v ⟨1, v.m, v.e, bs0, false, 0⟩ && Nm.rightB v.m v.e else if v.k = 2 then eqV v (textV v.t) else if v.k = 3 then eqV v ⟨3, 0, 0, bs0, v.b, 0⟩ else if v.k = 4 then eqV v (badV v.f) else false
/-- the ints of a value are ints -/
def WfV (v : Vl) : Prop := (-9223372036854775808 ≤ v.k ∧ v.k ≤ 9223372036854775807) ∧ (-9223372036854775808 ≤ v.m ∧ v.m ≤ 9223372036854775807) ∧ (-9223372036854775808 ≤ v.e ∧ v.e ≤ 9223372036854775807) ∧ (-9223372036854775808 ≤ v.f ∧ v.f ≤ 9223372036854775807)
/-- a box that holds a value; what is older is as it was -/
def KV (w : World) (v : Vl) (w' : World) : Prop :=
  w'.cell? ⟨w.heap.size, 0, none⟩ = some (.int .i64 v.k) ∧ w'.cell? ⟨w.heap.size, 1, none⟩ = some (.int .i64 v.m) ∧ w'.cell? ⟨w.heap.size, 2, none⟩ = some (.int .i64 v.e) ∧ w'.cell? ⟨w.heap.size, 3, none⟩ = some (.string v.t) ∧
    w'.cell? ⟨w.heap.size, 4, none⟩ = some (.bool v.b) ∧ w'.cell? ⟨w.heap.size, 5, none⟩ = some (.int .i64 v.f) ∧ Below w.heap.size w w' ∧ w.heap.size < w'.heap.size
theorem KV.later {w : World} {v : Vl} {w1 w2 : World} (h : KV w v w1) (hb : Below w1.heap.size w1 w2) : KV w v w2 := by
  obtain ⟨c0, c1, c2, c3, c4, c5, hb1, hz⟩ := h
  have := hb.size
  have hc : ∀ o, w2.cell? ⟨w.heap.size, o, none⟩ = w1.cell? ⟨w.heap.size, o, none⟩ := fun o => hb.cell (p := ⟨w.heap.size, o, none⟩) hz
  exact ⟨(hc _).trans c0, (hc _).trans c1, (hc _).trans c2, (hc _).trans c3, (hc _).trans c4, (hc _).trans c5, hb1.trans (hb.mono hb1.size), by omega⟩
theorem KV.drew {w : World} {v : Vl} {w1 : World} (h : KV w v w1) : KV w v w1.drew := by
  obtain ⟨c0, c1, c2, c3, c4, c5, hb1, hz⟩ := h
  exact ⟨c0, c1, c2, c3, c4, c5, hb1.drew, hz⟩
theorem KV.first (w : World) (v : Vl) : KV w v (w.alloc (.cells #[.int .i64 v.k, .int .i64 v.m, .int .i64 v.e, .string v.t, .bool v.b, .int .i64 v.f] 34)) := by
  obtain ⟨c0, c1, c2, c3, c4, c5, _⟩ := box6 (heap_alloc_new w (.cells #[.int .i64 v.k, .int .i64 v.m, .int .i64 v.e, .string v.t, .bool v.b, .int .i64 v.f] 34))
  exact ⟨c0, c1, c2, c3, c4, c5, Nm.alloc_below _ _, by simp⟩
theorem KV.below {w : World} {v : Vl} {w1 : World} (h : KV w v w1) : Below w.heap.size w w1 := h.2.2.2.2.2.2.1
theorem ne_v {k m e : Int} {t : ByteArray} {b : Bool} {f k' m' e' : Int} {t' : ByteArray} {b' : Bool} {f' : Int} (h : eqV ⟨k, m, e, t, b, f⟩ ⟨k', m', e', t', b', f'⟩ = false) : k = k' → m = m' → e = e' → t.toList = t'.toList → b = b' → ¬ f = f' := by
  rintro rfl rfl rfl ht rfl rfl
  rw [Lib.toList_data, Lib.toList_data] at ht
  have : t = t' := by
    cases t; cases t'
    simpa using ht
  subst this
  rw [eqV_refl] at h
  cases h
theorem yes_v {k m e : Int} {t : ByteArray} {b : Bool} {f k' m' e' : Int} {t' : ByteArray} {b' : Bool} {f' : Int} (h : eqV ⟨k, m, e, t, b, f⟩ ⟨k', m', e', t', b', f'⟩ = true) : k = k' ∧ m = m' ∧ e = e' ∧ t = t' ∧ b = b' ∧ f = f' := by
  have := (eqV_iff _ _).1 h
  simp only [Vl.mk.injEq] at this
  obtain ⟨rfl, rfl, rfl, rfl, rfl, rfl⟩ := this
  exact ⟨rfl, rfl, rfl, rfl, rfl, rfl⟩
set_option maxRecDepth 100000 in
theorem same_any (x y : Vl) (w : World) : Calls Tryd.prog 53 #[vV x, vV y] w fun r w' => r = .returned (.bool (eqV x y)) ∧ Below w.heap.size w w' := by
  obtain ⟨k, m, e, t, b, f⟩ := x
  obtain ⟨k', m', e', t', b', f'⟩ := y
  obtain ⟨z, hz⟩ : ∃ z, eqV ⟨k, m, e, t, b, f⟩ ⟨k', m', e', t', b', f'⟩ = z := ⟨_, rfl⟩
  have he := eq_v k m e t b f k' m' e' t' b' f'
  rw [hz] at he ⊢
  clear hz
  unfold vV
  go_enter Tryd.func53, Tryd.ntmps53
  go_wp2
  go_ret
  exact ⟨rfl, ((Below.refl _ _).alloc (Nat.le_refl _) _).alloc (by simp) _⟩
set_option maxRecDepth 100000 in
set_option maxHeartbeats 1000000 in
theorem right_1 (m e : Int) (t : ByteArray) (b : Bool) (f : Int) (hw : WfV ⟨1, m, e, t, b, f⟩) (w : World) (he : Env w) : Calls Tryd.prog 50 #[(.agg #[.int .i64 1, .int .i64 m, .int .i64 e, .string t, .bool b, .int .i64 f])] w fun r w' => r = .returned (.bool (rightV ⟨1, m, e, t, b, f⟩)) ∧ Below w.heap.size w w' := by
  obtain ⟨_, ⟨hm0, hm1⟩, ⟨he0, he1⟩, _⟩ := hw
  simp only at hm0 hm1 he0 he1
  have HE := Lib.hid he
  clear he
  have hR : rightV ⟨1, m, e, t, b, f⟩ = (eqV ⟨1, m, e, t, b, f⟩ ⟨1, m, e, bs0, false, 0⟩ && Nm.rightB m e) := rfl
  rw [hR]
  clear hR
  obtain ⟨nv, hnv⟩ : ∃ nv : Vl, ⟨1, m, e, bs0, false, 0⟩ = nv := ⟨_, rfl⟩
  obtain ⟨z, hz⟩ : ∃ z, eqV ⟨1, m, e, t, b, f⟩ nv = z := ⟨_, rfl⟩
  rw [hnv, hz]
  obtain ⟨k', m', e', t', b', f'⟩ := nv
  have HC := Lib.hid (fun W (hW : Env W) => of_any m e W)
  rw [hnv] at HC
  unfold vV at HC
  clear hnv
  cases z
  · have HNE := Lib.hid (ne_v hz)
    clear hz
    go_enter Tryd.func50, Tryd.ntmps50
    go_wp2_with fail
    refine wp_region_held_drew (S := KV w ⟨1, m, e, t, b, f⟩) (by kernel_rfl) (KV.first w _).drew (fun hS => ?_)
    refine wpAnyH_take (i := 0) (v := ?v0t1f) rfl (by kernel_rfl) (by kernel_rfl) (by kernel_rfl) (fun _ _ _ h => h) (Or.inl ⟨by kernel_rfl, ?h0t1f⟩) hS ?_
    case h0t1f => (rintro w2 ⟨c0, c1, c2, c3, c4, c5, hbw, hzw⟩; go_simp; try with_reducible rfl)
    refine wpAnyH_take (i := 1) (v := ?v1t1f) rfl (by kernel_rfl) (by kernel_rfl) (by kernel_rfl) (fun _ _ _ h => h) (Or.inl ⟨by kernel_rfl, ?h1t1f⟩) hS ?_
    case h1t1f => (rintro w2 ⟨c0, c1, c2, c3, c4, c5, hbw, hzw⟩; go_simp; try with_reducible rfl)
    refine wpAnyH_take (i := 2) (v := ?v2t1f) rfl (by kernel_rfl) (by kernel_rfl) (by kernel_rfl) (fun _ _ _ h => h) (Or.inl ⟨by kernel_rfl, ?h2t1f⟩) hS ?_
    case h2t1f => (rintro w2 ⟨c0, c1, c2, c3, c4, c5, hbw, hzw⟩; go_simp; try with_reducible rfl)
    refine wpAnyH_ready (rs := [3]) (by kernel_rfl) (by simp) (AllReadyH.cons rfl (fun K hK => ?_) AllReadyH.nil)
    go_simp
    go_wp2_with (go_at_call 67; refine (HC.out _ (HE.out.below hS.below)).mono ?_; rintro e13 w13 ⟨rfl, hb13⟩)
    refine hK.out _ _ (hS.later hb13) (fun hS3 => ?_); clear hK K
    refine wpAnyH_take (i := 4) (v := .bool false) rfl (by kernel_rfl) (by kernel_rfl) (by kernel_rfl) (fun _ _ _ h => h) (Or.inl ⟨by kernel_rfl, ?h4t1f⟩) hS3 ?_
    case h4t1f => (rintro w2 ⟨c0, c1, c2, c3, c4, c5, hbw, hzw⟩; go_simp; exact HNE.out)
    refine wpAnyH_take (i := 5) (v := ?v5t1f) rfl (by kernel_rfl) (by kernel_rfl) (by kernel_rfl) (fun _ _ _ h => h) (Or.inl ⟨by kernel_rfl, ?h5t1f⟩) hS3 ?_
    case h5t1f => (rintro w2 ⟨c0, c1, c2, c3, c4, c5, hbw, hzw⟩; go_simp; try with_reducible rfl)
    refine wpAnyH_take (i := 6) (v := undef) rfl (by kernel_rfl) (by kernel_rfl) (by kernel_rfl) (fun _ _ _ h => h) (Or.inr ⟨by kernel_rfl, rfl⟩) hS3 ?_
    refine wpAnyH_take (i := 7) (v := undef) rfl (by kernel_rfl) (by kernel_rfl) (by kernel_rfl) (fun _ _ _ h => h) (Or.inr ⟨by kernel_rfl, rfl⟩) hS3 ?_
    refine wpAnyH_take (i := 8) (v := undef) rfl (by kernel_rfl) (by kernel_rfl) (by kernel_rfl) (fun _ _ _ h => h) (Or.inr ⟨by kernel_rfl, rfl⟩) hS3 ?_
    refine wpAnyH_take (i := 9) (v := ?v9t1f) rfl (by kernel_rfl) (by kernel_rfl) (by kernel_rfl) (fun _ _ _ h => h) (Or.inl ⟨by kernel_rfl, ?h9t1f⟩) hS3 ?_
    case h9t1f => (rintro w2 ⟨c0, c1, c2, c3, c4, c5, hbw, hzw⟩; go_simp; try with_reducible rfl)
    refine wpAnyH_take (i := 10) (v := ?v10t1f) rfl (by kernel_rfl) (by kernel_rfl) (by kernel_rfl) (fun _ _ _ h => h) (Or.inl ⟨by kernel_rfl, ?h10t1f⟩) hS3 ?_
    case h10t1f => (rintro w2 ⟨c0, c1, c2, c3, c4, c5, hbw, hzw⟩; go_simp; try with_reducible rfl)
    refine wpAnyH_done (by kernel_rfl) ?_ _
    go_simp
    have HB := Lib.hid (hS3.below)
    go_wp2
    go_ret
    exact ⟨rfl, HB.out⟩
  · obtain ⟨rfl, rfl, rfl, rfl, rfl, rfl⟩ := yes_v hz
    clear hz
    go_enter Tryd.func50, Tryd.ntmps50
    go_wp2_with fail
    refine wp_region_held_drew (S := KV w ⟨1, m, e, t, b, f⟩) (by kernel_rfl) (KV.first w _).drew (fun hS => ?_)
    refine wpAnyH_take (i := 0) (v := ?v0t1t) rfl (by kernel_rfl) (by kernel_rfl) (by kernel_rfl) (fun _ _ _ h => h) (Or.inl ⟨by kernel_rfl, ?h0t1t⟩) hS ?_
    case h0t1t => (rintro w2 ⟨c0, c1, c2, c3, c4, c5, hbw, hzw⟩; go_simp; try with_reducible rfl)
    refine wpAnyH_take (i := 1) (v := ?v1t1t) rfl (by kernel_rfl) (by kernel_rfl) (by kernel_rfl) (fun _ _ _ h => h) (Or.inl ⟨by kernel_rfl, ?h1t1t⟩) hS ?_
    case h1t1t => (rintro w2 ⟨c0, c1, c2, c3, c4, c5, hbw, hzw⟩; go_simp; try with_reducible rfl)
    refine wpAnyH_take (i := 2) (v := ?v2t1t) rfl (by kernel_rfl) (by kernel_rfl) (by kernel_rfl) (fun _ _ _ h => h) (Or.inl ⟨by kernel_rfl, ?h2t1t⟩) hS ?_
    case h2t1t => (rintro w2 ⟨c0, c1, c2, c3, c4, c5, hbw, hzw⟩; go_simp; try with_reducible rfl)
    refine wpAnyH_ready (rs := [3]) (by kernel_rfl) (by simp) (AllReadyH.cons rfl (fun K hK => ?_) AllReadyH.nil)
    go_simp
    go_wp2_with (go_at_call 67; refine (HC.out _ (HE.out.below hS.below)).mono ?_; rintro e13 w13 ⟨rfl, hb13⟩)
    refine hK.out _ _ (hS.later hb13) (fun hS3 => ?_); clear hK K
    refine wpAnyH_take (i := 4) (v := .bool true) rfl (by kernel_rfl) (by kernel_rfl) (by kernel_rfl) (fun _ _ _ h => h) (Or.inl ⟨by kernel_rfl, ?h4t1t⟩) hS3 ?_
    case h4t1t => (rintro w2 ⟨c0, c1, c2, c3, c4, c5, hbw, hzw⟩; go_simp; try with_reducible rfl)
    refine wpAnyH_take (i := 5) (v := ?v5t1t) rfl (by kernel_rfl) (by kernel_rfl) (by kernel_rfl) (fun _ _ _ h => h) (Or.inl ⟨by kernel_rfl, ?h5t1t⟩) hS3 ?_
    case h5t1t => (rintro w2 ⟨c0, c1, c2, c3, c4, c5, hbw, hzw⟩; go_simp; try with_reducible rfl)
    refine wpAnyH_take (i := 6) (v := ?v6t1t) rfl (by kernel_rfl) (by kernel_rfl) (by kernel_rfl) (fun _ _ _ h => h) (Or.inl ⟨by kernel_rfl, ?h6t1t⟩) hS3 ?_
    case h6t1t => (rintro w2 ⟨c0, c1, c2, c3, c4, c5, hbw, hzw⟩; go_simp; try with_reducible rfl)
    refine wpAnyH_take (i := 7) (v := ?v7t1t) rfl (by kernel_rfl) (by kernel_rfl) (by kernel_rfl) (fun _ _ _ h => h) (Or.inl ⟨by kernel_rfl, ?h7t1t⟩) hS3 ?_
    case h7t1t => (rintro w2 ⟨c0, c1, c2, c3, c4, c5, hbw, hzw⟩; go_simp; try with_reducible rfl)
    refine wpAnyH_ready (rs := [8]) (by kernel_rfl) (by simp) (AllReadyH.cons rfl (fun K hK => ?_) AllReadyH.nil)
    go_simp
    go_wp2_with (go_at_call 68; refine (Nm.right_any m e (by omega) (by omega) (by omega) _).mono ?_; rintro e18 w18 ⟨rfl, hb18⟩)
    refine hK.out _ _ (hS3.later hb18) (fun hS8 => ?_); clear hK K
    refine wpAnyH_take (i := 9) (v := ?v9t1t) rfl (by kernel_rfl) (by kernel_rfl) (by kernel_rfl) (fun _ _ _ h => h) (Or.inl ⟨by kernel_rfl, ?h9t1t⟩) hS8 ?_
    case h9t1t => (rintro w2 ⟨c0, c1, c2, c3, c4, c5, hbw, hzw⟩; go_simp; try with_reducible rfl)
    refine wpAnyH_take (i := 10) (v := ?v10t1t) rfl (by kernel_rfl) (by kernel_rfl) (by kernel_rfl) (fun _ _ _ h => h) (Or.inl ⟨by kernel_rfl, ?h10t1t⟩) hS8 ?_
    case h10t1t => (rintro w2 ⟨c0, c1, c2, c3, c4, c5, hbw, hzw⟩; go_simp; try with_reducible rfl)
    refine wpAnyH_done (by kernel_rfl) ?_ _
    go_simp
    have HB := Lib.hid (hS8.below)
    go_wp2
    go_ret
    exact ⟨rfl, HB.out⟩
set_option maxRecDepth 100000 in
set_option maxHeartbeats 1000000 in
theorem right_2 (m e : Int) (t : ByteArray) (b : Bool) (f : Int) (hw : WfV ⟨2, m, e, t, b, f⟩) (w : World) (he : Env w) : Calls Tryd.prog 50 #[(.agg #[.int .i64 2, .int .i64 m, .int .i64 e, .string t, .bool b, .int .i64 f])] w fun r w' => r = .returned (.bool (rightV ⟨2, m, e, t, b, f⟩)) ∧ Below w.heap.size w w' := by
  obtain ⟨_, ⟨hm0, hm1⟩, ⟨he0, he1⟩, _⟩ := hw
  simp only at hm0 hm1 he0 he1
  have HE := Lib.hid he
  clear he
  have hR : rightV ⟨2, m, e, t, b, f⟩ = eqV ⟨2, m, e, t, b, f⟩ (textV t) := rfl
  rw [hR]
  clear hR
  obtain ⟨nv, hnv⟩ : ∃ nv : Vl, textV t = nv := ⟨_, rfl⟩
  obtain ⟨z, hz⟩ : ∃ z, eqV ⟨2, m, e, t, b, f⟩ nv = z := ⟨_, rfl⟩
  rw [hnv, hz]
  obtain ⟨k', m', e', t', b', f'⟩ := nv
  have HC := Lib.hid (fun W (hW : Env W) => text_any t W hW)
  rw [hnv] at HC
  unfold vV at HC
  clear hnv
  clear hm0 hm1 he0 he1
  cases z
  · have HNE := Lib.hid (ne_v hz)
    clear hz
    go_enter Tryd.func50, Tryd.ntmps50
    go_wp2_with fail
    refine wp_region_held_drew (S := KV w ⟨2, m, e, t, b, f⟩) (by kernel_rfl) (KV.first w _).drew (fun hS => ?_)
    refine wpAnyH_take (i := 0) (v := ?v0t2f) rfl (by kernel_rfl) (by kernel_rfl) (by kernel_rfl) (fun _ _ _ h => h) (Or.inl ⟨by kernel_rfl, ?h0t2f⟩) hS ?_
    case h0t2f => (rintro w2 ⟨c0, c1, c2, c3, c4, c5, hbw, hzw⟩; go_simp; try with_reducible rfl)
    refine wpAnyH_take (i := 1) (v := ?v1t2f) rfl (by kernel_rfl) (by kernel_rfl) (by kernel_rfl) (fun _ _ _ h => h) (Or.inl ⟨by kernel_rfl, ?h1t2f⟩) hS ?_
    case h1t2f => (rintro w2 ⟨c0, c1, c2, c3, c4, c5, hbw, hzw⟩; go_simp; try with_reducible rfl)
    refine wpAnyH_take (i := 2) (v := ?v2t2f) rfl (by kernel_rfl) (by kernel_rfl) (by kernel_rfl) (fun _ _ _ h => h) (Or.inl ⟨by kernel_rfl, ?h2t2f⟩) hS ?_
    case h2t2f => (rintro w2 ⟨c0, c1, c2, c3, c4, c5, hbw, hzw⟩; go_simp; try with_reducible rfl)
    refine wpAnyH_ready (rs := [3]) (by kernel_rfl) (by simp) (AllReadyH.cons rfl (fun K hK => ?_) AllReadyH.nil)
    go_simp
    go_wp2_with (go_at_call 69; refine (HC.out _ (HE.out.below hS.below)).mono ?_; rintro e13 w13 ⟨rfl, hb13⟩)
    refine hK.out _ _ (hS.later hb13) (fun hS3 => ?_); clear hK K
    refine wpAnyH_take (i := 4) (v := .bool false) rfl (by kernel_rfl) (by kernel_rfl) (by kernel_rfl) (fun _ _ _ h => h) (Or.inl ⟨by kernel_rfl, ?h4t2f⟩) hS3 ?_
    case h4t2f => (rintro w2 ⟨c0, c1, c2, c3, c4, c5, hbw, hzw⟩; go_simp; exact HNE.out)
    refine wpAnyH_take (i := 5) (v := ?v5t2f) rfl (by kernel_rfl) (by kernel_rfl) (by kernel_rfl) (fun _ _ _ h => h) (Or.inl ⟨by kernel_rfl, ?h5t2f⟩) hS3 ?_
    case h5t2f => (rintro w2 ⟨c0, c1, c2, c3, c4, c5, hbw, hzw⟩; go_simp; try with_reducible rfl)
    refine wpAnyH_done (by kernel_rfl) ?_ _
    go_simp
    have HB := Lib.hid (hS3.below)
    go_wp2
    go_ret
    exact ⟨rfl, HB.out⟩
  · obtain ⟨rfl, rfl, rfl, rfl, rfl, rfl⟩ := yes_v hz
    clear hz
    go_enter Tryd.func50, Tryd.ntmps50
    go_wp2_with fail
    refine wp_region_held_drew (S := KV w ⟨2, m, e, t, b, f⟩) (by kernel_rfl) (KV.first w _).drew (fun hS => ?_)
    refine wpAnyH_take (i := 0) (v := ?v0t2t) rfl (by kernel_rfl) (by kernel_rfl) (by kernel_rfl) (fun _ _ _ h => h) (Or.inl ⟨by kernel_rfl, ?h0t2t⟩) hS ?_
    case h0t2t => (rintro w2 ⟨c0, c1, c2, c3, c4, c5, hbw, hzw⟩; go_simp; try with_reducible rfl)
    refine wpAnyH_take (i := 1) (v := ?v1t2t) rfl (by kernel_rfl) (by kernel_rfl) (by kernel_rfl) (fun _ _ _ h => h) (Or.inl ⟨by kernel_rfl, ?h1t2t⟩) hS ?_
    case h1t2t => (rintro w2 ⟨c0, c1, c2, c3, c4, c5, hbw, hzw⟩; go_simp; try with_reducible rfl)
    refine wpAnyH_take (i := 2) (v := ?v2t2t) rfl (by kernel_rfl) (by kernel_rfl) (by kernel_rfl) (fun _ _ _ h => h) (Or.inl ⟨by kernel_rfl, ?h2t2t⟩) hS ?_
    case h2t2t => (rintro w2 ⟨c0, c1, c2, c3, c4, c5, hbw, hzw⟩; go_simp; try with_reducible rfl)
    refine wpAnyH_ready (rs := [3]) (by kernel_rfl) (by simp) (AllReadyH.cons rfl (fun K hK => ?_) AllReadyH.nil)
    go_simp
    go_wp2_with (go_at_call 69; refine (HC.out _ (HE.out.below hS.below)).mono ?_; rintro e13 w13 ⟨rfl, hb13⟩)
    refine hK.out _ _ (hS.later hb13) (fun hS3 => ?_); clear hK K
    refine wpAnyH_take (i := 4) (v := .bool true) rfl (by kernel_rfl) (by kernel_rfl) (by kernel_rfl) (fun _ _ _ h => h) (Or.inl ⟨by kernel_rfl, ?h4t2t⟩) hS3 ?_
    case h4t2t => (rintro w2 ⟨c0, c1, c2, c3, c4, c5, hbw, hzw⟩; go_simp; try with_reducible rfl)
    refine wpAnyH_take (i := 5) (v := ?v5t2t) rfl (by kernel_rfl) (by kernel_rfl) (by kernel_rfl) (fun _ _ _ h => h) (Or.inl ⟨by kernel_rfl, ?h5t2t⟩) hS3 ?_
    case h5t2t => (rintro w2 ⟨c0, c1, c2, c3, c4, c5, hbw, hzw⟩; go_simp; try with_reducible rfl)
    refine wpAnyH_done (by kernel_rfl) ?_ _
    go_simp
    have HB := Lib.hid (hS3.below)
    go_wp2
    go_ret
    exact ⟨rfl, HB.out⟩
set_option maxRecDepth 100000 in
set_option maxHeartbeats 1000000 in
theorem right_3 (m e : Int) (t : ByteArray) (b : Bool) (f : Int) (hw : WfV ⟨3, m, e, t, b, f⟩) (w : World) (he : Env w) : Calls Tryd.prog 50 #[(.agg #[.int .i64 3, .int .i64 m, .int .i64 e, .string t, .bool b, .int .i64 f])] w fun r w' => r = .returned (.bool (rightV ⟨3, m, e, t, b, f⟩)) ∧ Below w.heap.size w w' := by
  obtain ⟨_, ⟨hm0, hm1⟩, ⟨he0, he1⟩, _⟩ := hw
  simp only at hm0 hm1 he0 he1
  have HE := Lib.hid he
  clear he
  have hR : rightV ⟨3, m, e, t, b, f⟩ = eqV ⟨3, m, e, t, b, f⟩ ⟨3, 0, 0, bs0, b, 0⟩ := rfl
  rw [hR]
  clear hR
  obtain ⟨nv, hnv⟩ : ∃ nv : Vl, ⟨3, 0, 0, bs0, b, 0⟩ = nv := ⟨_, rfl⟩
  obtain ⟨z, hz⟩ : ∃ z, eqV ⟨3, m, e, t, b, f⟩ nv = z := ⟨_, rfl⟩
  rw [hnv, hz]
  obtain ⟨k', m', e', t', b', f'⟩ := nv
  have HC := Lib.hid (fun W (hW : Env W) => truth_any b W)
  rw [hnv] at HC
  unfold vV at HC
  clear hnv
  clear hm0 hm1 he0 he1
  cases z
  · have HNE := Lib.hid (ne_v hz)
    clear hz
    go_enter Tryd.func50, Tryd.ntmps50
    go_wp2_with fail
    refine wp_region_held_drew (S := KV w ⟨3, m, e, t, b, f⟩) (by kernel_rfl) (KV.first w _).drew (fun hS => ?_)
    refine wpAnyH_take (i := 0) (v := ?v0t3f) rfl (by kernel_rfl) (by kernel_rfl) (by kernel_rfl) (fun _ _ _ h => h) (Or.inl ⟨by kernel_rfl, ?h0t3f⟩) hS ?_
    case h0t3f => (rintro w2 ⟨c0, c1, c2, c3, c4, c5, hbw, hzw⟩; go_simp; try with_reducible rfl)
    refine wpAnyH_take (i := 1) (v := ?v1t3f) rfl (by kernel_rfl) (by kernel_rfl) (by kernel_rfl) (fun _ _ _ h => h) (Or.inl ⟨by kernel_rfl, ?h1t3f⟩) hS ?_
    case h1t3f => (rintro w2 ⟨c0, c1, c2, c3, c4, c5, hbw, hzw⟩; go_simp; try with_reducible rfl)
    refine wpAnyH_take (i := 2) (v := ?v2t3f) rfl (by kernel_rfl) (by kernel_rfl) (by kernel_rfl) (fun _ _ _ h => h) (Or.inl ⟨by kernel_rfl, ?h2t3f⟩) hS ?_
    case h2t3f => (rintro w2 ⟨c0, c1, c2, c3, c4, c5, hbw, hzw⟩; go_simp; try with_reducible rfl)
    refine wpAnyH_ready (rs := [3]) (by kernel_rfl) (by simp) (AllReadyH.cons rfl (fun K hK => ?_) AllReadyH.nil)
    go_simp
    go_wp2_with (go_at_call 70; refine (HC.out _ (HE.out.below hS.below)).mono ?_; rintro e13 w13 ⟨rfl, hb13⟩)
    refine hK.out _ _ (hS.later hb13) (fun hS3 => ?_); clear hK K
    refine wpAnyH_take (i := 4) (v := .bool false) rfl (by kernel_rfl) (by kernel_rfl) (by kernel_rfl) (fun _ _ _ h => h) (Or.inl ⟨by kernel_rfl, ?h4t3f⟩) hS3 ?_
    case h4t3f => (rintro w2 ⟨c0, c1, c2, c3, c4, c5, hbw, hzw⟩; go_simp; exact HNE.out)
    refine wpAnyH_take (i := 5) (v := ?v5t3f) rfl (by kernel_rfl) (by kernel_rfl) (by kernel_rfl) (fun _ _ _ h => h) (Or.inl ⟨by kernel_rfl, ?h5t3f⟩) hS3 ?_
    case h5t3f => (rintro w2 ⟨c0, c1, c2, c3, c4, c5, hbw, hzw⟩; go_simp; try with_reducible rfl)
    refine wpAnyH_done (by kernel_rfl) ?_ _
    go_simp
    have HB := Lib.hid (hS3.below)
    go_wp2
    go_ret
    exact ⟨rfl, HB.out⟩
  · obtain ⟨rfl, rfl, rfl, rfl, rfl, rfl⟩ := yes_v hz
    clear hz
    go_enter Tryd.func50, Tryd.ntmps50
    go_wp2_with fail
    refine wp_region_held_drew (S := KV w ⟨3, m, e, t, b, f⟩) (by kernel_rfl) (KV.first w _).drew (fun hS => ?_)
    refine wpAnyH_take (i := 0) (v := ?v0t3t) rfl (by kernel_rfl) (by kernel_rfl) (by kernel_rfl) (fun _ _ _ h => h) (Or.inl ⟨by kernel_rfl, ?h0t3t⟩) hS ?_
    case h0t3t => (rintro w2 ⟨c0, c1, c2, c3, c4, c5, hbw, hzw⟩; go_simp; try with_reducible rfl)
    refine wpAnyH_take (i := 1) (v := ?v1t3t) rfl (by kernel_rfl) (by kernel_rfl) (by kernel_rfl) (fun _ _ _ h => h) (Or.inl ⟨by kernel_rfl, ?h1t3t⟩) hS ?_
    case h1t3t => (rintro w2 ⟨c0, c1, c2, c3, c4, c5, hbw, hzw⟩; go_simp; try with_reducible rfl)
    refine wpAnyH_take (i := 2) (v := ?v2t3t) rfl (by kernel_rfl) (by kernel_rfl) (by kernel_rfl) (fun _ _ _ h => h) (Or.inl ⟨by kernel_rfl, ?h2t3t⟩) hS ?_
    case h2t3t => (rintro w2 ⟨c0, c1, c2, c3, c4, c5, hbw, hzw⟩; go_simp; try with_reducible rfl)
    refine wpAnyH_ready (rs := [3]) (by kernel_rfl) (by simp) (AllReadyH.cons rfl (fun K hK => ?_) AllReadyH.nil)
    go_simp
    go_wp2_with (go_at_call 70; refine (HC.out _ (HE.out.below hS.below)).mono ?_; rintro e13 w13 ⟨rfl, hb13⟩)
    refine hK.out _ _ (hS.later hb13) (fun hS3 => ?_); clear hK K
    refine wpAnyH_take (i := 4) (v := .bool true) rfl (by kernel_rfl) (by kernel_rfl) (by kernel_rfl) (fun _ _ _ h => h) (Or.inl ⟨by kernel_rfl, ?h4t3t⟩) hS3 ?_
    case h4t3t => (rintro w2 ⟨c0, c1, c2, c3, c4, c5, hbw, hzw⟩; go_simp; try with_reducible rfl)
    refine wpAnyH_take (i := 5) (v := ?v5t3t) rfl (by kernel_rfl) (by kernel_rfl) (by kernel_rfl) (fun _ _ _ h => h) (Or.inl ⟨by kernel_rfl, ?h5t3t⟩) hS3 ?_
    case h5t3t => (rintro w2 ⟨c0, c1, c2, c3, c4, c5, hbw, hzw⟩; go_simp; try with_reducible rfl)
    refine wpAnyH_done (by kernel_rfl) ?_ _
    go_simp
    have HB := Lib.hid (hS3.below)
    go_wp2
    go_ret
    exact ⟨rfl, HB.out⟩
set_option maxRecDepth 100000 in
set_option maxHeartbeats 1000000 in
theorem right_4 (m e : Int) (t : ByteArray) (b : Bool) (f : Int) (hw : WfV ⟨4, m, e, t, b, f⟩) (w : World) (he : Env w) : Calls Tryd.prog 50 #[(.agg #[.int .i64 4, .int .i64 m, .int .i64 e, .string t, .bool b, .int .i64 f])] w fun r w' => r = .returned (.bool (rightV ⟨4, m, e, t, b, f⟩)) ∧ Below w.heap.size w w' := by
  obtain ⟨_, ⟨hm0, hm1⟩, ⟨he0, he1⟩, _⟩ := hw
  simp only at hm0 hm1 he0 he1
  have HE := Lib.hid he
  clear he
  have hR : rightV ⟨4, m, e, t, b, f⟩ = eqV ⟨4, m, e, t, b, f⟩ (badV f) := rfl
  rw [hR]
  clear hR
  obtain ⟨nv, hnv⟩ : ∃ nv : Vl, badV f = nv := ⟨_, rfl⟩
  obtain ⟨z, hz⟩ : ∃ z, eqV ⟨4, m, e, t, b, f⟩ nv = z := ⟨_, rfl⟩
  rw [hnv, hz]
  obtain ⟨k', m', e', t', b', f'⟩ := nv
  have HC := Lib.hid (fun W (hW : Env W) => bad_any f W hW)
  rw [hnv] at HC
  unfold vV at HC
  clear hnv
  clear hm0 hm1 he0 he1
  cases z
  · have HNE := Lib.hid (ne_v hz)
    clear hz
    go_enter Tryd.func50, Tryd.ntmps50
    go_wp2_with fail
    refine wp_region_held_drew (S := KV w ⟨4, m, e, t, b, f⟩) (by kernel_rfl) (KV.first w _).drew (fun hS => ?_)
    refine wpAnyH_take (i := 0) (v := ?v0t4f) rfl (by kernel_rfl) (by kernel_rfl) (by kernel_rfl) (fun _ _ _ h => h) (Or.inl ⟨by kernel_rfl, ?h0t4f⟩) hS ?_
    case h0t4f => (rintro w2 ⟨c0, c1, c2, c3, c4, c5, hbw, hzw⟩; go_simp; try with_reducible rfl)
    refine wpAnyH_take (i := 1) (v := ?v1t4f) rfl (by kernel_rfl) (by kernel_rfl) (by kernel_rfl) (fun _ _ _ h => h) (Or.inl ⟨by kernel_rfl, ?h1t4f⟩) hS ?_
    case h1t4f => (rintro w2 ⟨c0, c1, c2, c3, c4, c5, hbw, hzw⟩; go_simp; try with_reducible rfl)
    refine wpAnyH_take (i := 2) (v := ?v2t4f) rfl (by kernel_rfl) (by kernel_rfl) (by kernel_rfl) (fun _ _ _ h => h) (Or.inl ⟨by kernel_rfl, ?h2t4f⟩) hS ?_
    case h2t4f => (rintro w2 ⟨c0, c1, c2, c3, c4, c5, hbw, hzw⟩; go_simp; try with_reducible rfl)
    refine wpAnyH_ready (rs := [3]) (by kernel_rfl) (by simp) (AllReadyH.cons rfl (fun K hK => ?_) AllReadyH.nil)
    go_simp
    go_wp2_with (go_at_call 60; refine (HC.out _ (HE.out.below hS.below)).mono ?_; rintro e13 w13 ⟨rfl, hb13⟩)
    refine hK.out _ _ (hS.later hb13) (fun hS3 => ?_); clear hK K
    refine wpAnyH_take (i := 4) (v := .bool false) rfl (by kernel_rfl) (by kernel_rfl) (by kernel_rfl) (fun _ _ _ h => h) (Or.inl ⟨by kernel_rfl, ?h4t4f⟩) hS3 ?_
    case h4t4f => (rintro w2 ⟨c0, c1, c2, c3, c4, c5, hbw, hzw⟩; go_simp; exact HNE.out)
    refine wpAnyH_take (i := 5) (v := ?v5t4f) rfl (by kernel_rfl) (by kernel_rfl) (by kernel_rfl) (fun _ _ _ h => h) (Or.inl ⟨by kernel_rfl, ?h5t4f⟩) hS3 ?_
    case h5t4f => (rintro w2 ⟨c0, c1, c2, c3, c4, c5, hbw, hzw⟩; go_simp; try with_reducible rfl)
    refine wpAnyH_done (by kernel_rfl) ?_ _
    go_simp
    have HB := Lib.hid (hS3.below)
    go_wp2
    go_ret
    exact ⟨rfl, HB.out⟩
  · obtain ⟨rfl, rfl, rfl, rfl, rfl, rfl⟩ := yes_v hz
    clear hz
    go_enter Tryd.func50, Tryd.ntmps50
    go_wp2_with fail
    refine wp_region_held_drew (S := KV w ⟨4, m, e, t, b, f⟩) (by kernel_rfl) (KV.first w _).drew (fun hS => ?_)
    refine wpAnyH_take (i := 0) (v := ?v0t4t) rfl (by kernel_rfl) (by kernel_rfl) (by kernel_rfl) (fun _ _ _ h => h) (Or.inl ⟨by kernel_rfl, ?h0t4t⟩) hS ?_
    case h0t4t => (rintro w2 ⟨c0, c1, c2, c3, c4, c5, hbw, hzw⟩; go_simp; try with_reducible rfl)
    refine wpAnyH_take (i := 1) (v := ?v1t4t) rfl (by kernel_rfl) (by kernel_rfl) (by kernel_rfl) (fun _ _ _ h => h) (Or.inl ⟨by kernel_rfl, ?h1t4t⟩) hS ?_
    case h1t4t => (rintro w2 ⟨c0, c1, c2, c3, c4, c5, hbw, hzw⟩; go_simp; try with_reducible rfl)
    refine wpAnyH_take (i := 2) (v := ?v2t4t) rfl (by kernel_rfl) (by kernel_rfl) (by kernel_rfl) (fun _ _ _ h => h) (Or.inl ⟨by kernel_rfl, ?h2t4t⟩) hS ?_
    case h2t4t => (rintro w2 ⟨c0, c1, c2, c3, c4, c5, hbw, hzw⟩; go_simp; try with_reducible rfl)
    refine wpAnyH_ready (rs := [3]) (by kernel_rfl) (by simp) (AllReadyH.cons rfl (fun K hK => ?_) AllReadyH.nil)
    go_simp
    go_wp2_with (go_at_call 60; refine (HC.out _ (HE.out.below hS.below)).mono ?_; rintro e13 w13 ⟨rfl, hb13⟩)
    refine hK.out _ _ (hS.later hb13) (fun hS3 => ?_); clear hK K
    refine wpAnyH_take (i := 4) (v := .bool true) rfl (by kernel_rfl) (by kernel_rfl) (by kernel_rfl) (fun _ _ _ h => h) (Or.inl ⟨by kernel_rfl, ?h4t4t⟩) hS3 ?_
    case h4t4t => (rintro w2 ⟨c0, c1, c2, c3, c4, c5, hbw, hzw⟩; go_simp; try with_reducible rfl)
    refine wpAnyH_take (i := 5) (v := ?v5t4t) rfl (by kernel_rfl) (by kernel_rfl) (by kernel_rfl) (fun _ _ _ h => h) (Or.inl ⟨by kernel_rfl, ?h5t4t⟩) hS3 ?_
    case h5t4t => (rintro w2 ⟨c0, c1, c2, c3, c4, c5, hbw, hzw⟩; go_simp; try with_reducible rfl)
    refine wpAnyH_done (by kernel_rfl) ?_ _
    go_simp
    have HB := Lib.hid (hS3.below)
    go_wp2
    go_ret
    exact ⟨rfl, HB.out⟩
set_option maxRecDepth 100000 in
theorem right_0 (m e : Int) (t : ByteArray) (b : Bool) (f : Int) (w : World) : Calls Tryd.prog 50 #[.agg #[.int .i64 0, .int .i64 m, .int .i64 e, .string t, .bool b, .int .i64 f]] w fun r w' => r = .returned (.bool (rightV ⟨0, m, e, t, b, f⟩)) ∧ Below w.heap.size w w' := by
  have hR : rightV ⟨0, m, e, t, b, f⟩ = eqV ⟨0, m, e, t, b, f⟩ zV := rfl
  rw [hR]
  clear hR
  obtain ⟨z, hz⟩ : ∃ z, eqV ⟨0, m, e, t, b, f⟩ zV = z := ⟨_, rfl⟩
  have hEQ := fun W => eq_v 0 m e t b f 0 0 0 ⟨#[]⟩ false 0 W
  rw [show (⟨0, 0, 0, ⟨#[]⟩, false, 0⟩ : Vl) = zV from rfl, hz] at hEQ
  rw [hz]
  clear hz
  go_enter Tryd.func50, Tryd.ntmps50
  go_wp2
  go_ret
  exact ⟨rfl, Nm.alloc_below _ _⟩
set_option maxRecDepth 100000 in
theorem right_x (k m e : Int) (t : ByteArray) (b : Bool) (f : Int) (h0 : (k == 0) = false) (h1 : (k == 1) = false) (h2 : (k == 2) = false) (h3 : (k == 3) = false) (h4 : (k == 4) = false) (w : World) : Calls Tryd.prog 50 #[.agg #[.int .i64 k, .int .i64 m, .int .i64 e, .string t, .bool b, .int .i64 f]] w fun r w' => r = .returned (.bool false) ∧ Below w.heap.size w w' := by
  go_enter Tryd.func50, Tryd.ntmps50
  go_wp2
  go_ret
  exact ⟨rfl, Nm.alloc_below _ _⟩
/-- whether a value may be: the program -/
theorem right_any (v : Vl) (hw : WfV v) (w : World) (he : Env w) : Calls Tryd.prog 50 #[vV v] w fun r w' => r = .returned (.bool (rightV v)) ∧ Below w.heap.size w w' := by
  obtain ⟨k, m, e, t, b, f⟩ := v
  by_cases h0 : k = 0
  · subst h0; exact right_0 m e t b f w
  by_cases h1 : k = 1
  · subst h1; exact right_1 m e t b f hw w he
  by_cases h2 : k = 2
  · subst h2; exact right_2 m e t b f hw w he
  by_cases h3 : k = 3
  · subst h3; exact right_3 m e t b f hw w he
  by_cases h4 : k = 4
  · subst h4; exact right_4 m e t b f hw w he
  have hR : rightV ⟨k, m, e, t, b, f⟩ = false := by unfold rightV; simp [h0, h1, h2, h3, h4]
  rw [hR]
  exact right_x k m e t b f (by simpa using h0) (by simpa using h1) (by simpa using h2) (by simpa using h3) (by simpa using h4) w
end Go.Proofs.YtfgddhabepllfaaDoor
