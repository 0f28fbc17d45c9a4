/- DotNone: of one that isn't there, and of one that is empty. -/
import Derived.Test.YtggcnglnclpaeaaX
namespace Go.Proofs.Ytggcnglnclpaeaa
open Go.RowKit Go.Maps Go.Shelf
attribute [local go_sem] Oper.semAt_some

section
open Go.RowKit Go.Maps Go.Shelf
set_option maxRecDepth 100000 in
set_option maxHeartbeats 4000000 in
/-- a Join that leaves all as it is: into one that isn't there, or of one that has nothing -/
theorem join_idle (p q : Option Addr) (T : Nat → Prop) (K' : Nat) (m : Row) (w : World) (h : SeenP w q T K' m) (hT : ∀ k, T k → k < w.heap.size) (hK : m.length < 100000) (hN : p = none ∨ m = []) :
    Calls Try.prog 23 #[.pointer p, .pointer q] w fun e w' => e = .returned (.tuple #[]) ∧ Below w.heap.size w w' := by
  obtain ⟨L, rfl⟩ := row_ids h.ok
  refine (callsIn_wide (n := 6)).1 ?_
  refine callsIn_of_wp_marks Try.func23 rfl trivial ?_ rfl
  simp only [Try.ntmps23, List.size_toArray, List.length_cons, List.length_nil, Nat.reduceAdd, Nat.reduceSub, Array.replicate_succ, Array.replicate_zero, List.push_toArray, List.append_toArray, List.nil_append, List.cons_append]
  have hfA : Fence.wide.fn 30 := trivial
  gi_wp2_with (gi_at_call 30; refine (callsIn_wide.2 (all_call _ _)).mono ?_; rintro e w' ⟨rfl, rfl⟩)
  have hsz : ((w.alloc (Obj.cells #[Value.pointer p] 26)).alloc (Obj.cells #[Value.pointer q] 26)).heap.size = w.heap.size + 2 := by simp
  have hb0 : Below w.heap.size w ((w.alloc (Obj.cells #[Value.pointer p] 26)).alloc (Obj.cells #[Value.pointer q] 26)) := ((Below.refl _ w).alloc (Nat.le_refl _) _).alloc (by simp) _
  have h2 : Boxed ((w.alloc (Obj.cells #[Value.pointer p] 26)).alloc (Obj.cells #[Value.pointer q] 26)) (w.heap.size + 1) 26 (.pointer q) := by
    have := Boxed.new (w.alloc (Obj.cells #[Value.pointer p] 26)) 26 (.pointer q)
    simpa using this
  have h3 : Boxed ((w.alloc (Obj.cells #[Value.pointer p] 26)).alloc (Obj.cells #[Value.pointer q] 26)) w.heap.size 26 (.pointer p) := (Boxed.new w 26 (.pointer p)).alloc _
  obtain ⟨W0, hW0⟩ : ∃ W0, ((w.alloc (Obj.cells #[Value.pointer p] 26)).alloc (Obj.cells #[Value.pointer q] 26)) = W0 := ⟨_, rfl⟩
  rw [hW0] at hsz hb0 h2 h3 ⊢
  clear hW0
  have h4 := h.below hb0
  have hlen : L.length < 100000 := by simp at hK; omega
  refine range_goes (F := Fence.wide) rfl (by omega) (gf := 32) (lb := #[.pointer (some ⟨w.heap.size + 1, 0, none⟩)]) rfl trivial (enters_of Try.func32 (by kernel_rfl) rfl)
    (all_runs 5 (by omega) (w.heap.size + 1) K' q T (fun k => T k ∨ k = w.heap.size + 1) L W0 h2 h4 (by omega) (.inr rfl) (fun k hk => .inl hk)) Keep.trans
    (keep_put (w := W0) (fun k hk => by rcases hk with hk | hk; have := hT k hk; omega; omega)) (Below.refl _ _) (fun _ => rfl)
    (fun _ W => Boxed W w.heap.size 26 (.pointer p) ∧ Only (fun _ => False) W0 W)
    (OwnRec.and (boxed_rec _ _ _ _) (only_rec (Nat.le_refl _)))
    ⟨h3, Only.refl _ _⟩ ?a₁ ?assign ?body ?done
  case assign =>
    intro l x W K hK
    gi_wp2
    exact hK
  case body =>
    rintro lp pre x W ⟨hb, hO⟩ hlt
    rcases hN with rfl | hN
    · have hc := hb.cell
      have HN := Lib.hid (add_none x.1.1 x.1.2 W)
      have HB := Lib.hid hb
      clear hb
      have hfN : Fence.wide.fn 13 := trivial
      unfold idV at HN
      gi_wp2_with (gi_at_call 13; refine (CallsIn.inRound lp (callsIn_wide.2 HN.out)).mono ?_; rintro e w1 ⟨rfl, hb1⟩)
      have hO1 := Only.of_below hb1
      refine ⟨KeepsRec.of_only hO1 ?_, Keep.of_only hO1 ?_, ?_, ?_⟩
      · intro k o hk ho
        have := (Array.getElem?_eq_some_iff.1 ho).1
        omega
      · intro k hk hz
        omega
      · exact box_kept HB.out (hO1.block _ (box_lt HB.out) (fun hf => by have := box_lt HB.out; omega))
      · exact hO.trans hO1 (fun b hb hz => by have := hO.size; omega)
    · have hl : L.length = 0 := by
        have h9 : (L.map (·.1)).length = 0 := by rw [hN]; rfl
        simpa using h9
      omega
  case done =>
    rintro D W hD ⟨hb, hO⟩ hK'
    gi_wp2
    refine ⟨by simp, .inl ⟨_, _, rfl, run_takeDeferred hK', ?_⟩⟩
    refine ⟨.tuple #[], by simp [results, Try.f23, go_sem], rfl, ?_⟩
    exact below_put (hb0.trans ((hO.below (Nat.le_refl _) (fun _ hf => hf.elim)).mono hb0.size)) (by omega) _
end

theorem cov_nil {l : Row} (ho : OkR l) : covB [] l = ((l.length : Int) == 0) := by
  cases l with
  | nil => rfl
  | cons p l =>
    have h1 := (mayB_iff _ _).1 (ho.may p (by simp))
    have h2 : covB [] (p :: l) = false := by
      unfold covB
      simp only [List.all_cons, Bool.and_eq_false_iff]
      left
      unfold hasB look
      simp
      omega
    rw [h2]
    symm
    simp
    omega

theorem none_long (u : Value) (la : Row) (x y author : Int) (w : World) (ha : IdsAt w u la) (h : 100 < la.length) :
    Calls Try.prog 7 #[idV x y, u, .int .i64 author] w fun e w' => e = .returned (.bool true) ∧ Below w.heap.size w w' := by
  obtain ⟨A, c, rfl, _, _⟩ := ha
  unfold idV
  have hb0 : Below w.heap.size w (w.alloc (.cells #[.int .i64 x, .int .i64 y] 24)) := (Below.refl _ _).alloc (Nat.le_refl _) _
  have HB0 := Lib.hid hb0
  clear hb0
  go_enter Try.func7, Try.ntmps7
  go_wp2_with (go_at_call 10; refine (awake_any _).mono ?_; rintro e w1 ⟨rfl, hb1⟩)
  go_ret
  exact ⟨rfl, HB0.out.trans (hb1.mono HB0.out.size)⟩

set_option maxHeartbeats 12800000 in
set_option maxRecDepth 100000 in
theorem none_short (u : Value) (la : Row) (x y author : Int) (w : World) (ha : IdsAt w u la) (sa : Small la) (p1 : -9223372036854775808 ≤ x) (p2 : x ≤ 9223372036854775807) (p4 : y ≤ 9223372036854775807) (h : ¬ 100 < la.length) :
    Calls Try.prog 7 #[idV x y, u, .int .i64 author] w fun e w' => e = .returned (.bool true) ∧ Below w.heap.size w w' := by
  have okA := adds_ok sa
  have nA := addsL_len [] la
  simp only [List.length_nil, Nat.zero_add] at nA
  obtain ⟨L, hL⟩ : ∃ l, addsL [] la = l := ⟨_, rfl⟩
  rw [hL] at okA nA
  have hz := cov_nil okA
  obtain ⟨rz, hrz⟩ : ∃ r, covB [] L = r := ⟨_, rfl⟩
  rw [hrz] at hz
  have RZ := Lib.hid hrz
  have HZ := Lib.hid hz
  have r0 : hasB [] x y = false := by
    unfold hasB look
    cases hm : mayB x y with
    | false => rfl
    | true => have := (mayB_iff _ _).1 hm; simp; omega
  obtain ⟨rm, hrm⟩ : ∃ r, mayB x y = r := ⟨_, rfl⟩
  have r5 : addB [] x y = rm := by unfold addB; rw [r0, hrm]; simp
  obtain ⟨a0, n0, hnx⟩ : ∃ a n, nextL [] author = (a, n) := ⟨_, _, rfl⟩
  have R0 := Lib.hid r0
  have R3 := Lib.hid hnx
  have R5 := Lib.hid r5
  have R6 := Lib.hid hrm
  have HA := Lib.hid ha
  have SA := Lib.hid sa
  have EL := Lib.hid hL
  obtain ⟨A, c, rfl, hc, _⟩ := ha
  clear sa okA hL hrz hz r0 hrm r5 hnx
  unfold idV
  have hb0 : Below w.heap.size w (w.alloc (.cells #[.int .i64 x, .int .i64 y] 24)) := (Below.refl _ _).alloc (Nat.le_refl _) _
  have hn0 : NB w.heap.size x y (w.alloc (.cells #[.int .i64 x, .int .i64 y] 24)) := ⟨(World.cell?_alloc_new _ _ _ _).trans rfl, (World.cell?_alloc_new _ _ _ _).trans rfl, by simp⟩
  have HB0 := Lib.hid hb0
  have HN0 := Lib.hid hn0
  clear hb0 hn0
  go_enter Try.func7, Try.ntmps7
  go_wp2_with (go_at_call 10; refine (awake_any _).mono ?_; rintro e w1 ⟨rfl, hb1⟩)
  have B1 := Lib.hid (HB0.out.trans (hb1.mono HB0.out.size))
  have N1 := Lib.hid (HN0.out.below hb1)
  have z1 := B1.out.size
  clear hb1 HB0 HN0
  obtain ⟨w2, hw2⟩ : ∃ w2, w1.alloc (.cells #[.map none] 47) = w2 := ⟨_, rfl⟩
  rw [hw2]
  have hb2 : Below w1.heap.size w1 w2 := by rw [← hw2]; exact (Below.refl _ _).alloc (Nat.le_refl _) _
  have z2 : w1.heap.size < w2.heap.size := by rw [← hw2]; simp
  have Z2 := Lib.hid (show SeenAt w2 w1.heap.size (fun b => b = w1.heap.size) 0 [] from ⟨rfl, OkR.nil, .inl ⟨by rw [← hw2]; exact Boxed.new w1 47 (.map none), rfl⟩⟩)
  have B2 := Lib.hid (B1.out.trans (hb2.mono B1.out.size))
  have N2 := Lib.hid (N1.out.below hb2)
  obtain ⟨zs, hzs⟩ : ∃ zs, w1.heap.size = zs := ⟨_, rfl⟩
  rw [hzs] at z1 z2 Z2 ⊢
  have XW := Lib.hid z1
  clear hb2 hw2 B1 N1 hzs
  refine (of_any _ la w2 (HA.out.below B2.out) SA.out (by omega)).mono ?_
  rintro e w3 ⟨v10, rfl, hs3, hi3, hb3⟩
  rw [EL.out] at hs3 hi3
  have S9 := Lib.hid hs3.tight
  have P9 := Lib.hid (seenP_mk hs3.tight)
  have I9 := Lib.hid hi3
  have Z3 := Lib.hid (Z2.out.later hb3)
  have N3 := Lib.hid (N2.out.below hb3)
  have B3 := Lib.hid (B2.out.trans (hb3.mono B2.out.size))
  have z3 := hb3.size
  clear hb3 hs3 Z2 N2 B2
  obtain ⟨A10, c10, rfl, hc10, _⟩ := hi3
  have hzn := HZ.out.symm
  have PN : Hid (SeenP w3 none (fun _ => False) 0 []) := Lib.hid (.inl ⟨rfl, rfl⟩)
  have IN0 : Hid (IdsAt w3 (.slice none 0 0) []) := Lib.hid ⟨none, 0, rfl, Nat.le_refl _, by simp⟩
  have hS9 : ∀ b, (w2.heap.size ≤ b ∧ b < w3.heap.size) → b < w3.heap.size := fun b hb => hb.2
  have TS := Lib.hid hS9
  clear hS9
  go_wp2_with fail
  refine (join_idle none _ _ _ L w3 P9.out TS.out (by omega) (.inl rfl)).mono ?_
  rintro e w4 ⟨rfl, hb4⟩
  have C4 := Lib.hid (hb4)
  clear hb4
  obtain ⟨e0, e1, _⟩ := N3.out.below C4.out
  go_wp2_with fail
  clear e0 e1
  refine (add_none x y w4).mono ?_
  rintro e w5 ⟨rfl, hb5⟩
  have C5 := Lib.hid (C4.out.trans (hb5.mono C4.out.size))
  clear hb5 C4
  obtain ⟨e0, e1, _⟩ := N3.out.below C5.out
  go_wp2_with fail
  clear e0 e1
  refine (has_on PN.out p1 p2 R0.out C5.out).mono ?_
  rintro e w6 ⟨rfl, hb6⟩
  have C6 := Lib.hid (C5.out.trans (hb6.mono C5.out.size))
  clear hb6 C5
  go_wp2_with fail
  refine (next_on PN.out (fun _ hf => hf.elim) (by decide) R3.out C6.out).mono ?_
  rintro e w7 ⟨rfl, hb7⟩
  have C7 := Lib.hid (C6.out.trans (hb7.mono C6.out.size))
  clear hb7 C6
  go_wp2_with fail
  refine (rnext_on IN0.out OkR.nil (by decide) R3.out C7.out).mono ?_
  rintro e w8 ⟨rfl, hb8⟩
  have C8 := Lib.hid (C7.out.trans (hb8.mono C7.out.size))
  clear hb8 C7
  go_wp2_with fail
  refine (same_on PN.out (fun _ hf => hf.elim) (by decide) IN0.out C8.out).mono ?_
  rintro e w9 ⟨rfl, hb9⟩
  have C9 := Lib.hid (C8.out.trans (hb9.mono C8.out.size))
  clear hb9 C8
  go_wp2_with fail
  refine (clone_any none _ 0 [] w9 (PN.out.below C9.out) (fun _ hf => hf.elim) (by decide)).mono ?_
  rintro e w10 ⟨rfl, _, hb10⟩
  have C10 := Lib.hid (C9.out.trans (hb10.mono C9.out.size))
  clear hb10 C9
  go_wp2_with fail
  refine (clone_any none _ 0 [] w10 (PN.out.below C10.out) (fun _ hf => hf.elim) (by decide)).mono ?_
  rintro e w11 ⟨rfl, hs11, hb11⟩
  have CL := Lib.hid (seenP_mk hs11.tight)
  clear hs11
  have C11 := Lib.hid (C10.out.trans (hb11.mono C10.out.size))
  clear hb11 C10
  go_wp2_with fail
  refine (same_on CL.out (fun _ hb => hb.2) (by decide) (IN0.out.below C11.out) (Below.refl _ _)).mono ?_
  rintro e w12 ⟨rfl, hb12⟩
  have C12 := Lib.hid (C11.out.trans (hb12.mono C11.out.size))
  clear hb12 C11
  go_wp2_with fail
  refine (covers_on P9.out PN.out (fun _ hf => hf.elim) (by decide) (show covB L [] = true from rfl) C12.out).mono ?_
  rintro e w13 ⟨rfl, hb13⟩
  have C13 := Lib.hid (C12.out.trans (hb13.mono C12.out.size))
  clear hb13 C12
  go_wp2_with fail
  refine (covers_on PN.out P9.out TS.out (by omega) RZ.out C13.out).mono ?_
  rintro e w14 ⟨rfl, hb14⟩
  have C14 := Lib.hid (C13.out.trans (hb14.mono C13.out.size))
  clear hb14 C13
  go_wp2_with fail
  refine (covers_on PN.out PN.out (fun _ hf => hf.elim) (by decide) (show covB [] [] = true from rfl) C14.out).mono ?_
  rintro e w15 ⟨rfl, hb15⟩
  have C15 := Lib.hid (C14.out.trans (hb15.mono C14.out.size))
  clear hb15 C14
  have z15 := C15.out.size
  have CD : Hid (Below w3.heap.size w3 w15.drew) := Lib.hid C15.out.drew
  have HN7 : Hid (NB w.heap.size x y w15.drew) := Lib.hid (N3.out.below CD.out)
  have BD : Hid (Below w.heap.size w w15.drew) := Lib.hid (B3.out.trans (C15.out.mono B3.out.size)).drew
  have ZS : Hid (SeenAt w15.drew zs (fun b => b = zs) 0 []) := Lib.hid (Z3.out.later CD.out)
  have ZP : Hid (SeenP w15.drew (some ⟨zs, 0, none⟩) (fun b => b = zs) 0 []) := Lib.hid (seenP_mk ZS.out)
  have TZ : Hid (∀ b, b = zs → b < w15.drew.heap.size) := Lib.hid (fun b hb => by rw [hb]; exact ZS.out.lt)
  have IN : Hid (IdsAt w15.drew (.slice none 0 0) []) := Lib.hid (IN0.out.below CD.out)
  have XZ := Lib.hid z2
  have S9d : Hid (SeenAt w15.drew w2.heap.size (fun b => w2.heap.size ≤ b ∧ b < w3.heap.size) la.length L) := Lib.hid (S9.out.later CD.out)
  have P9d : Hid (SeenP w15.drew (some ⟨w2.heap.size, 0, none⟩) (fun b => w2.heap.size ≤ b ∧ b < w3.heap.size) la.length L) := Lib.hid (P9.out.below CD.out)
  have T9 : Hid (∀ b, (w2.heap.size ≤ b ∧ b < w3.heap.size) → b < w15.drew.heap.size) := Lib.hid (fun b hb => Nat.lt_of_lt_of_le hb.2 z15)
  have I10 : Hid (IdsAt w15.drew (.slice A10 L.length c10) L) := Lib.hid (I9.out.below CD.out)
  clear S9 P9 I9 TS PN IN0 Z3 N3 B3 C15 CL z2 z15
  have S9 := S9d
  have P9 := P9d
  clear S9d P9d CD
  go_wp2_with fail
  refine wp_region_held_drew (S := NB w.heap.size x y) (by kernel_rfl) HN7.out (fun hS => ?_)
  refine wpAnyH_take (i := 0) (v := ?v0a) rfl (by kernel_rfl) (by kernel_rfl) (by kernel_rfl) (fun _ _ _ h => h) (Or.inl ⟨by kernel_rfl, ?h0a⟩) hS ?_
  case h0a => (rintro w2 ⟨e0, e1, _⟩; go_simp; try with_reducible rfl)
  refine wpAnyH_ready (rs := [1]) (by kernel_rfl) (by simp) (AllReadyH.cons rfl (fun K hK => ?_) AllReadyH.nil)
  go_simp
  go_wp2_with (go_at_call 15; refine (has_on ZP.out p1 p2 R0.out (Below.refl _ _)).mono ?_; rintro e w30 ⟨rfl, hb30⟩)
  refine hK.out _ _ (hS.below hb30) (fun hS1 => ?_); clear hK K
  have D30 := Lib.hid (hb30)
  clear hb30
  refine wpAnyH_take (i := 2) (v := ?v2a) rfl (by kernel_rfl) (by kernel_rfl) (by kernel_rfl) (fun _ _ _ h => h) (Or.inl ⟨by kernel_rfl, ?h2a⟩) hS1 ?_
  case h2a => (rintro w2 ⟨e0, e1, _⟩; go_simp; try with_reducible rfl)
  refine wpAnyH_ready (rs := [3]) (by kernel_rfl) (by simp) (AllReadyH.cons rfl (fun K hK => ?_) AllReadyH.nil)
  go_simp
  go_wp2_with (go_at_call 14; refine (same_on ZP.out TZ.out (by decide) IN.out D30.out).mono ?_; rintro e w31 ⟨rfl, hb31⟩)
  refine hK.out _ _ (hS1.below hb31) (fun hS3 => ?_); clear hK K
  have D31 := Lib.hid (D30.out.trans (hb31.mono D30.out.size))
  clear hb31
  refine wpAnyH_take (i := 4) (v := ?v4a) rfl (by kernel_rfl) (by kernel_rfl) (by kernel_rfl) (fun _ _ _ h => h) (Or.inl ⟨by kernel_rfl, ?h4a⟩) hS3 ?_
  case h4a => (rintro w2 ⟨e0, e1, _⟩; go_simp; try with_reducible rfl)
  refine wpAnyH_take (i := 5) (v := ?v5a) rfl (by kernel_rfl) (by kernel_rfl) (by kernel_rfl) (fun _ _ _ h => h) (Or.inl ⟨by kernel_rfl, ?h5a⟩) hS3 ?_
  case h5a => (rintro w2 ⟨e0, e1, _⟩; go_simp; try with_reducible rfl)
  refine wpAnyH_take (i := 6) (v := ?v6a) rfl (by kernel_rfl) (by kernel_rfl) (by kernel_rfl) (fun _ _ _ h => h) (Or.inl ⟨by kernel_rfl, ?h6a⟩) hS3 ?_
  case h6a => (rintro w2 ⟨e0, e1, _⟩; go_simp; try with_reducible rfl)
  refine wpAnyH_take (i := 7) (v := ?v7a) rfl (by kernel_rfl) (by kernel_rfl) (by kernel_rfl) (fun _ _ _ h => h) (Or.inl ⟨by kernel_rfl, ?h7a⟩) hS3 ?_
  case h7a => (rintro w2 ⟨e0, e1, _⟩; go_simp; try with_reducible rfl)
  refine wpAnyH_take (i := 9) (v := ?v9a) rfl (by kernel_rfl) (by kernel_rfl) (by kernel_rfl) (fun _ _ _ h => h) (Or.inl ⟨by kernel_rfl, ?h9a⟩) hS3 ?_
  case h9a => (rintro w2 ⟨e0, e1, _⟩; go_simp; try with_reducible rfl)
  refine wpAnyH_take (i := 10) (v := ?v10a) rfl (by kernel_rfl) (by kernel_rfl) (by kernel_rfl) (fun _ _ _ h => h) (Or.inl ⟨by kernel_rfl, ?h10a⟩) hS3 ?_
  case h10a => (rintro w2 ⟨e0, e1, _⟩; go_simp; try with_reducible rfl)
  refine wpAnyH_take (i := 11) (v := ?v11a) rfl (by kernel_rfl) (by kernel_rfl) (by kernel_rfl) (fun _ _ _ h => h) (Or.inl ⟨by kernel_rfl, ?h11a⟩) hS3 ?_
  case h11a => (rintro w2 ⟨e0, e1, _⟩; go_simp; try with_reducible rfl)
  refine wpAnyH_ready (rs := [8]) (by kernel_rfl) (by simp) (AllReadyH.cons rfl (fun K hK => ?_) AllReadyH.nil)
  go_simp
  go_wp2_with (go_at_call 20; refine (covers_on ZP.out P9.out T9.out (by omega) RZ.out D31.out).mono ?_; rintro e w32 ⟨rfl, hb32⟩)
  refine hK.out _ _ (hS3.below hb32) (fun hS8 => ?_); clear hK K
  have D32 := Lib.hid (D31.out.trans (hb32.mono D31.out.size))
  clear hb32
  refine wpAnyH_take (i := 12) (v := ?v12a) rfl (by kernel_rfl) (by kernel_rfl) (by kernel_rfl) (fun _ _ _ h => h) (Or.inl ⟨by kernel_rfl, ?h12a⟩) hS8 ?_
  case h12a => (rintro w2 ⟨e0, e1, _⟩; go_simp; try with_reducible rfl)
  refine wpAnyH_take (i := 13) (v := ?v13a) rfl (by kernel_rfl) (by kernel_rfl) (by kernel_rfl) (fun _ _ _ h => h) (Or.inl ⟨by kernel_rfl, ?h13a⟩) hS8 ?_
  case h13a => (rintro w2 ⟨e0, e1, _⟩; go_simp; try with_reducible rfl)
  refine wpAnyH_take (i := 14) (v := ?v14a) rfl (by kernel_rfl) (by kernel_rfl) (by kernel_rfl) (fun _ _ _ h => h) (Or.inl ⟨by kernel_rfl, ?h14a⟩) hS8 ?_
  case h14a => (rintro w2 ⟨e0, e1, _⟩; go_simp; try with_reducible rfl)
  refine wpAnyH_take (i := 15) (v := ?v15a) rfl (by kernel_rfl) (by kernel_rfl) (by kernel_rfl) (fun _ _ _ h => h) (Or.inl ⟨by kernel_rfl, ?h15a⟩) hS8 ?_
  case h15a => (rintro w2 ⟨e0, e1, _⟩; go_simp; try with_reducible rfl)
  refine wpAnyH_take (i := 17) (v := ?v17a) rfl (by kernel_rfl) (by kernel_rfl) (by kernel_rfl) (fun _ _ _ h => h) (Or.inl ⟨by kernel_rfl, ?h17a⟩) hS8 ?_
  case h17a => (rintro w2 ⟨e0, e1, _⟩; go_simp; try with_reducible rfl)
  refine wpAnyH_ready (rs := [16]) (by kernel_rfl) (by simp) (AllReadyH.cons rfl (fun K hK => ?_) AllReadyH.nil)
  go_simp
  go_wp2_with (go_at_call 17; refine (next_on ZP.out TZ.out (by decide) R3.out D32.out).mono ?_; rintro e w33 ⟨rfl, hb33⟩)
  refine hK.out _ _ (hS8.below hb33) (fun hS16 => ?_); clear hK K
  have D33 := Lib.hid (D32.out.trans (hb33.mono D32.out.size))
  clear hb33
  refine wpAnyH_ready (rs := [18]) (by kernel_rfl) (by simp) (AllReadyH.cons rfl (fun K hK => ?_) AllReadyH.nil)
  go_simp
  go_wp2_with (go_at_call 18; refine (rnext_on IN.out OkR.nil (by decide) R3.out D33.out).mono ?_; rintro e w34 ⟨rfl, hb34⟩)
  refine hK.out _ _ (hS16.below hb34) (fun hS18 => ?_); clear hK K
  have D34 := Lib.hid (D33.out.trans (hb34.mono D33.out.size))
  clear hb34
  refine wpAnyH_take (i := 19) (v := ?v19a) rfl (by kernel_rfl) (by kernel_rfl) (by kernel_rfl) (fun _ _ _ h => h) (Or.inl ⟨by kernel_rfl, ?h19a⟩) hS18 ?_
  case h19a => (rintro w2 ⟨e0, e1, _⟩; go_simp; try with_reducible rfl)
  refine wpAnyH_take (i := 20) (v := ?v20a) rfl (by kernel_rfl) (by kernel_rfl) (by kernel_rfl) (fun _ _ _ h => h) (Or.inl ⟨by kernel_rfl, ?h20a⟩) hS18 ?_
  case h20a => (rintro w2 ⟨e0, e1, _⟩; go_simp; try with_reducible rfl)
  refine wpAnyH_take (i := 21) (v := ?v21a) rfl (by kernel_rfl) (by kernel_rfl) (by kernel_rfl) (fun _ _ _ h => h) (Or.inl ⟨by kernel_rfl, ?h21a⟩) hS18 ?_
  case h21a => (rintro w2 ⟨e0, e1, _⟩; go_simp; try with_reducible rfl)
  refine wpAnyH_take (i := 22) (v := ?v22a) rfl (by kernel_rfl) (by kernel_rfl) (by kernel_rfl) (fun _ _ _ h => h) (Or.inl ⟨by kernel_rfl, ?h22a⟩) hS18 ?_
  case h22a => (rintro w2 ⟨e0, e1, _⟩; go_simp; try with_reducible rfl)
  refine wpAnyH_take (i := 24) (v := ?v24a) rfl (by kernel_rfl) (by kernel_rfl) (by kernel_rfl) (fun _ _ _ h => h) (Or.inl ⟨by kernel_rfl, ?h24a⟩) hS18 ?_
  case h24a => (rintro w2 ⟨e0, e1, _⟩; go_simp; try with_reducible rfl)
  refine wpAnyH_ready (rs := [23]) (by kernel_rfl) (by simp) (AllReadyH.cons rfl (fun K hK => ?_) AllReadyH.nil)
  go_simp
  go_wp2_with (go_at_call 13; refine (add_any zs (fun b => b = zs) 0 [] x y _ (ZS.out.later D34.out) p1 p2 p4 (by decide)).mono ?_; rw [R5.out]; rintro e w35 ⟨rfl, _, ho35⟩)
  refine hK.out _ _ (hS18.foot (ZS.out.later D34.out) ho35) (fun hS23 => ?_); clear hK K
  have F9 := Lib.hid ((S9.out.later D34.out).kept ho35 (fun b hb _ hf => by have h5 := XZ.out; have h6 : b = zs := (by rcases hf with hf | ⟨hf, _⟩ <;> exact hf); have h7 : w2.heap.size ≤ b := hb.1; omega))
  have F10 := Lib.hid ((I10.out.below D34.out).foot (ZS.out.later D34.out) ho35)
  have D35 := Lib.hid (BD.out.trans ((D34.out.mono BD.out.size).trans (foot_below ho35 (Nat.le_trans BD.out.size D34.out.size) XW.out (fun b hb => by have h5 := XW.out; have h6 : b = zs := hb; omega))))
  have z35 := ho35.size
  clear ho35
  refine wpAnyH_ready (rs := [25]) (by kernel_rfl) (by simp) (AllReadyH.cons rfl (fun K hK => ?_) AllReadyH.nil)
  go_simp
  go_wp2_with (go_at_call 27; refine (may_any x y _).mono ?_; rw [R6.out]; rintro e w36 ⟨rfl, hb36⟩)
  refine hK.out _ _ (hS23.below hb36) (fun hS25 => ?_); clear hK K
  have G9 := Lib.hid (F9.out.later hb36)
  have G10 := Lib.hid (F10.out.below hb36)
  have D36 := Lib.hid (D35.out.trans (hb36.mono D35.out.size))
  have z36 := hb36.size
  clear hb36 F9 F10
  refine wpAnyH_take (i := 26) (v := ?v26a) rfl (by kernel_rfl) (by kernel_rfl) (by kernel_rfl) (fun _ _ _ h => h) (Or.inl ⟨by kernel_rfl, ?h26a⟩) hS25 ?_
  case h26a => (rintro w2 ⟨e0, e1, _⟩; go_simp; try with_reducible rfl)
  refine wpAnyH_take (i := 27) (v := ?v27a) rfl (by kernel_rfl) (by kernel_rfl) (by kernel_rfl) (fun _ _ _ h => h) (Or.inl ⟨by kernel_rfl, ?h27a⟩) hS25 ?_
  case h27a => (rintro w2 ⟨e0, e1, _⟩; go_simp; try with_reducible rfl)
  refine wpAnyH_done (by kernel_rfl) ?_ _
  go_simp
  go_wp2_with fail
  refine (join_idle (some ⟨w2.heap.size, 0, none⟩) none (fun _ => False) 0 [] w36 (.inl ⟨rfl, rfl⟩) (fun _ hf => hf.elim) (by decide) (.inr rfl)).mono ?_
  rintro e w37 ⟨rfl, hb37⟩
  have D37 := Lib.hid hb37
  clear hb37
  have Q9 := Lib.hid (seenP_mk G9.out.tight)
  go_wp2_with fail
  refine (same_on Q9.out (fun b hb => hb.2) (by omega) G10.out D37.out).mono ?_
  rintro e w38 ⟨rfl, hb38⟩
  have D38 := Lib.hid (D37.out.trans (hb38.mono D37.out.size))
  clear hb38
  go_wp2
  go_ret
  exact ⟨rfl, D36.out.trans (D38.out.mono D36.out.size)⟩

/-- DotNone, of any row of ids, any id and any author -/
theorem none_any {w : World} (x y : Int) (hq : (-9223372036854775808 ≤ x ∧ x ≤ 9223372036854775807) ∧ -9223372036854775808 ≤ y ∧ y ≤ 9223372036854775807) (u : Value) (la : Row) (ha : IdsAt w u la) (sa : Small la) (author : Int) (_ : -9223372036854775808 ≤ author ∧ author ≤ 9223372036854775807) :
    Calls Try.prog 7 #[idV x y, u, .int .i64 author] w fun e w' => e = .returned (.bool true) ∧ Below w.heap.size w w' := by
  by_cases h : 100 < la.length
  · exact none_long u la x y author w ha h
  · exact none_short u la x y author w ha sa hq.1.1 hq.1.2 hq.2.2 h
end Go.Proofs.Ytggcnglnclpaeaa
