/- The law's Same: is what is seen such a row? -/
import Derived.Test.YtggcnglnclpaeaaG
import Derived.Test.YtggcnglnclpaeaaK
namespace Go.Proofs.Ytggcnglnclpaeaa
open Go.RowKit Go.Maps Go.Shelf
attribute [local go_sem] Oper.semAt_some

theorem prefix_snoc {l m : Row} {p : Int × Int} : l ++ [p] <+: m ↔ l <+: m ∧ m[l.length]? = some p := by
  constructor
  · rintro ⟨t, rfl⟩
    exact ⟨⟨p :: t, by simp⟩, by simp⟩
  · rintro ⟨⟨t, rfl⟩, h⟩
    cases t with
    | nil => simp at h
    | cons q t => simp at h; subst h; exact ⟨t, by simp⟩

theorem func_eq (x : Array Value) (w : World) : (binOp .eql 53 (.func (.func 32) #[] x) Value.nilFunc).run Try.prog w = .ok (.bool false) w := by rfl
set_option maxRecDepth 100000 in
set_option maxHeartbeats 4000000 in
theorem same_any (p : Option Addr) (S : Nat → Prop) (K : Nat) (l m : Row) (v : Value) (w : World) (h : SeenP w p S K l) (hS : ∀ k, S k → k < w.heap.size) (hlen : l.length ≤ 100000) (hv : IdsAt w v m) :
    Calls Try.prog 14 #[.pointer p, v] w fun e w' => e = .returned (.int .i64 (if l = m then 1 else 0)) ∧ Below w.heap.size w w' := by
  obtain ⟨L, rfl⟩ := row_ids h.ok
  obtain ⟨r, hr⟩ : ∃ r, (if L.map (·.1) = m then (1 : Int) else 0) = r := ⟨_, rfl⟩
  rw [hr]
  have HRR := Lib.hid hr
  clear hr
  have hv' := hv
  obtain ⟨A, c, rfl, hc, hI⟩ := hv'
  refine (callsIn_wide (n := 6)).1 ?_
  refine callsIn_of_wp_marks Try.func14 rfl trivial ?_ rfl
  simp only [Try.ntmps14, List.size_toArray, List.length_cons, List.length_nil, Nat.reduceAdd, Nat.reduceSub, Array.replicate_succ, Array.replicate_zero, List.push_toArray, List.append_toArray, List.nil_append, List.cons_append]
  have hfA : Fence.wide.fn 30 := trivial
  have HI := Lib.hid hI
  clear hI
  have hfe := func_eq #[.pointer (some ⟨w.heap.size + 1 + 1 + 1, 0, none⟩)] ((((w.alloc (Obj.cells #[Value.slice A (List.length m) c] 22)).alloc (Obj.cells #[Value.int IntKind.i64 0] 3)).alloc (Obj.cells #[Value.int IntKind.i64 0] 3)).alloc (Obj.cells #[Value.pointer p] 26))
  gi_wp2_with (gi_at_call 30; refine (callsIn_wide.2 (all_call _ _)).mono ?_; rintro e w' ⟨rfl, rfl⟩)
  have hsz : ((((w.alloc (Obj.cells #[Value.slice A (List.length m) c] 22)).alloc (Obj.cells #[Value.int IntKind.i64 0] 3)).alloc (Obj.cells #[Value.int IntKind.i64 0] 3)).alloc (Obj.cells #[Value.pointer p] 26)).heap.size = w.heap.size + 4 := by simp
  have hb0 : Below w.heap.size w ((((w.alloc (Obj.cells #[Value.slice A (List.length m) c] 22)).alloc (Obj.cells #[Value.int IntKind.i64 0] 3)).alloc (Obj.cells #[Value.int IntKind.i64 0] 3)).alloc (Obj.cells #[Value.pointer p] 26)) := ((((Below.refl _ w).alloc (Nat.le_refl _) _).alloc (by simp) _).alloc (by simp; omega) _).alloc (by simp; omega) _
  have h0 : Boxed ((((w.alloc (Obj.cells #[Value.slice A (List.length m) c] 22)).alloc (Obj.cells #[Value.int IntKind.i64 0] 3)).alloc (Obj.cells #[Value.int IntKind.i64 0] 3)).alloc (Obj.cells #[Value.pointer p] 26)) w.heap.size 22 (.slice A m.length c) := (((Boxed.new w 22 (.slice A m.length c)).alloc _).alloc _).alloc _
  have h1 : Boxed ((((w.alloc (Obj.cells #[Value.slice A (List.length m) c] 22)).alloc (Obj.cells #[Value.int IntKind.i64 0] 3)).alloc (Obj.cells #[Value.int IntKind.i64 0] 3)).alloc (Obj.cells #[Value.pointer p] 26)) (w.heap.size + 1) 3 (.int .i64 0) := by
    have := ((Boxed.new (w.alloc (Obj.cells #[Value.slice A (List.length m) c] 22)) 3 (.int .i64 0)).alloc (Obj.cells #[Value.int IntKind.i64 0] 3)).alloc (Obj.cells #[Value.pointer p] 26)
    simpa using this
  have h2 : Boxed ((((w.alloc (Obj.cells #[Value.slice A (List.length m) c] 22)).alloc (Obj.cells #[Value.int IntKind.i64 0] 3)).alloc (Obj.cells #[Value.int IntKind.i64 0] 3)).alloc (Obj.cells #[Value.pointer p] 26)) (w.heap.size + 1 + 1) 3 (.int .i64 0) := by
    have := (Boxed.new ((w.alloc (Obj.cells #[Value.slice A (List.length m) c] 22)).alloc (Obj.cells #[Value.int IntKind.i64 0] 3)) 3 (.int .i64 0)).alloc (Obj.cells #[Value.pointer p] 26)
    simpa using this
  have h3 : Boxed ((((w.alloc (Obj.cells #[Value.slice A (List.length m) c] 22)).alloc (Obj.cells #[Value.int IntKind.i64 0] 3)).alloc (Obj.cells #[Value.int IntKind.i64 0] 3)).alloc (Obj.cells #[Value.pointer p] 26)) (w.heap.size + 1 + 1 + 1) 26 (.pointer p) := by
    have := Boxed.new (((w.alloc (Obj.cells #[Value.slice A (List.length m) c] 22)).alloc (Obj.cells #[Value.int IntKind.i64 0] 3)).alloc (Obj.cells #[Value.int IntKind.i64 0] 3)) 26 (.pointer p)
    simpa using this
  clear hfe
  obtain ⟨W0, hW0⟩ : ∃ W0, ((((w.alloc (Obj.cells #[Value.slice A (List.length m) c] 22)).alloc (Obj.cells #[Value.int IntKind.i64 0] 3)).alloc (Obj.cells #[Value.int IntKind.i64 0] 3)).alloc (Obj.cells #[Value.pointer p] 26)) = W0 := ⟨_, rfl⟩
  rw [hW0] at hsz hb0 h0 h1 h2 h3 ⊢
  clear hW0
  have h4 := h.below hb0
  refine wpIn_rangeFunc_ownG (F := Fence.wide) rfl (by omega) (gf := 32) (lb := #[.pointer (some ⟨w.heap.size + 1 + 1 + 1, 0, none⟩)]) rfl trivial (enters_of Try.func32 (by kernel_rfl) rfl)
    (all_stops 5 (by omega) (w.heap.size + 1 + 1 + 1) K p S (fun k => S k ∨ k = w.heap.size + 1 + 1 + 1) L W0 h3 h4 (by simpa using hlen) (.inr rfl) (fun k hk => .inl hk)) Keep.trans
    (keep_put (w := W0) (fun k hk => by rcases hk with hk | hk; have := hS k hk; omega; omega)) (Below.refl _ _) (fun _ => rfl)
    (fun pre W => ((((pre.map (·.1)) <+: m ∧ Boxed W (w.heap.size + 1) 3 (.int .i64 0)) ∧ Boxed W (w.heap.size + 1 + 1) 3 (.int .i64 pre.length)) ∧ Boxed W w.heap.size 22 (.slice A m.length c)) ∧ Below w.heap.size w W)
    (fun cd pre W => ((cd = .ret ∧ ¬ (pre.map (·.1)) <+: m) ∧ Boxed W (w.heap.size + 1) 3 (.int .i64 0)) ∧ Below w.heap.size w W)
    (OwnFrom.and (OwnFrom.and (OwnFrom.and (OwnFrom.and (ownFrom_pure _ _) (Own.from (boxed_own _ _ (fun _ => .int .i64 0)) _)) (Own.from (boxed_own _ _ (fun pre : List IdP => .int .i64 pre.length)) _)) (Own.from (boxed_own _ _ (fun _ => .slice A m.length c)) _)) (below_own (by omega)))
    (fun cd => OwnFrom.and (OwnFrom.and (ownFrom_pure _ _) (Own.from (boxed_own _ _ (fun _ => .int .i64 0)) _)) (below_own (by omega)))
    ⟨⟨⟨⟨by simp, h1⟩, h2⟩, h0⟩, hb0⟩ ?a₁ ?assign ?body ?done ?stop
  case assign =>
    intro l x W K hK
    gi_wp2
    exact hK
  case body =>
    rintro lp pre ⟨⟨x1, x2⟩, hxp⟩ W ⟨⟨⟨⟨hpre, hb1⟩, hb2⟩, hb0'⟩, hB⟩ hlt
    have k1 := hb1.cell
    have f1 := hb1.frozen
    have k2 := hb2.cell
    have f2 := hb2.frozen
    have k0 := hb0'.cell
    have hpl : pre.length ≤ 100000 := by simp at hlen; omega
    have HB1 := Lib.hid hb1
    have HB2 := Lib.hid hb2
    have HB0 := Lib.hid hb0'
    have HP := Lib.hid hpre
    have HPS := Lib.hid (prefix_snoc (l := pre.map (·.1)) (m := m) (p := (x1, x2)))
    rw [List.length_map] at HPS
    clear hb1 hb2 hb0' hpre h0 h1 h2 h3
    by_cases hk : pre.length < m.length
    · have hx : m[pre.length]? = some m[pre.length] := List.getElem?_eq_getElem hk
      obtain ⟨q, hq⟩ : ∃ q, m[pre.length] = q := ⟨_, rfl⟩
      rw [hq] at hx
      obtain ⟨ad, rfl, c2, c3⟩ := HI.out _ q hx
      have hza := cell_lt c2
      rw [add_block] at hza
      have c2' := (hB.cell (by rw [add_block]; exact hza)).trans c2
      have c3' := (hB.cell (p := ⟨(ad.add (pre.length * 2)).block, _, none⟩) (by simp only [add_block]; exact hza)).trans c3
      have HX := Lib.hid hx
      obtain ⟨y, z⟩ := q
      have hi0 : (0 : Int) ≤ ↑pre.length := by omega
      have hi1 : (↑pre.length : Int) < ↑m.length := by omega
      have hi2 : (↑m.length : Int) ≤ ↑c := by omega
      clear hx hq c2 c3
      have hFX := Lib.hid (prefix_snoc (l := pre.map (·.1)) (m := m) (p := (x1, x2)))
      by_cases hy : y = x1
      · subst hy
        by_cases hz : z = x2
        · subst hz
          gi_wp2
          refine ⟨(KeepsOthers.setCell _ _ _).from _, Keep.set _ _ _ (fun hk => ?_) (by omega), ⟨⟨⟨?_, HB1.out.other (by omega) _⟩, ?_⟩, HB0.out.other (by omega) _⟩, hB.setCell (p := ⟨w.heap.size + 1 + 1, 0, none⟩) (by simp; omega) _⟩
          · rcases hk with hk | hk
            · have := hS _ hk; omega
            · omega
          · rw [List.map_append]
            exact HPS.out.2 ⟨HP.out, HX.out⟩
          · rw [List.length_append]
            exact HB2.out.set _
        · have hz1 : (z == x2) = false := by simpa using hz
          gi_wp2
          refine ⟨(KeepsOthers.setCell _ _ _).from _, ⟨⟨rfl, ?_⟩, HB1.out.set _⟩, hB.setCell (p := ⟨w.heap.size + 1, 0, none⟩) (by simp) _⟩
          rw [List.map_append]
          exact fun hh => hz (by have h9 := (HPS.out.1 hh).2; rw [HX.out] at h9; simpa using h9)
      · have hy1 : (y == x1) = false := by simpa using hy
        gi_wp2
        refine ⟨(KeepsOthers.setCell _ _ _).from _, ⟨⟨rfl, ?_⟩, HB1.out.set _⟩, hB.setCell (p := ⟨w.heap.size + 1, 0, none⟩) (by simp) _⟩
        rw [List.map_append]
        exact fun hh => hy (by have h9 := (HPS.out.1 hh).2; rw [HX.out] at h9; simp at h9; exact h9.1)
    · gi_wp2
      refine ⟨(KeepsOthers.setCell _ _ _).from _, ⟨⟨rfl, ?_⟩, HB1.out.set _⟩, hB.setCell (p := ⟨w.heap.size + 1, 0, none⟩) (by simp) _⟩
      rw [List.map_append]
      exact fun hh => hk (by have h9 := (HPS.out.1 hh).2; exact (List.getElem?_eq_some_iff.1 h9).1)
  case done =>
    rintro D xs W hD rfl ⟨⟨⟨⟨hpre, hb1⟩, hb2⟩, hb0'⟩, hB⟩ hK
    have k1 := hb1.cell
    have f1 := hb1.frozen
    have k2 := hb2.cell
    have k0 := hb0'.cell
    have HB1 := Lib.hid hb1
    have HP := Lib.hid hpre
    clear hb1 hb2 hb0' hpre h0 h1 h2 h3
    by_cases he : xs.length = m.length
    · have hev : (if xs.map (·.1) = m then (1 : Int) else 0) = 1 := if_pos (List.IsPrefix.eq_of_length HP.out (by simpa using he))
      have HE := Lib.hid hev
      have hne : ((xs.length : Int) != (m.length : Int)) = false := by simp [he]
      clear hev he
      gi_wp2
      have hK' : (W.setCell ⟨w.heap.size + 1, 0, none⟩ (.int .i64 1)).heap[D]? = some (.deferred (some [])) := (KeepsOthers.setCell W _ _).same D _ hK rfl
      refine ⟨by simp, .inl ⟨_, _, rfl, run_takeDeferred hK', ?_⟩⟩
      have r0 := ((HB1.out.set (.int .i64 1)).kept (grownBy_putObj' _ D (.deferred none)) (fun e => by injection e with e; omega)).cell
      refine ⟨.int .i64 1, by simp [results, Try.f14, go_sem, r0], by rw [← HRR.out, HE.out], below_put (hB.setCell (p := ⟨w.heap.size + 1, 0, none⟩) (by simp) _) (by omega) _⟩
    · have hev : (if xs.map (·.1) = m then (1 : Int) else 0) = 0 := if_neg (fun hh => he (by rw [← hh]; simp))
      have HE := Lib.hid hev
      have hne : ((xs.length : Int) != (m.length : Int)) = true := by simp; omega
      clear hev he
      gi_wp2
      have hK' : (W.setCell ⟨w.heap.size + 1, 0, none⟩ (.int .i64 0)).heap[D]? = some (.deferred (some [])) := (KeepsOthers.setCell W _ _).same D _ hK rfl
      refine ⟨by simp, .inl ⟨_, _, rfl, run_takeDeferred hK', ?_⟩⟩
      have r0 := ((HB1.out.set (.int .i64 0)).kept (grownBy_putObj' _ D (.deferred none)) (fun e => by injection e with e; omega)).cell
      refine ⟨.int .i64 0, by simp [results, Try.f14, go_sem, r0], by rw [← HRR.out, HE.out], below_put (hB.setCell (p := ⟨w.heap.size + 1, 0, none⟩) (by simp) _) (by omega) _⟩
  case stop =>
    rintro D cd pre W hD hpre ⟨⟨⟨rfl, hno⟩, hb⟩, hB⟩ hK
    have hev : (if L.map (·.1) = m then (1 : Int) else 0) = 0 := if_neg (fun hh => hno (by rw [← hh]; exact hpre.map _))
    have HE := Lib.hid hev
    have HB := Lib.hid hb
    have hc2 := hb.cell
    clear hb h0 h1 h2 h3 hev hno
    gi_wp2
    refine ⟨by simp, .inl ⟨_, _, rfl, run_takeDeferred hK, ?_⟩⟩
    have r0 := (HB.out.kept (grownBy_putObj' _ D (.deferred none)) (fun e => by injection e with e; omega)).cell
    refine ⟨.int .i64 0, by simp [results, Try.f14, go_sem, r0], by rw [← HRR.out, HE.out], below_put hB (by omega) _⟩
end Go.Proofs.Ytggcnglnclpaeaa
