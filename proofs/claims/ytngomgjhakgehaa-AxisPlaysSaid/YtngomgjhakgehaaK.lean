/- All's value: every entry in its order. -/
import Derived.Test.YtngomgjhakgehaaJ
namespace Go.Proofs.Ytngomgjhakgehaa
open Go.RowKit Go.Maps Go.Shelf
attribute [local go_sem] Oper.semAt_some

/-- what a round must keep: the lists of entries -/
def Keep68 (W W' : World) : Prop := W.heap.size ≤ W'.heap.size ∧ ∀ (k : Nat) cur fr, W.heap[k]? = some (.cells cur 68 fr) → W'.heap[k]? = some (.cells cur 68 fr)
theorem Keep68.refl {W : World} : Keep68 W W := ⟨Nat.le_refl _, fun _ _ _ h => h⟩
theorem Keep68.trans {W W' X : World} (h : Keep68 W W') (k : Keep68 W' X) : Keep68 W X := ⟨Nat.le_trans h.1 k.1, fun i c f hi => k.2 i c f (h.2 i c f hi)⟩
theorem Keep68.below {W W' : World} (h : Below W.heap.size W W') : Keep68 W W' := ⟨h.size, fun k _ _ hk => (h.block k (Array.getElem?_eq_some_iff.1 hk).1).trans hk⟩

theorem keep_cell {w W : World} {base n m c : Nat} {ad : Addr} {xs : List Value} (h : w.ownsRow base 68 3 (.slice (some ad) m c) n xs) (hk : Keep68 w W) (k : Nat) :
    (∀ v, w.cell? (ad.add (k * 3)) = some v → W.cell? (ad.add (k * 3)) = some v) ∧ (∀ v, w.cell? ⟨(ad.add (k * 3)).block, (ad.add (k * 3)).off + 1, none⟩ = some v → W.cell? ⟨(ad.add (k * 3)).block, (ad.add (k * 3)).off + 1, none⟩ = some v) ∧ (∀ v, w.cell? ⟨(ad.add (k * 3)).block, (ad.add (k * 3)).off + 2, none⟩ = some v → W.cell? ⟨(ad.add (k * 3)).block, (ad.add (k * 3)).off + 2, none⟩ = some v) := by
  rcases h.2 with ⟨h0, _⟩ | ⟨g, cap, cur, hv, _, hb, _⟩
  · cases h0
  · simp only [Value.slice.injEq, Option.some.injEq] at hv
    obtain ⟨rfl, _, _⟩ := hv
    have hW := hk.2 g cur (0, 0) hb
    have he : W.heap[g]? = w.heap[g]? := by rw [hW, hb]
    rw [add_off]
    refine ⟨fun v hc => ?_, fun v hc => ?_, fun v hc => ?_⟩
    all_goals exact (World.cell?_of_block he).trans hc
theorem all_call (p : Option Addr) (w : World) :
    Calls Try.prog 29 #[.pointer p] w fun e w' => e = .returned (.func (.func 38) #[] #[.pointer (some ⟨w.heap.size, 0, none⟩)]) ∧ w' = w.alloc (.cells #[.pointer p] 27) := by
  have hmf : ∀ (fn : Fn) (first cap : Array Value) (w : World), (Instr.makeFunc fn first cap).run Try.prog w = .ok (.func fn first cap) w := fun _ _ _ _ => rfl
  go_enter Try.func29, Try.ntmps29
  go_wp2
  go_ret
  exact ⟨rfl, rfl⟩

/-- what yield is handed -/
abbrev encE (e : Ent) : Array Value := #[.agg #[.int .i64 e.1.1, .int .i64 e.1.2], .bool e.2]

set_option maxRecDepth 100000 in
set_option maxHeartbeats 2000000 in
theorem all_runs (n : Nat) (hn : 1 ≤ n) (Bn : Nat) (p : Option Addr) (l : List Ent) (w : World) (hbn : Boxed w Bn 27 (.pointer p)) (h : AxO w p l) (hlen : l.length ≤ 100000) :
    Runs Fence.wide n Try.prog 38 #[.pointer (some ⟨Bn, 0, none⟩)] encE Keep68 l w := by
  intro lp J Jx W hW hJ hY h0
  have h1 : Boxed W Bn 27 (.pointer p) := box_kept hbn (hW.block _ (box_lt hbn))
  have HA := Lib.hid (h.below hW)
  have cbn := h1.cell
  have HJ := Lib.hid hJ
  have HY := Lib.hid hY
  clear hJ hY h1 h hbn hW
  refine callsIn_of_wp Try.func38 rfl trivial ?_ rfl
  simp only [Try.ntmps38, List.size_toArray, List.length_cons, List.length_nil, Nat.reduceAdd, Nat.reduceSub, Array.replicate_succ, Array.replicate_zero, List.push_toArray, List.append_toArray, List.nil_append, List.cons_append]
  have hfE : Fence.wide.fn 32 := trivial
  have hfC : Fence.wide.fn 36 := trivial
  gi_wp2_with fail
  refine (callsIn_wide.2 (entries_own p l W HA.out)).mono ?_
  rintro e w1 ⟨v, rfl, hl, he⟩
  subst he
  have HL := Lib.hid hl
  clear hl
  gi_wp2_with fail
  refine (callsIn_wide.2 (clone_list v l W HL.out hlen)).mono ?_
  rintro e w2 ⟨v2, rfl, hl2, hb2⟩
  have hj := HJ.out [] W w2 h0 (grown_of_below hb2)
  have HL2 := Lib.hid hl2
  obtain ⟨A, c, rfl, hc, hI⟩ := list_of_own hl2
  have HI := Lib.hid hI
  clear hI hl2 hb2 h0 cbn
  gi_wp2_with fail
  gi_loopw [9] (fun i wr => ∃ k : Nat, k ≤ l.length ∧ i = .int .i64 k ∧ J (l.take k) wr ∧ Keep68 w2 wr) (fun i _ => l.length - (intOf i).toNat)
  case atStart => exact ⟨0, Nat.zero_le _, rfl, hj, Keep68.refl⟩
  case round =>
    obtain ⟨k, hk, rfl, hJs, hkp⟩ := hrel
    have HKP := Lib.hid hkp
    clear hkp
    by_cases hlt : k < l.length
    · have hx : l[k]? = some l[k] := List.getElem?_eq_getElem hlt
      obtain ⟨x, hxx⟩ : ∃ x, l[k] = x := ⟨_, rfl⟩
      rw [hxx] at hx
      obtain ⟨ad, rfl, c2, c3, c4⟩ := HI.out k x hx
      have c2' := (keep_cell HL2.out HKP.out k).1 _ c2
      have c3' := (keep_cell HL2.out HKP.out k).2.1 _ c3
      have c4' := (keep_cell HL2.out HKP.out k).2.2 _ c4
      obtain ⟨⟨x, y⟩, b⟩ := x
      simp only at c2' c3' c4'
      have hwb : Below wr.heap.size wr (wr.alloc (.cells #[.int .i64 x, .int .i64 y, .bool b] 68)) := (Below.refl _ _).alloc (Nat.le_refl _) _
      have hJ2 := HJ.out (l.take k) _ _ hJs (grown_of_below hwb)
      obtain ⟨fn, tmps, assign, body, hy, hR⟩ := HY.out (l.take k) ((x, y), b) _ hJ2 (by rw [List.length_take]; omega)
      have hsn : l.take (k + 1) = l.take k ++ [((x, y), b)] := by rw [List.take_add_one, hx]; rfl
      have HSN := Lib.hid hsn
      have HK2 := Lib.hid (HKP.out.trans (Keep68.below hwb))
      have hi0 : (0 : Int) ≤ ↑k := by omega
      have hi1 : (↑k : Int) < ↑l.length := by omega
      have hi2 : (↑l.length : Int) ≤ ↑c := by omega
      clear hsn hx hxx c2 c3 c4 hwb
      gi_wp2
      refine hR.mono ?_
      rintro e W3 (⟨rfl, hJ3, hk3⟩ | ⟨rfl, hJx3⟩)
      · gi_wp2
        go_roundw
        case rel => exact ⟨k + 1, by omega, by simp, by rw [HSN.out]; exact hJ3, HK2.out.trans hk3⟩
        case measure => simp [intOf]; omega
      · gi_wp2
        refine bodyPost_ret (results_none rfl _ _ _) rfl ?_
        exact ⟨⟨_, rfl⟩, .inr ⟨_, by rw [← HSN.out]; exact List.take_prefix _ _, hJx3⟩⟩
    · obtain rfl : k = l.length := by omega
      have hi1 : ¬ (↑l.length : Int) < ↑l.length := by omega
      gi_wp2
      go_end0
      rw [List.take_length] at hJs
      exact ⟨⟨_, rfl⟩, .inl hJs⟩
end Go.Proofs.Ytngomgjhakgehaa
