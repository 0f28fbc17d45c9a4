/- All, and its iterator: for every loop body that keeps what the iterator reads. -/
import Derived.Test.YtggcnglnclpaeaaC
import Derived.RangeFuncNested
import Derived.RangeFuncBound
import Derived.RangeFuncCalls
import Derived.RangeFuncLeaves
import Derived.Shelf.Abstract
import Derived.Shelf.RegionOpen
import Derived.OwnWalkIn
import Derived.TacticsInMore
import Derived.LoopNIn
import Derived.LoopIn
namespace Go.Proofs.Ytggcnglnclpaeaa
open Go.RowKit Go.Maps Go.Shelf
attribute [local go_sem] Oper.semAt_some

/-- an id that may be -/
abbrev IdP := { p : Int × Int // mayB p.1 p.2 = true ∧ p.2 ≤ 9223372036854775807 }
theorem row_ids {l : Row} (ho : OkR l) : ∃ L : List IdP, L.map (·.1) = l := by
  obtain ⟨h1, h2, h3⟩ := ho
  clear h1
  induction l with
  | nil => exact ⟨[], rfl⟩
  | cons p l ih =>
    obtain ⟨L, hL⟩ := ih (fun q hq => h2 q (by simp [hq])) (fun q hq => h3 q (by simp [hq]))
    exact ⟨⟨p, h2 p (by simp), h3 p (by simp)⟩ :: L, by simp [hL]⟩

/-- what a round must keep: the blocks of Q; cells that were laid from B on -/
def Keep (Q : Nat → Prop) (B : Nat) (W W' : World) : Prop :=
  W.heap.size ≤ W'.heap.size ∧ ∀ k o, W.heap[k]? = some o → (Q k ∨ (B ≤ k ∧ o.isCells = true)) → W'.heap[k]? = some o
section
variable {Q : Nat → Prop} {B : Nat} {W W' X : World}
theorem Keep.refl : Keep Q B W W := ⟨Nat.le_refl _, fun _ _ h _ => h⟩
theorem Keep.trans (h : Keep Q B W W') (k : Keep Q B W' X) : Keep Q B W X := ⟨Nat.le_trans h.1 k.1, fun i o hi hq => k.2 i o (h.2 i o hi hq) hq⟩
theorem keep_put {w : World} (hQ : ∀ k, Q k → k < w.heap.size) (W : World) (l : Nat) (o o' : Obj) (hl : w.heap.size ≤ l) (h : W.heap[l]? = some o) (ho : o.isCells = false) (_ : o.isWalk = false) : Keep Q B W (W.putObj l o') := by
  refine ⟨(grownBy_putObj' W l o').size, fun k o2 hk hq => ?_⟩
  have hkl : k ≠ l := by
    rintro rfl
    rcases hq with hq | ⟨_, hc⟩
    · have := hQ k hq; omega
    · rw [hk] at h; injection h with h; subst h; rw [hc] at ho; cases ho
  exact ((grownBy_putObj' W l o').block k (Array.getElem?_eq_some_iff.1 hk).1 (fun e => hkl (by injection e))).trans hk
theorem Keep.of_only {S : Nat → Prop} (h : Only S W W') (hd : ∀ k, S k → k < W.heap.size → ¬ Q k ∧ (B ≤ k → ∀ o, W.heap[k]? = some o → o.isCells = false)) : Keep Q B W W' := by
  refine ⟨h.size, fun k o hk hq => ?_⟩
  have hlt := (Array.getElem?_eq_some_iff.1 hk).1
  refine (h.block k hlt (fun hs => ?_)).trans hk
  obtain ⟨h1, h2⟩ := hd k hs hlt
  rcases hq with hq | ⟨hb, hc⟩
  · exact h1 hq
  · have := h2 hb o hk; rw [hc] at this; cases this
theorem Keep.set (W : World) (b : Nat) (v : Value) (hq : ¬ Q b) (hb : b < B) : Keep Q B W (W.setCell ⟨b, 0, none⟩ v) := by
  refine ⟨(grownBy_setCell' W b v).size, fun k o hk hq' => ?_⟩
  refine ((grownBy_setCell' W b v).block k (Array.getElem?_eq_some_iff.1 hk).1 (fun e => ?_)).trans hk
  obtain rfl : k = b := by injection e
  rcases hq' with h | ⟨h, _⟩
  · exact hq h
  · omega
theorem Keep.block (h : Keep Q B W W') {k : Nat} {o : Obj} (hk : W.heap[k]? = some o) (hq : Q k ∨ (B ≤ k ∧ o.isCells = true)) : W'.heap[k]? = some o := h.2 k o hk hq
theorem Keep.seen (h : Keep Q B W W') {s K : Nat} {S : Nat → Prop} {l : Row} (hS : ∀ k, S k → k < W.heap.size → Q k) (hs : SeenAt W s S K l) : SeenAt W' s S K l := by
  obtain ⟨h1, h2, h3⟩ := hs
  refine ⟨h1, h2, ?_⟩
  rcases h3 with ⟨hb, hl⟩ | ⟨mb, D, hm, hne, hb, hw, hr⟩
  · exact .inl ⟨h.2 s _ hb (.inl (hS s h1 (box_lt hb))), hl⟩
  · obtain ⟨es, clock, h5, h6⟩ := hw
    exact .inr ⟨mb, D, hm, hne, h.2 s _ hb (.inl (hS s h1 (box_lt hb))), ⟨es, clock, h.2 mb _ h5 (.inl (hS mb hm (Array.getElem?_eq_some_iff.1 h5).1)), h6⟩, hr⟩
end

theorem all_call (p : Option Addr) (w : World) :
    Calls Try.prog 30 #[.pointer p] w fun e w' => e = .returned (.func (.func 32) #[] #[.pointer (some ⟨w.heap.size, 0, none⟩)]) ∧ w' = w.alloc (.cells #[.pointer p] 26) := by
  go_enter Try.func30, Try.ntmps30
  go_wp2
  go_ret
  exact ⟨rfl, rfl⟩

/-- the keys of a map that has these numbers, sorted -/
theorem keys_sorted {D : DataW Unit} {l : Row} {w : World} {R : Value → Option (DataW Unit × List MemPlace)} {b K : Nat} (hw : w.ownsMap Try.prog 3 R b K D) (hr : RelD D l) (ho : OkR l) {ss : List Int} (hp : ss.Perm (intKeys D)) :
    ss.mergeSort (fun x y => decide (x ≤ y)) = l.map (·.1) ∧ ss.length = l.length := by
  have hnd : (l.map (·.1)).Nodup := by
    have := ho.up
    rw [List.nodup_iff_pairwise_ne, List.pairwise_map]
    exact this.imp (fun {a b} h => by omega)
  have h1 : (l.map (·.1)).Perm (intKeys D) := by
    obtain ⟨es, hD, hpw, _⟩ := hw.entries (Maps.int_keyed Try.underlying3)
    obtain ⟨es', hD', hko⟩ := hw.keysOf
    obtain rfl : es = es' := by rw [hD] at hD'; simpa using hD'
    subst hD
    refine perm_intKeys hpw (fun p hp => by obtain ⟨v, hv⟩ := hko p hp; obtain ⟨x, _, hx, _⟩ := Maps.keyOf_i64 Try.underlying3 hv; exact ⟨x, hx⟩) hnd (fun x => ?_)
    rw [hr.2 x, List.mem_map]
  have h2 := hp.trans h1.symm
  have h3 : (l.map (·.1)).Pairwise (fun a b => decide (a ≤ b) = true) := by
    rw [List.pairwise_map]
    exact ho.up.imp (fun {a b} h => by simp; omega)
  refine ⟨?_, by have := h2.length_eq; simpa using this⟩
  refine (mergeSort_of_perm_i h2).trans ?_
  exact List.mergeSort_of_pairwise h3
theorem size_rel {D : DataW Unit} {l : Row} {w : World} {R : Value → Option (DataW Unit × List MemPlace)} {b K : Nat} (hw : w.ownsMap Try.prog 3 R b K D) (hr : RelD D l) (ho : OkR l) : Maps.size D = l.length := by
  obtain ⟨es, hD, hpw, _⟩ := hw.entries (Maps.int_keyed Try.underlying3)
  have h := (keys_sorted hw hr ho (List.Perm.refl _)).2
  subst hD
  simpa [Maps.size, intKeys] using h

/-- the sorted slice, opened -/
theorem row_open {L : List IdP} {w : World} {base : Nat} {v : Value} {ss : List Int} (hL : L ≠ []) (h1 : ss.mergeSort (fun x y => decide (x ≤ y)) = (L.map (·.1)).map (·.1)) (h2 : ss.length = (L.map (·.1)).length)
    (h : w.ownsRow base 3 1 v ss.length ((ss.mergeSort (fun x y => decide (x ≤ y))).map encZ)) :
    ∃ (g cap : Nat) (cur : Array Value), v = .slice (some ⟨g, 0, none⟩) L.length cap ∧ base ≤ g ∧ w.heap[g]? = some (.cells cur 3 (0, 0)) ∧ ∀ (k : Nat) (x : IdP), L[k]? = some x → cur[k]? = some (.int .i64 x.1.1) := by
  have hl : ss.length = L.length := by simpa using h2
  have hpos : 0 < L.length := List.length_pos_iff.2 hL
  rcases h.2 with ⟨_, h0⟩ | ⟨g, cap, cur, rfl, hg, hb, _, _, hcs, hcur⟩
  · omega
  · refine ⟨g, cap, cur, by rw [hl], hg, hb, fun k x hk => ?_⟩
    rw [h1] at hcur
    have hk' : k < ss.length * 1 := by have := (List.getElem?_eq_some_iff.1 hk).1; omega
    have e : (cur.toList.take (ss.length * 1))[k]? = some (.int .i64 x.1.1) := by rw [hcur]; simp [hk, encZ]
    rw [List.getElem?_take_of_lt hk'] at e
    simpa using e
theorem grown_of_below {w w' : World} (h : Below w.heap.size w w') : w.grownBy w' none := ⟨h.os, h.tape, h.output, h.size, fun k hk _ => h.block k hk⟩
theorem row_none {L : List IdP} {v : Value} {ss : List Int} (hL : L = []) (h2 : ss.length = (L.map (·.1)).length) (hnil : v = .slice none 0 0 ↔ ss = []) : v = .slice none 0 0 := by
  subst hL
  exact hnil.2 (List.eq_nil_of_length_eq_zero (by simpa using h2))

/-- the caller's word abides new blocks -/
def Grows {β : Type} (J : β → World → Prop) : Prop := ∀ s X Y, J s X → X.grownBy Y none → J s Y
/-- what a part of the walk leaves to be told -/
def AllOut (L : List IdP) (J Jx : List IdP → World → Prop) (e : Ending) (W' : World) : Prop :=
  (∃ v, e = .returned v) ∧ ((∃ xs, xs = L ∧ J xs W') ∨ (∃ pre, pre <+: L ∧ Jx pre W'))

set_option maxRecDepth 100000 in
set_option maxHeartbeats 2000000 in
theorem iter_any (n : Nat) (hn : 1 ≤ n) (l Bn s mb K B : Nat) (D : DataW Unit) (L : List IdP) (Q : Nat → Prop) (J Jx : List IdP → World → Prop)
    (hY : ∀ pre x W, J pre W → pre.length < L.length → YieldAt Fence.wide (n - 1) Try.prog l #[.int .i64 x.1.1, .int .i64 x.1.2] W fun e W' =>
      (e = .returned (.bool true) ∧ J (pre ++ [x]) W' ∧ Keep Q B W W') ∨ (e = .returned (.bool false) ∧ Jx (pre ++ [x]) W'))
    (W : World) (hJ : Grows J) (hbn : Boxed W Bn 26 (.pointer (some ⟨s, 0, none⟩))) (hb : Boxed W s 47 (.map (some mb))) (hw : W.ownsMap (H := Unit) Try.prog 3 (plainElem Try.prog 3) mb K D) (hr : RelD D (L.map (·.1))) (ho : OkR (L.map (·.1)))
    (hQ : Q Bn ∧ Q s ∧ Q mb) (hB : B ≤ W.heap.size) (hlen : L.length ≤ 100000) (h0 : J [] W) :
    CallsIn Fence.wide n Try.prog 32 #[.func (.yield l) #[] #[], .pointer (some ⟨Bn, 0, none⟩)] W (AllOut L J Jx) := by
  have hsz := size_rel hw hr ho
  rw [List.length_map] at hsz
  have cbn := hbn.cell
  have cs := hb.cell
  have KS := Lib.hid (fun ss => keys_sorted (ss := ss) hw hr ho)
  have HS := Lib.hid (fun w => sorted_call (H := Unit) mb K D (plainElem Try.prog 3) w)
  have HW := Lib.hid hw
  have HSZ := Lib.hid hsz
  have HBN := Lib.hid hbn
  have HBS := Lib.hid hb
  have HR := Lib.hid hr
  have HO := Lib.hid ho
  have HJ := Lib.hid hJ
  have HY := Lib.hid hY
  have HQ := Lib.hid hQ
  clear hw hsz hbn hb hr ho hJ hY hQ
  refine callsIn_of_wp Try.func32 rfl trivial ?_ rfl
  simp only [Try.ntmps32, List.size_toArray, List.length_cons, List.length_nil, Nat.reduceAdd, Nat.reduceSub, Array.replicate_succ, Array.replicate_zero, List.push_toArray, List.append_toArray, List.nil_append, List.cons_append]
  have hfK : Fence.wide.fn 34 := trivial
  have hfS : Fence.wide.fn 33 := trivial
  by_cases hL : L = []
  · have HL := Lib.hid hL
    gi_wp2_with (first
      | (gi_at_call 34; refine (callsIn_wide.2 (callsIn_wide.1 (keys_call _ _))).mono ?_; rintro e w' ⟨rfl, rfl⟩)
      | (gi_at_call 33; refine (callsIn_wide.2 (callsIn_wide.1 (HS.out _ HW.out (by rw [HSZ.out]; unfold maxLen; omega) (by rw [HSZ.out]; omega)))).mono ?_; rintro e w1 ⟨v, ss, rfl, hS, hrow, hnil, hb1⟩; obtain rfl := row_none HL.out (KS.out ss hS).2 hnil; clear hrow hnil hS))
    have hj := HJ.out [] W w1 h0 (grown_of_below (((Below.refl W.heap.size W).alloc (Nat.le_refl _) _).trans (hb1.mono (by simp))))
    gi_loopw [14] (fun i wr => i = .int .i64 0 ∧ J [] wr) (fun _ _ => 0)
    case atStart => exact ⟨rfl, hj⟩
    case round =>
      obtain ⟨rfl, hJs⟩ := hrel
      gi_wp2
      go_end0
      exact ⟨⟨_, rfl⟩, .inl ⟨_, HL.out.symm, hJs⟩⟩
  · have HL := Lib.hid hL
    clear hL
    gi_wp2_with (first
      | (gi_at_call 34; refine (callsIn_wide.2 (callsIn_wide.1 (keys_call _ _))).mono ?_; rintro e w' ⟨rfl, rfl⟩)
      | (gi_at_call 33; refine (callsIn_wide.2 (callsIn_wide.1 (HS.out _ HW.out (by rw [HSZ.out]; unfold maxLen; omega) (by rw [HSZ.out]; omega)))).mono ?_; rintro e w1 ⟨v, ss, rfl, hS, hrow, hnil, hb1⟩; obtain ⟨g, cap, cur, rfl, hg, hgb, hcur⟩ := row_open HL.out (KS.out ss hS).1 (KS.out ss hS).2 hrow; have HG := Lib.hid hg; have HGB := Lib.hid hgb; have HCUR := Lib.hid hcur; have HB1 := Lib.hid hb1; clear hrow hnil hS hg hgb hcur hb1))
    have hbW : Below W.heap.size W w1 := ((Below.refl W.heap.size W).alloc (Nat.le_refl _) _).trans (HB1.out.mono (by simp))
    have hj := HJ.out [] W w1 h0 (grown_of_below hbW)
    have h1n : Boxed w1 Bn 26 (.pointer (some ⟨s, 0, none⟩)) := box_kept HBN.out (hbW.block _ (box_lt HBN.out))
    have h1s : Boxed w1 s 47 (.map (some mb)) := box_kept HBS.out (hbW.block _ (box_lt HBS.out))
    have h1m : w1.ownsMap (H := Unit) Try.prog 3 (plainElem Try.prog 3) mb K D := map_kept HW.out (hbW.block _ HW.out.lt)
    have hgB : B ≤ g := by have := HG.out; simp at this; omega
    have H1N := Lib.hid h1n
    have H1S := Lib.hid h1s
    have H1M := Lib.hid h1m
    clear h1n h1s h1m hbW cbn cs HB1
    gi_loopw [14] (fun i wr => ∃ k : Nat, k ≤ L.length ∧ i = .int .i64 k ∧ J (L.take k) wr ∧ Keep Q B w1 wr) (fun i _ => L.length - (intOf i).toNat)
    case atStart => exact ⟨0, Nat.zero_le _, rfl, hj, Keep.refl⟩
    case round =>
      obtain ⟨k, hk, rfl, hJs, hkp⟩ := hrel
      by_cases hlt : k < L.length
      · have hx : L[k]? = some L[k] := List.getElem?_eq_getElem hlt
        obtain ⟨x, hxx⟩ : ∃ x, L[k] = x := ⟨_, rfl⟩
        rw [hxx] at hx
        obtain ⟨fn, tmps, assign, body, hy, hR⟩ := HY.out (L.take k) x wr hJs (by rw [List.length_take]; omega)
        have hc1 := HCUR.out k x hx
        have hcg : wr.cell? ⟨g, k, none⟩ = some (.int .i64 x.1.1) := by
          have := hkp.block HGB.out (.inr ⟨hgB, rfl⟩)
          simpa [World.cell?, this] using hc1
        have hbn := (show Boxed wr Bn 26 (.pointer (some ⟨s, 0, none⟩)) from hkp.block H1N.out (.inl HQ.out.1)).cell
        have hbs := (show Boxed wr s 47 (.map (some mb)) from hkp.block H1S.out (.inl HQ.out.2.1)).cell
        have hown : wr.ownsMap (H := Unit) Try.prog 3 (plainElem Try.prog 3) mb K D := by
          obtain ⟨es, clock, h5, h6⟩ := H1M.out
          exact ⟨es, clock, hkp.block h5 (.inl HQ.out.2.2), h6⟩
        have hxm : x.1 ∈ L.map (·.1) := List.mem_map.2 ⟨x, List.mem_of_getElem? hx, rfl⟩
        have hxb := (mayB_iff _ _).1 x.2.1
        have hlook : (Instr.lookup 45 (.map (some mb)) (.int .i64 x.1.1) false).run Try.prog wr = .ok (.int .i64 x.1.2) wr := by
          obtain ⟨c, hrun, hat, _⟩ := hown.lookup_int (Maps.int_keyed Try.underlying3) Try.underlying45 Try.underlying3 (Try.zeroValue3 _) (Maps.keyOf_int_mk Try.underlying3 (key_wf (a := x.1.1) (by omega) (by omega)))
          have h7 := HR.out.1 x.1.1
          rw [look_mem HO.out.up hxm, hat] at h7
          injection h7 with h7
          injection h7 with _ h7
          rw [hrun, h7]
        have hsn : L.take (k + 1) = L.take k ++ [x] := by rw [List.take_add_one, hx]; rfl
        have HSN := Lib.hid hsn
        have HKP := Lib.hid hkp
        have hi0 : (0 : Int) ≤ ↑k := by omega
        have hi1 : (↑k : Int) ≤ ↑L.length := by omega
        clear hsn hkp hown hxm hxb hx hxx hc1
        gi_wp2
        refine hR.mono ?_
        rintro e W3 (⟨rfl, hJ3, hk3⟩ | ⟨rfl, hJx3⟩)
        · gi_wp2
          go_roundw
          case rel => exact ⟨k + 1, by omega, by simp, by rw [HSN.out]; exact hJ3, HKP.out.trans hk3⟩
          case measure => simp [intOf]; omega
        · gi_wp2
          refine bodyPost_ret (results_none rfl _ _ _) rfl ?_
          exact ⟨⟨_, rfl⟩, .inr ⟨_, by rw [← HSN.out]; exact List.take_prefix _ _, hJx3⟩⟩
      · obtain rfl : k = L.length := by omega
        have hi1 : (↑L.length : Int) ≤ ↑L.length := by omega
        gi_wp2
        go_end0
        exact ⟨⟨_, rfl⟩, .inl ⟨_, List.take_length, hJs⟩⟩

set_option maxRecDepth 100000 in
set_option maxHeartbeats 2000000 in
theorem iter_nomap (n : Nat) (hn : 1 ≤ n) (l Bn s : Nat) (J Jx : List IdP → World → Prop) (W : World) (hJ : Grows J) (hbn : Boxed W Bn 26 (.pointer (some ⟨s, 0, none⟩))) (hb : Boxed W s 47 (.map none)) (h0 : J [] W) :
    CallsIn Fence.wide n Try.prog 32 #[.func (.yield l) #[] #[], .pointer (some ⟨Bn, 0, none⟩)] W (AllOut [] J Jx) := by
  have cbn := hbn.cell
  have cs := hb.cell
  have HJ := Lib.hid hJ
  clear hbn hb hJ
  refine callsIn_of_wp Try.func32 rfl trivial ?_ rfl
  simp only [Try.ntmps32, List.size_toArray, List.length_cons, List.length_nil, Nat.reduceAdd, Nat.reduceSub, Array.replicate_succ, Array.replicate_zero, List.push_toArray, List.append_toArray, List.nil_append, List.cons_append]
  have hfK : Fence.wide.fn 34 := trivial
  have hfS : Fence.wide.fn 33 := trivial
  gi_wp2_with (first
    | (gi_at_call 34; refine (callsIn_wide.2 (callsIn_wide.1 (keys_call _ _))).mono ?_; rintro e w' ⟨rfl, rfl⟩)
    | (gi_at_call 33; refine (callsIn_wide.2 (callsIn_wide.1 (sorted_nil _))).mono ?_; rintro e w1 ⟨rfl, hb1⟩))
  have hj := HJ.out [] W w1 h0 (grown_of_below (((Below.refl W.heap.size W).alloc (Nat.le_refl _) _).trans (hb1.mono (by simp))))
  gi_loopw [14] (fun i wr => i = .int .i64 0 ∧ J [] wr) (fun _ _ => 0)
  case atStart => exact ⟨rfl, hj⟩
  case round =>
    obtain ⟨rfl, hJs⟩ := hrel
    gi_wp2
    go_end0
    exact ⟨⟨_, rfl⟩, .inl ⟨_, rfl, hJs⟩⟩

set_option maxRecDepth 100000 in
set_option maxHeartbeats 2000000 in
theorem iter_nil (n : Nat) (l Bn : Nat) (J Jx : List IdP → World → Prop) (W : World) (hbn : Boxed W Bn 26 (.pointer none)) (h0 : J [] W) :
    CallsIn Fence.wide n Try.prog 32 #[.func (.yield l) #[] #[], .pointer (some ⟨Bn, 0, none⟩)] W (AllOut [] J Jx) := by
  have cbn := hbn.cell
  clear hbn
  refine callsIn_of_wp Try.func32 rfl trivial ?_ rfl
  simp only [Try.ntmps32, List.size_toArray, List.length_cons, List.length_nil, Nat.reduceAdd, Nat.reduceSub, Array.replicate_succ, Array.replicate_zero, List.push_toArray, List.append_toArray, List.nil_append, List.cons_append]
  gi_wp2
  refine bodyPost_ret (results_none rfl _ _ _) rfl ?_
  exact ⟨⟨_, rfl⟩, .inl ⟨_, rfl, h0⟩⟩

/-- what yield is handed -/
abbrev encP (x : IdP) : Array Value := #[.int .i64 x.1.1, .int .i64 x.1.2]

/-- an iterator that turns nothing that was there: the caller's word need abide new blocks alone -/
def Runs {α : Type} (F : Fence) (n : Nat) (P : Program) (g : Nat) (lb : Array Value) (encs : α → Array Value) (Kp : World → World → Prop) (L : List α) (w : World) : Prop :=
  ∀ (l : Nat) (J Jx : List α → World → Prop) (W : World), Below w.heap.size w W → Grows J →
    (∀ pre x W1, J pre W1 → pre.length < L.length → YieldAt F (n - 1) P l (encs x) W1 fun e W' =>
      (e = .returned (.bool true) ∧ J (pre ++ [x]) W' ∧ Kp W1 W') ∨ (e = .returned (.bool false) ∧ Jx (pre ++ [x]) W')) →
    J [] W →
    CallsIn F n P g (#[.func (.yield l) #[] #[]] ++ lb) W fun e W' => (∃ v, e = .returned v) ∧ ((∃ xs, xs = L ∧ J xs W') ∨ (∃ pre, pre <+: L ∧ Jx pre W'))

/-- ALL'S VALUE: every id of the row, in its order; or a part of it, where a round has said 'no more' -/
theorem all_runs (n : Nat) (hn : 1 ≤ n) (Bn K : Nat) (p : Option Addr) (S Q : Nat → Prop) (L : List IdP) (w : World) (hbn : Boxed w Bn 26 (.pointer p)) (hs : SeenP w p S K (L.map (·.1))) (hlen : L.length ≤ 100000) (hQ : Q Bn) (hSQ : ∀ k, S k → Q k) :
    Runs Fence.wide n Try.prog 32 #[.pointer (some ⟨Bn, 0, none⟩)] encP (Keep Q w.heap.size) L w := by
  intro l J Jx W hW hJ hY h0
  have h1 : Boxed W Bn 26 (.pointer p) := box_kept hbn (hW.block _ (box_lt hbn))
  have h2 := hs.below hW
  rcases h2 with ⟨rfl, he⟩ | ⟨s, rfl, h3, h4, ⟨hb, he⟩ | ⟨mb, D, hm, hne, hb, hw, hr⟩⟩
  · obtain rfl : L = [] := by simpa using he
    exact (iter_nil n l Bn J Jx W h1 h0).mono fun _ _ h => h
  · obtain rfl : L = [] := by simpa using he
    exact (iter_nomap n hn l Bn s J Jx W hJ h1 hb h0).mono fun _ _ h => h
  · exact (iter_any n hn l Bn s mb K w.heap.size D L Q J Jx hY W hJ h1 hb hw hr h4 ⟨hQ, hSQ _ h3, hSQ _ hm⟩ hW.size hlen h0).mono fun _ _ h => h
theorem all_stops (n : Nat) (hn : 1 ≤ n) (Bn K : Nat) (p : Option Addr) (S Q : Nat → Prop) (L : List IdP) (w : World) (hbn : Boxed w Bn 26 (.pointer p)) (hs : SeenP w p S K (L.map (·.1))) (hlen : L.length ≤ 100000) (hQ : Q Bn) (hSQ : ∀ k, S k → Q k) :
    SeqStopsK Fence.wide n Try.prog 32 #[.pointer (some ⟨Bn, 0, none⟩)] encP (Keep Q w.heap.size) (fun xs => xs = L) (fun pre => pre <+: L) L.length w :=
  fun l J Jx W hW hJ _ hY h0 => all_runs n hn Bn K p S Q L w hbn hs hlen hQ hSQ l J Jx W hW (fun s X Y h hg => hJ s X Y none h hg (fun r e => by cases e)) hY h0
end Go.Proofs.Ytggcnglnclpaeaa
