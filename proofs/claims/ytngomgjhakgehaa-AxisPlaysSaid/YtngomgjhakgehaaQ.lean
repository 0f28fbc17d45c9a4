/- What every law of this seat wants beside its walk: how its arguments open; the step from 'it returns true and nothing that lay before has turned' to the row. -/
import Derived.Test.YtngomgjhakgehaaRows
import Derived.Test.YtngomgjhakgehaaO
import Derived.ProofKit
import Derived.OpenShut
import Derived.Carry
import Derived.LaidMore
import Derived.Deep.DeepHandedRow
import Derived.Deep.SlicePairs
import Derived.Lib.SmallJoins
namespace Go.Proofs.Ytngomgjhakgehaa
open Go.ChangeShapes Go.WideShapes Go.ChangeAt Go.RowKit Go.Deep

theorem trodAll_stays {H : Type} {enc : TypeId × Value → H} {P : Program} (hl : laidOutB P = true) {W W' : World} (hb : Below W.heap.size W W') :
    ∀ (ts : List TypeId) (vs : List Value) (ds : List (DataW H)) (ps : List MemPlace), (∀ t ∈ ts, P.readableRec t = true ∧ t < P.types.size) → (∀ x ∈ ps, x.block < W.heap.size) →
      DataW.TrodAll enc P W 0 (fun _ => true) true ts vs ds ps → DataW.TrodAll enc P W' 0 (fun b => decide (b < W.heap.size)) true ts vs ds ps
  | [], vs, ds, ps, _, _, h => by
    obtain ⟨rfl, rfl, rfl⟩ := trodAll_nil h
    exact trodAll_mk0
  | t :: ts, vs, ds, ps, ht, hp, h => by
    obtain ⟨v, vs', d, ds', p, q, rfl, rfl, rfl, h1, h2⟩ := trodAll_cons h
    exact trodAll_cons_mk (Below.trod hl (ht t (by simp)).1 (ht t (by simp)).2 h1 hb (fun x hx => hp x (by simp [hx])))
      (trodAll_stays hl hb ts vs' ds' q (fun u hu => ht u (by simp [hu])) (fun x hx => hp x (by simp [hx])) h2)

/-- THE STEP: the call returned true, and below the old heap's size nothing has turned. -/
theorem post_law {H : Type} {enc : TypeId × Value → H} {P : Program} {f : Func} {s : ChangeSpec} {fresh handsOn : Bool} {W W' : World} {args : Array Value} {ds gs : List (DataW H)} {before : List MemPlace} {b : TypeId}
    (hl : laidOutB P = true) (hr : f.params.toList.all (fun t => P.readableRec t && decide (t < P.types.size)) = true) (hv : s.vars = []) (hb4 : P.underlying b = some .bool) (hrt : f.resultTypes = #[b])
    (hW : DataW.Whole enc P f.params.toList s.vars false W args.toList ds gs before) (hfn : (s.fn H (ds ++ gs)).results = [.lit (.bool true)] ∧ (s.fn H (ds ++ gs)).args = ds ∧ (s.fn H (ds ++ gs)).vars = [])
    (hb : Below W.heap.size W W') : s.post enc P f false fresh handsOn false W args (.bool true) W' := by
  have hlt := hW.lt
  have hW0 := hW
  obtain ⟨p, q, hA, hV, rfl, _, _⟩ := hW
  rw [hv] at hV
  obtain ⟨rfl, rfl⟩ := trodVars_none hV
  obtain ⟨e1, e2, e3⟩ := hfn
  refine ⟨ds, [], p ++ [], [], p, [], hW0, ?_, ?_, ?_, hb.frame _, fun h => by cases h⟩
  · rw [e1, hrt]
    exact trodAll_mk1 (shut_bool hb4 _)
  · rw [e2]
    exact trodAll_stays hl hb _ _ _ _ (fun t ht => by simpa using List.all_eq_true.1 hr t ht) (fun x hx => hlt x (by simp [hx])) hA
  · rw [hv, e3]
    rfl

theorem own : ownKnob Try.prog.godebug = none := by kernel_rfl
theorem cells25 : Try.prog.cellsOf 25 = 2 := by kernel_rfl
theorem wf_bounds {n : Int} (h : (Lit.int .i64 n).wf = true) : -9223372036854775808 ≤ n ∧ n ≤ 9223372036854775807 := by
  simp [Lit.wf, show IntKind.i64.min = -9223372036854775808 from rfl, show IntKind.i64.max = 9223372036854775807 from rfl] at h; omega

def numV : Value → Int
  | .int _ n => n
  | _ => 0
theorem add_next (a : Addr) (n : Nat) : a.add (n + 1) = ⟨(a.add n).block, (a.add n).off + 1, none⟩ := by
  unfold Addr.add
  rw [if_neg (by omega)]
  split
  · subst_vars; rfl
  · simp; omega
/-- an argument that is a slice of ids -/
theorem open_ids {H : Type} {enc : TypeId × Value → H} {W : World} {base : Nat} {v : Value} {d : DataW H} {ps : List MemPlace} (hv : Value.okWide Try.prog W .any base 22 v) (h : DataW.Trod enc Try.prog W 0 (fun _ => true) true 22 v d ps) :
    ∃ l, IdsAt W v l ∧ SmallI l := by
  obtain ⟨A, len, cap, rfl⟩ := okWide_slice Try.underlying22 hv
  obtain ⟨fuel, hf⟩ := h
  rcases open_slice_pairs Try.underlying22 Try.underlying25 cells25 rfl rfl (by kernel_rfl) (by kernel_rfl) hf with ⟨h1, _⟩ | ⟨a, n, c, m, k, V0, V1, D0, D1, P0, P1, h1, _, hnc, hcm, hm, _, hi⟩
  · simp only [Value.cells, List.cons.injEq, and_true, Value.slice.injEq] at h1
    obtain ⟨rfl, rfl, rfl⟩ := h1
    exact ⟨[], ⟨none, 0, rfl, Nat.le_refl _, fun k p h => by simp at h⟩, fun p hp => by simp at hp⟩
  · simp only [Value.cells, List.cons.injEq, and_true, Value.slice.injEq] at h1
    obtain ⟨rfl, rfl, rfl⟩ := h1
    have hlm : len ≤ m := by rw [hm]; simp; omega
    have hget : ∀ i, i < len → ∃ x y, V0 i = .int .i64 x ∧ V1 i = .int .i64 y ∧ W.cell? (a.add (i * 2)) = some (.int .i64 x) ∧ W.cell? (a.add (i * 2 + 1)) = some (.int .i64 y) ∧ (Lit.int .i64 x).wf = true ∧ (Lit.int .i64 y).wf = true := by
      intro i hi'
      obtain ⟨g0, g1, g2, g3⟩ := hi i (by omega)
      obtain ⟨x, e, _, w0⟩ := DataW.trod_int Try.underlying3 g2
      obtain ⟨y, e', _, w1⟩ := DataW.trod_int Try.underlying3 g3
      simp only [List.cons.injEq, and_true] at e e'
      rw [e] at g0
      rw [e'] at g1
      exact ⟨x, y, e, e', g0, g1, w0, w1⟩
    refine ⟨(List.range len).map fun i => (numV (V0 i), numV (V1 i)), ⟨some a, cap, by simp, by simpa using hnc, fun i p hp => ?_⟩, fun p hp => ?_⟩
    · rw [List.getElem?_map] at hp
      have hil : i < len := by
        rcases Nat.lt_or_ge i len with h5 | h5
        · exact h5
        · rw [List.getElem?_eq_none (by simpa using h5)] at hp; simp at hp
      rw [List.getElem?_range hil] at hp
      simp only [Option.map_some, Option.some.injEq] at hp
      subst hp
      obtain ⟨x, y, e0, e1, c0, c1, _, _⟩ := hget i hil
      refine ⟨a, rfl, ?_, ?_⟩
      · rw [e0]; exact c0
      · rw [e1, ← add_next]; exact c1
    · obtain ⟨i, hi1, rfl⟩ := List.mem_map.1 hp
      obtain ⟨x, y, e0, e1, _, _, w0, w1⟩ := hget i (List.mem_range.1 hi1)
      rw [e0, e1]
      exact ⟨w0, w1⟩
/-- an argument that is an id -/
theorem open_id {H : Type} {enc : TypeId × Value → H} {W : World} {base : Nat} {v : Value} {d : DataW H} {ps : List MemPlace} (hv : Value.okWide Try.prog W .any base 25 v) (h : DataW.Trod enc Try.prog W 0 (fun _ => true) true 25 v d ps) :
    ∃ p, v = idV p ∧ Wf p := by
  obtain ⟨v0, v1, y0, y1, m, rfl, rfl, rfl, k0, k1⟩ := Joins.open_agg2 Try.underlying25 (by kernel_rfl) cells25 hv h
  obtain ⟨x, e, _, w0⟩ := DataW.trod_int Try.underlying3 k0
  obtain ⟨y, e', _, w1⟩ := DataW.trod_int Try.underlying3 k1
  simp only [List.cons.injEq, and_true] at e e'
  subst e e'
  exact ⟨(x, y), rfl, w0, w1⟩
end Go.Proofs.Ytngomgjhakgehaa
