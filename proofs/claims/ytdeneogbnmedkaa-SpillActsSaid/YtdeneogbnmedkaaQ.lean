/- What every law of this seat wants beside its walk: how its arguments open; the step from 'it returns true and nothing that lay before has turned' to the row. -/
import Derived.Test.YtdeneogbnmedkaaRows
import Derived.Test.YtdeneogbnmedkaaM
import Derived.ProofKit
import Derived.OpenShut
import Derived.Carry
import Derived.LaidMore
import Derived.Deep.DeepHandedRow
import Derived.Deep.SlicePairs
import Derived.Lib.SmallJoins
namespace Go.Proofs.Ytdeneogbnmedkaa
open Go.ChangeShapes Go.WideShapes Go.ChangeAt Go.RowKit Go.Deep

theorem trodAll_stays {H : Type} {enc : TypeId × Value → H} {P : Program} (hl : laidOutB P = true) {W W' : World} (hb : Below W.heap.size W W') :
    ∀ (ts : List TypeId) (vs : List Value) (ds : List (DataW H)) (ps : List MemPlace), (∀ t ∈ ts, P.readableRec t = true ∧ t < P.types.size) → (∀ x ∈ ps, x.block < W.heap.size) →
      DataW.TrodAll enc P W 0 (fun _ => true) true ts vs ds ps → DataW.TrodAll enc P W' 0 (fun b => decide (b < W.heap.size)) true ts vs ds ps
  | [], vs, ds, ps, _, _, h => by
    obtain ⟨rfl, rfl, rfl⟩ := trodAll_nil h
    exact trodAll_mk0
  | t :: ts, vs, ds, ps, ht, hp, h => by
    obtain ⟨v, vs', d, ds', p, q, rfl, rfl, rfl, h1, h2⟩ := trodAll_cons h
    exact trodAll_cons_mk (Below.trod hl (ht t (by simp)).1 (ht t (by simp)).2 h1 hb (fun x hx => hp x (by simp [hx])))
      (trodAll_stays hl hb ts vs' ds' q (fun u hu => ht u (by simp [hu])) (fun x hx => hp x (by simp [hx])) h2)

/-- THE STEP: the call returned true, and below the old heap's size nothing has turned. -/
theorem post_law {H : Type} {enc : TypeId × Value → H} {P : Program} {f : Func} {s : ChangeSpec} {fresh handsOn : Bool} {W W' : World} {args : Array Value} {ds gs : List (DataW H)} {before : List MemPlace} {b : TypeId}
    (hl : laidOutB P = true) (hr : f.params.toList.all (fun t => P.readableRec t && decide (t < P.types.size)) = true) (hv : s.vars = []) (hb4 : P.underlying b = some .bool) (hrt : f.resultTypes = #[b])
    (hW : DataW.Whole enc P f.params.toList s.vars false W args.toList ds gs before) (hfn : (s.fn H (ds ++ gs)).results = [.lit (.bool true)] ∧ (s.fn H (ds ++ gs)).args = ds ∧ (s.fn H (ds ++ gs)).vars = [])
    (hb : Below W.heap.size W W') : s.post enc P f false fresh handsOn false W args (.bool true) W' := by
  have hlt := hW.lt
  have hW0 := hW
  obtain ⟨p, q, hA, hV, rfl, _, _⟩ := hW
  rw [hv] at hV
  obtain ⟨rfl, rfl⟩ := trodVars_none hV
  obtain ⟨e1, e2, e3⟩ := hfn
  refine ⟨ds, [], p ++ [], [], p, [], hW0, ?_, ?_, ?_, hb.frame _, fun h => by cases h⟩
  · rw [e1, hrt]
    exact trodAll_mk1 (shut_bool hb4 _)
  · rw [e2]
    exact trodAll_stays hl hb _ _ _ _ (fun t ht => by simpa using List.all_eq_true.1 hr t ht) (fun x hx => hlt x (by simp [hx])) hA
  · rw [hv, e3]
    rfl

theorem own : ownKnob Try.prog.godebug = none := by kernel_rfl
theorem wf_bounds {n : Int} (h : (Lit.int .i64 n).wf = true) : -9223372036854775808 ≤ n ∧ n ≤ 9223372036854775807 := by
  simp [Lit.wf, show IntKind.i64.min = -9223372036854775808 from rfl, show IntKind.i64.max = 9223372036854775807 from rfl] at h; omega
theorem wf_u8 {n : Int} (h : (Lit.int .u8 n).wf = true) : 0 ≤ n ∧ n ≤ 255 := by
  simp [Lit.wf, show IntKind.u8.min = 0 from rfl, show IntKind.u8.max = 255 from rfl] at h; omega
theorem add_pos (a : Addr) {n : Nat} (h : 0 < n) : a.add n = ⟨a.block, a.off + n, none⟩ := by
  unfold Addr.add
  rw [if_neg (by omega)]
theorem add_zero' (a : Addr) : a.add 0 = a := by unfold Addr.add; simp
theorem cells32 : Try.prog.cellsOf 32 = 5 := by kernel_rfl
theorem cells3 : Try.prog.cellsOf 3 = 1 := by kernel_rfl
theorem cells4 : Try.prog.cellsOf 4 = 1 := by kernel_rfl
theorem cells5 : Try.prog.cellsOf 5 = 1 := by kernel_rfl
theorem cells56 : Try.prog.cellsOf 56 = 2 := by kernel_rfl

/-- an act -/
structure ActP where
  fi : Bool
  row : Int
  col : Int
  rows : Int
  cols : Int
instance : Inhabited ActP := ⟨⟨false, 0, 0, 0, 0⟩⟩
def ActP.rc (d : ActP) : R4 := (d.row, d.col, d.rows, d.cols)
def WfA (d : ActP) : Prop := Wf (d.row, d.col) ∧ (Lit.int .i64 d.rows).wf = true ∧ (Lit.int .i64 d.cols).wf = true
def actV (d : ActP) : Value := .agg #[.bool d.fi, .int .i64 d.row, .int .i64 d.col, .int .i64 d.rows, .int .i64 d.cols]
theorem act_parts {H : Type} {enc : TypeId × Value → H} {W : World} {n : Nat} {v0 v1 v2 v3 v4 : Value} {x : DataW H × List MemPlace} (h : DataW.trod enc Try.prog W 0 (fun _ => true) true n 32 [v0, v1, v2, v3, v4] = some x) :
    ∃ d : ActP, v0 = .bool d.fi ∧ v1 = .int .i64 d.row ∧ v2 = .int .i64 d.col ∧ v3 = .int .i64 d.rows ∧ v4 = .int .i64 d.cols ∧ WfA d := by
  obtain ⟨xs, k, hk, hxy, _, hxl, hf⟩ := DataW.trod_struct Try.underlying32 h
  have g0 := hf 0 _ rfl
  have g1 := hf 1 _ rfl
  have g2 := hf 2 _ rfl
  have g3 := hf 3 _ rfl
  have g4 := hf 4 _ rfl
  simp [cells3, cells4] at g0 g1 g2 g3 g4
  match xs, hxl with
  | [y0, y1, y2, y3, y4], _ =>
    obtain ⟨a, e0, _⟩ := DataW.trod_bool Try.underlying4 (by simpa using g0)
    obtain ⟨b, e1, _, w1⟩ := DataW.trod_int Try.underlying3 (by simpa using g1)
    obtain ⟨c, e2, _, w2⟩ := DataW.trod_int Try.underlying3 (by simpa using g2)
    obtain ⟨d, e3, _, w3⟩ := DataW.trod_int Try.underlying3 (by simpa using g3)
    obtain ⟨e, e4, _, w4⟩ := DataW.trod_int Try.underlying3 (by simpa using g4)
    simp only [List.cons.injEq, and_true] at e0 e1 e2 e3 e4
    exact ⟨⟨a, b, c, d, e⟩, e0, e1, e2, e3, e4, ⟨w1, w2⟩, w3, w4⟩
/-- a list of acts in memory -/
def ActsAt (w : World) (v : Value) (l : List ActP) : Prop :=
  ∃ A c, v = .slice A l.length c ∧ l.length ≤ c ∧ ∀ (k : Nat) d, l[k]? = some d → ∃ ad, A = some ad ∧ w.cell? (ad.add (k * 5)) = some (.bool d.fi) ∧ w.cell? ⟨(ad.add (k * 5)).block, (ad.add (k * 5)).off + 1, none⟩ = some (.int .i64 d.row) ∧
    w.cell? ⟨(ad.add (k * 5)).block, (ad.add (k * 5)).off + 2, none⟩ = some (.int .i64 d.col) ∧ w.cell? ⟨(ad.add (k * 5)).block, (ad.add (k * 5)).off + 3, none⟩ = some (.int .i64 d.rows) ∧ w.cell? ⟨(ad.add (k * 5)).block, (ad.add (k * 5)).off + 4, none⟩ = some (.int .i64 d.cols)
theorem ActsAt.below {w w' : World} {v : Value} {l : List ActP} (h : ActsAt w v l) (hb : Below w.heap.size w w') : ActsAt w' v l := by
  obtain ⟨A, c, hv, hc, h⟩ := h
  refine ⟨A, c, hv, hc, fun k p hk => ?_⟩
  obtain ⟨ad, hA, h1, h2, h3, h4, h5⟩ := h k p hk
  exact ⟨ad, hA, (hb.cell (cell_lt h1)).trans h1, (hb.cell (cell_lt h2)).trans h2, (hb.cell (cell_lt h3)).trans h3, (hb.cell (cell_lt h4)).trans h4, (hb.cell (cell_lt h5)).trans h5⟩
theorem open_acts {H : Type} {enc : TypeId × Value → H} {W : World} {base : Nat} {v : Value} {d : DataW H} {ps : List MemPlace} (hv : Value.okWide Try.prog W .any base 22 v) (h : DataW.Trod enc Try.prog W 0 (fun _ => true) true 22 v d ps) :
    ∃ l, ActsAt W v l ∧ ∀ d ∈ l, WfA d := by
  obtain ⟨A, len, cap, rfl⟩ := okWide_slice Try.underlying22 hv
  obtain ⟨fuel, hf⟩ := h
  rcases open_slice Try.underlying22 hf with ⟨h1, _⟩ | ⟨a, n, c, m, k, D, Pl, h1, _, hnc, hcm, hm, _, hx⟩
  · simp only [Value.cells, List.cons.injEq, and_true, Value.slice.injEq] at h1
    obtain ⟨rfl, rfl, rfl⟩ := h1
    exact ⟨[], ⟨none, 0, rfl, Nat.le_refl _, fun k p h => by simp at h⟩, fun d hd => by simp at hd⟩
  · simp only [Value.cells, List.cons.injEq, and_true, Value.slice.injEq] at h1
    obtain ⟨rfl, rfl, rfl⟩ := h1
    have hlm : len ≤ m := by rw [hm]; simp; omega
    have each : ∀ i, i < len → ∃ d : ActP, (W.cell? (a.add (i * 5)) = some (.bool d.fi) ∧ W.cell? ⟨(a.add (i * 5)).block, (a.add (i * 5)).off + 1, none⟩ = some (.int .i64 d.row) ∧
        W.cell? ⟨(a.add (i * 5)).block, (a.add (i * 5)).off + 2, none⟩ = some (.int .i64 d.col) ∧ W.cell? ⟨(a.add (i * 5)).block, (a.add (i * 5)).off + 3, none⟩ = some (.int .i64 d.rows) ∧ W.cell? ⟨(a.add (i * 5)).block, (a.add (i * 5)).off + 4, none⟩ = some (.int .i64 d.cols)) ∧ WfA d := by
      intro i hi
      obtain ⟨cs, e1, e2⟩ := hx i (by omega)
      rw [cells32] at e1
      obtain ⟨_, hlen, hcell⟩ := World.cells?_some e1
      match cs, hlen with
      | [v0, v1, v2, v3, v4], _ =>
        obtain ⟨d, rfl, rfl, rfl, rfl, rfl, hw⟩ := act_parts e2
        have f0 := hcell 0 (by omega)
        have f1 := hcell 1 (by omega)
        have f2 := hcell 2 (by omega)
        have f3 := hcell 3 (by omega)
        have f4 := hcell 4 (by omega)
        simp only [add_pos _ (show 0 < 1 by decide), add_pos _ (show 0 < 2 by decide), add_pos _ (show 0 < 3 by decide), add_pos _ (show 0 < 4 by decide), add_zero'] at f0 f1 f2 f3 f4
        exact ⟨d, ⟨f0, f1, f2, f3, f4⟩, hw⟩
    obtain ⟨q, hq⟩ := choose_lt each
    refine ⟨(List.range len).map q, ⟨some a, cap, by simp, by simpa using hnc, fun i p hp => ?_⟩, fun d hd => ?_⟩
    · rw [List.getElem?_map] at hp
      have hil : i < len := by
        rcases Nat.lt_or_ge i len with h5 | h5
        · exact h5
        · rw [List.getElem?_eq_none (by simpa using h5)] at hp; simp at hp
      rw [List.getElem?_range hil] at hp
      simp only [Option.map_some, Option.some.injEq] at hp
      subst hp
      exact ⟨a, rfl, (hq i hil).1⟩
    · obtain ⟨i, hi, rfl⟩ := List.mem_map.1 hd
      exact (hq i (List.mem_range.1 hi)).2
theorem open_act {H : Type} {enc : TypeId × Value → H} {W : World} {base : Nat} {v : Value} {d : DataW H} {ps : List MemPlace} (hv : Value.okWide Try.prog W .any base 32 v) (h : DataW.Trod enc Try.prog W 0 (fun _ => true) true 32 v d ps) :
    ∃ a, v = actV a ∧ WfA a := by
  obtain ⟨cs, rfl, hsz⟩ := okWide_struct Try.underlying32 hv
  rw [cells32] at hsz
  obtain ⟨l, rfl⟩ : ∃ l : List Value, cs = ⟨l⟩ := ⟨cs.toList, by simp⟩
  match l, hsz with
  | [v0, v1, v2, v3, v4], _ =>
    obtain ⟨fuel, hf⟩ := h
    simp only [Value.cells] at hf
    obtain ⟨d, rfl, rfl, rfl, rfl, rfl, hw⟩ := act_parts hf
    exact ⟨d, rfl, hw⟩
/-- two bytes -/
def Byte2 (p : Pl) : Prop := (0 ≤ p.1 ∧ p.1 ≤ 255) ∧ 0 ≤ p.2 ∧ p.2 ≤ 255
theorem pair_parts {H : Type} {enc : TypeId × Value → H} {W : World} {n : Nat} {v0 v1 : Value} {x : DataW H × List MemPlace} (h : DataW.trod enc Try.prog W 0 (fun _ => true) true n 56 [v0, v1] = some x) :
    ∃ d : Pl, v0 = .int .u8 d.1 ∧ v1 = .int .u8 d.2 ∧ Byte2 d := by
  obtain ⟨xs, k, hk, hxy, _, hxl, hf⟩ := DataW.trod_array Try.underlying56 h
  have g0 := hf 0 (by omega)
  have g1 := hf 1 (by omega)
  simp [cells5] at g0 g1
  match xs, hxl with
  | [y0, y1], _ =>
    obtain ⟨a, e0, _, w0⟩ := DataW.trod_int Try.underlying5 (by simpa using g0)
    obtain ⟨b, e1, _, w1⟩ := DataW.trod_int Try.underlying5 (by simpa using g1)
    simp only [List.cons.injEq, and_true] at e0 e1
    exact ⟨(a, b), e0, e1, wf_u8 w0, wf_u8 w1⟩
def PairsAt (w : World) (v : Value) (l : List Pl) : Prop :=
  ∃ A c, v = .slice A l.length c ∧ l.length ≤ c ∧ ∀ (k : Nat) d, l[k]? = some d → ∃ ad, A = some ad ∧ w.cell? (ad.add (k * 2)) = some (.int .u8 d.1) ∧ w.cell? ⟨(ad.add (k * 2)).block, (ad.add (k * 2)).off + 1, none⟩ = some (.int .u8 d.2)
theorem PairsAt.below {w w' : World} {v : Value} {l : List Pl} (h : PairsAt w v l) (hb : Below w.heap.size w w') : PairsAt w' v l := by
  obtain ⟨A, c, hv, hc, h⟩ := h
  refine ⟨A, c, hv, hc, fun k p hk => ?_⟩
  obtain ⟨ad, hA, h1, h2⟩ := h k p hk
  exact ⟨ad, hA, (hb.cell (cell_lt h1)).trans h1, (hb.cell (cell_lt h2)).trans h2⟩
theorem open_pairs {H : Type} {enc : TypeId × Value → H} {W : World} {base : Nat} {v : Value} {d : DataW H} {ps : List MemPlace} (hv : Value.okWide Try.prog W .any base 57 v) (h : DataW.Trod enc Try.prog W 0 (fun _ => true) true 57 v d ps) :
    ∃ l, PairsAt W v l ∧ ∀ d ∈ l, Byte2 d := by
  obtain ⟨A, len, cap, rfl⟩ := okWide_slice Try.underlying57 hv
  obtain ⟨fuel, hf⟩ := h
  rcases open_slice Try.underlying57 hf with ⟨h1, _⟩ | ⟨a, n, c, m, k, D, Pl, h1, _, hnc, hcm, hm, _, hx⟩
  · simp only [Value.cells, List.cons.injEq, and_true, Value.slice.injEq] at h1
    obtain ⟨rfl, rfl, rfl⟩ := h1
    exact ⟨[], ⟨none, 0, rfl, Nat.le_refl _, fun k p h => by simp at h⟩, fun d hd => by simp at hd⟩
  · simp only [Value.cells, List.cons.injEq, and_true, Value.slice.injEq] at h1
    obtain ⟨rfl, rfl, rfl⟩ := h1
    have hlm : len ≤ m := by rw [hm]; simp; omega
    have each : ∀ i, i < len → ∃ d : Int × Int, (W.cell? (a.add (i * 2)) = some (.int .u8 d.1) ∧ W.cell? ⟨(a.add (i * 2)).block, (a.add (i * 2)).off + 1, none⟩ = some (.int .u8 d.2)) ∧ Byte2 d := by
      intro i hi
      obtain ⟨cs, e1, e2⟩ := hx i (by omega)
      rw [cells56] at e1
      obtain ⟨_, hlen, hcell⟩ := World.cells?_some e1
      match cs, hlen with
      | [v0, v1], _ =>
        obtain ⟨d, rfl, rfl, hw⟩ := pair_parts e2
        have f0 := hcell 0 (by omega)
        have f1 := hcell 1 (by omega)
        simp only [add_pos _ (show 0 < 1 by decide), add_zero'] at f0 f1
        exact ⟨d, ⟨f0, f1⟩, hw⟩
    obtain ⟨q, hq⟩ := choose_lt each
    refine ⟨(List.range len).map q, ⟨some a, cap, by simp, by simpa using hnc, fun i p hp => ?_⟩, fun d hd => ?_⟩
    · rw [List.getElem?_map] at hp
      have hil : i < len := by
        rcases Nat.lt_or_ge i len with h5 | h5
        · exact h5
        · rw [List.getElem?_eq_none (by simpa using h5)] at hp; simp at hp
      rw [List.getElem?_range hil] at hp
      simp only [Option.map_some, Option.some.injEq] at hp
      subst hp
      exact ⟨a, rfl, (hq i hil).1⟩
    · obtain ⟨i, hi, rfl⟩ := List.mem_map.1 hd
      exact (hq i (List.mem_range.1 hi)).2
theorem open_pair {H : Type} {enc : TypeId × Value → H} {W : World} {base : Nat} {v : Value} {d : DataW H} {ps : List MemPlace} (hv : Value.okWide Try.prog W .any base 56 v) (h : DataW.Trod enc Try.prog W 0 (fun _ => true) true 56 v d ps) :
    ∃ p : Pl, v = .agg #[.int .u8 p.1, .int .u8 p.2] ∧ Byte2 p := by
  obtain ⟨cs, rfl, hsz⟩ : ∃ cs, v = .agg cs ∧ cs.size = Try.prog.cellsOf 56 := by
    simp only [Value.okWide, Try.underlying56] at hv
    obtain ⟨cs, h1, h2, _⟩ := hv
    exact ⟨cs, h1, h2⟩
  rw [cells56] at hsz
  obtain ⟨l, rfl⟩ : ∃ l : List Value, cs = ⟨l⟩ := ⟨cs.toList, by simp⟩
  match l, hsz with
  | [v0, v1], _ =>
    obtain ⟨fuel, hf⟩ := h
    simp only [Value.cells] at hf
    obtain ⟨d, rfl, rfl, hw⟩ := pair_parts hf
    exact ⟨d, rfl, hw⟩
end Go.Proofs.Ytdeneogbnmedkaa
