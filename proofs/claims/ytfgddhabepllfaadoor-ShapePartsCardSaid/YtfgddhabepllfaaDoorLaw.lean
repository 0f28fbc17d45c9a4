/- What every law of this seat wants beside its walk: how its arguments open; the step to the row; the table out of the row's list; the start for the witness. -/
import Derived.Test.YtfgddhabepllfaaDoorCards
import Derived.Test.YtfgddhabepllfaaDoorTie
import Derived.Test.YtfgddhabepllfaaDoorF
import Derived.ProofKit
import Derived.OpenShut
import Derived.Carry
import Derived.LaidMore
import Derived.Deep.DeepHandedRow
import Derived.Deep.SlicePairs
import Derived.Lib.LaidTab
import Derived.Lib.SmallJoins
import Derived.Stop.LaidErr
import Derived.Lay
namespace Go.Proofs.YtfgddhabepllfaaDoor
open Go.ChangeShapes Go.WideShapes Go.ChangeAt Go.RowKit Go.Deep

theorem trodAll_stays {H : Type} {enc : TypeId × Value → H} {P : Program} (hl : laidOutB P = true) {W W' : World} (hb : Below W.heap.size W W') :
    ∀ (ts : List TypeId) (vs : List Value) (ds : List (DataW H)) (ps : List MemPlace), (∀ t ∈ ts, P.readableRec t = true ∧ t < P.types.size) → (∀ x ∈ ps, x.block < W.heap.size) →
      DataW.TrodAll enc P W 0 (fun _ => true) true ts vs ds ps → DataW.TrodAll enc P W' 0 (fun b => decide (b < W.heap.size)) true ts vs ds ps
  | [], vs, ds, ps, _, _, h => by
    obtain ⟨rfl, rfl, rfl⟩ := trodAll_nil h
    exact trodAll_mk0
  | t :: ts, vs, ds, ps, ht, hp, h => by
    obtain ⟨v, vs', d, ds', p, q, rfl, rfl, rfl, h1, h2⟩ := trodAll_cons h
    exact trodAll_cons_mk (Below.trod hl (ht t (by simp)).1 (ht t (by simp)).2 h1 hb (fun x hx => hp x (by simp [hx])))
      (trodAll_stays hl hb ts vs' ds' q (fun u hu => ht u (by simp [hu])) (fun x hx => hp x (by simp [hx])) h2)

/-- THE STEP: the call returned true, and below the old heap's size nothing has turned. -/
theorem post_law {H : Type} {enc : TypeId × Value → H} {P : Program} {f : Func} {s : ChangeSpec} {fresh handsOn : Bool} {W W' : World} {args : Array Value} {ds gs : List (DataW H)} {before : List MemPlace} {b : TypeId}
    (hl : laidOutB P = true) (hr : f.params.toList.all (fun t => P.readableRec t && decide (t < P.types.size)) = true) (hv : s.vars = []) (hb4 : P.underlying b = some .bool) (hrt : f.resultTypes = #[b])
    (hW : DataW.Whole enc P f.params.toList s.vars false W args.toList ds gs before) (hfn : (s.fn H (ds ++ gs)).results = [.lit (.bool true)] ∧ (s.fn H (ds ++ gs)).args = ds ∧ (s.fn H (ds ++ gs)).vars = [])
    (hb : Below W.heap.size W W') : s.post enc P f false fresh handsOn false W args (.bool true) W' := by
  have hlt := hW.lt
  have hW0 := hW
  obtain ⟨p, q, hA, hV, rfl, _, _⟩ := hW
  rw [hv] at hV
  obtain ⟨rfl, rfl⟩ := trodVars_none hV
  obtain ⟨e1, e2, e3⟩ := hfn
  refine ⟨ds, [], p ++ [], [], p, [], hW0, ?_, ?_, ?_, hb.frame _, fun h => by cases h⟩
  · rw [e1, hrt]
    exact trodAll_mk1 (shut_bool hb4 _)
  · rw [e2]
    exact trodAll_stays hl hb _ _ _ _ (fun t ht => by simpa using List.all_eq_true.1 hr t ht) (fun x hx => hlt x (by simp [hx])) hA
  · rw [hv, e3]
    rfl


theorem own : ownKnob Tryd.prog.godebug = none := by kernel_rfl
theorem laidOut : laidOutB Tryd.prog = true := by kernel_rfl
set_option maxRecDepth 100000 in
theorem wf_bounds {n : Int} (h : (Lit.int .i64 n).wf = true) : -9223372036854775808 ≤ n ∧ n ≤ 9223372036854775807 := by
  simp [Lit.wf, show IntKind.i64.min = -9223372036854775808 from rfl, show IntKind.i64.max = 9223372036854775807 from rfl] at h; omega
theorem add_pos (a : Addr) {n : Nat} (h : 0 < n) : a.add n = ⟨a.block, a.off + n, none⟩ := by
  unfold Addr.add
  rw [if_neg (by omega)]
theorem add_zero' (a : Addr) : a.add 0 = a := by unfold Addr.add; simp
theorem cells34 : Tryd.prog.cellsOf 34 = 6 := by kernel_rfl
theorem cells32 : Tryd.prog.cellsOf 32 = 2 := by kernel_rfl
theorem cells25 : Tryd.prog.cellsOf 25 = 3 := by kernel_rfl
theorem cells22 : Tryd.prog.cellsOf 22 = 1 := by kernel_rfl
theorem cells3 : Tryd.prog.cellsOf 3 = 1 := by kernel_rfl
theorem cells4 : Tryd.prog.cellsOf 4 = 1 := by kernel_rfl
theorem cells9 : Tryd.prog.cellsOf 9 = 1 := by kernel_rfl
theorem cells79 : Tryd.prog.cellsOf 79 = 10 := by kernel_rfl
set_option maxRecDepth 100000 in
theorem val_parts {H : Type} {enc : TypeId × Value → H} {W : World} {n : Nat} {v0 v1 v2 v3 v4 v5 : Value} {x : DataW H × List MemPlace} (h : DataW.trod enc Tryd.prog W 0 (fun _ => true) true n 34 [v0, v1, v2, v3, v4, v5] = some x) :
    ∃ d : Vl, v0 = .int .i64 d.k ∧ v1 = .int .i64 d.m ∧ v2 = .int .i64 d.e ∧ v3 = .string d.t ∧ v4 = .bool d.b ∧ v5 = .int .i64 d.f ∧ WfV d := by
  obtain ⟨xs, k, hk, hxy, _, hxl, hf⟩ := DataW.trod_struct Tryd.underlying34 h
  have g0 := hf 0 _ rfl
  have g1 := hf 1 _ rfl
  have g2 := hf 2 _ rfl
  have g3 := hf 3 _ rfl
  have g4 := hf 4 _ rfl
  simp [cells3, cells4, cells9, cells32] at g0 g1 g2 g3 g4
  match xs, hxl with
  | [y0, y1, y2, y3, y4], _ =>
    obtain ⟨a, e0, _, w0⟩ := DataW.trod_int Tryd.underlying3 (by simpa using g0)
    have g1' : DataW.trod enc Tryd.prog W 0 (fun _ => true) true k 32 [v1, v2] = some y1 := by simpa using g1
    obtain ⟨zs, k', hk', _, _, hzl, hz⟩ := DataW.trod_struct Tryd.underlying32 g1'
    have z0 := hz 0 _ rfl
    have z1 := hz 1 _ rfl
    simp [cells3] at z0 z1
    match zs, hzl with
    | [q0, q1], _ =>
      obtain ⟨m, e1, _, w1⟩ := DataW.trod_int Tryd.underlying3 (by simpa using z0)
      obtain ⟨e, e2, _, w2⟩ := DataW.trod_int Tryd.underlying3 (by simpa using z1)
      obtain ⟨s, e3, _⟩ := DataW.trod_string Tryd.underlying9 (by simpa using g2)
      obtain ⟨b, e4, _⟩ := DataW.trod_bool Tryd.underlying4 (by simpa using g3)
      obtain ⟨f, e5, _, w5⟩ := DataW.trod_int Tryd.underlying3 (by simpa using g4)
      simp only [List.cons.injEq, and_true] at e0 e1 e2 e3 e4 e5
      exact ⟨⟨a, m, e, s, b, f⟩, e0, e1, e2, e3, e4, e5, wf_bounds w0, wf_bounds w1, wf_bounds w2, wf_bounds w5⟩
set_option maxRecDepth 100000 in
theorem open_vals {H : Type} {enc : TypeId × Value → H} {W : World} {v : Value} {fuel : Nat} {x : DataW H × List MemPlace} (hf : DataW.trod enc Tryd.prog W 0 (fun _ => true) true fuel 22 [v] = some x) : ∃ l, ValAt W.heap.size W v l ∧ WfL l := by
  obtain ⟨d, ps⟩ := x
  rcases open_slice Tryd.underlying22 hf with ⟨h1, _⟩ | ⟨a, n, c, m, k, D, Pl, h1, _, hnc, hcm, hm, _, hx⟩
  · simp only [List.cons.injEq, and_true] at h1
    subst h1
    exact ⟨[], .nil _ _, fun d hd => by simp at hd⟩
  · simp only [List.cons.injEq, and_true] at h1
    subst h1
    have hlm : n ≤ m := by rw [hm]; simp; omega
    by_cases hn0 : n = 0
    · subst hn0
      exact ⟨[], ⟨some a, c, rfl, Nat.zero_le _, fun k x h => by simp at h⟩, fun d hd => by simp at hd⟩
    obtain ⟨g, o, spot⟩ := a
    have hspot : spot = none := by
      obtain ⟨cs, e1, _⟩ := hx 0 (by omega)
      rw [cells34] at e1
      obtain ⟨_, hlen, hcell⟩ := World.cells?_some e1
      match cs, hlen with
      | [v0, v1, v2, v3, v4, v5], _ =>
        have f0 := hcell 0 (by omega)
        exact (by simpa [Addr.add] using World.cell?_spot f0)
    subst hspot
    have hadd : ∀ j, (⟨g, o, none⟩ : Addr).add j = ⟨g, o + j, none⟩ := fun j => by unfold Addr.add; split <;> simp_all
    have hadd2 : ∀ p j, (⟨g, p, none⟩ : Addr).add j = ⟨g, p + j, none⟩ := fun p j => by unfold Addr.add; split <;> simp_all
    haveI : Inhabited Vl := ⟨zV⟩
    have each : ∀ i, i < n → ∃ d : Vl, (g < W.heap.size ∧ CellV W g o i d) ∧ WfV d := by
      intro i hi
      obtain ⟨cs, e1, e2⟩ := hx i (by omega)
      rw [cells34] at e1
      obtain ⟨_, hlen, hcell⟩ := World.cells?_some e1
      match cs, hlen with
      | [v0, v1, v2, v3, v4, v5], _ =>
        obtain ⟨d, rfl, rfl, rfl, rfl, rfl, rfl, hw⟩ := val_parts e2
        have f0 := hcell 0 (by omega)
        have f1 := hcell 1 (by omega)
        have f2 := hcell 2 (by omega)
        have f3 := hcell 3 (by omega)
        have f4 := hcell 4 (by omega)
        have f5 := hcell 5 (by omega)
        rw [hadd, hadd2] at f0 f1 f2 f3 f4 f5
        exact ⟨d, ⟨cell_lt f0, f0, f1, f2, f3, f4, f5⟩, hw⟩
    obtain ⟨q, hq⟩ := choose_lt each
    refine ⟨(List.range n).map q, ⟨some ⟨g, o, none⟩, c, by simp, by simpa using hnc, fun i p hp => ?_⟩, fun d hd => ?_⟩
    · rw [List.getElem?_map] at hp
      have hil : i < n := by
        rcases Nat.lt_or_ge i n with h5 | h5
        · exact h5
        · rw [List.getElem?_eq_none (by simpa using h5)] at hp; simp at hp
      rw [List.getElem?_range hil] at hp
      simp only [Option.map_some, Option.some.injEq] at hp
      subst hp
      exact ⟨g, o, rfl, (hq i hil).1.1, (hq i hil).1.2⟩
    · obtain ⟨i, hi, rfl⟩ := List.mem_map.1 hd
      exact (hq i (List.mem_range.1 hi)).2
set_option maxRecDepth 100000 in
theorem open_array {H : Type} {enc : TypeId × Value → H} {W : World} {base : Nat} {v : Value} {d : DataW H} {ps : List MemPlace} (hv : Value.okWide Tryd.prog W .any base 25 v) (h : DataW.Trod enc Tryd.prog W 0 (fun _ => true) true 25 v d ps) :
    ∃ r c u l, v = arV r c u ∧ ValAt W.heap.size W u l ∧ WfL l ∧ (-9223372036854775808 ≤ r ∧ r ≤ 9223372036854775807) ∧ (-9223372036854775808 ≤ c ∧ c ≤ 9223372036854775807) := by
  obtain ⟨cs, rfl, hsz⟩ := okWide_struct Tryd.underlying25 hv
  rw [cells25] at hsz
  obtain ⟨l, rfl⟩ : ∃ l : List Value, cs = ⟨l⟩ := ⟨cs.toList, by simp⟩
  match l, hsz with
  | [v0, v1, v2], _ =>
    obtain ⟨fuel, hf⟩ := h
    simp only [Value.cells] at hf
    obtain ⟨xs, k, hk, hxy, _, hxl, hg⟩ := DataW.trod_struct Tryd.underlying25 hf
    have g0 := hg 0 _ rfl
    have g1 := hg 1 _ rfl
    have g2 := hg 2 _ rfl
    simp [cells3, cells22] at g0 g1 g2
    match xs, hxl with
    | [y0, y1, y2], _ =>
      obtain ⟨r, e0, _, w0⟩ := DataW.trod_int Tryd.underlying3 (by simpa using g0)
      obtain ⟨c, e1, _, w1⟩ := DataW.trod_int Tryd.underlying3 (by simpa using g1)
      have g2' : DataW.trod enc Tryd.prog W 0 (fun _ => true) true k 22 [v2] = some y2 := by simpa using g2
      obtain ⟨l, hl1, hl2⟩ := open_vals g2'
      simp only [List.cons.injEq, and_true] at e0 e1
      exact ⟨r, c, v2, l, by rw [e0, e1]; rfl, hl1, hl2, wf_bounds w0, wf_bounds w1⟩
theorem gTabName : Tryd.prog.globalNamed "counterpane/value.faultTexts" = some 0 := by kernel_rfl
theorem gTabType : (Tryd.prog.globals[0]?).map (·.type) = some 79 := by kernel_rfl
theorem bs_eta (s : ByteArray) : (⟨s.data.toList.toArray⟩ : ByteArray) = s := by cases s; simp
/-- an array of texts that reads as a table holds the table's texts, cell for cell -/
theorem cells_of_texts {H : Type} {enc : TypeId × Value → H} {P : Program} {w : World} {base : Nat} {sp : Nat → Bool} {held : Bool} {fuel : Nat} {t e : TypeId} {n : Nat} {cs : List Value} {zs : List (List UInt8)} {p : List MemPlace}
    (ht : P.underlying t = some (.array n e)) (he : P.underlying e = some .string) (hce : P.cellsOf e = 1) (hct : P.cellsOf t = n)
    (h : DataW.trod enc P w base sp held fuel t cs = some (.agg (zs.map fun z => .lit (.string z)), p)) : cs = zs.map fun z => Value.string ⟨z.toArray⟩ := by
  cases fuel with
  | zero => simp [DataW.trod] at h
  | succ fuel =>
    simp only [DataW.trod, ht, hce, hct, Nat.mul_one] at h
    split at h
    · rename_i hl
      obtain ⟨xs, hm, hx⟩ := Option.map_eq_some_iff.1 h
      have hxs : xs.map (·.1) = zs.map fun z => (DataW.lit (.string z) : DataW H) := by
        have := congrArg Prod.fst hx
        simpa using this
      have hxl : xs.length = n := by simpa using Lib.mapM_length hm
      have hzl : zs.length = n := by
        have := congrArg List.length hxs
        simp at this
        omega
      apply List.ext_getElem?
      intro i
      by_cases hi : i < n
      · obtain ⟨b, hb, hf⟩ := Lib.mapM_at hm i i (by simp [hi])
        obtain ⟨s, hc, rfl, _⟩ := DataW.trod_string he hf
        have h1 : cs[i]? = some (.string s) := by
          have := congrArg (·[0]?) hc
          simpa [List.getElem?_take, List.getElem?_drop] using this
        have h2 : (xs.map (·.1))[i]? = some (DataW.lit (.string s.data.toList) : DataW H) := by simp [hb]
        rw [hxs] at h2
        simp only [List.getElem?_map, Option.map_eq_some_iff, DataW.lit.injEq, Lit.string.injEq] at h2
        obtain ⟨z', hz', e⟩ := h2
        rw [h1, List.getElem?_map, hz', e, Option.map_some, bs_eta]
      · rw [List.getElem?_eq_none (by omega), List.getElem?_eq_none (by simp; omega)]
    · cases h
/-- the listed table -/
def tables : List (String × DataW Unit) := [("counterpane/value.faultTexts", Rows.laid_counterpane_value_faultTexts)]
theorem faults_data {H : Type} : (Rows.laid_counterpane_value_faultTexts : DataW H) = .agg (ftexts.map fun z => .lit (.string z)) := rfl
theorem laid_env {W : World} (h : laidMetH Tryd.prog tables W) : Env W := by
  have h1 : laidMet Tryd.prog tables W := h
  obtain ⟨ps, ⟨g', t', cs, fuel, p, q, hg', ht', hvar, hd, _, _⟩, _⟩ := h1
  obtain rfl := Option.some.inj (gTabName.symm.trans hg')
  obtain rfl := Option.some.inj (gTabType.symm.trans ht')
  rw [faults_data] at hd
  have hcs := cells_of_texts Tryd.underlying79 Tryd.underlying9 cells9 cells79 hd
  intro k hk
  have hv := World.var?_cell gTabName hvar k
  rw [hv]
  have : cs[k]? = cs.toList[k]? := by simp
  rw [this, hcs, List.getElem?_map]
  obtain rfl | rfl | rfl | rfl | rfl | rfl | rfl | rfl | rfl | rfl : k = 0 ∨ k = 1 ∨ k = 2 ∨ k = 3 ∨ k = 4 ∨ k = 5 ∨ k = 6 ∨ k = 7 ∨ k = 8 ∨ k = 9 := by omega
  all_goals rfl
set_option maxRecDepth 100000 in
/-- the world in which all is laid meets the list -/
theorem laid_met (os : Os) (args : Array Value) : laidMet Tryd.prog tables ((World.laidAll Tryd.prog os tables).forCall (fun _ _ => 0) ⟨#[], args, []⟩).memory := laidMet_laidAll args (by kernel_rfl) (by kernel_rfl)
end Go.Proofs.YtfgddhabepllfaaDoor
