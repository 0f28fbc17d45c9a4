/- An argument that is a list of deeds; the deeds done, one by one. -/
import Derived.Test.YtngomgjhakgehaaRe
namespace Go.Proofs.Ytngomgjhakgehaa
open Go.ChangeShapes Go.WideShapes Go.ChangeAt Go.RowKit Go.Deep

instance : Inhabited DeedP := ⟨⟨0, (0, 0), (0, 0)⟩⟩
/-- a list of deeds in memory -/
def DeedsAt (w : World) (v : Value) (l : List DeedP) : Prop :=
  ∃ A c, v = .slice A l.length c ∧ l.length ≤ c ∧ ∀ (k : Nat) d, l[k]? = some d → ∃ ad, A = some ad ∧ w.cell? (ad.add (k * 5)) = some (.int .i64 d.kind) ∧ w.cell? ⟨(ad.add (k * 5)).block, (ad.add (k * 5)).off + 1, none⟩ = some (.int .i64 d.bh.1) ∧
    w.cell? ⟨(ad.add (k * 5)).block, (ad.add (k * 5)).off + 2, none⟩ = some (.int .i64 d.bh.2) ∧ w.cell? ⟨(ad.add (k * 5)).block, (ad.add (k * 5)).off + 3, none⟩ = some (.int .i64 d.id.1) ∧ w.cell? ⟨(ad.add (k * 5)).block, (ad.add (k * 5)).off + 4, none⟩ = some (.int .i64 d.id.2)
theorem DeedsAt.below {w w' : World} {v : Value} {l : List DeedP} (h : DeedsAt w v l) (hb : Below w.heap.size w w') : DeedsAt w' v l := by
  obtain ⟨A, c, hv, hc, h⟩ := h
  refine ⟨A, c, hv, hc, fun k p hk => ?_⟩
  obtain ⟨ad, hA, h1, h2, h3, h4, h5⟩ := h k p hk
  exact ⟨ad, hA, (hb.cell (cell_lt h1)).trans h1, (hb.cell (cell_lt h2)).trans h2, (hb.cell (cell_lt h3)).trans h3, (hb.cell (cell_lt h4)).trans h4, (hb.cell (cell_lt h5)).trans h5⟩
theorem add_pos (a : Addr) {n : Nat} (h : 0 < n) : a.add n = ⟨a.block, a.off + n, none⟩ := by
  unfold Addr.add
  rw [if_neg (by omega)]
theorem add_zero' (a : Addr) : a.add 0 = a := by unfold Addr.add; simp
theorem cells33 : Try.prog.cellsOf 33 = 5 := by kernel_rfl
theorem cells3 : Try.prog.cellsOf 3 = 1 := by kernel_rfl
theorem id_ints {H : Type} {enc : TypeId × Value → H} {W : World} {n : Nat} {v0 v1 : Value} {x : DataW H × List MemPlace} (h : DataW.trod enc Try.prog W 0 (fun _ => true) true n 25 [v0, v1] = some x) : ∃ a b, v0 = .int .i64 a ∧ v1 = .int .i64 b := by
  obtain ⟨xs, k, hk, hxy, _, hxl, hf⟩ := DataW.trod_struct Try.underlying25 h
  have g0 := hf 0 _ rfl
  have g1 := hf 1 _ rfl
  simp [cells3] at g0 g1
  match xs, hxl with
  | [y0, y1], _ =>
    obtain ⟨a, e0, _, _⟩ := DataW.trod_int Try.underlying3 (by simpa using g0)
    obtain ⟨b, e1, _, _⟩ := DataW.trod_int Try.underlying3 (by simpa using g1)
    simp only [List.cons.injEq, and_true] at e0 e1
    exact ⟨a, b, e0, e1⟩
theorem deed_ints {H : Type} {enc : TypeId × Value → H} {W : World} {n : Nat} {v0 v1 v2 v3 v4 : Value} {x : DataW H × List MemPlace} (h : DataW.trod enc Try.prog W 0 (fun _ => true) true n 33 [v0, v1, v2, v3, v4] = some x) :
    ∃ d : DeedP, v0 = .int .i64 d.kind ∧ v1 = .int .i64 d.bh.1 ∧ v2 = .int .i64 d.bh.2 ∧ v3 = .int .i64 d.id.1 ∧ v4 = .int .i64 d.id.2 := by
  obtain ⟨xs, k, hk, hxy, _, hxl, hf⟩ := DataW.trod_struct Try.underlying33 h
  have g0 := hf 0 _ rfl
  have g1 := hf 1 _ rfl
  have g2 := hf 2 _ rfl
  simp [cells3, cells25] at g0 g1 g2
  match xs, hxl with
  | [y0, y1, y2], _ =>
    obtain ⟨a, e0, _, _⟩ := DataW.trod_int Try.underlying3 (by simpa using g0)
    obtain ⟨b, c, e1, e2⟩ := id_ints (by simpa using g1)
    obtain ⟨d, e, e3, e4⟩ := id_ints (by simpa using g2)
    simp only [List.cons.injEq, and_true] at e0
    exact ⟨⟨a, (b, c), (d, e)⟩, e0, e1, e2, e3, e4⟩
theorem open_deeds {H : Type} {enc : TypeId × Value → H} {W : World} {base : Nat} {v : Value} {d : DataW H} {ps : List MemPlace} (hv : Value.okWide Try.prog W .any base 23 v) (h : DataW.Trod enc Try.prog W 0 (fun _ => true) true 23 v d ps) :
    ∃ l, DeedsAt W v l ∧ True := by
  obtain ⟨A, len, cap, rfl⟩ := okWide_slice Try.underlying23 hv
  obtain ⟨fuel, hf⟩ := h
  rcases open_slice Try.underlying23 hf with ⟨h1, _⟩ | ⟨a, n, c, m, k, D, Pl, h1, _, hnc, hcm, hm, _, hx⟩
  · simp only [Value.cells, List.cons.injEq, and_true, Value.slice.injEq] at h1
    obtain ⟨rfl, rfl, rfl⟩ := h1
    exact ⟨[], ⟨none, 0, rfl, Nat.le_refl _, fun k p h => by simp at h⟩, trivial⟩
  · simp only [Value.cells, List.cons.injEq, and_true, Value.slice.injEq] at h1
    obtain ⟨rfl, rfl, rfl⟩ := h1
    have hlm : len ≤ m := by rw [hm]; simp; omega
    have each : ∀ i, i < len → ∃ d : DeedP, W.cell? (a.add (i * 5)) = some (.int .i64 d.kind) ∧ W.cell? ⟨(a.add (i * 5)).block, (a.add (i * 5)).off + 1, none⟩ = some (.int .i64 d.bh.1) ∧ W.cell? ⟨(a.add (i * 5)).block, (a.add (i * 5)).off + 2, none⟩ = some (.int .i64 d.bh.2) ∧ W.cell? ⟨(a.add (i * 5)).block, (a.add (i * 5)).off + 3, none⟩ = some (.int .i64 d.id.1) ∧ W.cell? ⟨(a.add (i * 5)).block, (a.add (i * 5)).off + 4, none⟩ = some (.int .i64 d.id.2) := by
      intro i hi
      obtain ⟨cs, e1, e2⟩ := hx i (by omega)
      rw [cells33] at e1
      obtain ⟨_, hlen, hcell⟩ := World.cells?_some e1
      match cs, hlen with
      | [v0, v1, v2, v3, v4], _ =>
        obtain ⟨d, rfl, rfl, rfl, rfl, rfl⟩ := deed_ints e2
        have f0 := hcell 0 (by omega)
        have f1 := hcell 1 (by omega)
        have f2 := hcell 2 (by omega)
        have f3 := hcell 3 (by omega)
        have f4 := hcell 4 (by omega)
        simp only [add_pos _ (show 0 < 1 by decide), add_pos _ (show 0 < 2 by decide), add_pos _ (show 0 < 3 by decide), add_pos _ (show 0 < 4 by decide), add_zero'] at f0 f1 f2 f3 f4
        exact ⟨d, f0, f1, f2, f3, f4⟩
    obtain ⟨q, hq⟩ := choose_lt each
    refine ⟨(List.range len).map q, ⟨some a, cap, by simp, by simpa using hnc, fun i p hp => ?_⟩, trivial⟩
    rw [List.getElem?_map] at hp
    have hil : i < len := by
      rcases Nat.lt_or_ge i len with h5 | h5
      · exact h5
      · rw [List.getElem?_eq_none (by simpa using h5)] at hp; simp at hp
    rw [List.getElem?_range hil] at hp
    simp only [Option.map_some, Option.some.injEq] at hp
    subst hp
    exact ⟨a, rfl, hq i hil⟩
def deedsL (l : List Ent) (ds : List DeedP) : List Ent := ds.foldl deedL l
theorem deedsL_len (ds : List DeedP) : ∀ l : List Ent, (deedsL l ds).length ≤ l.length + ds.length := by
  induction ds with
  | nil => intro l; simp [deedsL]
  | cons d ds ih =>
    intro l
    have h1 := ih (deedL l d)
    have h2 := deedL_len l d
    simp only [deedsL, List.foldl_cons, List.length_cons] at h1 ⊢
    omega
theorem deedsL_snoc (l : List Ent) (ds : List DeedP) (d : DeedP) : deedsL l (ds ++ [d]) = deedL (deedsL l ds) d := by simp [deedsL]
end Go.Proofs.Ytngomgjhakgehaa
