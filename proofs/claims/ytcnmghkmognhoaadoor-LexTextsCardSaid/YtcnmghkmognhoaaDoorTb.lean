/- A slice of bytes that comes in. -/
import Derived.Test.YtcnmghkmognhoaaDoorLaw
import Derived.Test.YtcnmghkmognhoaaDoorTs
namespace Go.Proofs.YtcnmghkmognhoaaDoor
open Go.ChangeShapes Go.WideShapes Go.ChangeAt Go.RowKit
theorem cells5 : Tryd.prog.cellsOf 5 = 1 := by kernel_rfl
theorem wf_u8 {n : Int} (h : (Lit.int .u8 n).wf = true) : 0 ≤ n ∧ n ≤ 255 := by
  simp [Lit.wf, show IntKind.u8.min = 0 from rfl, show IntKind.u8.max = 255 from rfl] at h; omega
theorem byte_wf {z : Int} (h : (Lit.int .u8 z).wf = true) : ((UInt8.ofNat z.toNat).toNat : Int) = z := by
  have hz := wf_u8 h
  rw [UInt8.toNat_ofNat']
  omega
set_option maxRecDepth 100000 in
theorem open_bytes {H : Type} {enc : TypeId × Value → H} {W : World} {base : Nat} {v : Value} {d : DataW H} {ps : List MemPlace} (hv : Value.okWide Tryd.prog W .any base 41 v) (h : DataW.Trod enc Tryd.prog W 0 (fun _ => true) true 41 v d ps) :
    ∃ l, BytesAt W v l := by
  obtain ⟨A, len, cap, rfl⟩ := okWide_slice Tryd.underlying41 hv
  obtain ⟨fuel, hf⟩ := h
  rcases open_ints Tryd.underlying41 Tryd.underlying5 cells5 hf with ⟨h1, _⟩ | ⟨a, n, c, zs, h1, _, hnc, hcm, hz, _, hx, hw⟩
  · simp only [Value.cells, List.cons.injEq, and_true, Value.slice.injEq] at h1
    obtain ⟨rfl, rfl, rfl⟩ := h1
    exact ⟨[], ⟨none, 0, rfl, Nat.le_refl _, fun k p h => by simp at h⟩⟩
  · simp only [Value.cells, List.cons.injEq, and_true, Value.slice.injEq] at h1
    obtain ⟨rfl, rfl, rfl⟩ := h1
    have hlm : len ≤ zs.length := by rw [hz]; simp; omega
    have hll : ((zs.take len).map fun z => UInt8.ofNat z.toNat).length = len := by simp; omega
    refine ⟨(zs.take len).map fun z => UInt8.ofNat z.toNat, some a, cap, by rw [hll], by rw [hll]; exact hnc, fun k x hk => ?_⟩
    have hkl : k < len := by
      have := (List.getElem?_eq_some_iff.1 hk).1
      rw [hll] at this; exact this
    have hc := hx k (by omega)
    obtain ⟨b, o, spot⟩ := a
    have hspot : spot = none := by simpa [Addr.add] using World.cell?_spot (hx 0 (by omega))
    subst hspot
    rw [add_lit] at hc
    refine ⟨b, o, rfl, ?_⟩
    rw [hc]
    rw [List.getElem?_map, List.getElem?_take_of_lt hkl, List.getElem?_eq_getElem (by omega)] at hk
    simp only [Option.map_some, Option.some.injEq] at hk
    rw [← hk, byte_wf (hw _ (List.getElem_mem _)), List.getD, List.getElem?_eq_getElem (by omega)]
    rfl
end Go.Proofs.YtcnmghkmognhoaaDoor
