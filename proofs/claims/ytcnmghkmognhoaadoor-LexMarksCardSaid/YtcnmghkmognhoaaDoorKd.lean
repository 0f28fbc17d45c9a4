/- Itoa; a mark in memory -/
import Derived.Test.YtcnmghkmognhoaaDoorKc
import Derived.Deep.RegionHeld3
import Derived.WalkSmall
import Derived.Lib.ItoaLen
import Derived.Lib.AppendIntMem
namespace Go.Proofs.YtcnmghkmognhoaaDoor.Addr
open Go.RowKit Go.Shelf
set_option maxRecDepth 100000

/-- the table of powers of ten is as the program's text lays it -/
def Tab (w : World) : Prop := Lib.TabIs Tryd.prog w "internal/strconv.uint64pow10" .u64 Lib.pow10Tab
theorem gPow : Tryd.prog.globalNamed "internal/strconv.uint64pow10" = some 2 := by kernel_rfl

theorem var_lt {P : Program} {w : World} {n : String} {g : Nat} {cs : Array Value} (hg : P.globalNamed n = some g) (h : w.var? P n = some cs) : g < w.heap.size := by
  unfold World.var? at h
  simp only [hg, Option.bind_some] at h
  by_cases hl : g < w.heap.size
  · exact hl
  · rw [Array.getElem?_eq_none (by omega)] at h; simp at h
theorem Tab.below {w w' : World} (h : Tab w) (hb : Below w.heap.size w w') : Tab w' :=
  var?_below hb gPow (var_lt gPow h) h

theorem below_grow0 (w : World) (k : Nat) (os : Array Obj) : Below w.heap.size w (Sort.grow (w.drewN k) os) := Lib.below_grow _ _ (Nat.le_refl _) _ _

theorem itoa_any (n : Int) (h0 : -9223372036854775808 ≤ n) (h1 : n ≤ 9223372036854775807) (w : World) (ht : Tab w) :
    Calls Tryd.prog 42 #[.int .i64 n] w fun e w' => e = .returned (.string ⟨(Lib.itoa n).toArray⟩) ∧ Below w.heap.size w w' :=
  (Tryd.strconv_Itoa n h0 h1 w ht).mono fun _ _ ⟨he, k, os, hw⟩ => ⟨he, hw ▸ below_grow0 w k os⟩

theorem str_app (a b : List UInt8) : (⟨a.toArray⟩ : ByteArray) ++ ⟨b.toArray⟩ = ⟨(a ++ b).toArray⟩ := by
  apply ByteArray.ext; simp [ByteArray.data_append]
theorem ret_str {a b : ByteArray} (h : a = b) : Ending.returned (.string a) = .returned (.string b) := by rw [h]

/-- a mark as a value -/
def markV (r c : Int) (fr fc : Bool) : Value := .agg #[.int .i64 r, .int .i64 c, .bool fr, .bool fc]
/-- what a region keeps: a mark's four cells, the table, all that lay before -/
def Kept (n : Nat) (w : World) (r c : Int) (fr fc : Bool) (w' : World) : Prop :=
  w'.cell? ⟨n, 0, none⟩ = some (.int .i64 r) ∧ w'.cell? ⟨n, 1, none⟩ = some (.int .i64 c) ∧ w'.cell? ⟨n, 2, none⟩ = some (.bool fr) ∧ w'.cell? ⟨n, 3, none⟩ = some (.bool fc) ∧ Tab w' ∧ Below w.heap.size w w' ∧ n < w'.heap.size
theorem Kept.later {n : Nat} {w w1 w2 : World} {r c : Int} {fr fc : Bool} (h : Kept n w r c fr fc w1) (hb : Below w1.heap.size w1 w2) : Kept n w r c fr fc w2 := by
  obtain ⟨c0, c1, c2, c3, ht, hb1, hz⟩ := h
  obtain ⟨hc, hf⟩ := bcell hb
  have := hb.size
  exact ⟨(hc _ _ hz).trans c0, (hc _ _ hz).trans c1, (hc _ _ hz).trans c2, (hc _ _ hz).trans c3, ht.below hb, hb1.trans (hb.mono hb1.size), by omega⟩

theorem Kept.tab {n : Nat} {w w1 : World} {r c : Int} {fr fc : Bool} (h : Kept n w r c fr fc w1) : Tab w1 := h.2.2.2.2.1
theorem Kept.below {n : Nat} {w w1 : World} {r c : Int} {fr fc : Bool} (h : Kept n w r c fr fc w1) : Below w.heap.size w w1 := h.2.2.2.2.2.1
theorem Kept.first (w : World) (r c : Int) (fr fc : Bool) (ht : Tab w) : Kept w.heap.size w r c fr fc (w.alloc (.cells #[.int .i64 r, .int .i64 c, .bool fr, .bool fc] 44)).drew := by
  have hb : Below w.heap.size w (w.alloc (.cells #[.int .i64 r, .int .i64 c, .bool fr, .bool fc] 44)) := (Below.refl _ _).alloc (Nat.le_refl _) _
  have hd : Below w.heap.size w (w.alloc (.cells #[.int .i64 r, .int .i64 c, .bool fr, .bool fc] 44)).drew := ⟨hb.os, hb.tape, hb.output, hb.size, hb.block⟩
  refine ⟨?_, ?_, ?_, ?_, ht.below hd, hd, ?_⟩
  iterate 4 (exact (World.cell?_alloc_new _ _ _ _).trans rfl)
  show w.heap.size < (w.alloc _).heap.size
  rw [World.size_alloc]; omega


end Go.Proofs.YtcnmghkmognhoaaDoor.Addr
