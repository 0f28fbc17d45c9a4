/- Walks over addr.seen and addr.Relative: for every mark and every place, the text of the mark as seen from there. -/
import Derived.Test.YtkggooemnahgpaaDoorWc
import Derived.Deep.RegionHeld3
import Derived.WalkSmall
import Derived.Lib.ItoaLen
import Derived.Lib.AppendIntMem
namespace Go.Proofs.YtkggooemnahgpaaDoor
open Go.RowKit

/-- the table of powers of ten is as the program's text lays it -/
def Tab (w : World) : Prop := Lib.TabIs Tryd.prog w "internal/strconv.uint64pow10" .u64 Lib.pow10Tab
theorem gPow : Tryd.prog.globalNamed "internal/strconv.uint64pow10" = some 1 := by kernel_rfl

theorem var_lt {P : Program} {w : World} {n : String} {g : Nat} {cs : Array Value} (hg : P.globalNamed n = some g) (h : w.var? P n = some cs) : g < w.heap.size := by
  unfold World.var? at h
  simp only [hg, Option.bind_some] at h
  by_cases hl : g < w.heap.size
  · exact hl
  · rw [Array.getElem?_eq_none (by omega)] at h; simp at h
theorem Tab.below {w w' : World} (h : Tab w) (hb : Below w.heap.size w w') : Tab w' :=
  var?_below hb gPow (var_lt gPow h) h

theorem below_grow0 (w : World) (k : Nat) (os : Array Obj) : Below w.heap.size w (Sort.grow (w.drewN k) os) := Lib.below_grow _ _ (Nat.le_refl _) _ _

theorem itoa_any (n : Int) (h0 : -9223372036854775808 ≤ n) (h1 : n ≤ 9223372036854775807) (w : World) (ht : Tab w) :
    Calls Tryd.prog 27 #[.int .i64 n] w fun e w' => e = .returned (.string ⟨(Lib.itoa n).toArray⟩) ∧ Below w.heap.size w w' :=
  (Tryd.strconv_Itoa n h0 h1 w ht).mono fun _ _ ⟨he, k, os, hw⟩ => ⟨he, hw ▸ below_grow0 w k os⟩

theorem str_app (a b : List UInt8) : (⟨a.toArray⟩ : ByteArray) ++ ⟨b.toArray⟩ = ⟨(a ++ b).toArray⟩ := by
  apply ByteArray.ext; simp [ByteArray.data_append]
theorem ret_str {a b : ByteArray} (h : a = b) : Ending.returned (.string a) = .returned (.string b) := by rw [h]

/-- half of a mark as seen from a place -/
def seenL (p f : Int) (fix : Bool) : List UInt8 := if fix then Lib.itoa (p + 1) else if p = f then [] else 91 :: (Lib.itoa (p - f) ++ [93])

theorem seen_any (p f : Int) (fix : Bool) (h0 : 0 ≤ p) (h1 : p ≤ 9999998) (h2 : 0 ≤ f) (h3 : f ≤ 9999998) (w : World) (ht : Tab w) :
    Calls Tryd.prog 35 #[.int .i64 p, .int .i64 f, .bool fix] w fun e w' => e = .returned (.string ⟨(seenL p f fix).toArray⟩) ∧ Below w.heap.size w w' := by
  cases fix with
  | true =>
    go_enter Tryd.func35, Tryd.ntmps35
    go_wp2_with fail
    refine (itoa_any _ (by omega) (by omega) _ ht).mono ?_
    rintro e w1 ⟨rfl, hb⟩
    go_wp2
    go_ret
    exact ⟨by simp [seenL], hb⟩
  | false =>
    by_cases h : p = f
    · subst h
      go_enter Tryd.func35, Tryd.ntmps35
      go_wp2
      go_ret
      exact ⟨by simp [seenL], Below.refl _ _⟩
    · have hb : (p == f) = false := by rw [beq_eq_false_iff_ne]; exact h
      have hlen := Lib.itoa_length_le (p - f) (by omega) (by omega)
      go_enter Tryd.func35, Tryd.ntmps35
      go_wp2_with fail
      refine (itoa_any _ (by omega) (by omega) _ ht).mono ?_
      rintro e w1 ⟨rfl, hb⟩
      go_wp2
      go_ret
      refine ⟨ret_str ?_, hb⟩
      rw [show (⟨#[91]⟩ : ByteArray) = ⟨[(91 : UInt8)].toArray⟩ from rfl, show (⟨#[93]⟩ : ByteArray) = ⟨[(93 : UInt8)].toArray⟩ from rfl, str_app, str_app]
      simp [seenL, h]

theorem seenL_len (p f : Int) (fix : Bool) (h0 : 0 ≤ p) (h1 : p ≤ 9999998) (h2 : 0 ≤ f) (h3 : f ≤ 9999998) : (seenL p f fix).length ≤ 30 := by
  have e1 := Lib.itoa_length_le (p + 1) (by omega) (by omega)
  have e2 := Lib.itoa_length_le (p - f) (by omega) (by omega)
  unfold seenL
  split
  · omega
  · split
    · simp
    · simp; omega

/-- a mark as a value -/
def markV (r c : Int) (fr fc : Bool) : Value := .agg #[.int .i64 r, .int .i64 c, .bool fr, .bool fc]
/-- a mark as seen from a place -/
def relL (r c : Int) (fr fc : Bool) (pr pc : Int) : List UInt8 :=
  if rightB r c && rightB pr pc then 82 :: (seenL r pr fr ++ 67 :: seenL c pc fc) else []

theorem relative_no1 (r c : Int) (fr fc : Bool) (pr pc : Int) (h : rightB r c = false) (w : World) :
    Calls Tryd.prog 19 #[markV r c fr fc, .int .i64 pr, .int .i64 pc] w fun e w' => e = .returned (.string ⟨#[]⟩) ∧ Below w.heap.size w w' := by
  unfold markV
  go_enter Tryd.func19, Tryd.ntmps19
  go_wp2_with (go_at_call 23; refine (right_any _ _ _).mono ?_; rw [h]; rintro e w' ⟨rfl, rfl⟩)
  go_ret
  exact ⟨rfl, (Below.refl _ _).alloc (Nat.le_refl _) _⟩

theorem relative_no2 (r c : Int) (fr fc : Bool) (pr pc : Int) (h : rightB r c = true) (h' : rightB pr pc = false) (w : World) :
    Calls Tryd.prog 19 #[markV r c fr fc, .int .i64 pr, .int .i64 pc] w fun e w' => e = .returned (.string ⟨#[]⟩) ∧ Below w.heap.size w w' := by
  unfold markV
  go_enter Tryd.func19, Tryd.ntmps19
  go_wp2_with (fail)
  go_at_call 23
  refine (right_any _ _ _).mono ?_; rw [h]; rintro e w' ⟨rfl, rfl⟩
  go_wp2_with (fail)
  go_at_call 23
  refine (right_any _ _ _).mono ?_; rw [h']; rintro e w' ⟨rfl, rfl⟩
  go_wp2_with (fail)
  go_ret
  exact ⟨rfl, (Below.refl _ _).alloc (Nat.le_refl _) _⟩

/-- what a region keeps: a mark's four cells, the table, all that lay before -/
def Kept (n : Nat) (w : World) (r c : Int) (fr fc : Bool) (w' : World) : Prop :=
  w'.cell? ⟨n, 0, none⟩ = some (.int .i64 r) ∧ w'.cell? ⟨n, 1, none⟩ = some (.int .i64 c) ∧ w'.cell? ⟨n, 2, none⟩ = some (.bool fr) ∧ w'.cell? ⟨n, 3, none⟩ = some (.bool fc) ∧ Tab w' ∧ Below w.heap.size w w' ∧ n < w'.heap.size
theorem Kept.later {n : Nat} {w w1 w2 : World} {r c : Int} {fr fc : Bool} (h : Kept n w r c fr fc w1) (hb : Below w1.heap.size w1 w2) : Kept n w r c fr fc w2 := by
  obtain ⟨c0, c1, c2, c3, ht, hb1, hz⟩ := h
  obtain ⟨hc, hf⟩ := bcell hb
  have := hb.size
  exact ⟨(hc _ _ hz).trans c0, (hc _ _ hz).trans c1, (hc _ _ hz).trans c2, (hc _ _ hz).trans c3, ht.below hb, hb1.trans (hb.mono hb1.size), by omega⟩

theorem Kept.tab {n : Nat} {w w1 : World} {r c : Int} {fr fc : Bool} (h : Kept n w r c fr fc w1) : Tab w1 := h.2.2.2.2.1
theorem Kept.below {n : Nat} {w w1 : World} {r c : Int} {fr fc : Bool} (h : Kept n w r c fr fc w1) : Below w.heap.size w w1 := h.2.2.2.2.2.1
theorem Kept.first (w : World) (r c : Int) (fr fc : Bool) (ht : Tab w) : Kept w.heap.size w r c fr fc (w.alloc (.cells #[.int .i64 r, .int .i64 c, .bool fr, .bool fc] 28)).drew := by
  have hb : Below w.heap.size w (w.alloc (.cells #[.int .i64 r, .int .i64 c, .bool fr, .bool fc] 28)) := (Below.refl _ _).alloc (Nat.le_refl _) _
  have hd : Below w.heap.size w (w.alloc (.cells #[.int .i64 r, .int .i64 c, .bool fr, .bool fc] 28)).drew := ⟨hb.os, hb.tape, hb.output, hb.size, hb.block⟩
  refine ⟨?_, ?_, ?_, ?_, ht.below hd, hd, ?_⟩
  iterate 4 (exact (World.cell?_alloc_new _ _ _ _).trans rfl)
  show w.heap.size < (w.alloc _).heap.size
  rw [World.size_alloc]; omega

set_option maxHeartbeats 3200000 in
set_option maxRecDepth 100000 in
theorem relative_yes (r c : Int) (fr fc : Bool) (pr pc : Int) (h : rightB r c = true) (h' : rightB pr pc = true) (w : World) (ht : Tab w) :
    Calls Tryd.prog 19 #[markV r c fr fc, .int .i64 pr, .int .i64 pc] w fun e w' => e = .returned (.string ⟨(82 :: (seenL r pr fr ++ 67 :: seenL c pc fc)).toArray⟩) ∧ Below w.heap.size w w' := by
  have g1 : 0 ≤ r ∧ r ≤ 9999998 ∧ 0 ≤ c ∧ c ≤ 18277 := by simpa [rightB] using h
  have g2 : 0 ≤ pr ∧ pr ≤ 9999998 ∧ 0 ≤ pc ∧ pc ≤ 18277 := by simpa [rightB] using h'
  obtain ⟨a1, a2, a3, a4⟩ := g1
  obtain ⟨b1, b2, b3, b4⟩ := g2
  have l1 := seenL_len r pr fr a1 a2 b1 b2
  have l2 := seenL_len c pc fc a3 (by omega) b3 (by omega)
  have H1 := fun w ht => seen_any r pr fr a1 a2 b1 b2 w ht
  have H2 := fun w ht => seen_any c pc fc a3 (by omega) b3 (by omega) w ht
  have n1 : ¬ 9223372036854775807 < 1 + (seenL r pr fr).length := by omega
  have n2 : ¬ 9223372036854775807 < 1 + (seenL r pr fr).length + 1 := by omega
  have n3 : ¬ 9223372036854775807 < 1 + (seenL r pr fr).length + 1 + (seenL c pc fc).length := by omega
  have hc := Lib.hid H1
  have hd := Lib.hid H2
  clear H1 H2
  unfold markV
  go_enter Tryd.func19, Tryd.ntmps19
  go_wp2_with (fail)
  go_at_call 23
  refine (right_any _ _ _).mono ?_; rw [h]; rintro e w' ⟨rfl, rfl⟩
  go_wp2_with (fail)
  go_at_call 23
  refine (right_any _ _ _).mono ?_; rw [h']; rintro e w' ⟨rfl, rfl⟩
  go_wp2_with (fail)
  go_region_held3 (fun w' => w'.cell? ⟨w.heap.size, 0, none⟩ = some (.int .i64 r) ∧ w'.cell? ⟨w.heap.size, 1, none⟩ = some (.int .i64 c) ∧ w'.cell? ⟨w.heap.size, 2, none⟩ = some (.bool fr) ∧ w'.cell? ⟨w.heap.size, 3, none⟩ = some (.bool fc) ∧ Tab w' ∧ Below w.heap.size w w' ∧ w.heap.size < w'.heap.size)
    (first | exact Kept.first _ _ _ _ _ ht | exact Kept.later (hb := hb1) (h := by assumption))
    (first
      | (go_at_call_of 35 (Value.int IntKind.i64 r); refine (hc.out _ ?_).mono ?_; (exact Kept.tab (n := w.heap.size) (w := w) (r := r) (c := c) (fr := fr) (fc := fc) (by assumption)); rintro e w1 ⟨rfl, hb1⟩)
      | (go_at_call_of 35 (Value.int IntKind.i64 c); refine (hd.out _ ?_).mono ?_; (exact Kept.tab (n := w.heap.size) (w := w) (r := r) (c := c) (fr := fr) (fc := fc) (by assumption)); rintro e w1 ⟨rfl, hb1⟩))
  have hk : Below w.heap.size w w1 := Kept.below (n := w.heap.size) (r := r) (c := c) (fr := fr) (fc := fc) (by assumption)
  go_wp2
  go_ret
  refine ⟨ret_str ?_, hk⟩
  rw [show (⟨#[82]⟩ : ByteArray) = ⟨[(82 : UInt8)].toArray⟩ from rfl, show (⟨#[67]⟩ : ByteArray) = ⟨[(67 : UInt8)].toArray⟩ from rfl, str_app, str_app, str_app]
  simp

/-- Relative, at every mark and place -/
theorem relative_any (r c : Int) (fr fc : Bool) (pr pc : Int) (w : World) (ht : Tab w) :
    Calls Tryd.prog 19 #[markV r c fr fc, .int .i64 pr, .int .i64 pc] w fun e w' => e = .returned (.string ⟨(relL r c fr fc pr pc).toArray⟩) ∧ Below w.heap.size w w' := by
  unfold relL
  cases h : rightB r c with
  | false => exact relative_no1 r c fr fc pr pc h w
  | true =>
    cases h' : rightB pr pc with
    | false => exact relative_no2 r c fr fc pr pc h h' w
    | true => exact relative_yes r c fr fc pr pc h h' w ht
end Go.Proofs.YtkggooemnahgpaaDoor
