/- Part, Beside. -/
import Derived.Test.YtfgddhabepllfaaDoorM
namespace Go.Proofs.YtfgddhabepllfaaDoor
open Go.RowKit

/-- an array and a truth that are handed back -/
def ArOut2 (w : World) (a : Ar) (b : Bool) (e : Ending) (w' : World) : Prop := ∃ v, e = .returned (.tuple #[arV a.r a.c v, .bool b]) ∧ ValAt w'.heap.size w' v a.l ∧ Below w.heap.size w w'
def zA : Ar := ⟨0, 0, []⟩
theorem ArOut2.store {w w1 : World} {g t : Nat} {a : Ar} {b : Bool} {v x y z : Value} (h : ValAt w1.heap.size w1 v a.l) (hb : Below w.heap.size w w1) (hz : w1.heap[g]? = some (.cells #[x, y, z] t (0, 0))) (hg : w.heap.size ≤ g) :
    ArOut2 w a b (.returned (.tuple #[arV a.r a.c v, .bool b])) (((w1.setCell ⟨g, 0, none⟩ (.int .i64 a.r)).setCell ⟨g, 1, none⟩ (.int .i64 a.c)).setCell ⟨g, 2, none⟩ v) :=
  ⟨v, rfl, (h.set3 hz _ _ _).mono (only3 (g := g) _ _ _).size, below3 _ _ _ hb hg⟩
def withinB (f n h : Int) : Bool := decide (0 ≤ f ∧ 1 ≤ n ∧ n ≤ h ∧ f ≤ h - n)
set_option maxRecDepth 100000 in
theorem within_any (f n h : Int) (hh : h ≤ 4096) (w : World) : Calls Tryd.prog 57 #[.int .i64 f, .int .i64 n, .int .i64 h] w fun e w' => e = .returned (.bool (withinB f n h)) ∧ w = w' := by
  have no : ¬ (0 ≤ f ∧ 1 ≤ n ∧ n ≤ h ∧ f ≤ h - n) → withinB f n h = false := fun k => decide_eq_false k
  by_cases h1 : 0 ≤ f
  rotate_left
  · rw [no (fun k => h1 k.1)]
    clear no
    go_enter Tryd.func57, Tryd.ntmps57
    go_wp2
    go_ret
    exact ⟨rfl, rfl⟩
  by_cases h2 : 1 ≤ n
  rotate_left
  · rw [no (fun k => h2 k.2.1)]
    clear no
    go_enter Tryd.func57, Tryd.ntmps57
    go_wp2
    go_ret
    exact ⟨rfl, rfl⟩
  by_cases h3 : n ≤ h
  rotate_left
  · rw [no (fun k => h3 k.2.2.1)]
    clear no
    go_enter Tryd.func57, Tryd.ntmps57
    go_wp2
    go_ret
    exact ⟨rfl, rfl⟩
  have hw : IntKind.i64.wrap (h - n) = h - n := by rw [IntKind.wrap_i64]; omega
  have hz : withinB f n h = decide (f ≤ h - n) := by
    unfold withinB
    by_cases h5 : f ≤ h - n
    · rw [decide_eq_true h5]; exact decide_eq_true ⟨h1, h2, h3, h5⟩
    · rw [decide_eq_false h5]; exact decide_eq_false (fun k => h5 k.2.2.2)
  rw [hz]
  clear no hz hh
  go_enter Tryd.func57, Tryd.ntmps57
  go_wp2
  go_ret
  exact ⟨rfl, rfl⟩
section
variable {w : World} {x y : Obj}
theorem two_old : ((w.alloc x).alloc y).heap[w.heap.size]? = some x := (Below.heap_alloc _ _ _ (by simp)).trans (heap_alloc_new w _)
theorem two_new : ((w.alloc x).alloc y).heap[w.heap.size + 1]? = some y := by
  have := heap_alloc_new (w.alloc x) y
  rwa [World.size_alloc] at this
theorem two_below : Below w.heap.size w ((w.alloc x).alloc y) := ((Below.refl _ _).alloc (Nat.le_refl _) _).alloc (by simp) _
end
def partA (_R C : Nat) (l : List Vl) (row col rows cols : Int) : Ar := ⟨rows, cols, partL C l row.toNat col.toNat rows.toNat cols.toNat⟩
theorem part_places {row rows : Int} {R : Nat} (h : withinB row rows (R : Int) = true) (_hR : R ≤ 4096) : ∃ r0 n : Nat, row = (r0 : Int) ∧ rows = (n : Int) ∧ r0 + n ≤ R := by
  have h := of_decide_eq_true h
  obtain ⟨r0, rfl⟩ := Int.eq_ofNat_of_zero_le h.1
  obtain ⟨n, rfl⟩ := Int.eq_ofNat_of_zero_le (show 0 ≤ rows by omega)
  exact ⟨r0, n, rfl, rfl, by omega⟩
theorem one_cell {w : World} {g t : Nat} {a : Value} (h : w.heap[g]? = some (.cells #[a] t (0, 0))) : w.cell? ⟨g, 0, none⟩ = some a := by simp [World.cell?, h]
set_option maxRecDepth 100000 in
set_option maxHeartbeats 2000000 in
theorem part_no1 {R C n : Nat} {l : List Vl} {v : Value} (row col rows cols : Int) (hr : rightA ⟨R, C, l⟩ = true) (hw1 : withinB row rows R = false) (hwf : WfL l) (w : World) (he : Env w) (hn : n ≤ w.heap.size) (hv : ValAt n w v l) :
    Calls Tryd.prog 24 #[arV R C v, .int .i64 row, .int .i64 col, .int .i64 rows, .int .i64 cols] w (ArOut2 w zA false) := by
  obtain ⟨R', C', e1, e2, hl, hRC, hR, hC, _, _, _⟩ := right_dims hr
  obtain rfl : R = R' := by omega
  obtain rfl : C = C' := by omega
  clear e1 e2
  obtain ⟨Q, hQ⟩ : ∃ Q, ArOut2 w zA false = Q := ⟨_, rfl⟩
  rw [hQ]
  have HQ := Lib.hid hQ
  obtain ⟨W0, hW0⟩ : ∃ W0, (((w.alloc (.cells #[.int .i64 (R : Int), .int .i64 (C : Int), v] 25)).alloc (.cells #[.int .i64 row] 3)).alloc (.cells #[.int .i64 col] 3)).alloc (.cells #[.int .i64 0, .int .i64 0, .slice none 0 0] 25) = W0 := ⟨_, rfl⟩
  have hb0 : Below w.heap.size w W0 := by rw [← hW0]; exact ((((Below.refl _ _).alloc (Nat.le_refl _) _).alloc (by simp) _).alloc (by simp; omega) _).alloc (by simp; omega) _
  have hx0 : W0.heap[w.heap.size]? = some (.cells #[.int .i64 (R : Int), .int .i64 (C : Int), v] 25 (0, 0)) := by rw [← hW0]; exact (Below.heap_alloc _ _ _ (by simp; omega)).trans ((Below.heap_alloc _ _ _ (by simp; omega)).trans two_old)
  have hx1 : W0.heap[w.heap.size + 1]? = some (.cells #[.int .i64 row] 3 (0, 0)) := by rw [← hW0]; exact (Below.heap_alloc _ _ _ (by simp)).trans ((Below.heap_alloc _ _ _ (by simp)).trans two_new)
  have hx2 : W0.heap[w.heap.size + 1 + 1]? = some (.cells #[.int .i64 col] 3 (0, 0)) := by rw [← hW0]; exact (Below.heap_alloc _ _ _ (by simp)).trans (by have := two_new (w := w.alloc (.cells #[.int .i64 (R : Int), .int .i64 (C : Int), v] 25)) (x := .cells #[.int .i64 row] 3) (y := .cells #[.int .i64 col] 3); simpa using this)
  have hx3 : W0.heap[w.heap.size + 1 + 1 + 1]? = some (.cells #[.int .i64 0, .int .i64 0, .slice none 0 0] 25 (0, 0)) := by rw [← hW0]; have := heap_alloc_new (((w.alloc (.cells #[.int .i64 (R : Int), .int .i64 (C : Int), v] 25)).alloc (.cells #[.int .i64 row] 3)).alloc (.cells #[.int .i64 col] 3)) (.cells #[.int .i64 0, .int .i64 0, .slice none 0 0] 25); simpa using this
  have HW0 := Lib.hid hW0
  have HB0 := Lib.hid hb0
  have HX0 := Lib.hid hx0
  have HX1 := Lib.hid hx1
  have HX2 := Lib.hid hx2
  have HX3 := Lib.hid hx3
  clear hW0 hb0 hx0 hx1 hx2 hx3
  have HR := Lib.hid (fun W (hW : Below w.heap.size w W) => righta_any n R C v l (by omega) hwf W (Nat.le_trans hn hW.size) (hv.below (hW.mono hn)) (he.below hW))
  rw [hr] at HR
  have HW1 := Lib.hid (fun W => within_any row rows R (by omega) W)
  have HW2 := Lib.hid (fun W => within_any col cols C (by omega) W)
  rw [hw1] at HW1
  clear hw1 HW2
  obtain ⟨A, cp, rfl, _⟩ := id hv
  have hmf : ∀ (fn : Fn) (first cap : Array Value) (w : World), (Instr.makeFunc fn first cap).run Tryd.prog w = .ok (.func fn first cap) w := fun _ _ _ _ => rfl
  clear hQ hr hwf hl hRC hR hC he hn hv
  unfold arV at *
  go_enter Tryd.func24, Tryd.ntmps24
  go_wp2_with fail
  rw [HW0.out]
  refine (HR.out _ HB0.out).mono ?_
  rintro e w1 ⟨rfl, hb1⟩
  have hx0 := box_kept HX0.out hb1 (Nat.le_refl _)
  have hx1 := box_kept HX1.out hb1 (Nat.le_refl _)
  have hx2 := box_kept HX2.out hb1 (Nat.le_refl _)
  have hx3 := box_kept HX3.out hb1 (Nat.le_refl _)
  have HB1 := Lib.hid (HB0.out.trans (hb1.mono HB0.out.size))
  obtain ⟨c0, c1, c2, _⟩ := box3 hx0
  have c3 := one_cell hx1
  have c4 := one_cell hx2
  have HY0 := Lib.hid hx0
  have HY1 := Lib.hid c3
  have HY2 := Lib.hid c4
  have HY3 := Lib.hid hx3
  obtain ⟨d0, d1, d2, f0, f1, f2⟩ := box3 hx3
  clear hb1 hx0 hx1 hx2 hx3 HX0 HX1 HX2 HX3
  go_wp2_with fail
  refine (HW1.out _).mono ?_
  rintro e w2 ⟨rfl, rfl⟩
  go_wp2
  obtain ⟨r0, r1, r2, _⟩ := box3 (set3 (.int .i64 0) (.int .i64 0) (.slice none 0 0) HY3.out)
  have hfin := ArOut2.store (w := w) (a := zA) (b := false) (.nil _ _) HB1.out HY3.out (by omega)
  rw [HQ.out] at hfin
  exact bodyPost_ret (v := .tuple #[arV 0 0 (.slice none 0 0), .bool false]) (by simp [results, Tryd.f24, go_sem, arV, r0, r1, r2]) rfl hfin
set_option maxRecDepth 100000 in
set_option maxHeartbeats 2000000 in
theorem part_no2 {R C n : Nat} {l : List Vl} {v : Value} (row col rows cols : Int) (hr : rightA ⟨R, C, l⟩ = true) (hw1 : withinB row rows R = true) (hw2 : withinB col cols C = false) (hwf : WfL l) (w : World) (he : Env w) (hn : n ≤ w.heap.size) (hv : ValAt n w v l) :
    Calls Tryd.prog 24 #[arV R C v, .int .i64 row, .int .i64 col, .int .i64 rows, .int .i64 cols] w (ArOut2 w zA false) := by
  obtain ⟨R', C', e1, e2, hl, hRC, hR, hC, _, _, _⟩ := right_dims hr
  obtain rfl : R = R' := by omega
  obtain rfl : C = C' := by omega
  clear e1 e2
  obtain ⟨Q, hQ⟩ : ∃ Q, ArOut2 w zA false = Q := ⟨_, rfl⟩
  rw [hQ]
  have HQ := Lib.hid hQ
  obtain ⟨W0, hW0⟩ : ∃ W0, (((w.alloc (.cells #[.int .i64 (R : Int), .int .i64 (C : Int), v] 25)).alloc (.cells #[.int .i64 row] 3)).alloc (.cells #[.int .i64 col] 3)).alloc (.cells #[.int .i64 0, .int .i64 0, .slice none 0 0] 25) = W0 := ⟨_, rfl⟩
  have hb0 : Below w.heap.size w W0 := by rw [← hW0]; exact ((((Below.refl _ _).alloc (Nat.le_refl _) _).alloc (by simp) _).alloc (by simp; omega) _).alloc (by simp; omega) _
  have hx0 : W0.heap[w.heap.size]? = some (.cells #[.int .i64 (R : Int), .int .i64 (C : Int), v] 25 (0, 0)) := by rw [← hW0]; exact (Below.heap_alloc _ _ _ (by simp; omega)).trans ((Below.heap_alloc _ _ _ (by simp; omega)).trans two_old)
  have hx1 : W0.heap[w.heap.size + 1]? = some (.cells #[.int .i64 row] 3 (0, 0)) := by rw [← hW0]; exact (Below.heap_alloc _ _ _ (by simp)).trans ((Below.heap_alloc _ _ _ (by simp)).trans two_new)
  have hx2 : W0.heap[w.heap.size + 1 + 1]? = some (.cells #[.int .i64 col] 3 (0, 0)) := by rw [← hW0]; exact (Below.heap_alloc _ _ _ (by simp)).trans (by have := two_new (w := w.alloc (.cells #[.int .i64 (R : Int), .int .i64 (C : Int), v] 25)) (x := .cells #[.int .i64 row] 3) (y := .cells #[.int .i64 col] 3); simpa using this)
  have hx3 : W0.heap[w.heap.size + 1 + 1 + 1]? = some (.cells #[.int .i64 0, .int .i64 0, .slice none 0 0] 25 (0, 0)) := by rw [← hW0]; have := heap_alloc_new (((w.alloc (.cells #[.int .i64 (R : Int), .int .i64 (C : Int), v] 25)).alloc (.cells #[.int .i64 row] 3)).alloc (.cells #[.int .i64 col] 3)) (.cells #[.int .i64 0, .int .i64 0, .slice none 0 0] 25); simpa using this
  have HW0 := Lib.hid hW0
  have HB0 := Lib.hid hb0
  have HX0 := Lib.hid hx0
  have HX1 := Lib.hid hx1
  have HX2 := Lib.hid hx2
  have HX3 := Lib.hid hx3
  clear hW0 hb0 hx0 hx1 hx2 hx3
  have HR := Lib.hid (fun W (hW : Below w.heap.size w W) => righta_any n R C v l (by omega) hwf W (Nat.le_trans hn hW.size) (hv.below (hW.mono hn)) (he.below hW))
  rw [hr] at HR
  have HW1 := Lib.hid (fun W => within_any row rows R (by omega) W)
  have HW2 := Lib.hid (fun W => within_any col cols C (by omega) W)
  rw [hw1] at HW1
  rw [hw2] at HW2
  clear hw1 hw2
  obtain ⟨A, cp, rfl, _⟩ := id hv
  have hmf : ∀ (fn : Fn) (first cap : Array Value) (w : World), (Instr.makeFunc fn first cap).run Tryd.prog w = .ok (.func fn first cap) w := fun _ _ _ _ => rfl
  clear hQ hr hwf hl hRC hR hC he hn hv
  unfold arV at *
  go_enter Tryd.func24, Tryd.ntmps24
  go_wp2_with fail
  rw [HW0.out]
  refine (HR.out _ HB0.out).mono ?_
  rintro e w1 ⟨rfl, hb1⟩
  have hx0 := box_kept HX0.out hb1 (Nat.le_refl _)
  have hx1 := box_kept HX1.out hb1 (Nat.le_refl _)
  have hx2 := box_kept HX2.out hb1 (Nat.le_refl _)
  have hx3 := box_kept HX3.out hb1 (Nat.le_refl _)
  have HB1 := Lib.hid (HB0.out.trans (hb1.mono HB0.out.size))
  obtain ⟨c0, c1, c2, _⟩ := box3 hx0
  have c3 := one_cell hx1
  have c4 := one_cell hx2
  have HY0 := Lib.hid hx0
  have HY1 := Lib.hid c3
  have HY2 := Lib.hid c4
  have HY3 := Lib.hid hx3
  obtain ⟨d0, d1, d2, f0, f1, f2⟩ := box3 hx3
  clear hb1 hx0 hx1 hx2 hx3 HX0 HX1 HX2 HX3
  go_wp2_with fail
  refine (HW1.out _).mono ?_
  rintro e w2 ⟨rfl, rfl⟩
  go_wp2_with fail
  refine (HW2.out _).mono ?_
  rintro e w3 ⟨rfl, rfl⟩
  go_wp2
  obtain ⟨r0, r1, r2, _⟩ := box3 (set3 (.int .i64 0) (.int .i64 0) (.slice none 0 0) HY3.out)
  have hfin := ArOut2.store (w := w) (a := zA) (b := false) (.nil _ _) HB1.out HY3.out (by omega)
  rw [HQ.out] at hfin
  exact bodyPost_ret (v := .tuple #[arV 0 0 (.slice none 0 0), .bool false]) (by simp [results, Tryd.f24, go_sem, arV, r0, r1, r2]) rfl hfin
set_option maxRecDepth 100000 in
set_option maxHeartbeats 2000000 in
theorem part_yes {R C n : Nat} {l : List Vl} {v : Value} (row col rows cols : Int) (hr : rightA ⟨R, C, l⟩ = true) (hw1 : withinB row rows R = true) (hw2 : withinB col cols C = true) (hwf : WfL l) (w : World) (he : Env w) (hn : n ≤ w.heap.size) (hv : ValAt n w v l) :
    Calls Tryd.prog 24 #[arV R C v, .int .i64 row, .int .i64 col, .int .i64 rows, .int .i64 cols] w (ArOut2 w (partA R C l row col rows cols) true) := by
  obtain ⟨R', C', e1, e2, hl, hRC, hR, hC, _, _, _⟩ := right_dims hr
  obtain rfl : R = R' := by omega
  obtain rfl : C = C' := by omega
  clear e1 e2
  obtain ⟨r0, nr, rfl, rfl, hr0⟩ := part_places hw1 hR
  obtain ⟨k0, nc, rfl, rfl, hk0⟩ := part_places hw2 hC
  have hmul : nr * nc ≤ 4096 := Nat.le_trans (Nat.mul_le_mul (show nr ≤ R by omega) (show nc ≤ C by omega)) hRC
  obtain ⟨Q, hQ⟩ : ∃ Q, ArOut2 w (partA R C l r0 k0 nr nc) true = Q := ⟨_, rfl⟩
  rw [hQ]
  have HQ := Lib.hid hQ
  obtain ⟨W0, hW0⟩ : ∃ W0, (((w.alloc (.cells #[.int .i64 (R : Int), .int .i64 (C : Int), v] 25)).alloc (.cells #[.int .i64 (r0 : Int)] 3)).alloc (.cells #[.int .i64 (k0 : Int)] 3)).alloc (.cells #[.int .i64 0, .int .i64 0, .slice none 0 0] 25) = W0 := ⟨_, rfl⟩
  have hb0 : Below w.heap.size w W0 := by rw [← hW0]; exact ((((Below.refl _ _).alloc (Nat.le_refl _) _).alloc (by simp) _).alloc (by simp; omega) _).alloc (by simp; omega) _
  have hx0 : W0.heap[w.heap.size]? = some (.cells #[.int .i64 (R : Int), .int .i64 (C : Int), v] 25 (0, 0)) := by rw [← hW0]; exact (Below.heap_alloc _ _ _ (by simp; omega)).trans ((Below.heap_alloc _ _ _ (by simp; omega)).trans two_old)
  have hx1 : W0.heap[w.heap.size + 1]? = some (.cells #[.int .i64 (r0 : Int)] 3 (0, 0)) := by rw [← hW0]; exact (Below.heap_alloc _ _ _ (by simp)).trans ((Below.heap_alloc _ _ _ (by simp)).trans two_new)
  have hx2 : W0.heap[w.heap.size + 1 + 1]? = some (.cells #[.int .i64 (k0 : Int)] 3 (0, 0)) := by rw [← hW0]; exact (Below.heap_alloc _ _ _ (by simp)).trans (by have := two_new (w := w.alloc (.cells #[.int .i64 (R : Int), .int .i64 (C : Int), v] 25)) (x := .cells #[.int .i64 (r0 : Int)] 3) (y := .cells #[.int .i64 (k0 : Int)] 3); simpa using this)
  have hx3 : W0.heap[w.heap.size + 1 + 1 + 1]? = some (.cells #[.int .i64 0, .int .i64 0, .slice none 0 0] 25 (0, 0)) := by rw [← hW0]; have := heap_alloc_new (((w.alloc (.cells #[.int .i64 (R : Int), .int .i64 (C : Int), v] 25)).alloc (.cells #[.int .i64 (r0 : Int)] 3)).alloc (.cells #[.int .i64 (k0 : Int)] 3)) (.cells #[.int .i64 0, .int .i64 0, .slice none 0 0] 25); simpa using this
  have HW0 := Lib.hid hW0
  have HB0 := Lib.hid hb0
  have HX0 := Lib.hid hx0
  have HX1 := Lib.hid hx1
  have HX2 := Lib.hid hx2
  have HX3 := Lib.hid hx3
  clear hW0 hb0 hx0 hx1 hx2 hx3
  have HR := Lib.hid (fun W (hW : Below w.heap.size w W) => righta_any n R C v l (by omega) hwf W (Nat.le_trans hn hW.size) (hv.below (hW.mono hn)) (he.below hW))
  rw [hr] at HR
  have HW1 := Lib.hid (fun W => within_any (r0 : Int) (nr : Int) R (by omega) W)
  have HW2 := Lib.hid (fun W => within_any (k0 : Int) (nc : Int) C (by omega) W)
  rw [hw1] at HW1
  rw [hw2] at HW2
  have HT := Lib.hid (fun i j b b1 b2 W (hi : i < nr) (hj : j < nc) (hW : Below w.heap.size w W) hbx hb1 hb2 => part1_any (i := i) (j := j) (r0 := r0) (c0 := k0) (R := R) (C := C) (by omega) (by omega) hl hRC hR W (Nat.le_trans hn hW.size) hbx hb1 hb2 (hv.below (hW.mono hn)) (b := b) (b1 := b1) (b2 := b2))
  have HRC := Lib.hid (And.intro hmul (And.intro (show nr ≤ 4096 by omega) (show nc ≤ 4096 by omega)))
  clear hw1 hw2 hr0 hk0 hmul
  obtain ⟨A, cp, rfl, _⟩ := id hv
  have hmf : ∀ (fn : Fn) (first cap : Array Value) (w : World), (Instr.makeFunc fn first cap).run Tryd.prog w = .ok (.func fn first cap) w := fun _ _ _ _ => rfl
  clear hQ hr hwf hl hRC hR hC he hn hv
  unfold arV at *
  go_enter Tryd.func24, Tryd.ntmps24
  go_wp2_with fail
  rw [HW0.out]
  refine (HR.out _ HB0.out).mono ?_
  rintro e w1 ⟨rfl, hb1⟩
  have hx0 := box_kept HX0.out hb1 (Nat.le_refl _)
  have hx1 := box_kept HX1.out hb1 (Nat.le_refl _)
  have hx2 := box_kept HX2.out hb1 (Nat.le_refl _)
  have hx3 := box_kept HX3.out hb1 (Nat.le_refl _)
  have HB1 := Lib.hid (HB0.out.trans (hb1.mono HB0.out.size))
  obtain ⟨c0, c1, c2, _⟩ := box3 hx0
  have c3 := one_cell hx1
  have c4 := one_cell hx2
  have HY0 := Lib.hid hx0
  have HY1 := Lib.hid c3
  have HY2 := Lib.hid c4
  have HY3 := Lib.hid hx3
  obtain ⟨d0, d1, d2, f0, f1, f2⟩ := box3 hx3
  clear hb1 hx0 hx1 hx2 hx3 HX0 HX1 HX2 HX3
  go_wp2_with fail
  refine (HW1.out _).mono ?_
  rintro e w2 ⟨rfl, rfl⟩
  go_wp2_with fail
  refine (HW2.out _).mono ?_
  rintro e w3 ⟨rfl, rfl⟩
  go_wp2_with fail
  have hbld := build_pure (R := nr) (C := nc) (N := 58) (caps := #[.pointer (some ⟨w.heap.size, 0, none⟩), .pointer (some ⟨w.heap.size + 1, 0, none⟩), .pointer (some ⟨w.heap.size + 1 + 1, 0, none⟩)]) (F := fun i j => gt l ((r0 + i) * C + k0 + j)) HRC.out.1 HRC.out.2.1 HRC.out.2.2 w1 (enters_of Tryd.func58 (by kernel_rfl) rfl) (fun i j W hi hj hW => HT.out i j _ _ _ W hi hj (HB1.out.trans (hW.mono HB1.out.size)) (box_kept HY0.out hW (Nat.le_refl _)) ((hW.cell (p := ⟨w.heap.size + 1, 0, none⟩) (cell_lt HY1.out)).trans HY1.out) ((hW.cell (p := ⟨w.heap.size + 1 + 1, 0, none⟩) (cell_lt HY2.out)).trans HY2.out))
  obtain ⟨L, hL⟩ : ∃ L, partL C l r0 k0 nr nc = L := ⟨_, rfl⟩
  rw [show bld nr nc (fun i j => gt l ((r0 + i) * C + k0 + j)) = partL C l r0 k0 nr nc from rfl, hL] at hbld
  have hPA : partA R C l (r0 : Int) (k0 : Int) (nr : Int) (nc : Int) = ⟨nr, nc, L⟩ := by unfold partA; simp only [Int.toNat_natCast]; rw [hL]
  rw [hPA] at HQ
  clear hL hPA
  refine hbld.mono ?_
  clear hbld
  rintro e w4 ⟨v2, rfl, hv2, hb2⟩
  have HB2 := Lib.hid (HB1.out.trans (hb2.mono HB1.out.size))
  have hy2 := box_kept HY3.out hb2 (Nat.le_refl _)
  have HZ2 := Lib.hid hy2
  clear d0 d1 d2 f0 f1 f2
  obtain ⟨d0, d1, d2, f0, f1, f2⟩ := box3 hy2
  have HV := Lib.hid hv2
  obtain ⟨A2, cp2, rfl, _⟩ := id hv2
  clear hb2 hy2 hv2 c0 c1 c2 c3 c4
  unfold arV
  go_wp2
  obtain ⟨r0', r1, r2, _⟩ := box3 (set3 (.int .i64 (nr : Int)) (.int .i64 (nc : Int)) (.slice A2 L.length cp2) HZ2.out)
  have hfin := ArOut2.store (w := w) (a := ⟨nr, nc, L⟩) (b := true) HV.out HB2.out HZ2.out (by omega)
  rw [HQ.out] at hfin
  exact bodyPost_ret (v := .tuple #[arV nr nc (.slice A2 L.length cp2), .bool true]) (by simp [results, Tryd.f24, go_sem, arV, r0', r1, r2]) rfl hfin
end Go.Proofs.YtfgddhabepllfaaDoor
