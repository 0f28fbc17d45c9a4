/- Whether a value may be: the document. -/
import Derived.Test.YtfgddhabepllfaaDoorC
namespace Go.Proofs.YtfgddhabepllfaaDoor
open Go.RowKit

set_option maxRecDepth 100000 in
theorem rr1hT (m e : Int) (t : ByteArray) (b : Bool) (f : Int) (hm : (m == 0) = false) (ht : t.toList.isEmpty = false) (w : World) : Calls Tryd.prog 48 #[.agg #[.int .i64 1, .int .i64 m, .int .i64 e, .string t, .bool b, .int .i64 f]] w fun r w' => r = .returned (.bool false) ∧ Below w.heap.size w w' := by
  go_enter Tryd.func48, Tryd.ntmps48
  go_wp2
  go_ret
  exact ⟨rfl, Nm.alloc_below _ _⟩
set_option maxRecDepth 100000 in
theorem rr1hb (m e : Int) (t : ByteArray) (f : Int) (hm : (m == 0) = false) (ht2 : t.toList = []) (w : World) : Calls Tryd.prog 48 #[.agg #[.int .i64 1, .int .i64 m, .int .i64 e, .string t, .bool true, .int .i64 f]] w fun r w' => r = .returned (.bool false) ∧ Below w.heap.size w w' := by
  go_enter Tryd.func48, Tryd.ntmps48
  go_wp2
  go_ret
  exact ⟨rfl, Nm.alloc_below _ _⟩
set_option maxRecDepth 100000 in
theorem rr1hF (m e : Int) (t : ByteArray) (f : Int) (hm : (m == 0) = false) (ht2 : t.toList = []) (hf : (f == 0) = false) (w : World) : Calls Tryd.prog 48 #[.agg #[.int .i64 1, .int .i64 m, .int .i64 e, .string t, .bool false, .int .i64 f]] w fun r w' => r = .returned (.bool false) ∧ Below w.heap.size w w' := by
  go_enter Tryd.func48, Tryd.ntmps48
  go_wp2
  go_ret
  exact ⟨rfl, Nm.alloc_below _ _⟩
set_option maxRecDepth 100000 in
theorem rr1ho (m e : Int) (t : ByteArray) (f : Int) (hm : (m == 0) = false) (ht2 : t.toList = []) (hf : (f == 0) = true) (w : World) : Calls Tryd.prog 48 #[.agg #[.int .i64 1, .int .i64 m, .int .i64 e, .string t, .bool false, .int .i64 f]] w fun r w' => r = .returned (.bool (Nm.rightB m e)) ∧ Below w.heap.size w w' := by
  go_enter Tryd.func48, Tryd.ntmps48
  go_wp2_with fail
  refine (Nm.rright_any m e _).mono ?_
  rintro r w1 ⟨rfl, hb1⟩
  have HB := Lib.hid ((Nm.alloc_below w _).trans (hb1.mono (by simp)))
  clear hb1
  go_wp2
  go_ret
  exact ⟨rfl, HB.out⟩
set_option maxRecDepth 100000 in
theorem rr1iT (m e : Int) (t : ByteArray) (b : Bool) (f : Int) (hm : (m == 0) = true) (he : (e == 0) = false) (ht : t.toList.isEmpty = false) (w : World) : Calls Tryd.prog 48 #[.agg #[.int .i64 1, .int .i64 m, .int .i64 e, .string t, .bool b, .int .i64 f]] w fun r w' => r = .returned (.bool false) ∧ Below w.heap.size w w' := by
  go_enter Tryd.func48, Tryd.ntmps48
  go_wp2
  go_ret
  exact ⟨rfl, Nm.alloc_below _ _⟩
set_option maxRecDepth 100000 in
theorem rr1ib (m e : Int) (t : ByteArray) (f : Int) (hm : (m == 0) = true) (he : (e == 0) = false) (ht2 : t.toList = []) (w : World) : Calls Tryd.prog 48 #[.agg #[.int .i64 1, .int .i64 m, .int .i64 e, .string t, .bool true, .int .i64 f]] w fun r w' => r = .returned (.bool false) ∧ Below w.heap.size w w' := by
  go_enter Tryd.func48, Tryd.ntmps48
  go_wp2
  go_ret
  exact ⟨rfl, Nm.alloc_below _ _⟩
set_option maxRecDepth 100000 in
theorem rr1iF (m e : Int) (t : ByteArray) (f : Int) (hm : (m == 0) = true) (he : (e == 0) = false) (ht2 : t.toList = []) (hf : (f == 0) = false) (w : World) : Calls Tryd.prog 48 #[.agg #[.int .i64 1, .int .i64 m, .int .i64 e, .string t, .bool false, .int .i64 f]] w fun r w' => r = .returned (.bool false) ∧ Below w.heap.size w w' := by
  go_enter Tryd.func48, Tryd.ntmps48
  go_wp2
  go_ret
  exact ⟨rfl, Nm.alloc_below _ _⟩
set_option maxRecDepth 100000 in
theorem rr1io (m e : Int) (t : ByteArray) (f : Int) (hm : (m == 0) = true) (he : (e == 0) = false) (ht2 : t.toList = []) (hf : (f == 0) = true) (w : World) : Calls Tryd.prog 48 #[.agg #[.int .i64 1, .int .i64 m, .int .i64 e, .string t, .bool false, .int .i64 f]] w fun r w' => r = .returned (.bool (Nm.rightB m e)) ∧ Below w.heap.size w w' := by
  go_enter Tryd.func48, Tryd.ntmps48
  go_wp2_with fail
  refine (Nm.rright_any m e _).mono ?_
  rintro r w1 ⟨rfl, hb1⟩
  have HB := Lib.hid ((Nm.alloc_below w _).trans (hb1.mono (by simp)))
  clear hb1
  go_wp2
  go_ret
  exact ⟨rfl, HB.out⟩
set_option maxRecDepth 100000 in
theorem rr1zT (m e : Int) (t : ByteArray) (b : Bool) (f : Int) (hm : (m == 0) = true) (he : (e == 0) = true) (ht : t.toList.isEmpty = false) (w : World) : Calls Tryd.prog 48 #[.agg #[.int .i64 1, .int .i64 m, .int .i64 e, .string t, .bool b, .int .i64 f]] w fun r w' => r = .returned (.bool false) ∧ Below w.heap.size w w' := by
  go_enter Tryd.func48, Tryd.ntmps48
  go_wp2
  go_ret
  exact ⟨rfl, Nm.alloc_below _ _⟩
set_option maxRecDepth 100000 in
theorem rr1zb (m e : Int) (t : ByteArray) (f : Int) (hm : (m == 0) = true) (he : (e == 0) = true) (ht2 : t.toList = []) (w : World) : Calls Tryd.prog 48 #[.agg #[.int .i64 1, .int .i64 m, .int .i64 e, .string t, .bool true, .int .i64 f]] w fun r w' => r = .returned (.bool false) ∧ Below w.heap.size w w' := by
  go_enter Tryd.func48, Tryd.ntmps48
  go_wp2
  go_ret
  exact ⟨rfl, Nm.alloc_below _ _⟩
set_option maxRecDepth 100000 in
theorem rr1zF (m e : Int) (t : ByteArray) (f : Int) (hm : (m == 0) = true) (he : (e == 0) = true) (ht2 : t.toList = []) (hf : (f == 0) = false) (w : World) : Calls Tryd.prog 48 #[.agg #[.int .i64 1, .int .i64 m, .int .i64 e, .string t, .bool false, .int .i64 f]] w fun r w' => r = .returned (.bool false) ∧ Below w.heap.size w w' := by
  go_enter Tryd.func48, Tryd.ntmps48
  go_wp2
  go_ret
  exact ⟨rfl, Nm.alloc_below _ _⟩
set_option maxRecDepth 100000 in
theorem rr1zo (m e : Int) (t : ByteArray) (f : Int) (hm : (m == 0) = true) (he : (e == 0) = true) (ht2 : t.toList = []) (hf : (f == 0) = true) (w : World) : Calls Tryd.prog 48 #[.agg #[.int .i64 1, .int .i64 m, .int .i64 e, .string t, .bool false, .int .i64 f]] w fun r w' => r = .returned (.bool (Nm.rightB m e)) ∧ Below w.heap.size w w' := by
  go_enter Tryd.func48, Tryd.ntmps48
  go_wp2_with fail
  refine (Nm.rright_any m e _).mono ?_
  rintro r w1 ⟨rfl, hb1⟩
  have HB := Lib.hid ((Nm.alloc_below w _).trans (hb1.mono (by simp)))
  clear hb1
  go_wp2
  go_ret
  exact ⟨rfl, HB.out⟩
set_option maxRecDepth 100000 in
theorem rr0h (m e : Int) (t : ByteArray) (b : Bool) (f : Int) (hm : (m == 0) = false) (w : World) : Calls Tryd.prog 48 #[.agg #[.int .i64 0, .int .i64 m, .int .i64 e, .string t, .bool b, .int .i64 f]] w fun r w' => r = .returned (.bool false) ∧ Below w.heap.size w w' := by
  go_enter Tryd.func48, Tryd.ntmps48
  go_wp2
  go_ret
  exact ⟨rfl, Nm.alloc_below _ _⟩
set_option maxRecDepth 100000 in
theorem rr0i (m e : Int) (t : ByteArray) (b : Bool) (f : Int) (hm : (m == 0) = true) (he : (e == 0) = false) (w : World) : Calls Tryd.prog 48 #[.agg #[.int .i64 0, .int .i64 m, .int .i64 e, .string t, .bool b, .int .i64 f]] w fun r w' => r = .returned (.bool false) ∧ Below w.heap.size w w' := by
  go_enter Tryd.func48, Tryd.ntmps48
  go_wp2
  go_ret
  exact ⟨rfl, Nm.alloc_below _ _⟩
set_option maxRecDepth 100000 in
theorem rr0zT (m e : Int) (t : ByteArray) (b : Bool) (f : Int) (hm : (m == 0) = true) (he : (e == 0) = true) (ht : t.toList.isEmpty = false) (w : World) : Calls Tryd.prog 48 #[.agg #[.int .i64 0, .int .i64 m, .int .i64 e, .string t, .bool b, .int .i64 f]] w fun r w' => r = .returned (.bool false) ∧ Below w.heap.size w w' := by
  go_enter Tryd.func48, Tryd.ntmps48
  go_wp2
  go_ret
  exact ⟨rfl, Nm.alloc_below _ _⟩
set_option maxRecDepth 100000 in
theorem rr0zb (m e : Int) (t : ByteArray) (f : Int) (hm : (m == 0) = true) (he : (e == 0) = true) (ht2 : t.toList = []) (w : World) : Calls Tryd.prog 48 #[.agg #[.int .i64 0, .int .i64 m, .int .i64 e, .string t, .bool true, .int .i64 f]] w fun r w' => r = .returned (.bool false) ∧ Below w.heap.size w w' := by
  go_enter Tryd.func48, Tryd.ntmps48
  go_wp2
  go_ret
  exact ⟨rfl, Nm.alloc_below _ _⟩
set_option maxRecDepth 100000 in
theorem rr0zF (m e : Int) (t : ByteArray) (f : Int) (hm : (m == 0) = true) (he : (e == 0) = true) (ht2 : t.toList = []) (hf : (f == 0) = false) (w : World) : Calls Tryd.prog 48 #[.agg #[.int .i64 0, .int .i64 m, .int .i64 e, .string t, .bool false, .int .i64 f]] w fun r w' => r = .returned (.bool false) ∧ Below w.heap.size w w' := by
  go_enter Tryd.func48, Tryd.ntmps48
  go_wp2
  go_ret
  exact ⟨rfl, Nm.alloc_below _ _⟩
set_option maxRecDepth 100000 in
theorem rr0zo (m e : Int) (t : ByteArray) (f : Int) (hm : (m == 0) = true) (he : (e == 0) = true) (ht2 : t.toList = []) (hf : (f == 0) = true) (w : World) : Calls Tryd.prog 48 #[.agg #[.int .i64 0, .int .i64 m, .int .i64 e, .string t, .bool false, .int .i64 f]] w fun r w' => r = .returned (.bool true) ∧ Below w.heap.size w w' := by
  go_enter Tryd.func48, Tryd.ntmps48
  go_wp2
  go_ret
  exact ⟨rfl, Nm.alloc_below _ _⟩
set_option maxRecDepth 100000 in
theorem rr2h (m e : Int) (t : ByteArray) (b : Bool) (f : Int) (hm : (m == 0) = false) (w : World) : Calls Tryd.prog 48 #[.agg #[.int .i64 2, .int .i64 m, .int .i64 e, .string t, .bool b, .int .i64 f]] w fun r w' => r = .returned (.bool false) ∧ Below w.heap.size w w' := by
  go_enter Tryd.func48, Tryd.ntmps48
  go_wp2
  go_ret
  exact ⟨rfl, Nm.alloc_below _ _⟩
set_option maxRecDepth 100000 in
theorem rr2i (m e : Int) (t : ByteArray) (b : Bool) (f : Int) (hm : (m == 0) = true) (he : (e == 0) = false) (w : World) : Calls Tryd.prog 48 #[.agg #[.int .i64 2, .int .i64 m, .int .i64 e, .string t, .bool b, .int .i64 f]] w fun r w' => r = .returned (.bool false) ∧ Below w.heap.size w w' := by
  go_enter Tryd.func48, Tryd.ntmps48
  go_wp2
  go_ret
  exact ⟨rfl, Nm.alloc_below _ _⟩
set_option maxRecDepth 100000 in
theorem rr2zb (m e : Int) (t : ByteArray) (f : Int) (hm : (m == 0) = true) (he : (e == 0) = true)  (w : World) : Calls Tryd.prog 48 #[.agg #[.int .i64 2, .int .i64 m, .int .i64 e, .string t, .bool true, .int .i64 f]] w fun r w' => r = .returned (.bool false) ∧ Below w.heap.size w w' := by
  go_enter Tryd.func48, Tryd.ntmps48
  go_wp2
  go_ret
  exact ⟨rfl, Nm.alloc_below _ _⟩
set_option maxRecDepth 100000 in
theorem rr2zF (m e : Int) (t : ByteArray) (f : Int) (hm : (m == 0) = true) (he : (e == 0) = true)  (hf : (f == 0) = false) (w : World) : Calls Tryd.prog 48 #[.agg #[.int .i64 2, .int .i64 m, .int .i64 e, .string t, .bool false, .int .i64 f]] w fun r w' => r = .returned (.bool false) ∧ Below w.heap.size w w' := by
  go_enter Tryd.func48, Tryd.ntmps48
  go_wp2
  go_ret
  exact ⟨rfl, Nm.alloc_below _ _⟩
set_option maxRecDepth 100000 in
theorem rr2zo (m e : Int) (t : ByteArray) (f : Int) (hm : (m == 0) = true) (he : (e == 0) = true) (hf : (f == 0) = true) (hs : (t.size : Int) ≤ 255) (w : World) : Calls Tryd.prog 48 #[.agg #[.int .i64 2, .int .i64 m, .int .i64 e, .string t, .bool false, .int .i64 f]] w fun r w' => r = .returned (.bool true) ∧ Below w.heap.size w w' := by
  go_enter Tryd.func48, Tryd.ntmps48
  go_wp2
  go_ret
  exact ⟨rfl, Nm.alloc_below _ _⟩
set_option maxRecDepth 100000 in
theorem rr2zl (m e : Int) (t : ByteArray) (f : Int) (hm : (m == 0) = true) (he : (e == 0) = true) (hf : (f == 0) = true) (hs : ¬ (t.size : Int) ≤ 255) (w : World) : Calls Tryd.prog 48 #[.agg #[.int .i64 2, .int .i64 m, .int .i64 e, .string t, .bool false, .int .i64 f]] w fun r w' => r = .returned (.bool false) ∧ Below w.heap.size w w' := by
  go_enter Tryd.func48, Tryd.ntmps48
  go_wp2
  go_ret
  exact ⟨rfl, Nm.alloc_below _ _⟩
set_option maxRecDepth 100000 in
theorem rr3h (m e : Int) (t : ByteArray) (b : Bool) (f : Int) (hm : (m == 0) = false) (w : World) : Calls Tryd.prog 48 #[.agg #[.int .i64 3, .int .i64 m, .int .i64 e, .string t, .bool b, .int .i64 f]] w fun r w' => r = .returned (.bool false) ∧ Below w.heap.size w w' := by
  go_enter Tryd.func48, Tryd.ntmps48
  go_wp2
  go_ret
  exact ⟨rfl, Nm.alloc_below _ _⟩
set_option maxRecDepth 100000 in
theorem rr3i (m e : Int) (t : ByteArray) (b : Bool) (f : Int) (hm : (m == 0) = true) (he : (e == 0) = false) (w : World) : Calls Tryd.prog 48 #[.agg #[.int .i64 3, .int .i64 m, .int .i64 e, .string t, .bool b, .int .i64 f]] w fun r w' => r = .returned (.bool false) ∧ Below w.heap.size w w' := by
  go_enter Tryd.func48, Tryd.ntmps48
  go_wp2
  go_ret
  exact ⟨rfl, Nm.alloc_below _ _⟩
set_option maxRecDepth 100000 in
theorem rr3zT (m e : Int) (t : ByteArray) (b : Bool) (f : Int) (hm : (m == 0) = true) (he : (e == 0) = true) (ht : t.toList.isEmpty = false) (w : World) : Calls Tryd.prog 48 #[.agg #[.int .i64 3, .int .i64 m, .int .i64 e, .string t, .bool b, .int .i64 f]] w fun r w' => r = .returned (.bool false) ∧ Below w.heap.size w w' := by
  go_enter Tryd.func48, Tryd.ntmps48
  go_wp2
  go_ret
  exact ⟨rfl, Nm.alloc_below _ _⟩
set_option maxRecDepth 100000 in
theorem rr3zF (m e : Int) (t : ByteArray) (b : Bool) (f : Int) (hm : (m == 0) = true) (he : (e == 0) = true) (ht2 : t.toList = []) (hf : (f == 0) = false) (w : World) : Calls Tryd.prog 48 #[.agg #[.int .i64 3, .int .i64 m, .int .i64 e, .string t, .bool b, .int .i64 f]] w fun r w' => r = .returned (.bool false) ∧ Below w.heap.size w w' := by
  go_enter Tryd.func48, Tryd.ntmps48
  go_wp2
  go_ret
  exact ⟨rfl, Nm.alloc_below _ _⟩
set_option maxRecDepth 100000 in
theorem rr3zo (m e : Int) (t : ByteArray) (b : Bool) (f : Int) (hm : (m == 0) = true) (he : (e == 0) = true) (ht2 : t.toList = []) (hf : (f == 0) = true) (w : World) : Calls Tryd.prog 48 #[.agg #[.int .i64 3, .int .i64 m, .int .i64 e, .string t, .bool b, .int .i64 f]] w fun r w' => r = .returned (.bool true) ∧ Below w.heap.size w w' := by
  go_enter Tryd.func48, Tryd.ntmps48
  go_wp2
  go_ret
  exact ⟨rfl, Nm.alloc_below _ _⟩
set_option maxRecDepth 100000 in
theorem rr4h (m e : Int) (t : ByteArray) (b : Bool) (f : Int) (hm : (m == 0) = false) (w : World) : Calls Tryd.prog 48 #[.agg #[.int .i64 4, .int .i64 m, .int .i64 e, .string t, .bool b, .int .i64 f]] w fun r w' => r = .returned (.bool false) ∧ Below w.heap.size w w' := by
  go_enter Tryd.func48, Tryd.ntmps48
  go_wp2
  go_ret
  exact ⟨rfl, Nm.alloc_below _ _⟩
set_option maxRecDepth 100000 in
theorem rr4i (m e : Int) (t : ByteArray) (b : Bool) (f : Int) (hm : (m == 0) = true) (he : (e == 0) = false) (w : World) : Calls Tryd.prog 48 #[.agg #[.int .i64 4, .int .i64 m, .int .i64 e, .string t, .bool b, .int .i64 f]] w fun r w' => r = .returned (.bool false) ∧ Below w.heap.size w w' := by
  go_enter Tryd.func48, Tryd.ntmps48
  go_wp2
  go_ret
  exact ⟨rfl, Nm.alloc_below _ _⟩
set_option maxRecDepth 100000 in
theorem rr4zT (m e : Int) (t : ByteArray) (b : Bool) (f : Int) (hm : (m == 0) = true) (he : (e == 0) = true) (ht : t.toList.isEmpty = false) (w : World) : Calls Tryd.prog 48 #[.agg #[.int .i64 4, .int .i64 m, .int .i64 e, .string t, .bool b, .int .i64 f]] w fun r w' => r = .returned (.bool false) ∧ Below w.heap.size w w' := by
  go_enter Tryd.func48, Tryd.ntmps48
  go_wp2
  go_ret
  exact ⟨rfl, Nm.alloc_below _ _⟩
set_option maxRecDepth 100000 in
theorem rr4zb (m e : Int) (t : ByteArray) (f : Int) (hm : (m == 0) = true) (he : (e == 0) = true) (ht2 : t.toList = []) (w : World) : Calls Tryd.prog 48 #[.agg #[.int .i64 4, .int .i64 m, .int .i64 e, .string t, .bool true, .int .i64 f]] w fun r w' => r = .returned (.bool false) ∧ Below w.heap.size w w' := by
  go_enter Tryd.func48, Tryd.ntmps48
  go_wp2
  go_ret
  exact ⟨rfl, Nm.alloc_below _ _⟩
set_option maxRecDepth 100000 in
theorem rr4za (m e : Int) (t : ByteArray) (f : Int) (hm : (m == 0) = true) (he : (e == 0) = true) (ht2 : t.toList = []) (g1 : ¬ 1 ≤ f) (w : World) : Calls Tryd.prog 48 #[.agg #[.int .i64 4, .int .i64 m, .int .i64 e, .string t, .bool false, .int .i64 f]] w fun r w' => r = .returned (.bool false) ∧ Below w.heap.size w w' := by
  go_enter Tryd.func48, Tryd.ntmps48
  go_wp2
  go_ret
  exact ⟨rfl, Nm.alloc_below _ _⟩
set_option maxRecDepth 100000 in
theorem rr4zc (m e : Int) (t : ByteArray) (f : Int) (hm : (m == 0) = true) (he : (e == 0) = true) (ht2 : t.toList = []) (g1 : 1 ≤ f) (g2 : ¬ f ≤ 9) (w : World) : Calls Tryd.prog 48 #[.agg #[.int .i64 4, .int .i64 m, .int .i64 e, .string t, .bool false, .int .i64 f]] w fun r w' => r = .returned (.bool false) ∧ Below w.heap.size w w' := by
  go_enter Tryd.func48, Tryd.ntmps48
  go_wp2
  go_ret
  exact ⟨rfl, Nm.alloc_below _ _⟩
set_option maxRecDepth 100000 in
theorem rr4zo (m e : Int) (t : ByteArray) (f : Int) (hm : (m == 0) = true) (he : (e == 0) = true) (ht2 : t.toList = []) (g1 : 1 ≤ f) (g2 : f ≤ 9) (w : World) : Calls Tryd.prog 48 #[.agg #[.int .i64 4, .int .i64 m, .int .i64 e, .string t, .bool false, .int .i64 f]] w fun r w' => r = .returned (.bool true) ∧ Below w.heap.size w w' := by
  go_enter Tryd.func48, Tryd.ntmps48
  go_wp2
  go_ret
  exact ⟨rfl, Nm.alloc_below _ _⟩
set_option maxRecDepth 100000 in
theorem rrxh (k m e : Int) (t : ByteArray) (b : Bool) (f : Int) (hk : (k == 0) = false ∧ (k == 1) = false ∧ (k == 2) = false ∧ (k == 3) = false ∧ (k == 4) = false ∧ (k != 1) = true ∧ (k != 2) = true ∧ (k != 3) = true ∧ (k != 4) = true) (hm : (m == 0) = false) (w : World) : Calls Tryd.prog 48 #[.agg #[.int .i64 k, .int .i64 m, .int .i64 e, .string t, .bool b, .int .i64 f]] w fun r w' => r = .returned (.bool false) ∧ Below w.heap.size w w' := by
  obtain ⟨h0, h1, h2, h3, h4, n1, n2, n3, n4⟩ := hk
  go_enter Tryd.func48, Tryd.ntmps48
  go_wp2
  go_ret
  exact ⟨rfl, Nm.alloc_below _ _⟩
set_option maxRecDepth 100000 in
theorem rrxi (k m e : Int) (t : ByteArray) (b : Bool) (f : Int) (hk : (k == 0) = false ∧ (k == 1) = false ∧ (k == 2) = false ∧ (k == 3) = false ∧ (k == 4) = false ∧ (k != 1) = true ∧ (k != 2) = true ∧ (k != 3) = true ∧ (k != 4) = true) (hm : (m == 0) = true) (he : (e == 0) = false) (w : World) : Calls Tryd.prog 48 #[.agg #[.int .i64 k, .int .i64 m, .int .i64 e, .string t, .bool b, .int .i64 f]] w fun r w' => r = .returned (.bool false) ∧ Below w.heap.size w w' := by
  obtain ⟨h0, h1, h2, h3, h4, n1, n2, n3, n4⟩ := hk
  go_enter Tryd.func48, Tryd.ntmps48
  go_wp2
  go_ret
  exact ⟨rfl, Nm.alloc_below _ _⟩
set_option maxRecDepth 100000 in
theorem rrxzT (k m e : Int) (t : ByteArray) (b : Bool) (f : Int) (hk : (k == 0) = false ∧ (k == 1) = false ∧ (k == 2) = false ∧ (k == 3) = false ∧ (k == 4) = false ∧ (k != 1) = true ∧ (k != 2) = true ∧ (k != 3) = true ∧ (k != 4) = true) (hm : (m == 0) = true) (he : (e == 0) = true) (ht : t.toList.isEmpty = false) (w : World) : Calls Tryd.prog 48 #[.agg #[.int .i64 k, .int .i64 m, .int .i64 e, .string t, .bool b, .int .i64 f]] w fun r w' => r = .returned (.bool false) ∧ Below w.heap.size w w' := by
  obtain ⟨h0, h1, h2, h3, h4, n1, n2, n3, n4⟩ := hk
  go_enter Tryd.func48, Tryd.ntmps48
  go_wp2
  go_ret
  exact ⟨rfl, Nm.alloc_below _ _⟩
set_option maxRecDepth 100000 in
theorem rrxzb (k m e : Int) (t : ByteArray) (f : Int) (hk : (k == 0) = false ∧ (k == 1) = false ∧ (k == 2) = false ∧ (k == 3) = false ∧ (k == 4) = false ∧ (k != 1) = true ∧ (k != 2) = true ∧ (k != 3) = true ∧ (k != 4) = true) (hm : (m == 0) = true) (he : (e == 0) = true) (ht2 : t.toList = []) (w : World) : Calls Tryd.prog 48 #[.agg #[.int .i64 k, .int .i64 m, .int .i64 e, .string t, .bool true, .int .i64 f]] w fun r w' => r = .returned (.bool false) ∧ Below w.heap.size w w' := by
  obtain ⟨h0, h1, h2, h3, h4, n1, n2, n3, n4⟩ := hk
  go_enter Tryd.func48, Tryd.ntmps48
  go_wp2
  go_ret
  exact ⟨rfl, Nm.alloc_below _ _⟩
set_option maxRecDepth 100000 in
theorem rrxzF (k m e : Int) (t : ByteArray) (f : Int) (hk : (k == 0) = false ∧ (k == 1) = false ∧ (k == 2) = false ∧ (k == 3) = false ∧ (k == 4) = false ∧ (k != 1) = true ∧ (k != 2) = true ∧ (k != 3) = true ∧ (k != 4) = true) (hm : (m == 0) = true) (he : (e == 0) = true) (ht2 : t.toList = []) (hf : (f == 0) = false) (w : World) : Calls Tryd.prog 48 #[.agg #[.int .i64 k, .int .i64 m, .int .i64 e, .string t, .bool false, .int .i64 f]] w fun r w' => r = .returned (.bool false) ∧ Below w.heap.size w w' := by
  obtain ⟨h0, h1, h2, h3, h4, n1, n2, n3, n4⟩ := hk
  go_enter Tryd.func48, Tryd.ntmps48
  go_wp2
  go_ret
  exact ⟨rfl, Nm.alloc_below _ _⟩
set_option maxRecDepth 100000 in
theorem rrxzo (k m e : Int) (t : ByteArray) (f : Int) (hk : (k == 0) = false ∧ (k == 1) = false ∧ (k == 2) = false ∧ (k == 3) = false ∧ (k == 4) = false ∧ (k != 1) = true ∧ (k != 2) = true ∧ (k != 3) = true ∧ (k != 4) = true) (hm : (m == 0) = true) (he : (e == 0) = true) (ht2 : t.toList = []) (hf : (f == 0) = true) (w : World) : Calls Tryd.prog 48 #[.agg #[.int .i64 k, .int .i64 m, .int .i64 e, .string t, .bool false, .int .i64 f]] w fun r w' => r = .returned (.bool false) ∧ Below w.heap.size w w' := by
  obtain ⟨h0, h1, h2, h3, h4, n1, n2, n3, n4⟩ := hk
  go_enter Tryd.func48, Tryd.ntmps48
  go_wp2
  go_ret
  exact ⟨rfl, Nm.alloc_below _ _⟩
theorem bs_ne {t : ByteArray} (h : t ≠ bs0) : t.toList.isEmpty = false := by
  rw [Lib.toList_data]
  cases hl : t.data.toList with
  | nil => exact absurd (by cases t; simpa [bs0] using hl) h
  | cons x l => rfl
theorem bs_nil : bs0.toList = [] := by rw [Lib.toList_data]; rfl
theorem bs_size : bs0.size = 0 := rfl
theorem rk0 (m e : Int) (t : ByteArray) (b : Bool) (f : Int) : rightV ⟨0, m, e, t, b, f⟩ = decide (m = 0 ∧ e = 0 ∧ t = bs0 ∧ b = false ∧ f = 0) := by
  have : rightV ⟨0, m, e, t, b, f⟩ = eqV ⟨0, m, e, t, b, f⟩ zV := rfl
  rw [this]
  unfold eqV zV
  simp
theorem rk1 (m e : Int) (t : ByteArray) (b : Bool) (f : Int) : rightV ⟨1, m, e, t, b, f⟩ = (decide (t = bs0 ∧ b = false ∧ f = 0) && Nm.rightB m e) := by
  have : rightV ⟨1, m, e, t, b, f⟩ = (eqV ⟨1, m, e, t, b, f⟩ ⟨1, m, e, bs0, false, 0⟩ && Nm.rightB m e) := rfl
  rw [this]
  unfold eqV
  simp
theorem rk2 (m e : Int) (t : ByteArray) (b : Bool) (f : Int) : rightV ⟨2, m, e, t, b, f⟩ = decide (m = 0 ∧ e = 0 ∧ b = false ∧ f = 0 ∧ t.size ≤ 255) := by
  have : rightV ⟨2, m, e, t, b, f⟩ = eqV ⟨2, m, e, t, b, f⟩ (textV t) := rfl
  rw [this]
  unfold eqV textV
  by_cases h : t.size ≤ 255
  · rw [if_pos h]; simp [h]
  · rw [if_neg h]; unfold fV; simp [h]
theorem rk3 (m e : Int) (t : ByteArray) (b : Bool) (f : Int) : rightV ⟨3, m, e, t, b, f⟩ = decide (m = 0 ∧ e = 0 ∧ t = bs0 ∧ f = 0) := by
  have : rightV ⟨3, m, e, t, b, f⟩ = eqV ⟨3, m, e, t, b, f⟩ ⟨3, 0, 0, bs0, b, 0⟩ := rfl
  rw [this]
  unfold eqV
  simp
theorem rk4 (m e : Int) (t : ByteArray) (b : Bool) (f : Int) : rightV ⟨4, m, e, t, b, f⟩ = decide (m = 0 ∧ e = 0 ∧ t = bs0 ∧ b = false ∧ 1 ≤ f ∧ f ≤ 9) := by
  have : rightV ⟨4, m, e, t, b, f⟩ = eqV ⟨4, m, e, t, b, f⟩ (badV f) := rfl
  rw [this]
  by_cases h : 1 ≤ f ∧ f ≤ 9
  · rw [fault_yes h]; unfold eqV fV; simp [h]
  · rw [fault_no h]; unfold eqV fV
    have h9 : f ≠ 9 := by omega
    simp [h9]; omega
theorem rkx (k m e : Int) (t : ByteArray) (b : Bool) (f : Int) (h0 : ¬ k = 0) (h1 : ¬ k = 1) (h2 : ¬ k = 2) (h3 : ¬ k = 3) (h4 : ¬ k = 4) : rightV ⟨k, m, e, t, b, f⟩ = false := by
  unfold rightV
  simp [h0, h1, h2, h3, h4]
/-- whether a value may be: the document -/
theorem rr_any (v : Vl) (w : World) : Calls Tryd.prog 48 #[vV v] w fun r w' => r = .returned (.bool (rightV v)) ∧ Below w.heap.size w w' := by
  obtain ⟨k, m, e, t, b, f⟩ := v
  have key : ∀ res : Bool, rightV ⟨k, m, e, t, b, f⟩ = res → (Calls Tryd.prog 48 #[vV ⟨k, m, e, t, b, f⟩] w fun r w' => r = .returned (.bool res) ∧ Below w.heap.size w w') → Calls Tryd.prog 48 #[vV ⟨k, m, e, t, b, f⟩] w fun r w' => r = .returned (.bool (rightV ⟨k, m, e, t, b, f⟩)) ∧ Below w.heap.size w w' := by
    rintro _ rfl h; exact h
  by_cases k0 : k = 0
  · subst k0
    by_cases hm : m = 0
    rotate_left
    · exact key _ (by rw [rk0]; exact decide_eq_false (by clear key; intro h; simp_all)) (rr0h m e t b f (by simpa using hm) w)
    by_cases he : e = 0
    rotate_left
    · exact key _ (by rw [rk0]; exact decide_eq_false (by clear key; intro h; simp_all)) (rr0i m e t b f (by simpa using hm) (by simpa using he) w)
    subst hm he
    by_cases ht : t = bs0
    rotate_left
    · exact key _ (by rw [rk0]; exact decide_eq_false (by clear key; intro h; simp_all)) (rr0zT 0 0 t b f rfl rfl (bs_ne ht) w)
    subst ht
    cases b with
    | true => exact key _ (by rw [rk0]; exact decide_eq_false (by clear key; intro h; simp_all)) (rr0zb 0 0 bs0 f rfl rfl bs_nil w)
    | false =>
      by_cases hf : f = 0
      rotate_left
      · exact key _ (by rw [rk0]; exact decide_eq_false (by clear key; intro h; simp_all)) (rr0zF 0 0 bs0 f rfl rfl bs_nil (by simpa using hf) w)
      subst hf
      exact key _ (by rw [rk0]; exact decide_eq_true (by clear key; simp_all)) (rr0zo 0 0 bs0 0 rfl rfl bs_nil rfl w)
  by_cases k1 : k = 1
  · subst k1
    have zero : ((m == 0) = false) ∨ ((m == 0) = true ∧ (e == 0) = false) ∨ ((m == 0) = true ∧ (e == 0) = true) := by cases (m == 0) <;> cases (e == 0) <;> simp
    rcases zero with hm | ⟨hm, he⟩ | ⟨hm, he⟩
    · by_cases ht : t = bs0
      · subst ht
        cases b with
        | true => exact key _ (by rw [rk1, decide_eq_false (by clear key; intro h; simp_all), Bool.false_and]) (rr1hb m e bs0 f hm bs_nil w)
        | false =>
          by_cases hf : f = 0
          · subst hf; exact key _ (by rw [rk1, decide_eq_true (by clear key; simp_all), Bool.true_and]) (rr1ho m e bs0 0 hm bs_nil rfl w)
          · exact key _ (by rw [rk1, decide_eq_false (by clear key; intro h; simp_all), Bool.false_and]) (rr1hF m e bs0 f hm bs_nil (by simpa using hf) w)
      · exact key _ (by rw [rk1, decide_eq_false (by clear key; intro h; simp_all), Bool.false_and]) (rr1hT m e t b f hm (bs_ne ht) w)
    · by_cases ht : t = bs0
      · subst ht
        cases b with
        | true => exact key _ (by rw [rk1, decide_eq_false (by clear key; intro h; simp_all), Bool.false_and]) (rr1ib m e bs0 f hm he bs_nil w)
        | false =>
          by_cases hf : f = 0
          · subst hf; exact key _ (by rw [rk1, decide_eq_true (by clear key; simp_all), Bool.true_and]) (rr1io m e bs0 0 hm he bs_nil rfl w)
          · exact key _ (by rw [rk1, decide_eq_false (by clear key; intro h; simp_all), Bool.false_and]) (rr1iF m e bs0 f hm he bs_nil (by simpa using hf) w)
      · exact key _ (by rw [rk1, decide_eq_false (by clear key; intro h; simp_all), Bool.false_and]) (rr1iT m e t b f hm he (bs_ne ht) w)
    · by_cases ht : t = bs0
      · subst ht
        cases b with
        | true => exact key _ (by rw [rk1, decide_eq_false (by clear key; intro h; simp_all), Bool.false_and]) (rr1zb m e bs0 f hm he bs_nil w)
        | false =>
          by_cases hf : f = 0
          · subst hf; exact key _ (by rw [rk1, decide_eq_true (by clear key; simp_all), Bool.true_and]) (rr1zo m e bs0 0 hm he bs_nil rfl w)
          · exact key _ (by rw [rk1, decide_eq_false (by clear key; intro h; simp_all), Bool.false_and]) (rr1zF m e bs0 f hm he bs_nil (by simpa using hf) w)
      · exact key _ (by rw [rk1, decide_eq_false (by clear key; intro h; simp_all), Bool.false_and]) (rr1zT m e t b f hm he (bs_ne ht) w)
  by_cases k2 : k = 2
  · subst k2
    by_cases hm : m = 0
    rotate_left
    · exact key _ (by rw [rk2]; exact decide_eq_false (by clear key; intro h; simp_all)) (rr2h m e t b f (by simpa using hm) w)
    by_cases he : e = 0
    rotate_left
    · exact key _ (by rw [rk2]; exact decide_eq_false (by clear key; intro h; simp_all)) (rr2i m e t b f (by simpa using hm) (by simpa using he) w)
    subst hm he
    cases b with
    | true => exact key _ (by rw [rk2]; exact decide_eq_false (by clear key; intro h; simp_all)) (rr2zb 0 0 t f rfl rfl w)
    | false =>
      by_cases hf : f = 0
      rotate_left
      · exact key _ (by rw [rk2]; exact decide_eq_false (by clear key; intro h; simp_all)) (rr2zF 0 0 t f rfl rfl (by simpa using hf) w)
      subst hf
      by_cases hs : t.size ≤ 255
      · exact key _ (by rw [rk2]; exact decide_eq_true (by clear key; simp_all)) (rr2zo 0 0 t 0 rfl rfl rfl (by omega) w)
      · exact key _ (by rw [rk2]; exact decide_eq_false (by clear key; intro h; simp_all)) (rr2zl 0 0 t 0 rfl rfl rfl (by omega) w)
  by_cases k3 : k = 3
  · subst k3
    by_cases hm : m = 0
    rotate_left
    · exact key _ (by rw [rk3]; exact decide_eq_false (by clear key; intro h; simp_all)) (rr3h m e t b f (by simpa using hm) w)
    by_cases he : e = 0
    rotate_left
    · exact key _ (by rw [rk3]; exact decide_eq_false (by clear key; intro h; simp_all)) (rr3i m e t b f (by simpa using hm) (by simpa using he) w)
    subst hm he
    by_cases ht : t = bs0
    rotate_left
    · exact key _ (by rw [rk3]; exact decide_eq_false (by clear key; intro h; simp_all)) (rr3zT 0 0 t b f rfl rfl (bs_ne ht) w)
    subst ht
    by_cases hf : f = 0
    rotate_left
    · exact key _ (by rw [rk3]; exact decide_eq_false (by clear key; intro h; simp_all)) (rr3zF 0 0 bs0 b f rfl rfl bs_nil (by simpa using hf) w)
    subst hf
    exact key _ (by rw [rk3]; exact decide_eq_true (by clear key; simp_all)) (rr3zo 0 0 bs0 b 0 rfl rfl bs_nil rfl w)
  by_cases k4 : k = 4
  · subst k4
    by_cases hm : m = 0
    rotate_left
    · exact key _ (by rw [rk4]; exact decide_eq_false (by clear key; intro h; simp_all)) (rr4h m e t b f (by simpa using hm) w)
    by_cases he : e = 0
    rotate_left
    · exact key _ (by rw [rk4]; exact decide_eq_false (by clear key; intro h; simp_all)) (rr4i m e t b f (by simpa using hm) (by simpa using he) w)
    subst hm he
    by_cases ht : t = bs0
    rotate_left
    · exact key _ (by rw [rk4]; exact decide_eq_false (by clear key; intro h; simp_all)) (rr4zT 0 0 t b f rfl rfl (bs_ne ht) w)
    subst ht
    cases b with
    | true => exact key _ (by rw [rk4]; exact decide_eq_false (by clear key; intro h; simp_all)) (rr4zb 0 0 bs0 f rfl rfl bs_nil w)
    | false =>
      by_cases g1 : 1 ≤ f
      · by_cases g2 : f ≤ 9
        · exact key _ (by rw [rk4]; exact decide_eq_true (by clear key; simp_all)) (rr4zo 0 0 bs0 f rfl rfl bs_nil g1 g2 w)
        · exact key _ (by rw [rk4]; exact decide_eq_false (by omega)) (rr4zc 0 0 bs0 f rfl rfl bs_nil g1 g2 w)
      · exact key _ (by rw [rk4]; exact decide_eq_false (by omega)) (rr4za 0 0 bs0 f rfl rfl bs_nil g1 w)
  have hk9 : (k == 0) = false ∧ (k == 1) = false ∧ (k == 2) = false ∧ (k == 3) = false ∧ (k == 4) = false ∧ (k != 1) = true ∧ (k != 2) = true ∧ (k != 3) = true ∧ (k != 4) = true := by simp [k0, k1, k2, k3, k4]
  by_cases hm : m = 0
  rotate_left
  · exact key _ (rkx _ _ _ _ _ _ k0 k1 k2 k3 k4) (rrxh k m e t b f hk9 (by simpa using hm) w)
  by_cases he : e = 0
  rotate_left
  · exact key _ (rkx _ _ _ _ _ _ k0 k1 k2 k3 k4) (rrxi k m e t b f hk9 (by simpa using hm) (by simpa using he) w)
  subst hm he
  by_cases ht : t = bs0
  rotate_left
  · exact key _ (rkx _ _ _ _ _ _ k0 k1 k2 k3 k4) (rrxzT k 0 0 t b f hk9 rfl rfl (bs_ne ht) w)
  subst ht
  cases b with
  | true => exact key _ (rkx _ _ _ _ _ _ k0 k1 k2 k3 k4) (rrxzb k 0 0 bs0 f hk9 rfl rfl bs_nil w)
  | false =>
    by_cases hf : f = 0
    rotate_left
    · exact key _ (rkx _ _ _ _ _ _ k0 k1 k2 k3 k4) (rrxzF k 0 0 bs0 f hk9 rfl rfl bs_nil (by simpa using hf) w)
    subst hf
    exact key _ (rkx _ _ _ _ _ _ k0 k1 k2 k3 k4) (rrxzo k 0 0 bs0 0 hk9 rfl rfl bs_nil rfl w)
end Go.Proofs.YtfgddhabepllfaaDoor
