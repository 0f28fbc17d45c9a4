/- SpillTurned: what is left out, second part. -/
import Derived.Test.YtdeneogbnmedkaaTw
namespace Go.Proofs.Ytdeneogbnmedkaa
open Go.RowKit Go.Maps
set_option maxRecDepth 100000 in
set_option maxHeartbeats 8000000 in
theorem turned_e6 {w : World} (af : Bool) (ar ac ah aw : Int) (cf : Bool) (cr cl ch cw : Int) (v : Value) (l : List Pl) (HL : Hid (PairsAt w v l)) (hlen : l.length ≤ 60) (h0 : ¬ ar < 0) (h1 : ¬ ac < 0) (h2 : ¬ cr < 0) (h3 : ¬ cl < 0) (h4 : ¬ 12 < ar) (h5 : ¬ 12 < ac) (h6 : 12 < cr) :
    Calls Try.prog 7 #[.agg #[.bool af, .int .i64 ar, .int .i64 ac, .int .i64 ah, .int .i64 aw], .agg #[.bool cf, .int .i64 cr, .int .i64 cl, .int .i64 ch, .int .i64 cw], v] w fun e w' => e = .returned (.bool true) ∧ Below w.heap.size w w' := by
  obtain ⟨A, cc, rfl, hcc, _⟩ := id HL.out
  have hb0 : Below w.heap.size w ((w.alloc (.cells #[.bool af, .int .i64 ar, .int .i64 ac, .int .i64 ah, .int .i64 aw] 32)).alloc (.cells #[.bool cf, .int .i64 cr, .int .i64 cl, .int .i64 ch, .int .i64 cw] 32)) := ((Below.refl _ _).alloc (Nat.le_refl _) _).alloc (by simp) _
  have hz0 : ((w.alloc (.cells #[.bool af, .int .i64 ar, .int .i64 ac, .int .i64 ah, .int .i64 aw] 32)).alloc (.cells #[.bool cf, .int .i64 cr, .int .i64 cl, .int .i64 ch, .int .i64 cw] 32)).heap[w.heap.size]? = some (.cells #[.bool af, .int .i64 ar, .int .i64 ac, .int .i64 ah, .int .i64 aw] 32 (0, 0)) := (Below.heap_alloc _ _ _ (by simp)).trans (World.alloc_heap_new w _)
  have hz1 : ((w.alloc (.cells #[.bool af, .int .i64 ar, .int .i64 ac, .int .i64 ah, .int .i64 aw] 32)).alloc (.cells #[.bool cf, .int .i64 cr, .int .i64 cl, .int .i64 ch, .int .i64 cw] 32)).heap[w.heap.size + 1]? = some (.cells #[.bool cf, .int .i64 cr, .int .i64 cl, .int .i64 ch, .int .i64 cw] 32 (0, 0)) := by
    simpa using World.alloc_heap_new (w.alloc (.cells #[.bool af, .int .i64 ar, .int .i64 ac, .int .i64 ah, .int .i64 aw] 32)) (.cells #[.bool cf, .int .i64 cr, .int .i64 cl, .int .i64 ch, .int .i64 cw] 32)
  obtain ⟨W0, hW0⟩ : ∃ W0, W0 = ((w.alloc (.cells #[.bool af, .int .i64 ar, .int .i64 ac, .int .i64 ah, .int .i64 aw] 32)).alloc (.cells #[.bool cf, .int .i64 cr, .int .i64 cl, .int .i64 ch, .int .i64 cw] 32)) := ⟨_, rfl⟩
  rw [← hW0] at hb0 hz0 hz1
  have HB0 := Lib.hid hb0
  have HZ0 := Lib.hid hz0
  have HZ1 := Lib.hid hz1
  have HW0 := Lib.hid hW0
  clear hb0 hz0 hz1 hW0
  go_enter Try.func7, Try.ntmps7
  go_wp2_with fail
  rw [← HW0.out]
  refine (awake_any _).mono ?_
  rintro e w1 ⟨rfl, hb1⟩
  have HB1 := Lib.hid (HB0.out.trans (hb1.mono HB0.out.size))
  have HY0 := Lib.hid ((hb1.block _ (Array.getElem?_eq_some_iff.1 HZ0.out).1).trans HZ0.out)
  have HY1 := Lib.hid ((hb1.block _ (Array.getElem?_eq_some_iff.1 HZ1.out).1).trans HZ1.out)
  clear hb1 HZ0 HZ1 HB0 HW0
  have hlt : ¬ (60 : Int) < ↑l.length := by omega
  obtain ⟨_, a1, a2, a3, a4⟩ := box5 HY0.out
  obtain ⟨_, b1, b2, b3, b4⟩ := box5 HY1.out
  go_wp2
  go_ret
  exact ⟨rfl, HB1.out⟩

set_option maxRecDepth 100000 in
set_option maxHeartbeats 8000000 in
theorem turned_e7 {w : World} (af : Bool) (ar ac ah aw : Int) (cf : Bool) (cr cl ch cw : Int) (v : Value) (l : List Pl) (HL : Hid (PairsAt w v l)) (hlen : l.length ≤ 60) (h0 : ¬ ar < 0) (h1 : ¬ ac < 0) (h2 : ¬ cr < 0) (h3 : ¬ cl < 0) (h4 : ¬ 12 < ar) (h5 : ¬ 12 < ac) (h6 : ¬ 12 < cr) (h7 : 12 < cl) :
    Calls Try.prog 7 #[.agg #[.bool af, .int .i64 ar, .int .i64 ac, .int .i64 ah, .int .i64 aw], .agg #[.bool cf, .int .i64 cr, .int .i64 cl, .int .i64 ch, .int .i64 cw], v] w fun e w' => e = .returned (.bool true) ∧ Below w.heap.size w w' := by
  obtain ⟨A, cc, rfl, hcc, _⟩ := id HL.out
  have hb0 : Below w.heap.size w ((w.alloc (.cells #[.bool af, .int .i64 ar, .int .i64 ac, .int .i64 ah, .int .i64 aw] 32)).alloc (.cells #[.bool cf, .int .i64 cr, .int .i64 cl, .int .i64 ch, .int .i64 cw] 32)) := ((Below.refl _ _).alloc (Nat.le_refl _) _).alloc (by simp) _
  have hz0 : ((w.alloc (.cells #[.bool af, .int .i64 ar, .int .i64 ac, .int .i64 ah, .int .i64 aw] 32)).alloc (.cells #[.bool cf, .int .i64 cr, .int .i64 cl, .int .i64 ch, .int .i64 cw] 32)).heap[w.heap.size]? = some (.cells #[.bool af, .int .i64 ar, .int .i64 ac, .int .i64 ah, .int .i64 aw] 32 (0, 0)) := (Below.heap_alloc _ _ _ (by simp)).trans (World.alloc_heap_new w _)
  have hz1 : ((w.alloc (.cells #[.bool af, .int .i64 ar, .int .i64 ac, .int .i64 ah, .int .i64 aw] 32)).alloc (.cells #[.bool cf, .int .i64 cr, .int .i64 cl, .int .i64 ch, .int .i64 cw] 32)).heap[w.heap.size + 1]? = some (.cells #[.bool cf, .int .i64 cr, .int .i64 cl, .int .i64 ch, .int .i64 cw] 32 (0, 0)) := by
    simpa using World.alloc_heap_new (w.alloc (.cells #[.bool af, .int .i64 ar, .int .i64 ac, .int .i64 ah, .int .i64 aw] 32)) (.cells #[.bool cf, .int .i64 cr, .int .i64 cl, .int .i64 ch, .int .i64 cw] 32)
  obtain ⟨W0, hW0⟩ : ∃ W0, W0 = ((w.alloc (.cells #[.bool af, .int .i64 ar, .int .i64 ac, .int .i64 ah, .int .i64 aw] 32)).alloc (.cells #[.bool cf, .int .i64 cr, .int .i64 cl, .int .i64 ch, .int .i64 cw] 32)) := ⟨_, rfl⟩
  rw [← hW0] at hb0 hz0 hz1
  have HB0 := Lib.hid hb0
  have HZ0 := Lib.hid hz0
  have HZ1 := Lib.hid hz1
  have HW0 := Lib.hid hW0
  clear hb0 hz0 hz1 hW0
  go_enter Try.func7, Try.ntmps7
  go_wp2_with fail
  rw [← HW0.out]
  refine (awake_any _).mono ?_
  rintro e w1 ⟨rfl, hb1⟩
  have HB1 := Lib.hid (HB0.out.trans (hb1.mono HB0.out.size))
  have HY0 := Lib.hid ((hb1.block _ (Array.getElem?_eq_some_iff.1 HZ0.out).1).trans HZ0.out)
  have HY1 := Lib.hid ((hb1.block _ (Array.getElem?_eq_some_iff.1 HZ1.out).1).trans HZ1.out)
  clear hb1 HZ0 HZ1 HB0 HW0
  have hlt : ¬ (60 : Int) < ↑l.length := by omega
  obtain ⟨_, a1, a2, a3, a4⟩ := box5 HY0.out
  obtain ⟨_, b1, b2, b3, b4⟩ := box5 HY1.out
  go_wp2
  go_ret
  exact ⟨rfl, HB1.out⟩

set_option maxRecDepth 100000 in
set_option maxHeartbeats 8000000 in
theorem turned_e8 {w : World} (af : Bool) (ar ac ah aw : Int) (cf : Bool) (cr cl ch cw : Int) (v : Value) (l : List Pl) (HL : Hid (PairsAt w v l)) (hlen : l.length ≤ 60) (h0 : ¬ ar < 0) (h1 : ¬ ac < 0) (h2 : ¬ cr < 0) (h3 : ¬ cl < 0) (h4 : ¬ 12 < ar) (h5 : ¬ 12 < ac) (h6 : ¬ 12 < cr) (h7 : ¬ 12 < cl) (h8 : ah < 1) :
    Calls Try.prog 7 #[.agg #[.bool af, .int .i64 ar, .int .i64 ac, .int .i64 ah, .int .i64 aw], .agg #[.bool cf, .int .i64 cr, .int .i64 cl, .int .i64 ch, .int .i64 cw], v] w fun e w' => e = .returned (.bool true) ∧ Below w.heap.size w w' := by
  obtain ⟨A, cc, rfl, hcc, _⟩ := id HL.out
  have hb0 : Below w.heap.size w ((w.alloc (.cells #[.bool af, .int .i64 ar, .int .i64 ac, .int .i64 ah, .int .i64 aw] 32)).alloc (.cells #[.bool cf, .int .i64 cr, .int .i64 cl, .int .i64 ch, .int .i64 cw] 32)) := ((Below.refl _ _).alloc (Nat.le_refl _) _).alloc (by simp) _
  have hz0 : ((w.alloc (.cells #[.bool af, .int .i64 ar, .int .i64 ac, .int .i64 ah, .int .i64 aw] 32)).alloc (.cells #[.bool cf, .int .i64 cr, .int .i64 cl, .int .i64 ch, .int .i64 cw] 32)).heap[w.heap.size]? = some (.cells #[.bool af, .int .i64 ar, .int .i64 ac, .int .i64 ah, .int .i64 aw] 32 (0, 0)) := (Below.heap_alloc _ _ _ (by simp)).trans (World.alloc_heap_new w _)
  have hz1 : ((w.alloc (.cells #[.bool af, .int .i64 ar, .int .i64 ac, .int .i64 ah, .int .i64 aw] 32)).alloc (.cells #[.bool cf, .int .i64 cr, .int .i64 cl, .int .i64 ch, .int .i64 cw] 32)).heap[w.heap.size + 1]? = some (.cells #[.bool cf, .int .i64 cr, .int .i64 cl, .int .i64 ch, .int .i64 cw] 32 (0, 0)) := by
    simpa using World.alloc_heap_new (w.alloc (.cells #[.bool af, .int .i64 ar, .int .i64 ac, .int .i64 ah, .int .i64 aw] 32)) (.cells #[.bool cf, .int .i64 cr, .int .i64 cl, .int .i64 ch, .int .i64 cw] 32)
  obtain ⟨W0, hW0⟩ : ∃ W0, W0 = ((w.alloc (.cells #[.bool af, .int .i64 ar, .int .i64 ac, .int .i64 ah, .int .i64 aw] 32)).alloc (.cells #[.bool cf, .int .i64 cr, .int .i64 cl, .int .i64 ch, .int .i64 cw] 32)) := ⟨_, rfl⟩
  rw [← hW0] at hb0 hz0 hz1
  have HB0 := Lib.hid hb0
  have HZ0 := Lib.hid hz0
  have HZ1 := Lib.hid hz1
  have HW0 := Lib.hid hW0
  clear hb0 hz0 hz1 hW0
  go_enter Try.func7, Try.ntmps7
  go_wp2_with fail
  rw [← HW0.out]
  refine (awake_any _).mono ?_
  rintro e w1 ⟨rfl, hb1⟩
  have HB1 := Lib.hid (HB0.out.trans (hb1.mono HB0.out.size))
  have HY0 := Lib.hid ((hb1.block _ (Array.getElem?_eq_some_iff.1 HZ0.out).1).trans HZ0.out)
  have HY1 := Lib.hid ((hb1.block _ (Array.getElem?_eq_some_iff.1 HZ1.out).1).trans HZ1.out)
  clear hb1 HZ0 HZ1 HB0 HW0
  have hlt : ¬ (60 : Int) < ↑l.length := by omega
  obtain ⟨_, a1, a2, a3, a4⟩ := box5 HY0.out
  obtain ⟨_, b1, b2, b3, b4⟩ := box5 HY1.out
  go_wp2
  go_ret
  exact ⟨rfl, HB1.out⟩

set_option maxRecDepth 100000 in
set_option maxHeartbeats 8000000 in
theorem turned_e9 {w : World} (af : Bool) (ar ac ah aw : Int) (cf : Bool) (cr cl ch cw : Int) (v : Value) (l : List Pl) (HL : Hid (PairsAt w v l)) (hlen : l.length ≤ 60) (h0 : ¬ ar < 0) (h1 : ¬ ac < 0) (h2 : ¬ cr < 0) (h3 : ¬ cl < 0) (h4 : ¬ 12 < ar) (h5 : ¬ 12 < ac) (h6 : ¬ 12 < cr) (h7 : ¬ 12 < cl) (h8 : ¬ ah < 1) (h9 : aw < 1) :
    Calls Try.prog 7 #[.agg #[.bool af, .int .i64 ar, .int .i64 ac, .int .i64 ah, .int .i64 aw], .agg #[.bool cf, .int .i64 cr, .int .i64 cl, .int .i64 ch, .int .i64 cw], v] w fun e w' => e = .returned (.bool true) ∧ Below w.heap.size w w' := by
  obtain ⟨A, cc, rfl, hcc, _⟩ := id HL.out
  have hb0 : Below w.heap.size w ((w.alloc (.cells #[.bool af, .int .i64 ar, .int .i64 ac, .int .i64 ah, .int .i64 aw] 32)).alloc (.cells #[.bool cf, .int .i64 cr, .int .i64 cl, .int .i64 ch, .int .i64 cw] 32)) := ((Below.refl _ _).alloc (Nat.le_refl _) _).alloc (by simp) _
  have hz0 : ((w.alloc (.cells #[.bool af, .int .i64 ar, .int .i64 ac, .int .i64 ah, .int .i64 aw] 32)).alloc (.cells #[.bool cf, .int .i64 cr, .int .i64 cl, .int .i64 ch, .int .i64 cw] 32)).heap[w.heap.size]? = some (.cells #[.bool af, .int .i64 ar, .int .i64 ac, .int .i64 ah, .int .i64 aw] 32 (0, 0)) := (Below.heap_alloc _ _ _ (by simp)).trans (World.alloc_heap_new w _)
  have hz1 : ((w.alloc (.cells #[.bool af, .int .i64 ar, .int .i64 ac, .int .i64 ah, .int .i64 aw] 32)).alloc (.cells #[.bool cf, .int .i64 cr, .int .i64 cl, .int .i64 ch, .int .i64 cw] 32)).heap[w.heap.size + 1]? = some (.cells #[.bool cf, .int .i64 cr, .int .i64 cl, .int .i64 ch, .int .i64 cw] 32 (0, 0)) := by
    simpa using World.alloc_heap_new (w.alloc (.cells #[.bool af, .int .i64 ar, .int .i64 ac, .int .i64 ah, .int .i64 aw] 32)) (.cells #[.bool cf, .int .i64 cr, .int .i64 cl, .int .i64 ch, .int .i64 cw] 32)
  obtain ⟨W0, hW0⟩ : ∃ W0, W0 = ((w.alloc (.cells #[.bool af, .int .i64 ar, .int .i64 ac, .int .i64 ah, .int .i64 aw] 32)).alloc (.cells #[.bool cf, .int .i64 cr, .int .i64 cl, .int .i64 ch, .int .i64 cw] 32)) := ⟨_, rfl⟩
  rw [← hW0] at hb0 hz0 hz1
  have HB0 := Lib.hid hb0
  have HZ0 := Lib.hid hz0
  have HZ1 := Lib.hid hz1
  have HW0 := Lib.hid hW0
  clear hb0 hz0 hz1 hW0
  go_enter Try.func7, Try.ntmps7
  go_wp2_with fail
  rw [← HW0.out]
  refine (awake_any _).mono ?_
  rintro e w1 ⟨rfl, hb1⟩
  have HB1 := Lib.hid (HB0.out.trans (hb1.mono HB0.out.size))
  have HY0 := Lib.hid ((hb1.block _ (Array.getElem?_eq_some_iff.1 HZ0.out).1).trans HZ0.out)
  have HY1 := Lib.hid ((hb1.block _ (Array.getElem?_eq_some_iff.1 HZ1.out).1).trans HZ1.out)
  clear hb1 HZ0 HZ1 HB0 HW0
  have hlt : ¬ (60 : Int) < ↑l.length := by omega
  obtain ⟨_, a1, a2, a3, a4⟩ := box5 HY0.out
  obtain ⟨_, b1, b2, b3, b4⟩ := box5 HY1.out
  go_wp2
  go_ret
  exact ⟨rfl, HB1.out⟩

set_option maxRecDepth 100000 in
set_option maxHeartbeats 8000000 in
theorem turned_e10 {w : World} (af : Bool) (ar ac ah aw : Int) (cf : Bool) (cr cl ch cw : Int) (v : Value) (l : List Pl) (HL : Hid (PairsAt w v l)) (hlen : l.length ≤ 60) (h0 : ¬ ar < 0) (h1 : ¬ ac < 0) (h2 : ¬ cr < 0) (h3 : ¬ cl < 0) (h4 : ¬ 12 < ar) (h5 : ¬ 12 < ac) (h6 : ¬ 12 < cr) (h7 : ¬ 12 < cl) (h8 : ¬ ah < 1) (h9 : ¬ aw < 1) (h10 : ch < 1) :
    Calls Try.prog 7 #[.agg #[.bool af, .int .i64 ar, .int .i64 ac, .int .i64 ah, .int .i64 aw], .agg #[.bool cf, .int .i64 cr, .int .i64 cl, .int .i64 ch, .int .i64 cw], v] w fun e w' => e = .returned (.bool true) ∧ Below w.heap.size w w' := by
  obtain ⟨A, cc, rfl, hcc, _⟩ := id HL.out
  have hb0 : Below w.heap.size w ((w.alloc (.cells #[.bool af, .int .i64 ar, .int .i64 ac, .int .i64 ah, .int .i64 aw] 32)).alloc (.cells #[.bool cf, .int .i64 cr, .int .i64 cl, .int .i64 ch, .int .i64 cw] 32)) := ((Below.refl _ _).alloc (Nat.le_refl _) _).alloc (by simp) _
  have hz0 : ((w.alloc (.cells #[.bool af, .int .i64 ar, .int .i64 ac, .int .i64 ah, .int .i64 aw] 32)).alloc (.cells #[.bool cf, .int .i64 cr, .int .i64 cl, .int .i64 ch, .int .i64 cw] 32)).heap[w.heap.size]? = some (.cells #[.bool af, .int .i64 ar, .int .i64 ac, .int .i64 ah, .int .i64 aw] 32 (0, 0)) := (Below.heap_alloc _ _ _ (by simp)).trans (World.alloc_heap_new w _)
  have hz1 : ((w.alloc (.cells #[.bool af, .int .i64 ar, .int .i64 ac, .int .i64 ah, .int .i64 aw] 32)).alloc (.cells #[.bool cf, .int .i64 cr, .int .i64 cl, .int .i64 ch, .int .i64 cw] 32)).heap[w.heap.size + 1]? = some (.cells #[.bool cf, .int .i64 cr, .int .i64 cl, .int .i64 ch, .int .i64 cw] 32 (0, 0)) := by
    simpa using World.alloc_heap_new (w.alloc (.cells #[.bool af, .int .i64 ar, .int .i64 ac, .int .i64 ah, .int .i64 aw] 32)) (.cells #[.bool cf, .int .i64 cr, .int .i64 cl, .int .i64 ch, .int .i64 cw] 32)
  obtain ⟨W0, hW0⟩ : ∃ W0, W0 = ((w.alloc (.cells #[.bool af, .int .i64 ar, .int .i64 ac, .int .i64 ah, .int .i64 aw] 32)).alloc (.cells #[.bool cf, .int .i64 cr, .int .i64 cl, .int .i64 ch, .int .i64 cw] 32)) := ⟨_, rfl⟩
  rw [← hW0] at hb0 hz0 hz1
  have HB0 := Lib.hid hb0
  have HZ0 := Lib.hid hz0
  have HZ1 := Lib.hid hz1
  have HW0 := Lib.hid hW0
  clear hb0 hz0 hz1 hW0
  go_enter Try.func7, Try.ntmps7
  go_wp2_with fail
  rw [← HW0.out]
  refine (awake_any _).mono ?_
  rintro e w1 ⟨rfl, hb1⟩
  have HB1 := Lib.hid (HB0.out.trans (hb1.mono HB0.out.size))
  have HY0 := Lib.hid ((hb1.block _ (Array.getElem?_eq_some_iff.1 HZ0.out).1).trans HZ0.out)
  have HY1 := Lib.hid ((hb1.block _ (Array.getElem?_eq_some_iff.1 HZ1.out).1).trans HZ1.out)
  clear hb1 HZ0 HZ1 HB0 HW0
  have hlt : ¬ (60 : Int) < ↑l.length := by omega
  obtain ⟨_, a1, a2, a3, a4⟩ := box5 HY0.out
  obtain ⟨_, b1, b2, b3, b4⟩ := box5 HY1.out
  go_wp2
  go_ret
  exact ⟨rfl, HB1.out⟩
end Go.Proofs.Ytdeneogbnmedkaa
