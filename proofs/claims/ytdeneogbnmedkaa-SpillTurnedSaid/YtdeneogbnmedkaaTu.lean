/- The law SpillTurned. -/
import Derived.Test.YtdeneogbnmedkaaTa
import Derived.Test.YtdeneogbnmedkaaTb
import Derived.Test.YtdeneogbnmedkaaTc
import Derived.Test.YtdeneogbnmedkaaTd
import Derived.Test.YtdeneogbnmedkaaTe
namespace Go.Proofs.Ytdeneogbnmedkaa
open Go.RowKit Go.Maps
set_option maxRecDepth 100000 in
set_option maxHeartbeats 4000000 in
theorem turned_long {w : World} (af : Bool) (ar ac ah aw : Int) (cf : Bool) (cr cl ch cw : Int) (v : Value) (l : List Pl) (HL : Hid (PairsAt w v l)) (hlen : ¬ l.length ≤ 60) :
    Calls Try.prog 7 #[.agg #[.bool af, .int .i64 ar, .int .i64 ac, .int .i64 ah, .int .i64 aw], .agg #[.bool cf, .int .i64 cr, .int .i64 cl, .int .i64 ch, .int .i64 cw], v] w fun e w' => e = .returned (.bool true) ∧ Below w.heap.size w w' := by
  obtain ⟨A, cc, rfl, hcc, _⟩ := id HL.out
  have hb0 : Below w.heap.size w ((w.alloc (.cells #[.bool af, .int .i64 ar, .int .i64 ac, .int .i64 ah, .int .i64 aw] 32)).alloc (.cells #[.bool cf, .int .i64 cr, .int .i64 cl, .int .i64 ch, .int .i64 cw] 32)) := ((Below.refl _ _).alloc (Nat.le_refl _) _).alloc (by simp) _
  have hz0 : ((w.alloc (.cells #[.bool af, .int .i64 ar, .int .i64 ac, .int .i64 ah, .int .i64 aw] 32)).alloc (.cells #[.bool cf, .int .i64 cr, .int .i64 cl, .int .i64 ch, .int .i64 cw] 32)).heap[w.heap.size]? = some (.cells #[.bool af, .int .i64 ar, .int .i64 ac, .int .i64 ah, .int .i64 aw] 32 (0, 0)) := (Below.heap_alloc _ _ _ (by simp)).trans (World.alloc_heap_new w _)
  have hz1 : ((w.alloc (.cells #[.bool af, .int .i64 ar, .int .i64 ac, .int .i64 ah, .int .i64 aw] 32)).alloc (.cells #[.bool cf, .int .i64 cr, .int .i64 cl, .int .i64 ch, .int .i64 cw] 32)).heap[w.heap.size + 1]? = some (.cells #[.bool cf, .int .i64 cr, .int .i64 cl, .int .i64 ch, .int .i64 cw] 32 (0, 0)) := by
    simpa using World.alloc_heap_new (w.alloc (.cells #[.bool af, .int .i64 ar, .int .i64 ac, .int .i64 ah, .int .i64 aw] 32)) (.cells #[.bool cf, .int .i64 cr, .int .i64 cl, .int .i64 ch, .int .i64 cw] 32)
  obtain ⟨W0, hW0⟩ : ∃ W0, W0 = ((w.alloc (.cells #[.bool af, .int .i64 ar, .int .i64 ac, .int .i64 ah, .int .i64 aw] 32)).alloc (.cells #[.bool cf, .int .i64 cr, .int .i64 cl, .int .i64 ch, .int .i64 cw] 32)) := ⟨_, rfl⟩
  rw [← hW0] at hb0 hz0 hz1
  have HB0 := Lib.hid hb0
  have HZ0 := Lib.hid hz0
  have HZ1 := Lib.hid hz1
  have HW0 := Lib.hid hW0
  clear hb0 hz0 hz1 hW0
  go_enter Try.func7, Try.ntmps7
  go_wp2_with fail
  rw [← HW0.out]
  refine (awake_any _).mono ?_
  rintro e w1 ⟨rfl, hb1⟩
  have HB1 := Lib.hid (HB0.out.trans (hb1.mono HB0.out.size))
  have HY0 := Lib.hid ((hb1.block _ (Array.getElem?_eq_some_iff.1 HZ0.out).1).trans HZ0.out)
  have HY1 := Lib.hid ((hb1.block _ (Array.getElem?_eq_some_iff.1 HZ1.out).1).trans HZ1.out)
  clear hb1 HZ0 HZ1 HB0 HW0
  have hlt : (60 : Int) < ↑l.length := by omega
  go_wp2_with fail
  refine (awake_any _).mono ?_
  rintro e w2 ⟨rfl, hb2⟩
  have HB2 := Lib.hid (HB1.out.trans (hb2.mono HB1.out.size))
  clear hb2
  go_wp2
  go_ret
  exact ⟨rfl, HB2.out⟩
theorem turned_law {w : World} (ap : ActP) (haw : WfA ap) (cp : ActP) (hcw : WfA cp) (v : Value) (l : List Pl) (hl : PairsAt w v l) (hlb : ∀ d ∈ l, Byte2 d) :
    Calls Try.prog 7 #[actV ap, actV cp, v] w fun e w' => e = .returned (.bool true) ∧ Below w.heap.size w w' := by
  obtain ⟨af, ar, ac, ah, aw⟩ := ap
  obtain ⟨cf, cr, cl, ch, cw⟩ := cp
  unfold actV
  by_cases hlen : l.length ≤ 60
  · by_cases h0 : ar < 0
    · exact turned_e0 af ar ac ah aw cf cr cl ch cw v l (Lib.hid hl) hlen h0
    by_cases h1 : ac < 0
    · exact turned_e1 af ar ac ah aw cf cr cl ch cw v l (Lib.hid hl) hlen h0 h1
    by_cases h2 : cr < 0
    · exact turned_e2 af ar ac ah aw cf cr cl ch cw v l (Lib.hid hl) hlen h0 h1 h2
    by_cases h3 : cl < 0
    · exact turned_e3 af ar ac ah aw cf cr cl ch cw v l (Lib.hid hl) hlen h0 h1 h2 h3
    by_cases h4 : 12 < ar
    · exact turned_e4 af ar ac ah aw cf cr cl ch cw v l (Lib.hid hl) hlen h0 h1 h2 h3 h4
    by_cases h5 : 12 < ac
    · exact turned_e5 af ar ac ah aw cf cr cl ch cw v l (Lib.hid hl) hlen h0 h1 h2 h3 h4 h5
    by_cases h6 : 12 < cr
    · exact turned_e6 af ar ac ah aw cf cr cl ch cw v l (Lib.hid hl) hlen h0 h1 h2 h3 h4 h5 h6
    by_cases h7 : 12 < cl
    · exact turned_e7 af ar ac ah aw cf cr cl ch cw v l (Lib.hid hl) hlen h0 h1 h2 h3 h4 h5 h6 h7
    by_cases h8 : ah < 1
    · exact turned_e8 af ar ac ah aw cf cr cl ch cw v l (Lib.hid hl) hlen h0 h1 h2 h3 h4 h5 h6 h7 h8
    by_cases h9 : aw < 1
    · exact turned_e9 af ar ac ah aw cf cr cl ch cw v l (Lib.hid hl) hlen h0 h1 h2 h3 h4 h5 h6 h7 h8 h9
    by_cases h10 : ch < 1
    · exact turned_e10 af ar ac ah aw cf cr cl ch cw v l (Lib.hid hl) hlen h0 h1 h2 h3 h4 h5 h6 h7 h8 h9 h10
    by_cases h11 : cw < 1
    · exact turned_e11 af ar ac ah aw cf cr cl ch cw v l (Lib.hid hl) hlen h0 h1 h2 h3 h4 h5 h6 h7 h8 h9 h10 h11
    by_cases h12 : 12 < ah
    · exact turned_e12 af ar ac ah aw cf cr cl ch cw v l (Lib.hid hl) hlen h0 h1 h2 h3 h4 h5 h6 h7 h8 h9 h10 h11 h12
    by_cases h13 : 12 < aw
    · exact turned_e13 af ar ac ah aw cf cr cl ch cw v l (Lib.hid hl) hlen h0 h1 h2 h3 h4 h5 h6 h7 h8 h9 h10 h11 h12 h13
    by_cases h14 : 12 < ch
    · exact turned_e14 af ar ac ah aw cf cr cl ch cw v l (Lib.hid hl) hlen h0 h1 h2 h3 h4 h5 h6 h7 h8 h9 h10 h11 h12 h13 h14
    by_cases h15 : 12 < cw
    · exact turned_e15 af ar ac ah aw cf cr cl ch cw v l (Lib.hid hl) hlen h0 h1 h2 h3 h4 h5 h6 h7 h8 h9 h10 h11 h12 h13 h14 h15
    by_cases k0 : ar < cr + ch
    rotate_left
    · exact turned_a0 af ar ac ah aw cf cr cl ch cw (Lib.hid haw.1) (Lib.hid hcw.1) v l (Lib.hid hl) (Lib.hid hlb) hlen h0 h1 h2 h3 h4 h5 h6 h7 h8 h9 h10 h11 h12 h13 h14 h15 k0
    by_cases k1 : cr < ar + ah
    rotate_left
    · exact turned_a1 af ar ac ah aw cf cr cl ch cw (Lib.hid haw.1) (Lib.hid hcw.1) v l (Lib.hid hl) (Lib.hid hlb) hlen h0 h1 h2 h3 h4 h5 h6 h7 h8 h9 h10 h11 h12 h13 h14 h15 k0 k1
    by_cases k2 : ac < cl + cw
    rotate_left
    · exact turned_a2 af ar ac ah aw cf cr cl ch cw (Lib.hid haw.1) (Lib.hid hcw.1) v l (Lib.hid hl) (Lib.hid hlb) hlen h0 h1 h2 h3 h4 h5 h6 h7 h8 h9 h10 h11 h12 h13 h14 h15 k0 k1 k2
    by_cases k3 : cl < ac + aw
    rotate_left
    · exact turned_a3 af ar ac ah aw cf cr cl ch cw (Lib.hid haw.1) (Lib.hid hcw.1) v l (Lib.hid hl) (Lib.hid hlb) hlen h0 h1 h2 h3 h4 h5 h6 h7 h8 h9 h10 h11 h12 h13 h14 h15 k0 k1 k2 k3
    exact turned_meet af ar ac ah aw cf cr cl ch cw v l (Lib.hid hl) hlen h0 h1 h2 h3 h4 h5 h6 h7 h8 h9 h10 h11 h12 h13 h14 h15 k0 k1 k2 k3
  · exact turned_long af ar ac ah aw cf cr cl ch cw v l (Lib.hid hl) hlen
end Go.Proofs.Ytdeneogbnmedkaa
