/- build of a function without a state; Turn, Part, Beside. -/
import Derived.Test.YtfgddhabepllfaaDoorL
namespace Go.Proofs.YtfgddhabepllfaaDoor
open Go.RowKit

def PureI (B : Nat) (w0 : World) : Nat → (Nat → Prop) → World → Prop := fun _ S w => (∀ k, S k ↔ k < B) ∧ Below B w0 w ∧ B ≤ w.heap.size
theorem pure_gen {B R C : Nat} {w0 : World} {F : Nat → Nat → Vl} {N : Nat} {caps : Array Value} (hent : ∀ args w, (callFunc N args).run Tryd.prog w = .ok (.enter N args) w)
    (h : ∀ i j W, i < R → j < C → Below B w0 W → Calls Tryd.prog N (#[.int .i64 (i : Int), .int .i64 (j : Int)] ++ caps) W fun e w' => e = .returned (vV (F i j)) ∧ Below W.heap.size W w') : Gen (PureI B w0) R C F N caps := by
  refine ⟨hent, fun n S w hI k hk => ?_, fun n S w w' hI hO => ?_, fun i j S w hi hj hI => ?_⟩
  · have := (hI.1 k).1 hk
    have := hI.2.2
    omega
  · obtain ⟨h1, h2, h3⟩ := hI
    refine ⟨h1, ⟨hO.os.trans h2.os, hO.tape.trans h2.tape, hO.output.trans h2.output, Nat.le_trans h2.size hO.size, fun k hk => ?_⟩, Nat.le_trans h3 hO.size⟩
    exact (hO.block k (by omega) (fun hn => hn ((h1 k).2 hk))).trans (h2.block k hk)
  · obtain ⟨h1, h2, h3⟩ := hI
    refine (h i j w hi hj h2).mono ?_
    rintro e w' ⟨he, hb⟩
    exact ⟨he, S, ⟨h1, h2.trans (hb.mono h3), Nat.le_trans h3 hb.size⟩, (Only.of_below hb).mono (fun b h4 h5 => by omega), fun k hk => .inl hk⟩
theorem build_pure {R C : Nat} {F : Nat → Nat → Vl} {N : Nat} {caps : Array Value} (hRC : R * C ≤ 4096) (hR : R ≤ 4096) (hC : C ≤ 4096) (w : World) (hent : ∀ args w, (callFunc N args).run Tryd.prog w = .ok (.enter N args) w)
    (h : ∀ i j W, i < R → j < C → Below w.heap.size w W → Calls Tryd.prog N (#[.int .i64 (i : Int), .int .i64 (j : Int)] ++ caps) W fun e w' => e = .returned (vV (F i j)) ∧ Below W.heap.size W w') :
    Calls Tryd.prog 55 #[.int .i64 (R : Int), .int .i64 (C : Int), .func (.func N) #[] caps] w (ArOut w ⟨R, C, bld R C F⟩) := by
  refine (build_any (pure_gen hent h) hRC hR hC (fun k => k < w.heap.size) w ⟨fun k => Iff.rfl, Below.refl _ _, Nat.le_refl _⟩).mono ?_
  rintro e w' ⟨v, S', he, hv, hI, hO, _⟩
  exact ⟨v, he, hv, hI.2.1⟩
/-- an array that may be, in natural numbers -/
theorem right_dims {r c : Int} {l : List Vl} (h : rightA ⟨r, c, l⟩ = true) : ∃ R C : Nat, r = (R : Int) ∧ c = (C : Int) ∧ l.length = R * C ∧ R * C ≤ 4096 ∧ R ≤ 4096 ∧ C ≤ 4096 ∧ 1 ≤ R ∧ 1 ≤ C ∧ l.all rightV = true := by
  unfold rightA at h
  rw [Bool.and_eq_true, Bool.and_eq_true] at h
  obtain ⟨h1, h2, h3⟩ := h
  obtain ⟨g1, g2, g3, g4, g5⟩ := fitsB_iff.1 h1
  have g6 := of_decide_eq_true h2
  simp only at g1 g2 g3 g4 g5 g6
  obtain ⟨R, rfl⟩ := Int.eq_ofNat_of_zero_le (show 0 ≤ r by omega)
  obtain ⟨C, rfl⟩ := Int.eq_ofNat_of_zero_le (show 0 ≤ c by omega)
  rw [← Int.natCast_mul] at g5 g6
  exact ⟨R, C, rfl, rfl, by omega, by omega, by omega, by omega, by omega, by omega, h3⟩
set_option maxRecDepth 100000 in
set_option maxHeartbeats 2000000 in
theorem turn_any {R C n : Nat} {l : List Vl} {v : Value} (hr : rightA ⟨R, C, l⟩ = true) (hwf : WfL l) (w : World) (he : Env w) (hn : n ≤ w.heap.size) (hv : ValAt n w v l) :
    Calls Tryd.prog 23 #[arV R C v] w (ArOut w ⟨C, R, turnL R C l⟩) := by
  obtain ⟨R', C', e1, e2, hl, hRC, hR, hC, _, _, _⟩ := right_dims hr
  obtain rfl : R = R' := by omega
  obtain rfl : C = C' := by omega
  clear e1 e2
  obtain ⟨Q, hQ⟩ : ∃ Q, ArOut w ⟨C, R, turnL R C l⟩ = Q := ⟨_, rfl⟩
  rw [hQ]
  have HQ := Lib.hid hQ
  have hb0 : Below w.heap.size w ((w.alloc (.cells #[.int .i64 (R : Int), .int .i64 (C : Int), v] 25)).alloc (.cells #[.int .i64 0, .int .i64 0, .slice none 0 0] 25)) := ((Below.refl _ _).alloc (Nat.le_refl _) _).alloc (by simp) _
  have hx0 : ((w.alloc (.cells #[.int .i64 (R : Int), .int .i64 (C : Int), v] 25)).alloc (.cells #[.int .i64 0, .int .i64 0, .slice none 0 0] 25)).heap[w.heap.size]? = some (.cells #[.int .i64 (R : Int), .int .i64 (C : Int), v] 25 (0, 0)) := (Below.heap_alloc _ _ _ (by simp)).trans (heap_alloc_new w _)
  have hx1 : ((w.alloc (.cells #[.int .i64 (R : Int), .int .i64 (C : Int), v] 25)).alloc (.cells #[.int .i64 0, .int .i64 0, .slice none 0 0] 25)).heap[w.heap.size + 1]? = some (.cells #[.int .i64 0, .int .i64 0, .slice none 0 0] 25 (0, 0)) := by
    have := heap_alloc_new (w.alloc (.cells #[.int .i64 (R : Int), .int .i64 (C : Int), v] 25)) (.cells #[.int .i64 0, .int .i64 0, .slice none 0 0] 25)
    rwa [World.size_alloc] at this
  have HR := Lib.hid (fun W (hW : Below w.heap.size w W) => righta_any n R C v l (by omega) hwf W (Nat.le_trans hn hW.size) (hv.below (hW.mono hn)) (he.below hW))
  rw [hr] at HR
  have HT := Lib.hid (fun i j b W (hi : i < C) (hj : j < R) (hW : Below w.heap.size w W) hbx => turn1_any hi hj hl hRC W (Nat.le_trans hn hW.size) hbx (hv.below (hW.mono hn)) (b := b))
  have HRC := Lib.hid (And.intro hRC (And.intro hR hC))
  have HX0 := Lib.hid hx0
  have HX1 := Lib.hid hx1
  have HB0 := Lib.hid hb0
  obtain ⟨A, cp, rfl, _⟩ := id hv
  have hmf : ∀ (fn : Fn) (first cap : Array Value) (w : World), (Instr.makeFunc fn first cap).run Tryd.prog w = .ok (.func fn first cap) w := fun _ _ _ _ => rfl
  clear hQ hb0 hx0 hx1 hr hwf hl hRC hR hC he hn hv
  unfold arV at *
  go_enter Tryd.func23, Tryd.ntmps23
  go_wp2_with fail
  refine (HR.out _ HB0.out).mono ?_
  rintro e w1 ⟨rfl, hb1⟩
  have hx := box_kept HX0.out hb1 (Nat.le_refl _)
  have HX := Lib.hid hx
  have HY := Lib.hid (box_kept HX1.out hb1 (Nat.le_refl _))
  have HB1 := Lib.hid (HB0.out.trans (hb1.mono HB0.out.size))
  obtain ⟨c0, c1, c2, _⟩ := box3 hx
  clear hb1 hx
  go_wp2_with fail
  have hbld := build_pure (R := C) (C := R) (N := 56) (caps := #[.pointer (some ⟨w.heap.size, 0, none⟩)]) (F := fun i j => gt l (j * C + i)) (by rw [Nat.mul_comm]; exact HRC.out.1) HRC.out.2.2 HRC.out.2.1 w1 (enters_of Tryd.func56 (by kernel_rfl) rfl) (fun i j W hi hj hW => HT.out i j _ W hi hj (HB1.out.trans (hW.mono HB1.out.size)) (box_kept HX.out hW (Nat.le_refl _)))
  obtain ⟨L, hL⟩ : ∃ L, turnL R C l = L := ⟨_, rfl⟩
  rw [show bld C R (fun i j => gt l (j * C + i)) = turnL R C l from rfl, hL] at hbld
  rw [hL] at HQ
  clear hL
  refine hbld.mono ?_
  clear hbld
  rintro e w2 ⟨v2, rfl, hv2, hb2⟩
  have HB2 := Lib.hid (HB1.out.trans (hb2.mono HB1.out.size))
  have hy2 := box_kept HY.out hb2 (Nat.le_refl _)
  have HY2 := Lib.hid hy2
  obtain ⟨d0, d1, d2, f0, f1, f2⟩ := box3 hy2
  have HV := Lib.hid hv2
  obtain ⟨A2, cp2, rfl, _⟩ := id hv2
  clear hb2 hy2 hv2 c0 c1 c2
  unfold arV
  go_wp2
  obtain ⟨r0, r1, r2, _⟩ := box3 (set3 (.int .i64 (C : Int)) (.int .i64 (R : Int)) (.slice A2 L.length cp2) HY2.out)
  have hfin := ArOut.store (w := w) (a := ⟨C, R, L⟩) HV.out HB2.out HY2.out (by omega)
  rw [HQ.out] at hfin
  exact bodyPost_ret (v := arV C R (.slice A2 L.length cp2)) (by simp [results, Tryd.f23, go_sem, arV, r0, r1, r2]) rfl hfin
end Go.Proofs.YtfgddhabepllfaaDoor
