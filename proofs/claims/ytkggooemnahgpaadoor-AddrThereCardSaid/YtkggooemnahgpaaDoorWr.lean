/- Walk over the document's Absolute. -/
import Derived.Test.YtkggooemnahgpaaDoorWq
namespace Go.Proofs.YtkggooemnahgpaaDoor
open Go.RowKit

/-- absL behind the 'R', at a right place -/
def absT (u : List UInt8) (pr pc : Int) : Option (Int × Int × Bool × Bool) :=
  match splitC u with
  | none => none
  | some (a, b) => match halfL a pr with
    | none => none
    | some (r, fr) => match halfL b pc with
      | none => none
      | some (c, fc) => if rightB r c then some (r, c, fr, fc) else none

theorem size_set (w : World) (p : Addr) (v : Value) : (w.setCell p v).heap.size = w.heap.size := by simp [World.setCell]
theorem cells_back (w : World) (n : Nat) (hn : n < w.heap.size) (a b c d x y z t : Value) (o : Obj) (c0 : w.cell? ⟨n, 0, none⟩ = some x) (c1 : w.cell? ⟨n, 1, none⟩ = some y) (c2 : w.cell? ⟨n, 2, none⟩ = some z) (c3 : w.cell? ⟨n, 3, none⟩ = some t) :
    (((((w.setCell ⟨n, 0, none⟩ a).setCell ⟨n, 1, none⟩ b).setCell ⟨n, 2, none⟩ c).setCell ⟨n, 3, none⟩ d).alloc o).cell? ⟨n, 0, none⟩ = some a ∧
    (((((w.setCell ⟨n, 0, none⟩ a).setCell ⟨n, 1, none⟩ b).setCell ⟨n, 2, none⟩ c).setCell ⟨n, 3, none⟩ d).alloc o).cell? ⟨n, 1, none⟩ = some b ∧
    (((((w.setCell ⟨n, 0, none⟩ a).setCell ⟨n, 1, none⟩ b).setCell ⟨n, 2, none⟩ c).setCell ⟨n, 3, none⟩ d).alloc o).cell? ⟨n, 2, none⟩ = some c ∧
    (((((w.setCell ⟨n, 0, none⟩ a).setCell ⟨n, 1, none⟩ b).setCell ⟨n, 2, none⟩ c).setCell ⟨n, 3, none⟩ d).alloc o).cell? ⟨n, 3, none⟩ = some d := by
  have hs : n < ((((w.setCell ⟨n, 0, none⟩ a).setCell ⟨n, 1, none⟩ b).setCell ⟨n, 2, none⟩ c).setCell ⟨n, 3, none⟩ d).heap.size := by
    simp only [size_set]; exact hn
  refine ⟨?_, ?_, ?_, ?_⟩
  all_goals rw [World.cell?_alloc_past _ _ _ hs]
  all_goals simp [go_sem, c0, c1, c2, c3]

theorem below_any4 {B : Nat} {w w1 : World} (hb : Below B w w1) (n : Nat) (h : B ≤ n) (a b c d : Value) : Below B w ((((w1.setCell ⟨n, 0, none⟩ a).setCell ⟨n, 1, none⟩ b).setCell ⟨n, 2, none⟩ c).setCell ⟨n, 3, none⟩ d) :=
  below_sets hb a b c d h

set_option maxHeartbeats 1600000 in
set_option maxRecDepth 100000 in
theorem rabs_place (s : ByteArray) (pr pc : Int) (w : World) (hr : rightB pr pc = false) :
    Calls Tryd.prog 21 #[.string s, .int .i64 pr, .int .i64 pc] w fun e w' => e = .returned (parseR none) ∧ Below w.heap.size w w' := by
  go_enter Tryd.func21, Tryd.ntmps21
  go_wp2_with fail
  refine (rright_any pr pc false false _).mono ?_
  rw [hr]
  rintro e w1 ⟨rfl, hb1⟩
  obtain ⟨c0, c1, c2, c3, f0, f1, f2, f3, hz⟩ := four hb1
  have HB := below4 hb1
  clear hb1
  go_wp2_with fail
  refine bodyPost_ret (v := .tuple #[.agg #[.int .i64 0, .int .i64 0, .bool false, .bool false], .bool false]) (by simp [results, Tryd.results21, go_sem, c0, c1, c2, c3]) rfl ⟨rfl, ?_⟩
  exact below_sets HB _ _ _ _

set_option maxHeartbeats 1600000 in
set_option maxRecDepth 100000 in
theorem rabs_short (s : ByteArray) (pr pc : Int) (w : World) (hr : rightB pr pc = true) (hs : s.size < 2) :
    Calls Tryd.prog 21 #[.string s, .int .i64 pr, .int .i64 pc] w fun e w' => e = .returned (parseR none) ∧ Below w.heap.size w w' := by
  go_enter Tryd.func21, Tryd.ntmps21
  go_wp2_with fail
  refine (rright_any pr pc false false _).mono ?_
  rw [hr]
  rintro e w1 ⟨rfl, hb1⟩
  obtain ⟨c0, c1, c2, c3, f0, f1, f2, f3, hz⟩ := four hb1
  have HB := below4 hb1
  clear hb1
  go_wp2_with fail
  refine bodyPost_ret (v := .tuple #[.agg #[.int .i64 0, .int .i64 0, .bool false, .bool false], .bool false]) (by simp [results, Tryd.results21, go_sem, c0, c1, c2, c3]) rfl ⟨rfl, ?_⟩
  exact below_sets HB _ _ _ _

set_option maxHeartbeats 1600000 in
set_option maxRecDepth 100000 in
theorem rabs_head (s : ByteArray) (pr pc : Int) (w : World) (hr : rightB pr pc = true) (hs : 2 ≤ s.size) (e0 : ((s[0].toNat : Int) == 82) = false) :
    Calls Tryd.prog 21 #[.string s, .int .i64 pr, .int .i64 pc] w fun e w' => e = .returned (parseR none) ∧ Below w.heap.size w w' := by
  have e1 : ((s[0].toNat : Int) != 82) = true := by rw [bne, e0]; rfl
  clear e0
  go_enter Tryd.func21, Tryd.ntmps21
  go_wp2_with fail
  refine (rright_any pr pc false false _).mono ?_
  rw [hr]
  rintro e w1 ⟨rfl, hb1⟩
  obtain ⟨c0, c1, c2, c3, f0, f1, f2, f3, hz⟩ := four hb1
  have HB := below4 hb1
  clear hb1
  go_wp2_with fail
  refine bodyPost_ret (v := .tuple #[.agg #[.int .i64 0, .int .i64 0, .bool false, .bool false], .bool false]) (by simp [results, Tryd.results21, go_sem, c0, c1, c2, c3]) rfl ⟨rfl, ?_⟩
  exact below_sets HB _ _ _ _

theorem ext_len (s : ByteArray) (i j : Nat) (h : s.size ≤ 1000) : (s.extract i j).size ≤ 1000 := by
  have := congrArg List.length (Lib.extract_data s i j)
  rw [size_list, List.length_take, List.length_drop, size_list] at this
  omega

set_option maxHeartbeats 6400000 in
set_option maxRecDepth 100000 in
theorem rabs_loop (s : ByteArray) (pr pc : Int) (w : World) (hs1 : s.size ≤ 1000) (hr : rightB pr pc = true) (hs : 2 ≤ s.size) (e0 : ((s[0].toNat : Int) == 82) = true) (O : Option (Int × Int × Bool × Bool)) (hO : absT (s.data.toList.drop 1) pr pc = O) :
    Calls Tryd.prog 21 #[.string s, .int .i64 pr, .int .i64 pc] w fun e w' => e = .returned (parseR O) ∧ Below w.heap.size w w' := by
  have HO := Lib.hid hO
  clear hO
  have hpl : 0 ≤ pr ∧ pr ≤ 9999998 ∧ 0 ≤ pc ∧ pc ≤ 18277 := by simpa [rightB] using hr
  obtain ⟨p1, p2, p3, p4⟩ := hpl
  have e1 : ((s[0].toNat : Int) != 82) = false := by rw [bne, e0]; rfl
  clear e0
  go_enter Tryd.func21, Tryd.ntmps21
  go_wp2_with fail
  refine (rright_any pr pc false false _).mono ?_
  rw [hr]
  rintro e w1 ⟨rfl, hb1⟩
  obtain ⟨c0, c1, c2, c3, f0, f1, f2, f3, hz⟩ := four hb1
  have HB := below4 hb1
  clear hb1
  go_wp2_with fail
  go_loop [8] (fun i => ∃ p : Nat, i = .int .i64 p ∧ 1 ≤ p ∧ p ≤ s.size ∧ ∀ b ∈ (s.data.toList.drop 1).take (p - 1), b ≠ 67) (fun i => s.size - (intOf i).toNat)
  case atStart => exact ⟨1, rfl, Nat.le_refl _, by omega, by simp⟩
  case round =>
    obtain ⟨p, rfl, hp1, hp2, hno⟩ := hrel
    have HN := Lib.hid hno
    clear hno
    by_cases hlt : p < s.size
    · by_cases hc : (s[p]).toNat = 67
      · have hj : p - 1 < (s.data.toList.drop 1).length := by rw [List.length_drop, size_list]; omega
        have hat : (s.data.toList.drop 1)[p - 1]'hj = 67 := by
          rw [List.getElem_drop]
          have h1 : s.data.toList[p]'(by rw [size_list]; exact hlt) = 67 := by rw [get_list s p hlt]; exact UInt8.toNat_inj.1 hc
          rw [← h1]
          congr 1
          omega
        have hsp := splitC_at _ (p - 1) hj HN.out hat
        have ha : (s.extract 1 p).data.toList = (s.data.toList.drop 1).take (p - 1) := Lib.extract_data s 1 p
        have hb : (s.extract (p + 1) s.size).data.toList = (s.data.toList.drop 1).drop (p - 1 + 1) := by
          rw [Lib.extract_data, List.drop_drop, show 1 + (p - 1 + 1) = p + 1 by omega]
          apply List.take_of_length_le
          rw [List.length_drop, size_list]; omega
        rw [← ha, ← hb] at hsp
        clear ha hb hat hj
        have HSP := Lib.hid hsp
        clear hsp
        have hne : ((p : Int) == (s.size : Int)) = false := by rw [beq_eq_false_iff_ne]; omega
        have hbc : (((s[p]).toNat : Int) == 67) = true := by rw [beq_iff_eq]; omega
        have la := ext_len s 1 p hs1
        have lb := ext_len s (p + 1) s.size hs1
        clear hc
        cases h1 : halfL (s.extract 1 p).data.toList pr with
        | none =>
          cases h2 : halfL (s.extract (p + 1) s.size).data.toList pc with
          | none =>
            have hres : O = none := by rw [← HO.out]; unfold absT; rw [HSP.out]; simp only [h1]
            have HR := Lib.hid hres
            have H1 := Lib.hid h1
            have H2 := Lib.hid h2
            clear hres h1 h2
            go_wp2_with fail
            refine (rhalf_none (s.extract 1 p) pr p1 p2 la _ H1.out).mono ?_
            rintro e w2 ⟨r, fr, rfl, hb2⟩
            obtain ⟨d0, d1, d2, d3, g0, g1, g2, g3, hy⟩ := four2 hz hb2 c0 c1 c2 c3 f0 f1 f2 f3
            have HB2 := HB.trans (hb2.mono HB.size)
            clear hb2 HB hz c0 c1 c2 c3 f0 f1 f2 f3
            go_wp2_with fail
            refine (rhalf_none (s.extract (p + 1) s.size) pc p3 (by omega) lb _ H2.out).mono ?_
            rintro e w3 ⟨c, fc, rfl, hb3⟩
            obtain ⟨c0, c1, c2, c3, f0, f1, f2, f3, hz⟩ := four2 hy hb3 d0 d1 d2 d3 g0 g1 g2 g3
            have HB := HB2.trans (hb3.mono HB2.size)
            clear hb3 HB2 hy d0 d1 d2 d3 g0 g1 g2 g3
            obtain ⟨k0, k1, k2, k3⟩ := cells_back w3 w.heap.size hz (.int .i64 0) (.int .i64 0) (.bool false) (.bool false) _ _ _ _ (.cells #[.int .i64 r, .int .i64 c, .bool fr, .bool fc] 32) c0 c1 c2 c3
            have K0 := Lib.hid k0
            have K1 := Lib.hid k1
            have K2 := Lib.hid k2
            have K3 := Lib.hid k3
            clear k0 k1 k2 k3
            go_wp2_with fail
            have k0 := K0.out
            have k1 := K1.out
            have k2 := K2.out
            have k3 := K3.out
            rw [HR.out]
            refine bodyPost_ret (v := .tuple #[.agg #[.int .i64 0, .int .i64 0, .bool false, .bool false], .bool false]) (by simp [results, Tryd.results21, go_sem, k0, k1, k2, k3]) rfl ⟨rfl, ?_⟩
            exact (below_sets HB _ _ _ _).alloc (by simp only [size_set]; exact HB.size) _
          | some y =>
            obtain ⟨c, fc⟩ := y
            have hres : O = none := by rw [← HO.out]; unfold absT; rw [HSP.out]; simp only [h1]
            have HR := Lib.hid hres
            have H1 := Lib.hid h1
            have H2 := Lib.hid h2
            clear hres h1 h2
            go_wp2_with fail
            refine (rhalf_none (s.extract 1 p) pr p1 p2 la _ H1.out).mono ?_
            rintro e w2 ⟨r, fr, rfl, hb2⟩
            obtain ⟨d0, d1, d2, d3, g0, g1, g2, g3, hy⟩ := four2 hz hb2 c0 c1 c2 c3 f0 f1 f2 f3
            have HB2 := HB.trans (hb2.mono HB.size)
            clear hb2 HB hz c0 c1 c2 c3 f0 f1 f2 f3
            go_wp2_with fail
            refine (rhalf_some (s.extract (p + 1) s.size) pc p3 (by omega) lb _ c fc H2.out).mono ?_
            rintro e w3 ⟨rfl, hb3⟩
            obtain ⟨c0, c1, c2, c3, f0, f1, f2, f3, hz⟩ := four2 hy hb3 d0 d1 d2 d3 g0 g1 g2 g3
            have HB := HB2.trans (hb3.mono HB2.size)
            clear hb3 HB2 hy d0 d1 d2 d3 g0 g1 g2 g3
            obtain ⟨k0, k1, k2, k3⟩ := cells_back w3 w.heap.size hz (.int .i64 0) (.int .i64 0) (.bool false) (.bool false) _ _ _ _ (.cells #[.int .i64 r, .int .i64 c, .bool fr, .bool fc] 32) c0 c1 c2 c3
            have K0 := Lib.hid k0
            have K1 := Lib.hid k1
            have K2 := Lib.hid k2
            have K3 := Lib.hid k3
            clear k0 k1 k2 k3
            go_wp2_with fail
            have k0 := K0.out
            have k1 := K1.out
            have k2 := K2.out
            have k3 := K3.out
            rw [HR.out]
            refine bodyPost_ret (v := .tuple #[.agg #[.int .i64 0, .int .i64 0, .bool false, .bool false], .bool false]) (by simp [results, Tryd.results21, go_sem, k0, k1, k2, k3]) rfl ⟨rfl, ?_⟩
            exact (below_sets HB _ _ _ _).alloc (by simp only [size_set]; exact HB.size) _
        | some x =>
          obtain ⟨r, fr⟩ := x
          cases h2 : halfL (s.extract (p + 1) s.size).data.toList pc with
          | none =>
            have hres : O = none := by rw [← HO.out]; unfold absT; rw [HSP.out]; simp only [h1, h2]
            have HR := Lib.hid hres
            have H1 := Lib.hid h1
            have H2 := Lib.hid h2
            clear hres h1 h2
            go_wp2_with fail
            refine (rhalf_some (s.extract 1 p) pr p1 p2 la _ r fr H1.out).mono ?_
            rintro e w2 ⟨rfl, hb2⟩
            obtain ⟨d0, d1, d2, d3, g0, g1, g2, g3, hy⟩ := four2 hz hb2 c0 c1 c2 c3 f0 f1 f2 f3
            have HB2 := HB.trans (hb2.mono HB.size)
            clear hb2 HB hz c0 c1 c2 c3 f0 f1 f2 f3
            go_wp2_with fail
            refine (rhalf_none (s.extract (p + 1) s.size) pc p3 (by omega) lb _ H2.out).mono ?_
            rintro e w3 ⟨c, fc, rfl, hb3⟩
            obtain ⟨c0, c1, c2, c3, f0, f1, f2, f3, hz⟩ := four2 hy hb3 d0 d1 d2 d3 g0 g1 g2 g3
            have HB := HB2.trans (hb3.mono HB2.size)
            clear hb3 HB2 hy d0 d1 d2 d3 g0 g1 g2 g3
            obtain ⟨k0, k1, k2, k3⟩ := cells_back w3 w.heap.size hz (.int .i64 0) (.int .i64 0) (.bool false) (.bool false) _ _ _ _ (.cells #[.int .i64 r, .int .i64 c, .bool fr, .bool fc] 32) c0 c1 c2 c3
            have K0 := Lib.hid k0
            have K1 := Lib.hid k1
            have K2 := Lib.hid k2
            have K3 := Lib.hid k3
            clear k0 k1 k2 k3
            go_wp2_with fail
            have k0 := K0.out
            have k1 := K1.out
            have k2 := K2.out
            have k3 := K3.out
            rw [HR.out]
            refine bodyPost_ret (v := .tuple #[.agg #[.int .i64 0, .int .i64 0, .bool false, .bool false], .bool false]) (by simp [results, Tryd.results21, go_sem, k0, k1, k2, k3]) rfl ⟨rfl, ?_⟩
            exact (below_sets HB _ _ _ _).alloc (by simp only [size_set]; exact HB.size) _
          | some y =>
            obtain ⟨c, fc⟩ := y
            cases hrc : rightB r c with
            | false =>
              have hres : O = none := by rw [← HO.out]; unfold absT; rw [HSP.out]; simp only [h1, h2]; rw [if_neg (by rw [hrc]; decide)]
              have HR := Lib.hid hres
              have H1 := Lib.hid h1
              have H2 := Lib.hid h2
              clear hres h1 h2
              go_wp2_with fail
              refine (rhalf_some (s.extract 1 p) pr p1 p2 la _ r fr H1.out).mono ?_
              rintro e w2 ⟨rfl, hb2⟩
              obtain ⟨d0, d1, d2, d3, g0, g1, g2, g3, hy⟩ := four2 hz hb2 c0 c1 c2 c3 f0 f1 f2 f3
              have HB2 := HB.trans (hb2.mono HB.size)
              clear hb2 HB hz c0 c1 c2 c3 f0 f1 f2 f3
              go_wp2_with fail
              refine (rhalf_some (s.extract (p + 1) s.size) pc p3 (by omega) lb _ c fc H2.out).mono ?_
              rintro e w3 ⟨rfl, hb3⟩
              obtain ⟨c0, c1, c2, c3, f0, f1, f2, f3, hz⟩ := four2 hy hb3 d0 d1 d2 d3 g0 g1 g2 g3
              have HB := HB2.trans (hb3.mono HB2.size)
              clear hb3 HB2 hy d0 d1 d2 d3 g0 g1 g2 g3
              go_wp2_with fail
              refine (rright_any r c fr fc _).mono ?_
              rw [hrc]
              rintro e w4 ⟨rfl, hb4⟩
              have hnew := below_new w3 (.cells #[.int .i64 r, .int .i64 c, .bool fr, .bool fc] 32)
              obtain ⟨d0, d1, d2, d3, g0, g1, g2, g3, hy⟩ := four2 hz (hnew.trans (hb4.mono hnew.size)) c0 c1 c2 c3 f0 f1 f2 f3
              have HB2 := HB.trans ((below4 hb4).mono HB.size)
              clear hb4 HB hz c0 c1 c2 c3 f0 f1 f2 f3 hnew
              go_wp2_with fail
              rw [HR.out]
              refine bodyPost_ret (v := .tuple #[.agg #[.int .i64 0, .int .i64 0, .bool false, .bool false], .bool false]) (by simp [results, Tryd.results21, go_sem, d0, d1, d2, d3]) rfl ⟨rfl, ?_⟩
              exact below_sets HB2 _ _ _ _
            | true =>
              have hres : O = some (r, c, fr, fc) := by rw [← HO.out]; unfold absT; rw [HSP.out]; simp only [h1, h2]; rw [if_pos hrc]
              have HR := Lib.hid hres
              have H1 := Lib.hid h1
              have H2 := Lib.hid h2
              clear hres h1 h2
              go_wp2_with fail
              refine (rhalf_some (s.extract 1 p) pr p1 p2 la _ r fr H1.out).mono ?_
              rintro e w2 ⟨rfl, hb2⟩
              obtain ⟨d0, d1, d2, d3, g0, g1, g2, g3, hy⟩ := four2 hz hb2 c0 c1 c2 c3 f0 f1 f2 f3
              have HB2 := HB.trans (hb2.mono HB.size)
              clear hb2 HB hz c0 c1 c2 c3 f0 f1 f2 f3
              go_wp2_with fail
              refine (rhalf_some (s.extract (p + 1) s.size) pc p3 (by omega) lb _ c fc H2.out).mono ?_
              rintro e w3 ⟨rfl, hb3⟩
              obtain ⟨c0, c1, c2, c3, f0, f1, f2, f3, hz⟩ := four2 hy hb3 d0 d1 d2 d3 g0 g1 g2 g3
              have HB := HB2.trans (hb3.mono HB2.size)
              clear hb3 HB2 hy d0 d1 d2 d3 g0 g1 g2 g3
              go_wp2_with fail
              refine (rright_any r c fr fc _).mono ?_
              rw [hrc]
              rintro e w4 ⟨rfl, hb4⟩
              have hnew := below_new w3 (.cells #[.int .i64 r, .int .i64 c, .bool fr, .bool fc] 32)
              obtain ⟨d0, d1, d2, d3, g0, g1, g2, g3, hy⟩ := four2 hz (hnew.trans (hb4.mono hnew.size)) c0 c1 c2 c3 f0 f1 f2 f3
              obtain ⟨k0, k1, k2, k3, k4⟩ := (MarkAt.new w3 r c fr fc 32).later hb4
              have HB2 := HB.trans ((below4 hb4).mono HB.size)
              clear hb4 HB hz c0 c1 c2 c3 f0 f1 f2 f3 hnew
              go_wp2_with fail
              rw [HR.out]
              refine bodyPost_ret (v := .tuple #[.agg #[.int .i64 r, .int .i64 c, .bool fr, .bool fc], .bool true]) (by simp [results, Tryd.results21, go_sem, d0, d1, d2, d3]) rfl ⟨rfl, ?_⟩
              exact below_sets HB2 _ _ _ _
      · have hbc : (((s[p]).toNat : Int) == 67) = false := by rw [beq_eq_false_iff_ne]; omega
        go_wp2_with fail
        go_round
        case rel =>
          refine ⟨p + 1, by go_num, by omega, by omega, ?_⟩
          intro b hb
          have hj : p - 1 < (s.data.toList.drop 1).length := by rw [List.length_drop, size_list]; omega
          rw [show p + 1 - 1 = (p - 1) + 1 by omega, List.take_succ_eq_append_getElem hj] at hb
          rcases List.mem_append.1 hb with hb | hb
          · exact HN.out b hb
          · rw [List.mem_singleton] at hb
            rw [hb, List.getElem_drop]
            intro e
            have h1 : s.data.toList[p]'(by rw [size_list]; exact hlt) = s[p] := get_list s p hlt
            have h2 : s[p] = 67 := by
              rw [← h1, ← e]
              congr 1
              omega
            exact hc (by rw [h2]; rfl)
        case measure => simp [intOf]; omega
    · obtain rfl : p = s.size := by omega
      have hsp : splitC (s.data.toList.drop 1) = none := by
        apply splitC_none
        have := HN.out
        rwa [List.take_of_length_le (by rw [List.length_drop, size_list]; omega)] at this
      have hres : O = none := by rw [← HO.out]; unfold absT; rw [hsp]
      have HR := Lib.hid hres
      clear hsp hres
      go_wp2_with fail
      rw [HR.out]
      refine bodyPost_ret (v := .tuple #[.agg #[.int .i64 0, .int .i64 0, .bool false, .bool false], .bool false]) (by simp [results, Tryd.results21, go_sem, c0, c1, c2, c3]) rfl ⟨rfl, ?_⟩
      exact below_sets HB _ _ _ _

theorem absL_R (t : List UInt8) (pr pc : Int) (hr : rightB pr pc = true) : absL (82 :: t) pr pc = absT t pr pc := by
  have h1 : Lib.hasPrefix (82 :: t) [82] = true := by rw [prefix_head]; rfl
  have h2 : Lib.trimPrefix (82 :: t) [82] = t := by simp [Lib.trimPrefix, Lib.hasPrefix]
  unfold absL absT
  rw [h1, h2, if_pos rfl]
  cases splitC t with
  | none => rfl
  | some x =>
    obtain ⟨a, b⟩ := x
    show (if rightB pr pc = true then _ else _) = _
    rw [if_pos hr]
    rfl

/-- the document's Absolute, at every string of at most 1000 bytes -/
theorem rabsolute_any (s : ByteArray) (pr pc : Int) (w : World) (hs : s.size ≤ 1000) :
    Calls Tryd.prog 21 #[.string s, .int .i64 pr, .int .i64 pc] w fun e w' => e = .returned (parseR (absL s.data.toList pr pc)) ∧ Below w.heap.size w w' := by
  cases hr : rightB pr pc with
  | false =>
    have e : absL s.data.toList pr pc = none := by
      unfold absL
      split
      · split
        · rfl
        · rw [hr, if_neg (by decide)]
      · rfl
    rw [e]; exact rabs_place s pr pc w hr
  | true =>
    cases hl : s.data.toList with
    | nil =>
      have hz : s.size = 0 := by rw [← size_list, hl]; rfl
      exact rabs_short s pr pc w hr (by omega)
    | cons c t =>
      have hz : s.size = t.length + 1 := by rw [← size_list, hl]; rfl
      have hc : s[0] = c := get_zero s c t hl (by omega)
      by_cases h82 : c = 82
      · subst h82
        rw [absL_R t pr pc hr]
        by_cases h2 : s.size < 2
        · have : t = [] := List.eq_nil_of_length_eq_zero (by omega)
          subst this
          exact rabs_short s pr pc w hr h2
        · have := rabs_loop s pr pc w hs hr (by omega) (by rw [hc]; rfl) _ rfl
          rw [hl, List.drop_one, List.tail_cons] at this
          exact this
      · have hb : ((82 : UInt8) == c) = false := by rw [beq_eq_false_iff_ne]; exact fun e => h82 e.symm
        have e : absL (c :: t) pr pc = none := by
          unfold absL
          rw [prefix_head, hb, if_neg (by decide)]
        rw [e]
        by_cases h2 : s.size < 2
        · exact rabs_short s pr pc w hr h2
        · refine rabs_head s pr pc w hr (by omega) ?_
          rw [hc, beq_eq_false_iff_ne]
          intro e
          exact h82 (UInt8.toNat_inj.1 (show c.toNat = 82 by omega))
end Go.Proofs.YtkggooemnahgpaaDoor
