/- The law SpillFree. -/
import Derived.Test.YtdeneogbnmedkaaP
namespace Go.Proofs.Ytdeneogbnmedkaa
open Go.RowKit Go.Maps

theorem box_pair {w : World} {g t : Nat} {a b : Value} (h : w.heap[g]? = some (.cells #[a, b] t (0, 0))) : w.cell? ⟨g, 0, none⟩ = some a ∧ w.cell? ⟨g, 1, none⟩ = some b := box2 h
/-- nothing but an anchor -/
theorem free_dec (R C row col h v : Int) (hR : 1 ≤ R ∧ R ≤ 10) (hC : 1 ≤ C ∧ C ≤ 10) (hr : 0 ≤ row ∧ row < R) (hc : 0 ≤ col ∧ col < C) (hh : 1 ≤ h ∧ h ≤ 12) (hv : 1 ≤ v ∧ v ≤ 12) :
    fillR (newF R C) (row, col) = true ∧ decE (fillB (newF R C) (row, col)) (row, col, h, v) = 0 ∧ decR (fillB (newF R C) (row, col)) (row, col, h, v) = (decide (h ≤ R - row) && decide (v ≤ C - col)) ∧
    (∀ p, ownF (decB (fillB (newF R C) (row, col)) (row, col, h, v)).l p = if (decide (h ≤ R - row) && decide (v ≤ C - col)) && inR (row, col, h, v) p then some (row, col, h, v) else none) ∧
    barA (decB (fillB (newF R C) (row, col)) (row, col, h, v)) (row, col) = .tuple #[.int .i64 0, .int .i64 0, .bool false] := by
  have hcR : clampF R = R := by unfold clampF; omega
  have hcC : clampF C = C := by unfold clampF; omega
  have hhas : hasP (newF R C) (row, col) = true := (hasP_iff _ _).2 (by unfold newF; simp only [hcR, hcC]; omega)
  have hfill : fillR (newF R C) (row, col) = true := by unfold fillR; rw [hhas]; rfl
  have hB : fillB (newF R C) (row, col) = conP (newF R C) (row, col) := by unfold fillB; rw [if_pos hfill]
  have hfit : fitsF h v = true := (fitsF_iff _ _).2 ⟨hh.1, hv.1, by omega, by omega, by
    have h1 : h * v ≤ 12 * 12 := Int.le_trans (Int.mul_le_mul_of_nonneg_left hv.2 (by omega)) (Int.mul_le_mul_of_nonneg_right hh.2 (by omega))
    omega⟩
  have hE : decE (conP (newF R C) (row, col)) (row, col, h, v) = 0 := by
    unfold decE
    rw [show hasP (conP (newF R C) (row, col)) (anc (row, col, h, v)) = true from hhas, show fitsF (row, col, h, v).2.2.1 (row, col, h, v).2.2.2 = true from hfit]
    simp [conP, anc, decF, newF]
  have hbey : beyF (conP (newF R C) (row, col)) (row, col, h, v) = (decide (R - row < h) || decide (C - col < v)) := by unfold beyF conP newF; simp only [hcR, hcC]
  have hbar : ∀ p, barF (conP (newF R C) (row, col)) (row, col, h, v) p = false := fun p => by
    unfold barF conP newF ownF anc
    by_cases hp : p = (row, col)
    · subst hp; simp
    · have h1 : (p == (row, col)) = false := by simpa using hp
      simp [h1]
  have hnot : (decide (h ≤ R - row) && decide (v ≤ C - col)) = !(decide (R - row < h) || decide (C - col < v)) := by
    rw [Bool.eq_iff_iff]
    simp
  have hJ : judF (conP (newF R C) (row, col)) (row, col, h, v) = ⟨(row, col, h, v), (decide (h ≤ R - row) && decide (v ≤ C - col)), (0, 0), false⟩ := by
    unfold judF
    rw [hbey, hnot]
    have hf : (cellsF (row, col, h, v)).find? (barF (conP (newF R C) (row, col)) (row, col, h, v)) = none := List.find?_eq_none.2 (fun p _ => by rw [hbar p]; simp)
    rw [hf]
    cases (decide (R - row < h) || decide (C - col < v)) <;> rfl
  have hD : decB (conP (newF R C) (row, col)) (row, col, h, v) = addD (conP (newF R C) (row, col)) (row, col, h, v) := by unfold decB; rw [if_pos hE]
  rw [hB]
  refine ⟨hfill, hE, ?_, fun p => ?_, ?_⟩
  · unfold decR
    rw [hE, hJ]
    rfl
  · rw [hD]
    unfold addD
    rw [ownF_snoc, hJ]
    rfl
  · rw [hD]
    unfold barA dcF addD
    rw [decF_snoc, hJ]
    simp [decF, conP, newF, anc]

set_option maxRecDepth 100000 in
set_option maxHeartbeats 8000000 in
theorem free_law {w : World} (s : Pl) (hs : Byte2 s) (t : Pl) (ht : Byte2 t) (z : Pl) (hz : Byte2 z) :
    Calls Try.prog 8 #[.agg #[.int .u8 s.1, .int .u8 s.2], .agg #[.int .u8 t.1, .int .u8 t.2], .agg #[.int .u8 z.1, .int .u8 z.2]] w fun e w' => e = .returned (.bool true) ∧ Below w.heap.size w w' := by
  obtain ⟨s1, s2⟩ := s
  obtain ⟨t1, t2⟩ := t
  obtain ⟨z1, z2⟩ := z
  unfold Byte2 at hs ht hz
  simp only at hs ht hz ⊢
  have hb0 : Below w.heap.size w (((w.alloc (.cells #[.int .u8 s1, .int .u8 s2] 56)).alloc (.cells #[.int .u8 t1, .int .u8 t2] 56)).alloc (.cells #[.int .u8 z1, .int .u8 z2] 56)) := (((Below.refl _ _).alloc (Nat.le_refl _) _).alloc (by simp) _).alloc (by simp; omega) _
  have hz0 : (((w.alloc (.cells #[.int .u8 s1, .int .u8 s2] 56)).alloc (.cells #[.int .u8 t1, .int .u8 t2] 56)).alloc (.cells #[.int .u8 z1, .int .u8 z2] 56)).heap[w.heap.size]? = some (.cells #[.int .u8 s1, .int .u8 s2] 56 (0, 0)) := (Below.heap_alloc _ _ _ (by simp <;> omega)).trans ((Below.heap_alloc _ _ _ (by simp)).trans (World.alloc_heap_new w _))
  have hz1 : (((w.alloc (.cells #[.int .u8 s1, .int .u8 s2] 56)).alloc (.cells #[.int .u8 t1, .int .u8 t2] 56)).alloc (.cells #[.int .u8 z1, .int .u8 z2] 56)).heap[w.heap.size + 1]? = some (.cells #[.int .u8 t1, .int .u8 t2] 56 (0, 0)) := (Below.heap_alloc _ _ _ (by simp)).trans (by simpa using World.alloc_heap_new (w.alloc (.cells #[.int .u8 s1, .int .u8 s2] 56)) (.cells #[.int .u8 t1, .int .u8 t2] 56))
  have hz2 : (((w.alloc (.cells #[.int .u8 s1, .int .u8 s2] 56)).alloc (.cells #[.int .u8 t1, .int .u8 t2] 56)).alloc (.cells #[.int .u8 z1, .int .u8 z2] 56)).heap[w.heap.size + 2]? = some (.cells #[.int .u8 z1, .int .u8 z2] 56 (0, 0)) := by simpa using World.alloc_heap_new ((w.alloc (.cells #[.int .u8 s1, .int .u8 s2] 56)).alloc (.cells #[.int .u8 t1, .int .u8 t2] 56)) (.cells #[.int .u8 z1, .int .u8 z2] 56)
  obtain ⟨W0, hW0⟩ : ∃ W0, W0 = (((w.alloc (.cells #[.int .u8 s1, .int .u8 s2] 56)).alloc (.cells #[.int .u8 t1, .int .u8 t2] 56)).alloc (.cells #[.int .u8 z1, .int .u8 z2] 56)) := ⟨_, rfl⟩
  rw [← hW0] at hb0 hz0 hz1 hz2
  have HB0 := Lib.hid hb0
  have HZ0 := Lib.hid hz0
  have HZ1 := Lib.hid hz1
  have HZ2 := Lib.hid hz2
  have HW0 := Lib.hid hW0
  clear hb0 hz0 hz1 hz2 hW0
  go_enter Try.func8, Try.ntmps8
  go_wp2_with fail
  rw [← HW0.out]
  refine (awake_any _).mono ?_
  rintro e w1 ⟨rfl, hb1⟩
  have HB1 := Lib.hid (HB0.out.trans (hb1.mono HB0.out.size))
  obtain ⟨a1, a2⟩ := box2 ((hb1.block _ (Array.getElem?_eq_some_iff.1 HZ0.out).1).trans HZ0.out)
  obtain ⟨b1, b2⟩ := box2 ((hb1.block _ (Array.getElem?_eq_some_iff.1 HZ1.out).1).trans HZ1.out)
  obtain ⟨d1, d2⟩ := box2 ((hb1.block _ (Array.getElem?_eq_some_iff.1 HZ2.out).1).trans HZ2.out)
  clear hb1 HZ0 HZ1 HZ2 HB0 HW0
  have ws1 : IntKind.i64.wrap s1 = s1 := by rw [IntKind.wrap_i64]; omega
  have ws2 : IntKind.i64.wrap s2 = s2 := by rw [IntKind.wrap_i64]; omega
  have wt1 : IntKind.i64.wrap t1 = t1 := by rw [IntKind.wrap_i64]; omega
  have wt2 : IntKind.i64.wrap t2 = t2 := by rw [IntKind.wrap_i64]; omega
  have wz1 : IntKind.i64.wrap z1 = z1 := by rw [IntKind.wrap_i64]; omega
  have wz2 : IntKind.i64.wrap z2 = z2 := by rw [IntKind.wrap_i64]; omega
  have ms1 : s1.tmod 10 = s1 % 10 := Int.tmod_eq_emod_of_nonneg (by omega)
  have ms2 : s2.tmod 10 = s2 % 10 := Int.tmod_eq_emod_of_nonneg (by omega)
  have mz1 : z1.tmod 12 = z1 % 12 := Int.tmod_eq_emod_of_nonneg (by omega)
  have mz2 : z2.tmod 12 = z2 % 12 := Int.tmod_eq_emod_of_nonneg (by omega)
  have vs1 : IntKind.i64.wrap (s1 % 10) = s1 % 10 := by rw [IntKind.wrap_i64]; omega
  have vs2 : IntKind.i64.wrap (s2 % 10) = s2 % 10 := by rw [IntKind.wrap_i64]; omega
  have vz1 : IntKind.i64.wrap (z1 % 12) = z1 % 12 := by rw [IntKind.wrap_i64]; omega
  have vz2 : IntKind.i64.wrap (z2 % 12) = z2 % 12 := by rw [IntKind.wrap_i64]; omega
  obtain ⟨R, hR⟩ : ∃ R, 1 + s1 % 10 = R := ⟨_, rfl⟩
  obtain ⟨C, hC⟩ : ∃ C, 1 + s2 % 10 = C := ⟨_, rfl⟩
  obtain ⟨h, hh⟩ : ∃ h, 1 + z1 % 12 = h := ⟨_, rfl⟩
  obtain ⟨v, hv⟩ : ∃ v, 1 + z2 % 12 = v := ⟨_, rfl⟩
  have wR : IntKind.i64.wrap (1 + s1 % 10) = R := by rw [← hR, IntKind.wrap_i64]; omega
  have wC : IntKind.i64.wrap (1 + s2 % 10) = C := by rw [← hC, IntKind.wrap_i64]; omega
  have wh : IntKind.i64.wrap (1 + z1 % 12) = h := by rw [← hh, IntKind.wrap_i64]; omega
  have wv : IntKind.i64.wrap (1 + z2 % 12) = v := by rw [← hv, IntKind.wrap_i64]; omega
  have bR : 1 ≤ R ∧ R ≤ 10 := by omega
  have bC : 1 ≤ C ∧ C ≤ 10 := by omega
  have bh : 1 ≤ h ∧ h ≤ 12 := by omega
  have bv : 1 ≤ v ∧ v ≤ 12 := by omega
  clear hR hC hh hv
  obtain ⟨row, hrow⟩ : ∃ row, t1 % R = row := ⟨_, rfl⟩
  obtain ⟨col, hcol⟩ : ∃ col, t2 % C = col := ⟨_, rfl⟩
  have mt1 : t1.tmod R = row := by rw [← hrow]; exact Int.tmod_eq_emod_of_nonneg (by omega)
  have mt2 : t2.tmod C = col := by rw [← hcol]; exact Int.tmod_eq_emod_of_nonneg (by omega)
  have br : 0 ≤ row ∧ row < R := by rw [← hrow]; exact ⟨Int.emod_nonneg _ (by omega), Int.emod_lt_of_pos _ (by omega)⟩
  have bc : 0 ≤ col ∧ col < C := by rw [← hcol]; exact ⟨Int.emod_nonneg _ (by omega), Int.emod_lt_of_pos _ (by omega)⟩
  have vt1 : IntKind.i64.wrap row = row := by rw [IntKind.wrap_i64]; omega
  have vt2 : IntKind.i64.wrap col = col := by rw [IntKind.wrap_i64]; omega
  have nR : (R == 0) = false := by simp; omega
  have nC : (C == 0) = false := by simp; omega
  clear hrow hcol
  go_wp2_with fail
  go_quiet (fail)
  obtain ⟨V1, hV1⟩ : ∃ V1, V1 = w1.drewN nq := ⟨_, rfl⟩
  rw [← hV1]
  have b1' : V1.cell? ⟨w.heap.size + 1, 0, none⟩ = some (.int .u8 t1) := by rw [hV1]; exact b1
  have b2' : V1.cell? ⟨w.heap.size + 1, 1, none⟩ = some (.int .u8 t2) := by rw [hV1]; exact b2
  have d1' : V1.cell? ⟨w.heap.size + 2, 0, none⟩ = some (.int .u8 z1) := by rw [hV1]; exact d1
  have d2' : V1.cell? ⟨w.heap.size + 2, 1, none⟩ = some (.int .u8 z2) := by rw [hV1]; exact d2
  have HV1 : Hid (Below w.heap.size w V1) := Lib.hid (by rw [hV1]; exact below_dn HB1.out _)
  clear hV1 a1 a2 b1 b2 d1 d2 nq
  go_wp2_with fail
  go_quiet (fail)
  obtain ⟨V, hV⟩ : ∃ V, V = V1.drewN nq := ⟨_, rfl⟩
  rw [← hV]
  have d1 : V.cell? ⟨w.heap.size + 2, 0, none⟩ = some (.int .u8 z1) := by rw [hV]; exact d1'
  have d2 : V.cell? ⟨w.heap.size + 2, 1, none⟩ = some (.int .u8 z2) := by rw [hV]; exact d2'
  have HV : Hid (Below w.heap.size w V) := Lib.hid (by rw [hV]; exact below_dn HV1.out _)
  clear hV b1' b2' d1' d2' nq HV1
  have hfd := free_dec R C row col h v bR bC br bc bh bv
  obtain ⟨f1, f2, f3, f4, f5⟩ := hfd
  obtain ⟨G, hG⟩ : ∃ G, (decide (h ≤ R - row) && decide (v ≤ C - col)) = G := ⟨_, rfl⟩
  rw [hG] at f3 f4
  have HF1 := Lib.hid f1
  have HF2 := Lib.hid (And.intro f3 f2)
  have HF4 := Lib.hid f4
  have HF5 := Lib.hid f5
  have HWF := Lib.hid (wf_of (x := row) (y := col) (by omega) (by omega))
  have HG := Lib.hid hG
  obtain ⟨B1, hB1⟩ : ∃ B1, fillB (newF R C) (row, col) = B1 := ⟨_, rfl⟩
  rw [hB1] at HF2 HF4 HF5
  obtain ⟨B2, hB2⟩ : ∃ B2, decB B1 (row, col, h, v) = B2 := ⟨_, rfl⟩
  rw [hB2] at HF4 HF5
  have HB1' := Lib.hid hB1
  have HB2' := Lib.hid hB2
  clear f1 f2 f3 f4 f5 hG hB1 hB2
  go_wp2_with fail
  have hrb : (V.alloc (.cells #[.int .i64 row, .int .i64 col, .int .i64 h, .int .i64 v] 47)).heap[V.heap.size]? = some (.cells #[.int .i64 row, .int .i64 col, .int .i64 h, .int .i64 v] 47 (0, 0)) := World.alloc_heap_new V _
  have hvb : Below w.heap.size w (V.alloc (.cells #[.int .i64 row, .int .i64 col, .int .i64 h, .int .i64 v] 47)) := HV.out.alloc HV.out.size _
  obtain ⟨X, hX⟩ : ∃ X, V.alloc (.cells #[.int .i64 row, .int .i64 col, .int .i64 h, .int .i64 v] 47) = X := ⟨_, rfl⟩
  rw [hX] at hrb hvb ⊢
  have HRB := Lib.hid hrb
  have HVB := Lib.hid hvb
  clear hrb hvb hX d1 d2 ws1 ws2 wt1 wt2 wz1 wz2 ms1 ms2 mz1 mz2 vs1 vs2 vz1 vz2 wR wC wh wv mt1 mt2 vt1 vt2 nR nC
  refine (new_up (Below.refl _ X) rfl).mono ?_
  rintro e x1 ⟨rfl, hu⟩
  have HU := Lib.hid hu
  clear hu
  go_wp2_with fail
  refine (fill_up HU.out (by omega) HWF.out HF1.out HB1'.out).mono ?_
  rintro e x2 ⟨rfl, hu⟩
  have HU2 := Lib.hid hu
  obtain ⟨g0, g1, g2, g3, _⟩ := box4 ((hu.2.block _ (Array.getElem?_eq_some_iff.1 HRB.out).1).trans HRB.out)
  clear hu HU
  go_wp2_with fail
  refine (decide_up HU2.out (by omega) HWF.out HF2.out.1 HF2.out.2 HB2'.out).mono ?_
  rintro e x3 ⟨rfl, hu⟩
  have HU3 := Lib.hid hu
  obtain ⟨g0', g1', g2', g3', _⟩ := box4 ((hu.2.block _ (Array.getElem?_eq_some_iff.1 HRB.out).1).trans HRB.out)
  have wf1 : IntKind.i64.wrap (R - row) = R - row := by rw [IntKind.wrap_i64]; omega
  have wf2 : IntKind.i64.wrap (C - col) = C - col := by rw [IntKind.wrap_i64]; omega
  clear hu HU2 g0 g1 g2 g3
  obtain ⟨s, hs3⟩ : ∃ s, X.heap.size + 3 = s := ⟨_, rfl⟩
  rw [hs3] at HU3 ⊢
  clear hs3
  by_cases k1 : h ≤ R - row
  · by_cases k2 : v ≤ C - col
    · obtain rfl : G = true := by rw [← HG.out]; simp [k1, k2]
      go_wp2_with fail
      clear g0' g1' g2' g3' wf1 wf2
      go_loopw [100] (fun i wr => ∃ k : Nat, (k : Int) ≤ R ∧ i = .int .i64 k ∧ Up X s 2 B2 wr) (fun i _ => (R - intOf i).toNat)
      case atStart => exact ⟨0, by omega, rfl, HU3.out⟩
      case round =>
        obtain ⟨i, hi, rfl, hu⟩ := hrel
        have HK := Lib.hid hu
        clear hu HU3
        by_cases hlt : (i : Int) < R
        · go_wp2_with fail
          go_loopw [104] (fun j wq => ∃ k : Nat, (k : Int) ≤ C ∧ j = .int .i64 k ∧ Up X s 2 B2 wq) (fun j _ => (C - intOf j).toNat)
          case atStart => exact ⟨0, by omega, rfl, HK.out⟩
          case round =>
            obtain ⟨j, hj, rfl, hu⟩ := hrel
            have HK2 := Lib.hid hu
            clear hu HK
            by_cases hlt2 : (j : Int) < C
            · have hO := HF4.out ((i : Int), (j : Int))
              have hwf : Wf ((i : Int), (j : Int)) := wf_of (by omega) (by omega)
              have wi : IntKind.i64.wrap ((i : Int) - row) = (i : Int) - row := by rw [IntKind.wrap_i64]; omega
              have wj : IntKind.i64.wrap ((j : Int) - col) = (j : Int) - col := by rw [IntKind.wrap_i64]; omega
              by_cases q1 : row ≤ (i : Int)
              rotate_left
              · have HO : ownF B2.l ((i : Int), (j : Int)) = none := by rw [hO]; simp [inR]; omega
                clear hO
                have hv0 : ownA B2 ((i : Int), (j : Int)) = .tuple #[.agg #[.int .i64 0, .int .i64 0, .int .i64 0, .int .i64 0], .bool false] := by unfold ownA; rw [HO]; rfl
                have HCA := Lib.hid (owner_up HK2.out hwf hv0)
                clear hv0 hwf HO
                go_wp2_with fail
                refine HCA.out.mono ?_
                rintro e x4 ⟨rfl, hu⟩
                have HK3 := Lib.hid hu
                obtain ⟨r0, r1, r2, r3, _⟩ := box4 (((hu.2.alloc (by have := hu.2.size; exact this) (.cells #[.int .i64 0, .int .i64 0, .int .i64 0, .int .i64 0] 47)).block _ (Array.getElem?_eq_some_iff.1 HRB.out).1).trans HRB.out)
                clear hu HCA
                go_wp2_with fail
                go_roundw
                case rel => first | exact ⟨j + 1, by omega, by simp, HK3.out.later ((Below.refl _ _).alloc (Nat.le_refl _) _)⟩ | exact ⟨_, _, _, _, _, _, ⟨j + 1, by omega, by simp, HK3.out.later ((Below.refl _ _).alloc (Nat.le_refl _) _)⟩, rfl, rfl, rfl, rfl, rfl, rfl⟩
                case measure => simp [intOf]; omega
              by_cases q2 : col ≤ (j : Int)
              rotate_left
              · have HO : ownF B2.l ((i : Int), (j : Int)) = none := by rw [hO]; simp [inR]; omega
                clear hO
                have hv0 : ownA B2 ((i : Int), (j : Int)) = .tuple #[.agg #[.int .i64 0, .int .i64 0, .int .i64 0, .int .i64 0], .bool false] := by unfold ownA; rw [HO]; rfl
                have HCA := Lib.hid (owner_up HK2.out hwf hv0)
                clear hv0 hwf HO
                go_wp2_with fail
                refine HCA.out.mono ?_
                rintro e x4 ⟨rfl, hu⟩
                have HK3 := Lib.hid hu
                obtain ⟨r0, r1, r2, r3, _⟩ := box4 (((hu.2.alloc (by have := hu.2.size; exact this) (.cells #[.int .i64 0, .int .i64 0, .int .i64 0, .int .i64 0] 47)).block _ (Array.getElem?_eq_some_iff.1 HRB.out).1).trans HRB.out)
                clear hu HCA
                go_wp2_with fail
                go_roundw
                case rel => first | exact ⟨j + 1, by omega, by simp, HK3.out.later ((Below.refl _ _).alloc (Nat.le_refl _) _)⟩ | exact ⟨_, _, _, _, _, _, ⟨j + 1, by omega, by simp, HK3.out.later ((Below.refl _ _).alloc (Nat.le_refl _) _)⟩, rfl, rfl, rfl, rfl, rfl, rfl⟩
                case measure => simp [intOf]; omega
              by_cases q3 : (i : Int) - row < h
              rotate_left
              · have HO : ownF B2.l ((i : Int), (j : Int)) = none := by rw [hO]; simp [inR]; omega
                clear hO
                have hv0 : ownA B2 ((i : Int), (j : Int)) = .tuple #[.agg #[.int .i64 0, .int .i64 0, .int .i64 0, .int .i64 0], .bool false] := by unfold ownA; rw [HO]; rfl
                have HCA := Lib.hid (owner_up HK2.out hwf hv0)
                clear hv0 hwf HO
                go_wp2_with fail
                refine HCA.out.mono ?_
                rintro e x4 ⟨rfl, hu⟩
                have HK3 := Lib.hid hu
                obtain ⟨r0, r1, r2, r3, _⟩ := box4 (((hu.2.alloc (by have := hu.2.size; exact this) (.cells #[.int .i64 0, .int .i64 0, .int .i64 0, .int .i64 0] 47)).block _ (Array.getElem?_eq_some_iff.1 HRB.out).1).trans HRB.out)
                clear hu HCA
                go_wp2_with fail
                go_roundw
                case rel => first | exact ⟨j + 1, by omega, by simp, HK3.out.later ((Below.refl _ _).alloc (Nat.le_refl _) _)⟩ | exact ⟨_, _, _, _, _, _, ⟨j + 1, by omega, by simp, HK3.out.later ((Below.refl _ _).alloc (Nat.le_refl _) _)⟩, rfl, rfl, rfl, rfl, rfl, rfl⟩
                case measure => simp [intOf]; omega
              by_cases q4 : (j : Int) - col < v
              rotate_left
              · have HO : ownF B2.l ((i : Int), (j : Int)) = none := by rw [hO]; simp [inR]; omega
                clear hO
                have hv0 : ownA B2 ((i : Int), (j : Int)) = .tuple #[.agg #[.int .i64 0, .int .i64 0, .int .i64 0, .int .i64 0], .bool false] := by unfold ownA; rw [HO]; rfl
                have HCA := Lib.hid (owner_up HK2.out hwf hv0)
                clear hv0 hwf HO
                go_wp2_with fail
                refine HCA.out.mono ?_
                rintro e x4 ⟨rfl, hu⟩
                have HK3 := Lib.hid hu
                obtain ⟨r0, r1, r2, r3, _⟩ := box4 (((hu.2.alloc (by have := hu.2.size; exact this) (.cells #[.int .i64 0, .int .i64 0, .int .i64 0, .int .i64 0] 47)).block _ (Array.getElem?_eq_some_iff.1 HRB.out).1).trans HRB.out)
                clear hu HCA
                go_wp2_with fail
                go_roundw
                case rel => first | exact ⟨j + 1, by omega, by simp, HK3.out.later ((Below.refl _ _).alloc (Nat.le_refl _) _)⟩ | exact ⟨_, _, _, _, _, _, ⟨j + 1, by omega, by simp, HK3.out.later ((Below.refl _ _).alloc (Nat.le_refl _) _)⟩, rfl, rfl, rfl, rfl, rfl, rfl⟩
                case measure => simp [intOf]; omega
              have HO : ownF B2.l ((i : Int), (j : Int)) = some (row, col, h, v) := by rw [hO]; simp [inR]; omega
              clear hO
              have hv0 : ownA B2 ((i : Int), (j : Int)) = .tuple #[.agg #[.int .i64 row, .int .i64 col, .int .i64 h, .int .i64 v], .bool true] := by unfold ownA; rw [HO]; rfl
              have HCA := Lib.hid (owner_up HK2.out hwf hv0)
              have hne : ∀ w, (binOp .neq 47 (.agg #[.int .i64 row, .int .i64 col, .int .i64 h, .int .i64 v]) (.agg #[.int .i64 row, .int .i64 col, .int .i64 h, .int .i64 v])).run Try.prog w = .ok (.bool false) w := fun w => by rw [rc_eq]; simp
              clear hv0 hwf HO
              go_wp2_with fail
              refine HCA.out.mono ?_
              rintro e x4 ⟨rfl, hu⟩
              have HK3 := Lib.hid hu
              obtain ⟨r0, r1, r2, r3, _⟩ := box4 (((hu.2.alloc (by have := hu.2.size; exact this) (.cells #[.int .i64 row, .int .i64 col, .int .i64 h, .int .i64 v] 47)).block _ (Array.getElem?_eq_some_iff.1 HRB.out).1).trans HRB.out)
              clear hu HCA
              go_wp2_with fail
              go_roundw
              case rel => first | exact ⟨j + 1, by omega, by simp, HK3.out.later ((Below.refl _ _).alloc (Nat.le_refl _) _)⟩ | exact ⟨_, _, _, _, _, _, ⟨j + 1, by omega, by simp, HK3.out.later ((Below.refl _ _).alloc (Nat.le_refl _) _)⟩, rfl, rfl, rfl, rfl, rfl, rfl⟩
              case measure => simp [intOf]; omega
            · obtain rfl : (j : Int) = C := by omega
              go_wp2_with fail
              go_roundw
              case rel => exact ⟨i + 1, by omega, by simp, HK2.out⟩
              case measure => simp [intOf]; omega
        · obtain rfl : (i : Int) = R := by omega
          have HK4 := Lib.hid (blocker_up HK.out HWF.out HF5.out)
          go_wp2_with fail
          refine HK4.out.mono ?_
          rintro e x4 ⟨rfl, hu⟩
          have HB4 := Lib.hid (HVB.out.trans (hu.2.mono HVB.out.size))
          clear hu
          go_wp2
          go_ret
          exact ⟨rfl, HB4.out⟩
    · obtain rfl : G = false := by rw [← HG.out]; simp [k2]
      go_wp2_with fail
      clear g0' g1' g2' g3' wf1 wf2
      go_loopw [100] (fun i wr => ∃ k : Nat, (k : Int) ≤ R ∧ i = .int .i64 k ∧ Up X s 2 B2 wr) (fun i _ => (R - intOf i).toNat)
      case atStart => exact ⟨0, by omega, rfl, HU3.out⟩
      case round =>
        obtain ⟨i, hi, rfl, hu⟩ := hrel
        have HK := Lib.hid hu
        clear hu HU3
        by_cases hlt : (i : Int) < R
        · go_wp2_with fail
          go_loopw [104] (fun j wq => ∃ k : Nat, (k : Int) ≤ C ∧ j = .int .i64 k ∧ Up X s 2 B2 wq) (fun j _ => (C - intOf j).toNat)
          case atStart => exact ⟨0, by omega, rfl, HK.out⟩
          case round =>
            obtain ⟨j, hj, rfl, hu⟩ := hrel
            have HK2 := Lib.hid hu
            clear hu HK
            by_cases hlt2 : (j : Int) < C
            · have hO := HF4.out ((i : Int), (j : Int))
              have hwf : Wf ((i : Int), (j : Int)) := wf_of (by omega) (by omega)
              have wi : IntKind.i64.wrap ((i : Int) - row) = (i : Int) - row := by rw [IntKind.wrap_i64]; omega
              have wj : IntKind.i64.wrap ((j : Int) - col) = (j : Int) - col := by rw [IntKind.wrap_i64]; omega
              have HO : ownF B2.l ((i : Int), (j : Int)) = none := by rw [hO]; simp
              clear hO
              have hv0 : ownA B2 ((i : Int), (j : Int)) = .tuple #[.agg #[.int .i64 0, .int .i64 0, .int .i64 0, .int .i64 0], .bool false] := by unfold ownA; rw [HO]; rfl
              have HCA := Lib.hid (owner_up HK2.out hwf hv0)
              clear hv0 hwf HO
              go_wp2_with fail
              refine HCA.out.mono ?_
              rintro e x4 ⟨rfl, hu⟩
              have HK3 := Lib.hid hu
              obtain ⟨r0, r1, r2, r3, _⟩ := box4 (((hu.2.alloc (by have := hu.2.size; exact this) (.cells #[.int .i64 0, .int .i64 0, .int .i64 0, .int .i64 0] 47)).block _ (Array.getElem?_eq_some_iff.1 HRB.out).1).trans HRB.out)
              clear hu HCA
              go_wp2_with fail
              go_roundw
              case rel => first | exact ⟨j + 1, by omega, by simp, HK3.out.later ((Below.refl _ _).alloc (Nat.le_refl _) _)⟩ | exact ⟨_, _, _, _, _, _, ⟨j + 1, by omega, by simp, HK3.out.later ((Below.refl _ _).alloc (Nat.le_refl _) _)⟩, rfl, rfl, rfl, rfl, rfl, rfl⟩
              case measure => simp [intOf]; omega
            · obtain rfl : (j : Int) = C := by omega
              go_wp2_with fail
              go_roundw
              case rel => exact ⟨i + 1, by omega, by simp, HK2.out⟩
              case measure => simp [intOf]; omega
        · obtain rfl : (i : Int) = R := by omega
          have HK4 := Lib.hid (blocker_up HK.out HWF.out HF5.out)
          go_wp2_with fail
          refine HK4.out.mono ?_
          rintro e x4 ⟨rfl, hu⟩
          have HB4 := Lib.hid (HVB.out.trans (hu.2.mono HVB.out.size))
          clear hu
          go_wp2
          go_ret
          exact ⟨rfl, HB4.out⟩
  · obtain rfl : G = false := by rw [← HG.out]; simp [k1]
    go_wp2_with fail
    clear g0' g1' g2' g3' wf1 wf2
    go_loopw [100] (fun i wr => ∃ k : Nat, (k : Int) ≤ R ∧ i = .int .i64 k ∧ Up X s 2 B2 wr) (fun i _ => (R - intOf i).toNat)
    case atStart => exact ⟨0, by omega, rfl, HU3.out⟩
    case round =>
      obtain ⟨i, hi, rfl, hu⟩ := hrel
      have HK := Lib.hid hu
      clear hu HU3
      by_cases hlt : (i : Int) < R
      · go_wp2_with fail
        go_loopw [104] (fun j wq => ∃ k : Nat, (k : Int) ≤ C ∧ j = .int .i64 k ∧ Up X s 2 B2 wq) (fun j _ => (C - intOf j).toNat)
        case atStart => exact ⟨0, by omega, rfl, HK.out⟩
        case round =>
          obtain ⟨j, hj, rfl, hu⟩ := hrel
          have HK2 := Lib.hid hu
          clear hu HK
          by_cases hlt2 : (j : Int) < C
          · have hO := HF4.out ((i : Int), (j : Int))
            have hwf : Wf ((i : Int), (j : Int)) := wf_of (by omega) (by omega)
            have wi : IntKind.i64.wrap ((i : Int) - row) = (i : Int) - row := by rw [IntKind.wrap_i64]; omega
            have wj : IntKind.i64.wrap ((j : Int) - col) = (j : Int) - col := by rw [IntKind.wrap_i64]; omega
            have HO : ownF B2.l ((i : Int), (j : Int)) = none := by rw [hO]; simp
            clear hO
            have hv0 : ownA B2 ((i : Int), (j : Int)) = .tuple #[.agg #[.int .i64 0, .int .i64 0, .int .i64 0, .int .i64 0], .bool false] := by unfold ownA; rw [HO]; rfl
            have HCA := Lib.hid (owner_up HK2.out hwf hv0)
            clear hv0 hwf HO
            go_wp2_with fail
            refine HCA.out.mono ?_
            rintro e x4 ⟨rfl, hu⟩
            have HK3 := Lib.hid hu
            obtain ⟨r0, r1, r2, r3, _⟩ := box4 (((hu.2.alloc (by have := hu.2.size; exact this) (.cells #[.int .i64 0, .int .i64 0, .int .i64 0, .int .i64 0] 47)).block _ (Array.getElem?_eq_some_iff.1 HRB.out).1).trans HRB.out)
            clear hu HCA
            go_wp2_with fail
            go_roundw
            case rel => first | exact ⟨j + 1, by omega, by simp, HK3.out.later ((Below.refl _ _).alloc (Nat.le_refl _) _)⟩ | exact ⟨_, _, _, _, _, _, ⟨j + 1, by omega, by simp, HK3.out.later ((Below.refl _ _).alloc (Nat.le_refl _) _)⟩, rfl, rfl, rfl, rfl, rfl, rfl⟩
            case measure => simp [intOf]; omega
          · obtain rfl : (j : Int) = C := by omega
            go_wp2_with fail
            go_roundw
            case rel => exact ⟨i + 1, by omega, by simp, HK2.out⟩
            case measure => simp [intOf]; omega
      · obtain rfl : (i : Int) = R := by omega
        have HK4 := Lib.hid (blocker_up HK.out HWF.out HF5.out)
        go_wp2_with fail
        refine HK4.out.mono ?_
        rintro e x4 ⟨rfl, hu⟩
        have HB4 := Lib.hid (HVB.out.trans (hu.2.mono HVB.out.size))
        clear hu
        go_wp2
        go_ret
        exact ⟨rfl, HB4.out⟩
end Go.Proofs.Ytdeneogbnmedkaa
