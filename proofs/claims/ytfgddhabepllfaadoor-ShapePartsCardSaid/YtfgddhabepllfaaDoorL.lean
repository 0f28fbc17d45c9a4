/- The functions of places that build is handed, which ask others: Beside's; Spread. -/
import Derived.Test.YtfgddhabepllfaaDoorJ
namespace Go.Proofs.YtfgddhabepllfaaDoor
open Go.RowKit

def atB (R C i j : Nat) : Bool := decide (i < R ∧ j < C)
def atV (R C : Nat) (l : List Vl) (i j : Nat) : Vl := if atB R C i j then gt l (i * C + j) else zV
theorem at_nat {R C n : Nat} {l : List Vl} {v : Value} (i j : Nat) (hl : l.length = R * C) (hRC : R * C ≤ 4096) (w : World) (hn : n ≤ w.heap.size) (hv : ValAt n w v l) :
    Calls Tryd.prog 54 #[arV R C v, .int .i64 (i : Int), .int .i64 (j : Int)] w fun e w' => e = .returned (.tuple #[vV (atV R C l i j), .bool (atB R C i j)]) ∧ Below w.heap.size w w' := by
  by_cases h : i < R ∧ j < C
  · have hb : atB R C i j = true := decide_eq_true h
    unfold atV
    rw [hb, if_pos rfl]
    exact at_in h.1 h.2 hl hRC w hn hv
  · have hb : atB R C i j = false := decide_eq_false h
    unfold atV
    rw [hb, if_neg (by decide)]
    refine at_out _ _ ?_ w
    by_cases h1 : i < R
    · exact .inr (.inr (.inr ⟨by omega, by omega, by omega, by omega⟩))
    · exact .inr (.inr (.inl ⟨by omega, by omega, by omega⟩))
theorem box_kept {w w' : World} {b n : Nat} {o : Obj} (h : w.heap[b]? = some o) (hb : Below n w w') (hn : w.heap.size ≤ n) : w'.heap[b]? = some o := (hb.block b (by have := (Array.getElem?_eq_some_iff.1 h).1; omega)).trans h
set_option maxRecDepth 100000 in
set_option maxHeartbeats 2000000 in
theorem bes1_any {ra ca rb cb i j n ba bb : Nat} {la lb : List Vl} {va vb : Value} (hj : j < ca + cb) (hla : la.length = ra * ca) (hlb : lb.length = rb * cb) (hca : ra * ca ≤ 4096) (hcb : rb * cb ≤ 4096) (hc4 : ca + cb ≤ 4096) (w : World) (he : Env w) (hn : n ≤ w.heap.size)
    (hba : w.heap[ba]? = some (.cells #[.int .i64 (ra : Int), .int .i64 (ca : Int), va] 25 (0, 0))) (hbb : w.heap[bb]? = some (.cells #[.int .i64 (rb : Int), .int .i64 (cb : Int), vb] 25 (0, 0))) (hva : ValAt n w va la) (hvb : ValAt n w vb lb) :
    Calls Tryd.prog 59 #[.int .i64 (i : Int), .int .i64 (j : Int), .pointer (some ⟨ba, 0, none⟩), .pointer (some ⟨bb, 0, none⟩)] w fun e w' => e = .returned (vV (besF ra ca la rb cb lb i j)) ∧ Below w.heap.size w w' := by
  have hb0 := Nm.alloc_below w zO
  have HB0 := Lib.hid hb0
  have HE := Lib.hid he
  have HVA := Lib.hid hva
  have HVB := Lib.hid hvb
  have HBA := Lib.hid hba
  have HBB := Lib.hid hbb
  have HN := Lib.hid hn
  have HATA := Lib.hid (fun W (hW : Below w.heap.size w W) => at_nat (v := va) i j hla hca W (Nat.le_trans hn hW.size) (hva.below (hW.mono hn)))
  have HATB := Lib.hid (fun k W (hW : Below w.heap.size w W) => at_nat (v := vb) i k hlb hcb W (Nat.le_trans hn hW.size) (hvb.below (hW.mono hn)))
  obtain ⟨A1, c1, rfl, _⟩ := id hva
  obtain ⟨A2, c2, rfl, _⟩ := id hvb
  have HZ0 := Lib.hid (heap_alloc_new w zO)
  have hd0 := box_kept hba hb0 (Nat.le_refl _)
  have HD0 := Lib.hid hd0
  obtain ⟨a0, a1, a2, _⟩ := box3 hd0
  obtain ⟨R0, hR0⟩ : ∃ r, besF ra ca la rb cb lb i j = r := ⟨_, rfl⟩
  rw [hR0]
  have HR0 := Lib.hid hR0
  obtain ⟨okA, hokA⟩ : ∃ b, atB ra ca i j = b := ⟨_, rfl⟩
  obtain ⟨⟨xk, xm, xe, xt, xb, xf⟩, hxA⟩ : ∃ x, atV ra ca la i j = x := ⟨_, rfl⟩
  rw [hokA, hxA] at HATA
  have HOKA := Lib.hid hokA
  have HXA := Lib.hid hxA
  have HNA := Lib.hid (fun W hW => bad_any 6 W hW)
  rw [fault_yes ⟨by decide, by decide⟩] at HNA
  unfold vV arV fV at *
  unfold zO at *
  simp only at HATA HATB HNA
  clear hb0 he hva hvb hba hbb hn hd0 hR0 hokA hxA hla hlb hca hcb
  by_cases hjc : j < ca
  · have hji : ¬ (ca : Int) ≤ (j : Int) := by omega
    cases okA with
    | true =>
      have hRV : R0 = ⟨xk, xm, xe, xt, xb, xf⟩ := by
        have h1 := of_decide_eq_true HOKA.out
        have h2 := HXA.out
        unfold atV at h2
        rw [HOKA.out, if_pos rfl] at h2
        rw [← HR0.out, besF_l hjc h1.1, h2]
      subst hRV
      clear hjc HOKA HXA HR0
      go_enter Tryd.func59, Tryd.ntmps59
      go_wp2_with fail
      refine (HATA.out _ HB0.out).mono ?_
      rintro e w1 ⟨rfl, hb1⟩
      have HB1 := Lib.hid (HB0.out.trans (hb1.mono HB0.out.size))
      have hz1 := box_kept HZ0.out hb1 (Nat.le_refl _)
      have hd1 := box_kept HD0.out hb1 (Nat.le_refl _)
      have HZ1 := Lib.hid hz1
      have hz2 := (Below.heap_alloc w1 (.cells #[.int .i64 xk, .int .i64 xm, .int .i64 xe, .string xt, .bool xb, .int .i64 xf] 34) _ (Array.getElem?_eq_some_iff.1 hz1).1).trans hz1
      have hd2 := (Below.heap_alloc w1 (.cells #[.int .i64 xk, .int .i64 xm, .int .i64 xe, .string xt, .bool xb, .int .i64 xf] 34) _ (Array.getElem?_eq_some_iff.1 hd1).1).trans hd1
      have HZ2 := Lib.hid hz2
      obtain ⟨z0, z1, z2, z3, z4, z5, g0, g1, g2, g3, g4, g5⟩ := box6 hz2
      obtain ⟨e0, e1, e2, _⟩ := box3 hd2
      clear hb1 hz1 hd1 hz2 hd2 a0 a1 a2
      go_wp2
      obtain ⟨r0, r1, r2, r3, r4, r5, _⟩ := box6 (set6 (.int .i64 xk) (.int .i64 xm) (.int .i64 xe) (.string xt) (.bool xb) (.int .i64 xf) HZ2.out)
      exact bodyPost_ret (v := .agg #[.int .i64 xk, .int .i64 xm, .int .i64 xe, .string xt, .bool xb, .int .i64 xf]) (by simp [results, Tryd.f59, go_sem, r0, r1, r2, r3, r4, r5]) rfl ⟨rfl, below6 _ _ _ _ _ _ (HB1.out.alloc HB1.out.size _) (Nat.le_refl _)⟩
    | false =>
      have hRV : R0 = fV 6 := by
        have h1 := of_decide_eq_false HOKA.out
        rw [← HR0.out, besF_ln hjc (fun h => h1 ⟨h, hjc⟩)]; rfl
      subst hRV
      clear hjc HOKA HXA HR0
      unfold fV
      simp only
      go_enter Tryd.func59, Tryd.ntmps59
      go_wp2_with fail
      refine (HATA.out _ HB0.out).mono ?_
      rintro e w1 ⟨rfl, hb1⟩
      have HB1 := Lib.hid (HB0.out.trans (hb1.mono HB0.out.size))
      have hz1 := box_kept HZ0.out hb1 (Nat.le_refl _)
      have hd1 := box_kept HD0.out hb1 (Nat.le_refl _)
      have hz2 := (Below.heap_alloc w1 (.cells #[.int .i64 xk, .int .i64 xm, .int .i64 xe, .string xt, .bool xb, .int .i64 xf] 34) _ (Array.getElem?_eq_some_iff.1 hz1).1).trans hz1
      have hd2 := (Below.heap_alloc w1 (.cells #[.int .i64 xk, .int .i64 xm, .int .i64 xe, .string xt, .bool xb, .int .i64 xf] 34) _ (Array.getElem?_eq_some_iff.1 hd1).1).trans hd1
      have HZ2 := Lib.hid hz2
      obtain ⟨e0, e1, e2, _⟩ := box3 hd2
      have HB2 := Lib.hid (HB1.out.alloc HB1.out.size (.cells #[.int .i64 xk, .int .i64 xm, .int .i64 xe, .string xt, .bool xb, .int .i64 xf] 34))
      clear hb1 hz1 hd1 hz2 hd2 a0 a1 a2
      go_wp2_with fail
      refine (HNA.out _ (HE.out.below HB2.out)).mono ?_
      rintro e w3 ⟨rfl, hb3⟩
      have hz3 := box_kept HZ2.out hb3 (Nat.le_refl _)
      have HZ3 := Lib.hid hz3
      have HB3 := Lib.hid (HB2.out.trans (hb3.mono HB2.out.size))
      obtain ⟨z0, z1, z2, z3, z4, z5, g0, g1, g2, g3, g4, g5⟩ := box6 hz3
      clear hb3 hz3 e0 e1 e2
      go_wp2
      obtain ⟨r0, r1, r2, r3, r4, r5, _⟩ := box6 (set6 (.int .i64 4) (.int .i64 0) (.int .i64 0) (.string bs0) (.bool false) (.int .i64 6) HZ3.out)
      exact bodyPost_ret (v := .agg #[.int .i64 4, .int .i64 0, .int .i64 0, .string bs0, .bool false, .int .i64 6]) (by simp [results, Tryd.f59, go_sem, r0, r1, r2, r3, r4, r5]) rfl ⟨rfl, below6 _ _ _ _ _ _ HB3.out (Nat.le_refl _)⟩
  · have hji : (ca : Int) ≤ (j : Int) := by omega
    obtain rfl : okA = false := by rw [← HOKA.out]; exact decide_eq_false (fun h => hjc h.2)
    obtain ⟨q, hq⟩ : ∃ q, j - ca = q := ⟨_, rfl⟩
    have hsub : IntKind.i64.wrap ((j : Int) - (ca : Int)) = (q : Int) := by rw [IntKind.wrap_i64]; omega
    have HATQ := Lib.hid (HATB.out q)
    obtain ⟨okB, hokB⟩ : ∃ b, atB rb cb i q = b := ⟨_, rfl⟩
    obtain ⟨⟨yk, ym, ye, yt, yb, yf⟩, hxB⟩ : ∃ x, atV rb cb lb i q = x := ⟨_, rfl⟩
    have hRV : R0 = if okB then ⟨yk, ym, ye, yt, yb, yf⟩ else fV 6 := by
      rw [← HR0.out]
      by_cases h : i < rb ∧ q < cb
      · have hb : atB rb cb i q = true := decide_eq_true h
        rw [hb] at hokB
        subst hokB
        unfold atV at hxB
        rw [hb, if_pos rfl] at hxB
        rw [if_pos rfl, besF_r hjc h.1 (by omega), hq, hxB]
      · have hb : atB rb cb i q = false := decide_eq_false h
        rw [hb] at hokB
        subst hokB
        rw [if_neg (by decide), besF_rn hjc (by rw [hq]; exact h)]; rfl
    rw [hokB, hxB] at HATQ
    simp only at HATQ
    have HRV := Lib.hid hRV
    clear hRV hjc HOKA HXA HR0 hokB hxB hq HATB
    go_enter Tryd.func59, Tryd.ntmps59
    go_wp2_with fail
    refine (HATA.out _ HB0.out).mono ?_
    rintro e w1 ⟨rfl, hb1⟩
    have HB1 := Lib.hid (HB0.out.trans (hb1.mono HB0.out.size))
    have hz1 := box_kept HZ0.out hb1 (Nat.le_refl _)
    have HL1 := Lib.hid (Array.getElem?_eq_some_iff.1 hz1).1
    have hd1 := box_kept HD0.out hb1 (Nat.le_refl _)
    have hz2 := (Below.heap_alloc w1 (.cells #[.int .i64 xk, .int .i64 xm, .int .i64 xe, .string xt, .bool xb, .int .i64 xf] 34) _ (Array.getElem?_eq_some_iff.1 hz1).1).trans hz1
    have hd2 := (Below.heap_alloc w1 (.cells #[.int .i64 xk, .int .i64 xm, .int .i64 xe, .string xt, .bool xb, .int .i64 xf] 34) _ (Array.getElem?_eq_some_iff.1 hd1).1).trans hd1
    have HB2 := Lib.hid (HB1.out.alloc HB1.out.size (.cells #[.int .i64 xk, .int .i64 xm, .int .i64 xe, .string xt, .bool xb, .int .i64 xf] 34))
    have hc2 := box_kept HBB.out HB2.out (Nat.le_refl _)
    have HZ2 := Lib.hid hz2
    have HY2 := Lib.hid (heap_alloc_new w1 (.cells #[.int .i64 xk, .int .i64 xm, .int .i64 xe, .string xt, .bool xb, .int .i64 xf] 34))
    obtain ⟨e0, e1, e2, _⟩ := box3 hd2
    obtain ⟨q0, q1, q2, _⟩ := box3 hc2
    clear hb1 hz1 hd1 hz2 hd2 hc2 a0 a1 a2
    go_wp2_with fail
    refine (HATQ.out _ HB2.out).mono ?_
    rintro e w3 ⟨rfl, hb3⟩
    have HZ3 := Lib.hid (box_kept HZ2.out hb3 (Nat.le_refl _))
    have hy3 := box_kept HY2.out hb3 (Nat.le_refl _)
    have HY3 := Lib.hid hy3
    have HB3 := Lib.hid (HB2.out.trans (hb3.mono HB2.out.size))
    obtain ⟨y0, y1, y2, y3, y4, y5, h0, h1, h2, h3, h4, h5⟩ := box6 hy3
    clear hb3 hy3 e0 e1 e2 q0 q1 q2
    rename_i K1 hK1 K2 hK2
    have HK1 := Lib.hid hK1
    clear hK1
    go_wp2
    have hyS := set6 (.int .i64 yk) (.int .i64 ym) (.int .i64 ye) (.string yt) (.bool yb) (.int .i64 yf) HY3.out
    have hbS := below6 (.int .i64 yk) (.int .i64 ym) (.int .i64 ye) (.string yt) (.bool yb) (.int .i64 yf) (Below.refl w1.heap.size w3) (Nat.le_refl _)
    obtain ⟨W4, hW4⟩ : ∃ W4, (((((w3.setCell ⟨w1.heap.size, 0, none⟩ (.int .i64 yk)).setCell ⟨w1.heap.size, 1, none⟩ (.int .i64 ym)).setCell ⟨w1.heap.size, 2, none⟩ (.int .i64 ye)).setCell ⟨w1.heap.size, 3, none⟩ (.string yt)).setCell ⟨w1.heap.size, 4, none⟩ (.bool yb)).setCell ⟨w1.heap.size, 5, none⟩ (.int .i64 yf) = W4 := ⟨_, rfl⟩
    rw [hW4] at hyS hbS ⊢
    have HB4 := Lib.hid (HB3.out.trans (hbS.mono (by have := HL1.out; omega)))
    have hz4 := (hbS.block w.heap.size HL1.out).trans HZ3.out
    have HZ4 := Lib.hid hz4
    obtain ⟨y0, y1, y2, y3, y4, y5, _⟩ := box6 hyS
    clear hW4 hbS h0 h1 h2 h3 h4 h5
    refine HK1.out _ _ ?_
    clear HK1
    cases okB with
    | true =>
      have hRV : R0 = ⟨yk, ym, ye, yt, yb, yf⟩ := HRV.out
      subst hRV
      obtain ⟨z0, z1, z2, z3, z4, z5, g0, g1, g2, g3, g4, g5⟩ := box6 hz4
      clear hz4
      go_wp2
      obtain ⟨r0, r1, r2, r3, r4, r5, _⟩ := box6 (set6 (.int .i64 yk) (.int .i64 ym) (.int .i64 ye) (.string yt) (.bool yb) (.int .i64 yf) HZ4.out)
      exact bodyPost_ret (v := .agg #[.int .i64 yk, .int .i64 ym, .int .i64 ye, .string yt, .bool yb, .int .i64 yf]) (by simp [results, Tryd.f59, go_sem, r0, r1, r2, r3, r4, r5]) rfl ⟨rfl, below6 _ _ _ _ _ _ HB4.out (Nat.le_refl _)⟩
    | false =>
      have hRV : R0 = fV 6 := HRV.out
      subst hRV
      try unfold fV
      try simp only
      clear hz4
      go_wp2_with fail
      refine (HNA.out _ (HE.out.below HB4.out)).mono ?_
      rintro e w5 ⟨rfl, hb5⟩
      have hz5 := box_kept HZ4.out hb5 (Nat.le_refl _)
      have HZ5 := Lib.hid hz5
      have HB5 := Lib.hid (HB4.out.trans (hb5.mono HB4.out.size))
      obtain ⟨z0, z1, z2, z3, z4, z5, g0, g1, g2, g3, g4, g5⟩ := box6 hz5
      clear hb5 hz5
      go_wp2
      obtain ⟨r0, r1, r2, r3, r4, r5, _⟩ := box6 (set6 (.int .i64 4) (.int .i64 0) (.int .i64 0) (.string bs0) (.bool false) (.int .i64 6) HZ5.out)
      exact bodyPost_ret (v := .agg #[.int .i64 4, .int .i64 0, .int .i64 0, .string bs0, .bool false, .int .i64 6]) (by simp [results, Tryd.f59, go_sem, r0, r1, r2, r3, r4, r5]) rfl ⟨rfl, below6 _ _ _ _ _ _ HB5.out (Nat.le_refl _)⟩
end Go.Proofs.YtfgddhabepllfaaDoor
