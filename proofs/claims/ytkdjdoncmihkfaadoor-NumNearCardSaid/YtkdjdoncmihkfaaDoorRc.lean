/- Walk over the document's Near. -/
import Derived.Test.YtkdjdoncmihkfaaDoorRb
import Derived.Test.YtkdjdoncmihkfaaDoorNr
namespace Go.Proofs.YtkdjdoncmihkfaaDoor
open Go.RowKit

/-- the parameter's box and the result's cells -/
structure Bx (w : World) (B : Nat) (neg : Bool) (S : Value) (x : Int) : Prop where
  n0 : w.cell? ⟨B, 0, none⟩ = some (.bool neg)
  n1 : w.cell? ⟨B, 1, none⟩ = some S
  n2 : w.cell? ⟨B, 2, none⟩ = some (.int .i64 x)
  m0 : w.cell? ⟨B + 1, 0, none⟩ = some (.int .i64 0)
  m1 : w.cell? ⟨B + 1, 1, none⟩ = some (.int .i64 0)
  f0 : w.frozen? ⟨B + 1, 0, none⟩ = false
  f1 : w.frozen? ⟨B + 1, 1, none⟩ = false
theorem Bx.new (w : World) (neg : Bool) (S : Value) (x : Int) : Bx ((w.alloc (.cells #[.bool neg, S, .int .i64 x] 45)).alloc (.cells #[.int .i64 0, .int .i64 0] 24)) w.heap.size neg S x := by
  have h := fun (i : Nat) => ((Below.refl (w.heap.size + 1) (w.alloc (.cells #[.bool neg, S, .int .i64 x] 45))).alloc (by simp) (.cells #[.int .i64 0, .int .i64 0] 24)).cell (p := ⟨w.heap.size, i, none⟩) (by simp)
  refine ⟨?_, ?_, ?_, ?_, ?_, ?_, ?_⟩
  · rw [h 0]; simp
  · rw [h 1]; simp
  · rw [h 2]; simp
  all_goals (rw [show w.heap.size + 1 = (w.alloc (.cells #[.bool neg, S, .int .i64 x] 45)).heap.size by simp]; simp)
theorem Bx.below {w w' : World} {B : Nat} {neg : Bool} {S : Value} {x : Int} {C : Nat} (h : Bx w B neg S x) (hb : Below C w w') (hC : B + 1 < C) : Bx w' B neg S x :=
  ⟨(hb.cell (p := ⟨B, 0, none⟩) (by show B < C; omega)).trans h.n0, (hb.cell (p := ⟨B, 1, none⟩) (by show B < C; omega)).trans h.n1, (hb.cell (p := ⟨B, 2, none⟩) (by show B < C; omega)).trans h.n2, (hb.cell (p := ⟨B + 1, 0, none⟩) hC).trans h.m0, (hb.cell (p := ⟨B + 1, 1, none⟩) hC).trans h.m1, (hb.frozen (p := ⟨B + 1, 0, none⟩) hC).trans h.f0, (hb.frozen (p := ⟨B + 1, 1, none⟩) hC).trans h.f1⟩
theorem nslot {W w : World} {C D : Nat} (h : Below C W w) (hD : C ≤ D) (u v : Value) : Below C W ((w.setCell ⟨D, 0, none⟩ u).setCell ⟨D, 1, none⟩ v) :=
  (h.setCell (p := ⟨D, 0, none⟩) hD u).setCell (p := ⟨D, 1, none⟩) hD v
theorem two_below (w : World) (o p : Obj) : Below w.heap.size w ((w.alloc o).alloc p) := ((Below.refl _ _).alloc (Nat.le_refl _) _).alloc (by simp) _

set_option maxRecDepth 1000000 in
set_option maxHeartbeats 8000000 in
theorem near_any (neg : Bool) (A : Option Addr) (l : List UInt8) (c : Nat) (x : Int) (M : Bool) (w : World) (hr : RdD w A l) (hc : l.length ≤ c) (hcm : c ≤ 9223372036854775807) (hlm : l.length ≤ 100000) (hdl : Dig l) (hx0 : -100000 ≤ x) (hx1 : x ≤ 100000) :
    Calls Tryd.prog 49 #[.agg #[.bool neg, .slice A l.length c, .int .i64 x], .bool M] w fun e w' => e = .returned (numR (nearM neg (valN l) x M)) ∧ Below w.heap.size w w' := by
  rw [← strip_val l, ← near_val neg x M (strip_dig hdl) (strip_nz l)]
  have hDl := strip_length l
  have hDd := strip_dig hdl
  obtain ⟨D, hDe⟩ : ∃ D, D = strip l := ⟨_, rfl⟩
  rw [← hDe] at hDl hDd ⊢
  have H1 : Hid (∀ o p, Calls Tryd.prog 57 #[.slice A l.length c] ((w.alloc o).alloc p) (SlD ((w.alloc o).alloc p) D)) := by
    intro o p
    have := rstrip_any A l c ((w.alloc o).alloc p) (hr.below (two_below _ _ _)) hc hcm
    rw [← hDe] at this; exact this
  have hDm : D.length ≤ 100000 := by omega
  have hdd : D.length < 9223372036854775807 := by omega
  clear hr hDe hDl hdl hc hcm hlm
  obtain ⟨n, hn⟩ : ∃ n, n = l.length := ⟨_, rfl⟩
  rw [← hn] at H1 ⊢
  clear hn
  obtain ⟨S0, hS0⟩ : ∃ S0, S0 = Value.slice A n c := ⟨_, rfl⟩
  rw [← hS0] at H1 ⊢
  clear hS0
  have l1 := near1_len D M
  have d1 : Dig (near1 D M) := by
    unfold near1; split
    · exact (rcut_val hDd (by omega) M).2.1
    · exact hDd
  have C1 : Hid (15 < D.length → ∀ (A1 : Option Addr) (c1 : Nat) (w1 : World), RdD w1 A1 D → D.length ≤ c1 → Calls Tryd.prog 76 #[.slice A1 D.length c1, .int .i64 ((D.length : Int) - 15), .bool M] w1 (SlD w1 (near1 D M))) := by
    intro h A1 c1 w1 h1 h2
    have := rcut_any A1 D c1 (D.length - 15) M w1 h1 h2 hDm (by omega) hDd
    rw [show ((D.length - 15 : Nat) : Int) = (D.length : Int) - 15 by omega] at this
    unfold near1; rw [if_pos h]; exact this
  have N1 : Hid (¬ 15 < D.length → near1 D M = D) := fun h => by unfold near1; rw [if_neg h]
  obtain ⟨D1, hD1⟩ : ∃ D1, D1 = near1 D M := ⟨_, rfl⟩
  rw [← hD1] at C1 N1 l1 d1 ⊢
  obtain ⟨x1, hx1e⟩ : ∃ x1, x1 = x + ((D.length - 15 : Nat) : Int) := ⟨_, rfl⟩
  rw [← hx1e]
  have xl : -100000 ≤ x1 := by omega
  have xu : x1 ≤ 200000 := by omega
  have X1 : Hid (15 < D.length → x + ((D.length : Int) - 15) = x1) := fun h => by omega
  have X0 : Hid (¬ 15 < D.length → x = x1) := fun h => by omega
  clear hx1e hD1 hDd
  have l2 := near2_len D1 x1
  have C2 : Hid (x1 < -40 ∧ D1 ≠ [] → ∀ (A1 : Option Addr) (c1 : Nat) (w1 : World), RdD w1 A1 D1 → D1.length ≤ c1 → Calls Tryd.prog 76 #[.slice A1 D1.length c1, .int .i64 (-40 - x1), .bool false] w1 (SlD w1 (near2 D1 x1).1)) := by
    intro h A1 c1 w1 h1 h2
    have := rcut_any A1 D1 c1 (-40 - x1).toNat false w1 h1 h2 (by omega) (by omega) d1
    rw [show (((-40 - x1).toNat : Nat) : Int) = -40 - x1 by omega] at this
    unfold near2; rw [if_pos h]; exact this
  have N2 : Hid (¬ (x1 < -40 ∧ D1 ≠ []) → near2 D1 x1 = (D1, x1)) := fun h => by unfold near2; rw [if_neg h]
  have Y2 : Hid (x1 < -40 ∧ D1 ≠ [] → (near2 D1 x1).2 = -40) := fun h => by unfold near2; rw [if_pos h]
  obtain ⟨⟨D2, e2⟩, hp2⟩ : ∃ p, p = near2 D1 x1 := ⟨_, rfl⟩
  rw [← hp2] at C2 N2 Y2 l2 ⊢
  simp only at C2 Y2 l2
  clear hp2 d1
  have l3 : D2.length ≤ 16 := by omega
  rw [trim]
  simp only
  obtain ⟨T, hT⟩ : ∃ T, T = trimz D2.length D2 e2 := ⟨_, rfl⟩
  rw [← hT]
  have HT := Lib.hid hT
  clear hT
  obtain ⟨FT, hFT⟩ : ∃ FT, FT = finish neg T.1 T.2 := ⟨_, rfl⟩
  rw [← hFT]
  have HF := Lib.hid hFT
  clear hFT l2
  have HB := Lib.hid (Bx.new w neg S0 x)
  go_enter Tryd.func49, Tryd.ntmps49
  go_wp2_with fail
  refine (H1.out _ _).mono ?_
  rintro e w1 ⟨A1, c1, rfl, q1, q0, q2, q3⟩
  have S := HB.out.below q3 (by simp)
  have q4 : Below w.heap.size w w1 := (two_below _ _ _).trans (q3.mono (by simp; omega))
  have hz : w.heap.size + 1 < w1.heap.size := by have := q3.size; simp at this; omega
  clear q3
  by_cases h15 : 15 < D.length
  · have K1 := Lib.hid (C1.out h15 A1 c1 w1 q2 q1)
    have hX := X1.out h15
    have HS := Lib.hid S
    obtain ⟨n0, n1, n2, m0, m1, f0, f1⟩ := S
    go_wp2_with fail
    refine K1.out.mono ?_
    rintro e w2 ⟨A2, c2, rfl, q5, q6, q7, q8⟩
    have S2 := HS.out.below q8 hz
    have q9 := q4.trans (q8.mono (by omega))
    have hz2 : w.heap.size + 1 < w2.heap.size := by have := q8.size; omega
    clear n0 n1 n2 m0 m1 f0 f1 HS K1 q8 q4 hz q2 q1 q0
    by_cases h2 : x1 < -40 ∧ D1 ≠ []
    · have h2a : x1 < -40 := h2.1
      have h2b : 0 < D1.length := List.length_pos_iff.2 h2.2
      obtain rfl : e2 = -40 := Y2.out h2
      have K2 := Lib.hid (C2.out h2 A2 c2 w2 q7 q5)
      have HS := Lib.hid S2
      obtain ⟨n0, n1, n2, m0, m1, f0, f1⟩ := S2
      clear h2
      go_wp2_with fail
      refine K2.out.mono ?_
      rintro e w3 ⟨A3, c3, rfl, t1, t2, t3, t4⟩
      have S3 := HS.out.below t4 hz2
      have t5 := q9.trans (t4.mono (by omega))
      clear n0 n1 n2 m0 m1 f0 f1 HS K2
      go_wp2_with fail
      go_loopw [6, 7] (fun s y wr => ∃ (A' : Option Addr) (c' : Nat) (l' : List UInt8) (e' : Int), s = .slice A' l'.length c' ∧ y = .int .i64 e' ∧ l'.length ≤ c' ∧ c' ≤ 9223372036854775807 ∧ RdD wr A' l' ∧ Below w.heap.size w wr ∧ Bx wr w.heap.size neg S0 x ∧ Hid (trimz l'.length l' e' = T) ∧ l'.length ≤ 16 ∧ -200000 ≤ e' ∧ e' + l'.length ≤ 300000) (fun s _ _ => lenOf s)
      case atStart => exact ⟨A3, c3, D2, -40, rfl, rfl, t1, t2, t3, t5, S3, HT.out.symm, l3, by omega, by omega⟩
      case round =>
        obtain ⟨A', c', l', e', rfl, rfl, r1, r2, r3, r4, r5, r6, r7, r8, r9⟩ := hrel
        clear t1 t2 t3 t4 t5 S3 h2a h2b q5 q6 q7 q9 hz2 h15 hX HT l1 l3 xl xu C1 C2 N1 N2 X1 X0 Y2 HB H1
        obtain ⟨n0, n1, n2, m0, m1, f0, f1⟩ := (show Bx _ _ _ _ _ from r5)
        rcases snoc_cases l' with rfl | ⟨t, y, rfl⟩
        · have eT : FT = (0, 0, true) := by rw [HF.out, ← (show _ = _ from r6), trimz_nil]; exact finish_nil _ _
          subst eT
          clear r6 r7 r3 HF r5 n0 n1 n2
          go_wp2
          refine bodyPost_ret (v := numR (0, 0, true)) (by simp [numR, numV, results, Tryd.results49, go_sem, m0, m1]) rfl ⟨rfl, ?_⟩
          exact nslot r4 (by omega) _ _
        · obtain ⟨b, off, rfl, hlt, hcells⟩ := r3 (by simp)
          have hc0 : wr.cell? ⟨b, off + t.length, none⟩ = some (.int .i64 (y.toNat : Int)) := hcells t.length y (by simp)
          have hy := y.toNat_lt
          have hlen : (t ++ [y]).length = t.length + 1 := by simp
          have HC := Lib.hid hcells
          have HL := Lib.hid hlen
          have HR5 := Lib.hid r5
          rw [hlen] at r1 r7 r9 ⊢
          have hw : IntKind.i64.wrap (t.length : Int) = t.length := by rw [IntKind.wrap_i64]; omega
          clear hcells r3 hlen r5
          by_cases hy0 : y = 0
          · have h0 : ((y.toNat : Int) == 0) = true := by rw [hy0]; rfl
            have r6' : Hid (trimz t.length t (e' + 1) = T) := by
              have := r6
              rw [hy0] at this
              show _ = _
              rw [← (show _ = _ from this), trimz_go]
            clear r6 hy0
            go_wp2
            go_roundw
            case rel =>
              refine ⟨_, c', t, e' + 1, rfl, rfl, by omega, r2, ?_, r4, HR5.out, r6', by omega, by omega, by omega⟩
              intro _
              refine ⟨b, off, rfl, hlt, fun j z hz => HC.out j z ?_⟩
              have := (List.getElem?_eq_some_iff.1 hz).1
              rw [List.getElem?_append_left this]; exact hz
            case measure => simp [lenOf]
          · have h0 : ((y.toNat : Int) == 0) = false := by
              rw [beq_eq_false_iff_ne]; intro e; exact hy0 (UInt8.toNat_inj.1 (show y.toNat = 0 by omega))
            have r6' : Hid (T = (t ++ [y], e')) := by
              have := r6
              rw [trimz_stop t y e' hy0] at this
              exact (show _ = _ from this).symm
            have hne : (((t.length : Int) + 1) == 0) = false := by rw [beq_eq_false_iff_ne]; omega
            clear r6 hy0
            by_cases hfar : 40 < (t.length : Int) + 1 + e'
            · have eT : FT = (0, 0, false) := by
                rw [HF.out, (show _ = _ from r6')]
                exact finish_far _ _ _ _ (by rw [HL.out]; omega)
              subst eT
              clear r6' HF
              go_wp2
              refine bodyPost_ret (v := numR (0, 0, false)) (by simp [numR, numV, results, Tryd.results49, go_sem, m0, m1]) rfl ⟨rfl, ?_⟩
              exact nslot r4 (by omega) _ _
            · have eT : FT = (if neg then -valL (t ++ [y]) else valL (t ++ [y]), e', true) := by
                rw [HF.out, (show _ = _ from r6')]
                exact finish_ok _ _ _ _ (by rw [HL.out]; omega)
              have HE := Lib.hid eT
              clear r6' HF eT
              go_wp2
              go_loop [10, 11] (fun m i => ∃ j : Nat, j ≤ t.length + 1 ∧ m = .int .i64 (valL ((t ++ [y]).take j)) ∧ i = .int .i64 j) (fun _ i => t.length + 1 - (intOf i).toNat)
              case atStart => exact ⟨0, by omega, rfl, rfl⟩
              case round =>
                obtain ⟨j, hj, rfl, rfl⟩ := hrel
                obtain ⟨vb0, vb1, vb2⟩ := valL_le (t ++ [y]) j (by omega)
                by_cases hjl : j < t.length + 1
                · have hjL : j < (t ++ [y]).length := by rw [HL.out]; exact hjl
                  have hcj : wr.cell? ⟨b, off + j, none⟩ = some (.int .i64 (((t ++ [y])[j]).toNat : Int)) := HC.out j _ (List.getElem?_eq_getElem hjL)
                  have hst : valL ((t ++ [y]).take (j + 1)) = valL ((t ++ [y]).take j) * 10 + (((t ++ [y])[j]).toNat : Int) := by
                    rw [List.take_succ_eq_append_getElem hjL, valL_snoc]
                  have hz256 := ((t ++ [y])[j]).toNat_lt
                  obtain ⟨z, hz⟩ : ∃ z, z = (((t ++ [y])[j]).toNat : Int) := ⟨_, rfl⟩
                  have hz0 : 0 ≤ z := by omega
                  have hz1 : z < 256 := by omega
                  rw [← hz] at hcj hst
                  obtain ⟨V, hV⟩ : ∃ V, V = valL ((t ++ [y]).take j) := ⟨_, rfl⟩
                  rw [← hV] at hst vb0 vb1 vb2 ⊢
                  have vb3 : V ≤ 30000000000000000 := vb2 (by omega)
                  have HST := Lib.hid hst
                  clear hst hV hz vb2 vb1 hz256
                  go_wp2
                  go_round
                  case rel => exact ⟨j + 1, by omega, by rw [HST.out]; go_num, by go_num⟩
                  case measure => simp [intOf]; omega
                · have hj2 : (t ++ [y]).take j = t ++ [y] := List.take_of_length_le (by rw [HL.out]; omega)
                  rw [hj2] at vb0 vb1 ⊢
                  obtain ⟨V, hV⟩ : ∃ V, V = valL (t ++ [y]) := ⟨_, rfl⟩
                  rw [← hV] at HE vb0 vb1 ⊢
                  clear hj2 vb2 hV
                  cases neg with
                  | true =>
                    have eT : FT = (-V, e', true) := HE.out
                    subst eT
                    clear HE
                    go_wp2
                    refine bodyPost_ret (v := numR (-V, e', true)) (by simp [numR, numV, results, Tryd.results49, go_sem, m0, m1]) rfl ⟨rfl, ?_⟩
                    exact nslot r4 (by omega) _ _
                  | false =>
                    have eT : FT = (V, e', true) := HE.out
                    subst eT
                    clear HE
                    go_wp2
                    refine bodyPost_ret (v := numR (V, e', true)) (by simp [numR, numV, results, Tryd.results49, go_sem, m0, m1]) rfl ⟨rfl, ?_⟩
                    exact nslot r4 (by omega) _ _
    · have hDE : D1 = D2 ∧ x1 = e2 := by have := N2.out h2; simp only [Prod.mk.injEq] at this; exact ⟨this.1.symm, this.2.symm⟩
      obtain ⟨rfl, rfl⟩ := hDE
      have HS := Lib.hid S2
      obtain ⟨n0, n1, n2, m0, m1, f0, f1⟩ := S2
      by_cases h2a : x1 < -40
      · have h2b : ¬ 0 < D1.length := fun h => h2 ⟨h2a, List.length_pos_iff.1 h⟩
        clear h2
        go_wp2_with fail
        go_loopw [6, 7] (fun s y wr => ∃ (A' : Option Addr) (c' : Nat) (l' : List UInt8) (e' : Int), s = .slice A' l'.length c' ∧ y = .int .i64 e' ∧ l'.length ≤ c' ∧ c' ≤ 9223372036854775807 ∧ RdD wr A' l' ∧ Below w.heap.size w wr ∧ Bx wr w.heap.size neg S0 x ∧ Hid (trimz l'.length l' e' = T) ∧ l'.length ≤ 16 ∧ -200000 ≤ e' ∧ e' + l'.length ≤ 300000) (fun s _ _ => lenOf s)
        case atStart => exact ⟨A2, c2, D1, x1, rfl, rfl, q5, q6, q7, q9, HS.out, HT.out.symm, l3, by omega, by omega⟩
        case round =>
          obtain ⟨A', c', l', e', rfl, rfl, r1, r2, r3, r4, r5, r6, r7, r8, r9⟩ := hrel
          clear n0 n1 n2 m0 m1 f0 f1 h2a h2b HS q5 q6 q7 q9 hz2 h15 hX HT l1 l3 xl xu C1 C2 N1 N2 X1 X0 Y2 HB H1
          obtain ⟨n0, n1, n2, m0, m1, f0, f1⟩ := (show Bx _ _ _ _ _ from r5)
          rcases snoc_cases l' with rfl | ⟨t, y, rfl⟩
          · have eT : FT = (0, 0, true) := by rw [HF.out, ← (show _ = _ from r6), trimz_nil]; exact finish_nil _ _
            subst eT
            clear r6 r7 r3 HF r5 n0 n1 n2
            go_wp2
            refine bodyPost_ret (v := numR (0, 0, true)) (by simp [numR, numV, results, Tryd.results49, go_sem, m0, m1]) rfl ⟨rfl, ?_⟩
            exact nslot r4 (by omega) _ _
          · obtain ⟨b, off, rfl, hlt, hcells⟩ := r3 (by simp)
            have hc0 : wr.cell? ⟨b, off + t.length, none⟩ = some (.int .i64 (y.toNat : Int)) := hcells t.length y (by simp)
            have hy := y.toNat_lt
            have hlen : (t ++ [y]).length = t.length + 1 := by simp
            have HC := Lib.hid hcells
            have HL := Lib.hid hlen
            have HR5 := Lib.hid r5
            rw [hlen] at r1 r7 r9 ⊢
            have hw : IntKind.i64.wrap (t.length : Int) = t.length := by rw [IntKind.wrap_i64]; omega
            clear hcells r3 hlen r5
            by_cases hy0 : y = 0
            · have h0 : ((y.toNat : Int) == 0) = true := by rw [hy0]; rfl
              have r6' : Hid (trimz t.length t (e' + 1) = T) := by
                have := r6
                rw [hy0] at this
                show _ = _
                rw [← (show _ = _ from this), trimz_go]
              clear r6 hy0
              go_wp2
              go_roundw
              case rel =>
                refine ⟨_, c', t, e' + 1, rfl, rfl, by omega, r2, ?_, r4, HR5.out, r6', by omega, by omega, by omega⟩
                intro _
                refine ⟨b, off, rfl, hlt, fun j z hz => HC.out j z ?_⟩
                have := (List.getElem?_eq_some_iff.1 hz).1
                rw [List.getElem?_append_left this]; exact hz
              case measure => simp [lenOf]
            · have h0 : ((y.toNat : Int) == 0) = false := by
                rw [beq_eq_false_iff_ne]; intro e; exact hy0 (UInt8.toNat_inj.1 (show y.toNat = 0 by omega))
              have r6' : Hid (T = (t ++ [y], e')) := by
                have := r6
                rw [trimz_stop t y e' hy0] at this
                exact (show _ = _ from this).symm
              have hne : (((t.length : Int) + 1) == 0) = false := by rw [beq_eq_false_iff_ne]; omega
              clear r6 hy0
              by_cases hfar : 40 < (t.length : Int) + 1 + e'
              · have eT : FT = (0, 0, false) := by
                  rw [HF.out, (show _ = _ from r6')]
                  exact finish_far _ _ _ _ (by rw [HL.out]; omega)
                subst eT
                clear r6' HF
                go_wp2
                refine bodyPost_ret (v := numR (0, 0, false)) (by simp [numR, numV, results, Tryd.results49, go_sem, m0, m1]) rfl ⟨rfl, ?_⟩
                exact nslot r4 (by omega) _ _
              · have eT : FT = (if neg then -valL (t ++ [y]) else valL (t ++ [y]), e', true) := by
                  rw [HF.out, (show _ = _ from r6')]
                  exact finish_ok _ _ _ _ (by rw [HL.out]; omega)
                have HE := Lib.hid eT
                clear r6' HF eT
                go_wp2
                go_loop [10, 11] (fun m i => ∃ j : Nat, j ≤ t.length + 1 ∧ m = .int .i64 (valL ((t ++ [y]).take j)) ∧ i = .int .i64 j) (fun _ i => t.length + 1 - (intOf i).toNat)
                case atStart => exact ⟨0, by omega, rfl, rfl⟩
                case round =>
                  obtain ⟨j, hj, rfl, rfl⟩ := hrel
                  obtain ⟨vb0, vb1, vb2⟩ := valL_le (t ++ [y]) j (by omega)
                  by_cases hjl : j < t.length + 1
                  · have hjL : j < (t ++ [y]).length := by rw [HL.out]; exact hjl
                    have hcj : wr.cell? ⟨b, off + j, none⟩ = some (.int .i64 (((t ++ [y])[j]).toNat : Int)) := HC.out j _ (List.getElem?_eq_getElem hjL)
                    have hst : valL ((t ++ [y]).take (j + 1)) = valL ((t ++ [y]).take j) * 10 + (((t ++ [y])[j]).toNat : Int) := by
                      rw [List.take_succ_eq_append_getElem hjL, valL_snoc]
                    have hz256 := ((t ++ [y])[j]).toNat_lt
                    obtain ⟨z, hz⟩ : ∃ z, z = (((t ++ [y])[j]).toNat : Int) := ⟨_, rfl⟩
                    have hz0 : 0 ≤ z := by omega
                    have hz1 : z < 256 := by omega
                    rw [← hz] at hcj hst
                    obtain ⟨V, hV⟩ : ∃ V, V = valL ((t ++ [y]).take j) := ⟨_, rfl⟩
                    rw [← hV] at hst vb0 vb1 vb2 ⊢
                    have vb3 : V ≤ 30000000000000000 := vb2 (by omega)
                    have HST := Lib.hid hst
                    clear hst hV hz vb2 vb1 hz256
                    go_wp2
                    go_round
                    case rel => exact ⟨j + 1, by omega, by rw [HST.out]; go_num, by go_num⟩
                    case measure => simp [intOf]; omega
                  · have hj2 : (t ++ [y]).take j = t ++ [y] := List.take_of_length_le (by rw [HL.out]; omega)
                    rw [hj2] at vb0 vb1 ⊢
                    obtain ⟨V, hV⟩ : ∃ V, V = valL (t ++ [y]) := ⟨_, rfl⟩
                    rw [← hV] at HE vb0 vb1 ⊢
                    clear hj2 vb2 hV
                    cases neg with
                    | true =>
                      have eT : FT = (-V, e', true) := HE.out
                      subst eT
                      clear HE
                      go_wp2
                      refine bodyPost_ret (v := numR (-V, e', true)) (by simp [numR, numV, results, Tryd.results49, go_sem, m0, m1]) rfl ⟨rfl, ?_⟩
                      exact nslot r4 (by omega) _ _
                    | false =>
                      have eT : FT = (V, e', true) := HE.out
                      subst eT
                      clear HE
                      go_wp2
                      refine bodyPost_ret (v := numR (V, e', true)) (by simp [numR, numV, results, Tryd.results49, go_sem, m0, m1]) rfl ⟨rfl, ?_⟩
                      exact nslot r4 (by omega) _ _
      · clear h2
        go_wp2_with fail
        go_loopw [6, 7] (fun s y wr => ∃ (A' : Option Addr) (c' : Nat) (l' : List UInt8) (e' : Int), s = .slice A' l'.length c' ∧ y = .int .i64 e' ∧ l'.length ≤ c' ∧ c' ≤ 9223372036854775807 ∧ RdD wr A' l' ∧ Below w.heap.size w wr ∧ Bx wr w.heap.size neg S0 x ∧ Hid (trimz l'.length l' e' = T) ∧ l'.length ≤ 16 ∧ -200000 ≤ e' ∧ e' + l'.length ≤ 300000) (fun s _ _ => lenOf s)
        case atStart => exact ⟨A2, c2, D1, x1, rfl, rfl, q5, q6, q7, q9, HS.out, HT.out.symm, l3, by omega, by omega⟩
        case round =>
          obtain ⟨A', c', l', e', rfl, rfl, r1, r2, r3, r4, r5, r6, r7, r8, r9⟩ := hrel
          clear n0 n1 n2 m0 m1 f0 f1 h2a HS q5 q6 q7 q9 hz2 h15 hX HT l1 l3 xl xu C1 C2 N1 N2 X1 X0 Y2 HB H1
          obtain ⟨n0, n1, n2, m0, m1, f0, f1⟩ := (show Bx _ _ _ _ _ from r5)
          rcases snoc_cases l' with rfl | ⟨t, y, rfl⟩
          · have eT : FT = (0, 0, true) := by rw [HF.out, ← (show _ = _ from r6), trimz_nil]; exact finish_nil _ _
            subst eT
            clear r6 r7 r3 HF r5 n0 n1 n2
            go_wp2
            refine bodyPost_ret (v := numR (0, 0, true)) (by simp [numR, numV, results, Tryd.results49, go_sem, m0, m1]) rfl ⟨rfl, ?_⟩
            exact nslot r4 (by omega) _ _
          · obtain ⟨b, off, rfl, hlt, hcells⟩ := r3 (by simp)
            have hc0 : wr.cell? ⟨b, off + t.length, none⟩ = some (.int .i64 (y.toNat : Int)) := hcells t.length y (by simp)
            have hy := y.toNat_lt
            have hlen : (t ++ [y]).length = t.length + 1 := by simp
            have HC := Lib.hid hcells
            have HL := Lib.hid hlen
            have HR5 := Lib.hid r5
            rw [hlen] at r1 r7 r9 ⊢
            have hw : IntKind.i64.wrap (t.length : Int) = t.length := by rw [IntKind.wrap_i64]; omega
            clear hcells r3 hlen r5
            by_cases hy0 : y = 0
            · have h0 : ((y.toNat : Int) == 0) = true := by rw [hy0]; rfl
              have r6' : Hid (trimz t.length t (e' + 1) = T) := by
                have := r6
                rw [hy0] at this
                show _ = _
                rw [← (show _ = _ from this), trimz_go]
              clear r6 hy0
              go_wp2
              go_roundw
              case rel =>
                refine ⟨_, c', t, e' + 1, rfl, rfl, by omega, r2, ?_, r4, HR5.out, r6', by omega, by omega, by omega⟩
                intro _
                refine ⟨b, off, rfl, hlt, fun j z hz => HC.out j z ?_⟩
                have := (List.getElem?_eq_some_iff.1 hz).1
                rw [List.getElem?_append_left this]; exact hz
              case measure => simp [lenOf]
            · have h0 : ((y.toNat : Int) == 0) = false := by
                rw [beq_eq_false_iff_ne]; intro e; exact hy0 (UInt8.toNat_inj.1 (show y.toNat = 0 by omega))
              have r6' : Hid (T = (t ++ [y], e')) := by
                have := r6
                rw [trimz_stop t y e' hy0] at this
                exact (show _ = _ from this).symm
              have hne : (((t.length : Int) + 1) == 0) = false := by rw [beq_eq_false_iff_ne]; omega
              clear r6 hy0
              by_cases hfar : 40 < (t.length : Int) + 1 + e'
              · have eT : FT = (0, 0, false) := by
                  rw [HF.out, (show _ = _ from r6')]
                  exact finish_far _ _ _ _ (by rw [HL.out]; omega)
                subst eT
                clear r6' HF
                go_wp2
                refine bodyPost_ret (v := numR (0, 0, false)) (by simp [numR, numV, results, Tryd.results49, go_sem, m0, m1]) rfl ⟨rfl, ?_⟩
                exact nslot r4 (by omega) _ _
              · have eT : FT = (if neg then -valL (t ++ [y]) else valL (t ++ [y]), e', true) := by
                  rw [HF.out, (show _ = _ from r6')]
                  exact finish_ok _ _ _ _ (by rw [HL.out]; omega)
                have HE := Lib.hid eT
                clear r6' HF eT
                go_wp2
                go_loop [10, 11] (fun m i => ∃ j : Nat, j ≤ t.length + 1 ∧ m = .int .i64 (valL ((t ++ [y]).take j)) ∧ i = .int .i64 j) (fun _ i => t.length + 1 - (intOf i).toNat)
                case atStart => exact ⟨0, by omega, rfl, rfl⟩
                case round =>
                  obtain ⟨j, hj, rfl, rfl⟩ := hrel
                  obtain ⟨vb0, vb1, vb2⟩ := valL_le (t ++ [y]) j (by omega)
                  by_cases hjl : j < t.length + 1
                  · have hjL : j < (t ++ [y]).length := by rw [HL.out]; exact hjl
                    have hcj : wr.cell? ⟨b, off + j, none⟩ = some (.int .i64 (((t ++ [y])[j]).toNat : Int)) := HC.out j _ (List.getElem?_eq_getElem hjL)
                    have hst : valL ((t ++ [y]).take (j + 1)) = valL ((t ++ [y]).take j) * 10 + (((t ++ [y])[j]).toNat : Int) := by
                      rw [List.take_succ_eq_append_getElem hjL, valL_snoc]
                    have hz256 := ((t ++ [y])[j]).toNat_lt
                    obtain ⟨z, hz⟩ : ∃ z, z = (((t ++ [y])[j]).toNat : Int) := ⟨_, rfl⟩
                    have hz0 : 0 ≤ z := by omega
                    have hz1 : z < 256 := by omega
                    rw [← hz] at hcj hst
                    obtain ⟨V, hV⟩ : ∃ V, V = valL ((t ++ [y]).take j) := ⟨_, rfl⟩
                    rw [← hV] at hst vb0 vb1 vb2 ⊢
                    have vb3 : V ≤ 30000000000000000 := vb2 (by omega)
                    have HST := Lib.hid hst
                    clear hst hV hz vb2 vb1 hz256
                    go_wp2
                    go_round
                    case rel => exact ⟨j + 1, by omega, by rw [HST.out]; go_num, by go_num⟩
                    case measure => simp [intOf]; omega
                  · have hj2 : (t ++ [y]).take j = t ++ [y] := List.take_of_length_le (by rw [HL.out]; omega)
                    rw [hj2] at vb0 vb1 ⊢
                    obtain ⟨V, hV⟩ : ∃ V, V = valL (t ++ [y]) := ⟨_, rfl⟩
                    rw [← hV] at HE vb0 vb1 ⊢
                    clear hj2 vb2 hV
                    cases neg with
                    | true =>
                      have eT : FT = (-V, e', true) := HE.out
                      subst eT
                      clear HE
                      go_wp2
                      refine bodyPost_ret (v := numR (-V, e', true)) (by simp [numR, numV, results, Tryd.results49, go_sem, m0, m1]) rfl ⟨rfl, ?_⟩
                      exact nslot r4 (by omega) _ _
                    | false =>
                      have eT : FT = (V, e', true) := HE.out
                      subst eT
                      clear HE
                      go_wp2
                      refine bodyPost_ret (v := numR (V, e', true)) (by simp [numR, numV, results, Tryd.results49, go_sem, m0, m1]) rfl ⟨rfl, ?_⟩
                      exact nslot r4 (by omega) _ _
  · obtain rfl : D = D1 := (N1.out h15).symm
    obtain rfl : x = x1 := X0.out h15
    by_cases h2 : x < -40 ∧ D ≠ []
    · have h2a : x < -40 := h2.1
      have h2b : 0 < D.length := List.length_pos_iff.2 h2.2
      obtain rfl : e2 = -40 := Y2.out h2
      have K2 := Lib.hid (C2.out h2 A1 c1 w1 q2 q1)
      have HS := Lib.hid S
      obtain ⟨n0, n1, n2, m0, m1, f0, f1⟩ := S
      clear h2
      go_wp2_with fail
      refine K2.out.mono ?_
      rintro e w3 ⟨A3, c3, rfl, t1, t2, t3, t4⟩
      have S3 := HS.out.below t4 hz
      have t5 := q4.trans (t4.mono (by omega))
      clear n0 n1 n2 m0 m1 f0 f1 HS K2
      go_wp2_with fail
      go_loopw [6, 7] (fun s y wr => ∃ (A' : Option Addr) (c' : Nat) (l' : List UInt8) (e' : Int), s = .slice A' l'.length c' ∧ y = .int .i64 e' ∧ l'.length ≤ c' ∧ c' ≤ 9223372036854775807 ∧ RdD wr A' l' ∧ Below w.heap.size w wr ∧ Bx wr w.heap.size neg S0 x ∧ Hid (trimz l'.length l' e' = T) ∧ l'.length ≤ 16 ∧ -200000 ≤ e' ∧ e' + l'.length ≤ 300000) (fun s _ _ => lenOf s)
      case atStart => exact ⟨A3, c3, D2, -40, rfl, rfl, t1, t2, t3, t5, S3, HT.out.symm, l3, by omega, by omega⟩
      case round =>
        obtain ⟨A', c', l', e', rfl, rfl, r1, r2, r3, r4, r5, r6, r7, r8, r9⟩ := hrel
        clear t1 t2 t3 t4 t5 S3 h2a h2b q1 q0 q2 q4 hz h15 HT l1 l3 xl xu C1 C2 N1 N2 X1 X0 Y2 HB H1
        obtain ⟨n0, n1, n2, m0, m1, f0, f1⟩ := (show Bx _ _ _ _ _ from r5)
        rcases snoc_cases l' with rfl | ⟨t, y, rfl⟩
        · have eT : FT = (0, 0, true) := by rw [HF.out, ← (show _ = _ from r6), trimz_nil]; exact finish_nil _ _
          subst eT
          clear r6 r7 r3 HF r5 n0 n1 n2
          go_wp2
          refine bodyPost_ret (v := numR (0, 0, true)) (by simp [numR, numV, results, Tryd.results49, go_sem, m0, m1]) rfl ⟨rfl, ?_⟩
          exact nslot r4 (by omega) _ _
        · obtain ⟨b, off, rfl, hlt, hcells⟩ := r3 (by simp)
          have hc0 : wr.cell? ⟨b, off + t.length, none⟩ = some (.int .i64 (y.toNat : Int)) := hcells t.length y (by simp)
          have hy := y.toNat_lt
          have hlen : (t ++ [y]).length = t.length + 1 := by simp
          have HC := Lib.hid hcells
          have HL := Lib.hid hlen
          have HR5 := Lib.hid r5
          rw [hlen] at r1 r7 r9 ⊢
          have hw : IntKind.i64.wrap (t.length : Int) = t.length := by rw [IntKind.wrap_i64]; omega
          clear hcells r3 hlen r5
          by_cases hy0 : y = 0
          · have h0 : ((y.toNat : Int) == 0) = true := by rw [hy0]; rfl
            have r6' : Hid (trimz t.length t (e' + 1) = T) := by
              have := r6
              rw [hy0] at this
              show _ = _
              rw [← (show _ = _ from this), trimz_go]
            clear r6 hy0
            go_wp2
            go_roundw
            case rel =>
              refine ⟨_, c', t, e' + 1, rfl, rfl, by omega, r2, ?_, r4, HR5.out, r6', by omega, by omega, by omega⟩
              intro _
              refine ⟨b, off, rfl, hlt, fun j z hz => HC.out j z ?_⟩
              have := (List.getElem?_eq_some_iff.1 hz).1
              rw [List.getElem?_append_left this]; exact hz
            case measure => simp [lenOf]
          · have h0 : ((y.toNat : Int) == 0) = false := by
              rw [beq_eq_false_iff_ne]; intro e; exact hy0 (UInt8.toNat_inj.1 (show y.toNat = 0 by omega))
            have r6' : Hid (T = (t ++ [y], e')) := by
              have := r6
              rw [trimz_stop t y e' hy0] at this
              exact (show _ = _ from this).symm
            have hne : (((t.length : Int) + 1) == 0) = false := by rw [beq_eq_false_iff_ne]; omega
            clear r6 hy0
            by_cases hfar : 40 < (t.length : Int) + 1 + e'
            · have eT : FT = (0, 0, false) := by
                rw [HF.out, (show _ = _ from r6')]
                exact finish_far _ _ _ _ (by rw [HL.out]; omega)
              subst eT
              clear r6' HF
              go_wp2
              refine bodyPost_ret (v := numR (0, 0, false)) (by simp [numR, numV, results, Tryd.results49, go_sem, m0, m1]) rfl ⟨rfl, ?_⟩
              exact nslot r4 (by omega) _ _
            · have eT : FT = (if neg then -valL (t ++ [y]) else valL (t ++ [y]), e', true) := by
                rw [HF.out, (show _ = _ from r6')]
                exact finish_ok _ _ _ _ (by rw [HL.out]; omega)
              have HE := Lib.hid eT
              clear r6' HF eT
              go_wp2
              go_loop [10, 11] (fun m i => ∃ j : Nat, j ≤ t.length + 1 ∧ m = .int .i64 (valL ((t ++ [y]).take j)) ∧ i = .int .i64 j) (fun _ i => t.length + 1 - (intOf i).toNat)
              case atStart => exact ⟨0, by omega, rfl, rfl⟩
              case round =>
                obtain ⟨j, hj, rfl, rfl⟩ := hrel
                obtain ⟨vb0, vb1, vb2⟩ := valL_le (t ++ [y]) j (by omega)
                by_cases hjl : j < t.length + 1
                · have hjL : j < (t ++ [y]).length := by rw [HL.out]; exact hjl
                  have hcj : wr.cell? ⟨b, off + j, none⟩ = some (.int .i64 (((t ++ [y])[j]).toNat : Int)) := HC.out j _ (List.getElem?_eq_getElem hjL)
                  have hst : valL ((t ++ [y]).take (j + 1)) = valL ((t ++ [y]).take j) * 10 + (((t ++ [y])[j]).toNat : Int) := by
                    rw [List.take_succ_eq_append_getElem hjL, valL_snoc]
                  have hz256 := ((t ++ [y])[j]).toNat_lt
                  obtain ⟨z, hz⟩ : ∃ z, z = (((t ++ [y])[j]).toNat : Int) := ⟨_, rfl⟩
                  have hz0 : 0 ≤ z := by omega
                  have hz1 : z < 256 := by omega
                  rw [← hz] at hcj hst
                  obtain ⟨V, hV⟩ : ∃ V, V = valL ((t ++ [y]).take j) := ⟨_, rfl⟩
                  rw [← hV] at hst vb0 vb1 vb2 ⊢
                  have vb3 : V ≤ 30000000000000000 := vb2 (by omega)
                  have HST := Lib.hid hst
                  clear hst hV hz vb2 vb1 hz256
                  go_wp2
                  go_round
                  case rel => exact ⟨j + 1, by omega, by rw [HST.out]; go_num, by go_num⟩
                  case measure => simp [intOf]; omega
                · have hj2 : (t ++ [y]).take j = t ++ [y] := List.take_of_length_le (by rw [HL.out]; omega)
                  rw [hj2] at vb0 vb1 ⊢
                  obtain ⟨V, hV⟩ : ∃ V, V = valL (t ++ [y]) := ⟨_, rfl⟩
                  rw [← hV] at HE vb0 vb1 ⊢
                  clear hj2 vb2 hV
                  cases neg with
                  | true =>
                    have eT : FT = (-V, e', true) := HE.out
                    subst eT
                    clear HE
                    go_wp2
                    refine bodyPost_ret (v := numR (-V, e', true)) (by simp [numR, numV, results, Tryd.results49, go_sem, m0, m1]) rfl ⟨rfl, ?_⟩
                    exact nslot r4 (by omega) _ _
                  | false =>
                    have eT : FT = (V, e', true) := HE.out
                    subst eT
                    clear HE
                    go_wp2
                    refine bodyPost_ret (v := numR (V, e', true)) (by simp [numR, numV, results, Tryd.results49, go_sem, m0, m1]) rfl ⟨rfl, ?_⟩
                    exact nslot r4 (by omega) _ _
    · have hDE : D = D2 ∧ x = e2 := by have := N2.out h2; simp only [Prod.mk.injEq] at this; exact ⟨this.1.symm, this.2.symm⟩
      obtain ⟨rfl, rfl⟩ := hDE
      have HS := Lib.hid S
      obtain ⟨n0, n1, n2, m0, m1, f0, f1⟩ := S
      by_cases h2a : x < -40
      · have h2b : ¬ 0 < D.length := fun h => h2 ⟨h2a, List.length_pos_iff.1 h⟩
        clear h2
        go_wp2_with fail
        go_loopw [6, 7] (fun s y wr => ∃ (A' : Option Addr) (c' : Nat) (l' : List UInt8) (e' : Int), s = .slice A' l'.length c' ∧ y = .int .i64 e' ∧ l'.length ≤ c' ∧ c' ≤ 9223372036854775807 ∧ RdD wr A' l' ∧ Below w.heap.size w wr ∧ Bx wr w.heap.size neg S0 x ∧ Hid (trimz l'.length l' e' = T) ∧ l'.length ≤ 16 ∧ -200000 ≤ e' ∧ e' + l'.length ≤ 300000) (fun s _ _ => lenOf s)
        case atStart => exact ⟨A1, c1, D, x, rfl, rfl, q1, q0, q2, q4, HS.out, HT.out.symm, l3, by omega, by omega⟩
        case round =>
          obtain ⟨A', c', l', e', rfl, rfl, r1, r2, r3, r4, r5, r6, r7, r8, r9⟩ := hrel
          clear n0 n1 n2 m0 m1 f0 f1 h2a h2b HS q1 q0 q2 q4 hz h15 HT l1 l3 xl xu C1 C2 N1 N2 X1 X0 Y2 HB H1
          obtain ⟨n0, n1, n2, m0, m1, f0, f1⟩ := (show Bx _ _ _ _ _ from r5)
          rcases snoc_cases l' with rfl | ⟨t, y, rfl⟩
          · have eT : FT = (0, 0, true) := by rw [HF.out, ← (show _ = _ from r6), trimz_nil]; exact finish_nil _ _
            subst eT
            clear r6 r7 r3 HF r5 n0 n1 n2
            go_wp2
            refine bodyPost_ret (v := numR (0, 0, true)) (by simp [numR, numV, results, Tryd.results49, go_sem, m0, m1]) rfl ⟨rfl, ?_⟩
            exact nslot r4 (by omega) _ _
          · obtain ⟨b, off, rfl, hlt, hcells⟩ := r3 (by simp)
            have hc0 : wr.cell? ⟨b, off + t.length, none⟩ = some (.int .i64 (y.toNat : Int)) := hcells t.length y (by simp)
            have hy := y.toNat_lt
            have hlen : (t ++ [y]).length = t.length + 1 := by simp
            have HC := Lib.hid hcells
            have HL := Lib.hid hlen
            have HR5 := Lib.hid r5
            rw [hlen] at r1 r7 r9 ⊢
            have hw : IntKind.i64.wrap (t.length : Int) = t.length := by rw [IntKind.wrap_i64]; omega
            clear hcells r3 hlen r5
            by_cases hy0 : y = 0
            · have h0 : ((y.toNat : Int) == 0) = true := by rw [hy0]; rfl
              have r6' : Hid (trimz t.length t (e' + 1) = T) := by
                have := r6
                rw [hy0] at this
                show _ = _
                rw [← (show _ = _ from this), trimz_go]
              clear r6 hy0
              go_wp2
              go_roundw
              case rel =>
                refine ⟨_, c', t, e' + 1, rfl, rfl, by omega, r2, ?_, r4, HR5.out, r6', by omega, by omega, by omega⟩
                intro _
                refine ⟨b, off, rfl, hlt, fun j z hz => HC.out j z ?_⟩
                have := (List.getElem?_eq_some_iff.1 hz).1
                rw [List.getElem?_append_left this]; exact hz
              case measure => simp [lenOf]
            · have h0 : ((y.toNat : Int) == 0) = false := by
                rw [beq_eq_false_iff_ne]; intro e; exact hy0 (UInt8.toNat_inj.1 (show y.toNat = 0 by omega))
              have r6' : Hid (T = (t ++ [y], e')) := by
                have := r6
                rw [trimz_stop t y e' hy0] at this
                exact (show _ = _ from this).symm
              have hne : (((t.length : Int) + 1) == 0) = false := by rw [beq_eq_false_iff_ne]; omega
              clear r6 hy0
              by_cases hfar : 40 < (t.length : Int) + 1 + e'
              · have eT : FT = (0, 0, false) := by
                  rw [HF.out, (show _ = _ from r6')]
                  exact finish_far _ _ _ _ (by rw [HL.out]; omega)
                subst eT
                clear r6' HF
                go_wp2
                refine bodyPost_ret (v := numR (0, 0, false)) (by simp [numR, numV, results, Tryd.results49, go_sem, m0, m1]) rfl ⟨rfl, ?_⟩
                exact nslot r4 (by omega) _ _
              · have eT : FT = (if neg then -valL (t ++ [y]) else valL (t ++ [y]), e', true) := by
                  rw [HF.out, (show _ = _ from r6')]
                  exact finish_ok _ _ _ _ (by rw [HL.out]; omega)
                have HE := Lib.hid eT
                clear r6' HF eT
                go_wp2
                go_loop [10, 11] (fun m i => ∃ j : Nat, j ≤ t.length + 1 ∧ m = .int .i64 (valL ((t ++ [y]).take j)) ∧ i = .int .i64 j) (fun _ i => t.length + 1 - (intOf i).toNat)
                case atStart => exact ⟨0, by omega, rfl, rfl⟩
                case round =>
                  obtain ⟨j, hj, rfl, rfl⟩ := hrel
                  obtain ⟨vb0, vb1, vb2⟩ := valL_le (t ++ [y]) j (by omega)
                  by_cases hjl : j < t.length + 1
                  · have hjL : j < (t ++ [y]).length := by rw [HL.out]; exact hjl
                    have hcj : wr.cell? ⟨b, off + j, none⟩ = some (.int .i64 (((t ++ [y])[j]).toNat : Int)) := HC.out j _ (List.getElem?_eq_getElem hjL)
                    have hst : valL ((t ++ [y]).take (j + 1)) = valL ((t ++ [y]).take j) * 10 + (((t ++ [y])[j]).toNat : Int) := by
                      rw [List.take_succ_eq_append_getElem hjL, valL_snoc]
                    have hz256 := ((t ++ [y])[j]).toNat_lt
                    obtain ⟨z, hz⟩ : ∃ z, z = (((t ++ [y])[j]).toNat : Int) := ⟨_, rfl⟩
                    have hz0 : 0 ≤ z := by omega
                    have hz1 : z < 256 := by omega
                    rw [← hz] at hcj hst
                    obtain ⟨V, hV⟩ : ∃ V, V = valL ((t ++ [y]).take j) := ⟨_, rfl⟩
                    rw [← hV] at hst vb0 vb1 vb2 ⊢
                    have vb3 : V ≤ 30000000000000000 := vb2 (by omega)
                    have HST := Lib.hid hst
                    clear hst hV hz vb2 vb1 hz256
                    go_wp2
                    go_round
                    case rel => exact ⟨j + 1, by omega, by rw [HST.out]; go_num, by go_num⟩
                    case measure => simp [intOf]; omega
                  · have hj2 : (t ++ [y]).take j = t ++ [y] := List.take_of_length_le (by rw [HL.out]; omega)
                    rw [hj2] at vb0 vb1 ⊢
                    obtain ⟨V, hV⟩ : ∃ V, V = valL (t ++ [y]) := ⟨_, rfl⟩
                    rw [← hV] at HE vb0 vb1 ⊢
                    clear hj2 vb2 hV
                    cases neg with
                    | true =>
                      have eT : FT = (-V, e', true) := HE.out
                      subst eT
                      clear HE
                      go_wp2
                      refine bodyPost_ret (v := numR (-V, e', true)) (by simp [numR, numV, results, Tryd.results49, go_sem, m0, m1]) rfl ⟨rfl, ?_⟩
                      exact nslot r4 (by omega) _ _
                    | false =>
                      have eT : FT = (V, e', true) := HE.out
                      subst eT
                      clear HE
                      go_wp2
                      refine bodyPost_ret (v := numR (V, e', true)) (by simp [numR, numV, results, Tryd.results49, go_sem, m0, m1]) rfl ⟨rfl, ?_⟩
                      exact nslot r4 (by omega) _ _
      · clear h2
        go_wp2_with fail
        go_loopw [6, 7] (fun s y wr => ∃ (A' : Option Addr) (c' : Nat) (l' : List UInt8) (e' : Int), s = .slice A' l'.length c' ∧ y = .int .i64 e' ∧ l'.length ≤ c' ∧ c' ≤ 9223372036854775807 ∧ RdD wr A' l' ∧ Below w.heap.size w wr ∧ Bx wr w.heap.size neg S0 x ∧ Hid (trimz l'.length l' e' = T) ∧ l'.length ≤ 16 ∧ -200000 ≤ e' ∧ e' + l'.length ≤ 300000) (fun s _ _ => lenOf s)
        case atStart => exact ⟨A1, c1, D, x, rfl, rfl, q1, q0, q2, q4, HS.out, HT.out.symm, l3, by omega, by omega⟩
        case round =>
          obtain ⟨A', c', l', e', rfl, rfl, r1, r2, r3, r4, r5, r6, r7, r8, r9⟩ := hrel
          clear n0 n1 n2 m0 m1 f0 f1 h2a HS q1 q0 q2 q4 hz h15 HT l1 l3 xl xu C1 C2 N1 N2 X1 X0 Y2 HB H1
          obtain ⟨n0, n1, n2, m0, m1, f0, f1⟩ := (show Bx _ _ _ _ _ from r5)
          rcases snoc_cases l' with rfl | ⟨t, y, rfl⟩
          · have eT : FT = (0, 0, true) := by rw [HF.out, ← (show _ = _ from r6), trimz_nil]; exact finish_nil _ _
            subst eT
            clear r6 r7 r3 HF r5 n0 n1 n2
            go_wp2
            refine bodyPost_ret (v := numR (0, 0, true)) (by simp [numR, numV, results, Tryd.results49, go_sem, m0, m1]) rfl ⟨rfl, ?_⟩
            exact nslot r4 (by omega) _ _
          · obtain ⟨b, off, rfl, hlt, hcells⟩ := r3 (by simp)
            have hc0 : wr.cell? ⟨b, off + t.length, none⟩ = some (.int .i64 (y.toNat : Int)) := hcells t.length y (by simp)
            have hy := y.toNat_lt
            have hlen : (t ++ [y]).length = t.length + 1 := by simp
            have HC := Lib.hid hcells
            have HL := Lib.hid hlen
            have HR5 := Lib.hid r5
            rw [hlen] at r1 r7 r9 ⊢
            have hw : IntKind.i64.wrap (t.length : Int) = t.length := by rw [IntKind.wrap_i64]; omega
            clear hcells r3 hlen r5
            by_cases hy0 : y = 0
            · have h0 : ((y.toNat : Int) == 0) = true := by rw [hy0]; rfl
              have r6' : Hid (trimz t.length t (e' + 1) = T) := by
                have := r6
                rw [hy0] at this
                show _ = _
                rw [← (show _ = _ from this), trimz_go]
              clear r6 hy0
              go_wp2
              go_roundw
              case rel =>
                refine ⟨_, c', t, e' + 1, rfl, rfl, by omega, r2, ?_, r4, HR5.out, r6', by omega, by omega, by omega⟩
                intro _
                refine ⟨b, off, rfl, hlt, fun j z hz => HC.out j z ?_⟩
                have := (List.getElem?_eq_some_iff.1 hz).1
                rw [List.getElem?_append_left this]; exact hz
              case measure => simp [lenOf]
            · have h0 : ((y.toNat : Int) == 0) = false := by
                rw [beq_eq_false_iff_ne]; intro e; exact hy0 (UInt8.toNat_inj.1 (show y.toNat = 0 by omega))
              have r6' : Hid (T = (t ++ [y], e')) := by
                have := r6
                rw [trimz_stop t y e' hy0] at this
                exact (show _ = _ from this).symm
              have hne : (((t.length : Int) + 1) == 0) = false := by rw [beq_eq_false_iff_ne]; omega
              clear r6 hy0
              by_cases hfar : 40 < (t.length : Int) + 1 + e'
              · have eT : FT = (0, 0, false) := by
                  rw [HF.out, (show _ = _ from r6')]
                  exact finish_far _ _ _ _ (by rw [HL.out]; omega)
                subst eT
                clear r6' HF
                go_wp2
                refine bodyPost_ret (v := numR (0, 0, false)) (by simp [numR, numV, results, Tryd.results49, go_sem, m0, m1]) rfl ⟨rfl, ?_⟩
                exact nslot r4 (by omega) _ _
              · have eT : FT = (if neg then -valL (t ++ [y]) else valL (t ++ [y]), e', true) := by
                  rw [HF.out, (show _ = _ from r6')]
                  exact finish_ok _ _ _ _ (by rw [HL.out]; omega)
                have HE := Lib.hid eT
                clear r6' HF eT
                go_wp2
                go_loop [10, 11] (fun m i => ∃ j : Nat, j ≤ t.length + 1 ∧ m = .int .i64 (valL ((t ++ [y]).take j)) ∧ i = .int .i64 j) (fun _ i => t.length + 1 - (intOf i).toNat)
                case atStart => exact ⟨0, by omega, rfl, rfl⟩
                case round =>
                  obtain ⟨j, hj, rfl, rfl⟩ := hrel
                  obtain ⟨vb0, vb1, vb2⟩ := valL_le (t ++ [y]) j (by omega)
                  by_cases hjl : j < t.length + 1
                  · have hjL : j < (t ++ [y]).length := by rw [HL.out]; exact hjl
                    have hcj : wr.cell? ⟨b, off + j, none⟩ = some (.int .i64 (((t ++ [y])[j]).toNat : Int)) := HC.out j _ (List.getElem?_eq_getElem hjL)
                    have hst : valL ((t ++ [y]).take (j + 1)) = valL ((t ++ [y]).take j) * 10 + (((t ++ [y])[j]).toNat : Int) := by
                      rw [List.take_succ_eq_append_getElem hjL, valL_snoc]
                    have hz256 := ((t ++ [y])[j]).toNat_lt
                    obtain ⟨z, hz⟩ : ∃ z, z = (((t ++ [y])[j]).toNat : Int) := ⟨_, rfl⟩
                    have hz0 : 0 ≤ z := by omega
                    have hz1 : z < 256 := by omega
                    rw [← hz] at hcj hst
                    obtain ⟨V, hV⟩ : ∃ V, V = valL ((t ++ [y]).take j) := ⟨_, rfl⟩
                    rw [← hV] at hst vb0 vb1 vb2 ⊢
                    have vb3 : V ≤ 30000000000000000 := vb2 (by omega)
                    have HST := Lib.hid hst
                    clear hst hV hz vb2 vb1 hz256
                    go_wp2
                    go_round
                    case rel => exact ⟨j + 1, by omega, by rw [HST.out]; go_num, by go_num⟩
                    case measure => simp [intOf]; omega
                  · have hj2 : (t ++ [y]).take j = t ++ [y] := List.take_of_length_le (by rw [HL.out]; omega)
                    rw [hj2] at vb0 vb1 ⊢
                    obtain ⟨V, hV⟩ : ∃ V, V = valL (t ++ [y]) := ⟨_, rfl⟩
                    rw [← hV] at HE vb0 vb1 ⊢
                    clear hj2 vb2 hV
                    cases neg with
                    | true =>
                      have eT : FT = (-V, e', true) := HE.out
                      subst eT
                      clear HE
                      go_wp2
                      refine bodyPost_ret (v := numR (-V, e', true)) (by simp [numR, numV, results, Tryd.results49, go_sem, m0, m1]) rfl ⟨rfl, ?_⟩
                      exact nslot r4 (by omega) _ _
                    | false =>
                      have eT : FT = (V, e', true) := HE.out
                      subst eT
                      clear HE
                      go_wp2
                      refine bodyPost_ret (v := numR (V, e', true)) (by simp [numR, numV, results, Tryd.results49, go_sem, m0, m1]) rfl ⟨rfl, ?_⟩
                      exact nslot r4 (by omega) _ _
end Go.Proofs.YtkdjdoncmihkfaaDoor
