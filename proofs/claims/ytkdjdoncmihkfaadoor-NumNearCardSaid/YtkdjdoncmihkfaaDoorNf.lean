/- Walk over num.round. -/
import Derived.Test.YtkdjdoncmihkfaaDoorNe
namespace Go.Proofs.YtkdjdoncmihkfaaDoor
open Go.RowKit

/-- the two cells of a result of this call's own -/
structure Slot (w : World) (B : Nat) (m e : Int) : Prop where
  c0 : w.cell? ⟨B, 0, none⟩ = some (.int .i64 m)
  c1 : w.cell? ⟨B, 1, none⟩ = some (.int .i64 e)
  f0 : w.frozen? ⟨B, 0, none⟩ = false
  f1 : w.frozen? ⟨B, 1, none⟩ = false
theorem Slot.new (w : World) (m e : Int) : Slot (w.alloc (.cells #[.int .i64 m, .int .i64 e] 24)) w.heap.size m e := ⟨by simp, by simp, by simp, by simp⟩
theorem Slot.below {w w' : World} {B : Nat} {m e : Int} {C : Nat} (h : Slot w B m e) (hb : Below C w w') (hC : B < C) : Slot w' B m e :=
  ⟨(hb.cell (p := ⟨B, 0, none⟩) hC).trans h.c0, (hb.cell (p := ⟨B, 1, none⟩) hC).trans h.c1, (hb.frozen (p := ⟨B, 0, none⟩) hC).trans h.f0, (hb.frozen (p := ⟨B, 1, none⟩) hC).trans h.f1⟩

theorem slot_set {W w : World} {C : Nat} (h : Below C W w) (u v : Value) : Below C W ((w.setCell ⟨C, 0, none⟩ u).setCell ⟨C, 1, none⟩ v) :=
  (h.setCell (p := ⟨C, 0, none⟩) (Nat.le_refl _) u).setCell (p := ⟨C, 1, none⟩) (Nat.le_refl _) v
theorem below_slot {W w : World} {o : Obj} (h : Below (W.alloc o).heap.size (W.alloc o) w) : Below W.heap.size W w :=
  ((Below.refl _ _).alloc (Nat.le_refl _) _).trans (h.mono (by simp))

theorem round_none (neg : Bool) (A : Option Addr) (l : List UInt8) (c : Nat) (x : Int) (w : World) (hr : Rd w A l) (hc : l.length ≤ c) (hcm : c ≤ 9223372036854775807) (hs : strip l = []) :
    Calls Tryd.prog 48 #[.bool neg, .slice A l.length c, .int .i64 x] w fun e w' => e = .returned (numR (0, 0, true)) ∧ Below w.heap.size w w' := by
  have H1 : Hid (∀ o, Calls Tryd.prog 74 #[.slice A l.length c] (w.alloc o) (SlR (w.alloc o) [])) := by
    intro o
    have := strip_any A l c (w.alloc o) (hr.below ((Below.refl _ _).alloc (Nat.le_refl _) _)) hc hcm
    rw [hs] at this; exact this
  clear hr hs hc
  go_enter Tryd.func48, Tryd.ntmps48
  go_wp2_with fail
  refine (H1.out _).mono ?_
  rintro e w1 ⟨A1, c1, rfl, q1, q0, q2, q3⟩
  have S := (Slot.new w 0 0).below q3 (by simp)
  obtain ⟨m0, m1, f0, f1⟩ := S
  go_wp2
  refine bodyPost_ret (v := numR (0, 0, true)) (by simp [numR, numV, results, Tryd.results48, go_sem, m0, m1]) rfl ⟨rfl, ?_⟩
  exact slot_set (below_slot q3) _ _

theorem round_low (neg : Bool) (A : Option Addr) (l : List UInt8) (c : Nat) (x : Int) (w : World) (hr : Rd w A l) (hc : l.length ≤ c) (hcm : c ≤ 9223372036854775807) (hs : strip l ≠ []) (hx : x < -1000) :
    Calls Tryd.prog 48 #[.bool neg, .slice A l.length c, .int .i64 x] w fun e w' => e = .returned (numR (0, 0, true)) ∧ Below w.heap.size w w' := by
  have hD : 0 < (strip l).length := List.length_pos_iff.2 hs
  have hDl := strip_length l
  obtain ⟨D, hDe⟩ : ∃ D, D = strip l := ⟨_, rfl⟩
  rw [← hDe] at hD hDl
  have H1 : Hid (∀ o, Calls Tryd.prog 74 #[.slice A l.length c] (w.alloc o) (SlR (w.alloc o) D)) := by
    intro o
    have := strip_any A l c (w.alloc o) (hr.below ((Below.refl _ _).alloc (Nat.le_refl _) _)) hc hcm
    rw [← hDe] at this; exact this
  have hne : ((D.length : Int) == 0) = false := by rw [beq_eq_false_iff_ne]; omega
  clear hr hs hc hDe
  go_enter Tryd.func48, Tryd.ntmps48
  go_wp2_with fail
  refine (H1.out _).mono ?_
  rintro e w1 ⟨A1, c1, rfl, q1, q0, q2, q3⟩
  have S := (Slot.new w 0 0).below q3 (by simp)
  obtain ⟨m0, m1, f0, f1⟩ := S
  go_wp2
  refine bodyPost_ret (v := numR (0, 0, true)) (by simp [numR, numV, results, Tryd.results48, go_sem, m0, m1]) rfl ⟨rfl, ?_⟩
  exact slot_set (below_slot q3) _ _

theorem round_far (neg : Bool) (A : Option Addr) (l : List UInt8) (c : Nat) (x : Int) (w : World) (hr : Rd w A l) (hc : l.length ≤ c) (hcm : c ≤ 9223372036854775807) (hs : strip l ≠ []) (hx : 1000 < x) :
    Calls Tryd.prog 48 #[.bool neg, .slice A l.length c, .int .i64 x] w fun e w' => e = .returned (numR (0, 0, false)) ∧ Below w.heap.size w w' := by
  have hD : 0 < (strip l).length := List.length_pos_iff.2 hs
  have hDl := strip_length l
  obtain ⟨D, hDe⟩ : ∃ D, D = strip l := ⟨_, rfl⟩
  rw [← hDe] at hD hDl
  have H1 : Hid (∀ o, Calls Tryd.prog 74 #[.slice A l.length c] (w.alloc o) (SlR (w.alloc o) D)) := by
    intro o
    have := strip_any A l c (w.alloc o) (hr.below ((Below.refl _ _).alloc (Nat.le_refl _) _)) hc hcm
    rw [← hDe] at this; exact this
  have hne : ((D.length : Int) == 0) = false := by rw [beq_eq_false_iff_ne]; omega
  clear hr hs hc hDe
  go_enter Tryd.func48, Tryd.ntmps48
  go_wp2_with fail
  refine (H1.out _).mono ?_
  rintro e w1 ⟨A1, c1, rfl, q1, q0, q2, q3⟩
  have S := (Slot.new w 0 0).below q3 (by simp)
  obtain ⟨m0, m1, f0, f1⟩ := S
  go_wp2
  refine bodyPost_ret (v := numR (0, 0, false)) (by simp [numR, numV, results, Tryd.results48, go_sem, m0, m1]) rfl ⟨rfl, ?_⟩
  exact slot_set (below_slot q3) _ _
theorem trimz_nil (n : Nat) (e : Int) : trimz n [] e = ([], e) := by cases n <;> rfl
theorem trimz_go (t : List UInt8) (e : Int) : trimz (t ++ [0]).length (t ++ [0]) e = trimz t.length t (e + 1) := by
  rw [show (t ++ [(0 : UInt8)]).length = t.length + 1 by simp, trimz, if_pos List.getLast?_concat, List.dropLast_concat]
theorem trimz_stop (t : List UInt8) (y : UInt8) (e : Int) (h : y ≠ 0) : trimz (t ++ [y]).length (t ++ [y]) e = (t ++ [y], e) := by
  rw [show (t ++ [y]).length = t.length + 1 by simp, trimz, if_neg (by rw [List.getLast?_concat]; simpa using h)]
theorem snoc_cases (l : List UInt8) : l = [] ∨ ∃ t y, l = t ++ [y] := by
  by_cases h : l = []
  · exact .inl h
  · exact .inr ⟨_, _, (List.dropLast_concat_getLast h).symm⟩

theorem valL_le (l : List UInt8) (j : Nat) (hj : j ≤ 16) : 0 ≤ valL (l.take j) ∧ valL (l.take j) ≤ 300000000000000000 ∧ (j < 16 → valL (l.take j) ≤ 30000000000000000) := by
  have h := valL_bound (l.take j).length (l.take j) rfl
  have h1 : (l.take j).length ≤ j := by simp; omega
  have h2 : (10 : Int) ^ (l.take j).length ≤ 10 ^ 16 := (by exact_mod_cast (Nat.pow_le_pow_right (by decide) (by omega) : 10 ^ (l.take j).length ≤ 10 ^ 16))
  refine ⟨h.1, by have e : (10 : Int) ^ 16 = 10000000000000000 := by decide
                  omega, fun h3 => ?_⟩
  have h4 : (10 : Int) ^ (l.take j).length ≤ 10 ^ 15 := (by exact_mod_cast (Nat.pow_le_pow_right (by decide) (by omega) : 10 ^ (l.take j).length ≤ 10 ^ 15))
  have e : (10 : Int) ^ 15 = 1000000000000000 := by decide
  omega
theorem finish_nil (neg : Bool) (x : Int) : finish neg [] x = (0, 0, true) := by simp [finish]
theorem finish_far (neg : Bool) (t : List UInt8) (y : UInt8) (x : Int) (h : 40 < ((t ++ [y]).length : Int) + x) : finish neg (t ++ [y]) x = (0, 0, false) := by
  rw [finish, if_neg (by simp), if_pos h]
theorem finish_ok (neg : Bool) (t : List UInt8) (y : UInt8) (x : Int) (h : ¬ 40 < ((t ++ [y]).length : Int) + x) : finish neg (t ++ [y]) x = (if neg then -valL (t ++ [y]) else valL (t ++ [y]), x, true) := by
  rw [finish, if_neg (by simp), if_neg h]

set_option maxRecDepth 1000000 in
set_option maxHeartbeats 4000000 in
theorem round_main (neg : Bool) (A : Option Addr) (l : List UInt8) (c : Nat) (x : Int) (w : World) (hr : Rd w A l) (hc : l.length ≤ c) (hcm : c ≤ 9223372036854775807) (hlm : l.length ≤ 1000000) (hs : strip l ≠ []) (hx0 : -1000 ≤ x) (hx1 : x ≤ 1000) :
    Calls Tryd.prog 48 #[.bool neg, .slice A l.length c, .int .i64 x] w fun e w' => e = .returned (numR (roundL neg l x)) ∧ Below w.heap.size w w' := by
  have hD : 0 < (strip l).length := List.length_pos_iff.2 hs
  have hDl := strip_length l
  have hRL : roundL neg l x = mainL neg (strip l) x := by unfold roundL; rw [if_neg (fun h => h.elim hs (fun h => by omega)), if_neg (by omega)]
  rw [hRL, mainL, cut1]
  clear hRL
  obtain ⟨D, hDe⟩ : ∃ D, D = strip l := ⟨_, rfl⟩
  rw [← hDe] at hD hDl ⊢
  have H1 : Hid (∀ o, Calls Tryd.prog 74 #[.slice A l.length c] (w.alloc o) (SlR (w.alloc o) D)) := by
    intro o
    have := strip_any A l c (w.alloc o) (hr.below ((Below.refl _ _).alloc (Nat.le_refl _) _)) hc hcm
    rw [← hDe] at this; exact this
  have hne : ((D.length : Int) == 0) = false := by rw [beq_eq_false_iff_ne]; omega
  have hDm : D.length ≤ 1000000 := by omega
  clear hr hs hc hDe hDl hlm
  have l1 := cutE_length16 D x
  have x1 := cutE_exp D x (D.length - 15)
  have C1 : Hid (∀ (A1 : Option Addr) (c1 : Nat) (w1 : World), Rd w1 A1 D → D.length ≤ c1 → c1 ≤ 9223372036854775807 → Calls Tryd.prog 75 #[.slice A1 D.length c1, .int .i64 x, .int .i64 ((D.length : Int) - 15)] w1 (SlE w1 (cutE D x (D.length - 15)).1 (cutE D x (D.length - 15)).2)) :=
    fun A1 c1 w1 h1 h2 h3 => cut_any A1 D c1 x _ w1 h1 h2 h3 hDm (by omega) (by omega) (by omega)
  obtain ⟨⟨D1, e1⟩, hp1⟩ : ∃ p, p = cutE D x (D.length - 15) := ⟨_, rfl⟩
  rw [← hp1] at C1 l1 x1 ⊢
  simp only at C1 l1 x1 ⊢
  have b1 : -1000 ≤ e1 ∧ e1 ≤ 1001000 := by rw [x1]; split <;> omega
  obtain ⟨b1l, b1u⟩ := b1
  clear hp1 x1
  have l2 := cutE_length D1 e1 (-40 - e1)
  have x2 := cutE_exp D1 e1 (-40 - e1)
  have C2 : Hid (∀ (A1 : Option Addr) (c1 : Nat) (w1 : World), Rd w1 A1 D1 → D1.length ≤ c1 → c1 ≤ 9223372036854775807 → Calls Tryd.prog 75 #[.slice A1 D1.length c1, .int .i64 e1, .int .i64 (-40 - e1)] w1 (SlE w1 (cutE D1 e1 (-40 - e1)).1 (cutE D1 e1 (-40 - e1)).2)) :=
    fun A1 c1 w1 h1 h2 h3 => cut_any A1 D1 c1 e1 _ w1 h1 h2 h3 (by omega) (by omega) (by omega) (by omega)
  rw [cut2]
  simp only
  obtain ⟨⟨D2, e2⟩, hp2⟩ : ∃ p, p = cutE D1 e1 (-40 - e1) := ⟨_, rfl⟩
  rw [← hp2] at C2 l2 x2 ⊢
  simp only at C2 l2 x2 ⊢
  have b2 : -40 ≤ e2 ∧ e2 ≤ 1001000 := by rw [x2]; split <;> omega
  obtain ⟨b2l, b2u⟩ := b2
  have l3 : D2.length ≤ 16 := by omega
  clear hp2 x2 l2
  rw [trim]
  simp only
  obtain ⟨T, hT⟩ : ∃ T, T = trimz D2.length D2 e2 := ⟨_, rfl⟩
  rw [← hT]
  have HT := Lib.hid hT
  clear hT
  obtain ⟨FT, hFT⟩ : ∃ FT, FT = finish neg T.1 T.2 := ⟨_, rfl⟩
  rw [← hFT]
  have HF := Lib.hid hFT
  clear hFT
  go_enter Tryd.func48, Tryd.ntmps48
  go_wp2_with fail
  refine (H1.out _).mono ?_
  rintro e w1 ⟨A1, c1, rfl, q1, q0, q2, q3⟩
  have S := (Slot.new w 0 0).below q3 (by simp)
  have q4 := below_slot q3
  have hz : w.heap.size < w1.heap.size := by have := q3.size; simp at this; omega
  have K1 := Lib.hid (C1.out A1 c1 w1 q2 q1 q0)
  clear q3 q2 H1
  go_wp2_with fail
  refine K1.out.mono ?_
  rintro e w2 ⟨A2, c2, rfl, q5, q6, q7, q8⟩
  have S2 := S.below q8 hz
  have q9 := q4.trans (q8.mono (by omega))
  have hz2 : w.heap.size < w2.heap.size := by have := q8.size; omega
  have K2 := Lib.hid (C2.out A2 c2 w2 q7 q5 q6)
  clear S q4 q7 q8 K1 hz hD hDm hne q0 q1
  go_wp2_with fail
  refine K2.out.mono ?_
  rintro e w3 ⟨A3, c3, rfl, p1, p2, p3, p4⟩
  have S3 := S2.below p4 hz2
  have p5 := q9.trans (p4.mono (by omega))
  clear S2 q9 K2 p4 hz2 q5 q6
  go_wp2_with fail
  go_loopw [1, 2] (fun s x wr => ∃ (A' : Option Addr) (c' : Nat) (l' : List UInt8) (e' : Int), s = .slice A' l'.length c' ∧ x = .int .i64 e' ∧ l'.length ≤ c' ∧ c' ≤ 9223372036854775807 ∧ Rd wr A' l' ∧ Below w.heap.size w wr ∧ Slot wr w.heap.size 0 0 ∧ Hid (trimz l'.length l' e' = T) ∧ l'.length ≤ 16 ∧ -40 ≤ e' ∧ e' + l'.length ≤ 1001016) (fun s _ _ => lenOf s)
  case atStart => exact ⟨A3, c3, D2, e2, rfl, rfl, p1, p2, p3, p5, S3, HT.out.symm, l3, b2l, by omega⟩
  case round =>
    obtain ⟨A', c', l', e', rfl, rfl, r1, r2, r3, r4, r5, r6, r7, r8, r9⟩ := hrel
    clear p1 p2 p3 p5 S3 HT l1 l3 b1l b1u b2l b2u C1 C2
    rcases snoc_cases l' with rfl | ⟨t, y, rfl⟩
    · have eT : FT = (0, 0, true) := by rw [HF.out, ← (show _ = _ from r6), trimz_nil]; exact finish_nil _ _
      subst eT
      obtain ⟨m0, m1, f0, f1⟩ := r5
      clear r6 r7 r3 HF
      go_wp2
      refine bodyPost_ret (v := numR (0, 0, true)) (by simp [numR, numV, results, Tryd.results48, go_sem, m0, m1]) rfl ⟨rfl, ?_⟩
      exact slot_set r4 _ _
    · obtain ⟨b, off, rfl, hlt, hcells⟩ := r3 (by simp)
      have hc0 : wr.cell? ⟨b, off + t.length, none⟩ = some (.int .u8 (y.toNat : Int)) := hcells t.length y (by simp)
      have hy := y.toNat_lt
      have hlen : (t ++ [y]).length = t.length + 1 := by simp
      have HC := Lib.hid hcells
      have HL := Lib.hid hlen
      rw [hlen] at r1 r7 r9 ⊢
      have hw : IntKind.i64.wrap (t.length : Int) = t.length := by rw [IntKind.wrap_i64]; omega
      clear hcells r3 hlen
      by_cases hy0 : y = 0
      · have h0 : ((y.toNat : Int) == 0) = true := by rw [hy0]; rfl
        have r6' : Hid (trimz t.length t (e' + 1) = T) := by
          have := r6
          rw [hy0] at this
          show _ = _
          rw [← (show _ = _ from this), trimz_go]
        clear r6 hy0
        go_wp2
        go_roundw
        case rel =>
          refine ⟨_, c', t, e' + 1, rfl, rfl, by omega, r2, ?_, r4, r5, r6', by omega, by omega, by omega⟩
          intro _
          refine ⟨b, off, rfl, hlt, fun j z hz => HC.out j z ?_⟩
          have := (List.getElem?_eq_some_iff.1 hz).1
          rw [List.getElem?_append_left this]; exact hz
        case measure => simp [lenOf]
      · have h0 : ((y.toNat : Int) == 0) = false := by
          rw [beq_eq_false_iff_ne]; intro e; exact hy0 (UInt8.toNat_inj.1 (show y.toNat = 0 by omega))
        have r6' : Hid (T = (t ++ [y], e')) := by
          have := r6
          rw [trimz_stop t y e' hy0] at this
          exact (show _ = _ from this).symm
        have hne : (((t.length : Int) + 1) == 0) = false := by rw [beq_eq_false_iff_ne]; omega
        clear r6 hy0
        by_cases hfar : 40 < (t.length : Int) + 1 + e'
        · have eT : FT = (0, 0, false) := by
            rw [HF.out, (show _ = _ from r6')]
            exact finish_far _ _ _ _ (by rw [HL.out]; omega)
          subst eT
          obtain ⟨m0, m1, f0, f1⟩ := r5
          clear r6' HF
          go_wp2
          refine bodyPost_ret (v := numR (0, 0, false)) (by simp [numR, numV, results, Tryd.results48, go_sem, m0, m1]) rfl ⟨rfl, ?_⟩
          exact slot_set r4 _ _
        · have eT : FT = (if neg then -valL (t ++ [y]) else valL (t ++ [y]), e', true) := by
            rw [HF.out, (show _ = _ from r6')]
            exact finish_ok _ _ _ _ (by rw [HL.out]; omega)
          have HE := Lib.hid eT
          obtain ⟨m0, m1, f0, f1⟩ := r5
          clear r6' HF eT
          go_wp2
          go_loop [8, 72] (fun m i => ∃ j : Nat, j ≤ t.length + 1 ∧ m = .int .i64 (valL ((t ++ [y]).take j)) ∧ i = .int .i64 j) (fun _ i => t.length + 1 - (intOf i).toNat)
          case atStart => exact ⟨0, by omega, rfl, rfl⟩
          case round =>
            obtain ⟨j, hj, rfl, rfl⟩ := hrel
            obtain ⟨vb0, vb1, vb2⟩ := valL_le (t ++ [y]) j (by omega)
            by_cases hjl : j < t.length + 1
            · have hjL : j < (t ++ [y]).length := by rw [HL.out]; exact hjl
              have hcj : wr.cell? ⟨b, off + j, none⟩ = some (.int .u8 (((t ++ [y])[j]).toNat : Int)) := HC.out j _ (List.getElem?_eq_getElem hjL)
              have hst : valL ((t ++ [y]).take (j + 1)) = valL ((t ++ [y]).take j) * 10 + (((t ++ [y])[j]).toNat : Int) := by
                rw [List.take_succ_eq_append_getElem hjL, valL_snoc]
              have hz256 := ((t ++ [y])[j]).toNat_lt
              obtain ⟨z, hz⟩ : ∃ z, z = (((t ++ [y])[j]).toNat : Int) := ⟨_, rfl⟩
              have hz0 : 0 ≤ z := by omega
              have hz1 : z < 256 := by omega
              rw [← hz] at hcj hst
              obtain ⟨V, hV⟩ : ∃ V, V = valL ((t ++ [y]).take j) := ⟨_, rfl⟩
              rw [← hV] at hst vb0 vb1 vb2 ⊢
              have vb3 : V ≤ 30000000000000000 := vb2 (by omega)
              have HST := Lib.hid hst
              clear hst hV hz vb2 vb1 hz256
              go_wp2
              go_round
              case rel => exact ⟨j + 1, by omega, by rw [HST.out], by go_num⟩
              case measure => simp [intOf]; omega
            · have hj2 : (t ++ [y]).take j = t ++ [y] := List.take_of_length_le (by rw [HL.out]; omega)
              rw [hj2] at vb0 vb1 ⊢
              obtain ⟨V, hV⟩ : ∃ V, V = valL (t ++ [y]) := ⟨_, rfl⟩
              rw [← hV] at HE vb0 vb1 ⊢
              clear hj2 vb2 hV
              cases neg with
              | true =>
                have eT : FT = (-V, e', true) := HE.out
                subst eT
                clear HE
                go_wp2
                refine bodyPost_ret (v := numR (-V, e', true)) (by simp [numR, numV, results, Tryd.results48, go_sem, m0, m1]) rfl ⟨rfl, ?_⟩
                exact slot_set r4 _ _
              | false =>
                have eT : FT = (V, e', true) := HE.out
                subst eT
                clear HE
                go_wp2
                refine bodyPost_ret (v := numR (V, e', true)) (by simp [numR, numV, results, Tryd.results48, go_sem, m0, m1]) rfl ⟨rfl, ?_⟩
                exact slot_set r4 _ _

/-- round, of whatever digits there are -/
theorem round_any (neg : Bool) (A : Option Addr) (l : List UInt8) (c : Nat) (x : Int) (w : World) (hr : Rd w A l) (hc : l.length ≤ c) (hcm : c ≤ 9223372036854775807) (hlm : l.length ≤ 1000000) :
    Calls Tryd.prog 48 #[.bool neg, .slice A l.length c, .int .i64 x] w fun e w' => e = .returned (numR (roundL neg l x)) ∧ Below w.heap.size w w' := by
  by_cases hs : strip l = []
  · have e : roundL neg l x = (0, 0, true) := if_pos (.inl hs)
    rw [e]; exact round_none neg A l c x w hr hc hcm hs
  · by_cases h1 : x < -1000
    · have e : roundL neg l x = (0, 0, true) := if_pos (.inr h1)
      rw [e]; exact round_low neg A l c x w hr hc hcm hs h1
    · by_cases h2 : 1000 < x
      · have e : roundL neg l x = (0, 0, false) := by unfold roundL; rw [if_neg (fun h => h.elim hs h1), if_pos h2]
        rw [e]; exact round_far neg A l c x w hr hc hcm hs h2
      · exact round_main neg A l c x w hr hc hcm hlm hs (by omega) (by omega)
end Go.Proofs.YtkdjdoncmihkfaaDoor
