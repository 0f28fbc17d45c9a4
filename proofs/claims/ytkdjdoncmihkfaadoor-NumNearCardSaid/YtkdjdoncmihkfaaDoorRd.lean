/- The document's Make; the law NumMakes. -/
import Derived.Test.YtkdjdoncmihkfaaDoorRc
import Derived.Test.YtkdjdoncmihkfaaDoorLaw
namespace Go.Proofs.YtkdjdoncmihkfaaDoor
open Go.RowKit

theorem even_ge {V k : Nat} : V / 10 ^ k ≤ evenN V k := by unfold evenN; split <;> omega
theorem even15 (V : Nat) : evenN V (nd V - 15) ≤ 10 ^ 15 := by
  refine Nat.le_trans evenN_le.1 ?_
  have h2 := lt_pow_nd V
  have h3 : V < 10 ^ 15 * 10 ^ (nd V - 15) := by
    rw [← Nat.pow_add]
    exact Nat.lt_of_lt_of_le h2 (Nat.pow_le_pow_right (by decide) (by omega))
  have h4 : V / 10 ^ (nd V - 15) < 10 ^ 15 := (Nat.div_lt_iff_lt_mul (pow_pos10 _)).2 h3
  omega
theorem roundN_far (neg : Bool) (V : Nat) (x : Int) (hV : V ≠ 0) (h : 100 < x) : roundN neg V x = (0, 0, false) := by
  unfold roundN
  rw [if_neg (by omega)]
  by_cases h1 : 1000 < x
  · rw [if_pos h1]
  · rw [if_neg h1]
    unfold mainN
    rw [show (-40 - (x + ((nd V - 15 : Nat) : Int))).toNat = 0 by omega, evenN_zero]
    have h2 : 0 < evenN V (nd V - 15) := by
      refine Nat.lt_of_lt_of_le (Nat.div_pos ?_ (pow_pos10 _)) even_ge
      exact Nat.le_trans (pow_le10 (by omega)) (nd_low hV)
    obtain ⟨t1, t2, t3⟩ := tz_eq (evenN V (nd V - 15))
    unfold endN
    rw [if_neg (fun e => by have := t2.1 e; omega), if_pos (by omega)]
theorem roundN_low (neg : Bool) (V : Nat) (x : Int) (hV : nd V ≤ 19) (h : x < -100) : roundN neg V x = (0, 0, true) := by
  unfold roundN
  by_cases h1 : V = 0 ∨ x < -1000
  · rw [if_pos h1]
  · rw [if_neg h1, if_neg (by omega)]
    unfold mainN
    have h2 := even15 V
    have h3 : 10 ^ 16 ≤ 10 ^ (-40 - (x + ((nd V - 15 : Nat) : Int))).toNat := pow_le10 (by omega)
    have e15 : (10 : Nat) ^ 15 = 1000000000000000 := by decide
    have e16 : (10 : Nat) ^ 16 = 10000000000000000 := by decide
    rw [evenN_small (by omega)]
    unfold endN
    rw [tz0]; rfl
theorem makeL_val (m x : Int) : makeL m x = roundN (decide (m < 0)) m.natAbs x := by
  obtain ⟨a1, a2, a3⟩ := digs_val m
  unfold makeL
  rw [round_val _ _ a2, a1]
theorem dI_map : ∀ (n : Nat) (l : List UInt8), l.length = n → Dig l → NZ l → dI (valN l) = l.map fun d => (d.toNat : Int)
  | 0, l, hl, hd, hz => by
    have : l = [] := List.eq_nil_of_length_eq_zero hl
    subst this; rw [show valN [] = 0 from rfl, dI_zero]; rfl
  | n + 1, l, hl, hd, hz => by
    have hne : l ≠ [] := by intro h; rw [h] at hl; simp at hl
    obtain ⟨t, y, rfl⟩ : ∃ t y, l = t ++ [y] := ⟨_, _, (List.dropLast_concat_getLast hne).symm⟩
    have hy : y.toNat ≤ 9 := hd y (by simp)
    have hdt : Dig t := fun z hz => hd z (by simp [hz])
    have hzt : NZ t := by
      intro s e
      exact hz (s ++ [y]) (by rw [e]; rfl)
    have hlt : t.length = n := by simpa using hl
    have h0 : valN (t ++ [y]) ≠ 0 := by
      cases hc : t ++ [y] with
      | nil => simp at hc
      | cons c s => rw [hc] at hz; have := hz.pos; have := pow_pos10 s.length; omega
    rw [dI_step _ h0, valN_snoc, show (valN t * 10 + y.toNat) / 10 = valN t by omega, show (valN t * 10 + y.toNat) % 10 = y.toNat by omega, dI_map n t hlt hdt hzt]
    simp
theorem RdI.digits {w : World} {A : Option Addr} {l : List UInt8} (h : RdI w A (l.map fun d => (d.toNat : Int))) : RdD w A l := fun hl => by
  obtain ⟨b, off, e, hlt, hc⟩ := h (by simpa using hl)
  exact ⟨b, off, e, hlt, fun j x hx => hc j _ (by simp [hx])⟩

set_option maxHeartbeats 1000000 in
theorem rmake_zero (x : Int) (w : World) : Calls Tryd.prog 16 #[.int .i64 0, .int .i64 x] w fun e w' => e = .returned (numR (0, 0, true)) ∧ Below w.heap.size w w' := by
  obtain ⟨m0, m1, f0, f1⟩ := Slot.new w 0 0
  go_enter Tryd.func16, Tryd.ntmps16
  go_wp2
  refine bodyPost_ret (v := numR (0, 0, true)) (by simp [numR, numV, results, Tryd.results16, go_sem]) rfl ⟨rfl, ?_⟩
  exact alloc_below _ _
set_option maxHeartbeats 1000000 in
theorem rmake_far (m x : Int) (hm : (m == 0) = false) (hx : 100 < x) (w : World) : Calls Tryd.prog 16 #[.int .i64 m, .int .i64 x] w fun e w' => e = .returned (numR (0, 0, false)) ∧ Below w.heap.size w w' := by
  obtain ⟨m0, m1, f0, f1⟩ := Slot.new w 0 0
  go_enter Tryd.func16, Tryd.ntmps16
  go_wp2
  refine bodyPost_ret (v := numR (0, 0, false)) (by simp [numR, numV, results, Tryd.results16, go_sem]) rfl ⟨rfl, ?_⟩
  exact alloc_below _ _
set_option maxHeartbeats 1000000 in
theorem rmake_low (m x : Int) (hm : (m == 0) = false) (hx : x < -100) (w : World) : Calls Tryd.prog 16 #[.int .i64 m, .int .i64 x] w fun e w' => e = .returned (numR (0, 0, true)) ∧ Below w.heap.size w w' := by
  obtain ⟨m0, m1, f0, f1⟩ := Slot.new w 0 0
  go_enter Tryd.func16, Tryd.ntmps16
  go_wp2
  refine bodyPost_ret (v := numR (0, 0, true)) (by simp [numR, numV, results, Tryd.results16, go_sem]) rfl ⟨rfl, ?_⟩
  exact alloc_below _ _
set_option maxHeartbeats 2000000 in
theorem rmake_main (m x : Int) (hm : (m == 0) = false) (hx0 : -100 ≤ x) (hx1 : x ≤ 100) (h0 : -9223372036854775808 ≤ m) (h1 : m ≤ 9223372036854775807) (w : World) :
    Calls Tryd.prog 16 #[.int .i64 m, .int .i64 x] w fun e w' => e = .returned (numR (makeL m x)) ∧ Below w.heap.size w w' := by
  have hm0 : m ≠ 0 := by rw [beq_eq_false_iff_ne] at hm; exact hm
  obtain ⟨a1, a2, a3⟩ := digs_val m
  have hlen : (digs m).length ≤ 19 := by rw [digs_len]; exact nd_le 19 _ (by omega)
  have hE : nearM (decide (m < 0)) (valN (digs m)) x false = makeL m x := by
    rw [makeL_val, a1, near_round _ _ _ (by omega) (by omega) (by omega)]
  have DG : Hid (∀ w1, Calls Tryd.prog 50 #[.int .i64 m] w1 fun e w' => ∃ A c, e = .returned (.slice A (digs m).length c) ∧ (digs m).length ≤ c ∧ c ≤ 9223372036854775807 ∧ RdD w' A (digs m) ∧ Below w1.heap.size w1 w') := fun w1 =>
    (rdigs_aux m _ rfl h0 h1 w1).mono fun e w' ⟨v, he, ho, hb⟩ => by
      rw [← a1, dI_map _ _ rfl a2 a3] at ho
      obtain ⟨A, c, rfl, q1, q2, q3⟩ := ho.rd
      simp only [List.length_map] at he q1
      exact ⟨A, c, he, q1, q2, RdI.digits q3, hb⟩
  have NR : Hid (∀ (A : Option Addr) (c : Nat) (w1 : World), RdD w1 A (digs m) → (digs m).length ≤ c → c ≤ 9223372036854775807 → Calls Tryd.prog 49 #[.agg #[.bool (decide (m < 0)), .slice A (digs m).length c, .int .i64 x], .bool false] w1 fun e w' => e = .returned (numR (makeL m x)) ∧ Below w1.heap.size w1 w') := fun A c w1 r1 r2 r3 => by
    have := near_any (decide (m < 0)) A (digs m) c x false w1 r1 r2 r3 (by omega) a2 (by omega) (by omega)
    rw [hE] at this; exact this
  obtain ⟨n, hn⟩ : ∃ n, n = (digs m).length := ⟨_, rfl⟩
  obtain ⟨L, hL⟩ : ∃ L, L = digs m := ⟨_, rfl⟩
  rw [← hL] at DG NR
  rw [← hL] at hn
  obtain ⟨⟨m', e', b'⟩, hM⟩ : ∃ M, M = makeL m x := ⟨_, rfl⟩
  rw [← hM] at NR ⊢
  simp only [numR, numV] at NR ⊢
  have hb0 := alloc_below w (.cells #[.int .i64 0, .int .i64 0] 24)
  clear hM hE a1 a2 a3 hlen hL hn hm0
  go_enter Tryd.func16, Tryd.ntmps16
  go_wp2_with fail
  refine (DG.out _).mono ?_
  rintro e w1 ⟨A, c, rfl, q1, q2, q3, hb1⟩
  have S := (Slot.new w 0 0).below hb1 (by simp)
  have hb2 := below_slot hb1
  have hz : w.heap.size < w1.heap.size := by have := hb1.size; simp at this; omega
  have HR := Lib.hid (NR.out A c w1 q3 q1 q2)
  clear hb1 NR q1 q2 q3 DG
  go_wp2_with fail
  refine HR.out.mono ?_
  rintro e w2 ⟨rfl, hb3⟩
  obtain ⟨m0, m1, f0, f1⟩ := S.below hb3 hz
  have hb4 := hb2.trans (hb3.mono (by omega))
  clear HR hb3 S hb2
  go_wp2
  refine bodyPost_ret (v := .tuple #[.agg #[.int .i64 m', .int .i64 e'], .bool b']) (by simp [results, Tryd.results16, go_sem, m0, m1]) rfl ⟨rfl, ?_⟩
  exact slot_set hb4 _ _
/-- the document's Make, of every two ints -/
theorem rmake_any (m x : Int) (h0 : -9223372036854775808 ≤ m) (h1 : m ≤ 9223372036854775807) (w : World) :
    Calls Tryd.prog 16 #[.int .i64 m, .int .i64 x] w fun e w' => e = .returned (numR (makeL m x)) ∧ Below w.heap.size w w' := by
  by_cases hm : m = 0
  · subst hm
    have e : makeL 0 x = (0, 0, true) := by rw [makeL_val]; unfold roundN; rw [if_pos (.inl rfl)]
    rw [e]; exact rmake_zero x w
  · have hm' : (m == 0) = false := by rw [beq_eq_false_iff_ne]; exact hm
    by_cases hf : 100 < x
    · rw [makeL_val, roundN_far _ _ _ (by omega) hf]; exact rmake_far m x hm' hf w
    · by_cases hl : x < -100
      · rw [makeL_val, roundN_low _ _ _ (nd_le 19 _ (by omega)) hl]; exact rmake_low m x hm' hl w
      · exact rmake_main m x hm' (by omega) (by omega) h0 h1 w
/-- what the law's last region holds -/
def Km (w : World) (B C : Nat) (p q m x : Int) (w' : World) : Prop :=
  w'.cell? ⟨B, 0, none⟩ = some (.int .i64 p) ∧ w'.cell? ⟨B, 1, none⟩ = some (.int .i64 q) ∧ w'.cell? ⟨C, 0, none⟩ = some (.int .i64 p) ∧ w'.cell? ⟨C, 1, none⟩ = some (.int .i64 q) ∧ w'.cell? ⟨C + 1, 0, none⟩ = some (.int .i64 m) ∧ w'.cell? ⟨C + 1, 1, none⟩ = some (.int .i64 x) ∧ B < w'.heap.size ∧ C + 2 ≤ w'.heap.size ∧ Below w.heap.size w w'
theorem Km.later {w : World} {B C : Nat} {p q m x : Int} {w1 w2 : World} (h : Km w B C p q m x w1) (hb : Below w1.heap.size w1 w2) : Km w B C p q m x w2 := by
  obtain ⟨h1, h2, h3, h4, h5, h6, h7, h8, h9⟩ := h
  have := hb.size
  have := h9.size
  exact ⟨(hb.cell (p := ⟨B, 0, none⟩) h7).trans h1, (hb.cell (p := ⟨B, 1, none⟩) h7).trans h2, (hb.cell (p := ⟨C, 0, none⟩) (show C < w1.heap.size by omega)).trans h3, (hb.cell (p := ⟨C, 1, none⟩) (show C < w1.heap.size by omega)).trans h4, (hb.cell (p := ⟨C + 1, 0, none⟩) (show C + 1 < w1.heap.size by omega)).trans h5, (hb.cell (p := ⟨C + 1, 1, none⟩) (show C + 1 < w1.heap.size by omega)).trans h6, by omega, by omega, h9.trans (hb.mono (by omega))⟩

set_option maxRecDepth 1000000 in
set_option maxHeartbeats 4000000 in
/-- the law NumMakes, of every two ints -/
theorem makes_any (m x : Int) (h0 : -9223372036854775808 ≤ m) (h1 : m ≤ 9223372036854775807) (hx : x ≤ 9223372036854775807) (w : World) (ht : Tab w) :
    Calls Tryd.prog 3 #[.int .i64 m, .int .i64 x] w fun r w' => r = .returned (.bool true) ∧ Below w.heap.size w w' := by
  have hv : rightB (makeL m x).1 (makeL m x).2.1 = true := by rw [makeL_val]; exact roundN_right _ _ _
  obtain ⟨rb, hrb⟩ : ∃ rb, rb = rightB m x := ⟨_, rfl⟩
  have MK : Hid (∀ w1, Tab w1 → Calls Tryd.prog 15 #[.int .i64 m, .int .i64 x] w1 fun e w' => e = .returned (numR (makeL m x)) ∧ Below w1.heap.size w1 w') := fun w1 h => make_any m x h0 h1 w1 h
  have RM : Hid (∀ w1, Calls Tryd.prog 16 #[.int .i64 m, .int .i64 x] w1 fun e w' => e = .returned (numR (makeL m x)) ∧ Below w1.heap.size w1 w') := fun w1 => rmake_any m x h0 h1 w1
  have R1 : Hid (∀ w1, Calls Tryd.prog 17 #[.agg #[.int .i64 m, .int .i64 x]] w1 fun r w' => r = .returned (.bool rb) ∧ Below w1.heap.size w1 w') := fun w1 => by rw [hrb]; exact right_any m x h0 h1 hx w1
  have R2 : Hid (∀ w1, Calls Tryd.prog 18 #[.agg #[.int .i64 m, .int .i64 x]] w1 fun r w' => r = .returned (.bool rb) ∧ Below w1.heap.size w1 w') := fun w1 => by rw [hrb]; exact rright_any m x w1
  obtain ⟨⟨p, q, b⟩, hM⟩ : ∃ M, M = makeL m x := ⟨_, rfl⟩
  rw [← hM] at MK RM hv
  simp only [numR, numV] at MK RM hv
  obtain ⟨ba, bb1, bb2⟩ := right_bounds hv
  have R3 : Hid (∀ w1, Calls Tryd.prog 17 #[.agg #[.int .i64 p, .int .i64 q]] w1 fun r w' => r = .returned (.bool true) ∧ Below w1.heap.size w1 w') := fun w1 => by
    have := right_any p q (by omega) (by omega) (by omega) w1; rw [hv] at this; exact this
  have HAW := Lib.hid (awake_any w ht)
  have HT := Lib.hid ht
  clear ba bb1 bb2 hv hM hrb ht h0 h1 hx
  go_enter Tryd.func3, Tryd.ntmps3
  go_wp2_with fail
  refine HAW.out.mono ?_
  rintro e w1 ⟨rfl, hb1⟩
  have M1 := Lib.hid (MK.out w1 (HT.out.below hb1))
  clear MK HT HAW
  go_wp2_with fail
  refine M1.out.mono ?_
  rintro e w2 ⟨rfl, hb2⟩
  have hb3 := (hb1.trans (hb2.mono hb1.size)).trans ((alloc_below w2 (.cells #[.int .i64 p, .int .i64 q] 24)).mono (Nat.le_trans hb1.size hb2.size))
  clear M1
  go_wp2_with fail
  refine (RM.out _).mono ?_
  rintro e w3 ⟨rfl, hb4⟩
  have hs3 : w2.heap.size < w3.heap.size := by have := hb4.size; simp at this; omega
  have S1 := (Slot.new w2 p q).below hb4 (by simp)
  have hd := Duo.new w3 p q m x
  have hbd := below2 w3 (.cells #[.int .i64 p, .int .i64 q] 24) (.cells #[.int .i64 m, .int .i64 x] 24)
  have K0 : Km w w2.heap.size w3.heap.size p q m x ((w3.alloc (.cells #[.int .i64 p, .int .i64 q] 24)).alloc (.cells #[.int .i64 m, .int .i64 x] 24)) := by
    have S2 := S1.below hbd hs3
    refine ⟨S2.c0, S2.c1, hd.s0.c0, hd.s0.c1, hd.s1.c0, hd.s1.c1, by simp; omega, by simp, ?_⟩
    exact (hb3.trans (hb4.mono hb3.size)).trans (hbd.mono (Nat.le_trans hb3.size hb4.size))
  have KK := Lib.hid K0
  clear hb1 hb2 hb3 hb4 hs3 S1 hd hbd RM
  obtain ⟨c0, c1, c2, c3, c4, c5, _, _, _⟩ := K0
  go_wp2_with fail
  go_region_held3 (fun w' => w'.cell? ⟨w2.heap.size, 0, none⟩ = some (.int .i64 p) ∧ w'.cell? ⟨w2.heap.size, 1, none⟩ = some (.int .i64 q) ∧ w'.cell? ⟨w3.heap.size, 0, none⟩ = some (.int .i64 p) ∧ w'.cell? ⟨w3.heap.size, 1, none⟩ = some (.int .i64 q) ∧ w'.cell? ⟨w3.heap.size + 1, 0, none⟩ = some (.int .i64 m) ∧ w'.cell? ⟨w3.heap.size + 1, 1, none⟩ = some (.int .i64 x) ∧ w2.heap.size < w'.heap.size ∧ w3.heap.size + 2 ≤ w'.heap.size ∧ Below w.heap.size w w')
    ((show Km w w2.heap.size w3.heap.size p q m x _; with_reducible first | exact KK.out.later (below_dr _) | exact K5.out))
    (first
      | (go_at_call_of 17 (Value.agg #[.int .i64 m, .int .i64 x]); refine (R1.out _).mono ?_; rintro e w5 ⟨rfl, hb5⟩; have K5 := Lib.hid (Km.later (show Km w w2.heap.size w3.heap.size p q m x _ by assumption) hb5))
      | (go_at_call 18; refine (R2.out _).mono ?_; rintro e w5 ⟨rfl, hb5⟩; have K5 := Lib.hid (Km.later (show Km w w2.heap.size w3.heap.size p q m x _ by assumption) hb5))
      | (go_at_call_of 17 (Value.agg #[.int .i64 p, .int .i64 q]); refine (R3.out _).mono ?_; rintro e w5 ⟨rfl, hb5⟩; have K5 := Lib.hid (Km.later (show Km w w2.heap.size w3.heap.size p q m x _ by assumption) hb5)))
  have hfin : Below w.heap.size w w5 := K5.out.2.2.2.2.2.2.2.2
  go_wp2
  go_ret
  exact ⟨rfl, hfin⟩
theorem wf_i64 {n : Int} (h : (Lit.int .i64 n).wf = true) : -9223372036854775808 ≤ n ∧ n ≤ 9223372036854775807 := by
  unfold Lit.wf at h
  rw [Bool.and_eq_true, decide_eq_true_eq, decide_eq_true_eq] at h
  have e1 : IntKind.i64.min = -9223372036854775808 := by kernel_rfl
  have e2 : IntKind.i64.max = 9223372036854775807 := by kernel_rfl
  rw [e1, e2] at h
  exact h

end Go.Proofs.YtkdjdoncmihkfaaDoor
