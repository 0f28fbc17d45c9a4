/- Walks over num.Make and num.Right: for every number. -/
import Derived.Test.YtkdjdoncmihkfaaDoorNf
namespace Go.Proofs.YtkdjdoncmihkfaaDoor
open Go.RowKit

theorem round_own {w1 : World} {B : Nat} {v : Value} {l : List UInt8} (hown : Own w1 B v l) (neg : Bool) (x : Int) (hl : l.length ≤ 1000000) :
    Calls Tryd.prog 48 #[.bool neg, v, .int .i64 x] w1 fun e w' => e = .returned (numR (roundL neg l x)) ∧ Below w1.heap.size w1 w' := by
  obtain ⟨g, c, rfl, _, h1, h2, h3⟩ := hown.rd
  exact round_any neg _ l c x w1 h3 h1 h2 hl

theorem dg_length : ∀ (l acc : List UInt8), (dg acc l).length ≤ acc.length + l.length
  | [], acc => by simp [dg]
  | c :: t, acc => by
    rw [dg]; split
    · have := dg_length t acc; simp; omega
    · have := dg_length t (acc ++ [c - 48]); simp at this ⊢; omega
theorem digs_length (m : Int) (h0 : -9223372036854775808 ≤ m) (h1 : m ≤ 9223372036854775807) : (digs m).length ≤ 21 := by
  have := dg_length (Lib.itoa m) []
  have := Lib.itoa_length_le m h0 h1
  unfold digs; simp at *; omega

/-- Make, of every int and every exponent -/
def makeL (m e : Int) : Int × Int × Bool := roundL (decide (m < 0)) (digs m) e
theorem make_any (m x : Int) (h0 : -9223372036854775808 ≤ m) (h1 : m ≤ 9223372036854775807) (w : World) (ht : Tab w) :
    Calls Tryd.prog 15 #[.int .i64 m, .int .i64 x] w fun e w' => e = .returned (numR (makeL m x)) ∧ Below w.heap.size w w' := by
  have hb0 : Below w.heap.size w (w.alloc (.cells #[.int .i64 0, .int .i64 0] 24)) := (Below.refl _ _).alloc (Nat.le_refl _) _
  have hdl := digs_length m h0 h1
  have HK : Hid (∀ (w1 : World) (v : Value) (B : Nat), Own w1 B v (digs m) → Calls Tryd.prog 48 #[.bool (decide (m < 0)), v, .int .i64 x] w1 fun e w' => e = .returned (numR (makeL m x)) ∧ Below w1.heap.size w1 w') :=
    fun w1 v B h2 => round_own h2 _ x (by omega)
  clear hdl
  obtain ⟨⟨m', e', b'⟩, hM⟩ : ∃ M, M = makeL m x := ⟨_, rfl⟩
  rw [← hM] at HK ⊢
  simp only [numR, numV] at HK ⊢
  clear hM
  go_enter Tryd.func15, Tryd.ntmps15
  go_wp2_with fail
  refine (digits_any m h0 h1 _ (ht.below hb0)).mono ?_
  rintro e w1 ⟨v, rfl, hown, hb1⟩
  have S := (Slot.new w 0 0).below hb1 (by simp)
  have hb2 := below_slot hb1
  have hz : w.heap.size < w1.heap.size := by have := hb1.size; simp at this; omega
  have HR := Lib.hid (HK.out w1 v _ hown)
  clear hb1 hown HK
  go_wp2_with fail
  refine HR.out.mono ?_
  rintro e w2 ⟨rfl, hb3⟩
  obtain ⟨m0, m1, f0, f1⟩ := S.below hb3 hz
  have hb4 := hb2.trans (hb3.mono (by omega))
  clear HR hb3 S hb2
  go_wp2
  refine bodyPost_ret (v := .tuple #[.agg #[.int .i64 m', .int .i64 e'], .bool b']) (by simp [results, Tryd.results15, go_sem, m0, m1]) rfl ⟨rfl, ?_⟩
  exact slot_set hb4 _ _

/-- how many digits -/
def nd (u : Nat) : Nat := if h : u = 0 then 0 else nd (u / 10) + 1
termination_by u
decreasing_by omega
def rightB (m e : Int) : Bool := if m = 0 then decide (e = 0) else if m.tmod 10 = 0 ∨ e < -40 then false else decide (nd m.natAbs ≤ 15 ∧ e ≤ 40 - (nd m.natAbs : Int))

theorem nd_step (u : Int) (h : (u == 0) = false) : nd u.natAbs = nd (u.tdiv 10).natAbs + 1 := by
  rw [beq_eq_false_iff_ne] at h
  rw [nd, dif_neg (by omega), Int.natAbs_tdiv]; rfl
theorem nd_zero : nd 0 = 0 := by rw [nd]; rfl
theorem nd_le : ∀ (n u : Nat), u < 10 ^ n → nd u ≤ n
  | 0, u, h => by
    have : u = 0 := by simpa using h
    rw [this, nd_zero]; exact Nat.le_refl _
  | n + 1, u, h => by
    rw [nd]; split
    · omega
    · have := nd_le n (u / 10) (by rw [Nat.pow_succ] at h; omega)
      omega

theorem alloc_below (w : World) (o : Obj) : Below w.heap.size w (w.alloc o) := (Below.refl _ _).alloc (Nat.le_refl _) _
theorem right_zero (e : Int) (w : World) : Calls Tryd.prog 17 #[numV 0 e] w fun r w' => r = .returned (.bool (rightB 0 e)) ∧ Below w.heap.size w w' := by
  have he : rightB 0 e = (e == 0) := by unfold rightB; rw [if_pos rfl]; rfl
  rw [he]
  clear he
  unfold numV
  go_enter Tryd.func17, Tryd.ntmps17
  go_wp2
  go_ret
  exact ⟨rfl, alloc_below _ _⟩
theorem right_no1 (m e : Int) (hm : (m == 0) = false) (h1 : (m.tmod 10 == 0) = true) (w : World) : Calls Tryd.prog 17 #[numV m e] w fun r w' => r = .returned (.bool false) ∧ Below w.heap.size w w' := by
  unfold numV
  go_enter Tryd.func17, Tryd.ntmps17
  go_wp2
  go_ret
  exact ⟨rfl, alloc_below _ _⟩
theorem right_no2 (m e : Int) (hm : (m == 0) = false) (h1 : (m.tmod 10 == 0) = false) (h2 : e < -40) (w : World) : Calls Tryd.prog 17 #[numV m e] w fun r w' => r = .returned (.bool false) ∧ Below w.heap.size w w' := by
  unfold numV
  go_enter Tryd.func17, Tryd.ntmps17
  go_wp2
  go_ret
  exact ⟨rfl, alloc_below _ _⟩
theorem right_yes (m e : Int) (k : Nat) (b : Bool) (hk : Hid (nd m.natAbs = k)) (hk1 : k ≤ 19) (hb : b = decide (k ≤ 15 ∧ e ≤ 40 - (k : Int))) (hm : (m == 0) = false) (h1 : (m.tmod 10 == 0) = false) (h2 : ¬ e < -40) (_h3 : e ≤ 9223372036854775807) (h4 : -9223372036854775808 ≤ m) (h5 : m ≤ 9223372036854775807) (w : World) : Calls Tryd.prog 17 #[numV m e] w fun r w' => r = .returned (.bool b) ∧ Below w.heap.size w w' := by
  unfold numV
  have HB := Lib.hid hb
  clear hb
  go_enter Tryd.func17, Tryd.ntmps17
  go_wp2
  go_loop [3, 4] (fun d u => ∃ (j : Nat) (v : Int), d = .int .i64 j ∧ u = .int .i64 v ∧ Hid (j + nd v.natAbs = k) ∧ j ≤ k ∧ -9223372036854775808 ≤ v ∧ v ≤ 9223372036854775807) (fun _ u => nd (intOf u).natAbs)
  case atStart => exact ⟨0, m, rfl, rfl, by show _ = _; rw [Nat.zero_add]; exact hk, by omega, h4, h5⟩
  case round =>
    obtain ⟨j, v, rfl, rfl, hj, hjk, v0, v1⟩ := hrel
    by_cases hv : (v == 0) = true
    · have hv2 : (v != 0) = false := by rw [bne, hv]; rfl
      have hj2 : j = k := by
        have := hj
        have e0 : v = 0 := by simpa using hv
        rw [e0] at this
        have : j + nd 0 = k := this
        rw [nd_zero] at this; omega
      subst hj2
      have HB2 := HB
      clear hj HB hv
      by_cases hd : j ≤ 15
      · have hb : b = decide (e ≤ 40 - (j : Int)) := by rw [HB2.out]; simp [hd]
        have HB3 := Lib.hid hb
        clear HB2 hb
        go_wp2
        go_ret
        exact ⟨by rw [HB3.out]; rfl, alloc_below _ _⟩
      · have hb : b = false := by rw [HB2.out]; simp [hd]
        subst hb
        clear HB2
        go_wp2
        go_ret
        exact ⟨rfl, alloc_below _ _⟩
    · have hv1 : (v == 0) = false := by simpa using hv
      have hv2 : (v != 0) = true := by rw [bne, hv1]; rfl
      have hst := nd_step v hv1
      have HJ : Hid ((j + 1) + nd (v.tdiv 10).natAbs = k) := by
        have : j + nd v.natAbs = k := hj
        show _ = _
        omega
      have hjk2 : j + 1 ≤ k := by have : _ = _ := HJ; omega
      have HST := Lib.hid hst
      have hab : (v.tdiv 10).natAbs = v.natAbs / 10 := by rw [Int.natAbs_tdiv]; rfl
      have w0 : -9223372036854775808 ≤ v.tdiv 10 := by omega
      have w1 : v.tdiv 10 ≤ 9223372036854775807 := by omega
      have hw : wrap64 (v.tdiv 10) = v.tdiv 10 := IntWalk.wrap64_in _ ⟨w0, w1⟩
      clear hj hst hv hab
      go_wp2
      go_round
      case rel => exact ⟨j + 1, _, by go_num, rfl, HJ, hjk2, w0, w1⟩
      case measure => simp only [intOf]; rw [HST.out]; omega

/-- Right, of every number -/
theorem right_any (m e : Int) (h0 : -9223372036854775808 ≤ m) (h1 : m ≤ 9223372036854775807) (h3 : e ≤ 9223372036854775807) (w : World) : Calls Tryd.prog 17 #[numV m e] w fun r w' => r = .returned (.bool (rightB m e)) ∧ Below w.heap.size w w' := by
  by_cases hm : m = 0
  · subst hm; exact right_zero e w
  · have hm' : (m == 0) = false := by rw [beq_eq_false_iff_ne]; exact hm
    by_cases ht : m.tmod 10 = 0
    · have e1 : rightB m e = false := by unfold rightB; rw [if_neg hm, if_pos (.inl ht)]
      rw [e1]; exact right_no1 m e hm' (by rw [ht]; rfl) w
    · have ht' : (m.tmod 10 == 0) = false := by rw [beq_eq_false_iff_ne]; exact ht
      by_cases he : e < -40
      · have e1 : rightB m e = false := by unfold rightB; rw [if_neg hm, if_pos (.inr he)]
        rw [e1]; exact right_no2 m e hm' ht' he w
      · have e1 : rightB m e = decide (nd m.natAbs ≤ 15 ∧ e ≤ 40 - (nd m.natAbs : Int)) := by unfold rightB; rw [if_neg hm, if_neg (fun h => h.elim ht he)]
        rw [e1]
        exact right_yes m e (nd m.natAbs) _ rfl (nd_le 19 _ (by omega)) rfl hm' ht' he h3 h0 h1 w
end Go.Proofs.YtkdjdoncmihkfaaDoor
