/- Walk over num.Div: for every two right numbers, the second not 0. -/
import Derived.Test.YtkdjdoncmihkfaaDoorNi
namespace Go.Proofs.YtkdjdoncmihkfaaDoor
open Go.RowKit

/-- long division: the rest, the digits, the exponent -/
def divGo (Y : Nat) : Nat → Nat → List UInt8 → Int → Nat × List UInt8 × Int
  | 0, r, l, e => (r, l, e)
  | n + 1, r, l, e => if r ≠ 0 ∧ l.length < 17 then divGo Y n (r * 10 % Y) (if r * 10 / Y ≠ 0 ∨ 0 < l.length then l ++ [UInt8.ofNat (r * 10 / Y)] else l) (e - 1) else (r, l, e)
def divEnd (t : Nat × List UInt8 × Int) : List UInt8 × Int := if t.1 ≠ 0 then (t.2.1 ++ [1], t.2.2 - 1) else (t.2.1, t.2.2)
def divL (a b c d : Int) : Int × Int × Bool :=
  roundL (decide (a < 0) != decide (c < 0)) (divEnd (divGo c.natAbs 32 (a.natAbs % c.natAbs) (digs ((a.natAbs / c.natAbs : Nat) : Int)) (b - d))).1 (divEnd (divGo c.natAbs 32 (a.natAbs % c.natAbs) (digs ((a.natAbs / c.natAbs : Nat) : Int)) (b - d))).2

def Enough (Y n r : Nat) (l : List UInt8) : Prop := r = 0 ∨ (0 < l.length ∧ 17 ≤ l.length + n) ∨ (l.length = 0 ∧ ∃ k, n = 17 + k ∧ Y ≤ r * 10 ^ k)
theorem enough_start {Y r : Nat} (l : List UInt8) (hY : Y < 1000000000000000) : Enough Y 32 r l := by
  by_cases hr : r = 0
  · exact .inl hr
  · by_cases hl : 0 < l.length
    · exact .inr (.inl ⟨hl, by omega⟩)
    · refine .inr (.inr ⟨by omega, 15, rfl, ?_⟩)
      have : (10 : Nat) ^ 15 = 1000000000000000 := by decide
      have : 1 * 10 ^ 15 ≤ r * 10 ^ 15 := Nat.mul_le_mul_right _ (by omega)
      omega
theorem enough_pos {Y n r : Nat} {l : List UInt8} (h : Enough Y n r l) (hr : r ≠ 0) (hl : l.length < 17) : ∃ m, n = m + 1 := by
  rcases h with h | ⟨_, h⟩ | ⟨_, k, h, _⟩
  · exact absurd h hr
  · exact ⟨n - 1, by omega⟩
  · exact ⟨16 + k, by omega⟩
theorem enough_push {Y m r r' : Nat} {l : List UInt8} (y : UInt8) (h : Enough Y (m + 1) r l) (hr : r ≠ 0) : Enough Y m r' (l ++ [y]) := by
  refine .inr (.inl ⟨by simp, ?_⟩)
  rcases h with h | ⟨_, h⟩ | ⟨_, k, h, _⟩
  · exact absurd h hr
  · simp; omega
  · simp; omega
theorem enough_on {Y m r : Nat} {l : List UInt8} (h : Enough Y (m + 1) r l) (hr : r ≠ 0) (hl : l.length = 0) (hq : r * 10 < Y) : Enough Y m (r * 10) l := by
  rcases h with h | ⟨h, _⟩ | ⟨_, k, h, h2⟩
  · exact absurd h hr
  · omega
  · refine .inr (.inr ⟨hl, k - 1, ?_, ?_⟩)
    · cases k with
      | zero => simp at h2; omega
      | succ k => omega
    · cases k with
      | zero => simp at h2; omega
      | succ k => rw [Nat.mul_assoc, Nat.mul_comm 10, ← Nat.pow_succ]; simpa using h2
theorem divGo_go {Y m r : Nat} {l : List UInt8} {e : Int} (hr : r ≠ 0) (hl : l.length < 17) :
    divGo Y (m + 1) r l e = divGo Y m (r * 10 % Y) (if r * 10 / Y ≠ 0 ∨ 0 < l.length then l ++ [UInt8.ofNat (r * 10 / Y)] else l) (e - 1) := by rw [divGo, if_pos ⟨hr, hl⟩]
theorem divGo_stop {Y n r : Nat} {l : List UInt8} {e : Int} (h : r = 0 ∨ ¬ l.length < 17) : divGo Y n r l e = (r, l, e) := by
  cases n with
  | zero => rfl
  | succ n => rw [divGo, if_neg (fun hh => h.elim hh.1 (fun h => h hh.2))]

theorem meas_push {Y len r r' : Nat} (hl : len < 17) (h0 : 0 < Y) : (17 - (len + 1)) * (Y + 1) + (Y - r') < (17 - len) * (Y + 1) + (Y - r) := by
  rw [show 17 - len = (17 - (len + 1)) + 1 by omega, Nat.succ_mul]; omega

theorem slot_set2 {W w : World} {C B : Nat} (h : Below C W w) (hB : C ≤ B) (u v : Value) : Below C W ((w.setCell ⟨B, 0, none⟩ u).setCell ⟨B, 1, none⟩ v) :=
  (h.setCell (p := ⟨B, 0, none⟩) hB u).setCell (p := ⟨B, 1, none⟩) hB v
theorem meas_on {Y s : Nat} (h0 : s ≠ 0) (hs : s < Y) : Y - s * 10 < Y - s := by omega

/-- one byte put behind -/
theorem push_own2 {w w3 : World} {B : Nat} {v v' : Value} {acc : List UInt8} {y : UInt8} {W : World} {o : Obj} (hown : Own w B v acc) (hB : B ≤ w.heap.size) (hb : Below B W w)
    (h : w3.ownsRow B 5 1 v' (acc.length + 1) (cel acc ++ [.int .u8 (y.toNat : Int)])) (hg : (w.alloc o).grownBy w3 v.ownBlock) (hn : ¬ v' = .slice none 0 0) :
    Own w3 B v' (acc ++ [y]) ∧ Below B W w3 :=
  ⟨own_of h hn, Below.grown (hb.alloc hB _) hg (by simp; omega) (fun j hj => by have := (hown.1.lt _ hj).1; omega)⟩

set_option maxRecDepth 1000000 in
set_option maxHeartbeats 4000000 in
theorem div_main (a b c d : Int) (X Y : Nat) (ng : Bool) (hX : Hid (a.natAbs = X)) (hY : Hid (c.natAbs = Y)) (hng : (decide (a < 0) != decide (c < 0)) = ng) (ha : rightB a b = true) (hc : rightB c d = true) (hc0 : (c == 0) = false) (w : World) (ht : Tab w) (Rm Re : Int) (Rb : Bool)
    (hR : Hid ((Rm, Re, Rb) = roundL ng (divEnd (divGo Y 32 (X % Y) (digs ((X / Y : Nat) : Int)) (b - d))).1 (divEnd (divGo Y 32 (X % Y) (digs ((X / Y : Nat) : Int)) (b - d))).2)) :
    Calls Tryd.prog 29 #[numV a b, numV c d] w fun e w' => e = .returned (.tuple #[.agg #[.int .i64 Rm, .int .i64 Re], .bool Rb]) ∧ Below w.heap.size w w' := by
  obtain ⟨i0, hi, hz0, hz1, hz2⟩ := info_parts info5
  obtain ⟨ba, bb1, bb2⟩ := right_bounds ha
  obtain ⟨bc, bd1, bd2⟩ := right_bounds hc
  have R1 : Hid (∀ w1, Calls Tryd.prog 17 #[.agg #[.int .i64 a, .int .i64 b]] w1 fun r w' => r = .returned (.bool true) ∧ Below w1.heap.size w1 w') := by
    intro w1; have := right_any a b (by omega) (by omega) (by omega) w1; rw [ha] at this; exact this
  have R2 : Hid (∀ w1, Calls Tryd.prog 17 #[.agg #[.int .i64 c, .int .i64 d]] w1 fun r w' => r = .returned (.bool true) ∧ Below w1.heap.size w1 w') := by
    intro w1; have := right_any c d (by omega) (by omega) (by omega) w1; rw [hc] at this; exact this
  have W1 : Hid (∀ w1, Calls Tryd.prog 59 #[.int .i64 a] w1 fun e w' => e = .returned (.int .i64 (X : Int)) ∧ w' = w1) := by
    intro w1; have := without_any a (by omega) (by omega) w1; rw [hX.out] at this; exact this
  have W2 : Hid (∀ w1, Calls Tryd.prog 59 #[.int .i64 c] w1 fun e w' => e = .returned (.int .i64 (Y : Int)) ∧ w' = w1) := by
    intro w1; have := without_any c (by omega) (by omega) w1; rw [hY.out] at this; exact this
  have hXb : X < 1000000000000000 := by rw [← hX.out]; exact ba
  have hYb : Y < 1000000000000000 := by rw [← hY.out]; exact bc
  have hY0 : 0 < Y := by
    rw [beq_eq_false_iff_ne] at hc0
    rw [← hY.out]; omega
  have hYne : ((Y : Int) == 0) = false := by rw [beq_eq_false_iff_ne]; omega
  obtain ⟨q, hq⟩ : ∃ q : Nat, q = X / Y := ⟨_, rfl⟩
  obtain ⟨r, hr⟩ : ∃ r : Nat, r = X % Y := ⟨_, rfl⟩
  have hqi : (X : Int) / (Y : Int) = (q : Int) := by rw [hq]; rfl
  have hri : (X : Int) % (Y : Int) = (r : Int) := by rw [hr]; rfl
  have hqb : q ≤ X := by rw [hq]; exact Nat.div_le_self _ _
  have hrb : r < Y := by rw [hr]; exact Nat.mod_lt _ hY0
  rw [← hq, ← hr] at hR
  have D1 : Hid (∀ w1, Tab w1 → Calls Tryd.prog 47 #[.int .i64 (q : Int)] w1 fun e w' => ∃ v, e = .returned (.tuple #[.bool (decide ((q : Int) < 0)), v]) ∧ Own w' w1.heap.size v (digs (q : Int)) ∧ Below w1.heap.size w1 w') :=
    fun w1 h => digits_any (q : Int) (by omega) (by omega) w1 h
  have hdl := digs_length (q : Int) (by omega) (by omega)
  obtain ⟨L, hL⟩ : ∃ L, L = digs (q : Int) := ⟨_, rfl⟩
  rw [← hL] at hR D1 hdl
  have HT := Lib.hid ht
  clear ha hc ba bc hX hY hq hr hL ht
  unfold numV
  go_enter Tryd.func29, Tryd.ntmps29
  go_wp2_with fail
  refine (R1.out _).mono ?_
  rintro e w1 ⟨rfl, hb1⟩
  have hT0 := Trio.new w a b c d
  have hB0 := below3 w (.cells #[.int .i64 a, .int .i64 b] 24) (.cells #[.int .i64 c, .int .i64 d] 24) (.cells #[.int .i64 0, .int .i64 0] 24)
  obtain ⟨hT1, hZ1⟩ := hT0.below hb1 (by simp)
  have hW1 := hB0.trans (hb1.mono hB0.size)
  clear hT0 hB0 hb1
  obtain ⟨⟨p0, p1, p2, p3⟩, ⟨p4, p5, p6, p7⟩, p8, p9, p10, p11⟩ := id hT1
  go_wp2_with fail
  refine (R2.out _).mono ?_
  rintro e w2 ⟨rfl, hb2⟩
  obtain ⟨hT2, hZ2⟩ := hT1.below hb2 hZ1
  have hW2 := hW1.trans (hb2.mono hW1.size)
  clear hT1 hZ1 hW1 hb2 p0 p1 p2 p3 p4 p5 p6 p7 p8 p9 p10 p11
  obtain ⟨⟨p0, p1, p2, p3⟩, ⟨p4, p5, p6, p7⟩, p8, p9, p10, p11⟩ := id hT2
  go_wp2_with fail
  go_quiet (first
    | (go_at_call 59; refine Calls.quiet_of_same (W1.out _))
    | (go_at_call 59; refine Calls.quiet_of_same (W2.out _)))
  go_wp2_with fail
  have hW3 := below_drewN hW2 nq
  refine (D1.out (w2.drewN nq) (HT.out.below hW3)).mono ?_
  rintro e w3 ⟨v, rfl, hown, hb3⟩
  obtain ⟨hT3, hz3⟩ := (hT2.below (below_drewN (Below.refl _ w2) nq) hZ2).1.below hb3 hZ2
  have hW4 := hW3.trans (hb3.mono hW3.size)
  clear hT2 hW2 hW3 p0 p1 p2 p3 p4 p5 p6 p7 p8 p9 p10 p11 D1
  obtain ⟨⟨p0, p1, p2, p3⟩, ⟨p4, p5, p6, p7⟩, p8, p9, p10, p11⟩ := id hT3
  obtain ⟨B, hB⟩ : ∃ B, B = w2.heap.size := ⟨_, rfl⟩
  have hown1 : Own w3 B v L := by rw [hB]; exact hown
  have hB3 : w.heap.size + 3 ≤ B := by rw [hB]; exact hZ2
  have hBw : B ≤ w3.heap.size := by rw [hB]; exact hb3.size
  clear hown hb3 hZ2 hB hz3
  go_wp2_with fail
  go_quiet (fail)
  obtain ⟨W3, hW3⟩ : ∃ W3, W3 = w3.drewN nq := ⟨_, rfl⟩
  have hown2 : Own W3 B v L := by rw [hW3]; exact hown1
  have hT4 : Trio W3 w.heap.size a b c d := by rw [hW3]; exact (hT3.below (below_drewN (Below.refl _ w3) nq) (by omega)).1
  have hW5 : Below w.heap.size w W3 := by rw [hW3]; exact below_drewN hW4 nq
  have hBw3 : B ≤ W3.heap.size := by rw [hW3]; exact hBw
  rw [← hW3]
  clear hown1 hT3 hW4 hBw hW3 p0 p1 p2 p3 p4 p5 p6 p7 p8 p9 p10 p11
  go_wp2_with fail
  go_loopw [9, 10, 11] (fun v' e' r' wr => ∃ (n : Nat) (l : List UInt8) (x : Int) (s : Nat), e' = .int .i64 x ∧ r' = .int .i64 (s : Int) ∧ s < Y ∧ Own wr B v' l ∧ Below B W3 wr ∧ Hid (divGo Y n s l x = divGo Y 32 r L (b - d)) ∧ Hid (Enough Y n s l) ∧ l.length ≤ 21 ∧ b - d - 32 ≤ x - n ∧ x ≤ b - d ∧ n ≤ 32) (fun v' _ r' _ => (17 - lenOf v') * (Y + 1) + (Y - (intOf r').toNat))
  case atStart => exact ⟨32, L, b - d, r, rfl, by rw [hri], hrb, hown2, Below.refl _ _, rfl, enough_start L hYb, by omega, by omega, by omega, by omega⟩
  case round =>
    obtain ⟨n, l, x, s, rfl, rfl, hsY, hown, hbw, HG, HN, hl, hx0, hx1, hn⟩ := hrel
    have hTr : Trio wr w.heap.size a b c d := ⟨hT4.s0.below hbw (by omega), hT4.s1.below hbw (by omega), hT4.s2.below hbw (by omega)⟩
    have hBr : B ≤ wr.heap.size := by have := hbw.size; omega
    have hbw6 : Below w.heap.size w wr := hW5.trans (hbw.mono (by omega))
    clear hT4 hW5 hown2 hBw3 hri hqi hrb hqb hdl
    obtain ⟨g, cp, rfl⟩ := hown.2
    by_cases hs : s = 0
    · have hT : Hid ((Rm, Re, Rb) = roundL ng l x) := by
        have := hR.out
        rw [← HG.out, divGo_stop (.inl hs)] at this
        rw [divEnd, if_neg (by simpa using hs)] at this
        exact this
      subst hs
      obtain ⟨⟨p0, p1, p2, p3⟩, ⟨p4, p5, p6, p7⟩, p8, p9, p10, p11⟩ := id hTr
      clear HG HN hR
      have CR := Lib.hid (round_own hown ng x (by omega))
      rw [← hT.out] at CR
      have hz : w.heap.size + 3 ≤ wr.heap.size := by omega
      simp only [numR, numV] at CR
      clear hT
      go_wp2_with fail
      rw [show (!decide (a < 0) == decide (c < 0)) = ng from hng]
      refine CR.out.mono ?_
      rintro e w5 ⟨rfl, hb5⟩
      obtain ⟨m0, m1, f0, f1⟩ := hTr.s2.below hb5 (by omega)
      have hb6 := hbw6.trans (hb5.mono (by omega))
      clear CR hb5 p0 p1 p2 p3 p4 p5 p6 p7 p8 p9 p10 p11
      go_wp2
      refine bodyPost_ret (v := .tuple #[.agg #[.int .i64 Rm, .int .i64 Re], .bool Rb]) (by simp [results, Tryd.results29, go_sem, m0, m1]) rfl ⟨rfl, ?_⟩
      exact slot_set2 hb6 (by omega) _ _
    · have hsne : ((s : Int) == 0) = false := by rw [beq_eq_false_iff_ne]; omega
      have hsnn : ((s : Int) != 0) = true := by rw [bne, hsne]; rfl
      by_cases hl17 : l.length < 17
      · obtain ⟨m, rfl⟩ := enough_pos HN.out hs hl17
        have HG1 := HG.out
        rw [divGo_go hs hl17] at HG1
        obtain ⟨q2, hq2⟩ : ∃ q2, q2 = s * 10 / Y := ⟨_, rfl⟩
        obtain ⟨s2, hs2⟩ : ∃ s2, s2 = s * 10 % Y := ⟨_, rfl⟩
        have hq2i : (s : Int) * 10 / (Y : Int) = (q2 : Int) := by rw [hq2]; rfl
        have hs2i : (s : Int) * 10 % (Y : Int) = (s2 : Int) := by rw [hs2]; rfl
        have hq2b : q2 < 10 := by rw [hq2]; exact (Nat.div_lt_iff_lt_mul hY0).2 (by omega)
        have hs2Y : s2 < Y := by rw [hs2]; exact Nat.mod_lt _ hY0
        rw [← hq2, ← hs2] at HG1
        obtain ⟨y, hy⟩ : ∃ y, y = UInt8.ofNat q2 := ⟨_, rfl⟩
        have hy8 : (y.toNat : Int) = (q2 : Int) := by rw [hy]; simp; omega
        rw [← hy] at HG1
        by_cases happ : q2 ≠ 0 ∨ 0 < l.length
        · rw [if_pos happ] at HG1
          have HG2 := Lib.hid HG1
          have HN2 := Lib.hid (enough_push (r' := s2) y HN.out hs)
          have HY8 := Lib.hid hy8
          clear HG HN HG1 hq2 hs2 hy hs hR hy8
          by_cases hq0 : q2 = 0
          · have hlp : 0 < l.length := by omega
            have hq01 : ((q2 : Int) != 0) = false := by rw [hq0]; rfl
            clear happ hq0
            go_wp2_with (first
              | (at_builtin; refine wpList_append_own _ rfl _ _ 49 rfl B 5 i0 (.int .u8 0) 1 1 Tryd.underlying49 hi hz0 hz1 hz2 rfl (by decide) _ _ _ rfl (hown.1.alloc _) ⟨wr.heap.size, 0, none⟩ 1 1 [.int .u8 (q2 : Int)] rfl rfl (cell_one_new _ _ _) (fun u hu => by simp at hu; subst hu; rfl) (by unfold maxLen; omega) (by omega) (by simp; omega) ?_))
            intro v' w4 hown3 hgrow hnil
            rw [← HY8.out] at hown3
            have P := push_own2 hown hBr hbw hown3 hgrow hnil
            clear hown3 hgrow hnil
            obtain ⟨g', c', rfl⟩ := P.1.2
            go_wp2
            go_roundw
            case rel => exact ⟨m, l ++ [y], x - 1, s2, rfl, by rw [hs2i], hs2Y, P.1, P.2, HG2, HN2, by simp; omega, by omega, by omega, by omega⟩
            case measure =>
              simp only [lenOf, intOf, List.length_append, List.length_singleton]
              exact meas_push hl17 hY0
          · have hq01 : ((q2 : Int) != 0) = true := by rw [bne_iff_ne]; omega
            clear happ
            go_wp2_with (first
              | (at_builtin; refine wpList_append_own _ rfl _ _ 49 rfl B 5 i0 (.int .u8 0) 1 1 Tryd.underlying49 hi hz0 hz1 hz2 rfl (by decide) _ _ _ rfl (hown.1.alloc _) ⟨wr.heap.size, 0, none⟩ 1 1 [.int .u8 (q2 : Int)] rfl rfl (cell_one_new _ _ _) (fun u hu => by simp at hu; subst hu; rfl) (by unfold maxLen; omega) (by omega) (by simp; omega) ?_))
            intro v' w4 hown3 hgrow hnil
            rw [← HY8.out] at hown3
            have P := push_own2 hown hBr hbw hown3 hgrow hnil
            clear hown3 hgrow hnil
            obtain ⟨g', c', rfl⟩ := P.1.2
            go_wp2
            go_roundw
            case rel => exact ⟨m, l ++ [y], x - 1, s2, rfl, by rw [hs2i], hs2Y, P.1, P.2, HG2, HN2, by simp; omega, by omega, by omega, by omega⟩
            case measure =>
              simp only [lenOf, intOf, List.length_append, List.length_singleton]
              exact meas_push hl17 hY0
        · rw [if_neg happ] at HG1
          have hl0 : l.length = 0 := by omega
          have hq0 : q2 = 0 := by omega
          have hs10 : s * 10 < Y := by
            have h1 := Nat.div_add_mod (s * 10) Y
            rw [← hq2, hq0, Nat.mul_zero, Nat.zero_add] at h1
            rw [← h1]; exact Nat.mod_lt _ hY0
          have hs2e : s2 = s * 10 := by rw [hs2]; exact Nat.mod_eq_of_lt hs10
          have HG2 := Lib.hid HG1
          have HN2 : Hid (Enough Y m s2 l) := by rw [hs2e]; exact enough_on HN.out hs hl0 hs10
          clear HG HN HG1 hq2 hs2 hy happ hR
          subst hq0
          have l0 := List.eq_nil_of_length_eq_zero hl0
          subst l0
          clear hs2e
          have HS10 := Lib.hid hs10
          clear hs10
          go_wp2
          go_roundw
          case rel => exact ⟨m, [], x - 1, s2, rfl, by rw [hs2i], hs2Y, hown, hbw, HG2, HN2, by simp, by omega, by omega, by omega⟩
          case measure =>
            have hm := meas_on hs hsY
            have hse : (s : Int) * 10 % (Y : Int) = ((s * 10 : Nat) : Int) := by
              have := HS10.out
              rw [Int.emod_eq_of_lt (by omega) (by omega)]; omega
            simp only [lenOf, intOf]
            rw [hse]
            simp only [List.length_nil, Int.toNat_natCast]
            omega
      · have hT : Hid ((Rm, Re, Rb) = roundL ng (l ++ [1]) (x - 1)) := by
          have := hR.out
          rw [← HG.out, divGo_stop (.inr hl17)] at this
          rw [divEnd, if_pos (by simpa using hs)] at this
          exact this
        have hl17' : ¬ (l.length : Int) < 17 := by omega
        clear HG HN hR
        obtain ⟨⟨p0, p1, p2, p3⟩, ⟨p4, p5, p6, p7⟩, p8, p9, p10, p11⟩ := id hTr
        go_wp2_with (first
          | (at_builtin; refine wpList_append_own _ rfl _ _ 49 rfl B 5 i0 (.int .u8 0) 1 1 Tryd.underlying49 hi hz0 hz1 hz2 rfl (by decide) _ _ _ rfl (hown.1.alloc _) ⟨wr.heap.size, 0, none⟩ 1 1 [.int .u8 ((1 : UInt8).toNat : Int)] rfl rfl (cell_one_new _ _ _) (fun u hu => by simp at hu; subst hu; rfl) (by unfold maxLen; omega) (by omega) (by simp; omega) ?_))
        intro v' w4 hown3 hgrow hnil
        have P := push_own2 (y := 1) hown hBr (Below.refl _ _) hown3 hgrow hnil
        have hTr4 : Trio w4 w.heap.size a b c d := ⟨hTr.s0.below P.2 (by omega), hTr.s1.below P.2 (by omega), hTr.s2.below P.2 (by omega)⟩
        have hbw7 := hbw6.trans (P.2.mono (by omega))
        have hz : w.heap.size + 3 ≤ w4.heap.size := by have := P.2.size; omega
        have CR := Lib.hid (round_own (x := x - 1) P.1 ng (by simp; omega))
        rw [← hT.out] at CR
        simp only [numR, numV] at CR
        clear hT hown3 hgrow hnil p0 p1 p2 p3 p4 p5 p6 p7 p8 p9 p10 p11 hTr hbw6
        obtain ⟨⟨p0, p1, p2, p3⟩, ⟨p4, p5, p6, p7⟩, p8, p9, p10, p11⟩ := id hTr4
        go_wp2_with fail
        rw [show (!decide (a < 0) == decide (c < 0)) = ng from hng]
        refine CR.out.mono ?_
        rintro e w5 ⟨rfl, hb5⟩
        obtain ⟨m0, m1, f0, f1⟩ := hTr4.s2.below hb5 (by omega)
        have hb6 := hbw7.trans (hb5.mono (by omega))
        clear CR hb5 p0 p1 p2 p3 p4 p5 p6 p7 p8 p9 p10 p11
        go_wp2
        refine bodyPost_ret (v := .tuple #[.agg #[.int .i64 Rm, .int .i64 Re], .bool Rb]) (by simp [results, Tryd.results29, go_sem, m0, m1]) rfl ⟨rfl, ?_⟩
        exact slot_set2 hb6 (by omega) _ _

/-- what Div comes to -/
theorem div_yes (a b c d : Int) (ha : rightB a b = true) (hc : rightB c d = true) (hc0 : c ≠ 0) (w : World) (ht : Tab w) :
    Calls Tryd.prog 29 #[numV a b, numV c d] w fun e w' => e = .returned (numR (divL a b c d)) ∧ Below w.heap.size w w' := by
  obtain ⟨⟨m, x, y⟩, hR⟩ : ∃ R, R = divL a b c d := ⟨_, rfl⟩
  rw [← hR]
  exact div_main a b c d a.natAbs c.natAbs _ rfl rfl rfl ha hc (by rw [beq_eq_false_iff_ne]; exact hc0) w ht m x y hR
end Go.Proofs.YtkdjdoncmihkfaaDoor
