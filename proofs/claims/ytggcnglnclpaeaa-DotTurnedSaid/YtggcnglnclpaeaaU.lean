/- DotTurned: in which order the ids come, does not matter. -/
import Derived.Test.YtggcnglnclpaeaaJ
import Derived.Test.YtggcnglnclpaeaaS
namespace Go.Proofs.Ytggcnglnclpaeaa
open Go.RowKit Go.Maps

/-- the blocks of one of some Seens -/
def Sx (ow : Nat → Nat) (n : Nat) (w : World) (i b : Nat) : Prop := ow b = i ∧ n ≤ b ∧ b < w.heap.size
def paint (ow : Nat → Nat) (z i b : Nat) : Nat := if b < z then ow b else i
/-- the other Seens lie on -/
def Rest (ow ow' : Nat → Nat) (n i : Nat) (w w' : World) : Prop := ∀ j s K l, j ≠ i → SeenAt w s (Sx ow n w j) K l → SeenAt w' s (Sx ow' n w' j) K l

theorem rest_of {T : Nat → Prop} {ow : Nat → Nat} {n i : Nat} {w w' : World} (ho : Only T w w') (hT : ∀ b, b < w.heap.size → T b → ow b = i) : Rest ow (paint ow w.heap.size i) n i w w' := fun _ _ _ _ hj h =>
  (h.kept ho (fun b hb hz ht => hj (hb.1.symm.trans (hT b hz ht)))).wider (fun b hb _ => ⟨by simp [paint, hb.2.2, hb.1], hb.2.1, Nat.lt_of_lt_of_le hb.2.2 ho.size⟩) (Nat.le_refl _)
theorem rest_below {ow : Nat → Nat} {n i : Nat} {w w' : World} (hb : Below w.heap.size w w') : Rest ow ow n i w w' := fun _ _ _ _ _ h =>
  (h.later hb).wider (fun _ hk _ => ⟨hk.1, hk.2.1, Nat.lt_of_lt_of_le hk.2.2 hb.size⟩) (Nat.le_refl _)
theorem sx_new {ow : Nat → Nat} {n i : Nat} {w w' : World} (hn : n ≤ w.heap.size) (b : Nat) (hb : Sx ow n w i b ∨ w.heap.size ≤ b) (hz : b < w'.heap.size) : Sx (paint ow w.heap.size i) n w' i b := by
  rcases hb with ⟨h1, h2, h3⟩ | h1
  · exact ⟨by simp [paint, h3, h1], h2, hz⟩
  · exact ⟨by simp [paint, show ¬ b < w.heap.size by omega], by omega, hz⟩

def OwnOut (v : Value) (ow : Nat → Nat) (n i s K : Nat) (l : Row) (w : World) (e : Ending) (w' : World) : Prop :=
  e = .returned v ∧ ∃ ow', SeenAt w' s (Sx ow' n w' i) K l ∧ Rest ow ow' n i w w' ∧ Below n w w'

theorem own_add {ow : Nat → Nat} {n i s K : Nat} {l : Row} {w : World} (h : SeenAt w s (Sx ow n w i) K l) (a m : Int) (hn : n ≤ w.heap.size) (h0 : -9223372036854775808 ≤ a) (h1 : a ≤ 9223372036854775807) (h2 : m ≤ 9223372036854775807) (hK : K ≤ 1000) :
    Calls Try.prog 13 #[.pointer (some ⟨s, 0, none⟩), idV a m] w (OwnOut (.bool (addB l a m)) ow n i s (K + 1) (addL l a m) w) :=
  (add_any s _ K l a m w h h0 h1 h2 (by unfold maxLen; omega)).mono fun _ _ ⟨he, hs, ho⟩ =>
    ⟨he, paint ow w.heap.size i, hs.wider (fun b hb hz => sx_new hn b hb hz) (Nat.le_refl _), rest_of ho (fun _ _ hb => by rcases hb with rfl | ⟨hb, _⟩; exact h.1.1; exact hb.1), foot_below ho hn h.1.2.1 (fun _ hb => hb.2.1)⟩
theorem own_new (ow : Nat → Nat) (n i : Nat) (w : World) (hn : n ≤ w.heap.size) :
    Calls Try.prog 11 #[] w (OwnOut (.pointer (some ⟨w.heap.size, 0, none⟩)) ow n i w.heap.size 0 [] w) :=
  (new_any w).mono fun _ _ ⟨he, hw⟩ => by
    have hb : Below w.heap.size w (w.alloc (.cells #[.map none] 47)) := (Below.refl _ _).alloc (Nat.le_refl _) _
    subst hw
    exact ⟨he, paint ow w.heap.size i, ⟨sx_new hn _ (.inr (Nat.le_refl _)) (by simp), OkR.nil, .inl ⟨Boxed.new w 47 (.map none), rfl⟩⟩, rest_of (Only.of_below hb) (fun b h1 h2 => by omega), hb.mono hn⟩
theorem own_join {ow : Nat → Nat} {n i j s t K K' : Nat} {l m : Row} {w : World} (h : SeenAt w s (Sx ow n w i) K l) (h2 : SeenAt w t (Sx ow n w j) K' m) (hij : i ≠ j) (hn : n ≤ w.heap.size) (hK : K + m.length ≤ 1000) :
    Calls Try.prog 23 #[.pointer (some ⟨s, 0, none⟩), .pointer (some ⟨t, 0, none⟩)] w (OwnOut (.tuple #[]) ow n i s (K + m.length) (addsL l m) w) :=
  (join_any s (some ⟨t, 0, none⟩) _ _ K K' l m w h (.inr ⟨t, rfl, h2⟩) (fun _ hk => hk.2.2) (fun _ hk => hk.2.2) (fun _ hk ht => hij (hk.1.symm.trans ht.1)) (by omega)).mono fun _ _ ⟨he, hs, ho⟩ =>
    ⟨he, paint ow w.heap.size i, hs.wider (fun b hb hz => sx_new hn b hb hz) (Nat.le_refl _), rest_of ho (fun _ _ hb => hb.1), ho.below hn (fun _ hb => hb.2.1)⟩

theorem addL_comm {l : Row} (ho : OkR l) {a n b m : Int} (hn : n ≤ 9223372036854775807) (hm : m ≤ 9223372036854775807) : addL (addL l a n) b m = addL (addL l b m) a n :=
  row_ext (addL_ok (addL_ok ho hn) hm) (addL_ok (addL_ok ho hm) hn) fun c => by
    rw [look_addL (addL_ok ho hn), look_addL (addL_ok ho hm), look_addL ho, look_addL ho, look_addL ho, look_addL ho]
    by_cases hab : b = a
    · subst hab
      by_cases hc : c = b
      · subst hc
        by_cases h1 : mayB c n = true <;> by_cases h2 : mayB c m = true <;> simp [h1, h2] <;> repeat' split
        all_goals omega
      · simp [hc]
    · by_cases hc : c = b
      · subst hc
        simp [hab]
      · simp [hc]
        by_cases hd : c = a
        · subst hd; simp [hc]
        · simp [hd]
theorem addsL_comm {l : Row} (ho : OkR l) {ids : Row} (hs : ∀ p ∈ ids, p.2 ≤ 9223372036854775807) {p : Int × Int} (hp : p.2 ≤ 9223372036854775807) : addL (addsL l ids) p.1 p.2 = addsL (addL l p.1 p.2) ids := by
  induction ids generalizing l with
  | nil => rfl
  | cons q ids ih =>
    have hq := hs q (by simp)
    have h1 := ih (addL_ok ho hq (a := q.1)) (fun r hr => hs r (by simp [hr]))
    show addL (addsL (addL l q.1 q.2) ids) p.1 p.2 = addsL (addL (addL l p.1 p.2) q.1 q.2) ids
    rw [h1, addL_comm ho hq hp]
theorem addsL_turned {l : Row} (ho : OkR l) {ids : Row} (hs : ∀ p ∈ ids, p.2 ≤ 9223372036854775807) : addsL l ids.reverse = addsL l ids := by
  induction ids generalizing l with
  | nil => rfl
  | cons q ids ih =>
    rw [List.reverse_cons, addsL_snoc, ih ho (fun r hr => hs r (by simp [hr])), addsL_comm ho (fun r hr => hs r (by simp [hr])) (hs q (by simp))]
    rfl
theorem addsL_one {l : Row} (a n : Int) : addsL l (addL [] a n) = addL l a n := by
  unfold addL
  cases hm : mayB a n with
  | false => simp [addB, hm, addsL]
  | true =>
    have hm' := (mayB_iff a n).1 hm
    have h0 : decide (n ≤ (0 : Int)) = false := decide_eq_false (by omega)
    have h1 : addB [] a n = true := by
      unfold addB hasB
      rw [hm]
      show (true && !(true && decide (n ≤ 0))) = true
      rw [h0]; rfl
    rw [if_pos h1]
    rfl
theorem addL_len (l : Row) (a n : Int) : (addL l a n).length ≤ l.length + 1 := addsL_len l [(a, n)]
theorem cov_refl {l : Row} (ho : OkR l) : covB l l = true := (covB_iff ho ho).2 fun _ => Int.le_refl _

theorem turned_long (u : Value) (la : Row) (w : World) (ha : IdsAt w u la) (h : 100 < la.length) :
    Calls Try.prog 8 #[u] w fun e w' => e = .returned (.bool true) ∧ Below w.heap.size w w' := by
  obtain ⟨A, c, rfl, _, _⟩ := ha
  go_enter Try.func8, Try.ntmps8
  go_wp2_with (go_at_call 10; refine (awake_any _).mono ?_; rintro e w1 ⟨rfl, hb1⟩)
  go_ret
  exact ⟨rfl, hb1⟩

/-- between two rounds -/
def TurnRel (n sa sb sc : Nat) (la : Row) (w1 : World) (k : Nat) (wr : World) : Prop :=
  ∃ ow, SeenAt wr sa (Sx ow n wr 0) k (addsL [] (la.take k)) ∧ SeenAt wr sb (Sx ow n wr 1) k (addsL [] (la.reverse.take k)) ∧ SeenAt wr sc (Sx ow n wr 2) k (addsL [] (la.take k)) ∧ Below n w1 wr ∧ n ≤ wr.heap.size

set_option maxHeartbeats 12800000 in
set_option maxRecDepth 100000 in
theorem turned_short (u : Value) (la : Row) (w : World) (ha : IdsAt w u la) (sa : Small la) (h : ¬ 100 < la.length) :
    Calls Try.prog 8 #[u] w fun e w' => e = .returned (.bool true) ∧ Below w.heap.size w w' := by
  have okA := Lib.hid (adds_ok sa)
  have nA := addsL_len [] la
  simp only [List.length_nil, Nat.zero_add] at nA
  have HT := Lib.hid (addsL_turned OkR.nil (small_up sa))
  have SA := Lib.hid sa
  obtain ⟨A, c, rfl, hc, hI⟩ := ha
  have HI := Lib.hid hI
  clear sa hI
  go_enter Try.func8, Try.ntmps8
  go_wp2_with (go_at_call 10; refine (awake_any _).mono ?_; rintro e w1 ⟨rfl, hb1⟩)
  have HB1 := Lib.hid hb1
  have zw1 := hb1.size
  clear hb1
  refine (own_new (fun _ => 0) w1.heap.size 0 w1 (Nat.le_refl _)).mono ?_
  rintro e w2 ⟨rfl, ow1, hA1, _, hb2⟩
  have A1 := Lib.hid hA1
  have B2 := Lib.hid hb2
  have z2 := hb2.size
  clear hA1 hb2
  go_wp2_with fail
  refine (own_new ow1 w1.heap.size 1 w2 z2).mono ?_
  rintro e w3 ⟨rfl, ow2, hA2, hr2, hb3⟩
  have A2 := Lib.hid (hr2 0 _ _ _ (by decide) A1.out)
  have C2 := Lib.hid hA2
  have B3 := Lib.hid (B2.out.trans hb3)
  have z3 : w1.heap.size ≤ w3.heap.size := B3.out.size
  clear hA2 hb3 hr2 A1
  go_wp2_with fail
  refine (own_new ow2 w1.heap.size 2 w3 z3).mono ?_
  rintro e w4 ⟨rfl, ow3, hA3, hr3, hb4⟩
  have A3 := Lib.hid (hr3 0 _ _ _ (by decide) A2.out)
  have C3 := Lib.hid (hr3 1 _ _ _ (by decide) C2.out)
  have D3 := Lib.hid hA3
  have B4 := Lib.hid (B3.out.trans hb4)
  have z4 : w1.heap.size ≤ w4.heap.size := B4.out.size
  clear hA3 hb4 hr3 A2 C2
  go_wp2_with fail
  go_loopw [18] (fun i wr => ∃ k : Nat, k ≤ la.length ∧ i = .int .i64 k ∧ TurnRel w1.heap.size w1.heap.size w2.heap.size w3.heap.size la w1 k wr) (fun i _ => la.length - (intOf i).toNat)
  case atStart => exact ⟨0, Nat.zero_le _, rfl, ow3, A3.out, C3.out, D3.out, B4.out, z4⟩
  case round =>
    obtain ⟨k, hk, rfl, ow, h1, h2, h3, hB, hn⟩ := hrel
    have E1 := Lib.hid h1
    have E2 := Lib.hid h2
    have E3 := Lib.hid h3
    have HW := Lib.hid (HB1.out.trans (hB.mono zw1))
    have HV := Lib.hid hB
    clear h1 h2 h3 hB A3 C3 D3 B4 B3 B2
    by_cases hlt : k < la.length
    · have hx : la[k]? = some la[k] := List.getElem?_eq_getElem hlt
      have hm1 : la.length - 1 - k < la.length := by omega
      have hy : la[la.length - 1 - k]? = some la[la.length - 1 - k] := List.getElem?_eq_getElem hm1
      obtain ⟨p, hp⟩ : ∃ p, la[k] = p := ⟨_, rfl⟩
      obtain ⟨q, hq⟩ : ∃ q, la[la.length - 1 - k] = q := ⟨_, rfl⟩
      rw [hp] at hx
      rw [hq] at hy
      have hps := SA.out p (List.mem_of_getElem? hx)
      have hqs := SA.out q (List.mem_of_getElem? hy)
      have e1 : addsL [] (la.take (k + 1)) = addL (addsL [] (la.take k)) p.1 p.2 := by rw [List.take_add_one, hx]; exact addsL_snoc _ _ _
      have e2 : addsL [] (la.reverse.take (k + 1)) = addL (addsL [] (la.reverse.take k)) q.1 q.2 := by rw [List.take_add_one, List.getElem?_reverse hlt, hy]; exact addsL_snoc _ _ _
      obtain ⟨ad, rfl, c2, c3⟩ := HI.out k p hx
      obtain ⟨ad2, ha2, d2, d3⟩ := HI.out _ q hy
      cases ha2
      have hza := cell_lt c2
      rw [add_block] at hza
      have CP := Lib.hid (fun (W : World) (hW : Below w.heap.size w W) => And.intro ((hW.cell (by rw [add_block]; exact hza)).trans c2) ((hW.cell (p := ⟨(ad.add (k * 2)).block, _, none⟩) (by simp only [add_block]; exact hza)).trans c3))
      have CQ := Lib.hid (fun (W : World) (hW : Below w.heap.size w W) => And.intro ((hW.cell (by rw [add_block]; exact hza)).trans d2) ((hW.cell (p := ⟨(ad.add ((la.length - 1 - k) * 2)).block, _, none⟩) (by simp only [add_block]; exact hza)).trans d3))
      obtain ⟨x, y⟩ := p
      obtain ⟨x2, y2⟩ := q
      obtain ⟨⟨p1, p2⟩, p3, p4⟩ := hps
      obtain ⟨⟨q1, q2⟩, q3, q4⟩ := hqs
      simp only at p1 p2 p3 p4 q1 q2 q3 q4
      have F1 := Lib.hid e1
      have F2 := Lib.hid e2
      clear e1 e2 c2 c3 d2 d3 hx hy hp hq hza
      have hi0 : (0 : Int) ≤ ↑k := by omega
      have hi1 : (↑k : Int) < ↑la.length := by omega
      have hi2 : (↑la.length : Int) ≤ ↑c := by omega
      have hlen1 := addL_len [] x y
      simp only [List.length_nil] at hlen1
      obtain ⟨c2, c3⟩ := CP.out wr HW.out
      go_wp2_with fail
      clear c2 c3
      refine (own_add E1.out x y hn p1 p2 p4 (by omega)).mono ?_
      rintro e w6 ⟨rfl, ow6, hs6, hr6, hb6⟩
      have G1 := Lib.hid hs6
      have G2 := Lib.hid (hr6 1 _ _ _ (by decide) E2.out)
      have G3 := Lib.hid (hr6 2 _ _ _ (by decide) E3.out)
      have V6 := Lib.hid (HV.out.trans hb6)
      have W6 := Lib.hid (HW.out.trans (hb6.mono zw1))
      have z6 := V6.out.size
      clear hs6 hr6 hb6 E1 E2 E3
      obtain ⟨c2, c3⟩ := CQ.out w6 W6.out
      have j0 : (↑la.length : Int) - 1 - ↑k = ↑(la.length - 1 - k) := by omega
      have j1 : ((↑la.length : Int) - 1 - ↑k).toNat = la.length - 1 - k := by omega
      go_wp2_with fail
      refine (own_add G2.out x2 y2 z6 q1 q2 q4 (by omega)).mono ?_
      rintro e w7 ⟨rfl, ow7, hs7, hr7, hb7⟩
      have K1 := Lib.hid (hr7 0 _ _ _ (by decide) G1.out)
      have K2 := Lib.hid hs7
      have K3 := Lib.hid (hr7 2 _ _ _ (by decide) G3.out)
      have V7 := Lib.hid (V6.out.trans hb7)
      have W7 := Lib.hid (W6.out.trans (hb7.mono zw1))
      have z7 := V7.out.size
      clear hs7 hr7 hb7 G1 G2 G3 j0 j1 c2 c3
      go_wp2_with fail
      refine (own_new ow7 w1.heap.size 3 w7 z7).mono ?_
      rintro e w8 ⟨rfl, ow8, hs8, hr8, hb8⟩
      have L1 := Lib.hid (hr8 0 _ _ _ (by decide) K1.out)
      have L2 := Lib.hid (hr8 1 _ _ _ (by decide) K2.out)
      have L3 := Lib.hid (hr8 2 _ _ _ (by decide) K3.out)
      have L4 := Lib.hid hs8
      have V8 := Lib.hid (V7.out.trans hb8)
      have W8 := Lib.hid (W7.out.trans (hb8.mono zw1))
      have z8 := V8.out.size
      clear hs8 hr8 hb8 K1 K2 K3
      obtain ⟨c2, c3⟩ := CP.out w8 W8.out
      go_wp2_with fail
      refine (own_add L4.out x y z8 p1 p2 p4 (by omega)).mono ?_
      rintro e w9 ⟨rfl, ow9, hs9, hr9, hb9⟩
      have M1 := Lib.hid (hr9 0 _ _ _ (by decide) L1.out)
      have M2 := Lib.hid (hr9 1 _ _ _ (by decide) L2.out)
      have M3 := Lib.hid (hr9 2 _ _ _ (by decide) L3.out)
      have M4 := Lib.hid hs9
      have V9 := Lib.hid (V8.out.trans hb9)
      have z9 := V9.out.size
      clear hs9 hr9 hb9 L1 L2 L3 L4 c2 c3
      go_wp2_with fail
      refine (own_join M3.out M4.out (by decide) z9 (by omega)).mono ?_
      rintro e w10 ⟨rfl, ow10, hs10, hr10, hb10⟩
      have N1 := Lib.hid (hr10 0 _ _ _ (by decide) M1.out)
      have N2 := Lib.hid (hr10 1 _ _ _ (by decide) M2.out)
      have N3 := Lib.hid (hs10.wider (fun _ hb _ => hb) (show _ ≤ k + 1 by omega))
      have V10 := Lib.hid (V9.out.trans hb10)
      clear hs10 hr10 hb10 M1 M2 M3 M4
      go_wp2
      go_roundw
      case rel =>
        refine ⟨k + 1, by omega, by simp, ow10, ?_, ?_, ?_, V10.out, V10.out.size⟩
        · rw [F1.out]; exact N1.out
        · rw [F2.out]; exact N2.out
        · rw [F1.out, ← addsL_one]; exact N3.out
      case measure => simp [intOf]; omega
    · obtain rfl : k = la.length := by omega
      have hlt2 : ¬ (↑la.length : Int) < ↑la.length := by omega
      have f1 := E1.out
      have f2 := E2.out
      have f3 := E3.out
      rw [List.take_length] at f1 f3
      rw [List.take_of_length_le (by simp), HT.out] at f2
      have ok := okA.out
      obtain ⟨L, hL⟩ : ∃ l, addsL [] la = l := ⟨_, rfl⟩
      rw [hL] at f1 f2 f3 ok nA
      have hcov := cov_refl ok
      have P1 := Lib.hid (seenP_mk f1)
      have P2 := Lib.hid (seenP_mk f2)
      have P3 := Lib.hid (seenP_mk f3)
      have HC : Hid (∀ (s t : Nat) S T K K', SeenP wr (some ⟨s, 0, none⟩) S K L → SeenP wr (some ⟨t, 0, none⟩) T K' L → (∀ b, T b → b < wr.heap.size) → ∀ W, Below wr.heap.size wr W → Calls Try.prog 20 #[.pointer (some ⟨s, 0, none⟩), .pointer (some ⟨t, 0, none⟩)] W fun e w' => e = .returned (.bool true) ∧ Below W.heap.size W w') := Lib.hid (fun s t S T K K' h1 h2 hT W hW => by
        have := covers_any (some ⟨s, 0, none⟩) (some ⟨t, 0, none⟩) S T K K' L L W (h1.below hW) (h2.below hW) (fun b hb => Nat.lt_of_lt_of_le (hT b hb) hW.size) (by omega)
        rw [hcov] at this
        exact this)
      obtain ⟨a0, n0, hnx⟩ : ∃ a n, nextL L 1 = (a, n) := ⟨_, _, rfl⟩
      have HX : Hid (∀ (s : Nat) S K, SeenP wr (some ⟨s, 0, none⟩) S K L → (∀ b, S b → b < wr.heap.size) → ∀ W, Below wr.heap.size wr W → Calls Try.prog 17 #[.pointer (some ⟨s, 0, none⟩), .int .i64 1] W fun e w' => e = .returned (.agg #[.int .i64 a0, .int .i64 n0]) ∧ Below W.heap.size W w') := Lib.hid (fun s S K h1 hS W hW => by
        have := next_any (some ⟨s, 0, none⟩) S K L 1 W (h1.below hW) (fun b hb => Nat.lt_of_lt_of_le (hS b hb) hW.size) (by omega)
        rw [hnx] at this
        exact this)
      clear f1 f2 f3 E1 E2 E3 hcov hnx hL ok okA HT
      go_wp2_with fail
      refine (HC.out _ _ _ _ _ _ P1.out P2.out (fun b hb => hb.2.2) _ (Below.refl _ _)).mono ?_
      rintro e w20 ⟨rfl, hb20⟩
      have B20 := Lib.hid hb20
      clear hb20
      go_wp2_with fail
      refine (HC.out _ _ _ _ _ _ P2.out P1.out (fun b hb => hb.2.2) _ B20.out).mono ?_
      rintro e w21 ⟨rfl, hb21⟩
      have B21 := Lib.hid (B20.out.trans (hb21.mono B20.out.size))
      clear hb21
      go_wp2_with fail
      refine (HC.out _ _ _ _ _ _ P1.out P3.out (fun b hb => hb.2.2) _ B21.out).mono ?_
      rintro e w22 ⟨rfl, hb22⟩
      have B22 := Lib.hid (B21.out.trans (hb22.mono B21.out.size))
      clear hb22
      go_wp2_with fail
      refine (HC.out _ _ _ _ _ _ P3.out P1.out (fun b hb => hb.2.2) _ B22.out).mono ?_
      rintro e w23 ⟨rfl, hb23⟩
      have B23 := Lib.hid (B22.out.trans (hb23.mono B22.out.size))
      clear hb23
      go_wp2_with fail
      refine (HX.out _ _ _ P1.out (fun b hb => hb.2.2) _ B23.out).mono ?_
      rintro e w24 ⟨rfl, hb24⟩
      have B24 := Lib.hid (B23.out.trans (hb24.mono B23.out.size))
      clear hb24
      go_wp2_with fail
      refine (HX.out _ _ _ P2.out (fun b hb => hb.2.2) _ B24.out).mono ?_
      rintro e w25 ⟨rfl, hb25⟩
      have B25 := Lib.hid (B24.out.trans (hb25.mono B24.out.size))
      clear hb25
      go_wp2_with fail
      refine (HX.out _ _ _ P1.out (fun b hb => hb.2.2) _ B25.out).mono ?_
      rintro e w26 ⟨rfl, hb26⟩
      have B26 := Lib.hid (B25.out.trans (hb26.mono B25.out.size))
      clear hb26
      go_wp2_with fail
      refine (HX.out _ _ _ P3.out (fun b hb => hb.2.2) _ B26.out).mono ?_
      rintro e w27 ⟨rfl, hb27⟩
      have B27 := Lib.hid (B26.out.trans (hb27.mono B26.out.size))
      clear hb27
      go_wp2
      go_ret
      exact ⟨rfl, HW.out.trans (B27.out.mono HW.out.size)⟩

/-- DotTurned, of any row of ids -/
theorem turned_any {w : World} (u : Value) (la : Row) (ha : IdsAt w u la) (sa : Small la) :
    Calls Try.prog 8 #[u] w fun e w' => e = .returned (.bool true) ∧ Below w.heap.size w w' := by
  by_cases h : 100 < la.length
  · exact turned_long u la w ha h
  · exact turned_short u la w ha sa h
end Go.Proofs.Ytggcnglnclpaeaa
