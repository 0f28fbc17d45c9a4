/- DotAdds: whatever ids come, all answers are what the document says. -/
import Derived.Test.YtggcnglnclpaeaaT
import Derived.Test.YtggcnglnclpaeaaV
namespace Go.Proofs.Ytggcnglnclpaeaa
open Go.RowKit Go.Maps

theorem has_on {w W : World} {p : Option Addr} {S : Nat → Prop} {K : Nat} {l : Row} {a n : Int} {r : Bool} (h : SeenP w p S K l) (h0 : -9223372036854775808 ≤ a) (h1 : a ≤ 9223372036854775807) (hr : hasB l a n = r) (hb : Below w.heap.size w W) :
    Calls Try.prog 15 #[.pointer p, .agg #[.int .i64 a, .int .i64 n]] W fun e w' => e = .returned (.bool r) ∧ Below W.heap.size W w' := by
  have := has_any p S K l a n W (h.below hb) h0 h1
  rw [hr] at this
  exact this
theorem rhas_on {w W : World} {v : Value} {l : Row} {a n : Int} {r : Bool} (h : IdsAt w v l) (ho : OkR l) (hlen : l.length ≤ 100000) (hr : hasB l a n = r) (hb : Below w.heap.size w W) :
    Calls Try.prog 16 #[v, .agg #[.int .i64 a, .int .i64 n]] W fun e w' => e = .returned (.bool r) ∧ Below W.heap.size W w' := by
  have := rhas_any v l a n W (h.below hb) ho hlen
  rw [hr] at this
  exact this
theorem next_on {w W : World} {p : Option Addr} {S : Nat → Prop} {K : Nat} {l : Row} {a x y : Int} (h : SeenP w p S K l) (hS : ∀ k, S k → k < w.heap.size) (hlen : l.length ≤ 100000) (hr : nextL l a = (x, y)) (hb : Below w.heap.size w W) :
    Calls Try.prog 17 #[.pointer p, .int .i64 a] W fun e w' => e = .returned (.agg #[.int .i64 x, .int .i64 y]) ∧ Below W.heap.size W w' := by
  have := next_any p S K l a W (h.below hb) (fun k hk => Nat.lt_of_lt_of_le (hS k hk) hb.size) hlen
  rw [hr] at this
  exact this
theorem rnext_on {w W : World} {v : Value} {l : Row} {a x y : Int} (h : IdsAt w v l) (ho : OkR l) (hlen : l.length ≤ 100000) (hr : nextL l a = (x, y)) (hb : Below w.heap.size w W) :
    Calls Try.prog 18 #[v, .int .i64 a] W fun e w' => e = .returned (.agg #[.int .i64 x, .int .i64 y]) ∧ Below W.heap.size W w' := by
  have := rnext_any v l a W (h.below hb) ho hlen
  rw [hr] at this
  exact this

/-- two boxes -/
def NB2 (g : Nat) (x y : Int) (f : Nat) (a n : Int) (w : World) : Prop := NB g x y w ∧ NB f a n w
theorem NB2.below {g f : Nat} {x y a n : Int} {w w' : World} (h : NB2 g x y f a n w) (hb : Below w.heap.size w w') : NB2 g x y f a n w' := ⟨h.1.below hb, h.2.below hb⟩

theorem adds_long (u : Value) (la : Row) (qa qn author : Int) (w : World) (ha : IdsAt w u la) (h : 100 < la.length) :
    Calls Try.prog 3 #[u, idV qa qn, .int .i64 author] w fun e w' => e = .returned (.bool true) ∧ Below w.heap.size w w' := by
  obtain ⟨A, c, rfl, _, _⟩ := ha
  unfold idV
  have hb0 : Below w.heap.size w (w.alloc (.cells #[.int .i64 qa, .int .i64 qn] 24)) := (Below.refl _ _).alloc (Nat.le_refl _) _
  have HB0 := Lib.hid hb0
  clear hb0
  go_enter Try.func3, Try.ntmps3
  go_wp2_with (go_at_call 10; refine (awake_any _).mono ?_; rintro e w1 ⟨rfl, hb1⟩)
  go_ret
  exact ⟨rfl, HB0.out.trans (hb1.mono HB0.out.size)⟩

/-- between two rounds -/
def AddsRel (w : World) (n : Nat) (qa qn : Int) (la : Row) (k : Nat) (l : Value) (wr : World) : Prop :=
  IdsAt wr l (addsL [] (la.take k)) ∧ SeenAt wr n (fun b => n ≤ b) k (addsL [] (la.take k)) ∧ Below w.heap.size w wr ∧ NB w.heap.size qa qn wr ∧ n ≤ wr.heap.size

set_option maxHeartbeats 12800000 in
set_option maxRecDepth 100000 in
theorem adds_short (u : Value) (la : Row) (qa qn author : Int) (w : World) (ha : IdsAt w u la) (sa : Small la) (q1 : -9223372036854775808 ≤ qa) (q2 : qa ≤ 9223372036854775807) (h : ¬ 100 < la.length) :
    Calls Try.prog 3 #[u, idV qa qn, .int .i64 author] w fun e w' => e = .returned (.bool true) ∧ Below w.heap.size w w' := by
  have SA := Lib.hid sa
  have NA := Lib.hid (fun k => addsL_len [] (la.take k))
  have OKA := Lib.hid (fun k => addsL_ok OkR.nil (sa.take k))
  obtain ⟨A, c, rfl, hc, hI⟩ := ha
  have HI := Lib.hid hI
  clear sa hI
  unfold idV
  have hb0 : Below w.heap.size w (w.alloc (.cells #[.int .i64 qa, .int .i64 qn] 24)) := (Below.refl _ _).alloc (Nat.le_refl _) _
  have hn0 : NB w.heap.size qa qn (w.alloc (.cells #[.int .i64 qa, .int .i64 qn] 24)) := ⟨(World.cell?_alloc_new _ _ _ _).trans rfl, (World.cell?_alloc_new _ _ _ _).trans rfl, by simp⟩
  have HB0 := Lib.hid hb0
  have HN0 := Lib.hid hn0
  clear hb0 hn0
  go_enter Try.func3, Try.ntmps3
  go_wp2_with (go_at_call 10; refine (awake_any _).mono ?_; rintro e w1 ⟨rfl, hb1⟩)
  have B1 := Lib.hid (HB0.out.trans (hb1.mono HB0.out.size))
  have N1 := Lib.hid (HN0.out.below hb1)
  have z1 := B1.out.size
  clear hb1 HB0 HN0
  refine (new_any _).mono ?_
  rintro e w2 ⟨rfl, hw2⟩
  have hb2 : Below w1.heap.size w1 w2 := by rw [hw2]; exact (Below.refl _ _).alloc (Nat.le_refl _) _
  have S2 := Lib.hid (show SeenAt w2 w1.heap.size (fun b => w1.heap.size ≤ b) 0 [] from ⟨Nat.le_refl _, OkR.nil, .inl ⟨by rw [hw2]; exact Boxed.new w1 47 (.map none), rfl⟩⟩)
  have B2 := Lib.hid (B1.out.trans (hb2.mono B1.out.size))
  have N2 := Lib.hid (N1.out.below hb2)
  have z2 := hb2.size
  clear hb2 hw2 B1 N1
  go_wp2_with fail
  go_loopw [8, 21] (fun l i wr => ∃ k : Nat, k ≤ la.length ∧ i = .int .i64 k ∧ AddsRel w w1.heap.size qa qn la k l wr) (fun _ i _ => la.length - (intOf i).toNat)
  case atStart => exact ⟨0, Nat.zero_le _, rfl, ⟨none, 0, rfl, Nat.le_refl _, by simp [addsL]⟩, S2.out, B2.out, N2.out, z2⟩
  case round =>
    obtain ⟨k, hk, rfl, hI, hS, hB, hN, hz⟩ := hrel
    have IR := Lib.hid hI
    have SR := Lib.hid hS
    have BR := Lib.hid hB
    have NR := Lib.hid hN
    clear hI hS hB hN S2 B2 N2
    have n1 := NA.out k
    simp only [List.length_nil, Nat.zero_add, List.length_take] at n1
    by_cases hlt : k < la.length
    · have hx : la[k]? = some la[k] := List.getElem?_eq_getElem hlt
      obtain ⟨p, hp⟩ : ∃ p, la[k] = p := ⟨_, rfl⟩
      rw [hp] at hx
      have hps := SA.out p (List.mem_of_getElem? hx)
      have e1 : addsL [] (la.take (k + 1)) = addL (addsL [] (la.take k)) p.1 p.2 := by rw [List.take_add_one, hx]; exact addsL_snoc _ _ _
      have o1 := OKA.out k
      have o2 := OKA.out (k + 1)
      have n2 := NA.out (k + 1)
      rw [e1] at o2 n2
      obtain ⟨L, hL⟩ : ∃ l, addsL [] (la.take k) = l := ⟨_, rfl⟩
      rw [hL] at e1 n1 n2 o1 o2
      have IR' := IR.out
      have SR' := SR.out
      rw [hL] at IR' SR'
      have I1 := Lib.hid IR'
      have S1 := Lib.hid SR'
      have OK0 := Lib.hid o1
      have OK1 := Lib.hid o2
      have F1 := Lib.hid e1
      obtain ⟨ad, rfl, c2, c3⟩ := HI.out k p hx
      have hza := cell_lt c2
      rw [add_block] at hza
      have c2' := (BR.out.cell (by rw [add_block]; exact hza)).trans c2
      have c3' := (BR.out.cell (p := ⟨(ad.add (k * 2)).block, _, none⟩) (by simp only [add_block]; exact hza)).trans c3
      obtain ⟨x, y⟩ := p
      obtain ⟨⟨p1, p2⟩, p3, p4⟩ := hps
      simp only at p1 p2 p3 p4
      simp only [List.length_nil, Nat.zero_add, List.length_take] at n2
      have hi0 : (0 : Int) ≤ ↑k := by omega
      have hi1 : (↑k : Int) < ↑la.length := by omega
      have hi2 : (↑la.length : Int) ≤ ↑c := by omega
      have hwb : Below wr.heap.size wr (wr.alloc (.cells #[.int .i64 x, .int .i64 y] 24)) := (Below.refl _ _).alloc (Nat.le_refl _) _
      have I2 := Lib.hid (I1.out.below hwb)
      have S2 := Lib.hid (S1.out.later hwb)
      have B2 := Lib.hid (BR.out.trans (hwb.mono BR.out.size))
      have N2 := Lib.hid (show NB2 wr.heap.size x y w.heap.size qa qn (wr.alloc (.cells #[.int .i64 x, .int .i64 y] 24)) from ⟨⟨(World.cell?_alloc_new _ _ _ _).trans rfl, (World.cell?_alloc_new _ _ _ _).trans rfl, by simp⟩, NR.out.below hwb⟩)
      have zb := B2.out.size
      clear hp hx c2 c3 o1 o2 e1 IR' SR' hL IR SR BR NR I1 S1 hwb hza
      obtain ⟨⟨f0, f1, _⟩, _⟩ := N2.out
      go_wp2_with fail
      clear c2' c3' f0 f1
      refine (radd_any _ L x y _ I2.out OK0.out (by omega)).mono ?_
      rintro e w6 ⟨l1, rfl, hi6, hb6⟩
      have I3 := Lib.hid hi6
      have S3 := Lib.hid (S2.out.later hb6)
      have B3 := Lib.hid (B2.out.trans (hb6.mono B2.out.size))
      have N3 := Lib.hid (N2.out.below hb6)
      have z3 := B3.out.size
      have z6 := hb6.size
      clear hi6 hb6 I2 S2 B2 N2
      obtain ⟨⟨f0, f1, _⟩, _⟩ := N3.out
      go_wp2_with fail
      clear f0 f1
      refine (add_any _ _ k L x y _ S3.out p1 p2 p4 (by unfold maxLen; omega)).mono ?_
      rintro e w7 ⟨rfl, hs7, ho7⟩
      have S4 := Lib.hid (hs7.wider (T := fun b => w1.heap.size ≤ b) (fun b hb _ => by rcases hb with hb | hb; exact hb; simp at z6; omega) (Nat.le_refl _))
      have I4 := Lib.hid (I3.out.foot S3.out ho7)
      have N4 := Lib.hid (show NB2 wr.heap.size x y w.heap.size qa qn w7 from ⟨N3.out.1.foot S3.out ho7, N3.out.2.foot S3.out ho7⟩)
      have B4 := Lib.hid (B3.out.trans (foot_below ho7 B3.out.size (by omega) (fun b hb => by omega)))
      have z7 := ho7.size
      clear hs7 ho7 S3 I3 N3 B3
      obtain ⟨L', hL'⟩ : ∃ l, addL L x y = l := ⟨_, rfl⟩
      have n2' := n2
      have S5 := S4.out
      have I5 := I4.out
      have o5 := OK1.out
      have g5 := F1.out
      rw [hL'] at n2' S5 I5 o5 g5
      have G0 : Hid (SeenP w7.drew (some ⟨w1.heap.size, 0, none⟩) (fun b => w1.heap.size ≤ b ∧ b < w7.heap.size) (k + 1) L') := Lib.hid (seenP_mk S5.tight)
      have I0 : Hid (IdsAt w7.drew l1 L') := Lib.hid I5
      have T0 : Hid (∀ b, (w1.heap.size ≤ b ∧ b < w7.heap.size) → b < w7.drew.heap.size) := Lib.hid (fun b hb => hb.2)
      have OK1 := Lib.hid o5
      have F1 := Lib.hid g5
      have HS5 : Hid (SeenAt w7.drew w1.heap.size (fun b => w1.heap.size ≤ b) (k + 1) L') := Lib.hid S5
      have z17 : w1.heap.size ≤ w7.drew.heap.size := show w1.heap.size ≤ w7.heap.size by omega
      have B4d : Hid (Below w.heap.size w w7.drew) := Lib.hid B4.out.drew
      have N4d : Hid (NB w.heap.size qa qn w7.drew) := Lib.hid N4.out.2
      obtain ⟨r1, hr1⟩ : ∃ r, hasB L' x y = r := ⟨_, rfl⟩
      obtain ⟨r2, hr2⟩ : ∃ r, hasB L' qa qn = r := ⟨_, rfl⟩
      obtain ⟨a0, n0, hnx⟩ : ∃ a n, nextL L' author = (a, n) := ⟨_, _, rfl⟩
      have R1 := Lib.hid hr1
      have R2 := Lib.hid hr2
      have R3 := Lib.hid hnx
      have hN7 : NB2 wr.heap.size x y w.heap.size qa qn w7.drew := N4.out
      have HN7 := Lib.hid hN7
      clear hr1 hr2 hnx hN7 o5 g5 S5 I5 S4 I4 hL' n2
      go_wp2_with fail
      refine wp_region_held_drew (S := NB2 wr.heap.size x y w.heap.size qa qn) (by kernel_rfl) HN7.out (fun hS => ?_)
      refine wpAnyH_take (i := 0) (v := ?v0a) rfl (by kernel_rfl) (by kernel_rfl) (by kernel_rfl) (fun _ _ _ h => h) (Or.inl ⟨by kernel_rfl, ?h0a⟩) hS ?_
      case h0a => (rintro w2 ⟨⟨e0, e1, _⟩, e2, e3, _⟩; go_simp; try with_reducible rfl)
      refine wpAnyH_take (i := 1) (v := ?v1a) rfl (by kernel_rfl) (by kernel_rfl) (by kernel_rfl) (fun _ _ _ h => h) (Or.inl ⟨by kernel_rfl, ?h1a⟩) hS ?_
      case h1a => (rintro w2 ⟨⟨e0, e1, _⟩, e2, e3, _⟩; go_simp; try with_reducible rfl)
      refine wpAnyH_ready (rs := [2]) (by kernel_rfl) (by simp) (AllReadyH.cons rfl (fun K hK => ?_) AllReadyH.nil)
      go_simp
      go_wp2_with (go_at_call 14; refine (same_on G0.out T0.out (by omega) I0.out (Below.refl _ _)).mono ?_; rintro e w20 ⟨rfl, hb20⟩)
      refine hK.out _ _ (hS.below hb20) (fun hS2 => ?_); clear hK K
      have D20 := Lib.hid (hb20)
      clear hb20
      refine wpAnyH_take (i := 3) (v := ?v3a) rfl (by kernel_rfl) (by kernel_rfl) (by kernel_rfl) (fun _ _ _ h => h) (Or.inl ⟨by kernel_rfl, ?h3a⟩) hS2 ?_
      case h3a => (rintro w2 ⟨⟨e0, e1, _⟩, e2, e3, _⟩; go_simp; try with_reducible rfl)
      refine wpAnyH_take (i := 4) (v := ?v4a) rfl (by kernel_rfl) (by kernel_rfl) (by kernel_rfl) (fun _ _ _ h => h) (Or.inl ⟨by kernel_rfl, ?h4a⟩) hS2 ?_
      case h4a => (rintro w2 ⟨⟨e0, e1, _⟩, e2, e3, _⟩; go_simp; try with_reducible rfl)
      refine wpAnyH_take (i := 5) (v := ?v5a) rfl (by kernel_rfl) (by kernel_rfl) (by kernel_rfl) (fun _ _ _ h => h) (Or.inl ⟨by kernel_rfl, ?h5a⟩) hS2 ?_
      case h5a => (rintro w2 ⟨⟨e0, e1, _⟩, e2, e3, _⟩; go_simp; try with_reducible rfl)
      refine wpAnyH_take (i := 6) (v := ?v6a) rfl (by kernel_rfl) (by kernel_rfl) (by kernel_rfl) (fun _ _ _ h => h) (Or.inl ⟨by kernel_rfl, ?h6a⟩) hS2 ?_
      case h6a => (rintro w2 ⟨⟨e0, e1, _⟩, e2, e3, _⟩; go_simp; try with_reducible rfl)
      refine wpAnyH_take (i := 8) (v := ?v8a) rfl (by kernel_rfl) (by kernel_rfl) (by kernel_rfl) (fun _ _ _ h => h) (Or.inl ⟨by kernel_rfl, ?h8a⟩) hS2 ?_
      case h8a => (rintro w2 ⟨⟨e0, e1, _⟩, e2, e3, _⟩; go_simp; try with_reducible rfl)
      refine wpAnyH_take (i := 9) (v := ?v9a) rfl (by kernel_rfl) (by kernel_rfl) (by kernel_rfl) (fun _ _ _ h => h) (Or.inl ⟨by kernel_rfl, ?h9a⟩) hS2 ?_
      case h9a => (rintro w2 ⟨⟨e0, e1, _⟩, e2, e3, _⟩; go_simp; try with_reducible rfl)
      refine wpAnyH_ready (rs := [7]) (by kernel_rfl) (by simp) (AllReadyH.cons rfl (fun K hK => ?_) AllReadyH.nil)
      go_simp
      go_wp2_with (go_at_call 15; refine (has_on G0.out p1 p2 R1.out D20.out).mono ?_; rintro e w21 ⟨rfl, hb21⟩)
      refine hK.out _ _ (hS2.below hb21) (fun hS7 => ?_); clear hK K
      have D21 := Lib.hid (D20.out.trans (hb21.mono D20.out.size))
      clear hb21
      refine wpAnyH_ready (rs := [10]) (by kernel_rfl) (by simp) (AllReadyH.cons rfl (fun K hK => ?_) AllReadyH.nil)
      go_simp
      go_wp2_with (go_at_call 16; refine (rhas_on I0.out OK1.out (by omega) R1.out D21.out).mono ?_; rintro e w22 ⟨rfl, hb22⟩)
      refine hK.out _ _ (hS7.below hb22) (fun hS10 => ?_); clear hK K
      have D22 := Lib.hid (D21.out.trans (hb22.mono D21.out.size))
      clear hb22
      refine wpAnyH_take (i := 11) (v := ?v11a) rfl (by kernel_rfl) (by kernel_rfl) (by kernel_rfl) (fun _ _ _ h => h) (Or.inl ⟨by kernel_rfl, ?h11a⟩) hS10 ?_
      case h11a => (rintro w2 ⟨⟨e0, e1, _⟩, e2, e3, _⟩; go_simp; try with_reducible rfl)
      refine wpAnyH_take (i := 12) (v := ?v12a) rfl (by kernel_rfl) (by kernel_rfl) (by kernel_rfl) (fun _ _ _ h => h) (Or.inl ⟨by kernel_rfl, ?h12a⟩) hS10 ?_
      case h12a => (rintro w2 ⟨⟨e0, e1, _⟩, e2, e3, _⟩; go_simp; try with_reducible rfl)
      refine wpAnyH_take (i := 13) (v := ?v13a) rfl (by kernel_rfl) (by kernel_rfl) (by kernel_rfl) (fun _ _ _ h => h) (Or.inl ⟨by kernel_rfl, ?h13a⟩) hS10 ?_
      case h13a => (rintro w2 ⟨⟨e0, e1, _⟩, e2, e3, _⟩; go_simp; try with_reducible rfl)
      refine wpAnyH_take (i := 14) (v := ?v14a) rfl (by kernel_rfl) (by kernel_rfl) (by kernel_rfl) (fun _ _ _ h => h) (Or.inl ⟨by kernel_rfl, ?h14a⟩) hS10 ?_
      case h14a => (rintro w2 ⟨⟨e0, e1, _⟩, e2, e3, _⟩; go_simp; try with_reducible rfl)
      refine wpAnyH_take (i := 15) (v := ?v15a) rfl (by kernel_rfl) (by kernel_rfl) (by kernel_rfl) (fun _ _ _ h => h) (Or.inl ⟨by kernel_rfl, ?h15a⟩) hS10 ?_
      case h15a => (rintro w2 ⟨⟨e0, e1, _⟩, e2, e3, _⟩; go_simp; try with_reducible rfl)
      refine wpAnyH_take (i := 17) (v := ?v17a) rfl (by kernel_rfl) (by kernel_rfl) (by kernel_rfl) (fun _ _ _ h => h) (Or.inl ⟨by kernel_rfl, ?h17a⟩) hS10 ?_
      case h17a => (rintro w2 ⟨⟨e0, e1, _⟩, e2, e3, _⟩; go_simp; try with_reducible rfl)
      refine wpAnyH_take (i := 18) (v := ?v18a) rfl (by kernel_rfl) (by kernel_rfl) (by kernel_rfl) (fun _ _ _ h => h) (Or.inl ⟨by kernel_rfl, ?h18a⟩) hS10 ?_
      case h18a => (rintro w2 ⟨⟨e0, e1, _⟩, e2, e3, _⟩; go_simp; try with_reducible rfl)
      refine wpAnyH_ready (rs := [16]) (by kernel_rfl) (by simp) (AllReadyH.cons rfl (fun K hK => ?_) AllReadyH.nil)
      go_simp
      go_wp2_with (go_at_call 15; refine (has_on G0.out q1 q2 R2.out D22.out).mono ?_; rintro e w23 ⟨rfl, hb23⟩)
      refine hK.out _ _ (hS10.below hb23) (fun hS16 => ?_); clear hK K
      have D23 := Lib.hid (D22.out.trans (hb23.mono D22.out.size))
      clear hb23
      refine wpAnyH_ready (rs := [19]) (by kernel_rfl) (by simp) (AllReadyH.cons rfl (fun K hK => ?_) AllReadyH.nil)
      go_simp
      go_wp2_with (go_at_call 16; refine (rhas_on I0.out OK1.out (by omega) R2.out D23.out).mono ?_; rintro e w24 ⟨rfl, hb24⟩)
      refine hK.out _ _ (hS16.below hb24) (fun hS19 => ?_); clear hK K
      have D24 := Lib.hid (D23.out.trans (hb24.mono D23.out.size))
      clear hb24
      refine wpAnyH_take (i := 20) (v := ?v20a) rfl (by kernel_rfl) (by kernel_rfl) (by kernel_rfl) (fun _ _ _ h => h) (Or.inl ⟨by kernel_rfl, ?h20a⟩) hS19 ?_
      case h20a => (rintro w2 ⟨⟨e0, e1, _⟩, e2, e3, _⟩; go_simp; try with_reducible rfl)
      refine wpAnyH_take (i := 21) (v := ?v21a) rfl (by kernel_rfl) (by kernel_rfl) (by kernel_rfl) (fun _ _ _ h => h) (Or.inl ⟨by kernel_rfl, ?h21a⟩) hS19 ?_
      case h21a => (rintro w2 ⟨⟨e0, e1, _⟩, e2, e3, _⟩; go_simp; try with_reducible rfl)
      refine wpAnyH_take (i := 22) (v := ?v22a) rfl (by kernel_rfl) (by kernel_rfl) (by kernel_rfl) (fun _ _ _ h => h) (Or.inl ⟨by kernel_rfl, ?h22a⟩) hS19 ?_
      case h22a => (rintro w2 ⟨⟨e0, e1, _⟩, e2, e3, _⟩; go_simp; try with_reducible rfl)
      refine wpAnyH_take (i := 23) (v := ?v23a) rfl (by kernel_rfl) (by kernel_rfl) (by kernel_rfl) (fun _ _ _ h => h) (Or.inl ⟨by kernel_rfl, ?h23a⟩) hS19 ?_
      case h23a => (rintro w2 ⟨⟨e0, e1, _⟩, e2, e3, _⟩; go_simp; try with_reducible rfl)
      refine wpAnyH_take (i := 24) (v := ?v24a) rfl (by kernel_rfl) (by kernel_rfl) (by kernel_rfl) (fun _ _ _ h => h) (Or.inl ⟨by kernel_rfl, ?h24a⟩) hS19 ?_
      case h24a => (rintro w2 ⟨⟨e0, e1, _⟩, e2, e3, _⟩; go_simp; try with_reducible rfl)
      refine wpAnyH_take (i := 26) (v := ?v26a) rfl (by kernel_rfl) (by kernel_rfl) (by kernel_rfl) (fun _ _ _ h => h) (Or.inl ⟨by kernel_rfl, ?h26a⟩) hS19 ?_
      case h26a => (rintro w2 ⟨⟨e0, e1, _⟩, e2, e3, _⟩; go_simp; try with_reducible rfl)
      refine wpAnyH_take (i := 27) (v := ?v27a) rfl (by kernel_rfl) (by kernel_rfl) (by kernel_rfl) (fun _ _ _ h => h) (Or.inl ⟨by kernel_rfl, ?h27a⟩) hS19 ?_
      case h27a => (rintro w2 ⟨⟨e0, e1, _⟩, e2, e3, _⟩; go_simp; try with_reducible rfl)
      refine wpAnyH_ready (rs := [25]) (by kernel_rfl) (by simp) (AllReadyH.cons rfl (fun K hK => ?_) AllReadyH.nil)
      go_simp
      go_wp2_with (go_at_call 17; refine (next_on G0.out T0.out (by omega) R3.out D24.out).mono ?_; rintro e w25 ⟨rfl, hb25⟩)
      refine hK.out _ _ (hS19.below hb25) (fun hS25 => ?_); clear hK K
      have D25 := Lib.hid (D24.out.trans (hb25.mono D24.out.size))
      clear hb25
      refine wpAnyH_ready (rs := [28]) (by kernel_rfl) (by simp) (AllReadyH.cons rfl (fun K hK => ?_) AllReadyH.nil)
      go_simp
      go_wp2_with (go_at_call 18; refine (rnext_on I0.out OK1.out (by omega) R3.out D25.out).mono ?_; rintro e w26 ⟨rfl, hb26⟩)
      refine hK.out _ _ (hS25.below hb26) (fun hS28 => ?_); clear hK K
      have D26 := Lib.hid (D25.out.trans (hb26.mono D25.out.size))
      clear hb26
      refine wpAnyH_take (i := 29) (v := ?v29a) rfl (by kernel_rfl) (by kernel_rfl) (by kernel_rfl) (fun _ _ _ h => h) (Or.inl ⟨by kernel_rfl, ?h29a⟩) hS28 ?_
      case h29a => (rintro w2 ⟨⟨e0, e1, _⟩, e2, e3, _⟩; go_simp; try with_reducible rfl)
      refine wpAnyH_take (i := 30) (v := ?v30a) rfl (by kernel_rfl) (by kernel_rfl) (by kernel_rfl) (fun _ _ _ h => h) (Or.inl ⟨by kernel_rfl, ?h30a⟩) hS28 ?_
      case h30a => (rintro w2 ⟨⟨e0, e1, _⟩, e2, e3, _⟩; go_simp; try with_reducible rfl)
      refine wpAnyH_done (by kernel_rfl) ?_ _
      go_simp
      go_wp2
      go_roundw
      case rel =>
        refine ⟨k + 1, by omega, by simp, ?_, ?_, ?_, ?_, ?_⟩
        · rw [F1.out]; exact I0.out.below D26.out
        · rw [F1.out]; exact HS5.out.later D26.out
        · exact B4d.out.trans (D26.out.mono B4d.out.size)
        · exact N4d.out.below D26.out
        · exact Nat.le_trans z17 D26.out.size
      case measure => simp [intOf]; omega
    · obtain rfl : k = la.length := by omega
      have hlt2 : ¬ (↑la.length : Int) < ↑la.length := by omega
      have hs := SR.out.tight
      have hi := IR.out
      rw [List.take_length] at hs hi n1
      have G0 := Lib.hid (seenP_mk hs)
      have I0 := Lib.hid hi
      clear hs hi IR SR
      go_wp2_with fail
      refine (same_on G0.out (fun b hb => hb.2) (by omega) I0.out (Below.refl _ _)).mono ?_
      rintro e w20 ⟨rfl, hb20⟩
      have B20 := Lib.hid hb20
      clear hb20
      go_wp2
      go_ret
      exact ⟨rfl, BR.out.trans (B20.out.mono BR.out.size)⟩

/-- DotAdds, of any row of ids -/
theorem adds_any {w : World} (u : Value) (la : Row) (ha : IdsAt w u la) (sa : Small la) (qa qn : Int) (hq : (-9223372036854775808 ≤ qa ∧ qa ≤ 9223372036854775807) ∧ -9223372036854775808 ≤ qn ∧ qn ≤ 9223372036854775807) (author : Int) (_ : -9223372036854775808 ≤ author ∧ author ≤ 9223372036854775807) :
    Calls Try.prog 3 #[u, idV qa qn, .int .i64 author] w fun e w' => e = .returned (.bool true) ∧ Below w.heap.size w w' := by
  by_cases h : 100 < la.length
  · exact adds_long u la qa qn author w ha h
  · exact adds_short u la qa qn author w ha sa hq.1.1 hq.1.2 h
end Go.Proofs.Ytggcnglnclpaeaa
