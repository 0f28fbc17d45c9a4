/- DotJoins: to join, both ways. -/
import Derived.Test.YtggcnglnclpaeaaO
import Derived.Test.YtggcnglnclpaeaaJ
import Derived.Test.YtggcnglnclpaeaaS
namespace Go.Proofs.Ytggcnglnclpaeaa
open Go.RowKit Go.Maps

theorem covers_on {w W : World} {p q : Option Addr} {S T : Nat → Prop} {K K' : Nat} {l m : Row} {r : Bool} (h1 : SeenP w p S K l) (h2 : SeenP w q T K' m) (hT : ∀ k, T k → k < w.heap.size) (hlen : m.length ≤ 100000) (hr : covB l m = r) (hb : Below w.heap.size w W) :
    Calls Try.prog 20 #[.pointer p, .pointer q] W fun e w' => e = .returned (.bool r) ∧ Below W.heap.size W w' := by
  have := covers_any p q S T K K' l m W (h1.below hb) (h2.below hb) (fun k hk => Nat.lt_of_lt_of_le (hT k hk) hb.size) hlen
  rw [hr] at this
  exact this
theorem rcovers_on {w W : World} {u v : Value} {l m : Row} {r : Bool} (h1 : IdsAt w u l) (h2 : IdsAt w v m) (ho : OkR l) (hl : l.length ≤ 100000) (hm : m.length ≤ 100000) (hr : covB l m = r) (hb : Below w.heap.size w W) :
    Calls Try.prog 21 #[u, v] W fun e w' => e = .returned (.bool r) ∧ Below W.heap.size W w' := by
  have := rcovers_any u v l m W (h1.below hb) (h2.below hb) ho hl hm
  rw [hr] at this
  exact this
theorem same_on {w W : World} {p : Option Addr} {S : Nat → Prop} {K : Nat} {l : Row} {v : Value} (h : SeenP w p S K l) (hS : ∀ k, S k → k < w.heap.size) (hlen : l.length ≤ 100000) (hv : IdsAt w v l) (hb : Below w.heap.size w W) :
    Calls Try.prog 14 #[.pointer p, v] W fun e w' => e = .returned (.int .i64 1) ∧ Below W.heap.size W w' := by
  have := same_any p S K l l v W (h.below hb) (fun k hk => Nat.lt_of_lt_of_le (hS k hk) hb.size) hlen (hv.below hb)
  rw [if_pos rfl] at this
  exact this

theorem adds_comm {l m : Row} (hl : OkR l) (hm : OkR m) : addsL m l = addsL l m :=
  row_ext (addsL_ok hm hl.small) (addsL_ok hl hm.small) fun a => by rw [look_addsL hm hl, look_addsL hl hm]; omega
theorem cov_adds1 {l m : Row} (hl : OkR l) (hm : OkR m) : covB (addsL l m) l = true :=
  (covB_iff (addsL_ok hl hm.small) hl).2 fun a => by rw [look_addsL hl hm]; omega
theorem cov_adds2 {l m : Row} (hl : OkR l) (hm : OkR m) : covB (addsL l m) m = true :=
  (covB_iff (addsL_ok hl hm.small) hm).2 fun a => by rw [look_addsL hl hm]; omega
theorem cov_same {l : Row} (ho : OkR l) : covB l l = true := (covB_iff ho ho).2 fun _ => Int.le_refl _

theorem joins_long (u v : Value) (la lb : Row) (w : World) (ha : IdsAt w u la) (hb : IdsAt w v lb) (h : 100 < la.length ∨ 100 < lb.length) :
    Calls Try.prog 4 #[u, v] w fun e w' => e = .returned (.bool true) ∧ Below w.heap.size w w' := by
  obtain ⟨A, c, rfl, _, _⟩ := ha
  obtain ⟨B, d, rfl, _, _⟩ := hb
  by_cases h1 : 100 < la.length
  · go_enter Try.func4, Try.ntmps4
    go_wp2_with (go_at_call 10; refine (awake_any _).mono ?_; rintro e w1 ⟨rfl, hb1⟩)
    go_ret
    exact ⟨rfl, hb1⟩
  · have h2 : 100 < lb.length := by omega
    go_enter Try.func4, Try.ntmps4
    go_wp2_with (go_at_call 10; refine (awake_any _).mono ?_; rintro e w1 ⟨rfl, hb1⟩)
    go_ret
    exact ⟨rfl, hb1⟩

set_option maxHeartbeats 12800000 in
set_option maxRecDepth 100000 in
theorem joins_short (u v : Value) (la lb : Row) (w : World) (ha : IdsAt w u la) (hb : IdsAt w v lb) (sa : Small la) (sb : Small lb) (h1 : ¬ 100 < la.length) (h2 : ¬ 100 < lb.length) :
    Calls Try.prog 4 #[u, v] w fun e w' => e = .returned (.bool true) ∧ Below w.heap.size w w' := by
  have okA := adds_ok sa
  have okB := adds_ok sb
  have nA := addsL_len [] la
  have nB := addsL_len [] lb
  obtain ⟨LA, hLA⟩ : ∃ l, addsL [] la = l := ⟨_, rfl⟩
  obtain ⟨LB, hLB⟩ : ∃ l, addsL [] lb = l := ⟨_, rfl⟩
  rw [hLA] at okA nA
  rw [hLB] at okB nB
  simp only [List.length_nil, Nat.zero_add] at nA nB
  have nJ := addsL_len LA LB
  have EC := Lib.hid (adds_comm okA okB)
  have V1 := Lib.hid (cov_adds1 okA okB)
  have V2 := Lib.hid (cov_adds2 okA okB)
  have V3 := Lib.hid (cov_same okA)
  have V4 := Lib.hid (cov_same (addsL_ok okA okB.small))
  have OA := Lib.hid okA
  have OB := Lib.hid okB
  obtain ⟨r1, hr1⟩ : ∃ r, covB LA LB = r := ⟨_, rfl⟩
  obtain ⟨r2, hr2⟩ : ∃ r, covB LB LA = r := ⟨_, rfl⟩
  have R1 := Lib.hid hr1
  have R2 := Lib.hid hr2
  have HIA := Lib.hid ha
  have HIB := Lib.hid hb
  have SA := Lib.hid sa
  have SB := Lib.hid sb
  have ELA := Lib.hid hLA
  have ELB := Lib.hid hLB
  obtain ⟨A, c, rfl, _, _⟩ := ha
  obtain ⟨B, d, rfl, _, _⟩ := hb
  clear sa sb hLA hLB okA okB hr1 hr2
  go_enter Try.func4, Try.ntmps4
  go_wp2_with (go_at_call 10; refine (awake_any _).mono ?_; rintro e w1 ⟨rfl, hb1⟩)
  refine (of_any _ la w1 (HIA.out.below hb1) SA.out (by omega)).mono ?_
  rintro e w2 ⟨v6, rfl, hs1, hi1, hb2⟩
  rw [ELA.out] at hs1 hi1
  have P5 := Lib.hid (seenP_mk hs1.tight)
  have I6 := Lib.hid hi1
  have B2 := Lib.hid (hb1.trans (hb2.mono hb1.size))
  clear hb1 hb2 hs1 hi1
  go_wp2_with fail
  refine (of_any _ lb w2 (HIB.out.below B2.out) SB.out (by omega)).mono ?_
  rintro e w3 ⟨v8, rfl, hs2, hi2, hb3⟩
  rw [ELB.out] at hs2 hi2
  have z23 := hb3.size
  have P7 := Lib.hid (seenP_mk hs2.tight)
  have I8 := Lib.hid hi2
  have Q5 := Lib.hid ((P5.out.below hb3))
  have J6 := Lib.hid (I6.out.below hb3)
  have B3 := Lib.hid (B2.out.trans (hb3.mono B2.out.size))
  have t5 : ∀ k, (w1.heap.size ≤ k ∧ k < w2.heap.size) → k < w3.heap.size := fun k hk => by omega
  have t7 : ∀ k, (w2.heap.size ≤ k ∧ k < w3.heap.size) → k < w3.heap.size := fun k hk => hk.2
  have T5 := Lib.hid t5
  have T7 := Lib.hid t7
  clear hb3 hs2 hi2 P5 I6 B2 t5 t7
  go_wp2_with fail
  refine (covers_on Q5.out P7.out T7.out (by omega) R1.out (Below.refl _ _)).mono ?_
  rintro e w4 ⟨rfl, hb4⟩
  have B4 := Lib.hid hb4
  clear hb4
  go_wp2_with fail
  refine (rcovers_on J6.out I8.out OA.out (by omega) (by omega) R1.out B4.out).mono ?_
  rintro e w5 ⟨rfl, hb5⟩
  have B5 := Lib.hid (B4.out.trans (hb5.mono B4.out.size))
  clear hb5 B4
  go_wp2_with fail
  refine (covers_on P7.out Q5.out T5.out (by omega) R2.out B5.out).mono ?_
  rintro e w6 ⟨rfl, hb6⟩
  have B6 := Lib.hid (B5.out.trans (hb6.mono B5.out.size))
  clear hb6 B5
  go_wp2_with fail
  refine (rcovers_on I8.out J6.out OB.out (by omega) (by omega) R2.out B6.out).mono ?_
  rintro e w7 ⟨rfl, hb7⟩
  have B7 := Lib.hid (B6.out.trans (hb7.mono B6.out.size))
  clear hb7 B6
  go_wp2_with fail
  refine (covers_on Q5.out Q5.out T5.out (by omega) V3.out B7.out).mono ?_
  rintro e w8 ⟨rfl, hb8⟩
  have B8 := Lib.hid (B7.out.trans (hb8.mono B7.out.size))
  have z8 := B8.out.size
  clear hb8 B7
  go_wp2_with fail
  refine (clone_any _ _ _ LA w8 (Q5.out.below B8.out) (fun k hk => Nat.lt_of_lt_of_le (T5.out k hk) z8) (by omega)).mono ?_
  rintro e w9 ⟨rfl, hs9, hb9⟩
  have B9 := Lib.hid (B8.out.trans (hb9.mono z8))
  have C9 := Lib.hid hs9.tight
  have z9 := hb9.size
  clear hb9 hs9
  go_wp2_with fail
  refine (clone_any _ _ _ LB w9 (P7.out.below B9.out) (fun k hk => Nat.lt_of_lt_of_le (T7.out k hk) B9.out.size) (by omega)).mono ?_
  rintro e w10 ⟨rfl, hs10, hb10⟩
  have B10 := Lib.hid (B9.out.trans (hb10.mono B9.out.size))
  have C10 := Lib.hid hs10.tight
  have D9 := Lib.hid (C9.out.later hb10)
  have z10 := hb10.size
  clear hb10 hs10 B9 C9
  go_wp2_with fail
  refine (join_any _ _ _ _ _ _ LA LB w10 D9.out (P7.out.below B10.out) (fun k hk => Nat.lt_of_lt_of_le (T7.out k hk) B10.out.size) (fun k hk => by omega) (fun k hk ht => by omega) (by omega)).mono ?_
  rintro e w11 ⟨rfl, hs11, ho11⟩
  have C11 := Lib.hid hs11.tight
  have D10 := Lib.hid (C10.out.kept ho11 (fun k hk _ ht => by omega))
  have B11 := Lib.hid (B10.out.trans (ho11.below B10.out.size (fun k hk => by omega)))
  have z11 := ho11.size
  clear hs11 ho11 D9 C10 B10
  go_wp2_with fail
  refine (join_any _ _ _ _ _ _ LB LA w11 D10.out (Q5.out.below B11.out) (fun k hk => Nat.lt_of_lt_of_le (T5.out k hk) B11.out.size) (fun k hk => by omega) (fun k hk ht => by omega) (by omega)).mono ?_
  rintro e w12 ⟨rfl, hs12, ho12⟩
  rw [EC.out] at hs12
  have P10 := Lib.hid (seenP_mk hs12.tight)
  have P9 := Lib.hid (seenP_mk ((C11.out.kept ho12 (fun k hk _ ht => by omega)).tight))
  have B12 := Lib.hid (B11.out.trans (ho12.below B11.out.size (fun k hk => by omega)))
  have z12 := ho12.size
  clear hs12 ho12 C11 B11 D10
  have P5 := Lib.hid (Q5.out.below B12.out)
  have Q7 := Lib.hid (P7.out.below B12.out)
  have K6 := Lib.hid (J6.out.below B12.out)
  have K8 := Lib.hid (I8.out.below B12.out)
  have zz := B12.out.size
  have U5 := Lib.hid (fun k hk => Nat.lt_of_lt_of_le (T5.out k hk) zz)
  have U7 := Lib.hid (fun k hk => Nat.lt_of_lt_of_le (T7.out k hk) zz)
  clear Q5 P7 J6 I8 T5 T7
  go_wp2_with fail
  refine (rjoin_any _ _ LA LB w12 K6.out K8.out OA.out OB.out.small (by omega)).mono ?_
  rintro e w13 ⟨v11, rfl, hi13, hb13⟩
  have I11 := Lib.hid hi13
  have X13 := Lib.hid hb13
  have z13 := hb13.size
  clear hb13 hi13
  go_wp2_with fail
  refine (same_on (P9.out.below X13.out) (fun k hk => by omega) (by omega) I11.out (Below.refl _ _)).mono ?_
  rintro e w14 ⟨rfl, hb14⟩
  have X14 := Lib.hid (X13.out.trans (hb14.mono z13))
  clear hb14 X13
  go_wp2_with fail
  refine (rjoin_any _ _ LB LA w14 (K8.out.below X14.out) (K6.out.below X14.out) OB.out OA.out.small (by omega)).mono ?_
  rw [EC.out]
  rintro e w15 ⟨v12, rfl, hi15, hb15⟩
  have I12 := Lib.hid hi15
  have X15 := Lib.hid (X14.out.trans (hb15.mono X14.out.size))
  have z15 := X15.out.size
  clear hb15 hi15 X14
  go_wp2_with fail
  refine (same_on (P10.out.below X15.out) (fun k hk => by omega) (by omega) I12.out (Below.refl _ _)).mono ?_
  rintro e w16 ⟨rfl, hb16⟩
  have X16 := Lib.hid (X15.out.trans (hb16.mono z15))
  clear hb16 X15
  go_wp2_with fail
  refine (same_on P5.out U5.out (by omega) K6.out X16.out).mono ?_
  rintro e w17 ⟨rfl, hb17⟩
  have X17 := Lib.hid (X16.out.trans (hb17.mono X16.out.size))
  clear hb17 X16
  go_wp2_with fail
  refine (same_on Q7.out U7.out (by omega) K8.out X17.out).mono ?_
  rintro e w18 ⟨rfl, hb18⟩
  have X18 := Lib.hid (X17.out.trans (hb18.mono X17.out.size))
  clear hb18 X17
  go_wp2_with fail
  refine (covers_on P9.out P5.out U5.out (by omega) V1.out X18.out).mono ?_
  rintro e w19 ⟨rfl, hb19⟩
  have X19 := Lib.hid (X18.out.trans (hb19.mono X18.out.size))
  clear hb19 X18
  go_wp2_with fail
  refine (covers_on P9.out Q7.out U7.out (by omega) V2.out X19.out).mono ?_
  rintro e w20 ⟨rfl, hb20⟩
  have X20 := Lib.hid (X19.out.trans (hb20.mono X19.out.size))
  clear hb20 X19
  go_wp2_with fail
  refine (covers_on P10.out P9.out (fun k hk => by omega) (by omega) V4.out X20.out).mono ?_
  rintro e w21 ⟨rfl, hb21⟩
  have X21 := Lib.hid (X20.out.trans (hb21.mono X20.out.size))
  clear hb21 X20
  go_wp2_with fail
  refine (covers_on P9.out P10.out (fun k hk => by omega) (by omega) V4.out X21.out).mono ?_
  rintro e w22 ⟨rfl, hb22⟩
  have X22 := Lib.hid (X21.out.trans (hb22.mono X21.out.size))
  clear hb22 X21
  go_wp2
  go_ret
  exact ⟨rfl, B3.out.trans ((B12.out.trans (X22.out.mono zz)).mono B3.out.size)⟩

/-- DotJoins, of any two rows of ids -/
theorem joins_any {w : World} (u : Value) (la : Row) (ha : IdsAt w u la) (sa : Small la) (v : Value) (lb : Row) (hb : IdsAt w v lb) (sb : Small lb) :
    Calls Try.prog 4 #[u, v] w fun e w' => e = .returned (.bool true) ∧ Below w.heap.size w w' := by
  by_cases h : 100 < la.length ∨ 100 < lb.length
  · exact joins_long u v la lb w ha hb h
  · exact joins_short u v la lb w ha hb sa sb (by omega) (by omega)
end Go.Proofs.Ytggcnglnclpaeaa
