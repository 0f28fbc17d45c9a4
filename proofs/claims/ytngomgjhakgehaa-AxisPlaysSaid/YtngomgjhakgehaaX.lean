/- The law AxisBack. -/
import Derived.Test.YtngomgjhakgehaaU
import Derived.Test.YtngomgjhakgehaaQ
namespace Go.Proofs.Ytngomgjhakgehaa
open Go.RowKit Go.Maps

/-- two axes and an id's box -/
structure TwoI (w : World) (p : IdP) (s1 s2 top : Nat) (l m : List Ent) (W : World) : Prop where
  x : IdBox W w.heap.size p
  a : AxAt W s1 (fun b => s1 ≤ b ∧ b < s2) l
  b : AxAt W s2 (fun b => s2 ≤ b ∧ b < top) m
  below : Below w.heap.size w W
  h1 : w.heap.size < s1
  h2 : s1 ≤ s2
  ht : top ≤ W.heap.size
theorem TwoI.later {w W W' : World} {p : IdP} {s1 s2 top : Nat} {l m : List Ent} (h : TwoI w p s1 s2 top l m W) (hb : Below W.heap.size W W') : TwoI w p s1 s2 top l m W' :=
  ⟨h.x.below hb, h.a.later hb, h.b.later hb, h.below.trans (hb.mono h.below.size), h.h1, h.h2, Nat.le_trans h.ht hb.size⟩
theorem TwoI.turned {w W W' : World} {p : IdP} {s1 s2 top : Nat} {l m m' : List Ent} (h : TwoI w p s1 s2 top l m W) (hb : Only (fun b => s2 ≤ b ∧ b < top) W W') (ha : AxAt W' s2 (fun b => s2 ≤ b ∧ b < top) m') : TwoI w p s1 s2 top l m' W' :=
  have h1 := h.h1
  have h2 := h.h2
  ⟨h.x.only hb (by omega), h.a.kept hb (fun b hb _ hc => by omega), ha, h.below.trans (hb.below h.below.size (fun b hb => by omega)), h.h1, h.h2, Nat.le_trans h.ht hb.size⟩

theorem delete_is {s : Nat} {S : Nat → Prop} {l : List Ent} {a n : Int} {w : World} (h : AxAt w s S l) (hlen : l.length ≤ 100000) {r : Int} {m : List Ent} (hr : turnR l (a, n) false = r) (hm : turnL l (a, n) false = m) :
    Calls Try.prog 25 #[.pointer (some ⟨s, 0, none⟩), .agg #[.int .i64 a, .int .i64 n]] w fun e w' => e = .returned (.int .i64 r) ∧ AxAt w' s S m ∧ Only S w w' := by
  subst hr hm
  exact delete_any s S l a n w h hlen
theorem revive_is {s : Nat} {S : Nat → Prop} {l : List Ent} {a n : Int} {w : World} (h : AxAt w s S l) (hlen : l.length ≤ 100000) {r : Int} {m : List Ent} (hr : turnR l (a, n) true = r) (hm : turnL l (a, n) true = m) :
    Calls Try.prog 26 #[.pointer (some ⟨s, 0, none⟩), .agg #[.int .i64 a, .int .i64 n]] w fun e w' => e = .returned (.int .i64 r) ∧ AxAt w' s S m ∧ Only S w w' := by
  subst hr hm
  exact revive_any s S l a n w h hlen
theorem place_is {p : Option Addr} {l : List Ent} {a n : Int} {w : World} (h : AxP w p l) (hlen : l.length ≤ 100000) {r : Int} {b : Bool} (hr : placeF (a, n) 0 l = (r, b)) :
    Calls Try.prog 16 #[.pointer p, .agg #[.int .i64 a, .int .i64 n]] w fun e w' => e = .returned (.tuple #[.int .i64 r, .bool b]) ∧ Below w.heap.size w w' := by
  have := place_any p l a n w h hlen
  rw [hr] at this
  exact this
theorem at_is {p : Option Addr} {l : List Ent} {a : Int} {w : World} (h : AxP w p l) (hlen : l.length ≤ 100000) {x y : Int} {b : Bool} (hr : atF a 0 l = ((x, y), b)) :
    Calls Try.prog 15 #[.pointer p, .int .i64 a] w fun e w' => e = .returned (.tuple #[.agg #[.int .i64 x, .int .i64 y], .bool b]) ∧ Below w.heap.size w w' := by
  have := at_any p l a w h hlen
  rw [hr] at this
  exact this
theorem len_is {p : Option Addr} {l : List Ent} {w : World} (h : AxO w p l) (hlen : l.length ≤ 100000) {k : Nat} (hk : (liveE l).length = k) :
    Calls Try.prog 19 #[.pointer p] w fun e w' => e = .returned (.int .i64 k) ∧ Below w.heap.size w w' := by
  subst hk
  exact len_any p l w h hlen
theorem has_is {p : Option Addr} {l : List Ent} {a n : Int} {w : World} (h : AxP w p l) (hlen : l.length ≤ 100000) {b : Bool} (hk : hasE l (a, n) = b) :
    Calls Try.prog 20 #[.pointer p, .agg #[.int .i64 a, .int .i64 n]] w fun e w' => e = .returned (.bool b) ∧ Below w.heap.size w w' := by
  subst hk
  exact has_any p l a n w h hlen
theorem turn_some {l : List Ent} {p : IdP} {i : Nat} {b : Bool} (c : Bool) (hx : idxE l p = some i) (hi : l[i]? = some (p, b)) : turnR l p c = (if b = c then 11 else 0) ∧ turnL l p c = l.set i (p, c) := by
  unfold turnR turnL
  rw [hx]
  simp [hi]
theorem at_both {l : List Ent} {p : IdP} {i : Nat} (hl : ∀ e ∈ l, e.2 = true) (hi : i < l.length) {j : Nat} (hj : j + 1 < l.length) :
    ∃ x y, atF j 0 (l.set i (p, false)) = ((x, y), true) ∧ (i ≤ j → atF (↑j + 1) 0 l = ((x, y), true)) ∧ (j < i → atF j 0 l = ((x, y), true)) := by
  have hlv := live_set l i p hl hi
  have hll : (liveE l).length = l.length := by rw [live_all hl, List.length_map]
  by_cases hij : i ≤ j
  · have hk : j + 1 < (liveE l).length := by omega
    refine ⟨((liveE l)[j + 1]).1, ((liveE l)[j + 1]).2, ?_, fun _ => ?_, fun h => by omega⟩
    · rw [atF_live, hlv, if_pos (by omega), List.getElem?_eraseIdx]
      rw [show ((j : Int) - 0).toNat = j by omega, if_neg (by omega), List.getElem?_eq_getElem hk]
    · rw [atF_live, if_pos (by omega), show ((j : Int) + 1 - 0).toNat = j + 1 by omega, List.getElem?_eq_getElem hk]
  · have hk : j < (liveE l).length := by omega
    refine ⟨((liveE l)[j]).1, ((liveE l)[j]).2, ?_, fun h => by omega, fun _ => ?_⟩
    · rw [atF_live, hlv, if_pos (by omega), List.getElem?_eraseIdx]
      rw [show ((j : Int) - 0).toNat = j by omega, if_pos (by omega), List.getElem?_eq_getElem hk]
    · rw [atF_live, if_pos (by omega), show ((j : Int) - 0).toNat = j by omega, List.getElem?_eq_getElem hk]
theorem at_one {l : List Ent} (hl : ∀ e ∈ l, e.2 = true) {j : Nat} (hj : j < l.length) : ∃ x y, atF j 0 l = ((x, y), true) := by
  have hll : (liveE l).length = l.length := by rw [live_all hl, List.length_map]
  have hk : j < (liveE l).length := by omega
  refine ⟨((liveE l)[j]).1, ((liveE l)[j]).2, ?_⟩
  rw [atF_live, if_pos (by omega), show ((j : Int) - 0).toNat = j by omega, List.getElem?_eq_getElem hk]

set_option maxRecDepth 100000 in
set_option maxHeartbeats 3200000 in
theorem back_any {w : World} (u : Value) (ids : List IdP) (hu : IdsAt w u ids) (hs : SmallI ids) (a n : Int) :
    Calls Try.prog 5 #[u, .agg #[.int .i64 a, .int .i64 n]] w fun e w' => e = .returned (.bool true) ∧ Below w.heap.size w w' := by
  obtain ⟨A, c, rfl, hc, hI⟩ := id hu
  have HS := Lib.hid hs
  have HU := Lib.hid hu
  have hb0 : Below w.heap.size w (w.alloc (.cells #[.int .i64 a, .int .i64 n] 25)) := (Below.refl _ _).alloc (Nat.le_refl _) _
  have HB0 := Lib.hid hb0
  have HX0 := Lib.hid (IdBox.new w a n)
  clear hs hu hI hb0
  go_enter Try.func5, Try.ntmps5
  go_wp2_with fail
  refine (awake_any _).mono ?_
  rintro e w1 ⟨rfl, hB⟩
  have HB1 := Lib.hid (HB0.out.trans (hB.mono HB0.out.size))
  have HX1 := Lib.hid (HX0.out.below hB)
  have hsz1 : w.heap.size + 1 ≤ w1.heap.size := by have := hB.size; simpa using this
  clear hB HB0 HX0
  by_cases hlen : ids.length ≤ 100
  · have hlt : ¬ (100 : Int) < ↑ids.length := by omega
    have HU1 := Lib.hid (HU.out.below (HB1.out))
    go_wp2_with fail
    refine (new_any _ ids w1 HU1.out HS.out (by omega)).mono ?_
    rintro e w2 ⟨rfl, hA, hB⟩
    have HU2 := Lib.hid (HU1.out.below hB)
    have HA2 := Lib.hid hA
    have HB2 := Lib.hid hB
    clear hA hB
    go_wp2_with fail
    refine (new_any _ ids w2 HU2.out HS.out (by omega)).mono ?_
    rintro e w3 ⟨rfl, hA, hB⟩
    have hz2 := HB2.out.size
    have hT : TwoI w (a, n) w1.heap.size w2.heap.size w3.heap.size (newE ids) (newE ids) w3 :=
      ⟨(HX1.out.below HB2.out).below hB, (HA2.out.wider (fun b h1 h2 => ⟨h1, h2⟩)).later hB, hA.wider (fun b h1 h2 => ⟨h1, h2⟩), (HB1.out.trans (HB2.out.mono HB1.out.size)).trans (hB.mono (Nat.le_trans HB1.out.size hz2)), by omega, hz2, Nat.le_refl _⟩
    obtain ⟨s1, hs1⟩ : ∃ s, w1.heap.size = s := ⟨_, rfl⟩
    obtain ⟨s2, hs2⟩ : ∃ s, w2.heap.size = s := ⟨_, rfl⟩
    obtain ⟨top, htop⟩ : ∃ s, w3.heap.size = s := ⟨_, rfl⟩
    have hfr := newE_fresh ids
    have hll := newE_len ids
    obtain ⟨l, hl⟩ : ∃ l, newE ids = l := ⟨_, rfl⟩
    rw [hs1, hs2, htop, hl] at hT
    rw [hs1, hs2]
    rw [hl] at hfr hll
    have HT := Lib.hid hT
    have HF := Lib.hid hfr
    have hl9 : l.length ≤ 100000 := by omega
    obtain ⟨x0, x1, _⟩ := hT.x
    simp only at x0 x1
    clear hT hfr hA hB hs1 hs2 htop hl HA2 HB2 HU2 HU1 HB1 HX1 hz2 hsz1
    cases hx : idxE l (a, n) with
    | none =>
      have hp : placeF (a, n) 0 l = (0, false) := by rw [placeF_fresh _ _ HF.out.live, hx]
      have ht : turnR l (a, n) false = 3 := by unfold turnR; rw [hx]
      have hm : turnL l (a, n) false = l := by unfold turnL; rw [hx]
      have HP := Lib.hid hp
      have HTR := Lib.hid ht
      have HTL := Lib.hid hm
      clear hx hp ht hm
      go_wp2_with fail
      refine (place_is HT.out.a.p hl9 HP.out).mono ?_
      rintro e w4 ⟨rfl, hB⟩
      have HT4 := Lib.hid (HT.out.later hB)
      obtain ⟨y0, y1, _⟩ := HT4.out.x
      simp only at y0 y1
      clear hB x0 x1
      go_wp2_with fail
      refine (delete_is HT4.out.b hl9 HTR.out HTL.out).mono ?_
      rintro e w5 ⟨rfl, hA, hO⟩
      have HT5 := Lib.hid (HT4.out.turned hO hA)
      clear hA hO y0 y1
      go_wp2
      go_ret
      exact ⟨rfl, HT5.out.below⟩
    | some i =>
      obtain ⟨b, hb⟩ := idxE_some hx
      obtain rfl : b = true := HF.out.live _ (List.mem_of_getElem? hb)
      have hil := (List.getElem?_eq_some_iff.1 hb).1
      obtain ⟨m, hm⟩ : ∃ m, l.set i ((a, n), false) = m := ⟨_, rfl⟩
      have hml : m.length = l.length := by rw [← hm, List.length_set]
      have hxm : idxE m (a, n) = some i := by rw [← hm, idxE_map (set_map hb)]; exact hx
      have hbm : m[i]? = some ((a, n), false) := by rw [← hm, List.getElem?_set_self hil]
      obtain ⟨q, hq⟩ : ∃ q, l.length = q + 1 := ⟨l.length - 1, by omega⟩
      have HP := Lib.hid (show placeF (a, n) 0 l = (↑i, true) by rw [placeF_fresh _ _ HF.out.live, hx]; simp)
      have e1 := turn_some false hx hb
      have e2 := turn_some false hxm hbm
      have e3 := turn_some true hxm hbm
      have e4 := turn_some true hx hb
      rw [hm] at e1
      rw [show m.set i ((a, n), false) = m by rw [← hm, List.set_set]] at e2
      rw [show m.set i ((a, n), true) = l by rw [← hm]; exact set_back hb] at e3
      rw [show l.set i ((a, n), true) = l by obtain ⟨h5, h6⟩ := List.getElem?_eq_some_iff.1 hb; rw [← h6, List.set_getElem_self]] at e4
      simp only [Bool.true_eq_false, Bool.false_eq_true, if_true, if_false] at e1 e2 e3 e4
      have E1 := Lib.hid e1
      have E2 := Lib.hid e2
      have E3 := Lib.hid e3
      have E4 := Lib.hid e4
      have HLl := Lib.hid (show (liveE l).length = q + 1 by rw [live_all HF.out.live, List.length_map, hq])
      have HLm := Lib.hid (show (liveE m).length = q by rw [← hm, live_set l i _ HF.out.live hil, List.length_eraseIdx, if_pos (by rw [live_all HF.out.live, List.length_map]; exact hil), live_all HF.out.live, List.length_map, hq]; rfl)
      have HHm := Lib.hid (show hasE m (a, n) = true from (hasE_iff m (a, n)).2 ⟨_, List.mem_of_getElem? hbm, rfl⟩)
      have hm9 : m.length ≤ 100000 := by omega
      have hq9 : q ≤ 99 := by omega
      have HQ := Lib.hid hq
      have HAB : Hid (∀ j, j < q → ∃ x y, atF j 0 m = ((x, y), true) ∧ (i ≤ j → atF (↑j + 1) 0 l = ((x, y), true)) ∧ (j < i → atF j 0 l = ((x, y), true))) := Lib.hid (fun j hj => by rw [← hm]; exact at_both HF.out.live hil (by omega))
      have HA1 : Hid (∀ j, j < q + 1 → ∃ x y, atF j 0 l = ((x, y), true)) := Lib.hid (fun j hj => at_one HF.out.live (by omega))
      have hi9 : i ≤ q := by omega
      clear hx hb hil hm hml hxm hbm hq e1 e2 e3 e4
      go_wp2_with fail
      refine (place_is HT.out.a.p hl9 HP.out).mono ?_
      rintro e w4 ⟨rfl, hB⟩
      have HT4 := Lib.hid (HT.out.later hB)
      obtain ⟨y0, y1, _⟩ := HT4.out.x
      simp only at y0 y1
      clear hB x0 x1
      go_wp2_with fail
      refine (delete_is HT4.out.b hl9 E1.out.1 E1.out.2).mono ?_
      rintro e w5 ⟨rfl, hA, hO⟩
      have HT5 := Lib.hid (HT4.out.turned hO hA)
      clear hA hO y0 y1
      go_wp2_with fail
      refine (len_is HT5.out.b.o hm9 HLm.out).mono ?_
      rintro e w6 ⟨rfl, hB⟩
      have HT6 := Lib.hid (HT5.out.later hB)
      clear hB
      go_wp2_with fail
      refine (len_is HT6.out.a.o hl9 HLl.out).mono ?_
      rintro e w7 ⟨rfl, hB⟩
      have HT7 := Lib.hid (HT6.out.later hB)
      obtain ⟨y0, y1, _⟩ := HT7.out.x
      simp only at y0 y1
      have hne : ((↑q : Int) != ↑(q + 1) - 1) = false := by simp
      clear hB
      go_wp2_with fail
      refine (has_is HT7.out.b.p hm9 HHm.out).mono ?_
      rintro e w8 ⟨rfl, hB⟩
      have HT8 := Lib.hid (HT7.out.later hB)
      obtain ⟨z0, z1, _⟩ := HT8.out.x
      simp only at z0 z1
      clear hB y0 y1
      go_wp2_with fail
      refine (delete_is HT8.out.b hm9 E2.out.1 E2.out.2).mono ?_
      rintro e w9 ⟨rfl, hA, hO⟩
      have HT9 := Lib.hid (HT8.out.turned hO hA)
      clear hA hO z0 z1 hne
      go_wp2_with fail
      clear HP E1 E2 HT HT4 HT5 HT6 HT7 HT8 HHm
      go_loopw [10] (fun i wr => ∃ k : Nat, k ≤ q ∧ i = .int .i64 k ∧ TwoI w (a, n) s1 s2 top l m wr) (fun i _ => q - (intOf i).toNat)
      case atStart => exact ⟨0, Nat.zero_le _, rfl, HT9.out⟩
      case round =>
        obtain ⟨k, hk, rfl, hT⟩ := hrel
        have HT := Lib.hid hT
        clear hT
        by_cases hlt : k < q
        · have hk1 : (↑k : Int) < ↑q := by omega
          have hk2 : (↑k : Int) < 100 := by omega
          obtain ⟨x, y, h1, h2, h3⟩ := HAB.out k hlt
          have H1 := Lib.hid h1
          have H2 := Lib.hid h2
          have H3 := Lib.hid h3
          clear h1 h2 h3
          go_wp2_with fail
          refine (len_is HT.out.b.o hm9 HLm.out).mono ?_
          rintro e v1 ⟨rfl, hB⟩
          have HV1 := Lib.hid (HT.out.later hB)
          clear hB
          go_wp2_with fail
          refine (at_is HV1.out.b.p hm9 H1.out).mono ?_
          rintro e v2 ⟨rfl, hB⟩
          have hb3 : Below v2.heap.size v2 (v2.alloc (.cells #[.int .i64 x, .int .i64 y] 25)) := (Below.refl _ _).alloc (Nat.le_refl _) _
          have HV3 := Lib.hid ((HV1.out.later hB).later hb3)
          have HX3 := Lib.hid (IdBox.new v2 x y)
          clear hB hb3
          by_cases hik : i ≤ k
          · have hik1 : (↑i : Int) ≤ ↑k := by omega
            have H2' := Lib.hid (H2.out hik)
            clear H2 H3
            go_wp2_with fail
            refine (at_is HV3.out.a.p hl9 H2'.out).mono ?_
            rintro e v4 ⟨rfl, hB⟩
            have hb5 : Below v4.heap.size v4 (v4.alloc (.cells #[.int .i64 x, .int .i64 y] 25)) := (Below.refl _ _).alloc (Nat.le_refl _) _
            have HV5 := Lib.hid ((HV3.out.later hB).later hb5)
            obtain ⟨t0, t1, _⟩ := (HX3.out.below hB).below hb5
            obtain ⟨r0, r1, _⟩ := IdBox.new v4 x y
            simp only at t0 t1 r0 r1
            clear hB hb5
            go_wp2_with fail
            go_roundw
            case rel => exact ⟨k + 1, by omega, by simp, HV5.out⟩
            case measure => simp [intOf]; omega
          · have hik1 : (↑k : Int) < ↑i := by omega
            have H3' := Lib.hid (H3.out (by omega))
            clear H2 H3
            go_wp2_with fail
            refine (at_is HV3.out.a.p hl9 H3'.out).mono ?_
            rintro e v4 ⟨rfl, hB⟩
            have hb5 : Below v4.heap.size v4 (v4.alloc (.cells #[.int .i64 x, .int .i64 y] 25)) := (Below.refl _ _).alloc (Nat.le_refl _) _
            have HV5 := Lib.hid ((HV3.out.later hB).later hb5)
            obtain ⟨t0, t1, _⟩ := (HX3.out.below hB).below hb5
            obtain ⟨r0, r1, _⟩ := IdBox.new v4 x y
            simp only at t0 t1 r0 r1
            clear hB hb5
            go_wp2_with fail
            go_roundw
            case rel => exact ⟨k + 1, by omega, by simp, HV5.out⟩
            case measure => simp [intOf]; omega
        · obtain rfl : k = q := by omega
          have hk1 : ¬ (↑k : Int) < ↑k := by omega
          go_wp2_with fail
          refine (len_is HT.out.b.o hm9 HLm.out).mono ?_
          rintro e v1 ⟨rfl, hB⟩
          have HV1 := Lib.hid (HT.out.later hB)
          obtain ⟨y0, y1, _⟩ := HV1.out.x
          simp only at y0 y1
          clear hB HT HT9 HAB HLm
          go_wp2_with fail
          refine (revive_is HV1.out.b hm9 E3.out.1 E3.out.2).mono ?_
          rintro e v2 ⟨rfl, hA, hO⟩
          have HV2 := Lib.hid (HV1.out.turned hO hA)
          obtain ⟨z0, z1, _⟩ := HV2.out.x
          simp only at z0 z1
          clear hA hO y0 y1
          go_wp2_with fail
          refine (revive_is HV2.out.b hl9 E4.out.1 E4.out.2).mono ?_
          rintro e v3 ⟨rfl, hA, hO⟩
          have HV3 := Lib.hid (HV2.out.turned hO hA)
          clear hA hO z0 z1 HV1 HV2
          go_wp2_with fail
          refine (len_is HV3.out.b.o hl9 HLl.out).mono ?_
          rintro e v4 ⟨rfl, hB⟩
          have HV4 := Lib.hid (HV3.out.later hB)
          clear hB HV3
          go_wp2_with fail
          refine (len_is HV4.out.a.o hl9 HLl.out).mono ?_
          rintro e v5 ⟨rfl, hB⟩
          have HV5 := Lib.hid (HV4.out.later hB)
          clear hB HV4 E3 E4
          go_wp2_with fail
          go_loopw [16] (fun i wr => ∃ j : Nat, j ≤ k + 1 ∧ i = .int .i64 j ∧ TwoI w (a, n) s1 s2 top l l wr) (fun i _ => k + 1 - (intOf i).toNat)
          case atStart => exact ⟨0, Nat.zero_le _, rfl, HV5.out⟩
          case round =>
            obtain ⟨j, hj, rfl, hT⟩ := hrel
            have HT := Lib.hid hT
            clear hT
            by_cases hlt : j < k + 1
            · have hk1 : (↑j : Int) < ↑(k + 1) := by omega
              have hk2 : (↑j : Int) < 100 := by omega
              obtain ⟨x, y, h1⟩ := HA1.out j hlt
              have H1 := Lib.hid h1
              clear h1
              go_wp2_with fail
              refine (len_is HT.out.a.o hl9 HLl.out).mono ?_
              rintro e v1 ⟨rfl, hB⟩
              have HV1 := Lib.hid (HT.out.later hB)
              clear hB
              go_wp2_with fail
              refine (at_is HV1.out.a.p hl9 H1.out).mono ?_
              rintro e v2 ⟨rfl, hB⟩
              have hb3 : Below v2.heap.size v2 (v2.alloc (.cells #[.int .i64 x, .int .i64 y] 25)) := (Below.refl _ _).alloc (Nat.le_refl _) _
              have HV3 := Lib.hid ((HV1.out.later hB).later hb3)
              have HX3 := Lib.hid (IdBox.new v2 x y)
              clear hB hb3
              go_wp2_with fail
              refine (at_is HV3.out.b.p hl9 H1.out).mono ?_
              rintro e v4 ⟨rfl, hB⟩
              have hb5 : Below v4.heap.size v4 (v4.alloc (.cells #[.int .i64 x, .int .i64 y] 25)) := (Below.refl _ _).alloc (Nat.le_refl _) _
              have HV5 := Lib.hid ((HV3.out.later hB).later hb5)
              obtain ⟨t0, t1, _⟩ := (HX3.out.below hB).below hb5
              obtain ⟨r0, r1, _⟩ := IdBox.new v4 x y
              simp only at t0 t1 r0 r1
              clear hB hb5
              go_wp2_with fail
              go_roundw
              case rel => exact ⟨j + 1, by omega, by simp, HV5.out⟩
              case measure => simp [intOf]; omega
            · obtain rfl : j = k + 1 := by omega
              have hk1 : ¬ (↑(k + 1) : Int) < ↑(k + 1) := by omega
              go_wp2_with fail
              refine (len_is HT.out.a.o hl9 HLl.out).mono ?_
              rintro e v1 ⟨rfl, hB⟩
              have HV1 := Lib.hid (HT.out.later hB)
              clear hB
              go_wp2
              go_ret
              exact ⟨rfl, HV1.out.below⟩
  · have hlt : (100 : Int) < ↑ids.length := by omega
    go_wp2
    go_ret
    exact ⟨rfl, HB1.out⟩
theorem back_law {w : World} (u : Value) (ids : List IdP) (hu : IdsAt w u ids) (hs : SmallI ids) (p : IdP) (_ : Wf p) :
    Calls Try.prog 5 #[u, idV p] w fun e w' => e = .returned (.bool true) ∧ Below w.heap.size w w' := back_any u ids hu hs p.1 p.2
end Go.Proofs.Ytngomgjhakgehaa
