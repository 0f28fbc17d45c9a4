/- The law AxisPuts. -/
import Derived.Test.YtngomgjhakgehaaX
import Derived.Test.YtngomgjhakgehaaZ
namespace Go.Proofs.Ytngomgjhakgehaa
open Go.RowKit Go.Maps

theorem insAt_le {l : List Ent} (b : IdP) : insAt l b ≤ l.length := by
  unfold insAt
  split
  · omega
  · cases h : idxE l b with
    | none => simp
    | some i =>
      obtain ⟨_, hb⟩ := idxE_some h
      have := (List.getElem?_eq_some_iff.1 hb).1
      simp only
      omega
theorem insE_live {l : List Ent} {k : Nat} {p : IdP} (h : ∀ e ∈ l, e.2 = true) : ∀ e ∈ insE l k (p, true), e.2 = true := by
  intro e he
  unfold insE at he
  rcases List.mem_append.1 he with he | he
  · exact h e (List.mem_of_mem_take he)
  · rcases List.mem_cons.1 he with rfl | he
    · rfl
    · exact h e (List.mem_of_mem_drop he)
theorem hasE_false {l : List Ent} {p : IdP} (h : hasE l p = false) : ∀ e ∈ l, (e.1 == p) = false := by
  intro e he
  cases hc : (e.1 == p) with
  | false => rfl
  | true =>
    have := (hasE_iff l p).2 ⟨e, he, by simpa using hc⟩
    rw [h] at this
    cases this
theorem insE_idx {l : List Ent} {k : Nat} {p : IdP} (hk : k ≤ l.length) (h : hasE l p = false) : idxE (insE l k (p, true)) p = some k := by
  have hn := hasE_false h
  refine idxE_at (e := (p, true)) ?_ (by simp) (fun e he => ?_)
  · unfold insE
    rw [List.getElem?_append_right (by rw [List.length_take]; omega), List.length_take, Nat.min_eq_left hk]
    simp
  · unfold insE at he
    rw [List.take_append_of_le_length (by simp; omega), List.take_take] at he
    exact hn e (List.mem_of_mem_take he)
theorem insE_map (l : List Ent) (k : Nat) (p : IdP) : (insE l k (p, true)).map (·.1) = (l.map (·.1)).take k ++ p :: (l.map (·.1)).drop k := by
  unfold insE
  rw [List.map_append, List.map_cons, List.map_take, List.map_drop]
theorem at_ins {l : List Ent} {p : IdP} {k : Nat} (hl : ∀ e ∈ l, e.2 = true) (hk : k ≤ l.length) {j : Nat} (hj : j < l.length) :
    ∃ x y, atF j 0 l = ((x, y), true) ∧ (k ≤ j → atF (↑j + 1) 0 (insE l k (p, true)) = ((x, y), true)) ∧ (j < k → atF j 0 (insE l k (p, true)) = ((x, y), true)) := by
  have e1 := live_all hl
  have e2 : liveE (insE l k (p, true)) = (l.map (·.1)).take k ++ p :: (l.map (·.1)).drop k := by rw [live_all (insE_live hl), insE_map]
  obtain ⟨m, hm⟩ : ∃ m, l.map (·.1) = m := ⟨_, rfl⟩
  rw [hm] at e1 e2
  have hml : m.length = l.length := by rw [← hm, List.length_map]
  have hjm : j < m.length := by omega
  refine ⟨(m[j]).1, (m[j]).2, ?_, fun h => ?_, fun h => ?_⟩
  · rw [atF_live, if_pos (by omega), show ((j : Int) - 0).toNat = j by omega, e1, List.getElem?_eq_getElem hjm]
  · rw [atF_live, if_pos (by omega), show ((j : Int) + 1 - 0).toNat = j + 1 by omega, e2, List.getElem?_append_right (by simp; omega), List.length_take, Nat.min_eq_left (by omega), show j + 1 - k = (j - k) + 1 by omega, List.getElem?_cons_succ, List.getElem?_drop, show k + (j - k) = j by omega, List.getElem?_eq_getElem hjm]
  · rw [atF_live, if_pos (by omega), show ((j : Int) - 0).toNat = j by omega, e2, List.getElem?_append_left (by simp; omega), List.getElem?_take_of_lt h, List.getElem?_eq_getElem hjm]

theorem insert_is {s : Nat} {S : Nat → Prop} {l : List Ent} {b1 b2 x y : Int} {w : World} (h : AxAt w s S l) (hlen : l.length ≤ 100000) {r : Int} {m : List Ent} (hr : insR l (b1, b2) (x, y) = r) (hm : insL l (b1, b2) (x, y) = m) :
    Calls Try.prog 28 #[.pointer (some ⟨s, 0, none⟩), .agg #[.int .i64 b1, .int .i64 b2], .agg #[.int .i64 x, .int .i64 y]] w fun e w' => e = .returned (.int .i64 r) ∧ AxAt w' s (fun k => S k ∨ w.heap.size ≤ k) m ∧ Only S w w' := by
  subst hr hm
  exact insert_any s S l b1 b2 x y w h hlen
/-- two axes and two ids' boxes -/
structure PutI (w : World) (p q : IdP) (s1 s2 : Nat) (S2 : Nat → Prop) (l m : List Ent) (W : World) : Prop where
  x : IdBox W w.heap.size p
  y : IdBox W (w.heap.size + 1) q
  a : AxAt W s1 (fun b => s1 ≤ b ∧ b < s2) l
  b : AxAt W s2 S2 m
  below : Below w.heap.size w W
  h1 : w.heap.size + 1 < s1
  h2 : s1 ≤ s2
  hS : ∀ b, S2 b → s2 ≤ b
theorem PutI.later {w W W' : World} {p q : IdP} {s1 s2 : Nat} {S2 : Nat → Prop} {l m : List Ent} (h : PutI w p q s1 s2 S2 l m W) (hb : Below W.heap.size W W') : PutI w p q s1 s2 S2 l m W' :=
  ⟨h.x.below hb, h.y.below hb, h.a.later hb, h.b.later hb, h.below.trans (hb.mono h.below.size), h.h1, h.h2, h.hS⟩
theorem PutI.turned {w W W' : World} {p q : IdP} {s1 s2 : Nat} {S2 T2 : Nat → Prop} {l m m' : List Ent} (h : PutI w p q s1 s2 S2 l m W) (hb : Only S2 W W') (ha : AxAt W' s2 T2 m') (hT : ∀ b, T2 b → s2 ≤ b) : PutI w p q s1 s2 T2 l m' W' :=
  have h1 := h.h1
  have h2 := h.h2
  ⟨h.x.only hb (fun hc => by have := h.hS _ hc; omega), h.y.only hb (fun hc => by have := h.hS _ hc; omega), h.a.kept hb (fun b hb _ hc => by have := h.hS _ hc; omega), ha, h.below.trans (hb.below h.below.size (fun b hb => by have := h.hS _ hb; omega)), h.h1, h.h2, hT⟩

set_option maxRecDepth 100000 in
set_option maxHeartbeats 6400000 in
theorem puts_any {w : World} (u : Value) (ids : List IdP) (hu : IdsAt w u ids) (hs : SmallI ids) (b1 b2 x1 x2 : Int) :
    Calls Try.prog 8 #[u, .agg #[.int .i64 b1, .int .i64 b2], .agg #[.int .i64 x1, .int .i64 x2]] w fun e w' => e = .returned (.bool true) ∧ Below w.heap.size w w' := by
  obtain ⟨A, c, rfl, hc, hI⟩ := id hu
  have HS := Lib.hid hs
  have HU := Lib.hid hu
  have hb0 : Below w.heap.size w (w.alloc (.cells #[.int .i64 b1, .int .i64 b2] 25)) := (Below.refl _ _).alloc (Nat.le_refl _) _
  have hb1 : Below (w.alloc (.cells #[.int .i64 b1, .int .i64 b2] 25)).heap.size (w.alloc (.cells #[.int .i64 b1, .int .i64 b2] 25)) ((w.alloc (.cells #[.int .i64 b1, .int .i64 b2] 25)).alloc (.cells #[.int .i64 x1, .int .i64 x2] 25)) := (Below.refl _ _).alloc (Nat.le_refl _) _
  have hz1 : (w.alloc (.cells #[.int .i64 b1, .int .i64 b2] 25)).heap.size = w.heap.size + 1 := by simp
  have HB0 := Lib.hid (hb0.trans (hb1.mono hb0.size))
  have HX0 := Lib.hid ((IdBox.new w b1 b2).below hb1)
  have HY0 : Hid (IdBox ((w.alloc (.cells #[.int .i64 b1, .int .i64 b2] 25)).alloc (.cells #[.int .i64 x1, .int .i64 x2] 25)) (w.heap.size + 1) (x1, x2)) := Lib.hid (by have := IdBox.new (w.alloc (.cells #[.int .i64 b1, .int .i64 b2] 25)) x1 x2; rw [hz1] at this; exact this)
  clear hs hu hI hb0 hb1 hz1
  go_enter Try.func8, Try.ntmps8
  go_wp2_with fail
  refine (awake_any _).mono ?_
  rintro e w1 ⟨rfl, hB⟩
  have HB1 := Lib.hid (HB0.out.trans (hB.mono HB0.out.size))
  have HX1 := Lib.hid (HX0.out.below hB)
  have HY1 := Lib.hid (HY0.out.below hB)
  have hsz1 : w.heap.size + 1 + 1 ≤ w1.heap.size := by have := hB.size; simpa using this
  clear hB HB0 HX0 HY0
  by_cases hlen : ids.length ≤ 100
  · have hlt : ¬ (100 : Int) < ↑ids.length := by omega
    have HU1 := Lib.hid (HU.out.below (HB1.out))
    go_wp2_with fail
    refine (new_any _ ids w1 HU1.out HS.out (by omega)).mono ?_
    rintro e w2 ⟨rfl, hA, hB⟩
    have HU2 := Lib.hid (HU1.out.below hB)
    have HA2 := Lib.hid hA
    have HB2 := Lib.hid hB
    clear hA hB
    go_wp2_with fail
    refine (new_any _ ids w2 HU2.out HS.out (by omega)).mono ?_
    rintro e w3 ⟨rfl, hA, hB⟩
    have hz2 := HB2.out.size
    have hT : PutI w (b1, b2) (x1, x2) w1.heap.size w2.heap.size (fun b => w2.heap.size ≤ b) (newE ids) (newE ids) w3 :=
      ⟨(HX1.out.below HB2.out).below hB, (HY1.out.below HB2.out).below hB, (HA2.out.wider (fun b h1 h2 => ⟨h1, h2⟩)).later hB, hA, (HB1.out.trans (HB2.out.mono HB1.out.size)).trans (hB.mono (Nat.le_trans HB1.out.size hz2)), by omega, hz2, fun _ h => h⟩
    obtain ⟨s1, hs1⟩ : ∃ s, w1.heap.size = s := ⟨_, rfl⟩
    obtain ⟨s2, hs2⟩ : ∃ s, w2.heap.size = s := ⟨_, rfl⟩
    have hfr := newE_fresh ids
    have hll := newE_len ids
    obtain ⟨l, hl⟩ : ∃ l, newE ids = l := ⟨_, rfl⟩
    rw [hs1, hs2, hl] at hT
    rw [hs1, hs2]
    rw [hl] at hfr hll
    have HT := Lib.hid hT
    have HF := Lib.hid hfr
    have hl9 : l.length ≤ 100000 := by omega
    obtain ⟨x0, x9, _⟩ := hT.x
    obtain ⟨y0, y9, _⟩ := hT.y
    simp only at x0 x9 y0 y9
    obtain ⟨q, hq⟩ : ∃ q, l.length = q := ⟨_, rfl⟩
    have hq9 : q ≤ 100 := by omega
    have HLl := Lib.hid (show (liveE l).length = q by rw [live_all HF.out.live, List.length_map, hq])
    have HQ := Lib.hid hq
    clear hT hfr hA hB hs1 hs2 hl HA2 HB2 HU2 HU1 HB1 HX1 HY1 hz2 hsz1 hq hll
    by_cases hok : insR l (b1, b2) (x1, x2) = 0
    · obtain ⟨m, hm⟩ : ∃ m, insL l (b1, b2) (x1, x2) = m := ⟨_, rfl⟩
      obtain ⟨i, hi⟩ : ∃ i, insAt l (b1, b2) = i := ⟨_, rfl⟩
      have hme : m = insE l i ((x1, x2), true) := by rw [← hm, ← hi]; unfold insL; rw [if_pos hok]
      have hil : i ≤ l.length := by rw [← hi]; exact insAt_le _
      have hxn : hasE l (x1, x2) = false := by
        unfold insR at hok
        split at hok
        · cases hok
        · split at hok
          · cases hok
          · rename_i h2; simpa using h2
      have hbn : ((b1, b2) == ((0 : Int), (0 : Int))) = true ∨ ((b1, b2) == ((0 : Int), (0 : Int))) = false ∧ hasE l (b1, b2) = true := by
        unfold insR at hok
        rw [hxn] at hok
        cases h1 : ((b1, b2) == ((0 : Int), (0 : Int))) with
        | true => exact .inl rfl
        | false =>
          refine .inr ⟨rfl, ?_⟩
          cases h2 : hasE l (b1, b2) with
          | true => rfl
          | false =>
            rw [h1, h2] at hok
            split at hok
            · cases hok
            · simp at hok
      have HR := Lib.hid hok
      have HM := Lib.hid hm
      have HP := Lib.hid (show placeF (x1, x2) 0 m = (↑i, true) by rw [placeF_fresh _ _ (by rw [hme]; exact insE_live HF.out.live), hme, insE_idx hil hxn]; simp)
      have HLm := Lib.hid (show (liveE m).length = q + 1 by rw [hme, live_all (insE_live HF.out.live), List.length_map, insE_len _ hil, HQ.out])
      have HAB : Hid (∀ j, j < q → ∃ x y, atF j 0 l = ((x, y), true) ∧ (i ≤ j → atF (↑j + 1) 0 m = ((x, y), true)) ∧ (j < i → atF j 0 m = ((x, y), true))) := Lib.hid (fun j hj => by rw [hme]; exact at_ins HF.out.live hil (by rw [HQ.out]; exact hj))
      have hm9 : m.length ≤ 100000 := by have := HQ.out; rw [hme, insE_len _ hil]; omega
      have hi9 : i ≤ q := by rw [← HQ.out]; exact hil
      obtain ⟨z, hz⟩ : ∃ z, ((b1, b2) == ((0 : Int), (0 : Int))) = z := ⟨_, rfl⟩
      have heq : ∀ w, (binOp .neq 25 (.agg #[.int .i64 b1, .int .i64 b2]) (.agg #[.int .i64 0, .int .i64 0])).run Try.prog w = .ok (.bool (!z)) w := fun w => by rw [← hz]; exact id_ne b1 b2 0 0 w
      have HI := Lib.hid hi
      rw [hz] at hbn
      have HZ := Lib.hid hz
      have HBN := Lib.hid hbn
      clear hok hm hi hme hil hxn hbn hz
      go_wp2_with fail
      refine (insert_is HT.out.b hl9 HR.out HM.out).mono ?_
      rintro e w4 ⟨rfl, hA, hO⟩
      have hS2 : ∀ b, (s2 ≤ b ∨ w3.heap.size ≤ b) → s2 ≤ b := fun b hb => by
        have := axAt_lt HT.out.b
        omega
      have hT4 := HT.out.turned hO hA hS2
      obtain ⟨S2, hS2e⟩ : ∃ S2, (fun k => s2 ≤ k ∨ w3.heap.size ≤ k) = S2 := ⟨_, rfl⟩
      rw [hS2e] at hT4
      have HT4 := Lib.hid hT4
      clear hA hO hS2 hT4 hS2e HT x0 x9 y0 y9
      obtain ⟨x0, x9, _⟩ := HT4.out.x
      obtain ⟨y0, y9, _⟩ := HT4.out.y
      simp only at x0 x9 y0 y9
      go_wp2_with fail
      refine (place_is HT4.out.b.p hm9 HP.out).mono ?_
      rintro e w5 ⟨rfl, hB⟩
      have HT := Lib.hid (HT4.out.later hB)
      clear hB HT4 x0 x9 y0 y9
      obtain ⟨x0, x9, _⟩ := HT.out.x
      simp only at x0 x9
      cases z
      · have hbh := HBN.out
        simp at hbh
        obtain ⟨j, hj⟩ : ∃ j, idxE l (b1, b2) = some j := by
          rw [has_find] at hbh
          unfold findE at hbh
          cases hi : idxE l (b1, b2) with
          | none => rw [hi] at hbh; simp at hbh
          | some i => exact ⟨i, rfl⟩
        have hij : i = j + 1 := by have h5 := HI.out; unfold insAt at h5; rw [HZ.out, hj] at h5; simpa using h5.symm
        subst hij
        have HPB := Lib.hid (show placeF (b1, b2) 0 l = (↑j, true) by rw [placeF_fresh _ _ HF.out.live, hj]; simp)
        have hwr : IntKind.i64.wrap ((j : Int) + 1) = (j : Int) + 1 := by rw [IntKind.wrap_i64]; omega
        clear hbh hj
        go_wp2_with fail
        refine (place_is HT.out.a.p hl9 HPB.out).mono ?_
        rintro e w6 ⟨rfl, hB⟩
        have HTB := Lib.hid (HT.out.later hB)
        clear hB x0 x9
        go_wp2_with fail
        refine (len_is HTB.out.b.o hm9 HLm.out).mono ?_
        rintro e u1 ⟨rfl, hB⟩
        have HU1 := Lib.hid (HTB.out.later hB)
        clear hB
        go_wp2_with fail
        refine (len_is HU1.out.a.o hl9 HLl.out).mono ?_
        rintro e u2 ⟨rfl, hB⟩
        have HU2 := Lib.hid (HU1.out.later hB)
        clear hB
        go_wp2_with fail
        clear HT HP HU1 HPB
        go_loopw [14] (fun i wr => ∃ k : Nat, k ≤ q ∧ i = .int .i64 k ∧ PutI w (b1, b2) (x1, x2) s1 s2 S2 l m wr) (fun i _ => q - (intOf i).toNat)
        case atStart => exact ⟨0, Nat.zero_le _, rfl, HU2.out⟩
        case round =>
          obtain ⟨k, hk, rfl, hT⟩ := hrel
          have HT := Lib.hid hT
          clear hT HU2
          by_cases hlt : k < q
          · have hk1 : (↑k : Int) < ↑q := by omega
            have hk2 : (↑k : Int) < 200 := by omega
            obtain ⟨x, y, h1, h2, h3⟩ := HAB.out k hlt
            have H1 := Lib.hid h1
            have H2 := Lib.hid h2
            have H3 := Lib.hid h3
            clear h1 h2 h3
            go_wp2_with fail
            refine (len_is HT.out.a.o hl9 HLl.out).mono ?_
            rintro e v1 ⟨rfl, hB⟩
            have HV1 := Lib.hid (HT.out.later hB)
            clear hB
            go_wp2_with fail
            refine (at_is HV1.out.a.p hl9 H1.out).mono ?_
            rintro e v2 ⟨rfl, hB⟩
            have hb3 : Below v2.heap.size v2 (v2.alloc (.cells #[.int .i64 x, .int .i64 y] 25)) := (Below.refl _ _).alloc (Nat.le_refl _) _
            have HV3 := Lib.hid ((HV1.out.later hB).later hb3)
            have HX3 := Lib.hid (IdBox.new v2 x y)
            clear hB hb3
            by_cases hik : j + 1 ≤ k
            · have hik1 : (↑j : Int) + 1 ≤ ↑k := by omega
              have H2' := Lib.hid (H2.out hik)
              clear H2 H3
              go_wp2_with fail
              refine (at_is HV3.out.b.p hm9 H2'.out).mono ?_
              rintro e v4 ⟨rfl, hB⟩
              have hb5 : Below v4.heap.size v4 (v4.alloc (.cells #[.int .i64 x, .int .i64 y] 25)) := (Below.refl _ _).alloc (Nat.le_refl _) _
              have HV5 := Lib.hid ((HV3.out.later hB).later hb5)
              obtain ⟨t0, t1, _⟩ := (HX3.out.below hB).below hb5
              obtain ⟨r0, r1, _⟩ := IdBox.new v4 x y
              simp only at t0 t1 r0 r1
              clear hB hb5
              go_wp2_with fail
              go_roundw
              case rel => exact ⟨k + 1, by omega, by simp, HV5.out⟩
              case measure => simp [intOf]; omega
            · have hik1 : (↑k : Int) < ↑j + 1 := by omega
              have H3' := Lib.hid (H3.out (by omega))
              clear H2 H3
              go_wp2_with fail
              refine (at_is HV3.out.b.p hm9 H3'.out).mono ?_
              rintro e v4 ⟨rfl, hB⟩
              have hb5 : Below v4.heap.size v4 (v4.alloc (.cells #[.int .i64 x, .int .i64 y] 25)) := (Below.refl _ _).alloc (Nat.le_refl _) _
              have HV5 := Lib.hid ((HV3.out.later hB).later hb5)
              obtain ⟨t0, t1, _⟩ := (HX3.out.below hB).below hb5
              obtain ⟨r0, r1, _⟩ := IdBox.new v4 x y
              simp only at t0 t1 r0 r1
              clear hB hb5
              go_wp2_with fail
              go_roundw
              case rel => exact ⟨k + 1, by omega, by simp, HV5.out⟩
              case measure => simp [intOf]; omega
          · obtain rfl : k = q := by omega
            have hk1 : ¬ (↑k : Int) < ↑k := by omega
            go_wp2_with fail
            refine (len_is HT.out.a.o hl9 HLl.out).mono ?_
            rintro e v1 ⟨rfl, hB⟩
            have HV1 := Lib.hid (HT.out.later hB)
            clear hB HT
            go_wp2
            go_ret
            exact ⟨rfl, HV1.out.below⟩
      · have hi0 : i = 0 := by have h5 := HI.out; unfold insAt at h5; rw [HZ.out] at h5; simpa using h5.symm
        subst hi0
        have HPB := trivial
        go_wp2_with fail
        refine (len_is HT.out.b.o hm9 HLm.out).mono ?_
        rintro e u1 ⟨rfl, hB⟩
        have HU1 := Lib.hid (HT.out.later hB)
        clear hB
        go_wp2_with fail
        refine (len_is HU1.out.a.o hl9 HLl.out).mono ?_
        rintro e u2 ⟨rfl, hB⟩
        have HU2 := Lib.hid (HU1.out.later hB)
        clear hB
        go_wp2_with fail
        clear HT HP HU1 HPB
        go_loopw [14] (fun i wr => ∃ k : Nat, k ≤ q ∧ i = .int .i64 k ∧ PutI w (b1, b2) (x1, x2) s1 s2 S2 l m wr) (fun i _ => q - (intOf i).toNat)
        case atStart => exact ⟨0, Nat.zero_le _, rfl, HU2.out⟩
        case round =>
          obtain ⟨k, hk, rfl, hT⟩ := hrel
          have HT := Lib.hid hT
          clear hT HU2
          by_cases hlt : k < q
          · have hk1 : (↑k : Int) < ↑q := by omega
            have hk2 : (↑k : Int) < 200 := by omega
            obtain ⟨x, y, h1, h2, h3⟩ := HAB.out k hlt
            have H1 := Lib.hid h1
            have H2 := Lib.hid h2
            have H3 := Lib.hid h3
            clear h1 h2 h3
            go_wp2_with fail
            refine (len_is HT.out.a.o hl9 HLl.out).mono ?_
            rintro e v1 ⟨rfl, hB⟩
            have HV1 := Lib.hid (HT.out.later hB)
            clear hB
            go_wp2_with fail
            refine (at_is HV1.out.a.p hl9 H1.out).mono ?_
            rintro e v2 ⟨rfl, hB⟩
            have hb3 : Below v2.heap.size v2 (v2.alloc (.cells #[.int .i64 x, .int .i64 y] 25)) := (Below.refl _ _).alloc (Nat.le_refl _) _
            have HV3 := Lib.hid ((HV1.out.later hB).later hb3)
            have HX3 := Lib.hid (IdBox.new v2 x y)
            clear hB hb3
            by_cases hik : 0 ≤ k
            · have hik1 : (0 : Int) ≤ ↑k := by omega
              have H2' := Lib.hid (H2.out hik)
              clear H2 H3
              go_wp2_with fail
              refine (at_is HV3.out.b.p hm9 H2'.out).mono ?_
              rintro e v4 ⟨rfl, hB⟩
              have hb5 : Below v4.heap.size v4 (v4.alloc (.cells #[.int .i64 x, .int .i64 y] 25)) := (Below.refl _ _).alloc (Nat.le_refl _) _
              have HV5 := Lib.hid ((HV3.out.later hB).later hb5)
              obtain ⟨t0, t1, _⟩ := (HX3.out.below hB).below hb5
              obtain ⟨r0, r1, _⟩ := IdBox.new v4 x y
              simp only at t0 t1 r0 r1
              clear hB hb5
              go_wp2_with fail
              go_roundw
              case rel => exact ⟨k + 1, by omega, by simp, HV5.out⟩
              case measure => simp [intOf]; omega
            · exact absurd (Nat.zero_le k) hik
          · obtain rfl : k = q := by omega
            have hk1 : ¬ (↑k : Int) < ↑k := by omega
            go_wp2_with fail
            refine (len_is HT.out.a.o hl9 HLl.out).mono ?_
            rintro e v1 ⟨rfl, hB⟩
            have HV1 := Lib.hid (HT.out.later hB)
            clear hB HT
            go_wp2
            go_ret
            exact ⟨rfl, HV1.out.below⟩
    · obtain ⟨r, hr⟩ : ∃ r, insR l (b1, b2) (x1, x2) = r := ⟨_, rfl⟩
      have hm : insL l (b1, b2) (x1, x2) = l := by unfold insL; rw [if_neg hok]
      have hr0 : (r == 0) = false := by rw [← hr]; simpa using hok
      have hr1 : (r != 0) = true := by rw [← hr]; simpa using hok
      have HR := Lib.hid hr
      have HM := Lib.hid hm
      clear hok hm hr
      go_wp2_with fail
      refine (insert_is HT.out.b hl9 HR.out HM.out).mono ?_
      rintro e w4 ⟨rfl, hA, hO⟩
      have hS2 : ∀ b, (s2 ≤ b ∨ w3.heap.size ≤ b) → s2 ≤ b := fun b hb => by
        have := axAt_lt HT.out.b
        omega
      have HT4 := Lib.hid (HT.out.turned hO hA hS2)
      clear hA hO hS2 HT
      go_wp2_with fail
      refine (len_is HT4.out.b.o hl9 HLl.out).mono ?_
      rintro e v1 ⟨rfl, hB⟩
      have HT5 := Lib.hid (HT4.out.later hB)
      clear hB
      go_wp2_with fail
      refine (len_is HT5.out.a.o hl9 HLl.out).mono ?_
      rintro e v2 ⟨rfl, hB⟩
      have HT6 := Lib.hid (HT5.out.later hB)
      clear hB
      go_wp2
      go_ret
      exact ⟨rfl, HT6.out.below⟩
  · have hlt : (100 : Int) < ↑ids.length := by omega
    go_wp2
    go_ret
    exact ⟨rfl, HB1.out⟩
theorem puts_law {w : World} (u : Value) (ids : List IdP) (hu : IdsAt w u ids) (hs : SmallI ids) (p : IdP) (_ : Wf p) (q : IdP) (_ : Wf q) :
    Calls Try.prog 8 #[u, idV p, idV q] w fun e w' => e = .returned (.bool true) ∧ Below w.heap.size w w' := puts_any u ids hu hs p.1 p.2 q.1 q.2
end Go.Proofs.Ytngomgjhakgehaa
