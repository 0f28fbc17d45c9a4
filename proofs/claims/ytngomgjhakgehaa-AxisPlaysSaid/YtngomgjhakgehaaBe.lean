/- The law AxisBetween. -/
import Derived.Test.YtngomgjhakgehaaRg
namespace Go.Proofs.Ytngomgjhakgehaa
open Go.RowKit Go.Maps

def Once (l : List Ent) : Prop := (l.map (·.1)).Pairwise (· ≠ ·)
theorem once_turn {l : List Ent} (h : Once l) (p : IdP) (c : Bool) : Once (turnL l p c) := by
  unfold turnL
  cases hx : idxE l p with
  | none => exact h
  | some i =>
    obtain ⟨b, hb⟩ := idxE_some hx
    unfold Once
    show ((l.set i (p, c)).map (·.1)).Pairwise _
    rw [set_map hb]
    exact h
theorem once_ins {l : List Ent} (h : Once l) (b p : IdP) : Once (insL l b p) := by
  unfold insL
  split
  · rename_i hok
    have hn : hasE l p = false := by
      unfold insR at hok
      split at hok
      · cases hok
      · split at hok
        · cases hok
        · rename_i h2; simpa using h2
    unfold Once
    rw [insE_map]
    have hp : ((l.map (·.1)).take (insAt l b) ++ p :: (l.map (·.1)).drop (insAt l b)).Perm (p :: l.map (·.1)) := by
      refine List.perm_middle.trans ?_
      rw [List.take_append_drop]
    refine (hp.pairwise_iff (fun h => Ne.symm h)).2 (List.pairwise_cons.2 ⟨fun a ha he => ?_, h⟩)
    obtain ⟨e, he1, rfl⟩ := List.mem_map.1 ha
    have := hasE_false hn e he1
    simp [he] at this
  · exact h
theorem once_deed {l : List Ent} (h : Once l) (d : DeedP) : Once (deedL l d) := by
  unfold deedL
  split
  · exact once_ins h _ _
  · split
    · exact once_turn h _ _
    · split
      · exact once_turn h _ _
      · exact h
theorem once_deeds (ds : List DeedP) : ∀ {l : List Ent}, Once l → Once (deedsL l ds) := by
  induction ds with
  | nil => intro l h; exact h
  | cons d ds ih => intro l h; exact ih (once_deed h d)
theorem live_mem {l : List Ent} {p : IdP} (h : p ∈ liveE l) : ∃ e ∈ l, e.1 = p := by
  unfold liveE at h
  obtain ⟨e, he, rfl⟩ := List.mem_map.1 h
  exact ⟨e, (List.mem_filter.1 he).1, rfl⟩
theorem placeF_live (l : List Ent) : ∀ (n : Int), Once l → ∀ (j : Nat) p, (liveE l)[j]? = some p → placeF p n l = (n + j, true) := by
  induction l with
  | nil => intro n _ j p h; simp [liveE] at h
  | cons e l ih =>
    intro n ho j p h
    have ho' := List.pairwise_cons.1 ho
    have hne : ∀ q ∈ liveE l, (e.1 == q) = false := fun q hq => by
      obtain ⟨f, hf, rfl⟩ := live_mem hq
      have := ho'.1 f.1 (List.mem_map.2 ⟨f, hf, rfl⟩)
      simpa using this
    cases he : e.2 with
    | true =>
      have h1 : liveE (e :: l) = e.1 :: liveE l := by simp [liveE, he]
      rw [h1] at h
      cases j with
      | zero =>
        simp only [List.getElem?_cons_zero, Option.some.injEq] at h
        subst h
        simp [placeF, he]
      | succ j =>
        rw [List.getElem?_cons_succ] at h
        have h2 := hne p (List.mem_of_getElem? h)
        have := ih (n + 1) ho'.2 j p h
        simp only [placeF, h2, Bool.false_eq_true, if_false, he, if_true]
        rw [this]
        simp
        omega
    | false =>
      have h1 : liveE (e :: l) = liveE l := by simp [liveE, he]
      rw [h1] at h
      have h2 := hne p (List.mem_of_getElem? h)
      have := ih n ho'.2 j p h
      simp only [placeF, h2, Bool.false_eq_true, if_false, he]
      exact this
theorem liveE_app (l m : List Ent) : liveE (l ++ m) = liveE l ++ liveE m := by simp [liveE]
theorem between_comm (l : List Ent) (f t : IdP) : betweenE l t f = betweenE l f t := by
  unfold betweenE
  cases idxE l f <;> cases idxE l t <;> simp [Nat.min_comm, Nat.max_comm]
/-- the places of what is between two -/
theorem between_place {l : List Ent} (ho : Once l) (f t : IdP) : ∃ c : Nat, c ≤ l.length ∧ ∀ (i : Nat) p, (betweenE l f t)[i]? = some p → placeF p 0 l = ((c : Int) + (i : Int), true) := by
  cases hf : idxE l f with
  | none => exact ⟨0, Nat.zero_le _, fun i p h => by unfold betweenE at h; rw [hf] at h; simp at h⟩
  | some i =>
    cases ht : idxE l t with
    | none => exact ⟨0, Nat.zero_le _, fun i p h => by unfold betweenE at h; rw [hf, ht] at h; simp at h⟩
    | some j =>
      have e0 : betweenE l f t = liveE ((l.drop (min i j)).take (max i j + 1 - min i j)) := by unfold betweenE; rw [hf, ht]
      obtain ⟨lo, hlo⟩ : ∃ lo, min i j = lo := ⟨_, rfl⟩
      obtain ⟨n, hn⟩ : ∃ n, max i j + 1 - min i j = n := ⟨_, rfl⟩
      rw [hn, hlo] at e0
      refine ⟨(liveE (l.take lo)).length, Nat.le_trans (liveE_len _) (by rw [List.length_take]; omega), fun k p h => ?_⟩
      rw [e0] at h
      have hl : liveE l = liveE (l.take lo) ++ (liveE ((l.drop lo).take n) ++ liveE ((l.drop lo).drop n)) := by
        rw [← liveE_app, List.take_append_drop, ← liveE_app, List.take_append_drop]
      have hk := (List.getElem?_eq_some_iff.1 h).1
      have := placeF_live l 0 ho ((liveE (l.take lo)).length + k) p (by rw [hl, List.getElem?_append_right (by omega), Nat.add_sub_cancel_left, List.getElem?_append_left hk]; exact h)
      rw [this]
      simp
theorem Pair.o {B : Nat} {W : World} {s1 s2 : Nat} {l m : List Ent} (h : Pair B W s1 s2 l m) : AxO W (some ⟨s1, 0, none⟩) l := by
  obtain ⟨_, _, h1, _⟩ := h
  exact h1.o
theorem Pair.r {B : Nat} {W : World} {s1 s2 : Nat} {l m : List Ent} (h : Pair B W s1 s2 l m) : RefR W s2 m := by
  obtain ⟨_, _, _, h2, _⟩ := h
  exact h2.r
set_option maxRecDepth 100000 in
set_option maxHeartbeats 12800000 in
theorem between_law0 {w : World} (u : Value) (ids : List IdP) (hu : IdsAt w u ids) (hs : SmallI ids) (dv : Value) (ds : List DeedP) (hd : DeedsAt w dv ds) (f1 f2 t1 t2 : Int) :
    Calls Try.prog 4 #[u, dv, .agg #[.int .i64 f1, .int .i64 f2], .agg #[.int .i64 t1, .int .i64 t2]] w fun e w' => e = .returned (.bool true) ∧ Below w.heap.size w w' := by
  obtain ⟨A, c, rfl, hc, hI⟩ := id hu
  obtain ⟨DA, dc, rfl, hdc, hDI⟩ := id hd
  have HS := Lib.hid hs
  have HU := Lib.hid hu
  have HD := Lib.hid hd
  have hb0 : Below w.heap.size w (w.alloc (.cells #[.int .i64 f1, .int .i64 f2] 25)) := (Below.refl _ _).alloc (Nat.le_refl _) _
  have hn0 : IdBox (w.alloc (.cells #[.int .i64 f1, .int .i64 f2] 25)) w.heap.size (f1, f2) := IdBox.new _ _ _
  have hb1 : Below (w.alloc (.cells #[.int .i64 f1, .int .i64 f2] 25)).heap.size (w.alloc (.cells #[.int .i64 f1, .int .i64 f2] 25)) ((w.alloc (.cells #[.int .i64 f1, .int .i64 f2] 25)).alloc (.cells #[.int .i64 t1, .int .i64 t2] 25)) := (Below.refl _ _).alloc (Nat.le_refl _) _
  have hn1 : IdBox ((w.alloc (.cells #[.int .i64 f1, .int .i64 f2] 25)).alloc (.cells #[.int .i64 t1, .int .i64 t2] 25)) (w.alloc (.cells #[.int .i64 f1, .int .i64 f2] 25)).heap.size (t1, t2) := IdBox.new _ _ _
  have hz1 : (w.alloc (.cells #[.int .i64 f1, .int .i64 f2] 25)).heap.size = w.heap.size + 1 := by simp
  rw [hz1] at hn1
  obtain ⟨w0, hw0⟩ : ∃ w0, ((w.alloc (.cells #[.int .i64 f1, .int .i64 f2] 25)).alloc (.cells #[.int .i64 t1, .int .i64 t2] 25)) = w0 := ⟨_, rfl⟩
  have hB0 : Below w.heap.size w w0 := by rw [← hw0]; exact (hb0.trans (hb1.mono hb0.size))
  have hsz0 : w.heap.size + 2 ≤ w0.heap.size := by rw [← hw0]; simp
  have hx0 : IdBox w0 w.heap.size (f1, f2) := by rw [← hw0]; exact hn0.below hb1
  have hx1 : IdBox w0 (w.heap.size + 1) (t1, t2) := by rw [← hw0]; exact hn1
  have HB0 := Lib.hid hB0
  have HW0 := Lib.hid hw0
  have HX0 := Lib.hid hx0
  have HX1 := Lib.hid hx1
  clear hs hu hd hI hDI hw0 hB0 hb0 hn0 hx0 hb1 hn1 hx1 hz1
  go_enter Try.func4, Try.ntmps4
  go_wp2_with fail
  rw [HW0.out]
  refine (awake_any _).mono ?_
  rintro e w1 ⟨rfl, hB⟩
  have HB1 := Lib.hid (HB0.out.trans (hB.mono HB0.out.size))
  have HY0 := Lib.hid (HX0.out.below hB)
  have HY1 := Lib.hid (HX1.out.below hB)
  have hsz1 : w.heap.size + 2 ≤ w1.heap.size := by have := hB.size; omega
  clear hB HB0 HX0 HX1 hsz0 HW0
  by_cases hlen : ids.length ≤ 100
  · have hlt : ¬ (100 : Int) < ↑ids.length := by omega
    by_cases hdl : ds.length ≤ 60
    · have hdt : ¬ (60 : Int) < ↑ds.length := by omega
      have hs1 : ∃ s, w1.heap.size = s := ⟨_, rfl⟩
      have HUS : Hid (∀ W, Below w1.heap.size w1 W → IdsAt W (.slice A ids.length c) ids) := Lib.hid (fun W hW => (HU.out.below HB1.out).below hW)
      have HDS : Hid (∀ W, Below w1.heap.size w1 W → DeedsAt W (.slice DA ds.length dc) ds) := Lib.hid (fun W hW => (HD.out.below HB1.out).below hW)
      have HXS0 : Hid (∀ W, Below w1.heap.size w1 W → IdBox W w.heap.size (f1, f2)) := Lib.hid (fun W hW => HY0.out.below hW)
      have HXS1 : Hid (∀ W, Below w1.heap.size w1 W → IdBox W (w.heap.size + 1) (t1, t2)) := Lib.hid (fun W hW => HY1.out.below hW)
      have HBS : Hid (∀ W, Below w1.heap.size w1 W → Below w.heap.size w W) := Lib.hid (fun W hW => HB1.out.trans (hW.mono (by omega)))
      obtain ⟨B, hB1⟩ := hs1
      have hBa : B ≤ w1.heap.size := by omega
      have hBb : w1.heap.size ≤ B := by omega
      have hBw : w.heap.size + 2 ≤ B := by omega
      rw [hB1] at HUS HDS HBS HXS0 HXS1
      clear hsz1 HB1 HU HD HY0 HY1
      go_wp2_with fail
      refine (new_any _ ids w1 (HUS.out _ (Below.refl _ _)) HS.out (by omega)).mono ?_
      rintro e w2 ⟨rfl, hA, hB⟩
      rw [hB1] at hA hB ⊢
      have HA2 := Lib.hid hA
      have HB2 := Lib.hid hB
      have hz2 : B ≤ w2.heap.size := by have := hB.size; omega
      clear hA hB hB1
      go_wp2_with fail
      refine (rnew_any _ ids w2 (HUS.out _ HB2.out) (by omega)).mono ?_
      rintro e w3 ⟨rfl, hA, hB⟩
      have hll := newE_len ids
      have HF := Lib.hid (newE_fresh ids).once
      obtain ⟨l, hl⟩ : ∃ l, newE ids = l := ⟨_, rfl⟩
      have hz3 : w2.heap.size ≤ w3.heap.size := hB.size
      have hP : Pair B w3 B w2.heap.size l l := by
        rw [hl] at hA
        have h2 := HA2.out.later hB
        rw [hl] at h2
        refine ⟨fun b => B ≤ b ∧ b < w2.heap.size, fun b => w2.heap.size ≤ b ∧ b < w3.heap.size, ?_, hA.wider (fun b h1 h2 => ⟨h1, h2⟩), fun b h1 h2 => by omega, fun b h => by omega, fun b h => by omega⟩
        have h3 := HA2.out
        rw [hl] at h3
        exact (h3.wider (T := fun b => B ≤ b ∧ b < w2.heap.size) (fun b h1 h2 => ⟨h1, h2⟩)).later hB
      have HP := Lib.hid hP
      have HB3 := Lib.hid (HB2.out.trans (hB.mono hz2))
      rw [hl] at hll HF
      have hl9 : l.length ≤ 100 := by omega
      obtain ⟨s2, hs2⟩ : ∃ s, w2.heap.size = s := ⟨_, rfl⟩
      rw [hs2] at HP ⊢
      clear hA hB hP HA2 HB2 hl hll hs2 hz3
      go_wp2_with fail
      go_loopw [11] (fun i wr => ∃ k : Nat, k ≤ ds.length ∧ i = .int .i64 k ∧ Pair B wr B s2 (deedsL l (ds.take k)) (deedsL l (ds.take k)) ∧ Below B w1 wr) (fun i _ => ds.length - (intOf i).toNat)
      case atStart => exact ⟨0, Nat.zero_le _, rfl, HP.out, HB3.out⟩
      case round =>
        obtain ⟨k, hk, rfl, hp, hB⟩ := hrel
        have HPR := Lib.hid hp
        have HBR := Lib.hid hB
        clear hp hB HP HB3
        have hz : B ≤ wr.heap.size := by have := HBR.out.size; omega
        by_cases hlt : k < ds.length
        · have hx : ds[k]? = some ds[k] := List.getElem?_eq_getElem hlt
          obtain ⟨d, hd⟩ : ∃ d, ds[k] = d := ⟨_, rfl⟩
          rw [hd] at hx
          have hsn : deedsL l (ds.take (k + 1)) = deedL (deedsL l (ds.take k)) d := by rw [List.take_add_one, hx]; exact deedsL_snoc _ _ _
          have hln := deedsL_len (ds.take k) l
          rw [List.length_take] at hln
          have HSN := Lib.hid hsn
          obtain ⟨A2, c2, hv2, hc2, hI2⟩ := HDS.out _ HBR.out
          obtain ⟨rfl, _, rfl⟩ := Value.slice.inj hv2
          obtain ⟨ad, rfl, q0, q1, q2, q3, q4⟩ := hI2 k d hx
          obtain ⟨dk, ⟨d1, d2⟩, ⟨d3, d4⟩⟩ := d
          simp only at q0 q1 q2 q3 q4
          have hi0 : (0 : Int) ≤ ↑k := by omega
          have hi1 : (↑k : Int) < ↑ds.length := by omega
          have hi2 : (↑ds.length : Int) ≤ ↑dc := by omega
          clear hx hd hsn hI2 hv2
          go_wp2_with fail
          refine (do_any B B s2 (deedsL l (ds.take k)) dk d1 d2 d3 d4 wr HPR.out (by omega) hz _ rfl).mono ?_
          rintro e w5 ⟨rfl, hp, hb⟩
          rw [← HSN.out] at hp
          have HP5 := Lib.hid hp
          have HB5 := Lib.hid (HBR.out.trans hb)
          clear hp hb
          go_wp2_with fail
          go_roundw
          case rel => exact ⟨k + 1, by omega, by simp, HP5.out, HB5.out⟩
          case measure => simp [intOf]; omega
        · obtain rfl : k = ds.length := by omega
          have hlt2 : ¬ (↑ds.length : Int) < ↑ds.length := by omega
          have hp := HPR.out
          rw [List.take_length] at hp
          have hLl := deedsL_len ds l
          have HON := Lib.hid (once_deeds ds (l := l) HF.out)
          obtain ⟨L, hL⟩ : ∃ L, deedsL l ds = L := ⟨_, rfl⟩
          rw [hL] at hp hLl HON
          have HP := Lib.hid hp
          have hL9 : L.length ≤ 200 := by omega
          clear hp HPR hL hLl HF
          obtain ⟨M, hM⟩ : ∃ M, betweenE L (f1, f2) (t1, t2) = M := ⟨_, rfl⟩
          obtain ⟨cc, hccl, hcc⟩ := between_place HON.out (f1, f2) (t1, t2)
          have hcc9 : cc ≤ 200 := by omega
          rw [hM] at hcc
          have HCC := Lib.hid hcc
          have HM := Lib.hid hM
          have hMl : M.length ≤ 200 := by
            rw [← hM]; unfold betweenE
            split
            · refine Nat.le_trans (liveE_len _) ?_; rw [List.length_take, List.length_drop]; omega
            · simp
          clear hcc hM
          obtain ⟨x0, x1, _⟩ := HXS0.out _ HBR.out
          obtain ⟨y0, y1, _⟩ := HXS1.out _ HBR.out
          simp only at x0 x1 y0 y1
          go_wp2_with fail
          refine (between_any _ L f1 f2 t1 t2 wr HP.out.o (by omega)).mono ?_
          rw [HM.out]
          rintro e v1 ⟨⟨b, rfl, hown⟩, hB⟩
          obtain ⟨A9, c9, rfl⟩ := own_shape hown
          have hids := ids_of_own hown
          have HP1 := Lib.hid (HP.out.later hB)
          have HB1' := Lib.hid (HBR.out.trans (hB.mono hz))
          have hz1 : B ≤ v1.heap.size := Nat.le_trans hz hB.size
          have HI := Lib.hid hids
          clear hown hB hids x0 x1 y0 y1 HP HBR
          obtain ⟨x0, x1, _⟩ := HXS0.out _ HB1'.out
          obtain ⟨y0, y1, _⟩ := HXS1.out _ HB1'.out
          simp only at x0 x1 y0 y1
          go_wp2_with fail
          refine (rbetween_any s2 L f1 f2 t1 t2 v1 HP1.out.r (by omega)).mono ?_
          rw [HM.out]
          rintro e v2 ⟨⟨b2, rfl, hown2⟩, hB⟩
          have HI2 := Lib.hid (HI.out.below hB)
          have HJ2 := Lib.hid (ids_of_own hown2)
          have HV2 := Lib.hid hB
          have HP2 := Lib.hid (HP1.out.later hB)
          clear hown2 hB x0 x1 y0 y1
          go_wp2_with fail
          refine (same_ids _ b2 M M v2 HI2.out HJ2.out (by omega)).mono ?_
          rw [show decide (M = M) = true from decide_eq_true rfl]
          rintro e v3 ⟨rfl, hB⟩
          have HV3 := Lib.hid (HV2.out.trans (hB.mono HV2.out.size))
          have HP3 := Lib.hid (HP2.out.later hB)
          have HB3' := Lib.hid (HB1'.out.trans (HV3.out.mono hz1))
          clear hB HI2 HJ2 HV2 HP2
          obtain ⟨x0, x1, _⟩ := HXS0.out _ HB3'.out
          obtain ⟨y0, y1, _⟩ := HXS1.out _ HB3'.out
          simp only at x0 x1 y0 y1
          go_wp2_with fail
          refine (between_any _ L t1 t2 f1 f2 v3 HP3.out.o (by omega)).mono ?_
          rw [between_comm L (f1, f2) (t1, t2), HM.out]
          rintro e v4 ⟨⟨b3, rfl, hown3⟩, hB⟩
          have HV4 := Lib.hid (HV3.out.trans (hB.mono HV3.out.size))
          have HI4 := Lib.hid (HI.out.below HV4.out)
          have HJ4 := Lib.hid (ids_of_own hown3)
          have HP4 := Lib.hid (HP3.out.later hB)
          clear hown3 hB x0 x1 y0 y1 HV3 HP3 HB3'
          go_wp2_with fail
          refine (same_ids b3 _ M M v4 HJ4.out HI4.out (by omega)).mono ?_
          rw [show decide (M = M) = true from decide_eq_true rfl]
          rintro e v5 ⟨rfl, hB⟩
          have HV5 := Lib.hid (HV4.out.trans (hB.mono HV4.out.size))
          have HP5 := Lib.hid (HP4.out.later hB)
          clear hB HI4 HJ4 HV4 HP4
          go_wp2_with fail
          go_loopw [13] (fun i wr => ∃ k : Nat, k ≤ M.length ∧ i = .int .i64 k ∧ Pair B wr B s2 L L ∧ Below v1.heap.size v1 wr) (fun i _ => M.length - (intOf i).toNat)
          case atStart => exact ⟨0, Nat.zero_le _, rfl, HP5.out, HV5.out⟩
          case round =>
            obtain ⟨k, hk, rfl, hp, hB⟩ := hrel
            have HPR := Lib.hid hp
            have HVR := Lib.hid hB
            clear hp hB HP5 HV5
            by_cases hlt : k < M.length
            · have hx : M[k]? = some M[k] := List.getElem?_eq_getElem hlt
              have h0 : M[0]? = some M[0] := List.getElem?_eq_getElem (by omega)
              obtain ⟨p, hp⟩ : ∃ p, M[k] = p := ⟨_, rfl⟩
              obtain ⟨p0, hp0⟩ : ∃ p, M[0] = p := ⟨_, rfl⟩
              rw [hp] at hx
              rw [hp0] at h0
              have HPL := Lib.hid (HCC.out k p hx)
              have HP0 := Lib.hid (HCC.out 0 p0 h0)
              obtain ⟨A2, c2, hv2, hc2, hI2⟩ := HI.out.below HVR.out
              obtain ⟨rfl, _, rfl⟩ := Value.slice.inj hv2
              obtain ⟨ad, rfl, q0, q1⟩ := hI2 k p hx
              obtain ⟨ad', had, r0, r1⟩ := hI2 0 p0 h0
              injection had with had
              subst had
              obtain ⟨p1, p2⟩ := p
              obtain ⟨o1, o2⟩ := p0
              rw [Nat.zero_mul, add_zero'] at r0 r1
              simp only at q0 q1 r0 r1
              have hi0 : (0 : Int) ≤ ↑k := by omega
              have hi1 : (↑k : Int) < ↑M.length := by omega
              have hi2 : (↑M.length : Int) ≤ ↑c9 := by omega
              have hi3 : (0 : Int) < ↑M.length := by omega
              have hr := cell_lt r0
              clear hx h0 hp hp0 hI2 hv2
              go_wp2_with fail
              refine (place_is HPR.out.o.p (by omega) HPL.out).mono ?_
              rintro e u1 ⟨rfl, hB⟩
              have HPU := Lib.hid (HPR.out.later hB)
              have HVU := Lib.hid (HVR.out.trans (hB.mono HVR.out.size))
              have r0' := (hB.cell hr).trans r0
              have r1' := (hB.cell (p := ⟨ad.block, ad.off + 1, none⟩) hr).trans r1
              clear hB q0 q1 r0 r1
              go_wp2_with fail
              refine (place_is HPU.out.o.p (by omega) HP0.out).mono ?_
              rintro e u2 ⟨rfl, hB⟩
              have HPV := Lib.hid (HPU.out.later hB)
              have HVV := Lib.hid (HVU.out.trans (hB.mono HVU.out.size))
              clear hB r0' r1'
              go_wp2_with fail
              exact ⟨⟨k + 1, by omega, by simp, HPV.out, HVV.out⟩, by simp [intOf]; omega⟩
            · obtain rfl : k = M.length := by omega
              have hlt2 : ¬ (↑M.length : Int) < ↑M.length := by omega
              go_wp2
              go_ret
              exact ⟨rfl, HBS.out _ (HB1'.out.trans (HVR.out.mono hz1))⟩
    · have hdt : (60 : Int) < ↑ds.length := by omega
      go_wp2
      go_ret
      exact ⟨rfl, HB1.out⟩
  · have hlt : (100 : Int) < ↑ids.length := by omega
    go_wp2
    go_ret
    exact ⟨rfl, HB1.out⟩
theorem between_law {w : World} (u : Value) (ids : List IdP) (hu : IdsAt w u ids) (hs : SmallI ids) (dv : Value) (ds : List DeedP) (hd : DeedsAt w dv ds) (_ : True) (p : IdP) (_ : Wf p) (q : IdP) (_ : Wf q) :
    Calls Try.prog 4 #[u, dv, idV p, idV q] w fun e w' => e = .returned (.bool true) ∧ Below w.heap.size w w' := between_law0 u ids hu hs dv ds hd p.1 p.2 q.1 q.2
end Go.Proofs.Ytngomgjhakgehaa
