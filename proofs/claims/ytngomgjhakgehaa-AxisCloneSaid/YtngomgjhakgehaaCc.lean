/- The law AxisClone. -/
import Derived.Test.YtngomgjhakgehaaCl
namespace Go.Proofs.Ytngomgjhakgehaa
open Go.RowKit Go.Maps

theorem PairK.o {K : Nat → Prop} {W : World} {s1 s2 : Nat} {l m : List Ent} (h : PairK K W s1 s2 l m) : AxO W (some ⟨s1, 0, none⟩) l := by
  obtain ⟨_, _, h1, _⟩ := h
  exact h1.o
theorem PairK.r {K : Nat → Prop} {W : World} {s1 s2 : Nat} {l m : List Ent} (h : PairK K W s1 s2 l m) : RefR W s2 m := by
  obtain ⟨_, _, _, h2, _⟩ := h
  exact h2.r
/-- what stands behind the deeds -/
def FinK (K : Nat → Prop) (w4 : World) (s1 s2 : Nat) (L : List Ent) (V : World) : Prop := Only (fun b => ¬ K b) w4 V ∧ PairK K V s1 s2 L L ∧ ∀ b, K b → b < w4.heap.size
theorem FinK.lt {K : Nat → Prop} {w4 V : World} {s1 s2 : Nat} {L : List Ent} (h : FinK K w4 s1 s2 L V) : ∀ b, K b → b < V.heap.size := fun b hb => Nat.lt_of_lt_of_le (h.2.2 b hb) h.1.size
theorem FinK.later {K : Nat → Prop} {w4 V V' : World} {s1 s2 : Nat} {L : List Ent} (h : FinK K w4 s1 s2 L V) (hb : Below V.heap.size V V') : FinK K w4 s1 s2 L V' :=
  ⟨h.1.trans (onlyK hb h.lt) (fun _ h _ => h), h.2.1.later hb, h.2.2⟩
theorem FinK.alloc {K : Nat → Prop} {w4 V : World} {s1 s2 : Nat} {L : List Ent} (h : FinK K w4 s1 s2 L V) (o : Obj) : FinK K w4 s1 s2 L (V.alloc o) := h.later ((Below.refl _ _).alloc (Nat.le_refl _) _)
theorem FinK.kept {K : Nat → Prop} {w4 V : World} {s1 s2 q : Nat} {l L : List Ent} (h : FinK K w4 s1 s2 L V) (hq : AxAt w4 q K l) : AxAt V q K l := hq.kept h.1 (fun _ hs _ hn => hn hs)
theorem delete_own {q G : Nat} {l : List Ent} (a n : Int) (w : World) (h : AxAt w q (fun b => G ≤ b) l) (hG : G ≤ w.heap.size) (hlen : l.length ≤ 90000) :
    Calls Try.prog 25 #[.pointer (some ⟨q, 0, none⟩), .agg #[.int .i64 a, .int .i64 n]] w fun e w' => (∃ r, e = .returned (.int .i64 r)) ∧ (∃ m : List Ent, AxAt w' q (fun b => G ≤ b) m ∧ m.length ≤ l.length + 1) ∧ Below G w w' := by
  refine (delete_is h (by omega) rfl rfl).mono ?_
  rintro e w' ⟨rfl, ha, ho⟩
  have := deedL_len l ⟨1, (0, 0), (a, n)⟩
  simp only [deedL] at this
  exact ⟨⟨_, rfl⟩, ⟨_, ha, by simpa using this⟩, ho.below hG (fun _ h => h)⟩
theorem insert_own {q G : Nat} {l : List Ent} (b1 b2 a n : Int) (w : World) (h : AxAt w q (fun b => G ≤ b) l) (hG : G ≤ w.heap.size) (hlen : l.length ≤ 90000) :
    Calls Try.prog 28 #[.pointer (some ⟨q, 0, none⟩), .agg #[.int .i64 b1, .int .i64 b2], .agg #[.int .i64 a, .int .i64 n]] w fun e w' => (∃ r, e = .returned (.int .i64 r)) ∧ (∃ m : List Ent, AxAt w' q (fun b => G ≤ b) m ∧ m.length ≤ l.length + 1) ∧ Below G w w' := by
  refine (insert_is h (by omega) rfl rfl).mono ?_
  rintro e w' ⟨rfl, ha, ho⟩
  have := deedL_len l ⟨0, (b1, b2), (a, n)⟩
  simp only [deedL] at this
  exact ⟨⟨_, rfl⟩, ⟨_, ha.wider (fun b h _ => by rcases h with h | h; exact h; exact Nat.le_trans hG h), by simpa using this⟩, ho.below hG (fun _ h => h)⟩
theorem bun_later {K : Nat → Prop} {w4 V V' : World} {s1 s2 g : Nat} {p : Option Addr} {L : List Ent} (h : FinK K w4 s1 s2 L V ∧ AxO V p [] ∧ IdBox V g (0, 0)) (hb : Below V.heap.size V V') : FinK K w4 s1 s2 L V' ∧ AxO V' p [] ∧ IdBox V' g (0, 0) :=
  ⟨h.1.later hb, h.2.1.below hb, h.2.2.below hb⟩
theorem len_nil (w : World) : Calls Try.prog 19 #[.pointer none] w fun e w' => e = .returned (.int .i64 0) ∧ Below w.heap.size w w' := len_any none [] w (.inl ⟨rfl, rfl⟩) (by simp)
theorem has_nil (a n : Int) (w : World) : Calls Try.prog 20 #[.pointer none, .agg #[.int .i64 a, .int .i64 n]] w fun e w' => e = .returned (.bool false) ∧ Below w.heap.size w w' := has_any none [] a n w (.inl ⟨rfl, rfl⟩) (by simp)
theorem between_nil (a n : Int) (w : World) : Calls Try.prog 22 #[.pointer none, .agg #[.int .i64 a, .int .i64 n], .agg #[.int .i64 a, .int .i64 n]] w fun e w' => e = .returned (.slice none 0 0) ∧ Below w.heap.size w w' :=
  between_none none [] a n a n w (.inl ⟨rfl, rfl⟩) (by simp) (-1) (-1) rfl rfl (.inl (by decide))
theorem ref_none (w : World) : RefR (w.alloc (.cells #[.slice none 0 0, .slice none 0 0] 60)) w.heap.size [] :=
  ⟨by simp, ⟨_, (World.cell?_alloc_new _ _ _ _).trans rfl, none, 0, rfl, Nat.le_refl _, fun k e hk => by cases hk⟩, none, 0, (World.cell?_alloc_new _ _ _ _).trans rfl, Nat.le_refl _, fun k e hk => by cases hk⟩

set_option maxRecDepth 100000 in
set_option maxHeartbeats 12800000 in
theorem clone_law0 {w : World} (u : Value) (ids : List IdP) (hu : IdsAt w u ids) (hs : SmallI ids) (dv : Value) (ds : List DeedP) (hd : DeedsAt w dv ds) (x1 x2 : Int) :
    Calls Try.prog 6 #[u, dv, .agg #[.int .i64 x1, .int .i64 x2]] w fun e w' => e = .returned (.bool true) ∧ Below w.heap.size w w' := by
  obtain ⟨A, c, rfl, hc, hI⟩ := id hu
  obtain ⟨DA, dc, rfl, hdc, hDI⟩ := id hd
  have HS := Lib.hid hs
  have HU := Lib.hid hu
  have HD := Lib.hid hd
  have hb0 : Below w.heap.size w (w.alloc (.cells #[.int .i64 x1, .int .i64 x2] 25)) := (Below.refl _ _).alloc (Nat.le_refl _) _
  have hn0 : IdBox (w.alloc (.cells #[.int .i64 x1, .int .i64 x2] 25)) w.heap.size (x1, x2) := IdBox.new _ _ _
  obtain ⟨w0, hw0⟩ : ∃ w0, (w.alloc (.cells #[.int .i64 x1, .int .i64 x2] 25)) = w0 := ⟨_, rfl⟩
  have hB0 : Below w.heap.size w w0 := by rw [← hw0]; exact hb0
  have hsz0 : w.heap.size + 1 ≤ w0.heap.size := by rw [← hw0]; simp
  have hx0 : IdBox w0 w.heap.size (x1, x2) := by rw [← hw0]; exact hn0
  have HB0 := Lib.hid hB0
  have HW0 := Lib.hid hw0
  have HX0 := Lib.hid hx0
  clear hs hu hd hI hDI hw0 hB0 hb0 hn0 hx0
  go_enter Try.func6, Try.ntmps6
  go_wp2_with fail
  rw [HW0.out]
  refine (awake_any _).mono ?_
  rintro e w1 ⟨rfl, hB⟩
  have HB1 := Lib.hid (HB0.out.trans (hB.mono HB0.out.size))
  have HY0 := Lib.hid (HX0.out.below hB)
  have hsz1 : w.heap.size + 1 ≤ w1.heap.size := by have := hB.size; omega
  clear hB HB0 HX0 hsz0 HW0
  by_cases hlen : ids.length ≤ 100
  · have hlt : ¬ (100 : Int) < ↑ids.length := by omega
    by_cases hdl : ds.length ≤ 60
    · have hdt : ¬ (60 : Int) < ↑ds.length := by omega
      have hs1 : ∃ s, w1.heap.size = s := ⟨_, rfl⟩
      have HUS : Hid (∀ W, Below w1.heap.size w1 W → IdsAt W (.slice A ids.length c) ids) := Lib.hid (fun W hW => (HU.out.below HB1.out).below hW)
      have HDS : Hid (∀ W, Below w1.heap.size w1 W → DeedsAt W (.slice DA ds.length dc) ds) := Lib.hid (fun W hW => (HD.out.below HB1.out).below hW)
      have HXS0 : Hid (∀ W, Below w1.heap.size w1 W → IdBox W w.heap.size (x1, x2)) := Lib.hid (fun W hW => HY0.out.below hW)
      have HBS : Hid (∀ W, Below w1.heap.size w1 W → Below w.heap.size w W) := Lib.hid (fun W hW => HB1.out.trans (hW.mono (by omega)))
      obtain ⟨B, hB1⟩ := hs1
      have hBa : B ≤ w1.heap.size := by omega
      have hBb : w1.heap.size ≤ B := by omega
      have hBw : w.heap.size + 1 ≤ B := by omega
      rw [hB1] at HUS HDS HBS HXS0
      clear hsz1 HB1 HU HD HY0
      go_wp2_with fail
      refine (new_any _ ids w1 (HUS.out _ (Below.refl _ _)) HS.out (by omega)).mono ?_
      rintro e w2 ⟨rfl, hA, hB⟩
      rw [hB1] at hA hB ⊢
      have HA2 := Lib.hid hA
      have HB2 := Lib.hid hB
      have hz2 : B ≤ w2.heap.size := by have := hB.size; omega
      clear hA hB hB1
      go_wp2_with fail
      refine (rnew_any _ ids w2 (HUS.out _ HB2.out) (by omega)).mono ?_
      rintro e w3 ⟨rfl, hA, hB⟩
      have hll := newE_len ids
      have HF := Lib.hid (newE_fresh ids).once
      obtain ⟨l, hl⟩ : ∃ l, newE ids = l := ⟨_, rfl⟩
      have hz3 : w2.heap.size ≤ w3.heap.size := hB.size
      have hP : Pair B w3 B w2.heap.size l l := by
        rw [hl] at hA
        have h2 := HA2.out.later hB
        rw [hl] at h2
        refine ⟨fun b => B ≤ b ∧ b < w2.heap.size, fun b => w2.heap.size ≤ b ∧ b < w3.heap.size, ?_, hA.wider (fun b h1 h2 => ⟨h1, h2⟩), fun b h1 h2 => by omega, fun b h => by omega, fun b h => by omega⟩
        have h3 := HA2.out
        rw [hl] at h3
        exact (h3.wider (T := fun b => B ≤ b ∧ b < w2.heap.size) (fun b h1 h2 => ⟨h1, h2⟩)).later hB
      have HP := Lib.hid hP
      have HB3 := Lib.hid (HB2.out.trans (hB.mono hz2))
      rw [hl] at hll HF
      have hl9 : l.length ≤ 100 := by omega
      obtain ⟨s2, hs2⟩ : ∃ s, w2.heap.size = s := ⟨_, rfl⟩
      rw [hs2] at HP ⊢
      have HL := Lib.hid hl
      clear hA hB hP HA2 HB2 hl hll hs2 hz3
      go_wp2_with fail
      refine (clone_any _ l w3 HP.out.o (by omega)).mono ?_
      rintro e w4 ⟨q1, rfl, hA, hB⟩
      have hz4 : w3.heap.size ≤ w4.heap.size := hB.size
      have hz3 : B ≤ w3.heap.size := Nat.le_trans hBa HB3.out.size
      obtain ⟨K, hKd⟩ : ∃ K : Nat → Prop, K = fun b => b < B ∨ (w3.heap.size ≤ b ∧ b < w4.heap.size) := ⟨_, rfl⟩
      have hKi : ∀ b, K b ↔ (b < B ∨ (w3.heap.size ≤ b ∧ b < w4.heap.size)) := fun b => by rw [hKd]
      have hPK : PairK K w4 B s2 l l := by
        obtain ⟨S1, S2, h1, h2, hd, hBB, hl⟩ := HP.out
        exact ⟨S1, S2, h1.later hB, h2.later hB, hd, fun b h hk => by have h3 := (hKi b).1 hk; have := hBB b h; have := hl b h; omega, fun b h => Nat.lt_of_lt_of_le (hl b h) hz4⟩
      have hKlt : ∀ b, K b → b < w4.heap.size := fun b hb => by have h3 := (hKi b).1 hb; omega
      have HF0 : Hid (FinK K w4 B s2 l w4) := Lib.hid ⟨Only.refl _ _, hPK, hKlt⟩
      have HC : Hid (AxAt w4 q1 K l) := Lib.hid (hA.wider (fun b h1 h2 => (hKi b).2 (.inr ⟨h1, h2⟩)))
      have HKB : Hid (∀ W, Only (fun b => ¬ K b) w4 W → Below B w1 W) := Lib.hid (fun W hW => (HB3.out.trans (hB.mono hz3)).trans (hW.below (Nat.le_trans hz3 hz4) (fun b hb => by have h3 : ¬ (b < B ∨ (w3.heap.size ≤ b ∧ b < w4.heap.size)) := fun h => hb ((hKi b).2 h); omega)))
      clear hKd hPK hA hB HP HB3 hKi hKlt hz4 hz3
      go_wp2_with fail
      go_loopw [10] (fun i wr => ∃ k : Nat, k ≤ ds.length ∧ i = .int .i64 k ∧ FinK K w4 B s2 (deedsL l (ds.take k)) wr) (fun i _ => ds.length - (intOf i).toNat)
      case atStart => exact ⟨0, Nat.zero_le _, rfl, HF0.out⟩
      case round =>
        obtain ⟨k, hk, rfl, hp⟩ := hrel
        have HFR := Lib.hid hp
        have HBR := Lib.hid (HKB.out _ hp.1)
        clear hp HF0
        by_cases hlt : k < ds.length
        · have hx : ds[k]? = some ds[k] := List.getElem?_eq_getElem hlt
          obtain ⟨d, hd⟩ : ∃ d, ds[k] = d := ⟨_, rfl⟩
          rw [hd] at hx
          have hsn : deedsL l (ds.take (k + 1)) = deedL (deedsL l (ds.take k)) d := by rw [List.take_add_one, hx]; exact deedsL_snoc _ _ _
          have hln := deedsL_len (ds.take k) l
          rw [List.length_take] at hln
          have HSN := Lib.hid hsn
          obtain ⟨A2, c2, hv2, hc2, hI2⟩ := HDS.out _ HBR.out
          obtain ⟨rfl, _, rfl⟩ := Value.slice.inj hv2
          obtain ⟨ad, rfl, q0, q1, q2, q3, q4⟩ := hI2 k d hx
          obtain ⟨dk, ⟨d1, d2⟩, ⟨d3, d4⟩⟩ := d
          simp only at q0 q1 q2 q3 q4
          have hi0 : (0 : Int) ≤ ↑k := by omega
          have hi1 : (↑k : Int) < ↑ds.length := by omega
          have hi2 : (↑ds.length : Int) ≤ ↑dc := by omega
          clear hx hd hsn hI2 hv2
          go_wp2_with fail
          refine (do_anyK K B s2 (deedsL l (ds.take k)) dk d1 d2 d3 d4 wr HFR.out.2.1 (by omega) HFR.out.lt _ rfl).mono ?_
          rintro e w5 ⟨rfl, hp, hb⟩
          rw [← HSN.out] at hp
          have HF5 : Hid (FinK K w4 B s2 (deedsL l (ds.take (k + 1))) w5) := Lib.hid ⟨HFR.out.1.trans hb (fun _ h _ => h), hp, HFR.out.2.2⟩
          clear hp hb
          go_wp2_with fail
          go_roundw
          case rel => exact ⟨k + 1, by omega, by simp, HF5.out⟩
          case measure => simp [intOf]; omega
        · obtain rfl : k = ds.length := by omega
          have hlt2 : ¬ (↑ds.length : Int) < ↑ds.length := by omega
          have hp := HFR.out
          rw [List.take_length] at hp
          have hLl := deedsL_len ds l
          obtain ⟨L, hLL⟩ : ∃ L, deedsL l ds = L := ⟨_, rfl⟩
          rw [hLL] at hp hLl
          have HF1 := Lib.hid hp
          have hL9 : L.length ≤ 200 := by omega
          clear hp HFR hLL hLl HF HBR
          obtain ⟨v0, rfl⟩ : ∃ v, v = wr := ⟨_, rfl⟩
          go_wp2_with fail
          refine (clone_any _ L v0 HF1.out.2.1.o (by omega)).mono ?_
          rintro e w5 ⟨q2, rfl, hA, hB⟩
          have HA5 := Lib.hid hA
          have HB5 := Lib.hid hB
          clear hA hB
          go_wp2_with fail
          go_loopw [12] (fun i wr => ∃ k : Nat, k ≤ ds.length ∧ i = .int .i64 k ∧ (∃ L2 : List Ent, AxAt wr q2 (fun b => v0.heap.size ≤ b) L2 ∧ L2.length ≤ 200 + 2 * k) ∧ Below v0.heap.size v0 wr) (fun i _ => ds.length - (intOf i).toNat)
          case atStart => exact ⟨0, Nat.zero_le _, rfl, ⟨L, HA5.out, by omega⟩, HB5.out⟩
          case round =>
            obtain ⟨k, hk, rfl, ⟨L2, ha, hl2⟩, hB⟩ := hrel
            have HAR := Lib.hid ha
            have HVR := Lib.hid hB
            clear ha hB HA5 HB5
            have hz : v0.heap.size ≤ wr.heap.size := HVR.out.size
            by_cases hlt : k < ds.length
            · have hx : ds[k]? = some ds[k] := List.getElem?_eq_getElem hlt
              obtain ⟨d, hd⟩ : ∃ d, ds[k] = d := ⟨_, rfl⟩
              rw [hd] at hx
              obtain ⟨A2, c2, hv2, hc2, hI2⟩ := HDS.out _ (HKB.out _ (HF1.out.later HVR.out).1)
              obtain ⟨rfl, _, rfl⟩ := Value.slice.inj hv2
              obtain ⟨ad, rfl, q0, q1, q2, q3, q4⟩ := hI2 k d hx
              obtain ⟨dk, ⟨d1, d2⟩, ⟨d3, d4⟩⟩ := d
              simp only at q0 q1 q2 q3 q4
              have hi0 : (0 : Int) ≤ ↑k := by omega
              have hi1 : (↑k : Int) < ↑ds.length := by omega
              have hi2 : (↑ds.length : Int) ≤ ↑dc := by omega
              clear hx hd hI2 hv2
              go_wp2_with fail
              refine (delete_own d3 d4 wr HAR.out hz (by omega)).mono ?_
              rintro e u1 ⟨⟨r1, rfl⟩, ⟨m1, ha, hm1⟩, hB⟩
              have HA1 := Lib.hid ha
              have HV1 := Lib.hid (HVR.out.trans hB)
              have hz1 : v0.heap.size ≤ u1.heap.size := HV1.out.size
              clear ha hB q0 q1 q2 q3 q4
              go_wp2_with fail
              refine (insert_own 0 0 (-9) (k + 1) u1 HA1.out hz1 (by omega)).mono ?_
              rintro e u2 ⟨⟨r2, rfl⟩, ⟨m2, ha, hm2⟩, hB⟩
              have HA2' := Lib.hid ha
              have HV2 := Lib.hid (HV1.out.trans hB)
              clear ha hB
              go_wp2_with fail
              go_roundw
              case rel => exact ⟨k + 1, by omega, by simp, ⟨m2, HA2'.out, by omega⟩, HV2.out⟩
              case measure => simp [intOf]; omega
            · obtain rfl : k = ds.length := by omega
              have hlt2 : ¬ (↑ds.length : Int) < ↑ds.length := by omega
              have HF2 := Lib.hid (HF1.out.later HVR.out)
              clear HAR HVR HF1 hl2
              obtain ⟨v1, rfl⟩ : ∃ v, v = wr := ⟨_, rfl⟩
              have hfe : ∀ (b : Nat) (W : World), (binOp .eql 56 (.func (.func 38) #[] #[.pointer (some ⟨b, 0, none⟩)]) .nilFunc).run Try.prog W = .ok (.bool false) W := fun _ _ => rfl
              go_wp2_with fail
              have HFa := Lib.hid (HF2.out.alloc (.cells #[.slice none 0 0] 54))
              have HZ : Hid (AxO (v1.alloc (.cells #[.slice none 0 0] 54)) (some ⟨v1.heap.size, 0, none⟩) []) := Lib.hid (.inr ⟨v1.heap.size, .slice none 0 0, rfl, Boxed.new _ _ _, rfl, .inl ⟨rfl, rfl⟩⟩)
              obtain ⟨v2, hv2⟩ : ∃ V, v1.alloc (.cells #[.slice none 0 0] 54) = V := ⟨_, rfl⟩
              rw [hv2] at HFa HZ ⊢
              obtain ⟨zs, hzs⟩ : ∃ z, v1.heap.size = z := ⟨_, rfl⟩
              rw [hzs] at HZ ⊢
              clear HF2 hv2 hzs
              refine (at_is (p := none) (l := []) (a := 0) (.inl ⟨rfl, rfl⟩) (by simp) rfl).mono ?_
              rintro e v3 ⟨rfl, hB⟩
              have HF3 := Lib.hid (HFa.out.later hB)
              have HZ3 := Lib.hid (HZ.out.below hB)
              clear hB HFa HZ
              have HF4 := Lib.hid (HF3.out.alloc (.cells #[.int .i64 0, .int .i64 0] 25))
              have HZ4 := Lib.hid (HZ3.out.below ((Below.refl _ _).alloc (Nat.le_refl _) (.cells #[.int .i64 0, .int .i64 0] 25)))
              obtain ⟨ts, hts⟩ : ∃ t, v3.heap.size = t := ⟨_, rfl⟩
              have HS4 : Hid (FinK K w4 B s2 L (v3.alloc (.cells #[.int .i64 0, .int .i64 0] 25)) ∧ AxO (v3.alloc (.cells #[.int .i64 0, .int .i64 0] 25)) (some ⟨zs, 0, none⟩) [] ∧ IdBox (v3.alloc (.cells #[.int .i64 0, .int .i64 0] 25)) ts (0, 0)) := Lib.hid ⟨HF4.out, HZ4.out, by rw [← hts]; exact IdBox.new _ _ _⟩
              obtain ⟨u0, hu0⟩ : ∃ V, v3.alloc (.cells #[.int .i64 0, .int .i64 0] 25) = V := ⟨_, rfl⟩
              have hne0 : ∀ w, (binOp .neq 25 (.agg #[.int .i64 0, .int .i64 0]) (.agg #[.int .i64 0, .int .i64 0])).run Try.prog w = .ok (.bool false) w := fun w => by rw [id_ne 0 0 0 0 w]; simp
              have y4 := HF4.out
              rw [hu0] at HS4
              have HT3 := Lib.hid hts
              have HU0 := Lib.hid hu0
              clear HF3 HF4 HZ3 HZ4 hts hu0
              obtain ⟨x0, x1', _⟩ := HXS0.out _ (HKB.out _ y4.1)
              simp only at x0 x1'
              clear y4
              go_wp2_with fail
              rw [HU0.out, HT3.out]
              refine (place_is (p := none) (l := []) (.inl ⟨rfl, rfl⟩) (by simp) rfl).mono ?_
              rintro e u1 ⟨rfl, hB⟩
              have HSb1 := Lib.hid (bun_later HS4.out hB)
              clear hB HS4 x0 x1'
              obtain ⟨x0, x1', _⟩ := HXS0.out _ (HKB.out _ HSb1.out.1.1)
              simp only at x0 x1'
              go_wp2_with fail
              refine (insert_nil 0 0 x1 x2 _).mono ?_
              rintro e u2 ⟨rfl, hB⟩
              have HSb2 := Lib.hid (bun_later HSb1.out hB)
              clear hB HSb1 x0 x1'
              obtain ⟨x0, x1', _⟩ := HXS0.out _ (HKB.out _ HSb2.out.1.1)
              simp only at x0 x1'
              go_wp2_with fail
              refine (delete_nil x1 x2 _).mono ?_
              rintro e u3 ⟨rfl, hB⟩
              have HSb3 := Lib.hid (bun_later HSb2.out hB)
              clear hB HSb2 x0 x1'
              obtain ⟨x0, x1', _⟩ := HXS0.out _ (HKB.out _ HSb3.out.1.1)
              simp only at x0 x1'
              go_wp2_with fail
              refine (revive_nil x1 x2 _).mono ?_
              rintro e u4 ⟨rfl, hB⟩
              have HSb4 := Lib.hid (bun_later HSb3.out hB)
              clear hB HSb3 x0 x1'
              go_wp2_with fail
              refine (len_nil _).mono ?_
              rintro e u5 ⟨rfl, hB⟩
              have HSb5 := Lib.hid (bun_later HSb4.out hB)
              clear hB HSb4 
              obtain ⟨x0, x1', _⟩ := HXS0.out _ (HKB.out _ HSb5.out.1.1)
              simp only at x0 x1'
              obtain ⟨t0, t1, _⟩ := HSb5.out.2.2
              simp only at t0 t1
              go_wp2_with fail
              refine (has_nil x1 x2 _).mono ?_
              rintro e u6 ⟨rfl, hB⟩
              have HSb6 := Lib.hid (bun_later HSb5.out hB)
              clear hB HSb5 x0 x1' t0 t1
              obtain ⟨x0, x1', _⟩ := HXS0.out _ (HKB.out _ HSb6.out.1.1)
              simp only at x0 x1'
              go_wp2_with fail
              refine (between_nil x1 x2 _).mono ?_
              rintro e u7 ⟨rfl, hB⟩
              have HSb7 := Lib.hid (bun_later HSb6.out hB)
              clear hB HSb6 x0 x1'
              go_wp2_with fail
              refine (all_call _ _).mono ?_
              rintro e v8 ⟨rfl, rfl⟩
              have HSa := Lib.hid (bun_later HSb7.out ((Below.refl _ _).alloc (Nat.le_refl _) (.cells #[.pointer none] 27)))
              clear HSb7
              go_wp2_with fail
              have hRn := ref_none (u7.alloc (.cells #[.pointer none] 27))
              rw [show (u7.alloc (.cells #[.pointer none] 27)).heap.size = u7.heap.size + 1 by simp] at hRn
              have HSz8 := Lib.hid (bun_later HSa.out ((Below.refl _ _).alloc (Nat.le_refl _) (.cells #[.slice none 0 0, .slice none 0 0] 60)))
              refine (same_eq _ _ [] _ (.inl ⟨rfl, rfl⟩) hRn (by simp)).mono ?_
              rintro e u8 ⟨rfl, hB⟩
              have HS8 := Lib.hid (bun_later HSz8.out hB)
              clear hB HSz8 HSa
              go_wp2_with fail
              refine (clone_any none [] _ (.inl ⟨rfl, rfl⟩) (by simp)).mono ?_
              rintro e u9 ⟨q3, rfl, hA, hB⟩
              have HS9 := Lib.hid (bun_later HS8.out hB)
              have HQ3 := Lib.hid (hA.o.below ((Below.refl _ _).alloc (Nat.le_refl _) (.cells #[.slice none 0 0, .slice none 0 0] 60)))
              clear hA hB HS8 hRn
              go_wp2_with fail
              have HSz10 := Lib.hid (bun_later HS9.out ((Below.refl _ _).alloc (Nat.le_refl _) (.cells #[.slice none 0 0, .slice none 0 0] 60)))
              refine (same_eq _ _ [] _ HQ3.out (ref_none u9) (by simp)).mono ?_
              rintro e u10 ⟨rfl, hB⟩
              have HS10 := Lib.hid (bun_later HSz10.out hB)
              clear hB HSz10 HS9
              go_wp2_with fail
              have HSz11 := Lib.hid (bun_later HS10.out ((Below.refl _ _).alloc (Nat.le_refl _) (.cells #[.slice none 0 0, .slice none 0 0] 60)))
              refine (same_eq _ _ [] _ HSz11.out.2.1 (ref_none u10) (by simp)).mono ?_
              rintro e u11 ⟨rfl, hB⟩
              have HS11 := Lib.hid (bun_later HSz11.out hB)
              clear hB HSz11 HS10
              go_wp2_with fail
              refine (rnew_any _ ids _ (HUS.out _ (HKB.out _ HS11.out.1.1)) (by omega)).mono ?_
              rintro e u12 ⟨rfl, hA, hB⟩
              rw [HL.out] at hA
              have HS12 := Lib.hid (bun_later HS11.out hB)
              have HR12 := Lib.hid hA.r
              clear hA hB HS11 HQ3
              go_wp2_with fail
              refine (same_eq _ _ l _ (HS12.out.1.kept HC.out).o HR12.out (by omega)).mono ?_
              rintro e u13 ⟨rfl, hB⟩
              have HS13 := Lib.hid (bun_later HS12.out hB)
              clear hB HS12 HR12
              go_wp2_with fail
              refine (same_eq _ _ L _ HS13.out.1.2.1.o HS13.out.1.2.1.r (by omega)).mono ?_
              rintro e u14 ⟨rfl, hB⟩
              have HS14 := Lib.hid (bun_later HS13.out hB)
              clear hB HS13
              go_wp2
              go_ret
              exact ⟨rfl, HBS.out _ (HKB.out _ HS14.out.1.1)⟩
    · have hdt : (60 : Int) < ↑ds.length := by omega
      go_wp2
      go_ret
      exact ⟨rfl, HB1.out⟩
  · have hlt : (100 : Int) < ↑ids.length := by omega
    go_wp2
    go_ret
    exact ⟨rfl, HB1.out⟩
theorem clone_law {w : World} (u : Value) (ids : List IdP) (hu : IdsAt w u ids) (hs : SmallI ids) (dv : Value) (ds : List DeedP) (hd : DeedsAt w dv ds) (_ : True) (p : IdP) (_ : Wf p) :
    Calls Try.prog 6 #[u, dv, idV p] w fun e w' => e = .returned (.bool true) ∧ Below w.heap.size w w' := clone_law0 u ids hu hs dv ds hd p.1 p.2
end Go.Proofs.Ytngomgjhakgehaa
