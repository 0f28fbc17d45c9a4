/- The law AxisEnds. -/
import Derived.Test.YtngomgjhakgehaaBe
namespace Go.Proofs.Ytngomgjhakgehaa
open Go.RowKit Go.Maps

/-- the document's ids: the last and the first -/
def E5 (s : Nat) (ad : Addr) (n c q : Nat) (p1 p2 o1 o2 : Int) (w : World) : Prop :=
  w.cell? ⟨s, 0, none⟩ = some (.slice (some ad) n c) ∧ w.cell? (ad.add (q * 2)) = some (.int .i64 p1) ∧ w.cell? ⟨(ad.add (q * 2)).block, (ad.add (q * 2)).off + 1, none⟩ = some (.int .i64 p2) ∧ w.cell? ad = some (.int .i64 o1) ∧ w.cell? ⟨ad.block, ad.off + 1, none⟩ = some (.int .i64 o2)
/-- a box and an id of a row -/
def E4 (g : Nat) (ad : Addr) (k : Nat) (y1 y2 : Int) (w : World) : Prop :=
  w.cell? ⟨g, 0, none⟩ = some (.int .i64 y1) ∧ w.cell? ⟨g, 1, none⟩ = some (.int .i64 y2) ∧ w.cell? (ad.add (k * 2)) = some (.int .i64 y1) ∧ w.cell? ⟨(ad.add (k * 2)).block, (ad.add (k * 2)).off + 1, none⟩ = some (.int .i64 y2)
def E8 (s : Nat) (ad : Addr) (n c : Nat) (o1 o2 : Int) (g : Nat) (p1 p2 : Int) (g5 : Nat) (x1 x2 : Int) (w : World) : Prop :=
  w.cell? ⟨s, 0, none⟩ = some (.slice (some ad) n c) ∧ w.cell? ad = some (.int .i64 o1) ∧ w.cell? ⟨ad.block, ad.off + 1, none⟩ = some (.int .i64 o2) ∧ w.cell? ⟨g, 0, none⟩ = some (.int .i64 p1) ∧ w.cell? ⟨g, 1, none⟩ = some (.int .i64 p2) ∧ w.cell? ⟨g5, 0, none⟩ = some (.int .i64 x1) ∧ w.cell? ⟨g5, 1, none⟩ = some (.int .i64 x2)
theorem E8.later {s : Nat} {ad : Addr} {n c : Nat} {o1 o2 : Int} {g : Nat} {p1 p2 : Int} {g5 : Nat} {x1 x2 : Int} {w w' : World} (h : E8 s ad n c o1 o2 g p1 p2 g5 x1 x2 w) (hb : Below w.heap.size w w') : E8 s ad n c o1 o2 g p1 p2 g5 x1 x2 w' := by
  obtain ⟨h1, h2, h3, h4, h5, h6, h7⟩ := h
  exact ⟨(hb.cell (cell_lt h1)).trans h1, (hb.cell (cell_lt h2)).trans h2, (hb.cell (cell_lt h3)).trans h3, (hb.cell (cell_lt h4)).trans h4, (hb.cell (cell_lt h5)).trans h5, (hb.cell (cell_lt h6)).trans h6, (hb.cell (cell_lt h7)).trans h7⟩
theorem RefR.e5 {W : World} {s q : Nat} {L : List Ent} {p1 p2 o1 o2 : Int} {b0 bq : Bool} (h : RefR W s L) (hq : L.length = q + 1) (h0 : L[0]? = some ((o1, o2), b0)) (h1 : L[q]? = some ((p1, p2), bq)) : ∃ (c : Nat) (ad : Addr), q + 1 ≤ c ∧ E5 s ad (q + 1) c q p1 p2 o1 o2 W := by
  obtain ⟨v0, hv0, A0, c0, hve, hcap, hI0⟩ := h.ids
  rw [List.length_map, hq] at hve hcap
  obtain ⟨ad, had, r0, r1⟩ := hI0 0 (o1, o2) (by rw [List.getElem?_map, h0]; rfl)
  obtain ⟨ad', had', r2, r3⟩ := hI0 q (p1, p2) (by rw [List.getElem?_map, h1]; rfl)
  rw [had] at had'
  injection had' with had'
  subst had' had hve
  rw [Nat.zero_mul, add_zero'] at r0 r1
  exact ⟨c0, ad, hcap, hv0, r2, r3, r0, r1⟩
def NZ (l : List Ent) : Prop := ∀ e ∈ l, e.1 ≠ (0, 0)
theorem nz_ins {l : List Ent} (h : NZ l) (b p : IdP) : NZ (insL l b p) := by
  unfold insL
  split
  · rename_i hok
    have hp : p ≠ (0, 0) := by
      rintro rfl
      unfold insR at hok
      simp at hok
    intro e he
    unfold insE at he
    rcases List.mem_append.1 he with he | he
    · exact h e (List.mem_of_mem_take he)
    · rcases List.mem_cons.1 he with rfl | he
      · exact hp
      · exact h e (List.mem_of_mem_drop he)
  · exact h
theorem nz_turn {l : List Ent} (h : NZ l) (p : IdP) (c : Bool) : NZ (turnL l p c) := by
  unfold turnL
  cases hx : idxE l p with
  | none => exact h
  | some i =>
    obtain ⟨b, hb⟩ := idxE_some hx
    intro e he
    rcases List.mem_or_eq_of_mem_set he with he | rfl
    · exact h e he
    · exact h (p, b) (List.mem_of_getElem? hb)
theorem nz_deeds (ds : List DeedP) : ∀ {l : List Ent}, NZ l → NZ (deedsL l ds) := by
  induction ds with
  | nil => intro l h; exact h
  | cons d ds ih =>
    intro l h
    refine ih ?_
    unfold deedL
    split
    · exact nz_ins h _ _
    · split
      · exact nz_turn h _ _
      · split
        · exact nz_turn h _ _
        · exact h
theorem nz_new (ids : List IdP) : NZ (newE ids) := by
  have : ∀ (ids : List IdP) (l : List Ent), NZ l → NZ (ids.foldl newS l) := by
    intro ids
    induction ids with
    | nil => intro l h; exact h
    | cons p ids ih =>
      intro l h
      refine ih _ ?_
      unfold newS
      split
      · rename_i ht
        intro e he
        rcases List.mem_append.1 he with he | he
        · exact h e he
        · simp only [List.mem_singleton] at he
          subst he
          rintro rfl
          unfold takesE at ht
          simp at ht
      · exact h
  exact this ids [] (fun e he => by cases he)
theorem once_idx {l : List Ent} (ho : Once l) {i : Nat} {p : IdP} {b : Bool} (h : l[i]? = some (p, b)) : idxE l p = some i := by
  refine idxE_at h (by simp) (fun e he => ?_)
  obtain ⟨hi, hv⟩ := List.getElem?_eq_some_iff.1 h
  obtain ⟨j, hj, rfl⟩ := List.mem_take_iff_getElem.1 he
  have hji : j < i := by omega
  have := List.pairwise_iff_getElem.1 ho j i (by simp; omega) (by simpa using hi) hji
  simp [hv] at this
  simpa using this
theorem between_self {l : List Ent} (ho : Once l) {k : Nat} {p : IdP} (h : (liveE l)[k]? = some p) : betweenE l p p = [p] := by
  have hm := List.mem_of_getElem? h
  unfold liveE at hm
  obtain ⟨e, he, rfl⟩ := List.mem_map.1 hm
  obtain ⟨hel, hlv⟩ := List.mem_filter.1 he
  obtain ⟨j, hj⟩ := List.getElem?_of_mem hel
  have hi := once_idx (b := e.2) ho hj
  obtain ⟨hjl, hje⟩ := List.getElem?_eq_some_iff.1 hj
  unfold betweenE
  rw [hi]
  simp only [Nat.min_self, Nat.max_self]
  rw [show j + 1 - j = 1 by omega, List.drop_eq_getElem_cons hjl, hje]
  simp [liveE, hlv]
/-- one put in behind the last -/
theorem ends_math {L : List Ent} {o1 o2 p1 p2 x1 x2 : Int} {q : Nat} (ho : Once L) (hz : NZ L) (h0 : idxE L (o1, o2) = some 0) (hq : idxE L (p1, p2) = some q) (hl : L.length = q + 1) (hok : insR L (p1, p2) (x1, x2) = 0) :
    betweenE (insL L (p1, p2) (x1, x2)) (o1, o2) (p1, p2) = liveE L ∧ betweenE (insL L (p1, p2) (x1, x2)) (o1, o2) (x1, x2) = liveE L ++ [(x1, x2)] := by
  have hom := once_ins ho (p1, p2) (x1, x2)
  obtain ⟨bq, hbq⟩ := idxE_some hq
  obtain ⟨b0, hb0⟩ := idxE_some h0
  have hpz : ((p1, p2) == ((0 : Int), (0 : Int))) = false := by
    have := hz _ (List.mem_of_getElem? hbq)
    simpa using this
  have hat : insAt L (p1, p2) = q + 1 := by unfold insAt; rw [hpz, hq]; rfl
  have hm : insL L (p1, p2) (x1, x2) = L ++ [((x1, x2), true)] := by
    unfold insL insE
    rw [if_pos hok, hat, ← hl, List.take_length, List.drop_length]
  rw [hm] at hom ⊢
  have e0 : (L ++ [((x1, x2), true)])[0]? = some ((o1, o2), b0) := by rw [List.getElem?_append_left (by omega)]; exact hb0
  have eq : (L ++ [((x1, x2), true)])[q]? = some ((p1, p2), bq) := by rw [List.getElem?_append_left (by omega)]; exact hbq
  have ex : (L ++ [((x1, x2), true)])[q + 1]? = some ((x1, x2), true) := by rw [← hl]; simp
  have i0 := once_idx hom e0
  have iq := once_idx hom eq
  have ix := once_idx hom ex
  constructor
  · unfold betweenE
    rw [i0, iq]
    simp only [Nat.zero_min, Nat.zero_max, List.drop_zero, Nat.sub_zero]
    rw [← hl, List.take_left]
  · unfold betweenE
    rw [i0, ix]
    simp only [Nat.zero_min, Nat.zero_max, List.drop_zero, Nat.sub_zero]
    rw [List.take_of_length_le (by simp; omega), liveE_app]
    simp [liveE]
set_option maxRecDepth 100000 in
set_option maxHeartbeats 12800000 in
theorem ends_law0 {w : World} (u : Value) (ids : List IdP) (hu : IdsAt w u ids) (hs : SmallI ids) (dv : Value) (ds : List DeedP) (hd : DeedsAt w dv ds) (x1 x2 : Int) :
    Calls Try.prog 9 #[u, dv, .agg #[.int .i64 x1, .int .i64 x2]] w fun e w' => e = .returned (.bool true) ∧ Below w.heap.size w w' := by
  obtain ⟨A, c, rfl, hc, hI⟩ := id hu
  obtain ⟨DA, dc, rfl, hdc, hDI⟩ := id hd
  have HS := Lib.hid hs
  have HU := Lib.hid hu
  have HD := Lib.hid hd
  have hb0 : Below w.heap.size w (w.alloc (.cells #[.int .i64 x1, .int .i64 x2] 25)) := (Below.refl _ _).alloc (Nat.le_refl _) _
  have hn0 : IdBox (w.alloc (.cells #[.int .i64 x1, .int .i64 x2] 25)) w.heap.size (x1, x2) := IdBox.new _ _ _
  obtain ⟨w0, hw0⟩ : ∃ w0, (w.alloc (.cells #[.int .i64 x1, .int .i64 x2] 25)) = w0 := ⟨_, rfl⟩
  have hB0 : Below w.heap.size w w0 := by rw [← hw0]; exact hb0
  have hsz0 : w.heap.size + 1 ≤ w0.heap.size := by rw [← hw0]; simp
  have hx0 : IdBox w0 w.heap.size (x1, x2) := by rw [← hw0]; exact hn0
  have HB0 := Lib.hid hB0
  have HW0 := Lib.hid hw0
  have HX0 := Lib.hid hx0
  clear hs hu hd hI hDI hw0 hB0 hb0 hn0 hx0
  go_enter Try.func9, Try.ntmps9
  go_wp2_with fail
  rw [HW0.out]
  refine (awake_any _).mono ?_
  rintro e w1 ⟨rfl, hB⟩
  have HB1 := Lib.hid (HB0.out.trans (hB.mono HB0.out.size))
  have HY0 := Lib.hid (HX0.out.below hB)
  have hsz1 : w.heap.size + 1 ≤ w1.heap.size := by have := hB.size; omega
  clear hB HB0 HX0 hsz0 HW0
  by_cases hlen : ids.length ≤ 100
  · have hlt : ¬ (100 : Int) < ↑ids.length := by omega
    by_cases hdl : ds.length ≤ 60
    · have hdt : ¬ (60 : Int) < ↑ds.length := by omega
      have hs1 : ∃ s, w1.heap.size = s := ⟨_, rfl⟩
      have HUS : Hid (∀ W, Below w1.heap.size w1 W → IdsAt W (.slice A ids.length c) ids) := Lib.hid (fun W hW => (HU.out.below HB1.out).below hW)
      have HDS : Hid (∀ W, Below w1.heap.size w1 W → DeedsAt W (.slice DA ds.length dc) ds) := Lib.hid (fun W hW => (HD.out.below HB1.out).below hW)
      have HXS0 : Hid (∀ W, Below w1.heap.size w1 W → IdBox W w.heap.size (x1, x2)) := Lib.hid (fun W hW => HY0.out.below hW)
      have HBS : Hid (∀ W, Below w1.heap.size w1 W → Below w.heap.size w W) := Lib.hid (fun W hW => HB1.out.trans (hW.mono (by omega)))
      obtain ⟨B, hB1⟩ := hs1
      have hBa : B ≤ w1.heap.size := by omega
      have hBb : w1.heap.size ≤ B := by omega
      have hBw : w.heap.size + 1 ≤ B := by omega
      rw [hB1] at HUS HDS HBS HXS0
      clear hsz1 HB1 HU HD HY0
      go_wp2_with fail
      refine (new_any _ ids w1 (HUS.out _ (Below.refl _ _)) HS.out (by omega)).mono ?_
      rintro e w2 ⟨rfl, hA, hB⟩
      rw [hB1] at hA hB ⊢
      have HA2 := Lib.hid hA
      have HB2 := Lib.hid hB
      have hz2 : B ≤ w2.heap.size := by have := hB.size; omega
      clear hA hB hB1
      go_wp2_with fail
      refine (rnew_any _ ids w2 (HUS.out _ HB2.out) (by omega)).mono ?_
      rintro e w3 ⟨rfl, hA, hB⟩
      have hll := newE_len ids
      have HF := Lib.hid (newE_fresh ids).once
      have HZ0 := Lib.hid (nz_new ids)
      obtain ⟨l, hl⟩ : ∃ l, newE ids = l := ⟨_, rfl⟩
      have hz3 : w2.heap.size ≤ w3.heap.size := hB.size
      have hP : Pair B w3 B w2.heap.size l l := by
        rw [hl] at hA
        have h2 := HA2.out.later hB
        rw [hl] at h2
        refine ⟨fun b => B ≤ b ∧ b < w2.heap.size, fun b => w2.heap.size ≤ b ∧ b < w3.heap.size, ?_, hA.wider (fun b h1 h2 => ⟨h1, h2⟩), fun b h1 h2 => by omega, fun b h => by omega, fun b h => by omega⟩
        have h3 := HA2.out
        rw [hl] at h3
        exact (h3.wider (T := fun b => B ≤ b ∧ b < w2.heap.size) (fun b h1 h2 => ⟨h1, h2⟩)).later hB
      have HP := Lib.hid hP
      have HB3 := Lib.hid (HB2.out.trans (hB.mono hz2))
      rw [hl] at hll HF HZ0
      have hl9 : l.length ≤ 100 := by omega
      obtain ⟨s2, hs2⟩ : ∃ s, w2.heap.size = s := ⟨_, rfl⟩
      rw [hs2] at HP ⊢
      clear hA hB hP HA2 HB2 hl hll hs2 hz3
      go_wp2_with fail
      go_loopw [9] (fun i wr => ∃ k : Nat, k ≤ ds.length ∧ i = .int .i64 k ∧ Pair B wr B s2 (deedsL l (ds.take k)) (deedsL l (ds.take k)) ∧ Below B w1 wr) (fun i _ => ds.length - (intOf i).toNat)
      case atStart => exact ⟨0, Nat.zero_le _, rfl, HP.out, HB3.out⟩
      case round =>
        obtain ⟨k, hk, rfl, hp, hB⟩ := hrel
        have HPR := Lib.hid hp
        have HBR := Lib.hid hB
        clear hp hB HP HB3
        have hz : B ≤ wr.heap.size := by have := HBR.out.size; omega
        by_cases hlt : k < ds.length
        · have hx : ds[k]? = some ds[k] := List.getElem?_eq_getElem hlt
          obtain ⟨d, hd⟩ : ∃ d, ds[k] = d := ⟨_, rfl⟩
          rw [hd] at hx
          have hsn : deedsL l (ds.take (k + 1)) = deedL (deedsL l (ds.take k)) d := by rw [List.take_add_one, hx]; exact deedsL_snoc _ _ _
          have hln := deedsL_len (ds.take k) l
          rw [List.length_take] at hln
          have HSN := Lib.hid hsn
          obtain ⟨A2, c2, hv2, hc2, hI2⟩ := HDS.out _ HBR.out
          obtain ⟨rfl, _, rfl⟩ := Value.slice.inj hv2
          obtain ⟨ad, rfl, q0, q1, q2, q3, q4⟩ := hI2 k d hx
          obtain ⟨dk, ⟨d1, d2⟩, ⟨d3, d4⟩⟩ := d
          simp only at q0 q1 q2 q3 q4
          have hi0 : (0 : Int) ≤ ↑k := by omega
          have hi1 : (↑k : Int) < ↑ds.length := by omega
          have hi2 : (↑ds.length : Int) ≤ ↑dc := by omega
          clear hx hd hsn hI2 hv2
          go_wp2_with fail
          refine (do_any B B s2 (deedsL l (ds.take k)) dk d1 d2 d3 d4 wr HPR.out (by omega) hz _ rfl).mono ?_
          rintro e w5 ⟨rfl, hp, hb⟩
          rw [← HSN.out] at hp
          have HP5 := Lib.hid hp
          have HB5 := Lib.hid (HBR.out.trans hb)
          clear hp hb
          go_wp2_with fail
          go_roundw
          case rel => exact ⟨k + 1, by omega, by simp, HP5.out, HB5.out⟩
          case measure => simp [intOf]; omega
        · obtain rfl : k = ds.length := by omega
          have hlt2 : ¬ (↑ds.length : Int) < ↑ds.length := by omega
          have hp := HPR.out
          rw [List.take_length] at hp
          have hLl := deedsL_len ds l
          have HON := Lib.hid (once_deeds ds (l := l) HF.out)
          have HNZ := Lib.hid (nz_deeds ds (l := l) HZ0.out)
          obtain ⟨L, hL⟩ : ∃ L, deedsL l ds = L := ⟨_, rfl⟩
          rw [hL] at hp hLl HON HNZ
          have HP := Lib.hid hp
          have hL9 : L.length ≤ 200 := by omega
          clear hp HPR hL hLl HF
          cases L with
          | nil =>
            obtain ⟨v0, hv0, A0, c0, hve, _, _⟩ := HP.out.r.ids
            subst hve
            simp only [List.map_nil, List.length_nil] at hv0
            go_wp2_with fail
            refine (len_is HP.out.o (by simp) (show (liveE []).length = 0 from rfl)).mono ?_
            rintro e v1 ⟨rfl, hB⟩
            have HV := Lib.hid (HBS.out _ (HBR.out.trans (hB.mono hz)))
            clear hB
            go_wp2
            go_ret
            exact ⟨rfl, HV.out⟩
          | cons e0 L0 =>
            obtain ⟨L, hL⟩ : ∃ L, e0 :: L0 = L := ⟨_, rfl⟩
            obtain ⟨q, hq⟩ : ∃ q, L.length = q + 1 := ⟨L0.length, by rw [← hL]; rfl⟩
            rw [hL] at HP HON HNZ hL9
            clear hL
            have hqL : q < L.length := by omega
            obtain ⟨p0, hp0⟩ : ∃ p, L[0] = p := ⟨_, rfl⟩
            obtain ⟨pq, hpq⟩ : ∃ p, L[q] = p := ⟨_, rfl⟩
            have h0 : L[0]? = some p0 := by rw [← hp0]; exact List.getElem?_eq_getElem (by omega)
            have h1 : L[q]? = some pq := by rw [← hpq]; exact List.getElem?_eq_getElem hqL
            obtain ⟨⟨o1, o2⟩, b0⟩ := p0
            obtain ⟨⟨p1, p2⟩, bq⟩ := pq
            have HI0 := Lib.hid (once_idx HON.out h0)
            have HIQ := Lib.hid (once_idx HON.out h1)
            have HL0 := Lib.hid h0
            have HLQ := Lib.hid h1
            have HQ := Lib.hid hq
            obtain ⟨c0, ad, hcc, hrd⟩ : ∃ (c0 : Nat) (ad : Addr), q + 1 ≤ c0 ∧ ∀ W, Below wr.heap.size wr W → E5 s2 ad (q + 1) c0 q p1 p2 o1 o2 W := by
              obtain ⟨v0, hv0, A0, c0, hve, hcap, hI0⟩ := HP.out.r.ids
              rw [List.length_map, hq] at hve hcap
              obtain ⟨ad, had, r0, r1⟩ := hI0 0 (o1, o2) (by rw [List.getElem?_map, h0]; rfl)
              obtain ⟨ad', had', r2, r3⟩ := hI0 q (p1, p2) (by rw [List.getElem?_map, h1]; rfl)
              rw [had] at had'
              injection had' with had'
              subst had' had hve
              rw [Nat.zero_mul, add_zero'] at r0 r1
              exact ⟨c0, ad, hcap, fun W hW => ⟨(hW.cell (cell_lt hv0)).trans hv0, (hW.cell (cell_lt r2)).trans r2, (hW.cell (cell_lt r3)).trans r3, (hW.cell (cell_lt r0)).trans r0, (hW.cell (cell_lt r1)).trans r1⟩⟩
            have HE := Lib.hid hrd
            have hbl : betweenE L (p1, p2) (o1, o2) = liveE L := by
              unfold betweenE
              rw [HIQ.out, HI0.out]
              simp [← hq]
            have HBL := Lib.hid hbl
            have hlv := liveE_len L
            have HE0 : Hid (E5 s2 ad (q + 1) c0 q p1 p2 o1 o2 wr.drew) := Lib.hid (HE.out _ ((Below.refl _ _).drew))
            obtain ⟨cs0, _, _, _, _⟩ := HE.out _ (Below.refl _ _)
            have hq0 : (0 : Int) ≤ ↑q := by omega
            have hq1 : (↑q : Int) + 1 ≤ ↑c0 := by omega
            have hq2 : (↑q : Int) < ↑q + 1 := by omega
            have hq9 : q ≤ 200 := by omega
            have hwq : IntKind.i64.wrap (↑q : Int) = ↑q := by rw [IntKind.wrap_i64]; omega
            clear hrd hbl h0 h1 hp0 hpq hq
            go_wp2_with fail
            refine wp_region_held_drew (S := E5 s2 ad (q + 1) c0 q p1 p2 o1 o2) (by kernel_rfl) HE0.out (fun hS => ?_)
            refine wpAnyH_take (i := 0) (v := ?v0a) rfl (by kernel_rfl) (by kernel_rfl) (by kernel_rfl) (fun _ _ _ h => h) (Or.inl ⟨by kernel_rfl, ?h0a⟩) hS ?_
            case h0a => (rintro w9 ⟨e0, e1, e2, e3, e4⟩; go_simp; try with_reducible rfl)
            refine wpAnyH_take (i := 1) (v := ?v1a) rfl (by kernel_rfl) (by kernel_rfl) (by kernel_rfl) (fun _ _ _ h => h) (Or.inl ⟨by kernel_rfl, ?h1a⟩) hS ?_
            case h1a => (rintro w9 ⟨e0, e1, e2, e3, e4⟩; go_simp; try with_reducible rfl)
            refine wpAnyH_take (i := 2) (v := ?v2a) rfl (by kernel_rfl) (by kernel_rfl) (by kernel_rfl) (fun _ _ _ h => h) (Or.inl ⟨by kernel_rfl, ?h2a⟩) hS ?_
            case h2a => (rintro w9 ⟨e0, e1, e2, e3, e4⟩; go_simp; try with_reducible rfl)
            refine wpAnyH_take (i := 3) (v := ?v3a) rfl (by kernel_rfl) (by kernel_rfl) (by kernel_rfl) (fun _ _ _ h => h) (Or.inl ⟨by kernel_rfl, ?h3a⟩) hS ?_
            case h3a => (rintro w9 ⟨e0, e1, e2, e3, e4⟩; go_simp; try with_reducible rfl)
            refine wpAnyH_take (i := 4) (v := ?v4a) rfl (by kernel_rfl) (by kernel_rfl) (by kernel_rfl) (fun _ _ _ h => h) (Or.inl ⟨by kernel_rfl, ?h4a⟩) hS ?_
            case h4a => (rintro w9 ⟨e0, e1, e2, e3, e4⟩; go_simp; try with_reducible rfl)
            refine wpAnyH_take (i := 5) (v := ?v5a) rfl (by kernel_rfl) (by kernel_rfl) (by kernel_rfl) (fun _ _ _ h => h) (Or.inl ⟨by kernel_rfl, ?h5a⟩) hS ?_
            case h5a => (rintro w9 ⟨e0, e1, e2, e3, e4⟩; go_simp; try with_reducible rfl)
            refine wpAnyH_take (i := 6) (v := ?v6a) rfl (by kernel_rfl) (by kernel_rfl) (by kernel_rfl) (fun _ _ _ h => h) (Or.inl ⟨by kernel_rfl, ?h6a⟩) hS ?_
            case h6a => (rintro w9 ⟨e0, e1, e2, e3, e4⟩; go_simp; try with_reducible rfl)
            refine wpAnyH_take (i := 7) (v := ?v7a) rfl (by kernel_rfl) (by kernel_rfl) (by kernel_rfl) (fun _ _ _ h => h) (Or.inl ⟨by kernel_rfl, ?h7a⟩) hS ?_
            case h7a => (rintro w9 ⟨e0, e1, e2, e3, e4⟩; go_simp; try with_reducible rfl)
            refine wpAnyH_take (i := 8) (v := ?v8a) rfl (by kernel_rfl) (by kernel_rfl) (by kernel_rfl) (fun _ _ _ h => h) (Or.inl ⟨by kernel_rfl, ?h8a⟩) hS ?_
            case h8a => (rintro w9 ⟨e0, e1, e2, e3, e4⟩; go_simp; try with_reducible rfl)
            refine wpAnyH_take (i := 9) (v := ?v9a) rfl (by kernel_rfl) (by kernel_rfl) (by kernel_rfl) (fun _ _ _ h => h) (Or.inl ⟨by kernel_rfl, ?h9a⟩) hS ?_
            case h9a => (rintro w9 ⟨e0, e1, e2, e3, e4⟩; go_simp; try with_reducible rfl)
            refine wpAnyH_take (i := 10) (v := ?v10a) rfl (by kernel_rfl) (by kernel_rfl) (by kernel_rfl) (fun _ _ _ h => h) (Or.inl ⟨by kernel_rfl, ?h10a⟩) hS ?_
            case h10a => (rintro w9 ⟨e0, e1, e2, e3, e4⟩; go_simp; try with_reducible rfl)
            refine wpAnyH_take (i := 11) (v := ?v11a) rfl (by kernel_rfl) (by kernel_rfl) (by kernel_rfl) (fun _ _ _ h => h) (Or.inl ⟨by kernel_rfl, ?h11a⟩) hS ?_
            case h11a => (rintro w9 ⟨e0, e1, e2, e3, e4⟩; go_simp; try with_reducible rfl)
            refine wpAnyH_take (i := 12) (v := ?v12a) rfl (by kernel_rfl) (by kernel_rfl) (by kernel_rfl) (fun _ _ _ h => h) (Or.inl ⟨by kernel_rfl, ?h12a⟩) hS ?_
            case h12a => (rintro w9 ⟨e0, e1, e2, e3, e4⟩; go_simp; try with_reducible rfl)
            refine wpAnyH_take (i := 13) (v := ?v13a) rfl (by kernel_rfl) (by kernel_rfl) (by kernel_rfl) (fun _ _ _ h => h) (Or.inl ⟨by kernel_rfl, ?h13a⟩) hS ?_
            case h13a => (rintro w9 ⟨e0, e1, e2, e3, e4⟩; go_simp; try with_reducible rfl)
            refine wpAnyH_take (i := 14) (v := ?v14a) rfl (by kernel_rfl) (by kernel_rfl) (by kernel_rfl) (fun _ _ _ h => h) (Or.inl ⟨by kernel_rfl, ?h14a⟩) hS ?_
            case h14a => (rintro w9 ⟨e0, e1, e2, e3, e4⟩; go_simp; try with_reducible rfl)
            refine wpAnyH_take (i := 15) (v := ?v15a) rfl (by kernel_rfl) (by kernel_rfl) (by kernel_rfl) (fun _ _ _ h => h) (Or.inl ⟨by kernel_rfl, ?h15a⟩) hS ?_
            case h15a => (rintro w9 ⟨e0, e1, e2, e3, e4⟩; go_simp; try with_reducible rfl)
            refine wpAnyH_take (i := 16) (v := ?v16a) rfl (by kernel_rfl) (by kernel_rfl) (by kernel_rfl) (fun _ _ _ h => h) (Or.inl ⟨by kernel_rfl, ?h16a⟩) hS ?_
            case h16a => (rintro w9 ⟨e0, e1, e2, e3, e4⟩; go_simp; try with_reducible rfl)
            refine wpAnyH_take (i := 17) (v := ?v17a) rfl (by kernel_rfl) (by kernel_rfl) (by kernel_rfl) (fun _ _ _ h => h) (Or.inl ⟨by kernel_rfl, ?h17a⟩) hS ?_
            case h17a => (rintro w9 ⟨e0, e1, e2, e3, e4⟩; go_simp; try with_reducible rfl)
            refine wpAnyH_take (i := 18) (v := ?v18a) rfl (by kernel_rfl) (by kernel_rfl) (by kernel_rfl) (fun _ _ _ h => h) (Or.inl ⟨by kernel_rfl, ?h18a⟩) hS ?_
            case h18a => (rintro w9 ⟨e0, e1, e2, e3, e4⟩; go_simp; try with_reducible rfl)
            refine wpAnyH_ready (rs := [19]) (by kernel_rfl) (by simp) (AllReadyH.cons rfl (fun K hK => ?_) AllReadyH.nil)
            go_simp
            go_wp2_with (go_at_call 22; refine (between_any _ L p1 p2 o1 o2 wr.drew (HP.out.later ((Below.refl wr.heap.size wr).drew)).o (by omega)).mono ?_; rw [HBL.out]; rintro e v1 ⟨⟨b, rfl, hown⟩, hB⟩)
            refine hK.out _ _ (HE.out _ (((Below.refl wr.heap.size wr).drew).trans hB)) (fun hS2 => ?_); clear hK K
            refine wpAnyH_take (i := 20) (v := ?v20a) rfl (by kernel_rfl) (by kernel_rfl) (by kernel_rfl) (fun _ _ _ h => h) (Or.inl ⟨by kernel_rfl, ?h20a⟩) hS2 ?_
            case h20a => (rintro w9 ⟨e0, e1, e2, e3, e4⟩; go_simp; try with_reducible rfl)
            refine wpAnyH_done (by kernel_rfl) ?_ _
            go_simp
            obtain ⟨A9, c9, rfl⟩ := own_shape hown
            have hV1 : Below wr.heap.size wr v1 := ((Below.refl wr.heap.size wr).drew).trans hB
            have hz1 : wr.heap.size ≤ v1.heap.size := hV1.size
            have HID := Lib.hid (ids_of_own hown)
            have HOWN : Hid (v1.ownsRow wr.heap.size 25 2 (.slice A9 (liveE L).length c9) (liveE L).length (flat2 (liveE L))) := Lib.hid hown
            obtain ⟨S1, S2, g1, g2, gd, gB, gl⟩ := HP.out
            have HG1 := Lib.hid g1
            have HG2 := Lib.hid g2
            have HGD := Lib.hid gd
            have HGB := Lib.hid gB
            have HGL := Lib.hid gl
            have HV1 := Lib.hid hV1
            have HP1 := Lib.hid (HP.out.later hV1)
            have hlm9 : (liveE L).length ≤ 200 := by omega
            clear hown hB hV1 hS hS2 HBL HE0 cs0 g1 g2 gd gB gl
            go_wp2_with fail
            refine (len_is (k := (liveE L).length) HP1.out.o (by omega) rfl).mono ?_
            rintro e v2 ⟨rfl, hB⟩
            have HV2 := Lib.hid hB
            have HP2 := Lib.hid (HP1.out.later hB)
            clear hB HP1
            obtain ⟨M, hM⟩ : ∃ M, liveE L = M := ⟨_, rfl⟩
            rw [hM] at HID HOWN hlm9 ⊢
            have HM := Lib.hid hM
            have HAT : Hid (∀ (k : Nat) p, M[k]? = some p → atF ↑k 0 L = (p, true) ∧ betweenE L p p = [p]) := Lib.hid (fun k p hk => by
              rw [← hM] at hk
              refine ⟨?_, between_self HON.out hk⟩
              rw [atF_live, if_pos (by omega), show ((k : Int) - 0).toNat = k by omega, hk])
            clear hM hlv
            go_wp2_with fail
            go_loopw [11] (fun i wr => ∃ k : Nat, k ≤ M.length ∧ i = .int .i64 k ∧ Pair B wr B s2 L L ∧ Below v1.heap.size v1 wr) (fun i _ => M.length - (intOf i).toNat)
            case atStart => exact ⟨0, Nat.zero_le _, rfl, HP2.out, HV2.out⟩
            case round =>
              obtain ⟨k, hk, rfl, hp, hB⟩ := hrel
              have HPR := Lib.hid hp
              have HVR := Lib.hid hB
              clear hp hB HP2 HV2
              by_cases hlt : k < M.length
              · have hx : M[k]? = some M[k] := List.getElem?_eq_getElem hlt
                obtain ⟨y, hy⟩ : ∃ p, M[k] = p := ⟨_, rfl⟩
                rw [hy] at hx
                obtain ⟨y1, y2⟩ := y
                obtain ⟨hat, hbs⟩ := HAT.out k _ hx
                have HA := Lib.hid hat
                have HBSF := Lib.hid hbs
                obtain ⟨ad9, rfl, hc9, hrd⟩ : ∃ ad9, A9 = some ad9 ∧ M.length ≤ c9 ∧ ∀ W, Below v1.heap.size v1 W → W.cell? (ad9.add (k * 2)) = some (.int .i64 y1) ∧ W.cell? ⟨(ad9.add (k * 2)).block, (ad9.add (k * 2)).off + 1, none⟩ = some (.int .i64 y2) := by
                  obtain ⟨A2, c2, hv2, hc2, hI2⟩ := HID.out
                  obtain ⟨rfl, _, rfl⟩ := Value.slice.inj hv2
                  obtain ⟨ad9, had9, q0, q1⟩ := hI2 k _ hx
                  exact ⟨ad9, had9, hc2, fun W hW => ⟨(hW.cell (cell_lt q0)).trans q0, (hW.cell (cell_lt q1)).trans q1⟩⟩
                have HRD := Lib.hid hrd
                have hi0 : (0 : Int) ≤ ↑k := by omega
                have hi1 : (↑k : Int) < ↑M.length := by omega
                have hi2 : (↑M.length : Int) ≤ ↑c9 := by omega
                have hne : ∀ w, (binOp .neq 25 (.agg #[.int .i64 y1, .int .i64 y2]) (.agg #[.int .i64 y1, .int .i64 y2])).run Try.prog w = .ok (.bool false) w := fun w => by rw [id_ne y1 y2 y1 y2 w]; simp
                clear hx hy hat hbs hrd
                go_wp2_with fail
                refine (at_is HPR.out.o.p (by omega) HA.out).mono ?_
                rintro e v3 ⟨rfl, hB⟩
                have hb4 : Below v3.heap.size v3 (v3.alloc (.cells #[.int .i64 y1, .int .i64 y2] 25)) := (Below.refl _ _).alloc (Nat.le_refl _) _
                have HP4 := Lib.hid ((HPR.out.later hB).later hb4)
                have hV4 := (HVR.out.trans (hB.mono HVR.out.size)).trans (hb4.mono (Nat.le_trans HVR.out.size hB.size))
                have HV4 := Lib.hid hV4
                obtain ⟨t0, t1, htl⟩ := IdBox.new v3 y1 y2
                obtain ⟨r0, r1⟩ := HRD.out _ hV4
                simp only at t0 t1
                have HS4 : Hid (E4 v3.heap.size ad9 k y1 y2 (v3.alloc (.cells #[.int .i64 y1, .int .i64 y2] 25)).drew) := Lib.hid ⟨t0, t1, r0, r1⟩
                clear hB hb4 hV4
                go_wp2_with fail
                refine wp_region_held_drew (S := E4 v3.heap.size ad9 k y1 y2) (by kernel_rfl) HS4.out (fun hS => ?_)
                refine wpAnyH_take (i := 0) (v := ?v0b) rfl (by kernel_rfl) (by kernel_rfl) (by kernel_rfl) (fun _ _ _ h => h) (Or.inl ⟨by kernel_rfl, ?h0b⟩) hS ?_
                case h0b => (rintro w9 ⟨e0, e1, e2, e3⟩; go_simp; try with_reducible rfl)
                refine wpAnyH_take (i := 1) (v := ?v1b) rfl (by kernel_rfl) (by kernel_rfl) (by kernel_rfl) (fun _ _ _ h => h) (Or.inl ⟨by kernel_rfl, ?h1b⟩) hS ?_
                case h1b => (rintro w9 ⟨e0, e1, e2, e3⟩; go_simp; try with_reducible rfl)
                refine wpAnyH_take (i := 2) (v := ?v2b) rfl (by kernel_rfl) (by kernel_rfl) (by kernel_rfl) (fun _ _ _ h => h) (Or.inl ⟨by kernel_rfl, ?h2b⟩) hS ?_
                case h2b => (rintro w9 ⟨e0, e1, e2, e3⟩; go_simp; try with_reducible rfl)
                refine wpAnyH_take (i := 3) (v := ?v3b) rfl (by kernel_rfl) (by kernel_rfl) (by kernel_rfl) (fun _ _ _ h => h) (Or.inl ⟨by kernel_rfl, ?h3b⟩) hS ?_
                case h3b => (rintro w9 ⟨e0, e1, e2, e3⟩; go_simp; try with_reducible rfl)
                refine wpAnyH_take (i := 4) (v := ?v4b) rfl (by kernel_rfl) (by kernel_rfl) (by kernel_rfl) (fun _ _ _ h => h) (Or.inl ⟨by kernel_rfl, ?h4b⟩) hS ?_
                case h4b => (rintro w9 ⟨e0, e1, e2, e3⟩; go_simp; try with_reducible rfl)
                refine wpAnyH_take (i := 5) (v := ?v5b) rfl (by kernel_rfl) (by kernel_rfl) (by kernel_rfl) (fun _ _ _ h => h) (Or.inl ⟨by kernel_rfl, ?h5b⟩) hS ?_
                case h5b => (rintro w9 ⟨e0, e1, e2, e3⟩; go_simp; try with_reducible rfl)
                refine wpAnyH_take (i := 6) (v := ?v6b) rfl (by kernel_rfl) (by kernel_rfl) (by kernel_rfl) (fun _ _ _ h => h) (Or.inl ⟨by kernel_rfl, ?h6b⟩) hS ?_
                case h6b => (rintro w9 ⟨e0, e1, e2, e3⟩; go_simp; try with_reducible rfl)
                refine wpAnyH_take (i := 7) (v := ?v7b) rfl (by kernel_rfl) (by kernel_rfl) (by kernel_rfl) (fun _ _ _ h => h) (Or.inl ⟨by kernel_rfl, ?h7b⟩) hS ?_
                case h7b => (rintro w9 ⟨e0, e1, e2, e3⟩; go_simp; try with_reducible rfl)
                refine wpAnyH_take (i := 8) (v := ?v8b) rfl (by kernel_rfl) (by kernel_rfl) (by kernel_rfl) (fun _ _ _ h => h) (Or.inl ⟨by kernel_rfl, ?h8b⟩) hS ?_
                case h8b => (rintro w9 ⟨e0, e1, e2, e3⟩; go_simp; try with_reducible rfl)
                refine wpAnyH_take (i := 9) (v := ?v9b) rfl (by kernel_rfl) (by kernel_rfl) (by kernel_rfl) (fun _ _ _ h => h) (Or.inl ⟨by kernel_rfl, ?h9b⟩) hS ?_
                case h9b => (rintro w9 ⟨e0, e1, e2, e3⟩; go_simp; try with_reducible rfl)
                refine wpAnyH_done (by kernel_rfl) ?_ _
                go_simp
                go_wp2_with fail
                refine wp_region_held_drew (S := E4 v3.heap.size ad9 k y1 y2) (by kernel_rfl) (show E4 v3.heap.size ad9 k y1 y2 ((v3.alloc (.cells #[.int .i64 y1, .int .i64 y2] 25)).drew).drew from HS4.out) (fun hS => ?_)
                refine wpAnyH_take (i := 0) (v := ?v0c) rfl (by kernel_rfl) (by kernel_rfl) (by kernel_rfl) (fun _ _ _ h => h) (Or.inl ⟨by kernel_rfl, ?h0c⟩) hS ?_
                case h0c => (rintro w9 ⟨e0, e1, e2, e3⟩; go_simp; try with_reducible rfl)
                refine wpAnyH_take (i := 1) (v := ?v1c) rfl (by kernel_rfl) (by kernel_rfl) (by kernel_rfl) (fun _ _ _ h => h) (Or.inl ⟨by kernel_rfl, ?h1c⟩) hS ?_
                case h1c => (rintro w9 ⟨e0, e1, e2, e3⟩; go_simp; try with_reducible rfl)
                refine wpAnyH_take (i := 2) (v := ?v2c) rfl (by kernel_rfl) (by kernel_rfl) (by kernel_rfl) (fun _ _ _ h => h) (Or.inl ⟨by kernel_rfl, ?h2c⟩) hS ?_
                case h2c => (rintro w9 ⟨e0, e1, e2, e3⟩; go_simp; try with_reducible rfl)
                refine wpAnyH_take (i := 3) (v := ?v3c) rfl (by kernel_rfl) (by kernel_rfl) (by kernel_rfl) (fun _ _ _ h => h) (Or.inl ⟨by kernel_rfl, ?h3c⟩) hS ?_
                case h3c => (rintro w9 ⟨e0, e1, e2, e3⟩; go_simp; try with_reducible rfl)
                refine wpAnyH_take (i := 4) (v := ?v4c) rfl (by kernel_rfl) (by kernel_rfl) (by kernel_rfl) (fun _ _ _ h => h) (Or.inl ⟨by kernel_rfl, ?h4c⟩) hS ?_
                case h4c => (rintro w9 ⟨e0, e1, e2, e3⟩; go_simp; try with_reducible rfl)
                refine wpAnyH_take (i := 5) (v := ?v5c) rfl (by kernel_rfl) (by kernel_rfl) (by kernel_rfl) (fun _ _ _ h => h) (Or.inl ⟨by kernel_rfl, ?h5c⟩) hS ?_
                case h5c => (rintro w9 ⟨e0, e1, e2, e3⟩; go_simp; try with_reducible rfl)
                refine wpAnyH_take (i := 6) (v := ?v6c) rfl (by kernel_rfl) (by kernel_rfl) (by kernel_rfl) (fun _ _ _ h => h) (Or.inl ⟨by kernel_rfl, ?h6c⟩) hS ?_
                case h6c => (rintro w9 ⟨e0, e1, e2, e3⟩; go_simp; try with_reducible rfl)
                refine wpAnyH_take (i := 7) (v := ?v7c) rfl (by kernel_rfl) (by kernel_rfl) (by kernel_rfl) (fun _ _ _ h => h) (Or.inl ⟨by kernel_rfl, ?h7c⟩) hS ?_
                case h7c => (rintro w9 ⟨e0, e1, e2, e3⟩; go_simp; try with_reducible rfl)
                refine wpAnyH_take (i := 8) (v := ?v8c) rfl (by kernel_rfl) (by kernel_rfl) (by kernel_rfl) (fun _ _ _ h => h) (Or.inl ⟨by kernel_rfl, ?h8c⟩) hS ?_
                case h8c => (rintro w9 ⟨e0, e1, e2, e3⟩; go_simp; try with_reducible rfl)
                refine wpAnyH_ready (rs := [9]) (by kernel_rfl) (by simp) (AllReadyH.cons rfl (fun K hK => ?_) AllReadyH.nil)
                go_simp
                go_wp2_with (go_at_call 22; refine (between_any _ L y1 y2 y1 y2 _ (((HP4.out.later ((Below.refl _ _).drew)).later ((Below.refl _ _).drew)).o) (by omega)).mono ?_; rw [HBSF.out]; rintro e v5 ⟨⟨b5, rfl, hown5⟩, hB5⟩)
                have hV5 := HV4.out.trans (((((Below.refl (v3.alloc (.cells #[.int .i64 y1, .int .i64 y2] 25)).heap.size (v3.alloc (.cells #[.int .i64 y1, .int .i64 y2] 25))).drew).drew).trans hB5).mono HV4.out.size)
                refine hK.out _ _ (show E4 v3.heap.size ad9 k y1 y2 v5 from ⟨(hB5.cell (p := ⟨v3.heap.size, 0, none⟩) htl).trans t0, (hB5.cell (p := ⟨v3.heap.size, 1, none⟩) htl).trans t1, HRD.out _ hV5⟩) (fun hS2 => ?_); clear hK K
                refine wpAnyH_take (i := 10) (v := ?v10c) rfl (by kernel_rfl) (by kernel_rfl) (by kernel_rfl) (fun _ _ _ h => h) (Or.inl ⟨by kernel_rfl, ?h10c⟩) hS2 ?_
                case h10c => (rintro w9 ⟨e0, e1, e2, e3⟩; go_simp; try with_reducible rfl)
                refine wpAnyH_done (by kernel_rfl) ?_ _
                go_simp
                obtain ⟨r2, r3⟩ := HRD.out _ hV5
                have HP5 := Lib.hid (((HP4.out.later ((Below.refl _ _).drew)).later ((Below.refl _ _).drew)).later hB5)
                have HV5 := Lib.hid hV5
                have HO5 := Lib.hid (ids_of_own (l := [(y1, y2)]) hown5)
                clear hB5 hV5 hown5 hS hS2 HS4 HP4 HV4
                go_wp2_with fail
                refine (same_ids b5 _ [(y1, y2)] [(y1, y2)] _ (HO5.out.below ((Below.refl _ _).alloc (Nat.le_refl _) _)) (ids1 _ _ (by simp) y1 y2) (by simp)).mono ?_
                rw [show decide ([(y1, y2)] = [(y1, y2)]) = true from decide_eq_true rfl]
                rintro e v6 ⟨rfl, hB⟩
                have HP6 := Lib.hid ((HP5.out.later ((Below.refl _ _).alloc (Nat.le_refl _) (.cells #[.int .i64 y1, .int .i64 y2] 25))).later hB)
                have hb5 : Below v5.heap.size v5 (v5.alloc (.cells #[.int .i64 y1, .int .i64 y2] 25)) := (Below.refl _ _).alloc (Nat.le_refl _) _
                have HV6 := Lib.hid ((HV5.out.trans (hb5.mono HV5.out.size)).trans (hB.mono (Nat.le_trans HV5.out.size hb5.size)))
                clear hB hb5 r2 r3
                go_wp2_with fail
                exact ⟨⟨k + 1, by omega, by simp, HP6.out, HV6.out⟩, by simp [intOf]; omega⟩
              · obtain rfl : k = M.length := by omega
                have hlt2 : ¬ (↑M.length : Int) < ↑M.length := by omega
                have HW := Lib.hid (HV1.out.trans (HVR.out.mono hz1))
                have HE8 : Hid (E5 s2 ad (q + 1) c0 q p1 p2 o1 o2 wr.drew) := Lib.hid (HE.out _ HW.out.drew)
                go_wp2_with fail
                refine wp_region_held_drew (S := E5 s2 ad (q + 1) c0 q p1 p2 o1 o2) (by kernel_rfl) HE8.out (fun hS => ?_)
                refine wpAnyH_take (i := 0) (v := ?v0d) rfl (by kernel_rfl) (by kernel_rfl) (by kernel_rfl) (fun _ _ _ h => h) (Or.inl ⟨by kernel_rfl, ?h0d⟩) hS ?_
                case h0d => (rintro w9 ⟨e0, e1, e2, e3, e4⟩; go_simp; try with_reducible rfl)
                refine wpAnyH_take (i := 1) (v := ?v1d) rfl (by kernel_rfl) (by kernel_rfl) (by kernel_rfl) (fun _ _ _ h => h) (Or.inl ⟨by kernel_rfl, ?h1d⟩) hS ?_
                case h1d => (rintro w9 ⟨e0, e1, e2, e3, e4⟩; go_simp; try with_reducible rfl)
                refine wpAnyH_take (i := 2) (v := ?v2d) rfl (by kernel_rfl) (by kernel_rfl) (by kernel_rfl) (fun _ _ _ h => h) (Or.inl ⟨by kernel_rfl, ?h2d⟩) hS ?_
                case h2d => (rintro w9 ⟨e0, e1, e2, e3, e4⟩; go_simp; try with_reducible rfl)
                refine wpAnyH_take (i := 3) (v := ?v3d) rfl (by kernel_rfl) (by kernel_rfl) (by kernel_rfl) (fun _ _ _ h => h) (Or.inl ⟨by kernel_rfl, ?h3d⟩) hS ?_
                case h3d => (rintro w9 ⟨e0, e1, e2, e3, e4⟩; go_simp; try with_reducible rfl)
                refine wpAnyH_take (i := 4) (v := ?v4d) rfl (by kernel_rfl) (by kernel_rfl) (by kernel_rfl) (fun _ _ _ h => h) (Or.inl ⟨by kernel_rfl, ?h4d⟩) hS ?_
                case h4d => (rintro w9 ⟨e0, e1, e2, e3, e4⟩; go_simp; try with_reducible rfl)
                refine wpAnyH_take (i := 5) (v := ?v5d) rfl (by kernel_rfl) (by kernel_rfl) (by kernel_rfl) (fun _ _ _ h => h) (Or.inl ⟨by kernel_rfl, ?h5d⟩) hS ?_
                case h5d => (rintro w9 ⟨e0, e1, e2, e3, e4⟩; go_simp; try with_reducible rfl)
                refine wpAnyH_take (i := 6) (v := ?v6d) rfl (by kernel_rfl) (by kernel_rfl) (by kernel_rfl) (fun _ _ _ h => h) (Or.inl ⟨by kernel_rfl, ?h6d⟩) hS ?_
                case h6d => (rintro w9 ⟨e0, e1, e2, e3, e4⟩; go_simp; try with_reducible rfl)
                refine wpAnyH_take (i := 7) (v := ?v7d) rfl (by kernel_rfl) (by kernel_rfl) (by kernel_rfl) (fun _ _ _ h => h) (Or.inl ⟨by kernel_rfl, ?h7d⟩) hS ?_
                case h7d => (rintro w9 ⟨e0, e1, e2, e3, e4⟩; go_simp; try with_reducible rfl)
                refine wpAnyH_take (i := 8) (v := ?v8d) rfl (by kernel_rfl) (by kernel_rfl) (by kernel_rfl) (fun _ _ _ h => h) (Or.inl ⟨by kernel_rfl, ?h8d⟩) hS ?_
                case h8d => (rintro w9 ⟨e0, e1, e2, e3, e4⟩; go_simp; try with_reducible rfl)
                refine wpAnyH_take (i := 9) (v := ?v9d) rfl (by kernel_rfl) (by kernel_rfl) (by kernel_rfl) (fun _ _ _ h => h) (Or.inl ⟨by kernel_rfl, ?h9d⟩) hS ?_
                case h9d => (rintro w9 ⟨e0, e1, e2, e3, e4⟩; go_simp; try with_reducible rfl)
                refine wpAnyH_take (i := 10) (v := ?v10d) rfl (by kernel_rfl) (by kernel_rfl) (by kernel_rfl) (fun _ _ _ h => h) (Or.inl ⟨by kernel_rfl, ?h10d⟩) hS ?_
                case h10d => (rintro w9 ⟨e0, e1, e2, e3, e4⟩; go_simp; try with_reducible rfl)
                refine wpAnyH_take (i := 11) (v := ?v11d) rfl (by kernel_rfl) (by kernel_rfl) (by kernel_rfl) (fun _ _ _ h => h) (Or.inl ⟨by kernel_rfl, ?h11d⟩) hS ?_
                case h11d => (rintro w9 ⟨e0, e1, e2, e3, e4⟩; go_simp; try with_reducible rfl)
                refine wpAnyH_ready (rs := [12]) (by kernel_rfl) (by simp) (AllReadyH.cons rfl (fun K hK => ?_) AllReadyH.nil)
                go_simp
                refine hK.out _ _ (HE.out _ ((HW.out.drew).alloc HW.out.size _)) (fun hS12 => ?_); clear hK K
                refine wpAnyH_ready (rs := [13]) (by kernel_rfl) (by simp) (AllReadyH.cons rfl (fun K hK => ?_) AllReadyH.nil)
                go_simp
                refine hK.out _ _ (HE.out _ ((HW.out.alloc HW.out.size _).drew)) (fun hS13 => ?_); clear hK K
                refine wpAnyH_done (by kernel_rfl) ?_ _
                go_simp
                have hW8 := (HW.out.alloc HW.out.size (.cells #[.int .i64 p1, .int .i64 p2] 25)).drew
                have hbx : IdBox (wr.alloc (.cells #[.int .i64 p1, .int .i64 p2] 25)).drew wr.heap.size (p1, p2) := IdBox.new wr p1 p2
                have hv8 := (HVR.out.alloc HVR.out.size (.cells #[.int .i64 p1, .int .i64 p2] 25)).drew
                obtain ⟨W8, hw8⟩ : ∃ W8, (wr.alloc (.cells #[.int .i64 p1, .int .i64 p2] 25)).drew = W8 := ⟨_, rfl⟩
                rw [hw8] at hW8 hbx hv8 ⊢
                have hz9 : B ≤ W8.heap.size := Nat.le_trans hz hW8.size
                have hgz := HW.out.size
                obtain ⟨g8, hg8⟩ : ∃ g, wr.heap.size = g := ⟨_, rfl⟩
                rw [hg8] at hbx hgz ⊢
                have HW8 := Lib.hid hW8
                have HB8 := Lib.hid hbx
                have HO8 := Lib.hid (own_later HOWN.out hv8)
                have hx5 := HXS0.out _ (HBR.out.trans (hW8.mono hz))
                have HX5 := Lib.hid hx5
                have HBF := Lib.hid (HBS.out _ (HBR.out.trans (hW8.mono hz)))
                have G1 := Lib.hid (HG1.out.later hW8)
                have G2 := Lib.hid (HG2.out.later hW8)
                have gl8 : ∀ b, S1 b ∨ S2 b → b < W8.heap.size := fun b hb => Nat.lt_of_lt_of_le (HGL.out b hb) hW8.size
                obtain ⟨t0, t1, _⟩ := id hbx
                obtain ⟨y0, y1, _⟩ := id hx5
                simp only at t0 t1 y0 y1
                clear hS hS12 hS13 HE8 hW8 hw8 hv8 hg8 hbx hx5
                obtain ⟨r, hr⟩ : ∃ r, insR L (p1, p2) (x1, x2) = r := ⟨_, rfl⟩
                obtain ⟨m, hm⟩ : ∃ m, insL L (p1, p2) (x1, x2) = m := ⟨_, rfl⟩
                have HRr := Lib.hid hr
                have HML := Lib.hid hm
                have hm9 : m.length ≤ 100000 := by
                  rw [← hm]; unfold insL; split
                  · rw [insE_len _ (insAt_le _)]; omega
                  · omega
                by_cases hr0 : r = 0
                · subst hr0
                  obtain ⟨hb1, hb2⟩ := ends_math HON.out HNZ.out HI0.out HIQ.out HQ.out HRr.out
                  rw [hm, HM.out] at hb1 hb2
                  have HBA := Lib.hid hb1
                  have HBB := Lib.hid hb2
                  clear hr hm hb1 hb2
                  go_wp2_with fail
                  refine (insert_is G1.out (by omega) HRr.out HML.out).mono ?_
                  rintro e w9 ⟨rfl, hA, hO⟩
                  obtain ⟨hp9, hb9⟩ := Pair.ax (B := B) G2.out HGD.out HGB.out gl8 hz9 hA hO
                  have hn1 : ¬ S1 g8 := fun hc => by have := HGL.out _ (.inl hc); omega
                  have hn5 : ¬ S1 w.heap.size := fun hc => by have := HGB.out _ (.inl hc); omega
                  have B9 := HB8.out.only hO hn1
                  have X9 := HX5.out.only hO hn5
                  have O9 := own_only HO8.out hO (fun b h1 h2 => by have := HGL.out _ (.inl h2); omega)
                  have hR9 := hp9.r
                  have HP9 := Lib.hid hp9
                  have HI9 := Lib.hid (ids_of_own O9)
                  have HF9 := Lib.hid (HBF.out.trans (hb9.mono (by omega)))
                  obtain ⟨c1, ad1, hcc1, hE1⟩ := hR9.e5 HQ.out HL0.out HLQ.out
                  obtain ⟨d0, _, _, d1, d2⟩ := hE1
                  obtain ⟨k0, k1, kl⟩ := B9
                  obtain ⟨m0, m1, ml⟩ := X9
                  simp only at k0 k1 m0 m1
                  have hi9 : (0 : Int) < ↑q + 1 := by omega
                  have hwm : IntKind.i64.wrap ((M.length : Int) + 1) = (M.length : Int) + 1 := by rw [IntKind.wrap_i64]; omega
                  have hc9 : (↑q : Int) + 1 ≤ ↑c1 := by omega
                  have HS9 : Hid (E8 s2 ad1 (q + 1) c1 o1 o2 g8 p1 p2 w.heap.size x1 x2 w9.drew) := Lib.hid ⟨d0, d1, d2, k0, k1, m0, m1⟩
                  clear hA hO hp9 hb9 O9 hR9 t0 t1 y0 y1
                  go_wp2_with fail
                  refine wp_region_held_drew (S := E8 s2 ad1 (q + 1) c1 o1 o2 g8 p1 p2 w.heap.size x1 x2) (by kernel_rfl) HS9.out (fun hS => ?_)
                  refine wpAnyH_take (i := 0) (v := ?v0e) rfl (by kernel_rfl) (by kernel_rfl) (by kernel_rfl) (fun _ _ _ h => h) (Or.inl ⟨by kernel_rfl, ?h0e⟩) hS ?_
                  case h0e => (rintro w9 ⟨e0, e1, e2, e3, e4, e5, e6⟩; go_simp; try with_reducible rfl)
                  refine wpAnyH_take (i := 1) (v := ?v1e) rfl (by kernel_rfl) (by kernel_rfl) (by kernel_rfl) (fun _ _ _ h => h) (Or.inl ⟨by kernel_rfl, ?h1e⟩) hS ?_
                  case h1e => (rintro w9 ⟨e0, e1, e2, e3, e4, e5, e6⟩; go_simp; try with_reducible rfl)
                  refine wpAnyH_take (i := 2) (v := ?v2e) rfl (by kernel_rfl) (by kernel_rfl) (by kernel_rfl) (fun _ _ _ h => h) (Or.inl ⟨by kernel_rfl, ?h2e⟩) hS ?_
                  case h2e => (rintro w9 ⟨e0, e1, e2, e3, e4, e5, e6⟩; go_simp; try with_reducible rfl)
                  refine wpAnyH_take (i := 3) (v := ?v3e) rfl (by kernel_rfl) (by kernel_rfl) (by kernel_rfl) (fun _ _ _ h => h) (Or.inl ⟨by kernel_rfl, ?h3e⟩) hS ?_
                  case h3e => (rintro w9 ⟨e0, e1, e2, e3, e4, e5, e6⟩; go_simp; try with_reducible rfl)
                  refine wpAnyH_take (i := 4) (v := ?v4e) rfl (by kernel_rfl) (by kernel_rfl) (by kernel_rfl) (fun _ _ _ h => h) (Or.inl ⟨by kernel_rfl, ?h4e⟩) hS ?_
                  case h4e => (rintro w9 ⟨e0, e1, e2, e3, e4, e5, e6⟩; go_simp; try with_reducible rfl)
                  refine wpAnyH_take (i := 5) (v := ?v5e) rfl (by kernel_rfl) (by kernel_rfl) (by kernel_rfl) (fun _ _ _ h => h) (Or.inl ⟨by kernel_rfl, ?h5e⟩) hS ?_
                  case h5e => (rintro w9 ⟨e0, e1, e2, e3, e4, e5, e6⟩; go_simp; try with_reducible rfl)
                  refine wpAnyH_take (i := 6) (v := ?v6e) rfl (by kernel_rfl) (by kernel_rfl) (by kernel_rfl) (fun _ _ _ h => h) (Or.inl ⟨by kernel_rfl, ?h6e⟩) hS ?_
                  case h6e => (rintro w9 ⟨e0, e1, e2, e3, e4, e5, e6⟩; go_simp; try with_reducible rfl)
                  refine wpAnyH_take (i := 7) (v := ?v7e) rfl (by kernel_rfl) (by kernel_rfl) (by kernel_rfl) (fun _ _ _ h => h) (Or.inl ⟨by kernel_rfl, ?h7e⟩) hS ?_
                  case h7e => (rintro w9 ⟨e0, e1, e2, e3, e4, e5, e6⟩; go_simp; try with_reducible rfl)
                  refine wpAnyH_take (i := 9) (v := ?v9e) rfl (by kernel_rfl) (by kernel_rfl) (by kernel_rfl) (fun _ _ _ h => h) (Or.inl ⟨by kernel_rfl, ?h9e⟩) hS ?_
                  case h9e => (rintro w9 ⟨e0, e1, e2, e3, e4, e5, e6⟩; go_simp; try with_reducible rfl)
                  refine wpAnyH_ready (rs := [8]) (by kernel_rfl) (by simp) (AllReadyH.cons rfl (fun K hK => ?_) AllReadyH.nil)
                  go_simp
                  go_wp2_with (go_at_call 22; refine (between_any _ m o1 o2 p1 p2 w9.drew (HP9.out.later ((Below.refl w9.heap.size w9).drew)).o hm9).mono ?_; rw [HBA.out]; rintro e u1 ⟨⟨b6, rfl, hown6⟩, hB6⟩)
                  have hU1 : Below w9.heap.size w9 u1 := ((Below.refl w9.heap.size w9).drew).trans hB6
                  refine hK.out _ _ (hS.later hB6) (fun hS8 => ?_); clear hK K
                  refine wpAnyH_ready (rs := [10]) (by kernel_rfl) (by simp) (AllReadyH.cons rfl (fun K hK => ?_) AllReadyH.nil)
                  go_simp
                  go_wp2_with (go_at_call 23; refine (same_ids b6 _ M M u1 (ids_of_own hown6) (HI9.out.below hU1) (by omega)).mono ?_; rw [show decide (M = M) = true from decide_eq_true rfl]; rintro e u2 ⟨rfl, hB7⟩)
                  have hU2 : Below w9.heap.size w9 u2 := hU1.trans (hB7.mono hU1.size)
                  refine hK.out _ _ (hS8.later hB7) (fun hS10 => ?_); clear hK K
                  refine wpAnyH_take (i := 11) (v := ?v11f) rfl (by kernel_rfl) (by kernel_rfl) (by kernel_rfl) (fun _ _ _ h => h) (Or.inl ⟨by kernel_rfl, ?h11f⟩) hS10 ?_
                  case h11f => (rintro w9 ⟨e0, e1, e2, e3, e4, e5, e6⟩; go_simp; try with_reducible rfl)
                  refine wpAnyH_take (i := 12) (v := ?v12f) rfl (by kernel_rfl) (by kernel_rfl) (by kernel_rfl) (fun _ _ _ h => h) (Or.inl ⟨by kernel_rfl, ?h12f⟩) hS10 ?_
                  case h12f => (rintro w9 ⟨e0, e1, e2, e3, e4, e5, e6⟩; go_simp; try with_reducible rfl)
                  refine wpAnyH_take (i := 13) (v := ?v13f) rfl (by kernel_rfl) (by kernel_rfl) (by kernel_rfl) (fun _ _ _ h => h) (Or.inl ⟨by kernel_rfl, ?h13f⟩) hS10 ?_
                  case h13f => (rintro w9 ⟨e0, e1, e2, e3, e4, e5, e6⟩; go_simp; try with_reducible rfl)
                  refine wpAnyH_take (i := 14) (v := ?v14f) rfl (by kernel_rfl) (by kernel_rfl) (by kernel_rfl) (fun _ _ _ h => h) (Or.inl ⟨by kernel_rfl, ?h14f⟩) hS10 ?_
                  case h14f => (rintro w9 ⟨e0, e1, e2, e3, e4, e5, e6⟩; go_simp; try with_reducible rfl)
                  refine wpAnyH_take (i := 15) (v := ?v15f) rfl (by kernel_rfl) (by kernel_rfl) (by kernel_rfl) (fun _ _ _ h => h) (Or.inl ⟨by kernel_rfl, ?h15f⟩) hS10 ?_
                  case h15f => (rintro w9 ⟨e0, e1, e2, e3, e4, e5, e6⟩; go_simp; try with_reducible rfl)
                  refine wpAnyH_take (i := 16) (v := ?v16f) rfl (by kernel_rfl) (by kernel_rfl) (by kernel_rfl) (fun _ _ _ h => h) (Or.inl ⟨by kernel_rfl, ?h16f⟩) hS10 ?_
                  case h16f => (rintro w9 ⟨e0, e1, e2, e3, e4, e5, e6⟩; go_simp; try with_reducible rfl)
                  refine wpAnyH_take (i := 17) (v := ?v17f) rfl (by kernel_rfl) (by kernel_rfl) (by kernel_rfl) (fun _ _ _ h => h) (Or.inl ⟨by kernel_rfl, ?h17f⟩) hS10 ?_
                  case h17f => (rintro w9 ⟨e0, e1, e2, e3, e4, e5, e6⟩; go_simp; try with_reducible rfl)
                  refine wpAnyH_take (i := 18) (v := ?v18f) rfl (by kernel_rfl) (by kernel_rfl) (by kernel_rfl) (fun _ _ _ h => h) (Or.inl ⟨by kernel_rfl, ?h18f⟩) hS10 ?_
                  case h18f => (rintro w9 ⟨e0, e1, e2, e3, e4, e5, e6⟩; go_simp; try with_reducible rfl)
                  refine wpAnyH_take (i := 19) (v := ?v19f) rfl (by kernel_rfl) (by kernel_rfl) (by kernel_rfl) (fun _ _ _ h => h) (Or.inl ⟨by kernel_rfl, ?h19f⟩) hS10 ?_
                  case h19f => (rintro w9 ⟨e0, e1, e2, e3, e4, e5, e6⟩; go_simp; try with_reducible rfl)
                  refine wpAnyH_take (i := 22) (v := ?v22f) rfl (by kernel_rfl) (by kernel_rfl) (by kernel_rfl) (fun _ _ _ h => h) (Or.inl ⟨by kernel_rfl, ?h22f⟩) hS10 ?_
                  case h22f => (rintro w9 ⟨e0, e1, e2, e3, e4, e5, e6⟩; go_simp; try with_reducible rfl)
                  refine wpAnyH_take (i := 23) (v := ?v23f) rfl (by kernel_rfl) (by kernel_rfl) (by kernel_rfl) (fun _ _ _ h => h) (Or.inl ⟨by kernel_rfl, ?h23f⟩) hS10 ?_
                  case h23f => (rintro w9 ⟨e0, e1, e2, e3, e4, e5, e6⟩; go_simp; try with_reducible rfl)
                  refine wpAnyH_take (i := 24) (v := ?v24f) rfl (by kernel_rfl) (by kernel_rfl) (by kernel_rfl) (fun _ _ _ h => h) (Or.inl ⟨by kernel_rfl, ?h24f⟩) hS10 ?_
                  case h24f => (rintro w9 ⟨e0, e1, e2, e3, e4, e5, e6⟩; go_simp; try with_reducible rfl)
                  refine wpAnyH_ready (rs := [20]) (by kernel_rfl) (by simp) (AllReadyH.cons rfl (fun K hK => ?_) AllReadyH.nil)
                  go_simp
                  go_wp2_with (go_at_call 22; refine (between_any _ m o1 o2 x1 x2 u2 (HP9.out.later hU2).o hm9).mono ?_; rw [HBB.out]; rintro e u3 ⟨⟨b7, rfl, hown7⟩, hB8⟩)
                  obtain ⟨A7, c7, rfl⟩ := own_shape hown7
                  refine hK.out _ _ (hS10.later hB8) (fun hS20 => ?_); clear hK K
                  refine wpAnyH_take (i := 21) (v := ?v21g) rfl (by kernel_rfl) (by kernel_rfl) (by kernel_rfl) (fun _ _ _ h => h) (Or.inl ⟨by kernel_rfl, ?h21g⟩) hS20 ?_
                  case h21g => (rintro w9 ⟨e0, e1, e2, e3, e4, e5, e6⟩; go_simp; try with_reducible rfl)
                  refine wpAnyH_take (i := 25) (v := ?v25g) rfl (by kernel_rfl) (by kernel_rfl) (by kernel_rfl) (fun _ _ _ h => h) (Or.inl ⟨by kernel_rfl, ?h25g⟩) hS20 ?_
                  case h25g => (rintro w9 ⟨e0, e1, e2, e3, e4, e5, e6⟩; go_simp; try with_reducible rfl)
                  refine wpAnyH_take (i := 26) (v := ?v26g) rfl (by kernel_rfl) (by kernel_rfl) (by kernel_rfl) (fun _ _ _ h => h) (Or.inl ⟨by kernel_rfl, ?h26g⟩) hS20 ?_
                  case h26g => (rintro w9 ⟨e0, e1, e2, e3, e4, e5, e6⟩; go_simp; try with_reducible rfl)
                  refine wpAnyH_take (i := 27) (v := ?v27g) rfl (by kernel_rfl) (by kernel_rfl) (by kernel_rfl) (fun _ _ _ h => h) (Or.inl ⟨by kernel_rfl, ?h27g⟩) hS20 ?_
                  case h27g => (rintro w9 ⟨e0, e1, e2, e3, e4, e5, e6⟩; go_simp; try with_reducible rfl)
                  have HFF := Lib.hid (HF9.out.trans ((hU2.trans (hB8.mono hU2.size)).mono (by have := HF9.out.size; omega)))
                  refine wpAnyH_done (by kernel_rfl) ?_ _
                  go_simp
                  go_wp2
                  go_ret
                  exact ⟨rfl, HFF.out⟩
                · have hr1 : (r == 0) = false := by simpa using hr0
                  have hr2 : (r != 0) = true := by simpa using hr0
                  clear hr hm hr0
                  go_wp2_with fail
                  refine (insert_is G1.out (by omega) HRr.out HML.out).mono ?_
                  rintro e w9 ⟨rfl, hA, hO⟩
                  obtain ⟨_, hb9⟩ := Pair.ax (B := B) G2.out HGD.out HGB.out gl8 hz9 hA hO
                  have HF9 := Lib.hid (HBF.out.trans (hb9.mono (by omega)))
                  clear hA hO hb9
                  go_wp2
                  go_ret
                  exact ⟨rfl, HF9.out⟩
    · have hdt : (60 : Int) < ↑ds.length := by omega
      go_wp2
      go_ret
      exact ⟨rfl, HB1.out⟩
  · have hlt : (100 : Int) < ↑ids.length := by omega
    go_wp2
    go_ret
    exact ⟨rfl, HB1.out⟩
theorem ends_law {w : World} (u : Value) (ids : List IdP) (hu : IdsAt w u ids) (hs : SmallI ids) (dv : Value) (ds : List DeedP) (hd : DeedsAt w dv ds) (_ : True) (p : IdP) (_ : Wf p) :
    Calls Try.prog 9 #[u, dv, idV p] w fun e w' => e = .returned (.bool true) ∧ Below w.heap.size w w' := ends_law0 u ids hu hs dv ds hd p.1 p.2
end Go.Proofs.Ytngomgjhakgehaa
