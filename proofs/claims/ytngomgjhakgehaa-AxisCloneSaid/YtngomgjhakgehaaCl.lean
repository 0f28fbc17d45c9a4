/- The nil axis; Clone; a deed on both axes that keeps what is another's (K). -/
import Derived.Test.YtngomgjhakgehaaEd
import Derived.Test.YtngomgjhakgehaaSb
namespace Go.Proofs.Ytngomgjhakgehaa
open Go.RowKit Go.Maps

theorem turn_nil (a n : Int) (live : Bool) (w : World) : Calls Try.prog 35 #[.pointer none, .agg #[.int .i64 a, .int .i64 n], .bool live] w fun e w' => e = .returned (.int .i64 1) ∧ Below w.heap.size w w' := by
  have hb0 : Below w.heap.size w (w.alloc (.cells #[.int .i64 a, .int .i64 n] 25)) := (Below.refl _ _).alloc (Nat.le_refl _) _
  have HB0 := Lib.hid hb0
  clear hb0
  go_enter Try.func35, Try.ntmps35
  go_wp2
  go_ret
  exact ⟨rfl, HB0.out⟩
theorem delete_nil (a n : Int) (w : World) : Calls Try.prog 25 #[.pointer none, .agg #[.int .i64 a, .int .i64 n]] w fun e w' => e = .returned (.int .i64 1) ∧ Below w.heap.size w w' := by
  have hb0 : Below w.heap.size w (w.alloc (.cells #[.int .i64 a, .int .i64 n] 25)) := (Below.refl _ _).alloc (Nat.le_refl _) _
  have HB0 := Lib.hid hb0
  obtain ⟨k0, k1, _⟩ := IdBox.new w a n
  simp only at k0 k1
  clear hb0
  go_enter Try.func25, Try.ntmps25
  go_wp2_with fail
  refine (turn_nil a n false _).mono ?_
  rintro e w2 ⟨rfl, hB⟩
  have HB := Lib.hid (HB0.out.trans (hB.mono HB0.out.size))
  clear hB k0 k1
  go_wp2
  go_ret
  exact ⟨rfl, HB.out⟩
theorem revive_nil (a n : Int) (w : World) : Calls Try.prog 26 #[.pointer none, .agg #[.int .i64 a, .int .i64 n]] w fun e w' => e = .returned (.int .i64 1) ∧ Below w.heap.size w w' := by
  have hb0 : Below w.heap.size w (w.alloc (.cells #[.int .i64 a, .int .i64 n] 25)) := (Below.refl _ _).alloc (Nat.le_refl _) _
  have HB0 := Lib.hid hb0
  obtain ⟨k0, k1, _⟩ := IdBox.new w a n
  simp only at k0 k1
  clear hb0
  go_enter Try.func26, Try.ntmps26
  go_wp2_with fail
  refine (turn_nil a n true _).mono ?_
  rintro e w2 ⟨rfl, hB⟩
  have HB := Lib.hid (HB0.out.trans (hB.mono HB0.out.size))
  clear hB k0 k1
  go_wp2
  go_ret
  exact ⟨rfl, HB.out⟩
theorem insert_nil (b1 b2 x y : Int) (w : World) : Calls Try.prog 28 #[.pointer none, .agg #[.int .i64 b1, .int .i64 b2], .agg #[.int .i64 x, .int .i64 y]] w fun e w' => e = .returned (.int .i64 1) ∧ Below w.heap.size w w' := by
  have hb0 : Below w.heap.size w (((w.alloc (.cells #[.int .i64 b1, .int .i64 b2] 25)).alloc (.cells #[.int .i64 x, .int .i64 y] 25)).alloc (.cells #[.int .i64 0, .int .i64 0] 25)) := (((Below.refl _ _).alloc (Nat.le_refl _) _).alloc (by simp) _).alloc (by simp; omega) _
  have HB0 := Lib.hid hb0
  clear hb0
  go_enter Try.func28, Try.ntmps28
  go_wp2
  go_ret
  exact ⟨rfl, HB0.out⟩
/-- an axis of its own that is the same -/
theorem clone_any (p : Option Addr) (l : List Ent) (w : World) (h : AxO w p l) (hlen : l.length ≤ 100000) :
    Calls Try.prog 27 #[.pointer p] w fun e w' => ∃ q, e = .returned (.pointer (some ⟨q, 0, none⟩)) ∧ AxAt w' q (fun b => w.heap.size ≤ b) l ∧ Below w.heap.size w w' := by
  have H := Lib.hid h
  clear h
  go_enter Try.func27, Try.ntmps27
  go_wp2_with fail
  refine (entries_own p l w H.out).mono ?_
  rintro e w1 ⟨v, rfl, hl, he⟩
  subst he
  have HL := Lib.hid hl
  clear hl
  go_wp2_with fail
  refine (clone_list v l w HL.out hlen).mono ?_
  rintro e w2 ⟨v2, rfl, hl2, hb2⟩
  have hd : AxAt (w2.alloc (.cells #[v2] 54)) w2.heap.size (fun b => w.heap.size ≤ b) l := by
    refine ⟨hb2.size, v2, Boxed.new w2 54 v2, ⟨hl2.1, ?_⟩, ?_⟩
    · rcases hl2.2 with h5 | ⟨g, cap, cur, hv, h0, hg, h6⟩
      · exact .inl h5
      · exact .inr ⟨g, cap, cur, hv, Nat.zero_le _, (Below.heap_alloc w2 _ g (Array.getElem?_eq_some_iff.1 hg).1).trans hg, h6⟩
    · intro g hg
      rcases hl2.2 with ⟨rfl, _⟩ | ⟨g', cap, cur, rfl, h0, _⟩
      · cases hg
      · injection hg with hg; subst hg; exact h0
  have HD := Lib.hid hd
  have HB := Lib.hid (hb2.alloc hb2.size (.cells #[v2] 54))
  clear hd hb2
  obtain ⟨A, c, rfl⟩ : ∃ A c, v2 = .slice A l.length c := by
    rcases hl2.2 with ⟨h1, h2⟩ | ⟨g, cap, cur, h1, _⟩
    · exact ⟨none, 0, by rw [h1, h2]⟩
    · exact ⟨_, _, h1⟩
  clear hl2
  go_wp2
  go_ret
  exact ⟨_, rfl, HD.out, HB.out⟩

/-- both axes, apart, out of K -/
def PairK (K : Nat → Prop) (W : World) (s1 s2 : Nat) (l m : List Ent) : Prop := ∃ S1 S2 : Nat → Prop, AxAt W s1 S1 l ∧ RefAt W s2 S2 m ∧ (∀ b, S1 b → ¬ S2 b) ∧ (∀ b, S1 b ∨ S2 b → ¬ K b) ∧ (∀ b, S1 b ∨ S2 b → b < W.heap.size)
theorem PairK.later {K : Nat → Prop} {W W' : World} {s1 s2 : Nat} {l m : List Ent} (h : PairK K W s1 s2 l m) (hb : Below W.heap.size W W') : PairK K W' s1 s2 l m := by
  obtain ⟨S1, S2, h1, h2, hd, hB, hl⟩ := h
  exact ⟨S1, S2, h1.later hb, h2.later hb, hd, hB, fun b h => Nat.lt_of_lt_of_le (hl b h) hb.size⟩
theorem PairK.ax {K : Nat → Prop} {W W' : World} {s1 s2 : Nat} {l' m : List Ent} {S1 S2 : Nat → Prop} (h2 : RefAt W s2 S2 m) (hd : ∀ b, S1 b → ¬ S2 b) (hB : ∀ b, S1 b ∨ S2 b → ¬ K b) (hl : ∀ b, S1 b ∨ S2 b → b < W.heap.size) (hBW : ∀ b, K b → b < W.heap.size)
    (ha : AxAt W' s1 (fun k => S1 k ∨ W.heap.size ≤ k) l') (ho : Only S1 W W') : PairK K W' s1 s2 l' m ∧ Only (fun b => ¬ K b) W W' := by
  refine ⟨⟨fun b => S1 b ∨ (W.heap.size ≤ b ∧ b < W'.heap.size), S2, ha.wider (fun b h1 h2 => h1.imp id (fun h => ⟨h, h2⟩)), h2.kept ho (fun b hs _ hs1 => hd b hs1 hs), ?_, ?_, ?_⟩, ho.mono (fun b hb _ => hB b (.inl hb))⟩
  · rintro b (h | h) hs
    · exact hd b h hs
    · have := hl b (.inr hs); omega
  · rintro b ((h | h) | h)
    · exact hB b (.inl h)
    · exact fun hk => by have := hBW b hk; omega
    · exact hB b (.inr h)
  · have := ho.size
    rintro b ((h | h) | h)
    · have := hl b (.inl h); omega
    · exact h.2
    · have := hl b (.inr h); omega
theorem PairK.ref {K : Nat → Prop} {W W' : World} {s1 s2 : Nat} {l m' : List Ent} {S1 S2 : Nat → Prop} (h1 : AxAt W s1 S1 l) (hd : ∀ b, S1 b → ¬ S2 b) (hB : ∀ b, S1 b ∨ S2 b → ¬ K b) (hl : ∀ b, S1 b ∨ S2 b → b < W.heap.size) (hBW : ∀ b, K b → b < W.heap.size)
    (ha : RefAt W' s2 (fun k => S2 k ∨ W.heap.size ≤ k) m') (ho : Only S2 W W') : PairK K W' s1 s2 l m' ∧ Only (fun b => ¬ K b) W W' := by
  refine ⟨⟨S1, fun b => S2 b ∨ (W.heap.size ≤ b ∧ b < W'.heap.size), h1.kept ho (fun b hs _ hs1 => hd b hs hs1), ha.wider (fun b h1 h2 => h1.imp id (fun h => ⟨h, h2⟩)), ?_, ?_, ?_⟩, ho.mono (fun b hb _ => hB b (.inr hb))⟩
  · rintro b h (hs | hs)
    · exact hd b h hs
    · have := hl b (.inl h); omega
  · rintro b (h | h | h)
    · exact hB b (.inl h)
    · exact hB b (.inr h)
    · exact fun hk => by have := hBW b hk; omega
  · have := ho.size
    rintro b (h | h | h)
    · have := hl b (.inl h); omega
    · have := hl b (.inr h); omega
    · exact h.2

theorem onlyK {K : Nat → Prop} {w w' : World} (hb : Below w.heap.size w w') (hK : ∀ b, K b → b < w.heap.size) : Only (fun b => ¬ K b) w w' :=
  (Only.of_below hb).mono (fun b h _ hk => by have := hK b hk; omega)
set_option maxRecDepth 100000 in
set_option maxHeartbeats 6400000 in
theorem do_anyK (K : Nat → Prop) (s1 s2 : Nat) (l : List Ent) (k b1 b2 x y : Int) (w : World) (h : PairK K w s1 s2 l l) (hlen : l.length ≤ 90000) (hBw : ∀ b, K b → b < w.heap.size) (m : List Ent) (hm : deedL l ⟨k, (b1, b2), (x, y)⟩ = m) :
    Calls Try.prog 13 #[.pointer (some ⟨s1, 0, none⟩), .pointer (some ⟨s2, 0, none⟩), .agg #[.int .i64 k, .int .i64 b1, .int .i64 b2, .int .i64 x, .int .i64 y]] w fun e w' => e = .returned (.bool true) ∧ PairK K w' s1 s2 m m ∧ Only (fun b => ¬ K b) w w' := by
  have hb0 : Below w.heap.size w (w.alloc (.cells #[.int .i64 k, .int .i64 b1, .int .i64 b2, .int .i64 x, .int .i64 y] 33)) := (Below.refl _ _).alloc (Nat.le_refl _) _
  obtain ⟨w0, hw0⟩ : ∃ w0, w.alloc (.cells #[.int .i64 k, .int .i64 b1, .int .i64 b2, .int .i64 x, .int .i64 y] 33) = w0 := ⟨_, rfl⟩
  have hc0 : w0.cell? ⟨w.heap.size, 0, none⟩ = some (.int .i64 k) := by rw [← hw0]; exact (World.cell?_alloc_new _ _ _ _).trans rfl
  have hd0 : D4 w.heap.size b1 b2 x y w0.drew := by rw [← hw0]; exact ⟨(World.cell?_alloc_new _ _ _ _).trans rfl, (World.cell?_alloc_new _ _ _ _).trans rfl, (World.cell?_alloc_new _ _ _ _).trans rfl, (World.cell?_alloc_new _ _ _ _).trans rfl⟩
  obtain ⟨S1, S2, p1, p2, pd, pB, pl⟩ := h
  have hng1 : ¬ S1 w.heap.size := fun hc => by have := pl _ (.inl hc); omega
  have hng2 : ¬ S2 w.heap.size := fun hc => by have := pl _ (.inr hc); omega
  rw [hw0] at hb0
  have P0 : Hid (PairK K w0 s1 s2 l l ∧ Only (fun b => ¬ K b) w w0) := Lib.hid ⟨PairK.later ⟨S1, S2, p1, p2, pd, pB, pl⟩ hb0, (onlyK hb0 hBw)⟩
  have P1 := Lib.hid ((p1.later hb0).later (w' := w0.drew) ((Below.refl _ _).drew))
  have P2 := Lib.hid ((p2.later hb0).later (w' := w0.drew) ((Below.refl _ _).drew))
  have hz0 : w.heap.size < w0.heap.size := by rw [← hw0]; simp
  have pl0 : ∀ b, S1 b ∨ S2 b → b < w0.drew.heap.size := fun b hb => Nat.lt_trans (pl b hb) hz0
  have HB0 := Lib.hid (((onlyK hb0 hBw)).drew)
  have HD := Lib.hid hd0
  have HM := Lib.hid hm
  have HW0 := Lib.hid hw0
  clear hb0 hd0 hm p1 p2 hw0
  by_cases hk0 : k = 0
  · subst hk0
    obtain ⟨r, hr⟩ : ∃ r, insR l (b1, b2) (x, y) = r := ⟨_, rfl⟩
    have HRr := Lib.hid hr
    have HML := Lib.hid (show insL l (b1, b2) (x, y) = m by have := HM.out; unfold deedL at this; simpa using this)
    clear hr
    go_enter Try.func13, Try.ntmps13
    go_wp2_with fail
    rw [HW0.out]
    refine wp_region_held_drew (S := D4 w.heap.size b1 b2 x y) (by kernel_rfl) HD.out (fun hS => ?_)
    refine wpAnyH_take (i := 0) (v := ?v0a) rfl (by kernel_rfl) (by kernel_rfl) (by kernel_rfl) (fun _ _ _ h => h) (Or.inl ⟨by kernel_rfl, ?h0a⟩) hS ?_
    case h0a => (rintro w9 ⟨e1, e2, e3, e4⟩; go_simp; try with_reducible rfl)
    refine wpAnyH_take (i := 1) (v := ?v1a) rfl (by kernel_rfl) (by kernel_rfl) (by kernel_rfl) (fun _ _ _ h => h) (Or.inl ⟨by kernel_rfl, ?h1a⟩) hS ?_
    case h1a => (rintro w9 ⟨e1, e2, e3, e4⟩; go_simp; try with_reducible rfl)
    refine wpAnyH_take (i := 2) (v := ?v2a) rfl (by kernel_rfl) (by kernel_rfl) (by kernel_rfl) (fun _ _ _ h => h) (Or.inl ⟨by kernel_rfl, ?h2a⟩) hS ?_
    case h2a => (rintro w9 ⟨e1, e2, e3, e4⟩; go_simp; try with_reducible rfl)
    refine wpAnyH_take (i := 3) (v := ?v3a) rfl (by kernel_rfl) (by kernel_rfl) (by kernel_rfl) (fun _ _ _ h => h) (Or.inl ⟨by kernel_rfl, ?h3a⟩) hS ?_
    case h3a => (rintro w9 ⟨e1, e2, e3, e4⟩; go_simp; try with_reducible rfl)
    refine wpAnyH_take (i := 4) (v := ?v4a) rfl (by kernel_rfl) (by kernel_rfl) (by kernel_rfl) (fun _ _ _ h => h) (Or.inl ⟨by kernel_rfl, ?h4a⟩) hS ?_
    case h4a => (rintro w9 ⟨e1, e2, e3, e4⟩; go_simp; try with_reducible rfl)
    refine wpAnyH_take (i := 6) (v := ?v6a) rfl (by kernel_rfl) (by kernel_rfl) (by kernel_rfl) (fun _ _ _ h => h) (Or.inl ⟨by kernel_rfl, ?h6a⟩) hS ?_
    case h6a => (rintro w9 ⟨e1, e2, e3, e4⟩; go_simp; try with_reducible rfl)
    refine wpAnyH_take (i := 7) (v := ?v7a) rfl (by kernel_rfl) (by kernel_rfl) (by kernel_rfl) (fun _ _ _ h => h) (Or.inl ⟨by kernel_rfl, ?h7a⟩) hS ?_
    case h7a => (rintro w9 ⟨e1, e2, e3, e4⟩; go_simp; try with_reducible rfl)
    refine wpAnyH_take (i := 8) (v := ?v8a) rfl (by kernel_rfl) (by kernel_rfl) (by kernel_rfl) (fun _ _ _ h => h) (Or.inl ⟨by kernel_rfl, ?h8a⟩) hS ?_
    case h8a => (rintro w9 ⟨e1, e2, e3, e4⟩; go_simp; try with_reducible rfl)
    refine wpAnyH_take (i := 9) (v := ?v9a) rfl (by kernel_rfl) (by kernel_rfl) (by kernel_rfl) (fun _ _ _ h => h) (Or.inl ⟨by kernel_rfl, ?h9a⟩) hS ?_
    case h9a => (rintro w9 ⟨e1, e2, e3, e4⟩; go_simp; try with_reducible rfl)
    refine wpAnyH_take (i := 10) (v := ?v10a) rfl (by kernel_rfl) (by kernel_rfl) (by kernel_rfl) (fun _ _ _ h => h) (Or.inl ⟨by kernel_rfl, ?h10a⟩) hS ?_
    case h10a => (rintro w9 ⟨e1, e2, e3, e4⟩; go_simp; try with_reducible rfl)
    refine wpAnyH_ready (rs := [5]) (by kernel_rfl) (by simp) (AllReadyH.cons rfl (fun K9 hK => ?_) AllReadyH.nil)
    go_simp
    go_wp2_with (go_at_call 28; refine (insert_is P1.out (show l.length ≤ 100000 by omega) HRr.out HML.out).mono ?_; rintro e w20 ⟨rfl, hA20, hO20⟩)
    obtain ⟨hp20, hb20⟩ := PairK.ax (K := K) P2.out pd pB pl0 (fun b h => Nat.lt_trans (hBw b h) hz0) hA20 hO20
    have hz20 := hO20.size
    refine hK.out _ _ (hS.keep hO20 hng1) (fun hS1 => ?_); clear hK K9
    have q2 := P2.out.kept hO20 (fun b hs _ hs1 => pd b hs1 hs)
    refine wpAnyH_ready (rs := [11]) (by kernel_rfl) (by simp) (AllReadyH.cons rfl (fun K9 hK => ?_) AllReadyH.nil)
    go_simp
    go_wp2_with (go_at_call 30; refine (rinsert_is q2 (show l.length ≤ 100000 by omega) HRr.out HML.out).mono ?_; rintro e w21 ⟨rfl, hA21, hO21⟩)
    have q1 := hA20.wider (T := fun b => S1 b ∨ (w0.drew.heap.size ≤ b ∧ b < w20.heap.size)) (fun b h1 h2 => h1.imp id (fun h => ⟨h, h2⟩))
    obtain ⟨hp21, hb21⟩ := PairK.ref (K := K) (S1 := fun b => S1 b ∨ (w0.drew.heap.size ≤ b ∧ b < w20.heap.size)) q1 (fun b h hs => by rcases h with h | h; exact pd b h hs; have := pl0 b (.inr hs); omega) (fun b h => by rcases h with (h | h) | h; exact pB b (.inl h); exact fun hk => absurd (Nat.lt_trans (hBw b hk) hz0) (Nat.not_lt.2 h.1); exact pB b (.inr h)) (fun b h => by rcases h with (h | h) | h; exact Nat.lt_of_lt_of_le (pl0 b (.inl h)) hz20; exact h.2; exact Nat.lt_of_lt_of_le (pl0 b (.inr h)) hz20) (fun b h => Nat.lt_of_lt_of_le (Nat.lt_trans (hBw b h) hz0) hz20) hA21 hO21
    refine hK.out _ _ (hS1.keep hO21 hng2) (fun hS2 => ?_); clear hK K9
    refine wpAnyH_take (i := 12) (v := ?v12a) rfl (by kernel_rfl) (by kernel_rfl) (by kernel_rfl) (fun _ _ _ h => h) (Or.inl ⟨by kernel_rfl, ?h12a⟩) hS2 ?_
    case h12a => (rintro w9 ⟨e1, e2, e3, e4⟩; go_simp; try with_reducible rfl)
    refine wpAnyH_take (i := 13) (v := ?v13a) rfl (by kernel_rfl) (by kernel_rfl) (by kernel_rfl) (fun _ _ _ h => h) (Or.inl ⟨by kernel_rfl, ?h13a⟩) hS2 ?_
    case h13a => (rintro w9 ⟨e1, e2, e3, e4⟩; go_simp; try with_reducible rfl)
    have HFP := Lib.hid hp21
    have HFB := Lib.hid ((HB0.out.trans hb20 (fun _ h _ => h)).trans hb21 (fun _ h _ => h))
    clear hp20 hb20 hp21 hb21 hA20 hO20 hA21 hO21 q1 q2 hS hS1 hS2
    refine wpAnyH_done (by kernel_rfl) ?_ _
    go_simp
    go_wp2
    go_ret
    exact ⟨rfl, HFP.out, HFB.out⟩
  · by_cases hk1 : k = 1
    · subst hk1
      obtain ⟨r, hr⟩ : ∃ r, turnR l (x, y) false = r := ⟨_, rfl⟩
      have HRr := Lib.hid hr
      have HML := Lib.hid (show turnL l (x, y) false = m by have := HM.out; unfold deedL at this; simpa using this)
      clear hr hk0
      go_enter Try.func13, Try.ntmps13
      go_wp2_with fail
      rw [HW0.out]
      refine wp_region_held_drew (S := D4 w.heap.size b1 b2 x y) (by kernel_rfl) HD.out (fun hS => ?_)
      refine wpAnyH_take (i := 0) (v := ?v0b) rfl (by kernel_rfl) (by kernel_rfl) (by kernel_rfl) (fun _ _ _ h => h) (Or.inl ⟨by kernel_rfl, ?h0b⟩) hS ?_
      case h0b => (rintro w9 ⟨e1, e2, e3, e4⟩; go_simp; try with_reducible rfl)
      refine wpAnyH_take (i := 1) (v := ?v1b) rfl (by kernel_rfl) (by kernel_rfl) (by kernel_rfl) (fun _ _ _ h => h) (Or.inl ⟨by kernel_rfl, ?h1b⟩) hS ?_
      case h1b => (rintro w9 ⟨e1, e2, e3, e4⟩; go_simp; try with_reducible rfl)
      refine wpAnyH_take (i := 2) (v := ?v2b) rfl (by kernel_rfl) (by kernel_rfl) (by kernel_rfl) (fun _ _ _ h => h) (Or.inl ⟨by kernel_rfl, ?h2b⟩) hS ?_
      case h2b => (rintro w9 ⟨e1, e2, e3, e4⟩; go_simp; try with_reducible rfl)
      refine wpAnyH_take (i := 4) (v := ?v4b) rfl (by kernel_rfl) (by kernel_rfl) (by kernel_rfl) (fun _ _ _ h => h) (Or.inl ⟨by kernel_rfl, ?h4b⟩) hS ?_
      case h4b => (rintro w9 ⟨e1, e2, e3, e4⟩; go_simp; try with_reducible rfl)
      refine wpAnyH_take (i := 5) (v := ?v5b) rfl (by kernel_rfl) (by kernel_rfl) (by kernel_rfl) (fun _ _ _ h => h) (Or.inl ⟨by kernel_rfl, ?h5b⟩) hS ?_
      case h5b => (rintro w9 ⟨e1, e2, e3, e4⟩; go_simp; try with_reducible rfl)
      refine wpAnyH_take (i := 6) (v := ?v6b) rfl (by kernel_rfl) (by kernel_rfl) (by kernel_rfl) (fun _ _ _ h => h) (Or.inl ⟨by kernel_rfl, ?h6b⟩) hS ?_
      case h6b => (rintro w9 ⟨e1, e2, e3, e4⟩; go_simp; try with_reducible rfl)
      refine wpAnyH_ready (rs := [3]) (by kernel_rfl) (by simp) (AllReadyH.cons rfl (fun K9 hK => ?_) AllReadyH.nil)
      go_simp
      go_wp2_with (go_at_call 25; refine (delete_is P1.out (show l.length ≤ 100000 by omega) HRr.out HML.out).mono ?_; rintro e w20 ⟨rfl, hA20', hO20⟩; have hA20 := AxAt.wider (T := fun k => S1 k ∨ w0.drew.heap.size ≤ k) hA20' (fun b h _ => .inl h))
      obtain ⟨hp20, hb20⟩ := PairK.ax (K := K) P2.out pd pB pl0 (fun b h => Nat.lt_trans (hBw b h) hz0) hA20 hO20
      have hz20 := hO20.size
      refine hK.out _ _ (hS.keep hO20 hng1) (fun hS1 => ?_); clear hK K9
      have q2 := P2.out.kept hO20 (fun b hs _ hs1 => pd b hs1 hs)
      refine wpAnyH_ready (rs := [7]) (by kernel_rfl) (by simp) (AllReadyH.cons rfl (fun K9 hK => ?_) AllReadyH.nil)
      go_simp
      go_wp2_with (go_at_call 31; refine (rset_is q2 (show l.length ≤ 100000 by omega) HRr.out HML.out).mono ?_; rintro e w21 ⟨rfl, hA21, hO21⟩)
      have q1 := hA20.wider (T := fun b => S1 b ∨ (w0.drew.heap.size ≤ b ∧ b < w20.heap.size)) (fun b h1 h2 => h1.imp id (fun h => ⟨h, h2⟩))
      obtain ⟨hp21, hb21⟩ := PairK.ref (K := K) (S1 := fun b => S1 b ∨ (w0.drew.heap.size ≤ b ∧ b < w20.heap.size)) q1 (fun b h hs => by rcases h with h | h; exact pd b h hs; have := pl0 b (.inr hs); omega) (fun b h => by rcases h with (h | h) | h; exact pB b (.inl h); exact fun hk => absurd (Nat.lt_trans (hBw b hk) hz0) (Nat.not_lt.2 h.1); exact pB b (.inr h)) (fun b h => by rcases h with (h | h) | h; exact Nat.lt_of_lt_of_le (pl0 b (.inl h)) hz20; exact h.2; exact Nat.lt_of_lt_of_le (pl0 b (.inr h)) hz20) (fun b h => Nat.lt_of_lt_of_le (Nat.lt_trans (hBw b h) hz0) hz20) hA21 hO21
      refine hK.out _ _ (hS1.keep hO21 hng2) (fun hS2 => ?_); clear hK K9
      refine wpAnyH_take (i := 8) (v := ?v8b) rfl (by kernel_rfl) (by kernel_rfl) (by kernel_rfl) (fun _ _ _ h => h) (Or.inl ⟨by kernel_rfl, ?h8b⟩) hS2 ?_
      case h8b => (rintro w9 ⟨e1, e2, e3, e4⟩; go_simp; try with_reducible rfl)
      refine wpAnyH_take (i := 9) (v := ?v9b) rfl (by kernel_rfl) (by kernel_rfl) (by kernel_rfl) (fun _ _ _ h => h) (Or.inl ⟨by kernel_rfl, ?h9b⟩) hS2 ?_
      case h9b => (rintro w9 ⟨e1, e2, e3, e4⟩; go_simp; try with_reducible rfl)
      have HFP := Lib.hid hp21
      have HFB := Lib.hid ((HB0.out.trans hb20 (fun _ h _ => h)).trans hb21 (fun _ h _ => h))
      clear hp20 hb20 hp21 hb21 hA20 hO20 hA21 hO21 q1 q2 hS hS1 hS2
      refine wpAnyH_done (by kernel_rfl) ?_ _
      go_simp
      go_wp2
      go_ret
      exact ⟨rfl, HFP.out, HFB.out⟩
    · by_cases hk2 : k = 2
      · subst hk2
        obtain ⟨r, hr⟩ : ∃ r, turnR l (x, y) true = r := ⟨_, rfl⟩
        have HRr := Lib.hid hr
        have HML := Lib.hid (show turnL l (x, y) true = m by have := HM.out; unfold deedL at this; simpa using this)
        clear hr hk0 hk1
        go_enter Try.func13, Try.ntmps13
        go_wp2_with fail
        rw [HW0.out]
        refine wp_region_held_drew (S := D4 w.heap.size b1 b2 x y) (by kernel_rfl) HD.out (fun hS => ?_)
        refine wpAnyH_take (i := 0) (v := ?v0c) rfl (by kernel_rfl) (by kernel_rfl) (by kernel_rfl) (fun _ _ _ h => h) (Or.inl ⟨by kernel_rfl, ?h0c⟩) hS ?_
        case h0c => (rintro w9 ⟨e1, e2, e3, e4⟩; go_simp; try with_reducible rfl)
        refine wpAnyH_take (i := 1) (v := ?v1c) rfl (by kernel_rfl) (by kernel_rfl) (by kernel_rfl) (fun _ _ _ h => h) (Or.inl ⟨by kernel_rfl, ?h1c⟩) hS ?_
        case h1c => (rintro w9 ⟨e1, e2, e3, e4⟩; go_simp; try with_reducible rfl)
        refine wpAnyH_take (i := 2) (v := ?v2c) rfl (by kernel_rfl) (by kernel_rfl) (by kernel_rfl) (fun _ _ _ h => h) (Or.inl ⟨by kernel_rfl, ?h2c⟩) hS ?_
        case h2c => (rintro w9 ⟨e1, e2, e3, e4⟩; go_simp; try with_reducible rfl)
        refine wpAnyH_take (i := 4) (v := ?v4c) rfl (by kernel_rfl) (by kernel_rfl) (by kernel_rfl) (fun _ _ _ h => h) (Or.inl ⟨by kernel_rfl, ?h4c⟩) hS ?_
        case h4c => (rintro w9 ⟨e1, e2, e3, e4⟩; go_simp; try with_reducible rfl)
        refine wpAnyH_take (i := 5) (v := ?v5c) rfl (by kernel_rfl) (by kernel_rfl) (by kernel_rfl) (fun _ _ _ h => h) (Or.inl ⟨by kernel_rfl, ?h5c⟩) hS ?_
        case h5c => (rintro w9 ⟨e1, e2, e3, e4⟩; go_simp; try with_reducible rfl)
        refine wpAnyH_take (i := 6) (v := ?v6c) rfl (by kernel_rfl) (by kernel_rfl) (by kernel_rfl) (fun _ _ _ h => h) (Or.inl ⟨by kernel_rfl, ?h6c⟩) hS ?_
        case h6c => (rintro w9 ⟨e1, e2, e3, e4⟩; go_simp; try with_reducible rfl)
        refine wpAnyH_ready (rs := [3]) (by kernel_rfl) (by simp) (AllReadyH.cons rfl (fun K9 hK => ?_) AllReadyH.nil)
        go_simp
        go_wp2_with (go_at_call 26; refine (revive_is P1.out (show l.length ≤ 100000 by omega) HRr.out HML.out).mono ?_; rintro e w20 ⟨rfl, hA20', hO20⟩; have hA20 := AxAt.wider (T := fun k => S1 k ∨ w0.drew.heap.size ≤ k) hA20' (fun b h _ => .inl h))
        obtain ⟨hp20, hb20⟩ := PairK.ax (K := K) P2.out pd pB pl0 (fun b h => Nat.lt_trans (hBw b h) hz0) hA20 hO20
        have hz20 := hO20.size
        refine hK.out _ _ (hS.keep hO20 hng1) (fun hS1 => ?_); clear hK K9
        have q2 := P2.out.kept hO20 (fun b hs _ hs1 => pd b hs1 hs)
        refine wpAnyH_ready (rs := [7]) (by kernel_rfl) (by simp) (AllReadyH.cons rfl (fun K9 hK => ?_) AllReadyH.nil)
        go_simp
        go_wp2_with (go_at_call 31; refine (rset_is q2 (show l.length ≤ 100000 by omega) HRr.out HML.out).mono ?_; rintro e w21 ⟨rfl, hA21, hO21⟩)
        have q1 := hA20.wider (T := fun b => S1 b ∨ (w0.drew.heap.size ≤ b ∧ b < w20.heap.size)) (fun b h1 h2 => h1.imp id (fun h => ⟨h, h2⟩))
        obtain ⟨hp21, hb21⟩ := PairK.ref (K := K) (S1 := fun b => S1 b ∨ (w0.drew.heap.size ≤ b ∧ b < w20.heap.size)) q1 (fun b h hs => by rcases h with h | h; exact pd b h hs; have := pl0 b (.inr hs); omega) (fun b h => by rcases h with (h | h) | h; exact pB b (.inl h); exact fun hk => absurd (Nat.lt_trans (hBw b hk) hz0) (Nat.not_lt.2 h.1); exact pB b (.inr h)) (fun b h => by rcases h with (h | h) | h; exact Nat.lt_of_lt_of_le (pl0 b (.inl h)) hz20; exact h.2; exact Nat.lt_of_lt_of_le (pl0 b (.inr h)) hz20) (fun b h => Nat.lt_of_lt_of_le (Nat.lt_trans (hBw b h) hz0) hz20) hA21 hO21
        refine hK.out _ _ (hS1.keep hO21 hng2) (fun hS2 => ?_); clear hK K9
        refine wpAnyH_take (i := 8) (v := ?v8c) rfl (by kernel_rfl) (by kernel_rfl) (by kernel_rfl) (fun _ _ _ h => h) (Or.inl ⟨by kernel_rfl, ?h8c⟩) hS2 ?_
        case h8c => (rintro w9 ⟨e1, e2, e3, e4⟩; go_simp; try with_reducible rfl)
        refine wpAnyH_take (i := 9) (v := ?v9c) rfl (by kernel_rfl) (by kernel_rfl) (by kernel_rfl) (fun _ _ _ h => h) (Or.inl ⟨by kernel_rfl, ?h9c⟩) hS2 ?_
        case h9c => (rintro w9 ⟨e1, e2, e3, e4⟩; go_simp; try with_reducible rfl)
        have HFP := Lib.hid hp21
        have HFB := Lib.hid ((HB0.out.trans hb20 (fun _ h _ => h)).trans hb21 (fun _ h _ => h))
        clear hp20 hb20 hp21 hb21 hA20 hO20 hA21 hO21 q1 q2 hS hS1 hS2
        refine wpAnyH_done (by kernel_rfl) ?_ _
        go_simp
        go_wp2
        go_ret
        exact ⟨rfl, HFP.out, HFB.out⟩
      · have hml : l = m := by have := HM.out; unfold deedL at this; simpa [hk0, hk1, hk2] using this
        subst hml
        have e0 : (k == 0) = false := by simpa using hk0
        have e1 : (k == 1) = false := by simpa using hk1
        have e2 : (k == 2) = false := by simpa using hk2
        go_enter Try.func13, Try.ntmps13
        go_wp2
        go_ret
        exact ⟨rfl, by rw [HW0.out]; exact P0.out.1, by rw [HW0.out]; exact P0.out.2⟩
end Go.Proofs.Ytngomgjhakgehaa
