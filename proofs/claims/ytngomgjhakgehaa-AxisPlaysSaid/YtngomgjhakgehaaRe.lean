/- A deed on both axes. -/
import Derived.Test.YtngomgjhakgehaaRd
import Derived.Test.YtngomgjhakgehaaFu
namespace Go.Proofs.Ytngomgjhakgehaa
open Go.RowKit Go.Maps

/-- both axes, apart, from block B on -/
def Pair (B : Nat) (W : World) (s1 s2 : Nat) (l m : List Ent) : Prop := ∃ S1 S2 : Nat → Prop, AxAt W s1 S1 l ∧ RefAt W s2 S2 m ∧ (∀ b, S1 b → ¬ S2 b) ∧ (∀ b, S1 b ∨ S2 b → B ≤ b) ∧ (∀ b, S1 b ∨ S2 b → b < W.heap.size)
theorem Pair.later {B : Nat} {W W' : World} {s1 s2 : Nat} {l m : List Ent} (h : Pair B W s1 s2 l m) (hb : Below W.heap.size W W') : Pair B W' s1 s2 l m := by
  obtain ⟨S1, S2, h1, h2, hd, hB, hl⟩ := h
  exact ⟨S1, S2, h1.later hb, h2.later hb, hd, hB, fun b h => Nat.lt_of_lt_of_le (hl b h) hb.size⟩
theorem Pair.ax {B : Nat} {W W' : World} {s1 s2 : Nat} {l' m : List Ent} {S1 S2 : Nat → Prop} (h2 : RefAt W s2 S2 m) (hd : ∀ b, S1 b → ¬ S2 b) (hB : ∀ b, S1 b ∨ S2 b → B ≤ b) (hl : ∀ b, S1 b ∨ S2 b → b < W.heap.size) (hBW : B ≤ W.heap.size)
    (ha : AxAt W' s1 (fun k => S1 k ∨ W.heap.size ≤ k) l') (ho : Only S1 W W') : Pair B W' s1 s2 l' m ∧ Below B W W' := by
  refine ⟨⟨fun b => S1 b ∨ (W.heap.size ≤ b ∧ b < W'.heap.size), S2, ha.wider (fun b h1 h2 => h1.imp id (fun h => ⟨h, h2⟩)), h2.kept ho (fun b hs _ hs1 => hd b hs1 hs), ?_, ?_, ?_⟩, ho.below hBW (fun b hb => hB b (.inl hb))⟩
  · rintro b (h | h) hs
    · exact hd b h hs
    · have := hl b (.inr hs); omega
  · rintro b ((h | h) | h)
    · exact hB b (.inl h)
    · omega
    · exact hB b (.inr h)
  · have := ho.size
    rintro b ((h | h) | h)
    · have := hl b (.inl h); omega
    · exact h.2
    · have := hl b (.inr h); omega
theorem Pair.ref {B : Nat} {W W' : World} {s1 s2 : Nat} {l m' : List Ent} {S1 S2 : Nat → Prop} (h1 : AxAt W s1 S1 l) (hd : ∀ b, S1 b → ¬ S2 b) (hB : ∀ b, S1 b ∨ S2 b → B ≤ b) (hl : ∀ b, S1 b ∨ S2 b → b < W.heap.size) (hBW : B ≤ W.heap.size)
    (ha : RefAt W' s2 (fun k => S2 k ∨ W.heap.size ≤ k) m') (ho : Only S2 W W') : Pair B W' s1 s2 l m' ∧ Below B W W' := by
  refine ⟨⟨S1, fun b => S2 b ∨ (W.heap.size ≤ b ∧ b < W'.heap.size), h1.kept ho (fun b hs _ hs1 => hd b hs hs1), ha.wider (fun b h1 h2 => h1.imp id (fun h => ⟨h, h2⟩)), ?_, ?_, ?_⟩, ho.below hBW (fun b hb => hB b (.inr hb))⟩
  · rintro b h (hs | hs)
    · exact hd b h hs
    · have := hl b (.inl h); omega
  · rintro b (h | h | h)
    · exact hB b (.inl h)
    · exact hB b (.inr h)
    · omega
  · have := ho.size
    rintro b (h | h | h)
    · have := hl b (.inl h); omega
    · have := hl b (.inr h); omega
    · exact h.2

/-- a deed -/
structure DeedP where
  kind : Int
  bh : IdP
  id : IdP
def DeedP.v (d : DeedP) : Value := .agg #[.int .i64 d.kind, .int .i64 d.bh.1, .int .i64 d.bh.2, .int .i64 d.id.1, .int .i64 d.id.2]
def deedL (l : List Ent) (d : DeedP) : List Ent := if d.kind = 0 then insL l d.bh d.id else if d.kind = 1 then turnL l d.id false else if d.kind = 2 then turnL l d.id true else l
theorem deedL_len (l : List Ent) (d : DeedP) : (deedL l d).length ≤ l.length + 1 := by
  have ht : ∀ c, (turnL l d.id c).length = l.length := fun c => by unfold turnL; split <;> simp
  unfold deedL
  split
  · unfold insL; split
    · rw [insE_len _ (insAt_le _)]; exact Nat.le_refl _
    · omega
  · split
    · rw [ht]; omega
    · split
      · rw [ht]; omega
      · omega
/-- the cells of a deed's box that a region loads -/
def D4 (g : Nat) (b1 b2 x y : Int) (w : World) : Prop := w.cell? ⟨g, 1, none⟩ = some (.int .i64 b1) ∧ w.cell? ⟨g, 2, none⟩ = some (.int .i64 b2) ∧ w.cell? ⟨g, 3, none⟩ = some (.int .i64 x) ∧ w.cell? ⟨g, 4, none⟩ = some (.int .i64 y)
theorem D4.keep {g : Nat} {b1 b2 x y : Int} {w w' : World} {S : Nat → Prop} (h : D4 g b1 b2 x y w) (ho : Only S w w') (hg : ¬ S g) : D4 g b1 b2 x y w' := by
  have hlt := cell_lt h.1
  have e := ho.block g hlt hg
  exact ⟨(World.cell?_of_block e).trans h.1, (World.cell?_of_block e).trans h.2.1, (World.cell?_of_block e).trans h.2.2.1, (World.cell?_of_block e).trans h.2.2.2⟩
theorem rset_is {s : Nat} {S : Nat → Prop} {l : List Ent} {a n : Int} {live : Bool} {w : World} (h : RefAt w s S l) (hlen : l.length ≤ 100000) {r : Int} {m : List Ent} (hr : turnR l (a, n) live = r) (hm : turnL l (a, n) live = m) :
    Calls Try.prog 31 #[.pointer (some ⟨s, 0, none⟩), .agg #[.int .i64 a, .int .i64 n], .bool live] w fun e w' => e = .returned (.int .i64 r) ∧ RefAt w' s (fun k => S k ∨ w.heap.size ≤ k) m ∧ Only S w w' := by
  subst hr hm
  exact rset_any s S l a n live w h hlen

set_option maxRecDepth 100000 in
set_option maxHeartbeats 6400000 in
theorem do_any (B s1 s2 : Nat) (l : List Ent) (k b1 b2 x y : Int) (w : World) (h : Pair B w s1 s2 l l) (hlen : l.length ≤ 90000) (hBw : B ≤ w.heap.size) (m : List Ent) (hm : deedL l ⟨k, (b1, b2), (x, y)⟩ = m) :
    Calls Try.prog 13 #[.pointer (some ⟨s1, 0, none⟩), .pointer (some ⟨s2, 0, none⟩), .agg #[.int .i64 k, .int .i64 b1, .int .i64 b2, .int .i64 x, .int .i64 y]] w fun e w' => e = .returned (.bool true) ∧ Pair B w' s1 s2 m m ∧ Below B w w' := by
  have hb0 : Below w.heap.size w (w.alloc (.cells #[.int .i64 k, .int .i64 b1, .int .i64 b2, .int .i64 x, .int .i64 y] 33)) := (Below.refl _ _).alloc (Nat.le_refl _) _
  obtain ⟨w0, hw0⟩ : ∃ w0, w.alloc (.cells #[.int .i64 k, .int .i64 b1, .int .i64 b2, .int .i64 x, .int .i64 y] 33) = w0 := ⟨_, rfl⟩
  have hc0 : w0.cell? ⟨w.heap.size, 0, none⟩ = some (.int .i64 k) := by rw [← hw0]; exact (World.cell?_alloc_new _ _ _ _).trans rfl
  have hd0 : D4 w.heap.size b1 b2 x y w0.drew := by rw [← hw0]; exact ⟨(World.cell?_alloc_new _ _ _ _).trans rfl, (World.cell?_alloc_new _ _ _ _).trans rfl, (World.cell?_alloc_new _ _ _ _).trans rfl, (World.cell?_alloc_new _ _ _ _).trans rfl⟩
  obtain ⟨S1, S2, p1, p2, pd, pB, pl⟩ := h
  have hng1 : ¬ S1 w.heap.size := fun hc => by have := pl _ (.inl hc); omega
  have hng2 : ¬ S2 w.heap.size := fun hc => by have := pl _ (.inr hc); omega
  rw [hw0] at hb0
  have P0 : Hid (Pair B w0 s1 s2 l l ∧ Below B w w0) := Lib.hid ⟨Pair.later ⟨S1, S2, p1, p2, pd, pB, pl⟩ hb0, hb0.mono hBw⟩
  have P1 := Lib.hid ((p1.later hb0).later (w' := w0.drew) ((Below.refl _ _).drew))
  have P2 := Lib.hid ((p2.later hb0).later (w' := w0.drew) ((Below.refl _ _).drew))
  have hz0 : w.heap.size < w0.heap.size := by rw [← hw0]; simp
  have pl0 : ∀ b, S1 b ∨ S2 b → b < w0.drew.heap.size := fun b hb => Nat.lt_trans (pl b hb) hz0
  have HB0 := Lib.hid ((hb0.mono hBw).drew)
  have HD := Lib.hid hd0
  have HM := Lib.hid hm
  have HW0 := Lib.hid hw0
  clear hb0 hd0 hm p1 p2 hw0
  by_cases hk0 : k = 0
  · subst hk0
    obtain ⟨r, hr⟩ : ∃ r, insR l (b1, b2) (x, y) = r := ⟨_, rfl⟩
    have HRr := Lib.hid hr
    have HML := Lib.hid (show insL l (b1, b2) (x, y) = m by have := HM.out; unfold deedL at this; simpa using this)
    clear hr
    go_enter Try.func13, Try.ntmps13
    go_wp2_with fail
    rw [HW0.out]
    refine wp_region_held_drew (S := D4 w.heap.size b1 b2 x y) (by kernel_rfl) HD.out (fun hS => ?_)
    refine wpAnyH_take (i := 0) (v := ?v0a) rfl (by kernel_rfl) (by kernel_rfl) (by kernel_rfl) (fun _ _ _ h => h) (Or.inl ⟨by kernel_rfl, ?h0a⟩) hS ?_
    case h0a => (rintro w9 ⟨e1, e2, e3, e4⟩; go_simp; try with_reducible rfl)
    refine wpAnyH_take (i := 1) (v := ?v1a) rfl (by kernel_rfl) (by kernel_rfl) (by kernel_rfl) (fun _ _ _ h => h) (Or.inl ⟨by kernel_rfl, ?h1a⟩) hS ?_
    case h1a => (rintro w9 ⟨e1, e2, e3, e4⟩; go_simp; try with_reducible rfl)
    refine wpAnyH_take (i := 2) (v := ?v2a) rfl (by kernel_rfl) (by kernel_rfl) (by kernel_rfl) (fun _ _ _ h => h) (Or.inl ⟨by kernel_rfl, ?h2a⟩) hS ?_
    case h2a => (rintro w9 ⟨e1, e2, e3, e4⟩; go_simp; try with_reducible rfl)
    refine wpAnyH_take (i := 3) (v := ?v3a) rfl (by kernel_rfl) (by kernel_rfl) (by kernel_rfl) (fun _ _ _ h => h) (Or.inl ⟨by kernel_rfl, ?h3a⟩) hS ?_
    case h3a => (rintro w9 ⟨e1, e2, e3, e4⟩; go_simp; try with_reducible rfl)
    refine wpAnyH_take (i := 4) (v := ?v4a) rfl (by kernel_rfl) (by kernel_rfl) (by kernel_rfl) (fun _ _ _ h => h) (Or.inl ⟨by kernel_rfl, ?h4a⟩) hS ?_
    case h4a => (rintro w9 ⟨e1, e2, e3, e4⟩; go_simp; try with_reducible rfl)
    refine wpAnyH_take (i := 6) (v := ?v6a) rfl (by kernel_rfl) (by kernel_rfl) (by kernel_rfl) (fun _ _ _ h => h) (Or.inl ⟨by kernel_rfl, ?h6a⟩) hS ?_
    case h6a => (rintro w9 ⟨e1, e2, e3, e4⟩; go_simp; try with_reducible rfl)
    refine wpAnyH_take (i := 7) (v := ?v7a) rfl (by kernel_rfl) (by kernel_rfl) (by kernel_rfl) (fun _ _ _ h => h) (Or.inl ⟨by kernel_rfl, ?h7a⟩) hS ?_
    case h7a => (rintro w9 ⟨e1, e2, e3, e4⟩; go_simp; try with_reducible rfl)
    refine wpAnyH_take (i := 8) (v := ?v8a) rfl (by kernel_rfl) (by kernel_rfl) (by kernel_rfl) (fun _ _ _ h => h) (Or.inl ⟨by kernel_rfl, ?h8a⟩) hS ?_
    case h8a => (rintro w9 ⟨e1, e2, e3, e4⟩; go_simp; try with_reducible rfl)
    refine wpAnyH_take (i := 9) (v := ?v9a) rfl (by kernel_rfl) (by kernel_rfl) (by kernel_rfl) (fun _ _ _ h => h) (Or.inl ⟨by kernel_rfl, ?h9a⟩) hS ?_
    case h9a => (rintro w9 ⟨e1, e2, e3, e4⟩; go_simp; try with_reducible rfl)
    refine wpAnyH_take (i := 10) (v := ?v10a) rfl (by kernel_rfl) (by kernel_rfl) (by kernel_rfl) (fun _ _ _ h => h) (Or.inl ⟨by kernel_rfl, ?h10a⟩) hS ?_
    case h10a => (rintro w9 ⟨e1, e2, e3, e4⟩; go_simp; try with_reducible rfl)
    refine wpAnyH_ready (rs := [5]) (by kernel_rfl) (by simp) (AllReadyH.cons rfl (fun K hK => ?_) AllReadyH.nil)
    go_simp
    go_wp2_with (go_at_call 28; refine (insert_is P1.out (show l.length ≤ 100000 by omega) HRr.out HML.out).mono ?_; rintro e w20 ⟨rfl, hA20, hO20⟩)
    obtain ⟨hp20, hb20⟩ := Pair.ax (B := B) P2.out pd pB pl0 (Nat.le_trans hBw (Nat.le_of_lt hz0)) hA20 hO20
    have hz20 := hO20.size
    refine hK.out _ _ (hS.keep hO20 hng1) (fun hS1 => ?_); clear hK K
    have q2 := P2.out.kept hO20 (fun b hs _ hs1 => pd b hs1 hs)
    refine wpAnyH_ready (rs := [11]) (by kernel_rfl) (by simp) (AllReadyH.cons rfl (fun K hK => ?_) AllReadyH.nil)
    go_simp
    go_wp2_with (go_at_call 30; refine (rinsert_is q2 (show l.length ≤ 100000 by omega) HRr.out HML.out).mono ?_; rintro e w21 ⟨rfl, hA21, hO21⟩)
    have q1 := hA20.wider (T := fun b => S1 b ∨ (w0.drew.heap.size ≤ b ∧ b < w20.heap.size)) (fun b h1 h2 => h1.imp id (fun h => ⟨h, h2⟩))
    obtain ⟨hp21, hb21⟩ := Pair.ref (B := B) (S1 := fun b => S1 b ∨ (w0.drew.heap.size ≤ b ∧ b < w20.heap.size)) q1 (fun b h hs => by rcases h with h | h; exact pd b h hs; have := pl0 b (.inr hs); omega) (fun b h => by rcases h with (h | h) | h; exact pB b (.inl h); exact Nat.le_trans (Nat.le_trans hBw (Nat.le_of_lt hz0)) h.1; exact pB b (.inr h)) (fun b h => by rcases h with (h | h) | h; exact Nat.lt_of_lt_of_le (pl0 b (.inl h)) hz20; exact h.2; exact Nat.lt_of_lt_of_le (pl0 b (.inr h)) hz20) (Nat.le_trans (Nat.le_trans hBw (Nat.le_of_lt hz0)) hz20) hA21 hO21
    refine hK.out _ _ (hS1.keep hO21 hng2) (fun hS2 => ?_); clear hK K
    refine wpAnyH_take (i := 12) (v := ?v12a) rfl (by kernel_rfl) (by kernel_rfl) (by kernel_rfl) (fun _ _ _ h => h) (Or.inl ⟨by kernel_rfl, ?h12a⟩) hS2 ?_
    case h12a => (rintro w9 ⟨e1, e2, e3, e4⟩; go_simp; try with_reducible rfl)
    refine wpAnyH_take (i := 13) (v := ?v13a) rfl (by kernel_rfl) (by kernel_rfl) (by kernel_rfl) (fun _ _ _ h => h) (Or.inl ⟨by kernel_rfl, ?h13a⟩) hS2 ?_
    case h13a => (rintro w9 ⟨e1, e2, e3, e4⟩; go_simp; try with_reducible rfl)
    have HFP := Lib.hid hp21
    have HFB := Lib.hid ((HB0.out.trans hb20).trans hb21)
    clear hp20 hb20 hp21 hb21 hA20 hO20 hA21 hO21 q1 q2 hS hS1 hS2
    refine wpAnyH_done (by kernel_rfl) ?_ _
    go_simp
    go_wp2
    go_ret
    exact ⟨rfl, HFP.out, HFB.out⟩
  · by_cases hk1 : k = 1
    · subst hk1
      obtain ⟨r, hr⟩ : ∃ r, turnR l (x, y) false = r := ⟨_, rfl⟩
      have HRr := Lib.hid hr
      have HML := Lib.hid (show turnL l (x, y) false = m by have := HM.out; unfold deedL at this; simpa using this)
      clear hr hk0
      go_enter Try.func13, Try.ntmps13
      go_wp2_with fail
      rw [HW0.out]
      refine wp_region_held_drew (S := D4 w.heap.size b1 b2 x y) (by kernel_rfl) HD.out (fun hS => ?_)
      refine wpAnyH_take (i := 0) (v := ?v0b) rfl (by kernel_rfl) (by kernel_rfl) (by kernel_rfl) (fun _ _ _ h => h) (Or.inl ⟨by kernel_rfl, ?h0b⟩) hS ?_
      case h0b => (rintro w9 ⟨e1, e2, e3, e4⟩; go_simp; try with_reducible rfl)
      refine wpAnyH_take (i := 1) (v := ?v1b) rfl (by kernel_rfl) (by kernel_rfl) (by kernel_rfl) (fun _ _ _ h => h) (Or.inl ⟨by kernel_rfl, ?h1b⟩) hS ?_
      case h1b => (rintro w9 ⟨e1, e2, e3, e4⟩; go_simp; try with_reducible rfl)
      refine wpAnyH_take (i := 2) (v := ?v2b) rfl (by kernel_rfl) (by kernel_rfl) (by kernel_rfl) (fun _ _ _ h => h) (Or.inl ⟨by kernel_rfl, ?h2b⟩) hS ?_
      case h2b => (rintro w9 ⟨e1, e2, e3, e4⟩; go_simp; try with_reducible rfl)
      refine wpAnyH_take (i := 4) (v := ?v4b) rfl (by kernel_rfl) (by kernel_rfl) (by kernel_rfl) (fun _ _ _ h => h) (Or.inl ⟨by kernel_rfl, ?h4b⟩) hS ?_
      case h4b => (rintro w9 ⟨e1, e2, e3, e4⟩; go_simp; try with_reducible rfl)
      refine wpAnyH_take (i := 5) (v := ?v5b) rfl (by kernel_rfl) (by kernel_rfl) (by kernel_rfl) (fun _ _ _ h => h) (Or.inl ⟨by kernel_rfl, ?h5b⟩) hS ?_
      case h5b => (rintro w9 ⟨e1, e2, e3, e4⟩; go_simp; try with_reducible rfl)
      refine wpAnyH_take (i := 6) (v := ?v6b) rfl (by kernel_rfl) (by kernel_rfl) (by kernel_rfl) (fun _ _ _ h => h) (Or.inl ⟨by kernel_rfl, ?h6b⟩) hS ?_
      case h6b => (rintro w9 ⟨e1, e2, e3, e4⟩; go_simp; try with_reducible rfl)
      refine wpAnyH_ready (rs := [3]) (by kernel_rfl) (by simp) (AllReadyH.cons rfl (fun K hK => ?_) AllReadyH.nil)
      go_simp
      go_wp2_with (go_at_call 25; refine (delete_is P1.out (show l.length ≤ 100000 by omega) HRr.out HML.out).mono ?_; rintro e w20 ⟨rfl, hA20', hO20⟩; have hA20 := AxAt.wider (T := fun k => S1 k ∨ w0.drew.heap.size ≤ k) hA20' (fun b h _ => .inl h))
      obtain ⟨hp20, hb20⟩ := Pair.ax (B := B) P2.out pd pB pl0 (Nat.le_trans hBw (Nat.le_of_lt hz0)) hA20 hO20
      have hz20 := hO20.size
      refine hK.out _ _ (hS.keep hO20 hng1) (fun hS1 => ?_); clear hK K
      have q2 := P2.out.kept hO20 (fun b hs _ hs1 => pd b hs1 hs)
      refine wpAnyH_ready (rs := [7]) (by kernel_rfl) (by simp) (AllReadyH.cons rfl (fun K hK => ?_) AllReadyH.nil)
      go_simp
      go_wp2_with (go_at_call 31; refine (rset_is q2 (show l.length ≤ 100000 by omega) HRr.out HML.out).mono ?_; rintro e w21 ⟨rfl, hA21, hO21⟩)
      have q1 := hA20.wider (T := fun b => S1 b ∨ (w0.drew.heap.size ≤ b ∧ b < w20.heap.size)) (fun b h1 h2 => h1.imp id (fun h => ⟨h, h2⟩))
      obtain ⟨hp21, hb21⟩ := Pair.ref (B := B) (S1 := fun b => S1 b ∨ (w0.drew.heap.size ≤ b ∧ b < w20.heap.size)) q1 (fun b h hs => by rcases h with h | h; exact pd b h hs; have := pl0 b (.inr hs); omega) (fun b h => by rcases h with (h | h) | h; exact pB b (.inl h); exact Nat.le_trans (Nat.le_trans hBw (Nat.le_of_lt hz0)) h.1; exact pB b (.inr h)) (fun b h => by rcases h with (h | h) | h; exact Nat.lt_of_lt_of_le (pl0 b (.inl h)) hz20; exact h.2; exact Nat.lt_of_lt_of_le (pl0 b (.inr h)) hz20) (Nat.le_trans (Nat.le_trans hBw (Nat.le_of_lt hz0)) hz20) hA21 hO21
      refine hK.out _ _ (hS1.keep hO21 hng2) (fun hS2 => ?_); clear hK K
      refine wpAnyH_take (i := 8) (v := ?v8b) rfl (by kernel_rfl) (by kernel_rfl) (by kernel_rfl) (fun _ _ _ h => h) (Or.inl ⟨by kernel_rfl, ?h8b⟩) hS2 ?_
      case h8b => (rintro w9 ⟨e1, e2, e3, e4⟩; go_simp; try with_reducible rfl)
      refine wpAnyH_take (i := 9) (v := ?v9b) rfl (by kernel_rfl) (by kernel_rfl) (by kernel_rfl) (fun _ _ _ h => h) (Or.inl ⟨by kernel_rfl, ?h9b⟩) hS2 ?_
      case h9b => (rintro w9 ⟨e1, e2, e3, e4⟩; go_simp; try with_reducible rfl)
      have HFP := Lib.hid hp21
      have HFB := Lib.hid ((HB0.out.trans hb20).trans hb21)
      clear hp20 hb20 hp21 hb21 hA20 hO20 hA21 hO21 q1 q2 hS hS1 hS2
      refine wpAnyH_done (by kernel_rfl) ?_ _
      go_simp
      go_wp2
      go_ret
      exact ⟨rfl, HFP.out, HFB.out⟩
    · by_cases hk2 : k = 2
      · subst hk2
        obtain ⟨r, hr⟩ : ∃ r, turnR l (x, y) true = r := ⟨_, rfl⟩
        have HRr := Lib.hid hr
        have HML := Lib.hid (show turnL l (x, y) true = m by have := HM.out; unfold deedL at this; simpa using this)
        clear hr hk0 hk1
        go_enter Try.func13, Try.ntmps13
        go_wp2_with fail
        rw [HW0.out]
        refine wp_region_held_drew (S := D4 w.heap.size b1 b2 x y) (by kernel_rfl) HD.out (fun hS => ?_)
        refine wpAnyH_take (i := 0) (v := ?v0c) rfl (by kernel_rfl) (by kernel_rfl) (by kernel_rfl) (fun _ _ _ h => h) (Or.inl ⟨by kernel_rfl, ?h0c⟩) hS ?_
        case h0c => (rintro w9 ⟨e1, e2, e3, e4⟩; go_simp; try with_reducible rfl)
        refine wpAnyH_take (i := 1) (v := ?v1c) rfl (by kernel_rfl) (by kernel_rfl) (by kernel_rfl) (fun _ _ _ h => h) (Or.inl ⟨by kernel_rfl, ?h1c⟩) hS ?_
        case h1c => (rintro w9 ⟨e1, e2, e3, e4⟩; go_simp; try with_reducible rfl)
        refine wpAnyH_take (i := 2) (v := ?v2c) rfl (by kernel_rfl) (by kernel_rfl) (by kernel_rfl) (fun _ _ _ h => h) (Or.inl ⟨by kernel_rfl, ?h2c⟩) hS ?_
        case h2c => (rintro w9 ⟨e1, e2, e3, e4⟩; go_simp; try with_reducible rfl)
        refine wpAnyH_take (i := 4) (v := ?v4c) rfl (by kernel_rfl) (by kernel_rfl) (by kernel_rfl) (fun _ _ _ h => h) (Or.inl ⟨by kernel_rfl, ?h4c⟩) hS ?_
        case h4c => (rintro w9 ⟨e1, e2, e3, e4⟩; go_simp; try with_reducible rfl)
        refine wpAnyH_take (i := 5) (v := ?v5c) rfl (by kernel_rfl) (by kernel_rfl) (by kernel_rfl) (fun _ _ _ h => h) (Or.inl ⟨by kernel_rfl, ?h5c⟩) hS ?_
        case h5c => (rintro w9 ⟨e1, e2, e3, e4⟩; go_simp; try with_reducible rfl)
        refine wpAnyH_take (i := 6) (v := ?v6c) rfl (by kernel_rfl) (by kernel_rfl) (by kernel_rfl) (fun _ _ _ h => h) (Or.inl ⟨by kernel_rfl, ?h6c⟩) hS ?_
        case h6c => (rintro w9 ⟨e1, e2, e3, e4⟩; go_simp; try with_reducible rfl)
        refine wpAnyH_ready (rs := [3]) (by kernel_rfl) (by simp) (AllReadyH.cons rfl (fun K hK => ?_) AllReadyH.nil)
        go_simp
        go_wp2_with (go_at_call 26; refine (revive_is P1.out (show l.length ≤ 100000 by omega) HRr.out HML.out).mono ?_; rintro e w20 ⟨rfl, hA20', hO20⟩; have hA20 := AxAt.wider (T := fun k => S1 k ∨ w0.drew.heap.size ≤ k) hA20' (fun b h _ => .inl h))
        obtain ⟨hp20, hb20⟩ := Pair.ax (B := B) P2.out pd pB pl0 (Nat.le_trans hBw (Nat.le_of_lt hz0)) hA20 hO20
        have hz20 := hO20.size
        refine hK.out _ _ (hS.keep hO20 hng1) (fun hS1 => ?_); clear hK K
        have q2 := P2.out.kept hO20 (fun b hs _ hs1 => pd b hs1 hs)
        refine wpAnyH_ready (rs := [7]) (by kernel_rfl) (by simp) (AllReadyH.cons rfl (fun K hK => ?_) AllReadyH.nil)
        go_simp
        go_wp2_with (go_at_call 31; refine (rset_is q2 (show l.length ≤ 100000 by omega) HRr.out HML.out).mono ?_; rintro e w21 ⟨rfl, hA21, hO21⟩)
        have q1 := hA20.wider (T := fun b => S1 b ∨ (w0.drew.heap.size ≤ b ∧ b < w20.heap.size)) (fun b h1 h2 => h1.imp id (fun h => ⟨h, h2⟩))
        obtain ⟨hp21, hb21⟩ := Pair.ref (B := B) (S1 := fun b => S1 b ∨ (w0.drew.heap.size ≤ b ∧ b < w20.heap.size)) q1 (fun b h hs => by rcases h with h | h; exact pd b h hs; have := pl0 b (.inr hs); omega) (fun b h => by rcases h with (h | h) | h; exact pB b (.inl h); exact Nat.le_trans (Nat.le_trans hBw (Nat.le_of_lt hz0)) h.1; exact pB b (.inr h)) (fun b h => by rcases h with (h | h) | h; exact Nat.lt_of_lt_of_le (pl0 b (.inl h)) hz20; exact h.2; exact Nat.lt_of_lt_of_le (pl0 b (.inr h)) hz20) (Nat.le_trans (Nat.le_trans hBw (Nat.le_of_lt hz0)) hz20) hA21 hO21
        refine hK.out _ _ (hS1.keep hO21 hng2) (fun hS2 => ?_); clear hK K
        refine wpAnyH_take (i := 8) (v := ?v8c) rfl (by kernel_rfl) (by kernel_rfl) (by kernel_rfl) (fun _ _ _ h => h) (Or.inl ⟨by kernel_rfl, ?h8c⟩) hS2 ?_
        case h8c => (rintro w9 ⟨e1, e2, e3, e4⟩; go_simp; try with_reducible rfl)
        refine wpAnyH_take (i := 9) (v := ?v9c) rfl (by kernel_rfl) (by kernel_rfl) (by kernel_rfl) (fun _ _ _ h => h) (Or.inl ⟨by kernel_rfl, ?h9c⟩) hS2 ?_
        case h9c => (rintro w9 ⟨e1, e2, e3, e4⟩; go_simp; try with_reducible rfl)
        have HFP := Lib.hid hp21
        have HFB := Lib.hid ((HB0.out.trans hb20).trans hb21)
        clear hp20 hb20 hp21 hb21 hA20 hO20 hA21 hO21 q1 q2 hS hS1 hS2
        refine wpAnyH_done (by kernel_rfl) ?_ _
        go_simp
        go_wp2
        go_ret
        exact ⟨rfl, HFP.out, HFB.out⟩
      · have hml : l = m := by have := HM.out; unfold deedL at this; simpa [hk0, hk1, hk2] using this
        subst hml
        have e0 : (k == 0) = false := by simpa using hk0
        have e1 : (k == 1) = false := by simpa using hk1
        have e2 : (k == 2) = false := by simpa using hk2
        go_enter Try.func13, Try.ntmps13
        go_wp2
        go_ret
        exact ⟨rfl, by rw [HW0.out]; exact P0.out.1, by rw [HW0.out]; exact P0.out.2⟩
end Go.Proofs.Ytngomgjhakgehaa
