/- The document's example. -/
import Derived.Test.YtngomgjhakgehaaT
namespace Go.Proofs.Ytngomgjhakgehaa
open Go.RowKit Go.Maps

theorem IdBox.only {S : Nat → Prop} {w w' : World} {g : Nat} {p : IdP} (h : IdBox w g p) (ho : Only S w w') (hg : ¬ S g) : IdBox w' g p :=
  ⟨(World.cell?_of_block (ho.block g h.2.2 hg)).trans h.1, (World.cell?_of_block (ho.block g h.2.2 hg)).trans h.2.1, Nat.lt_of_lt_of_le h.2.2 ho.size⟩
theorem own_only {S : Nat → Prop} {w w' : World} {base : Nat} {v : Value} {n : Nat} {xs : List Value} (h : w.ownsRow base 25 2 v n xs) (ho : Only S w w') (hS : ∀ b, base ≤ b → ¬ S b) : w'.ownsRow base 25 2 v n xs := by
  refine ⟨h.1, ?_⟩
  rcases h.2 with h5 | ⟨g, cap, cur, hv, h0, hg, h6⟩
  · exact .inl h5
  · exact .inr ⟨g, cap, cur, hv, h0, (ho.block g (Array.getElem?_eq_some_iff.1 hg).1 (hS g h0)).trans hg, h6⟩
theorem own_later {w w' : World} {base : Nat} {v : Value} {n : Nat} {xs : List Value} (h : w.ownsRow base 25 2 v n xs) (hb : Below w.heap.size w w') : w'.ownsRow base 25 2 v n xs := by
  refine ⟨h.1, ?_⟩
  rcases h.2 with h5 | ⟨g, cap, cur, hv, h0, hg, h6⟩
  · exact .inl h5
  · exact .inr ⟨g, cap, cur, hv, h0, (hb.block g (Array.getElem?_eq_some_iff.1 hg).1).trans hg, h6⟩
theorem ids3 (w : World) (b : Nat) (hb : b = w.heap.size) : IdsAt (w.alloc (.cells #[.int .i64 0, .int .i64 1, .int .i64 0, .int .i64 2, .int .i64 0, .int .i64 3] 25)) (.slice (some ⟨b, 0, none⟩) 3 3) [(0, 1), (0, 2), (0, 3)] := by
  subst hb
  refine ⟨_, _, rfl, by decide, fun k p hk => ⟨_, rfl, ?_⟩⟩
  match k, hk with
  | 0, hk => simp at hk; subst hk; exact ⟨(World.cell?_alloc_new _ _ _ _).trans rfl, (World.cell?_alloc_new _ _ _ _).trans rfl⟩
  | 1, hk => simp at hk; subst hk; exact ⟨(World.cell?_alloc_new _ _ _ _).trans rfl, (World.cell?_alloc_new _ _ _ _).trans rfl⟩
  | 2, hk => simp at hk; subst hk; exact ⟨(World.cell?_alloc_new _ _ _ _).trans rfl, (World.cell?_alloc_new _ _ _ _).trans rfl⟩
  | (k + 3), hk => simp at hk
theorem ids1 (w : World) (b : Nat) (hb : b = w.heap.size) (x y : Int) : IdsAt (w.alloc (.cells #[.int .i64 x, .int .i64 y] 25)) (.slice (some ⟨b, 0, none⟩) 1 1) [(x, y)] := by
  subst hb
  refine ⟨_, _, rfl, Nat.le_refl _, fun k p hk => ⟨_, rfl, ?_⟩⟩
  match k, hk with
  | 0, hk => simp at hk; subst hk; exact ⟨(World.cell?_alloc_new _ _ _ _).trans rfl, (World.cell?_alloc_new _ _ _ _).trans rfl⟩
  | (k + 1), hk => simp at hk

def L3 : List Ent := [((0, 1), true), ((0, 2), true), ((0, 3), true)]
def L2 : List Ent := [((0, 1), true), ((0, 2), false), ((0, 3), true)]
/-- what awake holds -/
structure AwI (w : World) (s top : Nat) (l : List Ent) (W : World) : Prop where
  x : IdBox W w.heap.size (0, 1)
  y : IdBox W (w.heap.size + 1) (0, 2)
  z : IdBox W (w.heap.size + 1 + 1) (0, 3)
  ax : AxAt W s (fun b => s ≤ b ∧ b < top) l
  below : Below w.heap.size w W
  hs : w.heap.size + 1 + 1 < s
  ht : top ≤ W.heap.size
theorem AwI.later {w W W' : World} {s top : Nat} {l : List Ent} (h : AwI w s top l W) (hb : Below W.heap.size W W') : AwI w s top l W' :=
  ⟨h.x.below hb, h.y.below hb, h.z.below hb, h.ax.later hb, h.below.trans (hb.mono h.below.size), h.hs, Nat.le_trans h.ht hb.size⟩
theorem AwI.turned {w W W' : World} {s top : Nat} {l m : List Ent} (h : AwI w s top l W) (hb : Only (fun b => s ≤ b ∧ b < top) W W') (ha : AxAt W' s (fun b => s ≤ b ∧ b < top) m) : AwI w s top m W' :=
  have := h.hs
  ⟨h.x.only hb (by omega), h.y.only hb (by omega), h.z.only hb (by omega), ha, h.below.trans (hb.below h.below.size (fun b hb => by omega)), h.hs, Nat.le_trans h.ht hb.size⟩

set_option maxRecDepth 100000 in
set_option maxHeartbeats 1600000 in
theorem awake_any (w : World) : Calls Try.prog 10 #[] w fun e w' => e = .returned (.bool true) ∧ Below w.heap.size w w' := by
  go_enter Try.func10, Try.ntmps10
  go_wp2_with fail
  obtain ⟨w4, hw4⟩ : ∃ w4, ((((w.alloc (Obj.cells #[Value.int IntKind.i64 0, Value.int IntKind.i64 1] 25)).alloc (Obj.cells #[Value.int IntKind.i64 0, Value.int IntKind.i64 2] 25)).alloc (Obj.cells #[Value.int IntKind.i64 0, Value.int IntKind.i64 3] 25)).alloc (Obj.cells #[Value.int IntKind.i64 0, Value.int IntKind.i64 1, Value.int IntKind.i64 0, Value.int IntKind.i64 2, Value.int IntKind.i64 0, Value.int IntKind.i64 3] 25)) = w4 := ⟨_, rfl⟩
  rw [hw4]
  have hids : IdsAt w4 (.slice (some ⟨w.heap.size + 1 + 1 + 1, 0, none⟩) 3 3) [(0, 1), (0, 2), (0, 3)] := by rw [← hw4]; exact ids3 _ _ (by simp)
  have hsz : w4.heap.size = w.heap.size + 1 + 1 + 1 + 1 := by rw [← hw4]; simp
  have hB4 : Below w.heap.size w w4 := by rw [← hw4]; exact ((((Below.refl _ _).alloc (Nat.le_refl _) _).alloc (by simp) _).alloc (by simp; omega) _).alloc (by simp; omega) _
  have hx : IdBox w4 w.heap.size (0, 1) := by
    rw [← hw4]; exact (((IdBox.new w 0 1).below ((Below.refl _ _).alloc (Nat.le_refl _) _)).below ((Below.refl _ _).alloc (Nat.le_refl _) _)).below ((Below.refl _ _).alloc (Nat.le_refl _) _)
  have hy : IdBox w4 (w.heap.size + 1) (0, 2) := by
    rw [← hw4]
    have := IdBox.new (w.alloc (Obj.cells #[Value.int IntKind.i64 0, Value.int IntKind.i64 1] 25)) 0 2
    rw [show (w.alloc (Obj.cells #[Value.int IntKind.i64 0, Value.int IntKind.i64 1] 25)).heap.size = w.heap.size + 1 by simp] at this
    exact (this.below ((Below.refl _ _).alloc (Nat.le_refl _) _)).below ((Below.refl _ _).alloc (Nat.le_refl _) _)
  have hz : IdBox w4 (w.heap.size + 1 + 1) (0, 3) := by
    rw [← hw4]
    have := IdBox.new ((w.alloc (Obj.cells #[Value.int IntKind.i64 0, Value.int IntKind.i64 1] 25)).alloc (Obj.cells #[Value.int IntKind.i64 0, Value.int IntKind.i64 2] 25)) 0 3
    rw [show ((w.alloc (Obj.cells #[Value.int IntKind.i64 0, Value.int IntKind.i64 1] 25)).alloc (Obj.cells #[Value.int IntKind.i64 0, Value.int IntKind.i64 2] 25)).heap.size = w.heap.size + 1 + 1 by simp] at this
    exact this.below ((Below.refl _ _).alloc (Nat.le_refl _) _)
  clear hw4
  refine (new_any _ [(0, 1), (0, 2), (0, 3)] w4 hids (by intro p hp; simp at hp; rcases hp with rfl | rfl | rfl <;> exact ⟨by decide, by decide⟩) (by decide)).mono ?_
  rintro e w5 ⟨rfl, hA, hB⟩
  obtain ⟨s, hs⟩ : ∃ s, w4.heap.size = s := ⟨_, rfl⟩
  rw [hs] at hA ⊢
  have HI5 : Hid (AwI w s w5.heap.size L3 w5) := Lib.hid ⟨hx.below hB, hy.below hB, hz.below hB, hA.wider (fun b h1 h2 => ⟨h1, h2⟩), hB4.trans (hB.mono hB4.size), by omega, Nat.le_refl _⟩
  obtain ⟨top, htop⟩ : ∃ top, w5.heap.size = top := ⟨_, rfl⟩
  rw [htop] at HI5
  clear hids hB4 hx hy hz hA hB hs hsz htop
  obtain ⟨y0, y1, _⟩ := HI5.out.y
  simp only at y0 y1
  go_wp2_with fail
  refine (delete_any s _ L3 0 2 w5 HI5.out.ax (by decide)).mono ?_
  rw [show TurnOut s (fun b => s ≤ b ∧ b < top) L3 (0, 2) false w5 = fun e w' => e = .returned (.int .i64 0) ∧ AxAt w' s (fun b => s ≤ b ∧ b < top) L2 ∧ Only (fun b => s ≤ b ∧ b < top) w5 w' from rfl]
  rintro e w6 ⟨rfl, hA, hO⟩
  have HI6 := Lib.hid (HI5.out.turned hO hA)
  clear hA hO y0 y1
  go_wp2_with fail
  refine (at_any _ L2 1 w6 HI6.out.ax.p (by decide)).mono ?_
  rw [show atF 1 0 L2 = ((0, 3), true) by decide]
  rintro e w7 ⟨rfl, hB⟩
  have hI7 := HI6.out.later hB
  have hbx := IdBox.new w7 0 3
  have hbb : Below w7.heap.size w7 (w7.alloc (Obj.cells #[Value.int IntKind.i64 0, Value.int IntKind.i64 3] 25)) := (Below.refl _ _).alloc (Nat.le_refl _) _
  have HI8 := Lib.hid (hI7.later hbb)
  have HB8 := Lib.hid hbx
  obtain ⟨y0, y1, _⟩ := HI8.out.y
  obtain ⟨z0, z1, _⟩ := HI8.out.z
  simp only at y0 y1 z0 z1
  have htl := hI7.ht
  clear hB hI7 hbx hbb
  go_wp2_with fail
  refine (between_any _ L2 0 2 0 3 _ HI8.out.ax.o (by decide)).mono ?_
  rw [show betweenE L2 (0, 2) (0, 3) = [(0, 3)] by decide]
  rintro e w9 ⟨⟨v, rfl, hown⟩, hB⟩
  have HI9 := Lib.hid (HI8.out.later hB)
  have HB9 := Lib.hid (HB8.out.below hB)
  have HO9 := Lib.hid hown
  obtain ⟨y0', y1', _⟩ := HI9.out.y
  simp only at y0' y1'
  have hsz7 : (w7.alloc (Obj.cells #[Value.int IntKind.i64 0, Value.int IntKind.i64 3] 25)).heap.size = w7.heap.size + 1 := by simp
  rw [hsz7] at HO9
  obtain ⟨g7, hg7⟩ : ∃ g, w7.heap.size = g := ⟨_, rfl⟩
  rw [hg7] at HB9 HO9 htl ⊢
  clear hB hown y0 y1 z0 z1 hsz7 hg7 HI8 HB8
  go_wp2_with fail
  refine (revive_any s _ L2 0 2 w9 HI9.out.ax (by decide)).mono ?_
  rw [show TurnOut s (fun b => s ≤ b ∧ b < top) L2 (0, 2) true w9 = fun e w' => e = .returned (.int .i64 0) ∧ AxAt w' s (fun b => s ≤ b ∧ b < top) L3 ∧ Only (fun b => s ≤ b ∧ b < top) w9 w' from rfl]
  rintro e w10 ⟨rfl, hA, hO⟩
  have HI10 := Lib.hid (HI9.out.turned hO hA)
  have HB10 := Lib.hid (HB9.out.only hO (by omega))
  have HO10 := Lib.hid (own_only HO9.out hO (fun b h1 h2 => by omega))
  clear hA hO y0' y1'
  go_wp2_with fail
  refine (at_any _ L3 1 w10 HI10.out.ax.p (by decide)).mono ?_
  rw [show atF 1 0 L3 = ((0, 2), true) by decide]
  rintro e w11 ⟨rfl, hB⟩
  have hbb : Below w11.heap.size w11 (w11.alloc (Obj.cells #[Value.int IntKind.i64 0, Value.int IntKind.i64 2] 25)) := (Below.refl _ _).alloc (Nat.le_refl _) _
  have HI11 := Lib.hid ((HI10.out.later hB).later hbb)
  have HB11 := Lib.hid ((HB10.out.below hB).below hbb)
  have HO11 := Lib.hid (own_later (own_later HO10.out hB) hbb)
  obtain ⟨y0, y1, _⟩ := HI11.out.y
  obtain ⟨z0, z1, _⟩ := HI11.out.z
  obtain ⟨t0, t1, _⟩ := HB11.out
  obtain ⟨k0, k1, _⟩ := IdBox.new w11 0 2
  simp only at y0 y1 z0 z1 t0 t1 k0 k1
  clear hB hbb
  have hlb : Below (w11.alloc (Obj.cells #[Value.int IntKind.i64 0, Value.int IntKind.i64 2] 25)).heap.size (w11.alloc (Obj.cells #[Value.int IntKind.i64 0, Value.int IntKind.i64 2] 25)) ((w11.alloc (Obj.cells #[Value.int IntKind.i64 0, Value.int IntKind.i64 2] 25)).alloc (Obj.cells #[Value.int IntKind.i64 0, Value.int IntKind.i64 3] 25)) := (Below.refl _ _).alloc (Nat.le_refl _) _
  have HV := Lib.hid ((ids_of_own (l := [(0, 3)]) HO11.out).below hlb)
  have HLB := Lib.hid hlb
  have HK := Lib.hid (IdBox.new w11 0 2)
  clear hlb
  go_wp2_with fail
  refine (same_ids v _ [(0, 3)] [(0, 3)] _ HV.out (ids1 _ _ (by simp) 0 3) (by decide)).mono ?_
  rw [show decide ([((0 : Int), (3 : Int))] = [(0, 3)]) = true by decide]
  rintro e w13 ⟨rfl, hB⟩
  have hI13 := (HI11.out.later HLB.out).later hB
  obtain ⟨m0, m1, _⟩ := hI13.y
  obtain ⟨n0, n1, _⟩ := (HK.out.below HLB.out).below hB
  simp only at m0 m1 n0 n1
  have HI13 := Lib.hid hI13
  clear hI13 hB y0 y1 z0 z1 t0 t1 k0 k1
  go_wp2
  go_ret
  exact ⟨rfl, HI13.out.below⟩
end Go.Proofs.Ytngomgjhakgehaa
