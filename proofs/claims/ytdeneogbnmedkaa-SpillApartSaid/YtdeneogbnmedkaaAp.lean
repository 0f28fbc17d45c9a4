/- The law SpillApart. -/
import Derived.Test.YtdeneogbnmedkaaBa
import Derived.Test.YtdeneogbnmedkaaNq
namespace Go.Proofs.Ytdeneogbnmedkaa
open Go.RowKit Go.Maps Go.Shelf
attribute [local go_sem] Oper.semAt_some

theorem info47 : (Try.prog.info? 47).map (fun i => (i.zero, i.size, i.bytes)) = some (some (.agg #[.int .i64 0, .int .i64 0, .int .i64 0, .int .i64 0]), 4, 32) := by kernel_rfl
def flat4 (l : List R4) : List Value := l.flatMap fun e => [.int .i64 e.1, .int .i64 e.2.1, .int .i64 e.2.2.1, .int .i64 e.2.2.2]
theorem flat4_len (l : List R4) : (flat4 l).length = l.length * 4 := by
  induction l with
  | nil => rfl
  | cons p l ih => simp [flat4, List.flatMap_cons] at ih ⊢; omega
theorem flat4_app (l m : List R4) : flat4 (l ++ m) = flat4 l ++ flat4 m := by simp [flat4]
theorem flat4_cons (e : R4) (l : List R4) : flat4 (e :: l) = .int .i64 e.1 :: .int .i64 e.2.1 :: .int .i64 e.2.2.1 :: .int .i64 e.2.2.2 :: flat4 l := by simp [flat4]
theorem flat4_at {l : List R4} {k : Nat} {e : R4} (h : l[k]? = some e) : (flat4 l)[k * 4]? = some (.int .i64 e.1) ∧ (flat4 l)[k * 4 + 1]? = some (.int .i64 e.2.1) ∧ (flat4 l)[k * 4 + 2]? = some (.int .i64 e.2.2.1) ∧ (flat4 l)[k * 4 + 3]? = some (.int .i64 e.2.2.2) := by
  induction l generalizing k with
  | nil => simp at h
  | cons q l ih =>
    rw [flat4_cons]
    cases k with
    | zero => simp at h; subst h; simp
    | succ k =>
      have := ih (k := k) (by simpa using h)
      rw [show (k + 1) * 4 = k * 4 + 1 + 1 + 1 + 1 by omega]
      simpa using this
/-- a slice of rects -/
def RcAt (w : World) (v : Value) (l : List R4) : Prop :=
  ∃ A c, v = .slice A l.length c ∧ l.length ≤ c ∧ ∀ (k : Nat) e, l[k]? = some e → ∃ ad, A = some ad ∧ w.cell? (ad.add (k * 4)) = some (.int .i64 e.1) ∧ w.cell? ⟨(ad.add (k * 4)).block, (ad.add (k * 4)).off + 1, none⟩ = some (.int .i64 e.2.1) ∧ w.cell? ⟨(ad.add (k * 4)).block, (ad.add (k * 4)).off + 2, none⟩ = some (.int .i64 e.2.2.1) ∧ w.cell? ⟨(ad.add (k * 4)).block, (ad.add (k * 4)).off + 3, none⟩ = some (.int .i64 e.2.2.2)
theorem rc_of_own {w : World} {base : Nat} {v : Value} {l : List R4} (h : w.ownsRow base 47 4 v l.length (flat4 l)) : RcAt w v l := by
  rcases h.2 with ⟨rfl, h0⟩ | ⟨g, cap, cur, rfl, _, hb, hnc, _, hsz, hcur⟩
  · obtain rfl : l = [] := List.eq_nil_of_length_eq_zero h0
    exact ⟨none, 0, rfl, Nat.le_refl _, fun k p h => by simp at h⟩
  · refine ⟨_, _, rfl, hnc, fun k p hk => ⟨_, rfl, ?_⟩⟩
    obtain ⟨e1, e2, e3, e4⟩ := flat4_at hk
    have hat : ∀ j u, (flat4 l)[j]? = some u → cur[j]? = some u := fun j u hu => by
      have hj : j < l.length * 4 := by have := (List.getElem?_eq_some_iff.1 hu).1; rw [flat4_len] at this; exact this
      rw [← hcur, List.getElem?_take_of_lt hj] at hu
      simpa using hu
    rw [add_off]
    refine ⟨?_, ?_, ?_, ?_⟩
    · simp [World.cell?, hb, hat _ _ e1]
    · simp [World.cell?, hb, hat _ _ e2]
    · simp [World.cell?, hb, hat _ _ e3]
    · simp [World.cell?, hb, hat _ _ e4]
theorem RcAt.below {w w' : World} {v : Value} {l : List R4} (h : RcAt w v l) (hb : Below w.heap.size w w') : RcAt w' v l := by
  obtain ⟨A, c, hv, hc, h⟩ := h
  refine ⟨A, c, hv, hc, fun k p hk => ?_⟩
  obtain ⟨ad, hA, h1, h2, h3, h4⟩ := h k p hk
  exact ⟨ad, hA, (hb.cell (cell_lt h1)).trans h1, (hb.cell (cell_lt h2)).trans h2, (hb.cell (cell_lt h3)).trans h3, (hb.cell (cell_lt h4)).trans h4⟩
theorem row4_blk {w : World} {v : Value} {n base : Nat} {xs : List Value} (h : w.ownsRow base 47 4 v n xs) {g : Nat} (hg : v.ownBlock = some g) : base ≤ g ∧ ∃ cur, w.heap[g]? = some (.cells cur 47 (0, 0)) := by
  rcases h.2 with ⟨rfl, _⟩ | ⟨g', cap, cur, rfl, h0, hb, _⟩
  · cases hg
  · injection hg with hg; subst hg; exact ⟨h0, cur, hb⟩
theorem row4_kept {w w' : World} {v : Value} {n base : Nat} {xs : List Value} (h : w.ownsRow base 47 4 v n xs) (hk : ∀ g, v.ownBlock = some g → w'.heap[g]? = w.heap[g]?) : w'.ownsRow base 47 4 v n xs := by
  refine ⟨h.1, ?_⟩
  rcases h.2 with h5 | ⟨g, cap, cur, hv, h0, hg, h6⟩
  · exact .inl h5
  · exact .inr ⟨g, cap, cur, hv, h0, (hk g (by rw [hv]; rfl)).trans hg, h6⟩
/-- the rects that stand -/
def standL (pre : List Dc) : List R4 := (pre.filter (·.st)).map (·.r)
theorem stand_snoc (pre : List Dc) (d : Dc) : standL (pre ++ [d]) = standL pre ++ (if d.st then [d.r] else []) := by
  unfold standL
  rw [List.filter_append, List.map_append]
  congr 1
  cases h : d.st <;> simp [h]
/-- between two rounds: all the rects that stood so far lie in the slice of the box g -/
structure ApI (W3 : World) (g : Nat) (pre : List Dc) (W : World) : Prop where
  only : Only (fun b => b = g ∨ W3.heap.size ≤ b) W3 W
  box : ∃ v, Boxed W g 52 v ∧ W.ownsRow W3.heap.size 47 4 v (standL pre).length (flat4 (standL pre))
theorem ap_rec {W3 : World} {g : Nat} (_ : g < W3.heap.size) : OwnRec W3.heap.size (ApI W3 g) := fun pre W W' row h hgr hr => by
  have hrow : ∀ k cs t fr, W.heap[k]? = some (.cells cs t fr) → some k ≠ row := fun k cs t fr hk he => by
    obtain ⟨_, o, ho, hi⟩ := hr k he.symm
    rw [hk] at ho
    injection ho with ho
    subst ho
    cases hi
  obtain ⟨v, hb, hw⟩ := h.box
  refine ⟨h.only.trans (Only.of_grown hgr) (fun b hb hlt => by obtain ⟨h1, _⟩ := hr b hb; omega), v, (hgr.block g (box_lt hb) (hrow _ _ _ _ hb)).trans hb, row4_kept hw (fun k hk => ?_)⟩
  obtain ⟨_, cur, hc⟩ := row4_blk hw hk
  exact hgr.block k (Array.getElem?_eq_some_iff.1 hc).1 (hrow _ _ _ _ hc)
theorem ApI.later {W3 W W' : World} {g : Nat} {pre : List Dc} (h : ApI W3 g pre W) (hb : Below W.heap.size W W') : ApI W3 g pre W' := by
  obtain ⟨v, hx, hw⟩ := h.box
  exact ⟨h.only.later hb, v, box_kept hx (hb.block _ (box_lt hx)), row4_kept hw (fun k hk => by obtain ⟨_, cur, hc⟩ := row4_blk hw hk; exact hb.block k (Array.getElem?_eq_some_iff.1 hc).1)⟩
theorem lit4 {w : World} {x y z u : Value} {b : Nat} (hb : b = w.heap.size) : ∀ (j : Nat) (t : Value), [x, y, z, u][j]? = some t → (w.alloc (.cells #[x, y, z, u] 47)).cell? ((⟨b, 0, none⟩ : Addr).add j) = some t := by
  subst hb
  intro j t hj
  rw [add_off]
  match j, hj with
  | 0, hj => simp at hj; subst hj; exact (World.cell?_alloc_new _ _ _ _).trans rfl
  | 1, hj => simp at hj; subst hj; exact (World.cell?_alloc_new _ _ _ _).trans rfl
  | 2, hj => simp at hj; subst hj; exact (World.cell?_alloc_new _ _ _ _).trans rfl
  | 3, hj => simp at hj; subst hj; exact (World.cell?_alloc_new _ _ _ _).trans rfl
  | j + 4, hj => simp at hj
theorem one_lit4 (x y z u : Int) : ∀ t ∈ [Value.int .i64 x, Value.int .i64 y, Value.int .i64 z, Value.int .i64 u], t.oneCell' = true := by
  intro t ht
  simp only [List.mem_cons, List.not_mem_nil, or_false] at ht
  rcases ht with rfl | rfl | rfl | rfl <;> rfl
theorem ap_skip {W3 W : World} {g : Nat} {pre : List Dc} {d : Dc} (h : ApI W3 g pre W) (hs : d.st = false) : ApI W3 g (pre ++ [d]) W := by
  have : standL (pre ++ [d]) = standL pre := by rw [stand_snoc, hs]; simp
  exact ⟨h.only, by rw [this]; exact h.box⟩
/-- one rect more lies in the slice -/
theorem ap_more {W3 W W1 W2 : World} {g : Nat} {pre : List Dc} {d : Dc} {v v' : Value} (h : ApI W3 g pre W) (hg : g < W3.heap.size) (hv : Boxed W g 52 v) (hb : Below W.heap.size W W1) (hs : d.st = true)
    (hown : W2.ownsRow W3.heap.size 47 4 v' ((standL pre).length + 1) (flat4 (standL pre) ++ [.int .i64 d.r.1, .int .i64 d.r.2.1, .int .i64 d.r.2.2.1, .int .i64 d.r.2.2.2])) (hgr : W1.grownBy W2 v.ownBlock) :
    (Boxed W2 g 52 v ∧ ApI W3 g (pre ++ [d]) (W2.setCell ⟨g, 0, none⟩ v')) ∧ (∀ k o, k ≠ g → k < W.heap.size → v.ownBlock ≠ some k → W.heap[k]? = some o → (W2.setCell ⟨g, 0, none⟩ v').heap[k]? = some o) ∧ W1.heap.size ≤ W2.heap.size := by
  obtain ⟨u, hx, hw⟩ := h.box
  have huv : u = v := by
    unfold Boxed at hx hv
    rw [hx] at hv
    injection hv with hv
    injection hv with hv
    simpa using hv
  subst huv
  have hgw := box_lt hv
  have hne : some g ≠ u.ownBlock := fun e => by
    obtain ⟨h1, _⟩ := row4_blk hw e.symm
    omega
  have hx2 : Boxed W2 g 52 u := (hgr.block g (Nat.lt_of_lt_of_le hgw hb.size) hne).trans (box_kept hx (hb.block _ hgw))
  have ho : Only (fun b => b = g ∨ W3.heap.size ≤ b) W3 W2 := (h.only.later hb).trans (Only.of_grown hgr) (fun b hb' _ => .inr (row4_blk hw hb').1)
  have hsn : standL (pre ++ [d]) = standL pre ++ [d.r] := by rw [stand_snoc, hs]; rfl
  have hown' : W2.ownsRow W3.heap.size 47 4 v' (standL (pre ++ [d])).length (flat4 (standL (pre ++ [d]))) := by
    rw [hsn, flat4_app, List.length_append]
    exact hown
  refine ⟨⟨hx2, ho.trans (only_set g 0 _) (fun b hb _ => .inl hb), v', hx2.set v', row4_kept hown' (fun k hk => Below.heap_setCell _ _ _ _ (fun e => ?_))⟩, fun k o hkg hkl hkv hko => ?_, hgr.size⟩
  · obtain ⟨h1, _⟩ := row4_blk hown' hk
    have : k = g := e
    omega
  · exact (Below.heap_setCell _ _ _ _ (fun e => hkg e)).trans ((hgr.block k (Nat.lt_of_lt_of_le hkl hb.size) (fun e => hkv e.symm)).trans ((hb.block k hkl).trans hko))
set_option maxRecDepth 100000 in
set_option maxHeartbeats 16000000 in
theorem apart_law {w : World} (r : Int) (hr : 0 ≤ r ∧ r ≤ 255) (c : Int) (hc : 0 ≤ c ∧ c ≤ 255) (v : Value) (l : List ActP) (ha : ActsAt w v l) (hwf : ∀ d ∈ l, WfA d) :
    Calls Try.prog 4 #[.int .u8 r, .int .u8 c, v] w fun e w' => e = .returned (.bool true) ∧ Below w.heap.size w w' := by
  obtain ⟨i0, hj, hj0, hj1, hj2⟩ := info_parts info47
  obtain ⟨A, cc, rfl, hcc, _⟩ := id ha
  have HA := Lib.hid ha
  have HWF := Lib.hid hwf
  have HRB := Lib.hid hr
  have HCB := Lib.hid hc
  have hb0 : Below w.heap.size w (((w.alloc (.cells #[.int .u8 r] 5)).alloc (.cells #[.int .u8 c] 5)).alloc (.cells #[.bool false] 4)) := (((Below.refl _ _).alloc (Nat.le_refl _) _).alloc (by simp) _).alloc (by simp; omega) _
  have hx0 : Boxed (((w.alloc (.cells #[.int .u8 r] 5)).alloc (.cells #[.int .u8 c] 5)).alloc (.cells #[.bool false] 4)) w.heap.size 5 (.int .u8 r) := ((Boxed.new w 5 _).alloc _).alloc _
  have hx1 : Boxed (((w.alloc (.cells #[.int .u8 r] 5)).alloc (.cells #[.int .u8 c] 5)).alloc (.cells #[.bool false] 4)) (w.heap.size + 1) 5 (.int .u8 c) := by
    have := (Boxed.new (w.alloc (.cells #[.int .u8 r] 5)) 5 (.int .u8 c)).alloc (.cells #[.bool false] 4)
    simpa using this
  have hx2 : Boxed (((w.alloc (.cells #[.int .u8 r] 5)).alloc (.cells #[.int .u8 c] 5)).alloc (.cells #[.bool false] 4)) (w.heap.size + 2) 4 (.bool false) := by
    have := Boxed.new ((w.alloc (.cells #[.int .u8 r] 5)).alloc (.cells #[.int .u8 c] 5)) 4 (.bool false)
    simpa using this
  have hsz : (((w.alloc (.cells #[.int .u8 r] 5)).alloc (.cells #[.int .u8 c] 5)).alloc (.cells #[.bool false] 4)).heap.size = w.heap.size + 3 := by simp
  clear ha hwf hr hc
  refine (callsIn_wide (n := 6)).1 ?_
  refine callsIn_of_wp_marks Try.func4 rfl trivial ?_ rfl
  simp only [Try.ntmps4, List.size_toArray, List.length_cons, List.length_nil, Nat.reduceAdd, Nat.reduceSub, Array.replicate_succ, Array.replicate_zero, List.push_toArray, List.append_toArray, List.nil_append, List.cons_append]
  have hfA : Fence.wide.fn 9 := trivial
  have hfP : Fence.wide.fn 19 := trivial
  have hfR : Fence.wide.fn 16 := trivial
  obtain ⟨W0, hW0⟩ : ∃ W0, W0 = (((w.alloc (.cells #[.int .u8 r] 5)).alloc (.cells #[.int .u8 c] 5)).alloc (.cells #[.bool false] 4)) := ⟨_, rfl⟩
  rw [← hW0] at hb0 hx0 hx1 hx2 hsz
  have HB0 := Lib.hid hb0
  have HX0 := Lib.hid hx0
  have HX1 := Lib.hid hx1
  have HX2 := Lib.hid hx2
  have HW0 := Lib.hid hW0
  clear hb0 hx0 hx1 hx2 hW0
  gi_wp2_with fail
  rw [← HW0.out]
  refine (callsIn_wide.2 (awake_any _)).mono ?_
  rintro e w1 ⟨rfl, hb1⟩
  have HB1 := Lib.hid (HB0.out.trans (hb1.mono (by omega)))
  have hy0 := box_kept HX0.out (hb1.block _ (box_lt HX0.out))
  have hy1 := box_kept HX1.out (hb1.block _ (box_lt HX1.out))
  have hy2 := box_kept HX2.out (hb1.block _ (box_lt HX2.out))
  have hsz1 : w.heap.size + 3 ≤ w1.heap.size := by have := hb1.size; omega
  have HY0 := Lib.hid hy0
  have HY1 := Lib.hid hy1
  have HY2 := Lib.hid hy2
  clear hb1 HX0 HX1 HX2 HB0 HW0 hsz
  by_cases hlen : l.length ≤ 60
  · have hlt : ¬ (60 : Int) < ↑l.length := by omega
    have c0 := hy0.cell
    have c1 := hy1.cell
    clear hy0 hy1 hy2
    gi_wp2_with fail
    refine (callsIn_wide.2 (play_up (Below.refl _ w1) _ l (HA.out.below HB1.out) HWF.out hlen r c HRB.out HCB.out)).mono ?_
    rintro e w2 ⟨s, rfl, hu⟩
    have HU := Lib.hid hu
    clear hu c0 c1
    gi_wp2_with fail
    refine (callsIn_wide.2 (rects_call _ _)).mono ?_
    rintro e w3 ⟨rfl, rfl⟩
    obtain ⟨W3, hW3⟩ : ∃ W3, W3 = (((w2.alloc (.cells #[.pointer (some ⟨s, 0, none⟩)] 24)).alloc (.cells #[.slice none 0 0] 52)).alloc (.cells #[.pointer (some ⟨s, 0, none⟩)] 24)) := ⟨_, rfl⟩
    have hb23 : Below w2.heap.size w2 W3 := by rw [hW3]; exact (((Below.refl _ _).alloc (Nat.le_refl _) _).alloc (by simp) _).alloc (by simp; omega) _
    have hBR : BrdAt W3 s (fun b => w1.heap.size ≤ b ∧ b < w2.heap.size) l.length (playB r c l) := (HU.out.1.wider (fun b hb hl => ⟨hb, hl⟩)).later hb23
    have hv2 : Boxed W3 w2.heap.size 24 (.pointer (some ⟨s, 0, none⟩)) := by rw [hW3]; exact ((Boxed.new w2 24 _).alloc _).alloc _
    have hv3 : Boxed W3 (w2.heap.size + 2) 24 (.pointer (some ⟨s, 0, none⟩)) := by
      rw [hW3]
      have := Boxed.new ((w2.alloc (.cells #[.pointer (some ⟨s, 0, none⟩)] 24)).alloc (.cells #[.slice none 0 0] 52)) 24 (.pointer (some ⟨s, 0, none⟩))
      simpa using this
    have hv4 : Boxed W3 (w2.heap.size + 1) 52 (.slice none 0 0) := by
      rw [hW3]
      have := (Boxed.new (w2.alloc (.cells #[.pointer (some ⟨s, 0, none⟩)] 24)) 52 (.slice none 0 0)).alloc (.cells #[.pointer (some ⟨s, 0, none⟩)] 24)
      simpa using this
    have hs3 : W3.heap.size = w2.heap.size + 3 := by rw [hW3]; simp
    have hs12 : w1.heap.size ≤ w2.heap.size := HU.out.2.size
    have hb13 : Below w1.heap.size w1 W3 := HU.out.2.trans (hb23.mono HU.out.2.size)
    have hz0 := box_kept HY0.out (hb13.block _ (box_lt HY0.out))
    have hz1 := box_kept HY1.out (hb13.block _ (box_lt HY1.out))
    have hz2 := box_kept HY2.out (hb13.block _ (box_lt HY2.out))
    have HV2 := Lib.hid hv2
    have HZ0 := Lib.hid hz0
    have HZ1 := Lib.hid hz1
    have HZ2 := Lib.hid hz2
    have HBR := Lib.hid hBR
    have HBW3 : Hid (Below w.heap.size w W3) := Lib.hid (HB1.out.trans (hb13.mono HB1.out.size))
    have HI0 : Hid (ApI W3 (w2.heap.size + 1) [] W3) := Lib.hid ⟨Only.refl _ _, _, hv4, rfl, .inl ⟨rfl, rfl⟩⟩
    gi_wp2_with fail
    rw [← hW3]
    clear hb23 hBR hv2 hv4 hb13 hz0 hz1 hz2 HY0 HY1 HY2 HU hW3
    refine range_boxesQ (F := Fence.wide) rfl (by omega) (gf := 32) (lb := #[.pointer (some ⟨w2.heap.size + 1 + 1, 0, none⟩)]) rfl trivial (enters_of Try.func32 (by kernel_rfl) rfl)
      (rects_runs 5 (by omega) (w2.heap.size + 1 + 1) s l.length (fun b => w1.heap.size ≤ b ∧ b < w2.heap.size) (fun k => k < W3.heap.size ∧ k ≠ w2.heap.size + 1) (playB r c l) W3 hv3 HBR.out (by omega) ⟨by omega, by omega⟩ (fun k hk hkl => ⟨hkl, by omega⟩)) Keep.trans
      (keep_put (w := W3) (fun k hk => hk.1)) (Below.refl _ _) (fun _ => rfl)
      (ApI W3 (w2.heap.size + 1)) (ap_rec (by omega)) HI0.out (fun d => .cells #[.int .i64 d.r.1, .int .i64 d.r.2.1, .int .i64 d.r.2.2.1, .int .i64 d.r.2.2.2] 47) (fun d b => { tmps := #[.int .u8 r, .int .u8 c, .slice A l.length cc, .pointer (some ⟨w.heap.size, 0, none⟩), .pointer (some ⟨w.heap.size + 1, 0, none⟩), undef, .pointer (some ⟨w.heap.size + 1 + 1, 0, none⟩), .pointer (some ⟨w2.heap.size, 0, none⟩), .pointer (some ⟨w2.heap.size + 1, 0, none⟩), .pointer (some ⟨b, 0, none⟩), .bool d.st, undef, undef, undef, undef, .bool true, .bool false, .bool false, .slice A l.length cc, .int .i64 ↑l.length, .bool (decide ((60 : Int) < ↑l.length)), .bool (decide ((60 : Int) < ↑l.length)), undef, .int .u8 r, .int .u8 c, .slice A l.length cc, .pointer (some ⟨s, 0, none⟩), .pointer (some ⟨s, 0, none⟩), .func (.func 32) #[] #[.pointer (some ⟨w2.heap.size + 1 + 1, 0, none⟩)], .agg #[.int .i64 d.r.1, .int .i64 d.r.2.1, .int .i64 d.r.2.2.1, .int .i64 d.r.2.2.2], .bool d.st, undef, undef, undef, undef, undef, undef, undef, undef, undef, undef, undef, undef, undef, undef, undef, undef, undef, undef, undef, undef, undef, undef, undef, undef, undef, undef, undef, undef, undef, undef, undef, undef, undef, undef, undef, undef, undef, undef, undef, undef, undef, undef, undef, undef, undef, undef, undef, undef, undef, undef, undef, undef, undef, undef, undef, undef, undef, undef, undef, undef, undef, undef, undef, undef, undef, undef, undef, undef, undef, undef, undef, undef, undef, undef, undef, undef, undef, undef, undef, undef, undef, undef, undef, undef, undef, undef, undef, undef, undef, undef, undef, undef, undef, undef, undef, undef, undef, undef, undef, undef, undef, undef, undef, undef, undef, undef, undef, undef, undef, undef, undef, undef, undef, undef, undef], defers := [] })
      (fun W o => Keep.below ((Below.refl _ W).alloc (Nat.le_refl _) o)) ?assign ?body ?done
    case assign =>
      intro lp d W K hK
      gi_wp2
      exact hK
    case body =>
      rintro lp pre d b W WO hIO hbO hkO hI hpre hbge hbx
      have hmem : d ∈ (playB r c l).l := hpre.subset (by simp)
      have hinv := inv_play r c l
      have hj' := hinv.jud d hmem
      have hats := hinv.ats d hmem
      have hps := play_size r c l
      have hr0 := HRB.out
      have hc0 := HCB.out
      have hcr : clampF (r % 12) = r % 12 := by unfold clampF; omega
      have hcc9 : clampF (c % 12) = c % 12 := by unfold clampF; omega
      rw [hcr, hcc9] at hps
      have hbey : beyF (playB r c l) d.r = (decide (r % 12 - d.r.1 < d.r.2.2.1) || decide (c % 12 - d.r.2.1 < d.r.2.2.2)) := by unfold beyF; rw [hps.1, hps.2]
      have hbounds : 0 ≤ d.r.1 ∧ 0 ≤ d.r.2.1 ∧ d.r.1 < r % 12 ∧ d.r.2.1 < c % 12 := by
        have := (hasP_iff _ _).1 hats.1
        rw [hps.1, hps.2] at this
        simpa [anc] using this
      have hfit := (fitsF_iff _ _).1 hats.2
      have hst0 : ∀ o ∈ standL pre, (0 ≤ o.1 ∧ 0 ≤ o.2.1 ∧ o.1 < r % 12 ∧ o.2.1 < c % 12) ∧ (1 ≤ o.2.2.1 ∧ o.2.2.1 ≤ 4096) ∧ (1 ≤ o.2.2.2 ∧ o.2.2.2 ≤ 4096) ∧ (d.st = true → ∀ p, inR o p = true → inR d.r p = true → False) := fun o ho => by
        obtain ⟨e, he, rfl⟩ := List.mem_map.1 ho
        have he2 := List.mem_filter.1 he
        have hel : e ∈ (playB r c l).l := hpre.subset (by simp [he2.1])
        have h1 := (hasP_iff _ _).1 (hinv.ats e hel).1
        have h2 := (fitsF_iff _ _).1 (hinv.ats e hel).2
        rw [hps.1, hps.2] at h1
        have hdis := hinv.dis.sublist hpre.sublist
        rw [List.pairwise_append] at hdis
        simp only [anc] at h1
        exact ⟨by omega, by omega, by omega, fun hd => hdis.2.2 e he2.1 d (by simp) he2.2 hd⟩
      have hof : d.st = true → ownF (playB r c l).l (d.r.1 + d.r.2.2.1 - 1, d.r.2.1 + d.r.2.2.2 - 1) = some d.r := fun hs => ownF_of hinv hmem hs ((inR_iff _ _).2 (by simp only; omega))
      obtain ⟨vO, hvO, hwO⟩ := hIO.box
      have hgW3 : w2.heap.size + 1 < W3.heap.size := by omega
      have hv : Boxed W (w2.heap.size + 1) 52 vO := (hkO _ hgW3).trans hvO
      have hw : W.ownsRow W3.heap.size 47 4 vO (standL pre).length (flat4 (standL pre)) := by
        obtain ⟨u, hx, hw⟩ := hI.box
        have : u = vO := by
          unfold Boxed at hx hv
          rw [hx] at hv
          injection hv with hv
          injection hv with hv
          simpa using hv
        rw [← this]
        exact hw
      have hbrow : ∀ g, vO.ownBlock = some g → g < b := fun g hg => by
        obtain ⟨_, cur, hc⟩ := row4_blk hwO hg
        have := (Array.getElem?_eq_some_iff.1 hc).1
        omega
      obtain ⟨A9, c9, rfl⟩ := own_shape hw
      have hlenS : (standL pre).length ≤ 100000 := by
        have h1 : (standL pre).length ≤ pre.length := by unfold standL; rw [List.length_map]; exact List.length_filter_le _ _
        have h2 := hpre.length_le
        obtain ⟨_, _, _, _, _, hbw⟩ := HBR.out
        have h3 := hbw.len
        simp at h2
        omega
      have hk7 := hI.only.block _ (box_lt HV2.out) (by have := box_lt HV2.out; omega)
      have hk3 := hI.only.block _ (box_lt HZ0.out) (by have := box_lt HZ0.out; omega)
      have hk4 := hI.only.block _ (box_lt HZ1.out) (by have := box_lt HZ1.out; omega)
      have hx7 := box_kept HV2.out hk7
      have hx3 := box_kept HZ0.out hk3
      have hx4 := box_kept HZ1.out hk4
      have hbrd : BrdAt W s (fun b => w1.heap.size ≤ b ∧ b < w2.heap.size) l.length (playB r c l) := HBR.out.kept hI.only (fun b hb _ h => by omega)
      have HX7 := Lib.hid hx7
      have HBRD := Lib.hid hbrd
      have HI := Lib.hid hI
      have HV := Lib.hid hv
      have HW := Lib.hid hw
      have HBX := Lib.hid hbx
      have HBROW := Lib.hid hbrow
      have HST0 := Lib.hid hst0
      have hWb : W3.heap.size ≤ W.heap.size := hI.only.size
      have hbW : b < W.heap.size := (Array.getElem?_eq_some_iff.1 hbx).1
      have c3 := hx3.cell
      have c4 := hx4.cell
      have c8 := hv.cell
      clear hmem hinv hats hps hr0 hc0 hcr hcc9 hpre hst0 hvO hwO hkO hIO hk7 hk3 hk4 hx7 hx3 hx4 hbrd hv hw hbrow hI
      obtain ⟨⟨x, y, a, b'⟩, st, ⟨p, q⟩, hb⟩ := d
      simp only at hbey hbounds hfit hbx hof hj' HST0 ⊢
      obtain ⟨e0, e1, e2, e3, _⟩ := box4 hbx
      clear hbx
      have hfO : Fence.wide.fn 20 := trivial
      cases st with
      | false =>
        clear hbey hbounds hfit hof hj' c3 c4 c8
        gi_wp2
        exact ⟨KeepsRec.of_only (Only.refl (fun _ => False) _) (fun k o hk _ => hk.elim), Keep.refl, ap_skip HI.out rfl⟩
      | true =>
        have hby := (hj'.1 rfl).1
        rw [hbey] at hby
        simp only [Bool.or_eq_false_iff, decide_eq_false_iff_not] at hby
        obtain ⟨y1, y2⟩ := hby
        have hr2 : IntKind.i64.wrap r = r := by have := HRB.out; rw [IntKind.wrap_i64]; omega
        have hc2 : IntKind.i64.wrap c = c := by have := HCB.out; rw [IntKind.wrap_i64]; omega
        have hr1 : r.tmod 12 = r % 12 := Int.tmod_eq_emod_of_nonneg HRB.out.1
        have hc1 : c.tmod 12 = c % 12 := Int.tmod_eq_emod_of_nonneg HCB.out.1
        have hr3 : IntKind.i64.wrap (r % 12) = r % 12 := by rw [IntKind.wrap_i64]; omega
        have hc3 : IntKind.i64.wrap (c % 12) = c % 12 := by rw [IntKind.wrap_i64]; omega
        have hr4 : IntKind.i64.wrap (r % 12 - x) = r % 12 - x := by rw [IntKind.wrap_i64]; omega
        have hc4 : IntKind.i64.wrap (c % 12 - y) = c % 12 - y := by rw [IntKind.wrap_i64]; omega
        have y3 : ¬ x < 0 := by omega
        have y4 : ¬ y < 0 := by omega
        have y5 : ¬ a < 1 := by omega
        have y6 : ¬ b' < 1 := by omega
        have HOF := Lib.hid (hof rfl)
        have hxa : IntKind.i64.wrap (x + a) = x + a := by rw [IntKind.wrap_i64]; omega
        have hyb : IntKind.i64.wrap (y + b') = y + b' := by rw [IntKind.wrap_i64]; omega
        have hxa1 : IntKind.i64.wrap (x + a - 1) = x + a - 1 := by rw [IntKind.wrap_i64]; omega
        have hyb1 : IntKind.i64.wrap (y + b' - 1) = y + b' - 1 := by rw [IntKind.wrap_i64]; omega
        clear hof hj' hbey
        gi_wp2_with fail
        clear c3 c4 hr1 hr2 hr3 hr4 hc1 hc2 hc3 hc4 y1 y2 y3 y4 y5 y6
        gi_loopw [75] (fun i wr => ∃ k : Nat, k ≤ (standL pre).length ∧ i = .int .i64 k ∧ Below W.heap.size W wr) (fun i _ => (standL pre).length - (intOf i).toNat)
        case atStart => exact ⟨0, Nat.zero_le _, rfl, Below.refl _ _⟩
        case round =>
          obtain ⟨k, hk, rfl, hB⟩ := hrel
          have HB := Lib.hid hB
          obtain ⟨e0, e1, e2, e3, _⟩ := box4 ((hB.block b hbW).trans HBX.out)
          by_cases hlt : k < (standL pre).length
          · have hx : (standL pre)[k]? = some (standL pre)[k] := List.getElem?_eq_getElem hlt
            obtain ⟨o, ho⟩ : ∃ o, (standL pre)[k] = o := ⟨_, rfl⟩
            rw [ho] at hx
            obtain ⟨q1, q2, q3, q4⟩ := HST0.out o (List.mem_of_getElem? hx)
            obtain ⟨A5, c5, hv5, hc5, hI5⟩ := (rc_of_own HW.out).below hB
            simp only [Value.slice.injEq, true_and] at hv5
            obtain ⟨rfl, rfl⟩ := hv5
            obtain ⟨ad, rfl, k0, k1, k2, k3⟩ := hI5 k o hx
            obtain ⟨o1, o2, o3, o4⟩ := o
            simp only at k0 k1 k2 k3 q1 q2 q3 q4
            have hi0 : (0 : Int) ≤ ↑k := by omega
            have hi1 : (↑k : Int) < ↑(standL pre).length := by omega
            have hi2 : (↑(standL pre).length : Int) ≤ ↑c9 := by omega
            have hb2 : Below wr.heap.size wr (wr.alloc (.cells #[.int .i64 o1, .int .i64 o2, .int .i64 o3, .int .i64 o4] 47)) := (Below.refl _ _).alloc (Nat.le_refl _) _
            obtain ⟨t0, t1, t2, t3, _⟩ := box4 (World.alloc_heap_new wr (.cells #[.int .i64 o1, .int .i64 o2, .int .i64 o3, .int .i64 o4] 47))
            have hbw : b < wr.heap.size := Nat.lt_of_lt_of_le hbW hB.size
            obtain ⟨s0, s1, s2, s3, _⟩ := box4 ((hb2.block b hbw).trans ((hB.block b hbW).trans HBX.out))
            have HB2 := Lib.hid (hB.trans (hb2.mono hB.size))
            have w1' : IntKind.i64.wrap (o1 + o3) = o1 + o3 := by rw [IntKind.wrap_i64]; omega
            have w2' : IntKind.i64.wrap (o2 + o4) = o2 + o4 := by rw [IntKind.wrap_i64]; omega
            have hno : ¬ (x < o1 + o3 ∧ o1 < x + a ∧ y < o2 + o4 ∧ o2 < y + b') := fun hh => by
              refine q4 trivial (max x o1, max y o2) ((inR_iff _ _).2 ?_) ((inR_iff _ _).2 ?_)
              · simp only; omega
              · simp only; omega
            clear hB hx ho q1 q2 q3 q4 hI5 hb2 hbw e0 e1 e2 e3
            by_cases m1 : x < o1 + o3
            · by_cases m2 : o1 < x + a
              · by_cases m3 : y < o2 + o4
                · have m4 : ¬ o2 < y + b' := fun m4 => hno ⟨m1, m2, m3, m4⟩
                  clear hno
                  gi_wp2
                  go_roundw
                  case rel => exact ⟨k + 1, by omega, by simp, HB2.out⟩
                  case measure => simp [intOf]; omega
                · clear hno
                  gi_wp2
                  go_roundw
                  case rel => exact ⟨k + 1, by omega, by simp, HB2.out⟩
                  case measure => simp [intOf]; omega
              · clear hno
                gi_wp2
                go_roundw
                case rel => exact ⟨k + 1, by omega, by simp, HB2.out⟩
                case measure => simp [intOf]; omega
            · clear hno
              gi_wp2
              go_roundw
              case rel => exact ⟨k + 1, by omega, by simp, HB2.out⟩
              case measure => simp [intOf]; omega
          · obtain rfl : k = (standL pre).length := by omega
            have hlt2 : ¬ (↑(standL pre).length : Int) < ↑(standL pre).length := by omega
            have c8' := (box_kept HV.out (hB.block _ (box_lt HV.out))).cell
            have hwr : wr.ownsRow W3.heap.size 47 4 (.slice A9 (standL pre).length c9) (standL pre).length (flat4 (standL pre)) := row4_kept HW.out (fun g hg => by obtain ⟨_, cur, hc⟩ := row4_blk HW.out hg; exact hB.block g (Array.getElem?_eq_some_iff.1 hc).1)
            have HWR := Lib.hid hwr
            have hwz : W3.heap.size ≤ wr.heap.size := Nat.le_trans hWb hB.size
            clear hB hwr c8
            gi_wp2_with (gi_at_builtin; refine wpListIn_append_own _ rfl _ _ 52 rfl W3.heap.size 47 i0 (.agg #[.int .i64 0, .int .i64 0, .int .i64 0, .int .i64 0]) 4 32 Try.underlying52 hj hj0 hj1 hj2 rfl (by decide) _ _ _ rfl (row4_kept HWR.out (fun g hg => by obtain ⟨_, cur, hc⟩ := row4_blk HWR.out hg; exact Below.heap_alloc _ _ _ (Array.getElem?_eq_some_iff.1 hc).1)) ⟨wr.heap.size, 0, none⟩ 1 1 [.int .i64 x, .int .i64 y, .int .i64 a, .int .i64 b'] rfl rfl (lit4 rfl) (one_lit4 _ _ _ _) (by unfold maxLen; omega) (by omega) (by simp; omega) ?_; intro v1 w5 hown1 hgrow1 hnil1; obtain ⟨A6, c6, rfl⟩ := own_shape hown1; obtain ⟨⟨hm1, hm2⟩, hm3, hm4⟩ := ap_more (d := ⟨(x, y, a, b'), true, (p, q), hb⟩) (HI.out.later HB.out) hgW3 (box_kept HV.out (HB.out.block _ (box_lt HV.out))) ((Below.refl _ _).alloc (Nat.le_refl _) _) rfl hown1 hgrow1; have hc5 := hm1.cell; have hf5 := hm1.frozen; have c7' := (show Boxed _ _ _ _ from hm3 w2.heap.size _ (by omega) (by omega) (fun e => by obtain ⟨h1, _⟩ := row4_blk HWR.out e; omega) (HB.out.block _ (box_lt HX7.out) |>.trans HX7.out)).cell; obtain ⟨n0, n1, n2, n3, _⟩ := box4 (hm3 b _ (by omega) (by have := HB.out.size; omega) (fun e => by have := HBROW.out b e; omega) (HB.out.block _ hbW |>.trans HBX.out)); have HM2 := Lib.hid hm2; have HM3 := Lib.hid hm3; have HSZ : Hid (W.heap.size ≤ (w5.setCell ⟨w2.heap.size + 1, 0, none⟩ (.slice A6 ((standL pre).length + 1) c6)).heap.size) := Lib.hid (by have h1 := HB.out.size; simp [World.setCell] at hm4 ⊢; omega); clear hm1 hm2 hm3 hm4 hown1 hgrow1 hnil1)
            have hwf6 : Wf (x + a - 1, y + b' - 1) := wf_of (by omega) (by omega)
            have how := owner_any (x + a - 1) (y + b' - 1) hwf6 (HBR.out.kept HM2.out.only (fun k hk _ h => by omega))
            have hv0 : ownA (playB r c l) (x + a - 1, y + b' - 1) = .tuple #[.agg #[.int .i64 x, .int .i64 y, .int .i64 a, .int .i64 b'], .bool true] := by unfold ownA; rw [HOF.out]; rfl
            rw [hv0] at how
            have HOW := Lib.hid how
            have hne : ∀ w, (binOp .neq 47 (.agg #[.int .i64 x, .int .i64 y, .int .i64 a, .int .i64 b']) (.agg #[.int .i64 x, .int .i64 y, .int .i64 a, .int .i64 b'])).run Try.prog w = .ok (.bool false) w := fun w => by rw [rc_eq]; simp
            clear how hv0 hwf6 n0 n1 n2 n3 c7' hc5 hf5 c8' e0 e1 e2 e3
            refine (CallsIn.inRound lp (callsIn_wide.2 HOW.out)).mono ?_
            rintro e w6 ⟨rfl, hb6⟩
            have hb7 := hb6.alloc hb6.size (.cells #[.int .i64 x, .int .i64 y, .int .i64 a, .int .i64 b'] 47)
            have hbb := HM3.out b _ (by omega) (by have := HB.out.size; omega) (fun e => by have := HBROW.out b e; omega) ((HB.out.block _ hbW).trans HBX.out)
            obtain ⟨n0, n1, n2, n3, _⟩ := box4 ((hb7.block b (Array.getElem?_eq_some_iff.1 hbb).1).trans hbb)
            have HB7 := Lib.hid hb7
            clear hb6 hb7 hbb HOW
            gi_wp2
            have hkeep : ∀ k o, k ≠ w2.heap.size + 1 → (∀ g, (Value.slice A9 (standL pre).length c9).ownBlock = some g → g ≠ k) → W.heap[k]? = some o → (w6.alloc (.cells #[.int .i64 x, .int .i64 y, .int .i64 a, .int .i64 b'] 47)).heap[k]? = some o := fun k o hk1 hk2 hk3 => by
              have hkl := (Array.getElem?_eq_some_iff.1 hk3).1
              have h5 := HM3.out k o hk1 (Nat.lt_of_lt_of_le hkl HB.out.size) (fun e => hk2 k e rfl) ((HB.out.block k hkl).trans hk3)
              exact (HB7.out.block k (Array.getElem?_eq_some_iff.1 h5).1).trans h5
            have hsz9 : W.heap.size ≤ (w6.alloc (.cells #[.int .i64 x, .int .i64 y, .int .i64 a, .int .i64 b'] 47)).heap.size := by
              have h1 := HM2.out.only.size
              have h2 := HB7.out.size
              have h3 := HSZ.out
              omega
            refine ⟨⟨hsz9, fun k o hk ho => hkeep k o (fun e => ?_) (fun g hg e => ?_) hk⟩, ⟨hsz9, fun k o hk hq => hkeep k o (fun e => ?_) (fun g hg e => ?_) hk⟩, HM2.out.later HB7.out⟩
            · rw [e, show W.heap[w2.heap.size + 1]? = _ from HV.out] at hk
              injection hk with hk
              subst hk
              cases ho
            · obtain ⟨_, cur, hc⟩ := row4_blk HW.out hg
              rw [e, hk] at hc
              injection hc with hc
              subst hc
              cases ho
            · rcases hq with hq | ⟨cur, fr, rfl⟩
              · exact hq.2 e
              · rw [e, show W.heap[w2.heap.size + 1]? = _ from HV.out] at hk
                injection hk with hk
                injection hk with _ hk
                cases hk
            · obtain ⟨h1, cur, hc⟩ := row4_blk HW.out hg
              rcases hq with hq | ⟨cur', fr, rfl⟩
              · have := hq.1; omega
              · rw [e, hk] at hc
                injection hc with hc
                injection hc with _ hc
                cases hc
    case done =>
      rintro D W hD hI hK
      have hx6 := box_kept HZ2.out (hI.only.block _ (box_lt HZ2.out) (by have := box_lt HZ2.out; omega))
      have c6 := hx6.cell
      have f6 := hx6.frozen
      have HX6 := Lib.hid hx6
      have hK' : (W.setCell ⟨w.heap.size + 2, 0, none⟩ (.bool true)).heap[D]? = some (.deferred (some [])) := (KeepsOthers.setCell W _ _).same D _ hK rfl
      have HK' := Lib.hid hK'
      have hw3 := HBW3.out.size
      have HBF : Hid (Below w.heap.size w W) := Lib.hid (HBW3.out.trans (hI.only.below hw3 (fun b hb => by omega)))
      clear hx6 hK hK' hv3 hI
      gi_wp2
      refine ⟨by simp, .inl ⟨_, _, rfl, run_takeDeferred HK'.out, ?_⟩⟩
      have r0 := ((HX6.out.set (.bool true)).kept (grownBy_putObj' _ D (.deferred none)) (fun e => by injection e with e; omega)).cell
      exact ⟨.bool true, by simp [results, Try.f4, go_sem, r0], rfl, below_put (HBF.out.setCell (p := ⟨w.heap.size + 2, 0, none⟩) (Nat.le_add_right _ _) _) (by have := HBF.out.size; simpa [World.setCell] using this) (show w.heap.size ≤ D by omega) _⟩
  · have hlt : (60 : Int) < ↑l.length := by omega
    have f2 := hy2.frozen
    have c2 := hy2.cell
    clear hy0 hy1 hy2
    gi_wp2_with fail
    refine (callsIn_wide.2 (awake_any _)).mono ?_
    rintro e w2 ⟨rfl, hb2⟩
    have hz2 := box_kept HY2.out (hb2.block _ (box_lt HY2.out))
    have c2 := hz2.cell
    have f2 := hz2.frozen
    have HB2 := Lib.hid (HB1.out.trans (hb2.mono HB1.out.size))
    have HZ2 := Lib.hid hz2
    clear hb2 hz2
    gi_wp2
    have r0 := (HZ2.out.set (.bool true)).cell
    exact ⟨.bool true, by simp [results, Try.f4, go_sem, r0], rfl, HB2.out.setCell (p := ⟨w.heap.size + 2, 0, none⟩) (Nat.le_add_right _ _) _⟩
end Go.Proofs.Ytdeneogbnmedkaa
