/- Insert. -/
import Derived.Test.YtngomgjhakgehaaY
import Derived.Deep.RegionWith
namespace Go.Proofs.Ytngomgjhakgehaa
open Go.RowKit Go.Maps

theorem id_eq (x y u v : Int) (w : World) : (binOp .eql 25 (.agg #[.int .i64 x, .int .i64 y]) (.agg #[.int .i64 u, .int .i64 v])).run Try.prog w = .ok (.bool ((x, y) == (u, v))) w := by
  by_cases h : x = u
  · subst h
    by_cases h2 : y = v
    · subst h2
      go_simp
    · have h3 : (y == v) = false := by simpa using h2
      have : ((x, y) == (x, v)) = false := by simpa using h2
      rw [this]
      go_simp
  · have h3 : (x == u) = false := by simpa using h
    have : ((x, y) == (u, v)) = false := by simp [h]
    rw [this]
    go_simp
theorem id_ne (x y u v : Int) (w : World) : (binOp .neq 25 (.agg #[.int .i64 x, .int .i64 y]) (.agg #[.int .i64 u, .int .i64 v])).run Try.prog w = .ok (.bool (!((x, y) == (u, v)))) w := by
  by_cases h : x = u
  · subst h
    by_cases h2 : y = v
    · subst h2
      go_simp
    · have h3 : (y == v) = false := by simpa using h2
      have : ((x, y) == (x, v)) = false := by simpa using h2
      rw [this]
      go_simp
  · have h3 : (x == u) = false := by simpa using h
    have : ((x, y) == (u, v)) = false := by simp [h]
    rw [this]
    go_simp

def insR (l : List Ent) (b p : IdP) : Int :=
  if p == (0, 0) then 1 else if hasE l p then 4 else if !(b == (0, 0)) && !hasE l b then 3 else if 1000 ≤ l.length then 5 else 0
def insAt (l : List Ent) (b : IdP) : Nat := if b == (0, 0) then 0 else match idxE l b with | some i => i + 1 | none => 0
def insL (l : List Ent) (b p : IdP) : List Ent := if insR l b p = 0 then insE l (insAt l b) (p, true) else l
/-- what lies behind an Insert -/
def InsOut (s : Nat) (S : Nat → Prop) (l : List Ent) (b p : IdP) (w : World) (e : Ending) (w' : World) : Prop :=
  e = .returned (.int .i64 (insR l b p)) ∧ AxAt w' s (fun k => S k ∨ w.heap.size ≤ k) (insL l b p) ∧ Only S w w'
theorem axAt_lt {w : World} {s : Nat} {S : Nat → Prop} {l : List Ent} (h : AxAt w s S l) : s < w.heap.size := by
  obtain ⟨_, v, hb, _, _⟩ := h
  exact box_lt hb
/-- within an Insert -/
structure InsI (w : World) (s : Nat) (S : Nat → Prop) (l : List Ent) (b p : IdP) (W : World) : Prop where
  b : IdBox W w.heap.size b
  x : IdBox W (w.heap.size + 1) p
  n : IdBox W (w.heap.size + 1 + 1) (0, 0)
  ax : AxAt W s S l
  below : Below w.heap.size w W
theorem InsI.later {w W W' : World} {s : Nat} {S : Nat → Prop} {l : List Ent} {b p : IdP} (h : InsI w s S l b p W) (hb : Below W.heap.size W W') : InsI w s S l b p W' :=
  ⟨h.b.below hb, h.x.below hb, h.n.below hb, h.ax.later hb, h.below.trans (hb.mono h.below.size)⟩
theorem InsI.out {w W : World} {s : Nat} {S : Nat → Prop} {l : List Ent} {b p : IdP} {r : Int} (h : InsI w s S l b p W) (hr : insR l b p = r) (h0 : r ≠ 0) : InsOut s S l b p w (.returned (.int .i64 r)) W := by
  refine ⟨by rw [hr], ?_, (Only.of_below h.below).mono (fun b h1 h2 => by omega)⟩
  unfold insL
  rw [if_neg (by rw [hr]; exact h0)]
  exact h.ax.wider (fun b h1 _ => .inl h1)

theorem ne_block {w : World} {v : Value} {n : Nat} {xs : List Value} (h : w.ownsRow 0 68 3 v n xs) {b : Nat} (hb : w.heap.size ≤ b) : v.ownBlock ≠ some b := fun he => by
  have := own_block_lt h he
  omega
theorem own_drew_alloc {w : World} {v : Value} {n : Nat} {xs : List Value} (h : w.ownsRow 0 68 3 v n xs) (o : Obj) : (w.drew.alloc o).ownsRow 0 68 3 v n xs :=
  own_below h (((Below.refl w.heap.size w).drew).alloc (Nat.le_refl _) o)
theorem ins_close {w W w9 : World} {s k : Nat} {S : Nat → Prop} {l : List Ent} {b p : IdP} {v v9 : Value} {o : Obj} (hI : InsI w s S l b p W) (hbx : Boxed W s 54 v) (hrow : W.ownsRow 0 68 3 v l.length (flat3 l)) (hS : ∀ g, v.ownBlock = some g → S g)
    (hg : (W.alloc o).grownBy w9 v.ownBlock) (hown : w9.ownsRow 0 68 3 v9 (insE l k (p, true)).length (flat3 (insE l k (p, true)))) (hat : v9.ownBlock = v.ownBlock ∨ v9.ownBlock = some (W.alloc o).heap.size) (hok : insR l b p = 0) (hk : insAt l b = k) :
    InsOut s S l b p w (.returned (.int .i64 0)) (w9.setCell ⟨s, 0, none⟩ v9) := by
  have hs : S s := hI.ax.1
  have hb9 := (hbx.alloc o).kept hg (hbx.not_row (show (54 : Nat) ≠ 68 by decide) hrow)
  have hw := hI.below.size
  refine ⟨by rw [hok], ?_, ?_⟩
  · unfold insL
    rw [if_pos hok, hk]
    refine ⟨.inl hs, v9, hb9.set v9, hown.kept (grownBy_setCell' w9 s v9) (.inr (hb9.not_row (show (54 : Nat) ≠ 68 by decide) hown).symm), fun g hg9 => ?_⟩
    rcases hat with h | h
    · exact .inl (hS g (h.symm.trans hg9))
    · rw [h] at hg9
      injection hg9 with hg9
      simp at hg9
      exact .inr (by omega)
  · have o1 : Only S w W := (Only.of_below hI.below).mono (fun b h1 h2 => by omega)
    have o2 : Only S W (W.alloc o) := (Only.of_below ((Below.refl W.heap.size W).alloc (Nat.le_refl _) o)).mono (fun b h1 h2 => by omega)
    have o3 : Only S (W.alloc o) w9 := (Only.of_grown hg).mono (fun b h1 _ => hS b h1)
    have o4 : Only S w9 (w9.setCell ⟨s, 0, none⟩ v9) := (Only.of_grown (grownBy_setCell' w9 s v9)).mono (fun b h1 _ => by injection h1 with h1; rw [← h1]; exact hs)
    exact ((o1.trans o2 (fun b h _ => h)).trans o3 (fun b h _ => h)).trans o4 (fun b h _ => h)

set_option maxRecDepth 100000 in
set_option maxHeartbeats 6400000 in
theorem insert_any (s : Nat) (S : Nat → Prop) (l : List Ent) (b1 b2 x y : Int) (w : World) (h : AxAt w s S l) (hlen : l.length ≤ 100000) :
    Calls Try.prog 28 #[.pointer (some ⟨s, 0, none⟩), .agg #[.int .i64 b1, .int .i64 b2], .agg #[.int .i64 x, .int .i64 y]] w (InsOut s S l (b1, b2) (x, y) w) := by
  obtain ⟨R, hR⟩ : ∃ R, InsOut s S l (b1, b2) (x, y) w = R := ⟨_, rfl⟩
  rw [hR]
  have HR := Lib.hid hR
  obtain ⟨w0, hw0⟩ : ∃ w0, ((w.alloc (.cells #[.int .i64 b1, .int .i64 b2] 25)).alloc (.cells #[.int .i64 x, .int .i64 y] 25)).alloc (.cells #[.int .i64 0, .int .i64 0] 25) = w0 := ⟨_, rfl⟩
  have h1 : Below w.heap.size w (w.alloc (.cells #[.int .i64 b1, .int .i64 b2] 25)) := (Below.refl _ _).alloc (Nat.le_refl _) _
  have hI : InsI w s S l (b1, b2) (x, y) w0 := by
    have z1 : (w.alloc (.cells #[.int .i64 b1, .int .i64 b2] 25)).heap.size = w.heap.size + 1 := by simp
    have z2 : ((w.alloc (.cells #[.int .i64 b1, .int .i64 b2] 25)).alloc (.cells #[.int .i64 x, .int .i64 y] 25)).heap.size = w.heap.size + 1 + 1 := by simp
    have h2 : Below (w.alloc (.cells #[.int .i64 b1, .int .i64 b2] 25)).heap.size (w.alloc (.cells #[.int .i64 b1, .int .i64 b2] 25)) ((w.alloc (.cells #[.int .i64 b1, .int .i64 b2] 25)).alloc (.cells #[.int .i64 x, .int .i64 y] 25)) := (Below.refl _ _).alloc (Nat.le_refl _) _
    have h3 : Below ((w.alloc (.cells #[.int .i64 b1, .int .i64 b2] 25)).alloc (.cells #[.int .i64 x, .int .i64 y] 25)).heap.size ((w.alloc (.cells #[.int .i64 b1, .int .i64 b2] 25)).alloc (.cells #[.int .i64 x, .int .i64 y] 25)) w0 := by rw [← hw0]; exact (Below.refl _ _).alloc (Nat.le_refl _) _
    have i1 := IdBox.new w b1 b2
    have i2 := IdBox.new (w.alloc (.cells #[.int .i64 b1, .int .i64 b2] 25)) x y
    have i3 := IdBox.new ((w.alloc (.cells #[.int .i64 b1, .int .i64 b2] 25)).alloc (.cells #[.int .i64 x, .int .i64 y] 25)) 0 0
    rw [z1] at i2
    rw [z2, hw0] at i3
    exact ⟨(i1.below h2).below h3, i2.below h3, i3, ((h.later h1).later h2).later h3, (h1.trans (h2.mono (by omega))).trans (h3.mono (by omega))⟩
  have HI0 := Lib.hid hI
  have hsz0 : w0.heap.size = w.heap.size + 1 + 1 + 1 := by rw [← hw0]; simp
  obtain ⟨z1, hz1⟩ : ∃ z, ((x, y) == ((0 : Int), (0 : Int))) = z := ⟨_, rfl⟩
  obtain ⟨z2, hz2⟩ : ∃ z, ((b1, b2) == ((0 : Int), (0 : Int))) = z := ⟨_, rfl⟩
  have heq1 : ∀ w, (binOp .eql 25 (.agg #[.int .i64 x, .int .i64 y]) (.agg #[.int .i64 0, .int .i64 0])).run Try.prog w = .ok (.bool z1) w := fun w => by rw [← hz1]; exact id_eq x y 0 0 w
  have heq2 : ∀ w, (binOp .neq 25 (.agg #[.int .i64 b1, .int .i64 b2]) (.agg #[.int .i64 0, .int .i64 0])).run Try.prog w = .ok (.bool (!z2)) w := fun w => by rw [← hz2]; exact id_ne b1 b2 0 0 w
  have Z1 := Lib.hid hz1
  have Z2 := Lib.hid hz2
  have HW0 := Lib.hid hw0
  clear hR h h1 hI hz1 hz2 hw0
  cases z1
  · go_enter Try.func28, Try.ntmps28
    go_wp2_with fail
    rw [HW0.out]
    obtain ⟨h1, hh1⟩ : ∃ b, hasE l (x, y) = b := ⟨_, rfl⟩
    have H1 := Lib.hid hh1
    refine (has_any (some ⟨s, 0, none⟩) l x y w0 HI0.out.ax.p hlen).mono ?_
    rw [hh1]
    rintro e w1 ⟨rfl, hB⟩
    have HI1 := Lib.hid (HI0.out.later hB)
    have hsz1 : w.heap.size + 1 + 1 + 1 ≤ w1.heap.size := by have := hB.size; omega
    obtain ⟨x0, x1, _⟩ := HI1.out.x
    obtain ⟨y0, y1, _⟩ := HI1.out.b
    obtain ⟨n0, n1, _⟩ := HI1.out.n
    simp only at x0 x1 y0 y1 n0 n1
    clear hB hh1 HW0 hsz0 HI0
    cases h1
    · cases z2
      · go_wp2_with fail
        obtain ⟨h2, hh2⟩ : ∃ b, hasE l (b1, b2) = b := ⟨_, rfl⟩
        have H2 := Lib.hid hh2
        refine (has_any (some ⟨s, 0, none⟩) l b1 b2 w1 HI1.out.ax.p hlen).mono ?_
        rw [hh2]
        rintro e w2 ⟨rfl, hB⟩
        have HI2 := Lib.hid (HI1.out.later hB)
        have hsz2 : w.heap.size + 1 + 1 + 1 ≤ w2.heap.size := by have := hB.size; omega
        clear hB hh2 HI1 x0 x1 y0 y1 n0 n1
        obtain ⟨x0, x1, _⟩ := HI2.out.x
        obtain ⟨y0, y1, _⟩ := HI2.out.b
        obtain ⟨n0, n1, _⟩ := HI2.out.n
        simp only at x0 x1 y0 y1 n0 n1
        cases h2
        · go_wp2
          rw [← HR.out]
          exact HI2.out.out (show insR l (b1, b2) (x, y) = 3 by unfold insR; rw [Z1.out, H1.out, Z2.out, H2.out]; rfl) (by decide)
        · obtain ⟨hs, v, hbx, hrow, hS⟩ := HI2.out.ax
          obtain ⟨A, c, rfl⟩ := own_shape hrow
          have hcell := hbx.cell
          have HBX := Lib.hid hbx
          have HROW := Lib.hid hrow
          have HS := Lib.hid hS
          clear hbx hrow hS
          by_cases hfull : 1000 ≤ l.length
          · have hf1 : (1000 : Int) ≤ ↑l.length := by omega
            go_wp2
            rw [← HR.out]
            exact HI2.out.out (show insR l (b1, b2) (x, y) = 5 by unfold insR; rw [Z1.out, H1.out, Z2.out, H2.out]; simp [hfull]) (by decide)
          · have hf1 : ¬ (1000 : Int) ≤ ↑l.length := by omega
            have HOK := Lib.hid (show insR l (b1, b2) (x, y) = 0 by unfold insR; rw [Z1.out, H1.out, Z2.out, H2.out]; simp [hfull])
            obtain ⟨i, hi⟩ : ∃ i, idxE l (b1, b2) = some i := by
              have := H2.out
              rw [has_find] at this
              unfold findE at this
              cases hi : idxE l (b1, b2) with
              | none => rw [hi] at this; simp at this
              | some i => exact ⟨i, rfl⟩
            obtain ⟨_, hib⟩ := idxE_some hi
            have hil := (List.getElem?_eq_some_iff.1 hib).1
            have HFI := Lib.hid (show findE l (b1, b2) = ↑i by unfold findE; rw [hi])
            have HAT := Lib.hid (show insAt l (b1, b2) = i + 1 by unfold insAt; rw [Z2.out, hi]; rfl)
            clear hi hib
            go_wp2_with fail
            refine (find_any (some ⟨s, 0, none⟩) l b1 b2 w2 HI2.out.ax.p hlen).mono ?_
            rw [HFI.out]
            rintro e w3 ⟨rfl, hB⟩
            have HI3 := Lib.hid (HI2.out.later hB)
            have HBX3 := Lib.hid (box_kept HBX.out (hB.block _ (box_lt HBX.out)))
            have HROW3 := Lib.hid (own_below HROW.out hB)
            clear hB HI2 x0 x1 y0 y1 n0 n1 hcell HBX HROW
            obtain ⟨x0, x1, _⟩ := HI3.out.x
            simp only at x0 x1
            have hcell := HBX3.out.cell
            go_wp2_with fail
            have hq3 : (w3.alloc (.cells #[.int .i64 x, .int .i64 y, .bool true] 68)).drew.cell? ⟨s, 0, none⟩ = some (.slice A l.length c) := (HBX3.out.alloc (.cells #[.int .i64 x, .int .i64 y, .bool true] 68)).cell
            have hq0 : w3.drew.cell? ⟨s, 0, none⟩ = some (.slice A l.length c) := hcell
            have hq1 : w3.drew.cell? ⟨w.heap.size + 1, 0, none⟩ = some (.int .i64 x) := x0
            have hq2 : w3.drew.cell? ⟨w.heap.size + 1, 1, none⟩ = some (.int .i64 y) := x1
            go_region_with (go_at_call 37; go_loud (refine (insert_list (.slice A l.length c) (i + 1) w3.heap.size l ((x, y), true) _ (own_drew_alloc HROW3.out _) (by omega) hlen (World.alloc_heap_new w3 _) (ne_block HROW3.out (Nat.le_refl _))).mono ?_; rintro r w9 ⟨v9, rfl, hown9, hg9, hat9⟩; obtain ⟨A9, c9, rfl⟩ := own_shape hown9; have hb9 := ((show Boxed w3.drew s 54 _ from HBX3.out).alloc _).kept hg9 (HBX3.out.not_row (show (54 : Nat) ≠ 68 by decide) HROW3.out); have hc9 := hb9.cell; have hf9 := hb9.frozen; have HG9 := Lib.hid hg9; have HO9 := Lib.hid hown9; have HA9 := Lib.hid hat9; clear hb9 hg9 hown9 hat9))
            all_goals (
              go_wp2
              rw [← HR.out]
              exact ins_close HI3.out HBX3.out HROW3.out HS.out ⟨HG9.out.os, HG9.out.tape, HG9.out.output, HG9.out.size, HG9.out.block⟩ HO9.out HA9.out HOK.out HAT.out)
      · obtain ⟨hs, v, hbx, hrow, hS⟩ := HI1.out.ax
        obtain ⟨A, c, rfl⟩ := own_shape hrow
        have hcell := hbx.cell
        have HBX := Lib.hid hbx
        have HROW := Lib.hid hrow
        have HS := Lib.hid hS
        clear hbx hrow hS
        by_cases hfull : 1000 ≤ l.length
        · have hf1 : (1000 : Int) ≤ ↑l.length := by omega
          go_wp2
          rw [← HR.out]
          exact HI1.out.out (show insR l (b1, b2) (x, y) = 5 by unfold insR; rw [Z1.out, H1.out, Z2.out]; simp [hfull]) (by decide)
        · have hf1 : ¬ (1000 : Int) ≤ ↑l.length := by omega
          have HOK := Lib.hid (show insR l (b1, b2) (x, y) = 0 by unfold insR; rw [Z1.out, H1.out, Z2.out]; simp [hfull])
          have HAT := Lib.hid (show insAt l (b1, b2) = 0 by unfold insAt; rw [Z2.out]; rfl)
          go_wp2_with fail
          have hq3 : (w1.alloc (.cells #[.int .i64 x, .int .i64 y, .bool true] 68)).drew.cell? ⟨s, 0, none⟩ = some (.slice A l.length c) := (HBX.out.alloc (.cells #[.int .i64 x, .int .i64 y, .bool true] 68)).cell
          have hq0 : w1.drew.cell? ⟨s, 0, none⟩ = some (.slice A l.length c) := hcell
          have hq1 : w1.drew.cell? ⟨w.heap.size + 1, 0, none⟩ = some (.int .i64 x) := x0
          have hq2 : w1.drew.cell? ⟨w.heap.size + 1, 1, none⟩ = some (.int .i64 y) := x1
          go_region_with (go_at_call 37; go_loud (refine (insert_list (.slice A l.length c) (0) w1.heap.size l ((x, y), true) _ (own_drew_alloc HROW.out _) (by omega) hlen (World.alloc_heap_new w1 _) (ne_block HROW.out (Nat.le_refl _))).mono ?_; rintro r w9 ⟨v9, rfl, hown9, hg9, hat9⟩; obtain ⟨A9, c9, rfl⟩ := own_shape hown9; have hb9 := ((show Boxed w1.drew s 54 _ from HBX.out).alloc _).kept hg9 (HBX.out.not_row (show (54 : Nat) ≠ 68 by decide) HROW.out); have hc9 := hb9.cell; have hf9 := hb9.frozen; have HG9 := Lib.hid hg9; have HO9 := Lib.hid hown9; have HA9 := Lib.hid hat9; clear hb9 hg9 hown9 hat9))
          all_goals (
            go_wp2
            rw [← HR.out]
            exact ins_close HI1.out HBX.out HROW.out HS.out ⟨HG9.out.os, HG9.out.tape, HG9.out.output, HG9.out.size, HG9.out.block⟩ HO9.out HA9.out HOK.out HAT.out)
    · go_wp2
      rw [← HR.out]
      exact HI1.out.out (show insR l (b1, b2) (x, y) = 4 by unfold insR; rw [Z1.out, H1.out]; rfl) (by decide)
  · go_enter Try.func28, Try.ntmps28
    go_wp2_with fail
    rw [HW0.out, ← HR.out]
    exact HI0.out.out (show insR l (b1, b2) (x, y) = 1 by unfold insR; rw [Z1.out]; rfl) (by decide)
end Go.Proofs.Ytngomgjhakgehaa
