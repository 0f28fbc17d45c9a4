/- Whether a number may be: the program, the document. -/
import Derived.Test.YtfgddhabepllfaaDoorA
import Derived.Test.YtfgddhabepllfaaDoorProg
import Derived.WalkKit
import Derived.WalkSpells
import Derived.WalkLawsBesides
import Derived.Outline
import Derived.KernelRfl
import Derived.LoopN
import Derived.Lib.Hide
import Derived.Deep.LoopGhost
import Derived.Deep.AppendLies
import Derived.Lib.OthersKept
import Derived.Lib.ItoaLen
import Derived.Lib.AppendIntMem
import Derived.Deep.QuietTactic
import Derived.BigQuiet
import Derived.Deep.RegionHeld3
import Derived.WalkSmall
import Derived.Laws.AppendOwnNone
namespace Go.Proofs.YtfgddhabepllfaaDoor.Nm
open Go.RowKit
set_option maxRecDepth 100000

def numV (m e : Int) : Value := .agg #[.int .i64 m, .int .i64 e]
/-- the two cells of a result of this call's own -/
structure Slot (w : World) (B : Nat) (m e : Int) : Prop where
  c0 : w.cell? ⟨B, 0, none⟩ = some (.int .i64 m)
  c1 : w.cell? ⟨B, 1, none⟩ = some (.int .i64 e)
  f0 : w.frozen? ⟨B, 0, none⟩ = false
  f1 : w.frozen? ⟨B, 1, none⟩ = false
theorem Slot.new (w : World) (m e : Int) : Slot (w.alloc (.cells #[.int .i64 m, .int .i64 e] 32)) w.heap.size m e := ⟨by simp, by simp, by simp, by simp⟩
theorem Slot.below {w w' : World} {B : Nat} {m e : Int} {C : Nat} (h : Slot w B m e) (hb : Below C w w') (hC : B < C) : Slot w' B m e :=
  ⟨(hb.cell (p := ⟨B, 0, none⟩) hC).trans h.c0, (hb.cell (p := ⟨B, 1, none⟩) hC).trans h.c1, (hb.frozen (p := ⟨B, 0, none⟩) hC).trans h.f0, (hb.frozen (p := ⟨B, 1, none⟩) hC).trans h.f1⟩

/-- how many digits -/
def nd (u : Nat) : Nat := if h : u = 0 then 0 else nd (u / 10) + 1
termination_by u
decreasing_by omega
def rightB (m e : Int) : Bool := if m = 0 then decide (e = 0) else if m.tmod 10 = 0 ∨ e < -40 then false else decide (nd m.natAbs ≤ 15 ∧ e ≤ 40 - (nd m.natAbs : Int))

theorem nd_step (u : Int) (h : (u == 0) = false) : nd u.natAbs = nd (u.tdiv 10).natAbs + 1 := by
  rw [beq_eq_false_iff_ne] at h
  rw [nd, dif_neg (by omega), Int.natAbs_tdiv]; rfl
theorem nd_zero : nd 0 = 0 := by rw [nd]; rfl
theorem nd_le : ∀ (n u : Nat), u < 10 ^ n → nd u ≤ n
  | 0, u, h => by
    have : u = 0 := by simpa using h
    rw [this, nd_zero]; exact Nat.le_refl _
  | n + 1, u, h => by
    rw [nd]; split
    · omega
    · have := nd_le n (u / 10) (by rw [Nat.pow_succ] at h; omega)
      omega

theorem alloc_below (w : World) (o : Obj) : Below w.heap.size w (w.alloc o) := (Below.refl _ _).alloc (Nat.le_refl _) _
theorem right_zero (e : Int) (w : World) : Calls Tryd.prog 68 #[numV 0 e] w fun r w' => r = .returned (.bool (rightB 0 e)) ∧ Below w.heap.size w w' := by
  have he : rightB 0 e = (e == 0) := by unfold rightB; rw [if_pos rfl]; rfl
  rw [he]
  clear he
  unfold numV
  go_enter Tryd.func68, Tryd.ntmps68
  go_wp2
  go_ret
  exact ⟨rfl, alloc_below _ _⟩
theorem right_no1 (m e : Int) (hm : (m == 0) = false) (h1 : (m.tmod 10 == 0) = true) (w : World) : Calls Tryd.prog 68 #[numV m e] w fun r w' => r = .returned (.bool false) ∧ Below w.heap.size w w' := by
  unfold numV
  go_enter Tryd.func68, Tryd.ntmps68
  go_wp2
  go_ret
  exact ⟨rfl, alloc_below _ _⟩
theorem right_no2 (m e : Int) (hm : (m == 0) = false) (h1 : (m.tmod 10 == 0) = false) (h2 : e < -40) (w : World) : Calls Tryd.prog 68 #[numV m e] w fun r w' => r = .returned (.bool false) ∧ Below w.heap.size w w' := by
  unfold numV
  go_enter Tryd.func68, Tryd.ntmps68
  go_wp2
  go_ret
  exact ⟨rfl, alloc_below _ _⟩
theorem right_yes (m e : Int) (k : Nat) (b : Bool) (hk : Hid (nd m.natAbs = k)) (hk1 : k ≤ 19) (hb : b = decide (k ≤ 15 ∧ e ≤ 40 - (k : Int))) (hm : (m == 0) = false) (h1 : (m.tmod 10 == 0) = false) (h2 : ¬ e < -40) (_h3 : e ≤ 9223372036854775807) (h4 : -9223372036854775808 ≤ m) (h5 : m ≤ 9223372036854775807) (w : World) : Calls Tryd.prog 68 #[numV m e] w fun r w' => r = .returned (.bool b) ∧ Below w.heap.size w w' := by
  unfold numV
  have HB := Lib.hid hb
  clear hb
  go_enter Tryd.func68, Tryd.ntmps68
  go_wp2
  go_loop [3, 4] (fun d u => ∃ (j : Nat) (v : Int), d = .int .i64 j ∧ u = .int .i64 v ∧ Hid (j + nd v.natAbs = k) ∧ j ≤ k ∧ -9223372036854775808 ≤ v ∧ v ≤ 9223372036854775807) (fun _ u => nd (intOf u).natAbs)
  case atStart => exact ⟨0, m, rfl, rfl, by show _ = _; rw [Nat.zero_add]; exact hk, by omega, h4, h5⟩
  case round =>
    obtain ⟨j, v, rfl, rfl, hj, hjk, v0, v1⟩ := hrel
    by_cases hv : (v == 0) = true
    · have hv2 : (v != 0) = false := by rw [bne, hv]; rfl
      have hj2 : j = k := by
        have := hj
        have e0 : v = 0 := by simpa using hv
        rw [e0] at this
        have : j + nd 0 = k := this
        rw [nd_zero] at this; omega
      subst hj2
      have HB2 := HB
      clear hj HB hv
      by_cases hd : j ≤ 15
      · have hb : b = decide (e ≤ 40 - (j : Int)) := by rw [HB2.out]; simp [hd]
        have HB3 := Lib.hid hb
        clear HB2 hb
        go_wp2
        go_ret
        exact ⟨by rw [HB3.out]; rfl, alloc_below _ _⟩
      · have hb : b = false := by rw [HB2.out]; simp [hd]
        subst hb
        clear HB2
        go_wp2
        go_ret
        exact ⟨rfl, alloc_below _ _⟩
    · have hv1 : (v == 0) = false := by simpa using hv
      have hv2 : (v != 0) = true := by rw [bne, hv1]; rfl
      have hst := nd_step v hv1
      have HJ : Hid ((j + 1) + nd (v.tdiv 10).natAbs = k) := by
        have : j + nd v.natAbs = k := hj
        show _ = _
        omega
      have hjk2 : j + 1 ≤ k := by have : _ = _ := HJ; omega
      have HST := Lib.hid hst
      have hab : (v.tdiv 10).natAbs = v.natAbs / 10 := by rw [Int.natAbs_tdiv]; rfl
      have w0 : -9223372036854775808 ≤ v.tdiv 10 := by omega
      have w1 : v.tdiv 10 ≤ 9223372036854775807 := by omega
      have hw : wrap64 (v.tdiv 10) = v.tdiv 10 := IntWalk.wrap64_in _ ⟨w0, w1⟩
      clear hj hst hv hab
      go_wp2
      go_round
      case rel => exact ⟨j + 1, _, by go_num, rfl, HJ, hjk2, w0, w1⟩
      case measure => simp only [intOf]; rw [HST.out]; omega

/-- Right, of every number -/
theorem right_any (m e : Int) (h0 : -9223372036854775808 ≤ m) (h1 : m ≤ 9223372036854775807) (h3 : e ≤ 9223372036854775807) (w : World) : Calls Tryd.prog 68 #[numV m e] w fun r w' => r = .returned (.bool (rightB m e)) ∧ Below w.heap.size w w' := by
  by_cases hm : m = 0
  · subst hm; exact right_zero e w
  · have hm' : (m == 0) = false := by rw [beq_eq_false_iff_ne]; exact hm
    by_cases ht : m.tmod 10 = 0
    · have e1 : rightB m e = false := by unfold rightB; rw [if_neg hm, if_pos (.inl ht)]
      rw [e1]; exact right_no1 m e hm' (by rw [ht]; rfl) w
    · have ht' : (m.tmod 10 == 0) = false := by rw [beq_eq_false_iff_ne]; exact ht
      by_cases he : e < -40
      · have e1 : rightB m e = false := by unfold rightB; rw [if_neg hm, if_pos (.inr he)]
        rw [e1]; exact right_no2 m e hm' ht' he w
      · have e1 : rightB m e = decide (nd m.natAbs ≤ 15 ∧ e ≤ 40 - (nd m.natAbs : Int)) := by unfold rightB; rw [if_neg hm, if_neg (fun h => h.elim ht he)]
        rw [e1]
        exact right_yes m e (nd m.natAbs) _ rfl (nd_le 19 _ (by omega)) rfl hm' ht' he h3 h0 h1 w
theorem lt_pow_nd (u : Nat) : u < 10 ^ nd u := by
  induction u using Nat.strongRecOn with
  | ind u ih =>
    rw [nd]; split
    · rename_i h; subst h; decide
    · rename_i h
      have := ih (u / 10) (by omega)
      rw [Nat.pow_succ]; omega
theorem pow_le10 {j k : Nat} (h : j ≤ k) : 10 ^ j ≤ 10 ^ k := Nat.pow_le_pow_right (by decide) h
theorem nd_le_iff (u n : Nat) : nd u ≤ n ↔ u < 10 ^ n := by
  constructor
  · intro h
    have := lt_pow_nd u
    have := pow_le10 h
    omega
  · exact nd_le n u
theorem Slot.size {w : World} {B : Nat} {m e : Int} (h : Slot w B m e) : B < w.heap.size := by
  obtain ⟨c0, _⟩ := h
  by_cases hl : B < w.heap.size
  · exact hl
  · unfold World.cell? at c0
    simp [Array.getElem?_eq_none (show w.heap.size ≤ B by omega)] at c0
theorem below2 (w : World) (o1 o2 : Obj) : Below w.heap.size w ((w.alloc o1).alloc o2) :=
  ((Below.refl _ _).alloc (Nat.le_refl _) _).alloc (by simp) _

theorem below_dr (w : World) : Below w.heap.size w w.drew := by
  have hb := Below.refl w.heap.size w
  exact ⟨hb.os, hb.tape, hb.output, hb.size, hb.block⟩

theorem info3 : (Tryd.prog.info? 3).map (fun i => (i.zero, i.size, i.bytes)) = some (some (.int .i64 0), 1, 8) := by kernel_rfl
/-- ints as cells -/
def ci (l : List Int) : List Value := l.map fun x => .int .i64 x
theorem ci_length (l : List Int) : (ci l).length = l.length := by simp [ci]
/-- the value is a slice of ints of the call's own, nil if it has none -/
def OwnI (w : World) (B : Nat) (v : Value) (l : List Int) : Prop := w.ownsRow B 3 1 v l.length (ci l) ∧ (v = .slice none 0 0 ∧ l = [] ∨ ∃ g c, v = .slice (some ⟨g, 0, none⟩) l.length c)
/-- a slice's cells hold these ints -/
def RdI (w : World) (A : Option Addr) (l : List Int) : Prop :=
  0 < l.length → ∃ b off, A = some ⟨b, off, none⟩ ∧ b < w.heap.size ∧ ∀ j x, l[j]? = some x → w.cell? ⟨b, off + j, none⟩ = some (.int .i64 x)
theorem RdI.below {w w' : World} {A : Option Addr} {l : List Int} (h : RdI w A l) (hb : Below w.heap.size w w') : RdI w' A l := fun hl => by
  obtain ⟨b, off, e, hlt, hc⟩ := h hl
  have := hb.size
  exact ⟨b, off, e, by omega, fun j x hx => (hb.cell (p := ⟨b, off + j, none⟩) hlt).trans (hc j x hx)⟩
theorem OwnI.below {w w' : World} {B : Nat} {v : Value} {l : List Int} (h : OwnI w B v l) (hb : Below w.heap.size w w') : OwnI w' B v l :=
  ⟨h.1.kept (row := none) ⟨hb.os, hb.tape, hb.output, hb.size, fun j hj _ => hb.block j hj⟩ (by cases hv : v.ownBlock <;> simp), h.2⟩
theorem OwnI.nil (w : World) (B : Nat) : OwnI w B (.slice none 0 0) [] := ⟨World.ownsRow_nil .., .inl ⟨rfl, rfl⟩⟩
theorem OwnI.rd {w : World} {B : Nat} {v : Value} {l : List Int} (h : OwnI w B v l) : ∃ A c, v = .slice A l.length c ∧ l.length ≤ c ∧ c ≤ 9223372036854775807 ∧ RdI w A l := by
  obtain ⟨⟨h1, h2⟩, h3⟩ := h
  rcases h3 with ⟨rfl, rfl⟩ | ⟨g, c, rfl⟩
  · exact ⟨none, 0, rfl, by simp, by omega, fun h => by simp at h⟩
  · have hc := fun j (hj : j < l.length * 1) => World.ownsRow.cellAt (w := w) (base := B) (e := 3) (size := 1) (g := g) (cap := c) (xs := ci l) ⟨h1, h2⟩ j hj
    rcases h2 with ⟨h', _⟩ | ⟨g', cap', cur, h', hb, hg, hn, hm, hs, ht⟩
    · simp at h'
    · simp only [Value.slice.injEq, Option.some.injEq, Addr.mk.injEq, and_true, true_and] at h'
      obtain ⟨rfl, rfl⟩ := h'
      refine ⟨_, _, rfl, hn, by unfold maxLen at hm; omega, fun hl => ⟨_, _, rfl, (Array.getElem?_eq_some_iff.1 hg).1, fun j x hx => ?_⟩⟩
      have hj := (List.getElem?_eq_some_iff.1 hx).1
      rw [Nat.zero_add, hc j (by omega)]
      simp [ci, hx]
theorem OwnI.lit (w : World) (d : Int) : OwnI (w.alloc (.cells #[.int .i64 d] 3)) w.heap.size (.slice (some ⟨w.heap.size, 0, none⟩) 1 1) [d] :=
  ⟨World.ownsRow_lit (base := w.heap.size) (e := 3) (size := 1) w #[.int .i64 d] 1 (Nat.le_refl _) (by unfold maxLen; omega) (by simp), .inr ⟨_, _, rfl⟩⟩
theorem OwnI.mono {w : World} {B B' : Nat} {v : Value} {l : List Int} (h : OwnI w B v l) (hB : B' ≤ B) : OwnI w B' v l := by
  obtain ⟨⟨h1, h2⟩, h3⟩ := h
  refine ⟨⟨h1, ?_⟩, h3⟩
  rcases h2 with h' | ⟨g', cap', cur, h', hb, hg⟩
  · exact .inl h'
  · exact .inr ⟨g', cap', cur, h', by omega, hg⟩

/-- digits by division -/
def dI (u : Nat) : List Int := if _h : u = 0 then [] else dI (u / 10) ++ [((u % 10 : Nat) : Int)]
termination_by u
decreasing_by omega
theorem dI_len (u : Nat) : (dI u).length = nd u := by
  induction u using Nat.strongRecOn with
  | ind u ih =>
    rw [dI, nd]
    by_cases h : u = 0
    · rw [dif_pos h, dif_pos h]; rfl
    · rw [dif_neg h, dif_neg h, List.length_append, ih (u / 10) (by omega)]; rfl
theorem dI_zero : dI 0 = [] := by rw [dI]; rfl
theorem dI_step (u : Nat) (h : u ≠ 0) : dI u = dI (u / 10) ++ [((u % 10 : Nat) : Int)] := by rw [dI, dif_neg h]

theorem pre_own {w w1 : World} {B : Nat} {d : Int} {l : List Int} {v' : Value} (hB : B ≤ w.heap.size)
    (h : w1.ownsRow w.heap.size 3 1 v' (1 + l.length) ([.int .i64 d] ++ ci l)) (hg : (w.alloc (.cells #[.int .i64 d] 3)).grownBy w1 (some w.heap.size)) (hn : ¬ v' = .slice none 0 0) :
    OwnI w1 B v' (d :: l) ∧ Below B w w1 := by
  refine ⟨OwnI.mono (B := w.heap.size) ⟨by rw [show (d :: l).length = 1 + l.length by simp; omega]; exact h, .inr ?_⟩ hB, ?_⟩
  · rcases h.2 with ⟨rfl, _⟩ | ⟨g, cap, cur, rfl, _⟩
    · exact absurd rfl hn
    · exact ⟨g, cap, by rw [show (d :: l).length = 1 + l.length by simp; omega]⟩
  · exact Below.grown ((Below.refl _ _).alloc hB _) hg (by simp; omega) (fun j hj => by simp at hj; omega)

set_option maxRecDepth 1000000 in
set_option maxHeartbeats 2000000 in
/-- the document's digits, of every int -/
theorem rdigs_aux (m : Int) (D : List Int) (hD : D = dI m.natAbs) (h0 : -9223372036854775808 ≤ m) (h1 : m ≤ 9223372036854775807) (w : World) :
    Calls Tryd.prog 73 #[.int .i64 m] w fun e w' => ∃ v, e = .returned v ∧ OwnI w' w.heap.size v D ∧ Below w.heap.size w w' := by
  obtain ⟨i0, hi, hz0, hz1, hz2⟩ := info_parts info3
  have hlen : D.length ≤ 19 := by rw [hD, dI_len]; exact nd_le 19 _ (by omega)
  have HD := Lib.hid hD
  clear hD
  go_enter Tryd.func73, Tryd.ntmps73
  go_wp2
  go_loopw [0, 3] (fun n' o wr => ∃ (v : Int) (L : List Int), n' = .int .i64 v ∧ OwnI wr w.heap.size o L ∧ Below w.heap.size w wr ∧ Hid (dI v.natAbs ++ L = D) ∧ L.length ≤ 19 ∧ -9223372036854775808 ≤ v ∧ v ≤ 9223372036854775807) (fun n' _ _ => nd (intOf n').natAbs)
  case atStart => exact ⟨m, [], rfl, OwnI.nil _ _, Below.refl _ _, by show _ = _; rw [List.append_nil]; exact HD.out.symm, by simp, h0, h1⟩
  case round =>
    obtain ⟨v, L, rfl, hown, hbw, HL, hll, v0, v1⟩ := hrel
    have hBw := hbw.size
    by_cases hv : v = 0
    · have e : L = D := by have := HL.out; rw [hv] at this; rw [← this]; rw [show (0 : Int).natAbs = 0 from rfl, dI_zero]; rfl
      subst e
      subst hv
      clear HL HD
      rcases hown.2 with ⟨rfl, rfl⟩ | ⟨g, c, rfl⟩
      · go_wp2
        go_ret
        exact ⟨_, rfl, hown, hbw⟩
      · go_wp2
        go_ret
        exact ⟨_, rfl, hown, hbw⟩
    · have hv2 : (v != 0) = true := by rw [bne_iff_ne]; exact hv
      have HL2 : Hid (dI (v.tdiv 10).natAbs ++ (((v.natAbs % 10 : Nat) : Int) :: L) = D) := by
        have := HL.out
        rw [dI_step _ (by omega), List.append_assoc] at this
        show _ = _
        rw [← this, Int.natAbs_tdiv]; rfl
      have hll2 : L.length + 1 ≤ 19 := by
        have := congrArg List.length HL2.out
        simp at this; omega
      have hst := nd_step v (by rw [beq_eq_false_iff_ne]; exact hv)
      have HST := Lib.hid hst
      have hab : (v.tdiv 10).natAbs = v.natAbs / 10 := by rw [Int.natAbs_tdiv]; rfl
      have w0 : -9223372036854775808 ≤ v.tdiv 10 := by omega
      have w1 : v.tdiv 10 ≤ 9223372036854775807 := by omega
      have hw : wrap64 (v.tdiv 10) = v.tdiv 10 := IntWalk.wrap64_in _ ⟨w0, w1⟩
      have htm : (v.tmod 10).natAbs = v.natAbs % 10 := by rw [Int.natAbs_tmod]; rfl
      obtain ⟨t, hte⟩ : ∃ t, t = v.tmod 10 := ⟨_, rfl⟩
      rw [← hte] at htm
      have hte2 := hte.symm
      clear hst hv HL hab hte
      have fin : ∀ (d : Int), ((v.natAbs % 10 : Nat) : Int) = d → ∀ (g c : Nat), OwnI wr w.heap.size (.slice (some ⟨g, 0, none⟩) L.length c) L → ∀ j u, (ci L)[j]? = some u → (wr.alloc (.cells #[.int .i64 d] 3)).cell? ((⟨g, 0, none⟩ : Addr).add j) = some u := by
        intro d _ g c ho j u hj
        have hjl : j < L.length := by have := (List.getElem?_eq_some_iff.1 hj).1; rwa [ci_length] at this
        obtain ⟨A, c', hv, _, _, hr⟩ := ho.rd
        obtain ⟨b', off', hae, hbl, hcells⟩ := hr (by omega)
        simp only [Value.slice.injEq, true_and] at hv
        rw [← hv.1] at hae
        simp only [Option.some.injEq, Addr.mk.injEq, and_true] at hae
        obtain ⟨rfl, rfl⟩ := hae
        have hx := hcells j L[j] (by simp [hjl])
        have hu : u = .int .i64 L[j] := by simpa [ci, hjl] using hj.symm
        rw [hu]
        have ea : (⟨g, 0, none⟩ : Addr).add j = ⟨g, 0 + j, none⟩ := by
          by_cases hj0 : j = 0
          · subst hj0; rfl
          · simp [Addr.add, hj0]
        rw [ea, ← hx]
        exact ((Below.refl wr.heap.size wr).alloc (Nat.le_refl _) _).cell (p := ⟨g, 0 + j, none⟩) hbl
      have hone : ∀ u ∈ ci L, u.oneCell' = true := by intro u hu; simp [ci] at hu; obtain ⟨x, _, rfl⟩ := hu; rfl
      have hcl := ci_length L
      by_cases ht : t < 0
      · have htd : ((v.natAbs % 10 : Nat) : Int) = -t := by omega
        have fin2 := fin (-t) htd
        rw [htd] at HL2
        have t1 : -10 < t := by omega
        have t2 : t < 10 := by omega
        clear htd htm fin
        have hown0 := OwnI.lit wr (-t)
        rcases id hown.2 with ⟨rfl, rfl⟩ | ⟨g, c, rfl⟩
        · go_wp2_with (first
            | (at_builtin; refine wpList_append_own_none _ rfl _ _ 75 rfl w.heap.size 3 i0 1 Tryd.underlying75 hi _ 1 [.int .i64 (-t)] rfl (hown0.mono hBw).1 rfl ?_))
          refine ⟨⟨_, [-t], rfl, hown0.mono hBw, hbw.alloc hBw _, HL2, by simp, w0, w1⟩, ?_⟩
          simp only [intOf]; rw [HST.out]; omega
        · have fin3 := fin2 g c hown
          clear fin2
          go_wp2_with (first
            | (at_builtin; refine wpList_append_own _ rfl _ _ 75 rfl wr.heap.size 3 i0 (.int .i64 0) 1 8 Tryd.underlying75 hi hz0 hz1 hz2 rfl (by decide) _ _ _ rfl hown0.1 ⟨g, 0, none⟩ L.length c (ci L) rfl (by omega) fin3 hone (by show 1 + L.length ≤ maxLen; unfold maxLen; omega) (by show (1 + L.length) * 8 ≤ _; omega) (by simp) ?_))
          intro v' w3 hown3 hgrow hnil
          have R := pre_own (B := w.heap.size) hBw hown3 hgrow hnil
          clear hown3 hgrow hnil fin3 hone hcl
          go_wp2
          go_roundw
          case rel => exact ⟨_, _, rfl, R.1, hbw.trans R.2, HL2, by simp; omega, w0, w1⟩
          case measure => simp only [intOf]; rw [HST.out]; omega
      · have htd : ((v.natAbs % 10 : Nat) : Int) = t := by omega
        have fin2 := fin t htd
        rw [htd] at HL2
        have t1 : -10 < t := by omega
        have t2 : t < 10 := by omega
        clear htd htm fin
        have hown0 := OwnI.lit wr (t)
        rcases id hown.2 with ⟨rfl, rfl⟩ | ⟨g, c, rfl⟩
        · go_wp2_with (first
            | (at_builtin; refine wpList_append_own_none _ rfl _ _ 75 rfl w.heap.size 3 i0 1 Tryd.underlying75 hi _ 1 [.int .i64 (t)] rfl (hown0.mono hBw).1 rfl ?_))
          refine ⟨⟨_, [t], rfl, hown0.mono hBw, hbw.alloc hBw _, HL2, by simp, w0, w1⟩, ?_⟩
          simp only [intOf]; rw [HST.out]; omega
        · have fin3 := fin2 g c hown
          clear fin2
          go_wp2_with (first
            | (at_builtin; refine wpList_append_own _ rfl _ _ 75 rfl wr.heap.size 3 i0 (.int .i64 0) 1 8 Tryd.underlying75 hi hz0 hz1 hz2 rfl (by decide) _ _ _ rfl hown0.1 ⟨g, 0, none⟩ L.length c (ci L) rfl (by omega) fin3 hone (by show 1 + L.length ≤ maxLen; unfold maxLen; omega) (by show (1 + L.length) * 8 ≤ _; omega) (by simp) ?_))
          intro v' w3 hown3 hgrow hnil
          have R := pre_own (B := w.heap.size) hBw hown3 hgrow hnil
          clear hown3 hgrow hnil fin3 hone hcl
          go_wp2
          go_roundw
          case rel => exact ⟨_, _, rfl, R.1, hbw.trans R.2, HL2, by simp; omega, w0, w1⟩
          case measure => simp only [intOf]; rw [HST.out]; omega
/-- what lies there -/
def got (w : World) (a : Addr) : Value := (w.cell? a).getD undef
theorem got_of {w : World} {a : Addr} (h : (w.cell? a).isSome = true) : w.cell? a = some (got w a) := by
  unfold got
  cases hc : w.cell? a with
  | none => rw [hc] at h; simp at h
  | some v => rfl
theorem is_got {w : World} {a : Addr} {v : Value} (h : w.cell? a = some v) : (w.cell? a).isSome = true := by rw [h]; rfl
theorem some_set {w : World} {a : Addr} (h : (w.cell? a).isSome = true) (b : Addr) (v : Value) : ((w.setCell b v).cell? a).isSome = true := by
  by_cases e : b = a
  · subst e; rw [World.cell?_setCell_same' _ _ _ h]; rfl
  · rw [World.cell?_setCell_other _ _ _ _ e]; exact h
/-- what Of's walk holds -/
def Kf (w : World) (a b : Int) (w' : World) : Prop :=
  w'.cell? ⟨w.heap.size, 0, none⟩ = some (.int .i64 a) ∧ w'.cell? ⟨w.heap.size, 1, none⟩ = some (.int .i64 b) ∧
  w'.cell? ⟨w.heap.size + 1, 0, none⟩ = some (got w' ⟨w.heap.size + 1, 0, none⟩) ∧ w'.cell? ⟨w.heap.size + 1, 1, none⟩ = some (got w' ⟨w.heap.size + 1, 1, none⟩) ∧ w'.cell? ⟨w.heap.size + 1, 2, none⟩ = some (got w' ⟨w.heap.size + 1, 2, none⟩) ∧
  w'.frozen? ⟨w.heap.size + 1, 0, none⟩ = false ∧ w'.frozen? ⟨w.heap.size + 1, 1, none⟩ = false ∧ w'.frozen? ⟨w.heap.size + 1, 2, none⟩ = false ∧ w.heap.size + 2 ≤ w'.heap.size ∧ Below w.heap.size w w'
theorem Kf.later {w : World} {a b : Int} {w1 w2 : World} (h : Kf w a b w1) (hb : Below w1.heap.size w1 w2) : Kf w a b w2 := by
  obtain ⟨h1, h2, h3, h4, h5, h6, h7, h8, h9, h10⟩ := h
  exact ⟨(hb.cell (p := ⟨w.heap.size, 0, none⟩) (show w.heap.size < w1.heap.size by omega)).trans h1, (hb.cell (p := ⟨w.heap.size, 1, none⟩) (show w.heap.size < w1.heap.size by omega)).trans h2,
    got_of (is_got ((hb.cell (p := ⟨w.heap.size + 1, 0, none⟩) (show w.heap.size + 1 < w1.heap.size by omega)).trans h3)), got_of (is_got ((hb.cell (p := ⟨w.heap.size + 1, 1, none⟩) (show w.heap.size + 1 < w1.heap.size by omega)).trans h4)), got_of (is_got ((hb.cell (p := ⟨w.heap.size + 1, 2, none⟩) (show w.heap.size + 1 < w1.heap.size by omega)).trans h5)),
    (hb.frozen (p := ⟨w.heap.size + 1, 0, none⟩) (show w.heap.size + 1 < w1.heap.size by omega)).trans h6, (hb.frozen (p := ⟨w.heap.size + 1, 1, none⟩) (show w.heap.size + 1 < w1.heap.size by omega)).trans h7, (hb.frozen (p := ⟨w.heap.size + 1, 2, none⟩) (show w.heap.size + 1 < w1.heap.size by omega)).trans h8,
    by have := hb.size; omega, h10.trans (hb.mono (by omega))⟩
theorem Kf.first (w : World) (a b : Int) : Kf w a b ((w.alloc (.cells #[.int .i64 a, .int .i64 b] 32)).alloc (.cells #[.bool false, .slice none 0 0, .int .i64 0] 77)) := by
  have hb := below2 w (.cells #[.int .i64 a, .int .i64 b] 32) (.cells #[.bool false, .slice none 0 0, .int .i64 0] 77)
  have hs := (Slot.new w a b).below (C := w.heap.size + 1) (w' := (w.alloc (.cells #[.int .i64 a, .int .i64 b] 32)).alloc (.cells #[.bool false, .slice none 0 0, .int .i64 0] 77)) ((Below.refl _ _).alloc (by simp) _) (by omega)
  have e : (w.alloc (.cells #[.int .i64 a, .int .i64 b] 32)).heap.size = w.heap.size + 1 := by simp
  refine ⟨hs.c0, hs.c1, ?_, ?_, ?_, ?_, ?_, ?_, by simp, hb⟩
  iterate 3 (exact got_of (by rw [← e]; simp))
  all_goals (rw [← e]; simp)
theorem Kf.stored {w : World} {a b : Int} {w1 : World} (h : Kf w a b w1) (u0 u1 u2 : Value) : Kf w a b (((w1.setCell ⟨w.heap.size + 1, 0, none⟩ u0).setCell ⟨w.heap.size + 1, 1, none⟩ u1).setCell ⟨w.heap.size + 1, 2, none⟩ u2) := by
  obtain ⟨h1, h2, h3, h4, h5, h6, h7, h8, h9, h10⟩ := h
  have hb : Below (w.heap.size + 1) w1 (((w1.setCell ⟨w.heap.size + 1, 0, none⟩ u0).setCell ⟨w.heap.size + 1, 1, none⟩ u1).setCell ⟨w.heap.size + 1, 2, none⟩ u2) :=
    (((Below.refl _ _).setCell (p := ⟨w.heap.size + 1, 0, none⟩) (Nat.le_refl _) _).setCell (p := ⟨w.heap.size + 1, 1, none⟩) (Nat.le_refl _) _).setCell (p := ⟨w.heap.size + 1, 2, none⟩) (Nat.le_refl _) _
  exact ⟨(hb.cell (p := ⟨w.heap.size, 0, none⟩) (Nat.lt_succ_self _)).trans h1, (hb.cell (p := ⟨w.heap.size, 1, none⟩) (Nat.lt_succ_self _)).trans h2,
    got_of (some_set (some_set (some_set (is_got h3) _ _) _ _) _ _), got_of (some_set (some_set (some_set (is_got h4) _ _) _ _) _ _), got_of (some_set (some_set (some_set (is_got h5) _ _) _ _) _ _),
    by simpa [World.frozen?_setCell] using h6, by simpa [World.frozen?_setCell] using h7, by simpa [World.frozen?_setCell] using h8, by have := hb.size; omega, h10.trans (hb.mono (by omega))⟩

theorem cell3_0 {w : World} {B : Nat} (h : (w.cell? ⟨B, 0, none⟩).isSome = true) (u0 u1 u2 : Value) : (((w.setCell ⟨B, 0, none⟩ u0).setCell ⟨B, 1, none⟩ u1).setCell ⟨B, 2, none⟩ u2).cell? ⟨B, 0, none⟩ = some u0 := by
  rw [World.cell?_setCell_other _ _ _ _ (by simp), World.cell?_setCell_other _ _ _ _ (by simp), World.cell?_setCell_same' _ _ _ h]
theorem cell3_1 {w : World} {B : Nat} (h : (w.cell? ⟨B, 1, none⟩).isSome = true) (u0 u1 u2 : Value) : (((w.setCell ⟨B, 0, none⟩ u0).setCell ⟨B, 1, none⟩ u1).setCell ⟨B, 2, none⟩ u2).cell? ⟨B, 1, none⟩ = some u1 := by
  rw [World.cell?_setCell_other _ _ _ _ (by simp), World.cell?_setCell_same' _ _ _ (some_set h _ _)]
theorem cell3_2 {w : World} {B : Nat} (h : (w.cell? ⟨B, 2, none⟩).isSome = true) (u0 u1 u2 : Value) : (((w.setCell ⟨B, 0, none⟩ u0).setCell ⟨B, 1, none⟩ u1).setCell ⟨B, 2, none⟩ u2).cell? ⟨B, 2, none⟩ = some u2 := by
  rw [World.cell?_setCell_same' _ _ _ (some_set (some_set h _ _) _ _)]
theorem OwnI.set {w : World} {B : Nat} {v : Value} {l : List Int} (h : OwnI w B v l) {a : Addr} (ha : a.block < B) (u : Value) : OwnI (w.setCell a u) B v l :=
  ⟨ownsRow_setCell_below h.1 ha u, h.2⟩
theorem OwnI.ne {w : World} {B : Nat} {v : Value} {l : List Int} (h : OwnI w B v l) (hl : 0 < l.length) : ∃ g c, v = .slice (some ⟨g, 0, none⟩) l.length c := by
  rcases h.2 with ⟨_, rfl⟩ | h
  · simp at hl
  · exact h
set_option maxRecDepth 1000000 in
set_option maxHeartbeats 2000000 in
theorem of_some (m e : Int) (D : List Int) (hD : D = dI m.natAbs) (hm : m ≠ 0) (h0 : -9223372036854775808 ≤ m) (h1 : m ≤ 9223372036854775807) (w : World) :
    Calls Tryd.prog 72 #[numV m e] w fun r w' => ∃ g c, r = .returned (.agg #[.bool (decide (m < 0)), .slice (some ⟨g, 0, none⟩) D.length c, .int .i64 e]) ∧ OwnI w' (w.heap.size + 2) (.slice (some ⟨g, 0, none⟩) D.length c) D ∧ Below w.heap.size w w' := by
  have hDl : 0 < D.length := by rw [hD, dI_len, nd, dif_neg (by omega)]; omega
  have RD : Hid (∀ w1, Calls Tryd.prog 73 #[.int .i64 m] w1 fun e w' => ∃ g c, e = .returned (.slice (some ⟨g, 0, none⟩) D.length c) ∧ OwnI w' w1.heap.size (.slice (some ⟨g, 0, none⟩) D.length c) D ∧ Below w1.heap.size w1 w') := fun w1 =>
    (rdigs_aux m D hD h0 h1 w1).mono fun e w' ⟨v, he, ho, hb⟩ => by
      obtain ⟨g, c, rfl⟩ := ho.ne hDl
      exact ⟨g, c, he, ho, hb⟩
  have H0 := Lib.hid (Kf.first w m e)
  clear hD hDl hm
  unfold numV
  go_enter Tryd.func72, Tryd.ntmps72
  go_wp2_with fail
  go_region_held3 (fun w' => w'.cell? ⟨w.heap.size, 0, none⟩ = some (.int .i64 m) ∧ w'.cell? ⟨w.heap.size, 1, none⟩ = some (.int .i64 e) ∧
  w'.cell? ⟨w.heap.size + 1, 0, none⟩ = some (got w' ⟨w.heap.size + 1, 0, none⟩) ∧ w'.cell? ⟨w.heap.size + 1, 1, none⟩ = some (got w' ⟨w.heap.size + 1, 1, none⟩) ∧ w'.cell? ⟨w.heap.size + 1, 2, none⟩ = some (got w' ⟨w.heap.size + 1, 2, none⟩) ∧
  w'.frozen? ⟨w.heap.size + 1, 0, none⟩ = false ∧ w'.frozen? ⟨w.heap.size + 1, 1, none⟩ = false ∧ w'.frozen? ⟨w.heap.size + 1, 2, none⟩ = false ∧ w.heap.size + 2 ≤ w'.heap.size ∧ Below w.heap.size w w')
    (first | exact H0.out.later (below_dr _) | exact Kf.later (hb := hb5) (h := by assumption) | exact Kf.stored (h := by assumption) _ _ _)
    (first
      | (go_at_call 73; refine (RD.out _).mono ?_; rintro e w5 ⟨g5, c5, rfl, hown5, hb5⟩))
  have K4 := H0.out.later (below_dr _)
  have K5 := K4.later hb5
  have hK4 : w.heap.size + 2 ≤ ((w.alloc (Obj.cells #[Value.int IntKind.i64 m, Value.int IntKind.i64 e] 32)).alloc (Obj.cells #[Value.bool false, Value.slice none 0 0, Value.int IntKind.i64 0] 77)).drew.heap.size := K4.2.2.2.2.2.2.2.2.1
  have O5 : OwnI w5 (w.heap.size + 2) (.slice (some ⟨g5, 0, none⟩) D.length c5) D := hown5.mono hK4
  clear hown5 hb5 hK4 K4 H0 RD
  obtain ⟨h1, h2, h3, h4, h5, h6, h7, h8, h9, h10⟩ := K5
  have c0 := cell3_0 (is_got h3) (.bool (decide (m < 0))) (.slice (some ⟨g5, 0, none⟩) D.length c5) (.int .i64 e)
  have c1 := cell3_1 (is_got h4) (.bool (decide (m < 0))) (.slice (some ⟨g5, 0, none⟩) D.length c5) (.int .i64 e)
  have c2 := cell3_2 (is_got h5) (.bool (decide (m < 0))) (.slice (some ⟨g5, 0, none⟩) D.length c5) (.int .i64 e)
  have b3 := (((h10.setCell (p := ⟨w.heap.size + 1, 0, none⟩) (show w.heap.size ≤ w.heap.size + 1 by omega) (.bool (decide (m < 0)))).setCell (p := ⟨w.heap.size + 1, 1, none⟩) (show w.heap.size ≤ w.heap.size + 1 by omega) (.slice (some ⟨g5, 0, none⟩) D.length c5)).setCell (p := ⟨w.heap.size + 1, 2, none⟩) (show w.heap.size ≤ w.heap.size + 1 by omega) (.int .i64 e))
  have O6 := ((O5.set (a := ⟨w.heap.size + 1, 0, none⟩) (show w.heap.size + 1 < w.heap.size + 2 by omega) (.bool (decide (m < 0)))).set (a := ⟨w.heap.size + 1, 1, none⟩) (show w.heap.size + 1 < w.heap.size + 2 by omega) (.slice (some ⟨g5, 0, none⟩) D.length c5)).set (a := ⟨w.heap.size + 1, 2, none⟩) (show w.heap.size + 1 < w.heap.size + 2 by omega) (.int .i64 e)
  clear h1 h2 h3 h4 h5 h6 h7 h8 h9 h10 O5
  go_wp2
  refine bodyPost_ret (v := .agg #[.bool (decide (m < 0)), .slice (some ⟨g5, 0, none⟩) D.length c5, .int .i64 e]) (by simp [results, Tryd.results72, go_sem, c0, c1, c2]) rfl ⟨g5, c5, rfl, O6, b3⟩

/-- what the walk holds of a number's cells -/
def Kone (w : World) (a b : Int) (w' : World) : Prop :=
  w'.cell? ⟨w.heap.size, 0, none⟩ = some (.int .i64 a) ∧ w'.cell? ⟨w.heap.size, 1, none⟩ = some (.int .i64 b) ∧ w.heap.size + 1 ≤ w'.heap.size ∧ Below w.heap.size w w'
theorem Kone.later {w : World} {a b : Int} {w1 w2 : World} (h : Kone w a b w1) (hb : Below w1.heap.size w1 w2) : Kone w a b w2 := by
  obtain ⟨h1, h2, h3, h4⟩ := h
  exact ⟨(hb.cell (p := ⟨w.heap.size, 0, none⟩) (show w.heap.size < w1.heap.size by omega)).trans h1, (hb.cell (p := ⟨w.heap.size, 1, none⟩) (show w.heap.size < w1.heap.size by omega)).trans h2, by have := hb.size; omega, h4.trans (hb.mono (by omega))⟩
theorem Kone.first (w : World) (a b : Int) : Kone w a b (w.alloc (.cells #[.int .i64 a, .int .i64 b] 32)) :=
  ⟨(Slot.new w a b).c0, (Slot.new w a b).c1, by simp, alloc_below _ _⟩
theorem rright_zero (e : Int) (w : World) : Calls Tryd.prog 66 #[numV 0 e] w fun r w' => r = .returned (.bool (e == 0)) ∧ Below w.heap.size w w' := by
  unfold numV
  go_enter Tryd.func66, Tryd.ntmps66
  go_wp2
  go_ret
  exact ⟨rfl, alloc_below _ _⟩
theorem rright_no (m e : Int) (hm : (m == 0) = false) (h : 1000000000000000 ≤ m ∨ m ≤ -1000000000000000 ∨ (m.tmod 10 == 0) = true ∨ e < -40 ∨ 40 < e) (w : World) : Calls Tryd.prog 66 #[numV m e] w fun r w' => r = .returned (.bool false) ∧ Below w.heap.size w w' := by
  have H := Lib.hid h
  clear h
  by_cases h1 : 1000000000000000 ≤ m
  · clear H
    unfold numV
    go_enter Tryd.func66, Tryd.ntmps66
    go_wp2
    go_ret
    exact ⟨rfl, alloc_below _ _⟩
  · by_cases h2 : m ≤ -1000000000000000
    · clear H
      unfold numV
      go_enter Tryd.func66, Tryd.ntmps66
      go_wp2
      go_ret
      exact ⟨rfl, alloc_below _ _⟩
    · by_cases h3 : (m.tmod 10 == 0) = true
      · clear H
        unfold numV
        go_enter Tryd.func66, Tryd.ntmps66
        go_wp2
        go_ret
        exact ⟨rfl, alloc_below _ _⟩
      · have h3' : (m.tmod 10 == 0) = false := by simpa using h3
        clear h3
        by_cases h4 : e < -40
        · clear H
          unfold numV
          go_enter Tryd.func66, Tryd.ntmps66
          go_wp2
          go_ret
          exact ⟨rfl, alloc_below _ _⟩
        · have h5 : 40 < e := by
            have := H.out
            rcases this with h | h | h | h | h
            · omega
            · omega
            · rw [h3'] at h; simp at h
            · omega
            · exact h
          clear H
          unfold numV
          go_enter Tryd.func66, Tryd.ntmps66
          go_wp2
          go_ret
          exact ⟨rfl, alloc_below _ _⟩
set_option maxRecDepth 1000000 in
set_option maxHeartbeats 2000000 in
theorem rright_yes (m e : Int) (n : Nat) (hn : Hid (nd m.natAbs = n)) (hn2 : n ≤ 19) (hm : (m == 0) = false) (h1 : ¬ 1000000000000000 ≤ m) (h2 : ¬ m ≤ -1000000000000000) (h3 : (m.tmod 10 == 0) = false) (h4 : ¬ e < -40) (h5 : ¬ 40 < e) (w : World) : Calls Tryd.prog 66 #[numV m e] w fun r w' => r = .returned (.bool (decide ((n : Int) + e ≤ 40))) ∧ Below w.heap.size w w' := by
  have hm0 : m ≠ 0 := by rw [beq_eq_false_iff_ne] at hm; exact hm
  have OF : Hid (∀ w1, Calls Tryd.prog 72 #[.agg #[.int .i64 m, .int .i64 e]] w1 fun r w' => ∃ g c, r = .returned (.agg #[.bool (decide (m < 0)), .slice (some ⟨g, 0, none⟩) n c, .int .i64 e]) ∧ Below w1.heap.size w1 w') := fun w1 =>
    (of_some m e _ rfl hm0 (by omega) (by omega) w1).mono fun r w' ⟨g, c, he, _, hb⟩ => by
      rw [dI_len, hn.out] at he
      exact ⟨g, c, he, hb⟩
  have S0 := Lib.hid (Kone.first w m e)
  have hwr : IntKind.i64.wrap ((n : Int) + e) = (n : Int) + e := by rw [IntKind.wrap_i64]; omega
  have HFD : ∀ (g c : Nat) (w1 : World), (Instr.field 77 (.agg #[.bool (decide (m < 0)), .slice (some ⟨g, 0, none⟩) n c, .int .i64 e]) 1).run Tryd.prog w1 = .ok (.slice (some ⟨g, 0, none⟩) n c) w1 := fun _ _ _ => by kernel_rfl
  clear hm0 hn
  unfold numV
  go_enter Tryd.func66, Tryd.ntmps66
  go_wp2_with fail
  go_region_held3 (fun w' => w'.cell? ⟨w.heap.size, 0, none⟩ = some (.int .i64 m) ∧ w'.cell? ⟨w.heap.size, 1, none⟩ = some (.int .i64 e) ∧ w.heap.size + 1 ≤ w'.heap.size ∧ Below w.heap.size w w')
    (first | exact S0.out.later (below_dr _) | exact Kone.later (hb := hb5) (h := by assumption))
    (first
      | (go_at_call 72; refine (OF.out _).mono ?_; rintro e w5 ⟨g5, c5, rfl, hb5⟩))
  have hk : Below w.heap.size w w5 := (show Kone w m e w5 by assumption).2.2.2
  go_wp2
  go_ret
  exact ⟨rfl, hk⟩
/-- the document's Right, of every number -/
theorem rright_any (m e : Int) (w : World) : Calls Tryd.prog 66 #[numV m e] w fun r w' => r = .returned (.bool (rightB m e)) ∧ Below w.heap.size w w' := by
  by_cases hm : m = 0
  · subst hm
    have e1 : rightB 0 e = (e == 0) := by unfold rightB; rw [if_pos rfl]; rfl
    rw [e1]; exact rright_zero e w
  · have hm' : (m == 0) = false := by rw [beq_eq_false_iff_ne]; exact hm
    by_cases hno : 1000000000000000 ≤ m ∨ m ≤ -1000000000000000 ∨ (m.tmod 10 == 0) = true ∨ e < -40 ∨ 40 < e
    · have e1 : rightB m e = false := by
        unfold rightB
        rw [if_neg hm]
        have hge : 1000000000000000 ≤ m.natAbs → ¬ nd m.natAbs ≤ 15 := fun h1 h2 => by
          have := (nd_le_iff _ _).1 h2
          have e15 : (10 : Nat) ^ 15 = 1000000000000000 := by decide
          omega
        have hn1 : 1 ≤ nd m.natAbs := by rw [nd, dif_neg (by omega)]; omega
        by_cases h2 : m.tmod 10 = 0 ∨ e < -40
        · rw [if_pos h2]
        · rw [if_neg h2]
          have : ¬ (nd m.natAbs ≤ 15 ∧ e ≤ 40 - (nd m.natAbs : Int)) := by
            rintro ⟨h3, h4⟩
            rcases hno with h | h | h | h | h
            · exact hge (by omega) h3
            · exact hge (by omega) h3
            · exact h2 (.inl (by simpa using h))
            · exact h2 (.inr h)
            · omega
          simpa using this
      rw [e1]; exact rright_no m e hm' hno w
    · have g1 : ¬ 1000000000000000 ≤ m := fun h => hno (.inl h)
      have g2 : ¬ m ≤ -1000000000000000 := fun h => hno (.inr (.inl h))
      have g3 : (m.tmod 10 == 0) = false := by
        by_cases h : (m.tmod 10 == 0) = true
        · exact absurd (.inr (.inr (.inl h))) hno
        · simpa using h
      have g4 : ¬ e < -40 := fun h => hno (.inr (.inr (.inr (.inl h))))
      have g5 : ¬ 40 < e := fun h => hno (.inr (.inr (.inr (.inr h))))
      have hn15 : nd m.natAbs ≤ 15 := nd_le 15 _ (by have e15 : (10 : Nat) ^ 15 = 1000000000000000 := by decide
                                                     omega)
      have e1 : rightB m e = decide ((nd m.natAbs : Int) + e ≤ 40) := by
        unfold rightB
        rw [if_neg hm, if_neg (fun h => h.elim (fun h => by rw [h] at g3; simp at g3) g4)]
        rw [decide_eq_decide]
        omega
      rw [e1]
      exact rright_yes m e _ rfl (by omega) hm' g1 g2 g3 g4 g5 w

end Go.Proofs.YtfgddhabepllfaaDoor.Nm
