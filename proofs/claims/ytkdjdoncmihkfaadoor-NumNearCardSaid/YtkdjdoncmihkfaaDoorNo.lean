/- Walks over the document's digits, Of and Right. -/
import Derived.Test.YtkdjdoncmihkfaaDoorNm
import Derived.Laws.AppendOwnNone
namespace Go.Proofs.YtkdjdoncmihkfaaDoor
open Go.RowKit

theorem info3 : (Tryd.prog.info? 3).map (fun i => (i.zero, i.size, i.bytes)) = some (some (.int .i64 0), 1, 8) := by kernel_rfl
/-- ints as cells -/
def ci (l : List Int) : List Value := l.map fun x => .int .i64 x
theorem ci_length (l : List Int) : (ci l).length = l.length := by simp [ci]
/-- the value is a slice of ints of the call's own, nil if it has none -/
def OwnI (w : World) (B : Nat) (v : Value) (l : List Int) : Prop := w.ownsRow B 3 1 v l.length (ci l) ∧ (v = .slice none 0 0 ∧ l = [] ∨ ∃ g c, v = .slice (some ⟨g, 0, none⟩) l.length c)
/-- a slice's cells hold these ints -/
def RdI (w : World) (A : Option Addr) (l : List Int) : Prop :=
  0 < l.length → ∃ b off, A = some ⟨b, off, none⟩ ∧ b < w.heap.size ∧ ∀ j x, l[j]? = some x → w.cell? ⟨b, off + j, none⟩ = some (.int .i64 x)
theorem RdI.below {w w' : World} {A : Option Addr} {l : List Int} (h : RdI w A l) (hb : Below w.heap.size w w') : RdI w' A l := fun hl => by
  obtain ⟨b, off, e, hlt, hc⟩ := h hl
  have := hb.size
  exact ⟨b, off, e, by omega, fun j x hx => (hb.cell (p := ⟨b, off + j, none⟩) hlt).trans (hc j x hx)⟩
theorem OwnI.below {w w' : World} {B : Nat} {v : Value} {l : List Int} (h : OwnI w B v l) (hb : Below w.heap.size w w') : OwnI w' B v l :=
  ⟨h.1.kept (row := none) ⟨hb.os, hb.tape, hb.output, hb.size, fun j hj _ => hb.block j hj⟩ (by cases hv : v.ownBlock <;> simp), h.2⟩
theorem OwnI.nil (w : World) (B : Nat) : OwnI w B (.slice none 0 0) [] := ⟨World.ownsRow_nil .., .inl ⟨rfl, rfl⟩⟩
theorem OwnI.rd {w : World} {B : Nat} {v : Value} {l : List Int} (h : OwnI w B v l) : ∃ A c, v = .slice A l.length c ∧ l.length ≤ c ∧ c ≤ 9223372036854775807 ∧ RdI w A l := by
  obtain ⟨⟨h1, h2⟩, h3⟩ := h
  rcases h3 with ⟨rfl, rfl⟩ | ⟨g, c, rfl⟩
  · exact ⟨none, 0, rfl, by simp, by omega, fun h => by simp at h⟩
  · have hc := fun j (hj : j < l.length * 1) => World.ownsRow.cellAt (w := w) (base := B) (e := 3) (size := 1) (g := g) (cap := c) (xs := ci l) ⟨h1, h2⟩ j hj
    rcases h2 with ⟨h', _⟩ | ⟨g', cap', cur, h', hb, hg, hn, hm, hs, ht⟩
    · simp at h'
    · simp only [Value.slice.injEq, Option.some.injEq, Addr.mk.injEq, and_true, true_and] at h'
      obtain ⟨rfl, rfl⟩ := h'
      refine ⟨_, _, rfl, hn, by unfold maxLen at hm; omega, fun hl => ⟨_, _, rfl, (Array.getElem?_eq_some_iff.1 hg).1, fun j x hx => ?_⟩⟩
      have hj := (List.getElem?_eq_some_iff.1 hx).1
      rw [Nat.zero_add, hc j (by omega)]
      simp [ci, hx]
theorem OwnI.lit (w : World) (d : Int) : OwnI (w.alloc (.cells #[.int .i64 d] 3)) w.heap.size (.slice (some ⟨w.heap.size, 0, none⟩) 1 1) [d] :=
  ⟨World.ownsRow_lit (base := w.heap.size) (e := 3) (size := 1) w #[.int .i64 d] 1 (Nat.le_refl _) (by unfold maxLen; omega) (by simp), .inr ⟨_, _, rfl⟩⟩
theorem OwnI.mono {w : World} {B B' : Nat} {v : Value} {l : List Int} (h : OwnI w B v l) (hB : B' ≤ B) : OwnI w B' v l := by
  obtain ⟨⟨h1, h2⟩, h3⟩ := h
  refine ⟨⟨h1, ?_⟩, h3⟩
  rcases h2 with h' | ⟨g', cap', cur, h', hb, hg⟩
  · exact .inl h'
  · exact .inr ⟨g', cap', cur, h', by omega, hg⟩

/-- digits by division -/
def dI (u : Nat) : List Int := if _h : u = 0 then [] else dI (u / 10) ++ [((u % 10 : Nat) : Int)]
termination_by u
decreasing_by omega
theorem dI_len (u : Nat) : (dI u).length = nd u := by
  induction u using Nat.strongRecOn with
  | ind u ih =>
    rw [dI, nd]
    by_cases h : u = 0
    · rw [dif_pos h, dif_pos h]; rfl
    · rw [dif_neg h, dif_neg h, List.length_append, ih (u / 10) (by omega)]; rfl
theorem dI_zero : dI 0 = [] := by rw [dI]; rfl
theorem dI_step (u : Nat) (h : u ≠ 0) : dI u = dI (u / 10) ++ [((u % 10 : Nat) : Int)] := by rw [dI, dif_neg h]

theorem pre_own {w w1 : World} {B : Nat} {d : Int} {l : List Int} {v' : Value} (hB : B ≤ w.heap.size)
    (h : w1.ownsRow w.heap.size 3 1 v' (1 + l.length) ([.int .i64 d] ++ ci l)) (hg : (w.alloc (.cells #[.int .i64 d] 3)).grownBy w1 (some w.heap.size)) (hn : ¬ v' = .slice none 0 0) :
    OwnI w1 B v' (d :: l) ∧ Below B w w1 := by
  refine ⟨OwnI.mono (B := w.heap.size) ⟨by rw [show (d :: l).length = 1 + l.length by simp; omega]; exact h, .inr ?_⟩ hB, ?_⟩
  · rcases h.2 with ⟨rfl, _⟩ | ⟨g, cap, cur, rfl, _⟩
    · exact absurd rfl hn
    · exact ⟨g, cap, by rw [show (d :: l).length = 1 + l.length by simp; omega]⟩
  · exact Below.grown ((Below.refl _ _).alloc hB _) hg (by simp; omega) (fun j hj => by simp at hj; omega)

set_option maxRecDepth 1000000 in
set_option maxHeartbeats 2000000 in
/-- the document's digits, of every int -/
theorem rdigs_aux (m : Int) (D : List Int) (hD : D = dI m.natAbs) (h0 : -9223372036854775808 ≤ m) (h1 : m ≤ 9223372036854775807) (w : World) :
    Calls Tryd.prog 50 #[.int .i64 m] w fun e w' => ∃ v, e = .returned v ∧ OwnI w' w.heap.size v D ∧ Below w.heap.size w w' := by
  obtain ⟨i0, hi, hz0, hz1, hz2⟩ := info_parts info3
  have hlen : D.length ≤ 19 := by rw [hD, dI_len]; exact nd_le 19 _ (by omega)
  have HD := Lib.hid hD
  clear hD
  go_enter Tryd.func50, Tryd.ntmps50
  go_wp2
  go_loopw [0, 3] (fun n' o wr => ∃ (v : Int) (L : List Int), n' = .int .i64 v ∧ OwnI wr w.heap.size o L ∧ Below w.heap.size w wr ∧ Hid (dI v.natAbs ++ L = D) ∧ L.length ≤ 19 ∧ -9223372036854775808 ≤ v ∧ v ≤ 9223372036854775807) (fun n' _ _ => nd (intOf n').natAbs)
  case atStart => exact ⟨m, [], rfl, OwnI.nil _ _, Below.refl _ _, by show _ = _; rw [List.append_nil]; exact HD.out.symm, by simp, h0, h1⟩
  case round =>
    obtain ⟨v, L, rfl, hown, hbw, HL, hll, v0, v1⟩ := hrel
    have hBw := hbw.size
    by_cases hv : v = 0
    · have e : L = D := by have := HL.out; rw [hv] at this; rw [← this]; rw [show (0 : Int).natAbs = 0 from rfl, dI_zero]; rfl
      subst e
      subst hv
      clear HL HD
      rcases hown.2 with ⟨rfl, rfl⟩ | ⟨g, c, rfl⟩
      · go_wp2
        go_ret
        exact ⟨_, rfl, hown, hbw⟩
      · go_wp2
        go_ret
        exact ⟨_, rfl, hown, hbw⟩
    · have hv2 : (v != 0) = true := by rw [bne_iff_ne]; exact hv
      have HL2 : Hid (dI (v.tdiv 10).natAbs ++ (((v.natAbs % 10 : Nat) : Int) :: L) = D) := by
        have := HL.out
        rw [dI_step _ (by omega), List.append_assoc] at this
        show _ = _
        rw [← this, Int.natAbs_tdiv]; rfl
      have hll2 : L.length + 1 ≤ 19 := by
        have := congrArg List.length HL2.out
        simp at this; omega
      have hst := nd_step v (by rw [beq_eq_false_iff_ne]; exact hv)
      have HST := Lib.hid hst
      have hab : (v.tdiv 10).natAbs = v.natAbs / 10 := by rw [Int.natAbs_tdiv]; rfl
      have w0 : -9223372036854775808 ≤ v.tdiv 10 := by omega
      have w1 : v.tdiv 10 ≤ 9223372036854775807 := by omega
      have hw : wrap64 (v.tdiv 10) = v.tdiv 10 := IntWalk.wrap64_in _ ⟨w0, w1⟩
      have htm : (v.tmod 10).natAbs = v.natAbs % 10 := by rw [Int.natAbs_tmod]; rfl
      obtain ⟨t, hte⟩ : ∃ t, t = v.tmod 10 := ⟨_, rfl⟩
      rw [← hte] at htm
      have hte2 := hte.symm
      clear hst hv HL hab hte
      have fin : ∀ (d : Int), ((v.natAbs % 10 : Nat) : Int) = d → ∀ (g c : Nat), OwnI wr w.heap.size (.slice (some ⟨g, 0, none⟩) L.length c) L → ∀ j u, (ci L)[j]? = some u → (wr.alloc (.cells #[.int .i64 d] 3)).cell? ((⟨g, 0, none⟩ : Addr).add j) = some u := by
        intro d _ g c ho j u hj
        have hjl : j < L.length := by have := (List.getElem?_eq_some_iff.1 hj).1; rwa [ci_length] at this
        obtain ⟨A, c', hv, _, _, hr⟩ := ho.rd
        obtain ⟨b', off', hae, hbl, hcells⟩ := hr (by omega)
        simp only [Value.slice.injEq, true_and] at hv
        rw [← hv.1] at hae
        simp only [Option.some.injEq, Addr.mk.injEq, and_true] at hae
        obtain ⟨rfl, rfl⟩ := hae
        have hx := hcells j L[j] (by simp [hjl])
        have hu : u = .int .i64 L[j] := by simpa [ci, hjl] using hj.symm
        rw [hu]
        have ea : (⟨g, 0, none⟩ : Addr).add j = ⟨g, 0 + j, none⟩ := by
          by_cases hj0 : j = 0
          · subst hj0; rfl
          · simp [Addr.add, hj0]
        rw [ea, ← hx]
        exact ((Below.refl wr.heap.size wr).alloc (Nat.le_refl _) _).cell (p := ⟨g, 0 + j, none⟩) hbl
      have hone : ∀ u ∈ ci L, u.oneCell' = true := by intro u hu; simp [ci] at hu; obtain ⟨x, _, rfl⟩ := hu; rfl
      have hcl := ci_length L
      by_cases ht : t < 0
      · have htd : ((v.natAbs % 10 : Nat) : Int) = -t := by omega
        have fin2 := fin (-t) htd
        rw [htd] at HL2
        have t1 : -10 < t := by omega
        have t2 : t < 10 := by omega
        clear htd htm fin
        have hown0 := OwnI.lit wr (-t)
        rcases id hown.2 with ⟨rfl, rfl⟩ | ⟨g, c, rfl⟩
        · go_wp2_with (first
            | (at_builtin; refine wpList_append_own_none _ rfl _ _ 43 rfl w.heap.size 3 i0 1 Tryd.underlying43 hi _ 1 [.int .i64 (-t)] rfl (hown0.mono hBw).1 rfl ?_))
          refine ⟨⟨_, [-t], rfl, hown0.mono hBw, hbw.alloc hBw _, HL2, by simp, w0, w1⟩, ?_⟩
          simp only [intOf]; rw [HST.out]; omega
        · have fin3 := fin2 g c hown
          clear fin2
          go_wp2_with (first
            | (at_builtin; refine wpList_append_own _ rfl _ _ 43 rfl wr.heap.size 3 i0 (.int .i64 0) 1 8 Tryd.underlying43 hi hz0 hz1 hz2 rfl (by decide) _ _ _ rfl hown0.1 ⟨g, 0, none⟩ L.length c (ci L) rfl (by omega) fin3 hone (by show 1 + L.length ≤ maxLen; unfold maxLen; omega) (by show (1 + L.length) * 8 ≤ _; omega) (by simp) ?_))
          intro v' w3 hown3 hgrow hnil
          have R := pre_own (B := w.heap.size) hBw hown3 hgrow hnil
          clear hown3 hgrow hnil fin3 hone hcl
          go_wp2
          go_roundw
          case rel => exact ⟨_, _, rfl, R.1, hbw.trans R.2, HL2, by simp; omega, w0, w1⟩
          case measure => simp only [intOf]; rw [HST.out]; omega
      · have htd : ((v.natAbs % 10 : Nat) : Int) = t := by omega
        have fin2 := fin t htd
        rw [htd] at HL2
        have t1 : -10 < t := by omega
        have t2 : t < 10 := by omega
        clear htd htm fin
        have hown0 := OwnI.lit wr (t)
        rcases id hown.2 with ⟨rfl, rfl⟩ | ⟨g, c, rfl⟩
        · go_wp2_with (first
            | (at_builtin; refine wpList_append_own_none _ rfl _ _ 43 rfl w.heap.size 3 i0 1 Tryd.underlying43 hi _ 1 [.int .i64 (t)] rfl (hown0.mono hBw).1 rfl ?_))
          refine ⟨⟨_, [t], rfl, hown0.mono hBw, hbw.alloc hBw _, HL2, by simp, w0, w1⟩, ?_⟩
          simp only [intOf]; rw [HST.out]; omega
        · have fin3 := fin2 g c hown
          clear fin2
          go_wp2_with (first
            | (at_builtin; refine wpList_append_own _ rfl _ _ 43 rfl wr.heap.size 3 i0 (.int .i64 0) 1 8 Tryd.underlying43 hi hz0 hz1 hz2 rfl (by decide) _ _ _ rfl hown0.1 ⟨g, 0, none⟩ L.length c (ci L) rfl (by omega) fin3 hone (by show 1 + L.length ≤ maxLen; unfold maxLen; omega) (by show (1 + L.length) * 8 ≤ _; omega) (by simp) ?_))
          intro v' w3 hown3 hgrow hnil
          have R := pre_own (B := w.heap.size) hBw hown3 hgrow hnil
          clear hown3 hgrow hnil fin3 hone hcl
          go_wp2
          go_roundw
          case rel => exact ⟨_, _, rfl, R.1, hbw.trans R.2, HL2, by simp; omega, w0, w1⟩
          case measure => simp only [intOf]; rw [HST.out]; omega
end Go.Proofs.YtkdjdoncmihkfaaDoor
