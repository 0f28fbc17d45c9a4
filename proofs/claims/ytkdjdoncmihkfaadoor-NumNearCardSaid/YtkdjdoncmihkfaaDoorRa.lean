/- Walks over the document's strip and cut: digits as ints. -/
import Derived.Test.YtkdjdoncmihkfaaDoorNp
namespace Go.Proofs.YtkdjdoncmihkfaaDoor
open Go.RowKit

/-- a slice's cells hold these digits, as ints -/
def RdD (w : World) (A : Option Addr) (l : List UInt8) : Prop :=
  0 < l.length → ∃ b off, A = some ⟨b, off, none⟩ ∧ b < w.heap.size ∧ ∀ j x, l[j]? = some x → w.cell? ⟨b, off + j, none⟩ = some (.int .i64 (x.toNat : Int))
theorem RdD.below {w w' : World} {A : Option Addr} {l : List UInt8} (h : RdD w A l) (hb : Below w.heap.size w w') : RdD w' A l := fun hl => by
  obtain ⟨b, off, e, hlt, hc⟩ := h hl
  have := hb.size
  exact ⟨b, off, e, by omega, fun j x hx => (hb.cell (p := ⟨b, off + j, none⟩) hlt).trans (hc j x hx)⟩
theorem RdD.nil (w : World) (A : Option Addr) : RdD w A [] := fun h => absurd h (by simp)
def SlD (w : World) (l : List UInt8) (e : Ending) (w' : World) : Prop := ∃ A c, e = .returned (.slice A l.length c) ∧ l.length ≤ c ∧ c ≤ 9223372036854775807 ∧ RdD w' A l ∧ Below w.heap.size w w'

set_option maxHeartbeats 1000000 in
/-- the document's strip -/
theorem rstrip_any (A : Option Addr) (l : List UInt8) (c : Nat) (w : World) (hr : RdD w A l) (hc : l.length ≤ c) (hcm : c ≤ 9223372036854775807) :
    Calls Tryd.prog 57 #[.slice A l.length c] w (SlD w (strip l)) := by
  have HR := Lib.hid hr
  clear hr
  go_enter Tryd.func57, Tryd.ntmps57
  go_wp2
  go_loop [0] (fun s => ∃ (A' : Option Addr) (c' : Nat) (l' : List UInt8), s = .slice A' l'.length c' ∧ l'.length ≤ c' ∧ c' ≤ 9223372036854775807 ∧ RdD w A' l' ∧ strip l' = strip l) (fun s => lenOf s)
  case atStart => exact ⟨A, c, l, rfl, hc, hcm, HR.out, rfl⟩
  case round =>
    obtain ⟨A', c', l', rfl, hc', hcm', hr', hs⟩ := hrel
    cases l' with
    | nil =>
      have HS := Lib.hid hs
      clear hs hr'
      go_wp2
      go_ret
      exact ⟨A', c', by rw [← HS.out]; rfl, by rw [← HS.out]; simp [strip], hcm', by rw [← HS.out]; exact RdD.nil _ _, Below.refl _ _⟩
    | cons x t =>
      obtain ⟨b, off, rfl, hlt, hcells⟩ := hr' (by simp)
      have h0 : w.cell? ⟨b, off, none⟩ = some (.int .i64 (x.toNat : Int)) := hcells 0 x rfl
      have HS := Lib.hid hs
      have HC := Lib.hid hcells
      clear hs hcells hr'
      by_cases hx : x = 0
      · have hx0 : ((x.toNat : Int) == 0) = true := by rw [hx]; rfl
        have HX := Lib.hid hx
        clear hx
        go_wp2
        go_round
        case rel =>
          refine ⟨_, c' - 1, t, rfl, by simp at hc'; omega, by omega, ?_, by rw [← HS.out, strip, if_pos HX.out]⟩
          intro ht
          have hc1 : ¬ c' = 1 := by simp at hc'; omega
          rw [if_neg hc1]
          refine ⟨b, off + 1, rfl, hlt, fun j y hy => ?_⟩
          have := HC.out (j + 1) y (by simpa using hy)
          rw [show off + 1 + j = off + (j + 1) by omega]
          exact this
        case measure => simp [lenOf]
      · have hx0 : ((x.toNat : Int) == 0) = false := by
          rw [beq_eq_false_iff_ne]
          intro e
          exact hx (UInt8.toNat_inj.1 (show x.toNat = 0 by omega))
        have hst : strip (x :: t) = x :: t := by rw [strip, if_neg hx]
        have HST := Lib.hid (hst.symm.trans HS.out)
        clear hx hst
        go_wp2
        go_ret
        exact ⟨_, c', by rw [← HST.out]; rfl, by rw [← HST.out]; exact hc', hcm', by rw [← HST.out]; exact fun _ => ⟨b, off, rfl, hlt, HC.out⟩, Below.refl _ _⟩

/-- digits as cells of ints -/
def ceD (l : List UInt8) : List Value := l.map fun x => .int .i64 (x.toNat : Int)
theorem ceD_length (l : List UInt8) : (ceD l).length = l.length := by simp [ceD]
def OwnD (w : World) (B : Nat) (v : Value) (l : List UInt8) : Prop := w.ownsRow B 3 1 v l.length (ceD l) ∧ ∃ g c, v = .slice (some ⟨g, 0, none⟩) l.length c
theorem OwnD.rd {w : World} {B : Nat} {v : Value} {l : List UInt8} (h : OwnD w B v l) : ∃ g c, v = .slice (some ⟨g, 0, none⟩) l.length c ∧ B ≤ g ∧ l.length ≤ c ∧ c ≤ 9223372036854775807 ∧ RdD w (some ⟨g, 0, none⟩) l := by
  obtain ⟨⟨h1, h2⟩, g, c, rfl⟩ := h
  have hc := fun j (hj : j < l.length * 1) => World.ownsRow.cellAt (w := w) (base := B) (e := 3) (size := 1) (g := g) (cap := c) (xs := ceD l) ⟨h1, h2⟩ j hj
  rcases h2 with ⟨h', _⟩ | ⟨g', cap', cur, h', hb, hg, hn, hm, hs, ht⟩
  · simp at h'
  · simp only [Value.slice.injEq, Option.some.injEq, Addr.mk.injEq, and_true, true_and] at h'
    obtain ⟨rfl, rfl⟩ := h'
    refine ⟨_, _, rfl, hb, hn, by unfold maxLen at hm; omega, fun hl => ⟨_, _, rfl, (Array.getElem?_eq_some_iff.1 hg).1, fun j x hx => ?_⟩⟩
    have hj := (List.getElem?_eq_some_iff.1 hx).1
    rw [Nat.zero_add, hc j (by omega)]
    simp [ceD, hx]
theorem OwnD.at {w : World} {B g c n : Nat} {l : List UInt8} (h : OwnD w B (.slice (some ⟨g, 0, none⟩) n c) l) {k : Nat} {x : UInt8} (hx : l[k]? = some x) : w.cell? ⟨g, k, none⟩ = some (.int .i64 (x.toNat : Int)) ∧ w.frozen? ⟨g, k, none⟩ = false := by
  obtain ⟨g', c', hv, hb, hlt, hm, hr⟩ := h.rd
  simp only [Value.slice.injEq, Option.some.injEq, Addr.mk.injEq, and_true] at hv
  obtain ⟨rfl, rfl, rfl⟩ := hv
  have hk := (List.getElem?_eq_some_iff.1 hx).1
  refine ⟨?_, h.1.frozenAt k⟩
  rw [h.1.cellAt k (by omega)]; simp [ceD, hx]
theorem OwnD.stored {w : World} {B g c : Nat} {l : List UInt8} {n : Nat} (h : OwnD w B (.slice (some ⟨g, 0, none⟩) n c) l) (k : Nat) (y : UInt8) : OwnD (w.setCell ⟨g, k, none⟩ (.int .i64 (y.toNat : Int))) B (.slice (some ⟨g, 0, none⟩) n c) (l.set k y) ∧ Below B w (w.setCell ⟨g, k, none⟩ (.int .i64 (y.toNat : Int))) := by
  obtain ⟨g', c', hv, hb, hlt, hm, hr⟩ := h.rd
  simp only [Value.slice.injEq, Option.some.injEq, Addr.mk.injEq, and_true] at hv
  obtain ⟨rfl, rfl, rfl⟩ := hv
  refine ⟨⟨?_, g, c, by simp⟩, (Below.refl _ _).setCell hb _⟩
  have := (h.1.stored k (.int .i64 (y.toNat : Int))).1
  rw [show ceD (l.set k y) = (ceD l).set k (.int .i64 (y.toNat : Int)) by simp [ceD, List.map_set]]; simpa using this
/-- is something that isn't 0 behind the first digit? -/
def moreL (R : List UInt8) (M : Bool) (j : Nat) : Bool := M || !((R.take j).drop 1).all (· == 0)
def upR (K : List UInt8) (R : List UInt8) (M : Bool) : Bool := decide (5 < (R[0]?.getD 0).toNat) || ((R[0]?.getD 0).toNat == 5 && (moreL R M R.length || oddL (0 :: K)))
def cutD (K R : List UInt8) (M : Bool) : List UInt8 := if upR K R M = true then oneMoreL K else strip K
theorem moreL_start (R : List UInt8) (M : Bool) : moreL R M 1 = M := by
  unfold moreL
  rw [List.drop_eq_nil_of_le (by rw [List.length_take]; omega)]; simp
theorem moreL_step {R : List UInt8} {M : Bool} {j : Nat} (h1 : 1 ≤ j) (hj : j < R.length) : moreL R M (j + 1) = (moreL R M j || (R[j] != 0)) := by
  unfold moreL
  rw [List.take_succ_eq_append_getElem hj, List.drop_append_of_le_length (by rw [List.length_take]; omega), List.all_append]
  cases M <;> cases ((R.take j).drop 1).all (· == 0) <;> simp [bne]
theorem odd_cons (K : List UInt8) : ((((0 :: K).getLast?.getD 0).toNat : Int) % 2 == 1) = oddL (0 :: K) := by
  unfold oddL
  cases h : (0 :: K).getLast? with
  | none => simp at h
  | some x => rfl

theorem rcut_none (A : Option Addr) (l : List UInt8) (c k : Nat) (M : Bool) (w : World) (h : l.length < k) :
    Calls Tryd.prog 76 #[.slice A l.length c, .int .i64 (k : Int), .bool M] w (SlD w []) := by
  have hl : (l.length : Int) < (k : Int) := by omega
  go_enter Tryd.func76, Tryd.ntmps76
  go_wp2
  go_ret
  exact ⟨none, 0, rfl, Nat.le_refl _, by omega, RdD.nil _ _, Below.refl _ _⟩

set_option maxRecDepth 1000000 in
set_option maxHeartbeats 8000000 in
theorem rcut_main (b off c kk d n : Nat) (l K R : List UInt8) (M : Bool) (w : World) (hr : RdD w (some ⟨b, off, none⟩) l) (hn : n = kk + d) (hl : l.length = n) (hK : K = l.take kk) (hR : R = l.drop kk) (hd : 0 < d) (hc : n ≤ c) (hlm : n ≤ 100000) (hdl : Dig l) (F : List UInt8) (hF : F = cutD K R M) :
    Calls Tryd.prog 76 #[.slice (some ⟨b, off, none⟩) n c, .int .i64 (d : Int), .bool M] w (SlD w F) := by
  obtain ⟨i0, hi, hz0, hz1, hz2⟩ := info_parts info3
  have hown0 := World.ownsRow_lit (base := w.heap.size) (e := 3) (size := 1) w #[.int .i64 0] 1 (Nat.le_refl _) (by unfold maxLen; omega) (by simp)
  have hKl : K.length = kk := by rw [hK, List.length_take]; omega
  have hRl : R.length = d := by rw [hR, List.length_drop]; omega
  have hlsp : l = K ++ R := by rw [hK, hR, List.take_append_drop]
  obtain ⟨b', off', hae, hbl, hcells⟩ := hr (by omega)
  simp only [Option.some.injEq, Addr.mk.injEq, and_true] at hae
  obtain ⟨rfl, rfl⟩ := hae
  have hnews : ∀ j u, (ceD K)[j]? = some u → (w.alloc (.cells #[.int .i64 0] 3)).cell? ((⟨b, off, none⟩ : Addr).add j) = some u := by
    intro j u hj
    have hjl : j < K.length := by have := (List.getElem?_eq_some_iff.1 hj).1; rwa [ceD_length] at this
    have h1 := hcells j K[j] (by rw [hlsp, List.getElem?_append_left hjl, List.getElem?_eq_getElem hjl])
    have h2 : u = .int .i64 ((K[j]).toNat : Int) := by simpa [ceD, hjl] using hj.symm
    rw [h2, ← h1]
    have ea : (⟨b, off, none⟩ : Addr).add j = ⟨b, off + j, none⟩ := by
      by_cases hj0 : j = 0
      · subst hj0; rfl
      · simp [Addr.add, hj0]
    rw [ea]
    exact ((Below.refl w.heap.size w).alloc (Nat.le_refl _) _).cell (p := ⟨b, off + j, none⟩) hbl
  have hone : ∀ u ∈ ceD K, u.oneCell' = true := by intro u hu; simp [ceD] at hu; obtain ⟨x, _, rfl⟩ := hu; rfl
  have hcl := ceD_length K
  have hbw0 : Below w.heap.size w (w.alloc (.cells #[.int .i64 0] 3)) := alloc_below _ _
  have hrest : ∀ (w2 : World), Below w.heap.size w w2 → ∀ j x, R[j]? = some x → w2.cell? ⟨b, off + kk + j, none⟩ = some (.int .i64 (x.toNat : Int)) := by
    intro w2 hb j x hx
    rw [show off + kk + j = off + (kk + j) by omega]
    refine (hb.cell (p := ⟨b, off + (kk + j), none⟩) hbl).trans (hcells (kk + j) _ ?_)
    rw [hR, List.getElem?_drop] at hx; exact hx
  have hDK : Dig K := by rw [hK]; exact hdl.take _
  have hDR : Dig R := by rw [hR]; exact hdl.drop _
  have hsub : (n : Int) - (d : Int) = (kk : Int) := by omega
  have hdn : ¬ (n : Int) < (d : Int) := by omega
  have hd0 : ((d : Int) == 0) = false := by rw [beq_eq_false_iff_ne]; omega
  have hsub2 : n - kk = d := by omega
  have HREST := Lib.hid hrest
  have HF := Lib.hid hF
  have HKL := Lib.hid hKl
  have HRL := Lib.hid hRl
  have HDK := Lib.hid hDK
  have HDR := Lib.hid hDR
  clear hr hcells hrest hF hK hR hlsp hRl hDK hDR hdl hl
  go_enter Tryd.func76, Tryd.ntmps76
  go_wp2_with (first
    | (at_builtin; refine wpList_append_own _ rfl _ _ 43 rfl w.heap.size 3 i0 (.int .i64 0) 1 8 Tryd.underlying43 hi hz0 hz1 hz2 rfl (by decide) _ _ _ rfl hown0 ⟨b, off, none⟩ kk c (ceD K) rfl (by omega) hnews hone (by unfold maxLen; omega) (by omega) (by simp) ?_))
  intro v' w1 hown' hgrow hnil
  have hown1 : OwnD w1 w.heap.size v' (0 :: K) := by
    have e1 : (0 :: K).length = 1 + kk := by simp [HKL.out]; omega
    refine ⟨by rw [e1]; exact hown', ?_⟩
    rcases hown'.2 with ⟨rfl, h0⟩ | ⟨g, cap, cur, rfl, _⟩
    · omega
    · exact ⟨g, cap, by rw [e1]⟩
  have hbw1 : Below w.heap.size w w1 := Below.grown hbw0 hgrow (by simp) (fun j hj => by simp [Value.ownBlock] at hj; omega)
  clear hown' hgrow hnil hown0 hnews hone hbw0 hcl
  obtain ⟨g, cp, rfl⟩ := hown1.2
  have hkl1 : (0 :: K).length = kk + 1 := by simp [HKL.out]
  rw [hkl1] at hown1 ⊢
  have HOW := Lib.hid hown1
  have hR0 : 0 < R.length := by rw [HRL.out]; exact hd
  obtain ⟨r0, hr0⟩ : ∃ r0, r0 = R[0] := ⟨_, rfl⟩
  have hr0s : R[0]? = some r0 := by rw [hr0, List.getElem?_eq_getElem hR0]
  have hc0 := HREST.out w1 hbw1 0 r0 hr0s
  rw [Nat.add_zero] at hc0
  clear hown1 hkl1
  have y0 := (HOW.out.at (k := kk) (x := (0 :: K)[kk]'(by simp [HKL.out])) (List.getElem?_eq_getElem _)).1
  obtain ⟨lst, hlst⟩ : ∃ lst, lst = (0 :: K)[kk]'(by simp [HKL.out]) := ⟨_, rfl⟩
  rw [← hlst] at y0
  have hod : ((lst.toNat : Int) % 2 == 1) = oddL (0 :: K) := by
    rw [← odd_cons, hlst, List.getLast?_eq_getElem?]
    simp [HKL.out]
  obtain ⟨od, hode⟩ : ∃ od, od = oddL (0 :: K) := ⟨_, rfl⟩
  rw [← hode] at hod
  have HUP : Hid (upR K R M = (decide (5 < r0.toNat) || (r0.toNat == 5 && (moreL R M R.length || od)))) := by
    show _ = _; unfold upR; rw [hr0s, hode]; rfl
  have hl256 := lst.toNat_lt
  have hr256 := r0.toNat_lt
  have HR0s := Lib.hid hr0s
  clear hlst hode hr0 hr0s
  go_wp2_with fail
  go_loop [2, 9] (fun m' i' => ∃ j : Nat, 1 ≤ j ∧ j ≤ d ∧ m' = .bool (moreL R M j) ∧ i' = .int .i64 (j : Int)) (fun _ i' => d - (intOf i').toNat)
  case atStart => exact ⟨1, Nat.le_refl _, hd, by rw [moreL_start], rfl⟩
  case round =>
    obtain ⟨j, hj1, hjd, rfl, rfl⟩ := hrel
    by_cases hjl : j < d
    · have hjR : j < R.length := by rw [HRL.out]; exact hjl
      have hst := moreL_step (M := M) hj1 hjR
      obtain ⟨z, hz⟩ : ∃ z, z = R[j] := ⟨_, rfl⟩
      have hcz := HREST.out w1 hbw1 j z (by rw [hz, List.getElem?_eq_getElem hjR])
      rw [← hz] at hst
      have hnz : (z != 0) = ((z.toNat : Int) != 0) := by
        by_cases h0 : z = 0
        · rw [h0]; rfl
        · have : ((z.toNat : Int) != 0) = true := by rw [bne_iff_ne]; intro e; exact h0 (UInt8.toNat_inj.1 (show z.toNat = 0 by omega))
          rw [this]; simpa using h0
      rw [hnz] at hst
      have HST := Lib.hid hst
      obtain ⟨mj, hmj⟩ : ∃ mj, mj = moreL R M j := ⟨_, rfl⟩
      rw [← hmj] at HST ⊢
      clear hst hz hnz hmj
      cases mj with
      | true =>
        go_wp2
        go_round
        case rel => exact ⟨j + 1, by omega, by omega, by rw [HST.out]; rfl, by go_num⟩
        case measure => simp [intOf]; omega
      | false =>
        obtain ⟨zb, hzb⟩ : ∃ zb, zb = ((z.toNat : Int) != 0) := ⟨_, rfl⟩
        rw [← hzb] at HST
        have hzb2 := hzb.symm
        clear hzb
        go_wp2
        go_round
        case rel => exact ⟨j + 1, by omega, by omega, by rw [HST.out]; rfl, by go_num⟩
        case measure => simp [intOf]; omega
    · have hjd2 : j = R.length := by rw [HRL.out]; omega
      have HUP2 := HUP.out
      rw [← hjd2] at HUP2
      obtain ⟨mj, hmj⟩ : ∃ mj, mj = moreL R M j := ⟨_, rfl⟩
      rw [← hmj] at HUP2 ⊢
      have HUP3 := Lib.hid HUP2
      clear hmj HUP2 HUP hjd2
      have hend : ∀ (wr : World) (l'' : List UInt8), OwnD wr w.heap.size (.slice (some ⟨g, 0, none⟩) (kk + 1) cp) l'' → Below w.heap.size w wr → strip l'' = F → Calls Tryd.prog 57 #[.slice (some ⟨g, 0, none⟩) (kk + 1) cp] wr (SlD w F) := by
        intro wr l'' h1 h2 h3
        obtain ⟨g', c', hv, hb, hlc, hcm2, hrd⟩ := h1.rd
        simp only [Value.slice.injEq, Option.some.injEq, Addr.mk.injEq, and_true] at hv
        obtain ⟨rfl, hv2, rfl⟩ := hv
        rw [hv2]
        refine (rstrip_any _ l'' cp wr hrd hlc hcm2).mono ?_
        rintro e w2 ⟨A, c2, rfl, q1, q0, q2, q3⟩
        rw [h3] at q1 q2
        exact ⟨A, c2, by rw [h3], q1, q0, q2, h2.trans (q3.mono h2.size)⟩
      have HEND := Lib.hid hend
      clear hend
      by_cases hup : upR K R M = true
      · have hF2 : F = oneMoreL K := by rw [HF.out, cutD, if_pos hup]
        have HF2 := Lib.hid hF2
        have hcs : 5 < r0.toNat ∨ (r0.toNat = 5 ∧ mj = true) ∨ (r0.toNat = 5 ∧ mj = false ∧ od = true) := by
          have := HUP3.out
          rw [hup] at this
          by_cases h5 : 5 < r0.toNat
          · exact .inl h5
          · by_cases h6 : r0.toNat = 5
            · cases mj with
              | true => exact .inr (.inl ⟨h6, rfl⟩)
              | false =>
                cases od with
                | true => exact .inr (.inr ⟨h6, rfl, rfl⟩)
                | false => simp [h6] at this
            · have h6' : (r0.toNat == 5) = false := by rw [beq_eq_false_iff_ne]; exact h6
              rw [h6'] at this; simp [h5] at this
        have hcs2 := Lib.hid hcs
        clear hcs hup hF2 HF HUP3
        have hrz : ∃ rz, rz = (r0.toNat : Int) := ⟨_, rfl⟩
        rcases hcs2.out with h5 | ⟨h5, rfl⟩ | ⟨h5, rfl, rfl⟩
        · have h5' : (5 : Int) < (r0.toNat : Int) := by omega
          clear hcs2 h5 hrz
          go_wp2_with fail
          go_loopw [11] (fun i' wr => ∃ (k : Nat) (l' : List UInt8), i' = .int .i64 (k : Int) ∧ k ≤ kk ∧ OwnD wr w.heap.size (.slice (some ⟨g, 0, none⟩) (kk + 1) cp) l' ∧ Below w.heap.size w wr ∧ Hid (Mid (0 :: K) (k + 1) l')) (fun i' _ => (intOf i').toNat)
          case atStart =>
            refine ⟨kk, 0 :: K, rfl, Nat.le_refl _, HOW.out, hbw1, ?_⟩
            have := Mid.start (0 :: K)
            rw [List.length_cons, HKL.out] at this; exact this
          case round =>
            obtain ⟨k, l', rfl, hkk, hown, hbw, HM⟩ := hrel
            have hkL : k < (0 :: K).length := by rw [List.length_cons, HKL.out]; omega
            obtain ⟨hcell, hfz⟩ := hown.at ((HM : Mid (0 :: K) (k + 1) l').get hkL)
            have hL9 : ((0 :: K)[k]).toNat ≤ 9 := (Dig.mk (by decide) HDK.out) _ (List.getElem_mem hkL)
            obtain ⟨x, hx⟩ : ∃ x, x = (0 :: K)[k] := ⟨_, rfl⟩
            have HX := Lib.hid hx
            rw [← hx] at hcell hL9
            by_cases h9 : x.toNat = 9
            · have hk0 : k ≠ 0 := by intro h; subst h; rw [hx] at h9; simp at h9
              obtain ⟨q, rfl⟩ : ∃ q, k = q + 1 := ⟨k - 1, by omega⟩
              have HS := Lib.hid (hown.stored (q + 1) 0)
              have HN : Hid (Mid (0 :: K) (q + 1) (l'.set (q + 1) 0)) := (HM : Mid (0 :: K) (q + 1 + 1) l').next hkL (by rw [← hx]; intro h; have : x.toNat < 9 := h; omega)
              have h9' : ((x.toNat : Int) == 9) = true := by rw [beq_iff_eq]; omega
              clear hown hx h9 hL9
              go_wp2
              go_roundw
              case rel => exact ⟨q, _, by go_num, by omega, HS.out.1, hbw.trans HS.out.2, HN⟩
              case measure => simp [intOf]
            · have h9' : ((x.toNat : Int) == 9) = false := by rw [beq_eq_false_iff_ne]; omega
              have hx9 : (0 :: K)[k] < 9 := by rw [← hx]; show x.toNat < 9; omega
              have e1 : ((x + 1).toNat : Int) = (x.toNat : Int) + 1 := by rw [UInt8.toNat_add]; simp; omega
              have HE0 := HEND.out _ _ (hown.stored k (x + 1)).1 (hbw.trans (hown.stored k (x + 1)).2) (by rw [hx, (HM : Mid (0 :: K) (k + 1) l').stop hkL hx9, HF2.out]; rfl)
              rw [e1] at HE0
              have HE := Lib.hid HE0
              clear e1 HE0 hown hx h9 hx9 HM
              go_wp2_with fail
              refine HE.out.mono ?_
              rintro e w2 ⟨A, c2, rfl, q1, q0, q2, q3⟩
              go_wp2
              go_ret
              exact ⟨A, c2, rfl, q1, q0, q2, q3⟩
        · have h5' : ¬ (5 : Int) < (r0.toNat : Int) := by omega
          have h6' : ((r0.toNat : Int) == 5) = true := by rw [beq_iff_eq]; omega
          clear hcs2 h5 hrz
          go_wp2_with fail
          go_loopw [11] (fun i' wr => ∃ (k : Nat) (l' : List UInt8), i' = .int .i64 (k : Int) ∧ k ≤ kk ∧ OwnD wr w.heap.size (.slice (some ⟨g, 0, none⟩) (kk + 1) cp) l' ∧ Below w.heap.size w wr ∧ Hid (Mid (0 :: K) (k + 1) l')) (fun i' _ => (intOf i').toNat)
          case atStart =>
            refine ⟨kk, 0 :: K, rfl, Nat.le_refl _, HOW.out, hbw1, ?_⟩
            have := Mid.start (0 :: K)
            rw [List.length_cons, HKL.out] at this; exact this
          case round =>
            obtain ⟨k, l', rfl, hkk, hown, hbw, HM⟩ := hrel
            have hkL : k < (0 :: K).length := by rw [List.length_cons, HKL.out]; omega
            obtain ⟨hcell, hfz⟩ := hown.at ((HM : Mid (0 :: K) (k + 1) l').get hkL)
            have hL9 : ((0 :: K)[k]).toNat ≤ 9 := (Dig.mk (by decide) HDK.out) _ (List.getElem_mem hkL)
            obtain ⟨x, hx⟩ : ∃ x, x = (0 :: K)[k] := ⟨_, rfl⟩
            have HX := Lib.hid hx
            rw [← hx] at hcell hL9
            by_cases h9 : x.toNat = 9
            · have hk0 : k ≠ 0 := by intro h; subst h; rw [hx] at h9; simp at h9
              obtain ⟨q, rfl⟩ : ∃ q, k = q + 1 := ⟨k - 1, by omega⟩
              have HS := Lib.hid (hown.stored (q + 1) 0)
              have HN : Hid (Mid (0 :: K) (q + 1) (l'.set (q + 1) 0)) := (HM : Mid (0 :: K) (q + 1 + 1) l').next hkL (by rw [← hx]; intro h; have : x.toNat < 9 := h; omega)
              have h9' : ((x.toNat : Int) == 9) = true := by rw [beq_iff_eq]; omega
              clear hown hx h9 hL9
              go_wp2
              go_roundw
              case rel => exact ⟨q, _, by go_num, by omega, HS.out.1, hbw.trans HS.out.2, HN⟩
              case measure => simp [intOf]
            · have h9' : ((x.toNat : Int) == 9) = false := by rw [beq_eq_false_iff_ne]; omega
              have hx9 : (0 :: K)[k] < 9 := by rw [← hx]; show x.toNat < 9; omega
              have e1 : ((x + 1).toNat : Int) = (x.toNat : Int) + 1 := by rw [UInt8.toNat_add]; simp; omega
              have HE0 := HEND.out _ _ (hown.stored k (x + 1)).1 (hbw.trans (hown.stored k (x + 1)).2) (by rw [hx, (HM : Mid (0 :: K) (k + 1) l').stop hkL hx9, HF2.out]; rfl)
              rw [e1] at HE0
              have HE := Lib.hid HE0
              clear e1 HE0 hown hx h9 hx9 HM
              go_wp2_with fail
              refine HE.out.mono ?_
              rintro e w2 ⟨A, c2, rfl, q1, q0, q2, q3⟩
              go_wp2
              go_ret
              exact ⟨A, c2, rfl, q1, q0, q2, q3⟩
        · have h5' : ¬ (5 : Int) < (r0.toNat : Int) := by omega
          have h6' : ((r0.toNat : Int) == 5) = true := by rw [beq_iff_eq]; omega
          clear hcs2 h5 hrz
          go_wp2_with fail
          go_loopw [11] (fun i' wr => ∃ (k : Nat) (l' : List UInt8), i' = .int .i64 (k : Int) ∧ k ≤ kk ∧ OwnD wr w.heap.size (.slice (some ⟨g, 0, none⟩) (kk + 1) cp) l' ∧ Below w.heap.size w wr ∧ Hid (Mid (0 :: K) (k + 1) l')) (fun i' _ => (intOf i').toNat)
          case atStart =>
            refine ⟨kk, 0 :: K, rfl, Nat.le_refl _, HOW.out, hbw1, ?_⟩
            have := Mid.start (0 :: K)
            rw [List.length_cons, HKL.out] at this; exact this
          case round =>
            obtain ⟨k, l', rfl, hkk, hown, hbw, HM⟩ := hrel
            have hkL : k < (0 :: K).length := by rw [List.length_cons, HKL.out]; omega
            obtain ⟨hcell, hfz⟩ := hown.at ((HM : Mid (0 :: K) (k + 1) l').get hkL)
            have hL9 : ((0 :: K)[k]).toNat ≤ 9 := (Dig.mk (by decide) HDK.out) _ (List.getElem_mem hkL)
            obtain ⟨x, hx⟩ : ∃ x, x = (0 :: K)[k] := ⟨_, rfl⟩
            have HX := Lib.hid hx
            rw [← hx] at hcell hL9
            by_cases h9 : x.toNat = 9
            · have hk0 : k ≠ 0 := by intro h; subst h; rw [hx] at h9; simp at h9
              obtain ⟨q, rfl⟩ : ∃ q, k = q + 1 := ⟨k - 1, by omega⟩
              have HS := Lib.hid (hown.stored (q + 1) 0)
              have HN : Hid (Mid (0 :: K) (q + 1) (l'.set (q + 1) 0)) := (HM : Mid (0 :: K) (q + 1 + 1) l').next hkL (by rw [← hx]; intro h; have : x.toNat < 9 := h; omega)
              have h9' : ((x.toNat : Int) == 9) = true := by rw [beq_iff_eq]; omega
              clear hown hx h9 hL9
              go_wp2
              go_roundw
              case rel => exact ⟨q, _, by go_num, by omega, HS.out.1, hbw.trans HS.out.2, HN⟩
              case measure => simp [intOf]
            · have h9' : ((x.toNat : Int) == 9) = false := by rw [beq_eq_false_iff_ne]; omega
              have hx9 : (0 :: K)[k] < 9 := by rw [← hx]; show x.toNat < 9; omega
              have e1 : ((x + 1).toNat : Int) = (x.toNat : Int) + 1 := by rw [UInt8.toNat_add]; simp; omega
              have HE0 := HEND.out _ _ (hown.stored k (x + 1)).1 (hbw.trans (hown.stored k (x + 1)).2) (by rw [hx, (HM : Mid (0 :: K) (k + 1) l').stop hkL hx9, HF2.out]; rfl)
              rw [e1] at HE0
              have HE := Lib.hid HE0
              clear e1 HE0 hown hx h9 hx9 HM
              go_wp2_with fail
              refine HE.out.mono ?_
              rintro e w2 ⟨A, c2, rfl, q1, q0, q2, q3⟩
              go_wp2
              go_ret
              exact ⟨A, c2, rfl, q1, q0, q2, q3⟩
      · have hF2 : F = strip K := by rw [HF.out, cutD, if_neg hup]
        have HO := Lib.hid (HEND.out w1 (0 :: K) HOW.out hbw1 (by rw [strip, if_pos rfl, hF2]))
        have hcs : (r0.toNat < 5) ∨ (r0.toNat = 5 ∧ mj = false ∧ od = false) := by
          have hu : upR K R M = false := by simpa using hup
          have := HUP3.out
          rw [hu] at this
          by_cases h5 : 5 < r0.toNat
          · simp [h5] at this
          · by_cases h6 : r0.toNat = 5
            · cases mj with
              | true => simp [h6] at this
              | false =>
                cases od with
                | true => simp [h6] at this
                | false => exact .inr ⟨h6, rfl, rfl⟩
            · exact .inl (by omega)
        have hcs2 := Lib.hid hcs
        clear hcs hup hF2 HF HUP3
        rcases hcs2.out with h5 | ⟨h5, rfl, rfl⟩
        · have h5' : ¬ (5 : Int) < (r0.toNat : Int) := by omega
          have h6' : ((r0.toNat : Int) == 5) = false := by rw [beq_eq_false_iff_ne]; omega
          clear hcs2 h5
          go_wp2_with fail
          refine HO.out.mono ?_
          rintro e w2 ⟨A, c2, rfl, q1, q0, q2, q3⟩
          go_wp2
          go_ret
          exact ⟨A, c2, rfl, q1, q0, q2, q3⟩
        · have h5' : ¬ (5 : Int) < (r0.toNat : Int) := by omega
          have h6' : ((r0.toNat : Int) == 5) = true := by rw [beq_iff_eq]; omega
          clear hcs2 h5
          go_wp2_with fail
          refine HO.out.mono ?_
          rintro e w2 ⟨A, c2, rfl, q1, q0, q2, q3⟩
          go_wp2
          go_ret
          exact ⟨A, c2, rfl, q1, q0, q2, q3⟩

end Go.Proofs.YtkdjdoncmihkfaaDoor
