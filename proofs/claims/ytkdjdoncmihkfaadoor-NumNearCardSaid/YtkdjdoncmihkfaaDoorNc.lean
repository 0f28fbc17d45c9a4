/- Walks over num.oneMore and num.cutToEven. -/
import Derived.Test.YtkdjdoncmihkfaaDoorNb
namespace Go.Proofs.YtkdjdoncmihkfaaDoor
open Go.RowKit

theorem Own.rd {w : World} {B : Nat} {v : Value} {l : List UInt8} (h : Own w B v l) : ∃ g c, v = .slice (some ⟨g, 0, none⟩) l.length c ∧ B ≤ g ∧ l.length ≤ c ∧ c ≤ 9223372036854775807 ∧ Rd w (some ⟨g, 0, none⟩) l := by
  obtain ⟨⟨h1, h2⟩, g, c, rfl⟩ := h
  have hc := fun j (hj : j < l.length * 1) => World.ownsRow.cellAt (w := w) (base := B) (e := 5) (size := 1) (g := g) (cap := c) (xs := cel l) ⟨h1, h2⟩ j hj
  rcases h2 with ⟨h', _⟩ | ⟨g', cap', cur, h', hb, hg, hn, hm, hs, ht⟩
  · simp at h'
  · simp only [Value.slice.injEq, Option.some.injEq, Addr.mk.injEq, and_true, true_and] at h'
    obtain ⟨rfl, rfl⟩ := h'
    refine ⟨_, _, rfl, hb, hn, by unfold maxLen at hm; omega, fun hl => ⟨_, _, rfl, (Array.getElem?_eq_some_iff.1 hg).1, fun j x hx => ?_⟩⟩
    have hj := (List.getElem?_eq_some_iff.1 hx).1
    rw [Nat.zero_add, hc j (by omega)]
    simp [cel, hx]

/-- 1 more at the last digit: is something carried ahead, and what the digits are -/
def bump : List UInt8 → Bool × List UInt8
  | [] => (true, [])
  | x :: t => if (bump t).1 then (if x < 9 then (false, (x + 1) :: (bump t).2) else (true, 0 :: (bump t).2)) else (false, x :: (bump t).2)
def oneMoreL (l : List UInt8) : List UInt8 := strip (bump (0 :: l)).2

theorem bump_ahead : ∀ (A B : List UInt8), (bump B).1 = false → (bump (A ++ B)).1 = false ∧ (bump (A ++ B)).2 = A ++ (bump B).2
  | [], B, h => ⟨h, rfl⟩
  | x :: A, B, h => by
    have ih := bump_ahead A B h
    rw [List.cons_append, bump, ih.1, ih.2]; simp
theorem bump_length : ∀ l, (bump l).2.length = l.length
  | [] => rfl
  | x :: t => by
    have ih := bump_length t
    rw [bump]
    by_cases h : (bump t).1 <;> by_cases h2 : x < 9 <;> simp [h, h2, ih]

/-- a state of the loop: behind k all were 9, and are 0 -/
def Mid (L : List UInt8) (k : Nat) (l : List UInt8) : Prop := l = L.take k ++ List.replicate (L.length - k) 0 ∧ (bump (L.drop k)).1 = true ∧ (bump (L.drop k)).2 = List.replicate (L.length - k) 0
theorem Mid.start (L : List UInt8) : Mid L L.length L := by simp [Mid, bump]
theorem Mid.done {L l : List UInt8} (h : Mid L 0 l) : l = (bump L).2 := by
  obtain ⟨h1, _, h3⟩ := h
  rw [h1]; simp at h3 ⊢; exact h3.symm
theorem Mid.get {L l : List UInt8} {k : Nat} (hk : k < L.length) (h : Mid L (k + 1) l) : l[k]? = some L[k] := by
  obtain ⟨h1, _, _⟩ := h
  rw [h1, List.getElem?_append_left (by simp; omega), List.getElem?_take]; simp [hk]
theorem Mid.len {L l : List UInt8} {k : Nat} (hk : k ≤ L.length) (h : Mid L k l) : l.length = L.length := by
  obtain ⟨h1, _, _⟩ := h
  rw [h1]; simp; omega
theorem Mid.set {L l : List UInt8} {k : Nat} (hk : k < L.length) (h : Mid L (k + 1) l) (y : UInt8) : l.set k y = L.take k ++ y :: List.replicate (L.length - (k + 1)) 0 := by
  obtain ⟨h1, _, _⟩ := h
  rw [h1, List.take_succ_eq_append_getElem hk, List.append_assoc, List.set_append_right _ _ (by simp; omega)]
  simp [Nat.min_eq_left (Nat.le_of_lt hk)]
theorem Mid.stop {L l : List UInt8} {k : Nat} (hk : k < L.length) (h : Mid L (k + 1) l) (hx : L[k] < 9) : l.set k (L[k] + 1) = (bump L).2 := by
  rw [h.set hk]
  obtain ⟨_, h2, h3⟩ := h
  have e : L = L.take k ++ (L[k] :: L.drop (k + 1)) := by rw [← List.drop_eq_getElem_cons hk]; exact (List.take_append_drop k L).symm
  have hb : (bump (L[k] :: L.drop (k + 1))).1 = false ∧ (bump (L[k] :: L.drop (k + 1))).2 = (L[k] + 1) :: List.replicate (L.length - (k + 1)) 0 := by
    rw [bump, h2, h3]; simp [hx]
  have := (bump_ahead (L.take k) _ hb.1).2
  rw [← e, hb.2] at this
  exact this.symm
theorem Mid.next {L l : List UInt8} {k : Nat} (hk : k < L.length) (h : Mid L (k + 1) l) (hx : ¬ L[k] < 9) : Mid L k (l.set k 0) := by
  refine ⟨?_, ?_⟩
  · rw [h.set hk, show L.length - k = (L.length - (k + 1)) + 1 by omega, List.replicate_succ]
  · obtain ⟨_, h2, h3⟩ := h
    rw [List.drop_eq_getElem_cons hk, bump, h2, h3, show L.length - k = (L.length - (k + 1)) + 1 by omega, List.replicate_succ]
    simp [hx]

theorem cel_set (l : List UInt8) (k : Nat) (y : UInt8) : cel (l.set k y) = (cel l).set k (.int .u8 (y.toNat : Int)) := by simp [cel, List.map_set]
theorem Own.stored {w : World} {B g c : Nat} {l : List UInt8} {n : Nat} (h : Own w B (.slice (some ⟨g, 0, none⟩) n c) l) (k : Nat) (y : UInt8) : Own (w.setCell ⟨g, k, none⟩ (.int .u8 (y.toNat : Int))) B (.slice (some ⟨g, 0, none⟩) n c) (l.set k y) ∧ Below B w (w.setCell ⟨g, k, none⟩ (.int .u8 (y.toNat : Int))) := by
  obtain ⟨g', c', hv, hb, hlt, hm, hr⟩ := h.rd
  simp only [Value.slice.injEq, Option.some.injEq, Addr.mk.injEq, and_true] at hv
  obtain ⟨rfl, rfl, rfl⟩ := hv
  refine ⟨⟨?_, g, c, by simp⟩, (Below.refl _ _).setCell hb _⟩
  have := (h.1.stored k (.int .u8 (y.toNat : Int))).1
  rw [cel_set]; simpa using this
theorem Own.at {w : World} {B g c n : Nat} {l : List UInt8} (h : Own w B (.slice (some ⟨g, 0, none⟩) n c) l) {k : Nat} {x : UInt8} (hx : l[k]? = some x) : w.cell? ⟨g, k, none⟩ = some (.int .u8 (x.toNat : Int)) ∧ w.frozen? ⟨g, k, none⟩ = false := by
  obtain ⟨g', c', hv, hb, hlt, hm, hr⟩ := h.rd
  simp only [Value.slice.injEq, Option.some.injEq, Addr.mk.injEq, and_true] at hv
  obtain ⟨rfl, rfl, rfl⟩ := hv
  have hk := (List.getElem?_eq_some_iff.1 hx).1
  refine ⟨?_, h.1.frozenAt k⟩
  rw [h.1.cellAt k (by omega)]; simp [cel, hx]

set_option maxRecDepth 1000000 in
set_option maxHeartbeats 2000000 in
theorem more_aux (R : List UInt8) (b off : Nat) (l : List UInt8) (c : Nat) (w : World) (hR : Hid (R = oneMoreL l)) (hr : Rd w (some ⟨b, off, none⟩) l) (hl : l.length ≤ 1000000) :
    Calls Tryd.prog 61 #[.slice (some ⟨b, off, none⟩) l.length c] w (SlR w R) := by
  obtain ⟨i0, hi, hz0, hz1, hz2⟩ := info_parts info5
  have hown0 := World.ownsRow_lit (base := w.heap.size) (e := 5) (size := 1) w #[.int .u8 0] 1 (Nat.le_refl _) (by unfold maxLen; omega) (by simp)
  have hnews : ∀ j u, (cel l)[j]? = some u → (w.alloc (.cells #[.int .u8 0] 5)).cell? ((⟨b, off, none⟩ : Addr).add j) = some u := by
    intro j u hj
    have hjl : j < l.length := by have := (List.getElem?_eq_some_iff.1 hj).1; rwa [cel_length] at this
    obtain ⟨b', off', e, hlt, hcells⟩ := hr (by omega)
    simp only [Option.some.injEq, Addr.mk.injEq, and_true] at e
    obtain ⟨rfl, rfl⟩ := e
    have h1 := hcells j l[j] (by simp [hjl])
    have h2 : u = .int .u8 ((l[j]).toNat : Int) := by simpa [cel, hjl] using hj.symm
    rw [h2, ← h1]
    have ea : (⟨b, off, none⟩ : Addr).add j = ⟨b, off + j, none⟩ := by
      by_cases hj0 : j = 0
      · subst hj0; rfl
      · simp [Addr.add, hj0]
    rw [ea]
    exact ((Below.refl w.heap.size w).alloc (Nat.le_refl _) _).cell (p := ⟨b, off + j, none⟩) hlt
  have hone : ∀ u ∈ cel l, u.oneCell' = true := by intro u hu; simp [cel] at hu; obtain ⟨x, _, rfl⟩ := hu; rfl
  have hbw0 : Below w.heap.size w (w.alloc (.cells #[.int .u8 0] 5)) := (Below.refl _ _).alloc (Nat.le_refl _) _
  have hcl := cel_length l
  have HR := Lib.hid hr
  clear hr
  go_enter Tryd.func61, Tryd.ntmps61
  go_wp2_with (first
    | (at_builtin; refine wpList_append_own _ rfl _ _ 49 rfl w.heap.size 5 i0 (.int .u8 0) 1 1 Tryd.underlying49 hi hz0 hz1 hz2 rfl (by decide) _ _ _ rfl hown0 ⟨b, off, none⟩ l.length c (cel l) rfl (by omega) hnews hone (by unfold maxLen; omega) (by omega) (by simp) ?_))
  intro v' w1 hown' hgrow hnil
  have hown1 : Own w1 w.heap.size v' (0 :: l) := by
    refine ⟨by rw [show (0 :: l).length = 1 + l.length by simp; omega]; exact hown', ?_⟩
    rcases hown'.2 with ⟨rfl, h0⟩ | ⟨g, cap, cur, rfl, _⟩
    · omega
    · exact ⟨g, cap, by rw [show (0 :: l).length = 1 + l.length by simp; omega]⟩
  have hbw1 : Below w.heap.size w w1 := Below.grown hbw0 hgrow (by simp) (fun j hj => by simp [Value.ownBlock] at hj; omega)
  clear hown' hgrow hnil hown0 hnews hone hbw0 hcl
  obtain ⟨L, hL⟩ : ∃ L, L = 0 :: l := ⟨_, rfl⟩
  have hLl : L.length = l.length + 1 := by rw [hL]; rfl
  have HL := Lib.hid hL
  rw [← hL] at hown1
  clear hL
  obtain ⟨g, cp, rfl⟩ := hown1.2
  obtain ⟨n, hn⟩ : ∃ n, n = L.length := ⟨_, rfl⟩
  rw [← hn] at hLl
  have hn1 : 1 ≤ n := by omega
  have hn2 : n ≤ 1000001 := by omega
  rw [← hn] at hown1 ⊢
  have HLn := Lib.hid hn
  clear hLl hn
  go_wp2
  go_loopw [4] (fun i wr => ∃ (k : Nat) (l' : List UInt8), i = .int .i64 ((k : Int) - 1) ∧ k ≤ n ∧ Own wr w.heap.size (.slice (some ⟨g, 0, none⟩) n cp) l' ∧ Below w.heap.size w wr ∧ Hid (Mid L k l')) (fun i _ => (intOf i + 1).toNat)
  case atStart => exact ⟨n, L, rfl, Nat.le_refl _, hown1, hbw1, by rw [HLn.out]; exact Mid.start L⟩
  case round =>
    obtain ⟨k, l', rfl, hk, hown, hbw, HM⟩ := hrel
    clear hown1 hbw1
    have hend : ∀ (wr : World) (l'' : List UInt8), Own wr w.heap.size (.slice (some ⟨g, 0, none⟩) n cp) l'' → Below w.heap.size w wr → l'' = (bump L).2 → Calls Tryd.prog 74 #[.slice (some ⟨g, 0, none⟩) n cp] wr (SlR w R) := by
      intro wr l'' h1 h2 h3
      obtain ⟨g', c', hv, hb, hlc, hcm, hrd⟩ := h1.rd
      simp only [Value.slice.injEq, Option.some.injEq, Addr.mk.injEq, and_true] at hv
      obtain ⟨rfl, rfl, rfl⟩ := hv
      have eR : strip l'' = R := by rw [(show _ = _ from hR), oneMoreL, ← HL.out, ← h3]
      refine (strip_any _ l'' cp wr hrd hlc hcm).mono ?_
      rintro e w2 ⟨A, c2, rfl, q1, q0, q2, q3⟩
      rw [eR] at q1 q2
      exact ⟨A, c2, by rw [eR], q1, q0, q2, h2.trans (q3.mono h2.size)⟩
    cases k with
    | zero =>
      have H := Lib.hid (hend wr l' hown hbw (HM : Mid L 0 l').done)
      clear hend hown HM
      go_wp2_with fail
      refine H.out.mono ?_
      rintro e w2 ⟨A, c2, rfl, q1, q0, q2, q3⟩
      go_wp2
      go_ret
      exact ⟨A, c2, rfl, q1, q0, q2, q3⟩
    | succ k =>
      rw [show (((k + 1 : Nat) : Int) - 1) = (k : Int) by omega]
      have hkL : k < L.length := by have := HLn.out; omega
      obtain ⟨hcell, hfz⟩ := hown.at ((HM : Mid L (k + 1) l').get hkL)
      obtain ⟨x, hx⟩ : ∃ x, x = L[k] := ⟨_, rfl⟩
      have HX := Lib.hid hx
      rw [← hx] at hcell
      have hx256 := x.toNat_lt
      by_cases h9 : x < 9
      · have h9' : x.toNat < 9 := h9
        have e1 : ((x + 1).toNat : Int) = (x.toNat : Int) + 1 := by rw [UInt8.toNat_add]; simp; omega
        have HE0 := (hend _ _ (hown.stored k (x + 1)).1 (hbw.trans (hown.stored k (x + 1)).2) (by rw [hx]; exact (HM : Mid L (k + 1) l').stop hkL (by rw [← hx]; exact h9)))
        rw [e1] at HE0
        have HE := Lib.hid HE0
        clear e1 HE0
        clear hend hown hx h9
        have hxi : (x.toNat : Int) < 9 := by omega
        go_wp2_with fail
        refine HE.out.mono ?_
        rintro e w2 ⟨A, c2, rfl, q1, q0, q2, q3⟩
        go_wp2
        go_ret
        exact ⟨A, c2, rfl, q1, q0, q2, q3⟩
      · have h9' : ¬ x.toNat < 9 := h9
        have HS := Lib.hid (hown.stored k 0)
        have HN : Hid (Mid L k (l'.set k 0)) := (HM : Mid L (k + 1) l').next hkL (by rw [← hx]; exact h9)
        clear hend hown hx h9
        have hxi : ¬ (x.toNat : Int) < 9 := by omega
        go_wp2
        go_roundw
        case rel => exact ⟨k, _, rfl, by omega, HS.out.1, hbw.trans HS.out.2, HN⟩
        case measure => simp [intOf]

theorem more_any (b off : Nat) (l : List UInt8) (c : Nat) (w : World) (hr : Rd w (some ⟨b, off, none⟩) l) (hl : l.length ≤ 1000000) :
    Calls Tryd.prog 61 #[.slice (some ⟨b, off, none⟩) l.length c] w (SlR w (oneMoreL l)) := more_aux _ b off l c w rfl hr hl
end Go.Proofs.YtkdjdoncmihkfaaDoor
