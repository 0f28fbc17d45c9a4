/- Walk over num.cutToEven. -/
import Derived.Test.YtkdjdoncmihkfaaDoorNc
import Derived.Deep.QuietTactic
import Derived.BigQuiet
namespace Go.Proofs.YtkdjdoncmihkfaaDoor
open Go.RowKit

/-- the last digit is odd -/
def oddL (K : List UInt8) : Bool := match K.getLast? with | some x => ((x.toNat : Int) % 2 == 1) | none => false
/-- K is kept, R is cut off -/
def evenL (K R : List UInt8) : List UInt8 := if 0 < halfI R ∨ (halfI R = 0 ∧ oddL K = true) then oneMoreL K else K
/-- a slice that reads as these bytes, and an int -/
def SlE (w : World) (l : List UInt8) (x : Int) (e : Ending) (w' : World) : Prop := ∃ A c, e = .returned (.tuple #[.slice A l.length c, .int .i64 x]) ∧ l.length ≤ c ∧ c ≤ 9223372036854775807 ∧ Rd w' A l ∧ Below w.heap.size w w'

theorem Rd.take {w : World} {A : Option Addr} {l : List UInt8} (h : Rd w A l) (k : Nat) : Rd w A (l.take k) := fun hl => by
  obtain ⟨b, off, e, hlt, hc⟩ := h (by simp at hl; omega)
  refine ⟨b, off, e, hlt, fun j x hx => hc j x ?_⟩
  rw [List.getElem?_take] at hx
  split at hx
  · exact hx
  · simp at hx
theorem Rd.dropAt {w : World} {b off : Nat} {l : List UInt8} (h : Rd w (some ⟨b, off, none⟩) l) (k : Nat) : Rd w (some ⟨b, off + k, none⟩) (l.drop k) := fun hl => by
  obtain ⟨b', off', e, hlt, hc⟩ := h (by simp at hl; omega)
  simp only [Option.some.injEq, Addr.mk.injEq, and_true] at e
  obtain ⟨rfl, rfl⟩ := e
  refine ⟨_, _, rfl, hlt, fun j x hx => ?_⟩
  rw [List.getElem?_drop] at hx
  rw [Nat.add_assoc]
  exact hc (k + j) x hx

theorem cut_none (A : Option Addr) (l : List UInt8) (c : Nat) (x d : Int) (w : World) (hr : Rd w A l) (hc : l.length ≤ c) (hcm : c ≤ 9223372036854775807) (hd : d ≤ 0) :
    Calls Tryd.prog 75 #[.slice A l.length c, .int .i64 x, .int .i64 d] w (SlE w l x) := by
  have HR := Lib.hid hr
  clear hr
  go_enter Tryd.func75, Tryd.ntmps75
  go_wp2
  go_ret2
  exact ⟨A, c, rfl, hc, hcm, HR.out, Below.refl _ _⟩
theorem cut_all (A : Option Addr) (l : List UInt8) (c : Nat) (x d : Int) (w : World) (hd : 0 < d) (hdl : (l.length : Int) < d) (hd1 : d ≤ 1000000000) (hx0 : -1000000000 ≤ x) (hx1 : x ≤ 1000000000) :
    Calls Tryd.prog 75 #[.slice A l.length c, .int .i64 x, .int .i64 d] w (SlE w [] (x + d)) := by
  go_enter Tryd.func75, Tryd.ntmps75
  go_wp2
  go_ret2
  exact ⟨none, 0, rfl, by simp, by omega, Rd.nil _ _, Below.refl _ _⟩
theorem below_drewN {B : Nat} {a w : World} (h : Below B a w) (n : Nat) : Below B a (w.drewN n) := h.trans ⟨rfl, rfl, rfl, Nat.le_refl _, fun _ _ => rfl⟩

set_option maxRecDepth 1000000 in
set_option maxHeartbeats 1000000 in
theorem cut_part1 (b off : Nat) (K R : List UInt8) (k d c : Nat) (x h : Int) (o : Bool) (y : Int) (E : List UInt8) (hE : Hid (E = if 0 < h ∨ (h = 0 ∧ o = true) then oneMoreL K else K)) (w : World) 
    (hcell : w.cell? ⟨b, off + k, none⟩ = some (.int .u8 y)) (hy0 : 0 ≤ y) (hy1 : y < 256) (ho : (y % 2 == 1) = o)
    (hK : Hid (K.length = k + 1)) (hR : Hid (R.length = d)) (hrK : Hid (Rd w (some ⟨b, off, none⟩) K)) (hrR : Hid (Rd w (some ⟨b, off + (k + 1), none⟩) R)) (hh : Hid (halfI R = h))
    (hd : 0 < d) (hc : k + 1 + d ≤ c) (hcm : c ≤ 9223372036854775807) (hx0 : -1000000000 ≤ x) (hx1 : x ≤ 1000000000) (hkd : k + 1 + d ≤ 1000000) :
    Calls Tryd.prog 75 #[.slice (some ⟨b, off, none⟩) (k + 1 + d) c, .int .i64 x, .int .i64 (d : Int)] w (SlE w E (x + d)) := by
  have hw : IntKind.i64.wrap (k : Int) = k := by rw [IntKind.wrap_i64]; omega
  have HH : Hid (∀ n, Calls Tryd.prog 91 #[.slice (some ⟨b, off + (k + 1), none⟩) d (c - (k + 1))] (w.drewN n) fun e w' => e = .returned (.int .i64 h) ∧ w.drewN n = w') := by
    intro n
    have := half_any (some ⟨b, off + (k + 1), none⟩) R (c - (k + 1)) (w.drewN n) (hrR.out.below (below_drewN (Below.refl _ w) n)) (by rw [hR.out]; exact hd) (by rw [hR.out]; omega) (by omega)
    rw [hR.out, hh.out] at this
    exact this
  have HM : Hid (∀ n, Calls Tryd.prog 61 #[.slice (some ⟨b, off, none⟩) (k + 1) (k + 1)] (w.drewN n) (SlR w (oneMoreL K))) := by
    intro n
    have := more_any b off K (k + 1) (w.drewN n) (hrK.out.below (below_drewN (Below.refl _ w) n)) (by rw [hK.out]; omega)
    rw [hK.out] at this
    exact this.mono fun _ _ ⟨A, c', p1, p2, p3, p4, p5⟩ => ⟨A, c', p1, p2, p3, p4, (below_drewN (Below.refl _ w) n).trans p5⟩
  have HF : Hid (∀ n, ¬ (0 < h ∨ (h = 0 ∧ o = true)) → SlE w E (x + d) (.returned (.tuple #[.slice (some ⟨b, off, none⟩) (k + 1) (k + 1), .int .i64 (x + d)])) (w.drewN n)) := by
    intro n hn
    have e : E = K := by rw [hE.out, if_neg hn]
    refine ⟨_, k + 1, by rw [e, hK.out], by rw [e, hK.out]; exact Nat.le_refl _, by omega, ?_, below_drewN (Below.refl _ w) n⟩
    rw [e]
    exact hrK.out.below (below_drewN (Below.refl _ w) n)
  clear hrK hrR hK hR hh
  go_enter Tryd.func75, Tryd.ntmps75
  go_wp2_with fail
  go_quiet (fail)
  go_wp2_with fail
  refine (HH.out nq).mono ?_
  rintro e w1 ⟨rfl, rfl⟩
  by_cases h1 : 0 < h
  · have eE : E = oneMoreL K := by rw [hE.out, if_pos (.inl h1)]
    have HE := Lib.hid eE
    clear eE hE
    go_wp2_with fail
    refine (HM.out nq).mono ?_
    rintro e w1 ⟨A, c2, rfl, q1, q0, q2, q3⟩
    rw [← HE.out] at q1 q2 ⊢
    go_wp2
    go_ret2
    exact ⟨A, c2, rfl, q1, q0, q2, q3⟩
  · by_cases h2 : h = 0
    · subst h2
      cases o with
      | true =>
        have eE : E = oneMoreL K := by rw [hE.out, if_pos (.inr ⟨rfl, rfl⟩)]
        have HE := Lib.hid eE
        clear eE hE
        go_wp2_with fail
        refine (HM.out nq).mono ?_
        rintro e w1 ⟨A, c2, rfl, q1, q0, q2, q3⟩
        rw [← HE.out] at q1 q2 ⊢
        go_wp2
        go_ret2
        exact ⟨A, c2, rfl, q1, q0, q2, q3⟩
      | false =>
        have HG := Lib.hid (HF.out nq (by simp))
        clear HF hE
        go_wp2
        go_ret2
        exact HG.out
    · have h3 : (h == 0) = false := by rw [beq_eq_false_iff_ne]; exact h2
      have HG := Lib.hid (HF.out nq (by omega))
      clear HF hE h2
      go_wp2
      go_ret2
      exact HG.out

set_option maxRecDepth 1000000 in
set_option maxHeartbeats 1000000 in
theorem cut_part0 (b off : Nat) (R : List UInt8) (d c : Nat) (x h : Int) (E : List UInt8) (hE : Hid (E = if 0 < h then oneMoreL [] else [])) (w : World) 
    (hR : Hid (R.length = d)) (hrR : Hid (Rd w (some ⟨b, off, none⟩) R)) (hh : Hid (halfI R = h))
    (hd : 0 < d) (hc : d ≤ c) (hcm : c ≤ 9223372036854775807) (hx0 : -1000000000 ≤ x) (hx1 : x ≤ 1000000000) (hkd : d ≤ 1000000) :
    Calls Tryd.prog 75 #[.slice (some ⟨b, off, none⟩) d c, .int .i64 x, .int .i64 (d : Int)] w (SlE w E (x + d)) := by
  have HH : Hid (∀ n, Calls Tryd.prog 91 #[.slice (some ⟨b, off, none⟩) d c] (w.drewN n) fun e w' => e = .returned (.int .i64 h) ∧ w.drewN n = w') := by
    intro n
    have := half_any (some ⟨b, off, none⟩) R c (w.drewN n) (hrR.out.below (below_drewN (Below.refl _ w) n)) (by rw [hR.out]; exact hd) (by rw [hR.out]; omega) (by omega)
    rw [hR.out, hh.out] at this
    exact this
  have HM : Hid (∀ n, Calls Tryd.prog 61 #[.slice (some ⟨b, off, none⟩) 0 0] (w.drewN n) (SlR w (oneMoreL []))) := by
    intro n
    have := more_any b off [] 0 (w.drewN n) (Rd.nil _ _) (by simp)
    exact this.mono fun _ _ ⟨A, c', p1, p2, p3, p4, p5⟩ => ⟨A, c', p1, p2, p3, p4, (below_drewN (Below.refl _ w) n).trans p5⟩
  have HF : Hid (∀ n, ¬ 0 < h → SlE w E (x + d) (.returned (.tuple #[.slice (some ⟨b, off, none⟩) 0 0, .int .i64 (x + d)])) (w.drewN n)) := by
    intro n hn
    have e : E = [] := by rw [hE.out, if_neg hn]
    exact ⟨_, 0, by rw [e]; rfl, by rw [e]; exact Nat.le_refl _, by omega, by rw [e]; exact Rd.nil _ _, below_drewN (Below.refl _ w) n⟩
  clear hrR hR hh
  go_enter Tryd.func75, Tryd.ntmps75
  go_wp2_with fail
  go_quiet (fail)
  go_wp2_with fail
  refine (HH.out nq).mono ?_
  rintro e w1 ⟨rfl, rfl⟩
  by_cases h1 : 0 < h
  · have eE : E = oneMoreL [] := by rw [hE.out, if_pos h1]
    have HE := Lib.hid eE
    clear eE hE
    go_wp2_with fail
    refine (HM.out nq).mono ?_
    rintro e w1 ⟨A, c2, rfl, q1, q0, q2, q3⟩
    rw [← HE.out] at q1 q2 ⊢
    go_wp2
    go_ret2
    exact ⟨A, c2, rfl, q1, q0, q2, q3⟩
  · have HG := Lib.hid (HF.out nq (by omega))
    clear HF hE
    by_cases h2 : h = 0
    · subst h2
      go_wp2
      go_ret2
      exact HG.out
    · have h3 : (h == 0) = false := by rw [beq_eq_false_iff_ne]; exact h2
      clear h2
      go_wp2
      go_ret2
      exact HG.out

/-- cutToEven, wherever something is left and something is cut -/
theorem cut_part (b off : Nat) (l : List UInt8) (k d c : Nat) (x : Int) (w : World) (hr : Rd w (some ⟨b, off, none⟩) l) (hl : l.length = k + d)
    (hd : 0 < d) (hc : l.length ≤ c) (hcm : c ≤ 9223372036854775807) (hx0 : -1000000000 ≤ x) (hx1 : x ≤ 1000000000) (hkd : l.length ≤ 1000000) :
    Calls Tryd.prog 75 #[.slice (some ⟨b, off, none⟩) l.length c, .int .i64 x, .int .i64 (d : Int)] w (SlE w (evenL (l.take k) (l.drop k)) (x + d)) := by
  rw [hl] at hc hkd ⊢
  cases k with
  | zero =>
    rw [Nat.zero_add] at hl ⊢
    refine cut_part0 b off l d c x (halfI l) _ ?_ w hl hr rfl hd (by omega) hcm hx0 hx1 (by omega)
    show _ = _
    simp [evenL, oddL]
  | succ k =>
    have hk : k < l.length := by omega
    have hlast : (l.take (k + 1)).getLast? = some l[k] := by
      rw [List.take_succ_eq_append_getElem hk, List.getLast?_concat]
    obtain ⟨b', off', e, hlt, hcells⟩ := hr (by omega)
    simp only [Option.some.injEq, Addr.mk.injEq, and_true] at e
    obtain ⟨rfl, rfl⟩ := e
    refine cut_part1 b off (l.take (k + 1)) (l.drop (k + 1)) k d c x (halfI (l.drop (k + 1))) (((l[k]).toNat : Int) % 2 == 1) ((l[k]).toNat : Int) _ ?_ w (hcells k l[k] (by simp [hk])) (by omega) (by have := (l[k]).toNat_lt; omega) rfl (by show _ = _; simp; omega) (by show _ = _; simp; omega) (hr.take _) (hr.dropAt _) rfl hd hc hcm hx0 hx1 hkd
    show _ = _
    simp [evenL, oddL, hlast]
end Go.Proofs.YtkdjdoncmihkfaaDoor
