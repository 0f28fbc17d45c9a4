/- Walks over num.withoutNoughtsAhead and num.againstHalf, over slices of bytes that read as lists. -/
import Derived.Test.YtkdjdoncmihkfaaDoorProg
import Derived.WalkKit
import Derived.WalkSpells
import Derived.WalkLawsBesides
import Derived.Outline
import Derived.KernelRfl
import Derived.LoopN
import Derived.Lib.Hide
namespace Go.Proofs.YtkdjdoncmihkfaaDoor
open Go.RowKit

/-- a slice's cells hold these bytes -/
def Rd (w : World) (A : Option Addr) (l : List UInt8) : Prop :=
  0 < l.length → ∃ b off, A = some ⟨b, off, none⟩ ∧ b < w.heap.size ∧ ∀ j x, l[j]? = some x → w.cell? ⟨b, off + j, none⟩ = some (.int .u8 (x.toNat : Int))
theorem Rd.below {w w' : World} {A : Option Addr} {l : List UInt8} (h : Rd w A l) (hb : Below w.heap.size w w') : Rd w' A l := fun hl => by
  obtain ⟨b, off, e, hlt, hc⟩ := h hl
  have := hb.size
  exact ⟨b, off, e, by omega, fun j x hx => (hb.cell (p := ⟨b, off + j, none⟩) hlt).trans (hc j x hx)⟩
theorem Rd.nil (w : World) (A : Option Addr) : Rd w A [] := fun h => absurd h (by simp)

/-- the digits without the noughts ahead -/
def strip : List UInt8 → List UInt8
  | [] => []
  | c :: t => if c = 0 then strip t else c :: t

/-- a slice is handed back that reads as these bytes, and nothing that lay has turned -/
def SlR (w : World) (l : List UInt8) (e : Ending) (w' : World) : Prop := ∃ A c, e = .returned (.slice A l.length c) ∧ l.length ≤ c ∧ c ≤ 9223372036854775807 ∧ Rd w' A l ∧ Below w.heap.size w w'

def lenOf (v : Value) : Nat := match v with | .slice _ n _ => n | _ => 0

set_option maxHeartbeats 1000000 in
theorem strip_any (A : Option Addr) (l : List UInt8) (c : Nat) (w : World) (hr : Rd w A l) (hc : l.length ≤ c) (hcm : c ≤ 9223372036854775807) :
    Calls Tryd.prog 74 #[.slice A l.length c] w (SlR w (strip l)) := by
  have HR := Lib.hid hr
  clear hr
  go_enter Tryd.func74, Tryd.ntmps74
  go_wp2
  go_loop [0] (fun s => ∃ (A' : Option Addr) (c' : Nat) (l' : List UInt8), s = .slice A' l'.length c' ∧ l'.length ≤ c' ∧ c' ≤ 9223372036854775807 ∧ Rd w A' l' ∧ strip l' = strip l) (fun s => lenOf s)
  case atStart => exact ⟨A, c, l, rfl, hc, hcm, HR.out, rfl⟩
  case round =>
    obtain ⟨A', c', l', rfl, hc', hcm', hr', hs⟩ := hrel
    cases l' with
    | nil =>
      have HS := Lib.hid hs
      clear hs hr'
      go_wp2
      go_ret
      exact ⟨A', c', by rw [← HS.out]; rfl, by rw [← HS.out]; simp [strip], hcm', by rw [← HS.out]; exact Rd.nil _ _, Below.refl _ _⟩
    | cons x t =>
      obtain ⟨b, off, rfl, hlt, hcells⟩ := hr' (by simp)
      have h0 : w.cell? ⟨b, off, none⟩ = some (.int .u8 (x.toNat : Int)) := hcells 0 x rfl
      have HS := Lib.hid hs
      have HC := Lib.hid hcells
      clear hs hcells hr'
      by_cases hx : x = 0
      · have hx0 : ((x.toNat : Int) == 0) = true := by rw [hx]; rfl
        have HX := Lib.hid hx
        clear hx
        go_wp2
        go_round
        case rel =>
          refine ⟨_, c' - 1, t, rfl, by simp at hc'; omega, by omega, ?_, by rw [← HS.out, strip, if_pos HX.out]⟩
          intro ht
          have hc1 : ¬ c' = 1 := by simp at hc'; omega
          rw [if_neg hc1]
          refine ⟨b, off + 1, rfl, hlt, fun j y hy => ?_⟩
          have := HC.out (j + 1) y (by simpa using hy)
          rw [show off + 1 + j = off + (j + 1) by omega]
          exact this
        case measure => simp [lenOf]
      · have hx0 : ((x.toNat : Int) == 0) = false := by
          rw [beq_eq_false_iff_ne]
          intro e
          exact hx (UInt8.toNat_inj.1 (show x.toNat = 0 by omega))
        have hst : strip (x :: t) = x :: t := by rw [strip, if_neg hx]
        have HST := Lib.hid (hst.symm.trans HS.out)
        clear hx hst
        go_wp2
        go_ret
        exact ⟨_, c', by rw [← HST.out]; rfl, by rw [← HST.out]; exact hc', hcm', by rw [← HST.out]; exact fun _ => ⟨b, off, rfl, hlt, HC.out⟩, Below.refl _ _⟩

/-- 0 of noughts alone, else 1 -/
def noughts (t : List UInt8) : Int := if t.all (· == 0) then 0 else 1
/-- how a fraction with these digits stands to a half -/
def halfI : List UInt8 → Int
  | [] => 0
  | x :: t => if x = 5 then noughts t else (x.toNat : Int) - 5

theorem half_not5 (x : UInt8) (t : List UInt8) (b off c : Nat) (w : World) (h0 : w.cell? ⟨b, off, none⟩ = some (.int .u8 (x.toNat : Int))) (hx : x ≠ 5) :
    Calls Tryd.prog 91 #[.slice (some ⟨b, off, none⟩) (x :: t).length c] w fun e w' => e = .returned (.int .i64 ((x.toNat : Int) - 5)) ∧ w = w' := by
  have hx0 : ((x.toNat : Int) == 5) = false := by
    rw [beq_eq_false_iff_ne]
    intro e
    exact hx (UInt8.toNat_inj.1 (show x.toNat = 5 by omega))
  have hx1 : ((x.toNat : Int) != 5) = true := by rw [bne, hx0]; rfl
  have hlt := x.toNat_lt
  clear hx
  go_enter Tryd.func91, Tryd.ntmps91
  go_wp2
  go_ret
  exact ⟨rfl, rfl⟩

set_option maxHeartbeats 1000000 in
theorem half_5 (x : UInt8) (t : List UInt8) (b off c : Nat) (w : World) (hcells : ∀ j y, (x :: t)[j]? = some y → w.cell? ⟨b, off + j, none⟩ = some (.int .u8 (y.toNat : Int))) (hx : x = 5) (hc : (x :: t).length ≤ c) (hcm : c ≤ 9223372036854775807) :
    Calls Tryd.prog 91 #[.slice (some ⟨b, off, none⟩) (x :: t).length c] w fun e w' => e = .returned (.int .i64 (noughts t)) ∧ w = w' := by
  have h0 : w.cell? ⟨b, off, none⟩ = some (.int .u8 (x.toNat : Int)) := hcells 0 x rfl
  have hx0 : ((x.toNat : Int) == 5) = true := by rw [hx]; rfl
  have hx1 : ((x.toNat : Int) != 5) = false := by rw [bne, hx0]; rfl
  have hcl : t.length + 1 ≤ c := by simpa using hc
  have HC := Lib.hid hcells
  have HX := Lib.hid hx
  clear hx hcells hc
  by_cases hc1 : c = 1
  · have ht : t = [] := List.eq_nil_of_length_eq_zero (by omega)
    subst ht
    subst hc1
    go_enter Tryd.func91, Tryd.ntmps91
    go_wp2
    refine wp_loop_rounds 1 ?_
    rw [rounds_succ]
    go_wp2
    go_ret
    exact ⟨rfl, rfl⟩
  · go_enter Tryd.func91, Tryd.ntmps91
    go_wp2
    go_loop [17] (fun i => ∃ k : Nat, i = .int .i64 k ∧ k ≤ t.length ∧ ∀ j (h : j < t.length), j < k → t[j] = 0) (fun i => t.length - (intOf i).toNat)
    case atStart => exact ⟨0, rfl, Nat.zero_le _, fun j _ h => absurd h (by omega)⟩
    case round =>
      obtain ⟨k, rfl, hk, hz⟩ := hrel
      have HZ := Lib.hid hz
      clear hz
      by_cases hlt : k < t.length
      · have hck : w.cell? ⟨b, off + 1 + k, none⟩ = some (.int .u8 ((t[k]).toNat : Int)) := by
          rw [show off + 1 + k = off + (k + 1) by omega]
          exact HC.out (k + 1) t[k] (by simp [hlt])
        obtain ⟨y, hy⟩ : ∃ y, t[k] = y := ⟨_, rfl⟩
        rw [hy] at hck
        have HY := Lib.hid hy
        clear hy
        have hy256 := y.toNat_lt
        by_cases h0 : y = 0
        · have e0 : ((y.toNat : Int) != 0) = false := by rw [h0]; rfl
          have H0 := Lib.hid (HY.out.trans h0)
          clear h0
          go_wp2
          go_round
          case rel =>
            refine ⟨k + 1, by go_num, by omega, fun j hj hjk => ?_⟩
            by_cases hjk2 : j < k
            · exact HZ.out j hj hjk2
            · obtain rfl : j = k := by omega
              exact H0.out
          case measure => simp [intOf]; omega
        · have e0 : ((y.toNat : Int) != 0) = true := by
            rw [bne_iff_ne]
            intro e
            exact h0 (UInt8.toNat_inj.1 (show y.toNat = 0 by omega))
          have hall : t.all (· == 0) = false := by
            rw [Bool.eq_false_iff]
            intro e
            rw [List.all_eq_true] at e
            exact h0 (HY.out.symm.trans (by simpa using e t[k] (List.getElem_mem hlt)))
          have HALL := Lib.hid hall
          clear h0 hall
          go_wp2
          go_ret
          exact ⟨by unfold noughts; rw [HALL.out]; rfl, rfl⟩
      · have hall : t.all (· == 0) = true := by
          rw [List.all_eq_true]
          intro y hy
          obtain ⟨j, hj, rfl⟩ := List.getElem_of_mem hy
          simpa using HZ.out j hj (by omega)
        have HALL := Lib.hid hall
        clear hall
        go_wp2
        go_ret
        exact ⟨by unfold noughts; rw [HALL.out]; rfl, rfl⟩

/-- againstHalf, of some digits -/
theorem half_any (A : Option Addr) (l : List UInt8) (c : Nat) (w : World) (hr : Rd w A l) (hl : 0 < l.length) (hc : l.length ≤ c) (hcm : c ≤ 9223372036854775807) :
    Calls Tryd.prog 91 #[.slice A l.length c] w fun e w' => e = .returned (.int .i64 (halfI l)) ∧ w = w' := by
  obtain ⟨b, off, rfl, hlt, hcells⟩ := hr hl
  cases l with
  | nil => simp at hl
  | cons x t =>
    by_cases hx : x = 5
    · have e : halfI (x :: t) = noughts t := if_pos hx
      rw [e]; exact half_5 x t b off c w hcells hx hc hcm
    · have e : halfI (x :: t) = (x.toNat : Int) - 5 := if_neg hx
      rw [e]; exact half_not5 x t b off c w (hcells 0 x rfl) hx
end Go.Proofs.YtkdjdoncmihkfaaDoor
