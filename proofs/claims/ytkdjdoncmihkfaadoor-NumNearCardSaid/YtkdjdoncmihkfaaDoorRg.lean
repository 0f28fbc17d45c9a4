/- The document's less: digits against digits. -/
import Derived.Test.YtkdjdoncmihkfaaDoorRf
namespace Go.Proofs.YtkdjdoncmihkfaaDoor
open Go.RowKit

theorem less_split {p s t : List UInt8} {a b : UInt8} (hs : Dig s) (ht : Dig t) (hl : s.length = t.length) (hab : a.toNat < b.toNat) : valN (p ++ a :: s) < valN (p ++ b :: t) := by
  have h1 := hs.lt
  have h2 := ht.lt
  rw [valN_append, valN_append, valN_cons, valN_cons, List.length_cons, List.length_cons, hl]
  rw [hl] at h1
  have h3 : (a.toNat + 1) * 10 ^ t.length ≤ b.toNat * 10 ^ t.length := Nat.mul_le_mul_right _ hab
  rw [Nat.add_mul, Nat.one_mul] at h3
  omega
theorem split_at {l : List UInt8} {i : Nat} (h : i < l.length) : l = l.take i ++ l[i] :: l.drop (i + 1) := by
  rw [← List.drop_eq_getElem_cons h, List.take_append_drop]
/-- two cells that lie -/
def Kl (w : World) (b1 p1 b2 p2 : Nat) (x y : Int) (w' : World) : Prop :=
  w'.cell? ⟨b1, p1, none⟩ = some (.int .i64 x) ∧ w'.cell? ⟨b2, p2, none⟩ = some (.int .i64 y) ∧ b1 < w'.heap.size ∧ b2 < w'.heap.size ∧ Below w.heap.size w w'
theorem Kl.later {w : World} {b1 p1 b2 p2 : Nat} {x y : Int} {w1 w2 : World} (h : Kl w b1 p1 b2 p2 x y w1) (hb : Below w1.heap.size w1 w2) : Kl w b1 p1 b2 p2 x y w2 := by
  obtain ⟨h1, h2, h3, h4, h5⟩ := h
  have := hb.size
  exact ⟨(hb.cell (p := ⟨b1, p1, none⟩) h3).trans h1, (hb.cell (p := ⟨b2, p2, none⟩) h4).trans h2, by omega, by omega, h5.trans (hb.mono h5.size)⟩
set_option maxRecDepth 1000000 in
set_option maxHeartbeats 2000000 in
theorem less_any (b1 o1 c1 b2 o2 c2 n : Nat) (X Y : List UInt8) (w : World) (hX : X.length = n) (hY : Y.length = n) (hn : n ≤ 100000) (dX : Dig X) (dY : Dig Y) (hb1 : b1 < w.heap.size) (hb2 : b2 < w.heap.size)
    (h1 : ∀ j x, X[j]? = some x → w.cell? ⟨b1, o1 + j, none⟩ = some (.int .i64 (x.toNat : Int))) (h2 : ∀ j x, Y[j]? = some x → w.cell? ⟨b2, o2 + j, none⟩ = some (.int .i64 (x.toNat : Int))) :
    Calls Tryd.prog 72 #[.slice (some ⟨b1, o1, none⟩) n c1, .slice (some ⟨b2, o2, none⟩) n c2] w fun e w' => e = .returned (.bool (decide (valN X < valN Y))) ∧ Below w.heap.size w w' := by
  have H1 := Lib.hid h1
  have H2 := Lib.hid h2
  have HX := Lib.hid hX
  have HY := Lib.hid hY
  clear h1 h2 hX hY
  obtain ⟨R, hR⟩ : ∃ R, R = decide (valN X < valN Y) := ⟨_, rfl⟩
  rw [← hR]
  have HR := Lib.hid hR
  clear hR
  go_enter Tryd.func72, Tryd.ntmps72
  go_wp2
  go_loopw [5] (fun i wr => ∃ j : Nat, j ≤ n ∧ i = .int .i64 (j : Int) ∧ Hid (X.take j = Y.take j) ∧ Below w.heap.size w wr) (fun i _ => n - (intOf i).toNat)
  case atStart => exact ⟨0, by omega, rfl, by show _ = _; rfl, Below.refl _ _⟩
  case round =>
    obtain ⟨j, hj, rfl, HP, hbw⟩ := hrel
    have hBw := hbw.size
    by_cases hjn : j < n
    · have hjX : j < X.length := by rw [HX.out]; exact hjn
      have hjY : j < Y.length := by rw [HY.out]; exact hjn
      have e1 := (hbw.cell (p := ⟨b1, o1 + j, none⟩) hb1).trans (H1.out j _ (List.getElem?_eq_getElem hjX))
      have e2 := (hbw.cell (p := ⟨b2, o2 + j, none⟩) hb2).trans (H2.out j _ (List.getElem?_eq_getElem hjY))
      obtain ⟨x, hx⟩ : ∃ x, x = X[j] := ⟨_, rfl⟩
      obtain ⟨y, hy⟩ : ∃ y, y = Y[j] := ⟨_, rfl⟩
      have hsX := split_at hjX
      have hsY := split_at hjY
      rw [← hx] at e1 hsX
      rw [← hy] at e2 hsY
      have hlen : (X.drop (j + 1)).length = (Y.drop (j + 1)).length := by rw [List.length_drop, List.length_drop, HX.out, HY.out]
      by_cases hxy : x = y
      · have hne : ((x.toNat : Int) != (y.toNat : Int)) = false := by rw [hxy]; simp
        have HP2 : Hid (X.take (j + 1) = Y.take (j + 1)) := by
          show _ = _
          rw [List.take_succ_eq_append_getElem hjX, List.take_succ_eq_append_getElem hjY, ← hx, ← hy, hxy, (show _ = _ from HP)]
        clear hsX hsY hx hy hxy hlen HP
        have K0 : Kl w b1 (o1 + j) b2 (o2 + j) (x.toNat : Int) (y.toNat : Int) wr := ⟨e1, e2, by omega, by omega, hbw⟩
        have KK := Lib.hid K0
        clear e1 e2 K0
        go_wp2_with fail
        go_region_held3 (fun w' => w'.cell? ⟨b1, o1 + j, none⟩ = some (.int .i64 (x.toNat : Int)) ∧ w'.cell? ⟨b2, o2 + j, none⟩ = some (.int .i64 (y.toNat : Int)) ∧ b1 < w'.heap.size ∧ b2 < w'.heap.size ∧ Below w.heap.size w w')
          ((show Kl w b1 (o1 + j) b2 (o2 + j) (x.toNat : Int) (y.toNat : Int) _; with_reducible first | exact KK.out.later (below_dr _) | assumption))
          (fail)
        go_wp2
        go_roundw
        case rel => exact ⟨j + 1, by omega, by go_num, HP2, hbw.trans ((below_dr wr).mono hBw)⟩
        case measure => simp [intOf]; omega
      · have hne : ((x.toNat : Int) != (y.toNat : Int)) = true := by
          rw [bne_iff_ne]; intro e; exact hxy (UInt8.toNat_inj.1 (by omega))
        have hv : decide (valN X < valN Y) = decide (x.toNat < y.toNat) := by
          rw [decide_eq_decide]
          have hP : X.take j = Y.take j := HP
          by_cases hlt : x.toNat < y.toNat
          · have := less_split (p := Y.take j) (dX.drop (j + 1)) (dY.drop (j + 1)) hlen hlt
            rw [← hsY, ← hP, ← hsX] at this
            constructor
            · intro _; omega
            · intro _; exact this
          · have hgt : y.toNat < x.toNat := by
              have : x.toNat ≠ y.toNat := fun e => hxy (UInt8.toNat_inj.1 e)
              omega
            have := less_split (p := Y.take j) (dY.drop (j + 1)) (dX.drop (j + 1)) hlen.symm hgt
            rw [← hsY, ← hP, ← hsX] at this
            constructor
            · intro _; omega
            · intro _; omega
        obtain rfl : R = decide (x.toNat < y.toNat) := by rw [HR.out, hv]
        clear HR hsX hsY hx hy hxy hlen HP hv
        have K0 : Kl w b1 (o1 + j) b2 (o2 + j) (x.toNat : Int) (y.toNat : Int) wr := ⟨e1, e2, by omega, by omega, hbw⟩
        have KK := Lib.hid K0
        clear e1 e2 K0
        go_wp2_with fail
        go_region_held3 (fun w' => w'.cell? ⟨b1, o1 + j, none⟩ = some (.int .i64 (x.toNat : Int)) ∧ w'.cell? ⟨b2, o2 + j, none⟩ = some (.int .i64 (y.toNat : Int)) ∧ b1 < w'.heap.size ∧ b2 < w'.heap.size ∧ Below w.heap.size w w')
          ((show Kl w b1 (o1 + j) b2 (o2 + j) (x.toNat : Int) (y.toNat : Int) _; with_reducible first | exact KK.out.later (below_dr _) | assumption))
          (fail)
        have KK2 := Lib.hid (KK.out.later (below_dr _))
        go_wp2_with fail
        go_region_held3 (fun w' => w'.cell? ⟨b1, o1 + j, none⟩ = some (.int .i64 (x.toNat : Int)) ∧ w'.cell? ⟨b2, o2 + j, none⟩ = some (.int .i64 (y.toNat : Int)) ∧ b1 < w'.heap.size ∧ b2 < w'.heap.size ∧ Below w.heap.size w w')
          ((show Kl w b1 (o1 + j) b2 (o2 + j) (x.toNat : Int) (y.toNat : Int) _; with_reducible first | exact KK2.out.later (below_dr _) | assumption))
          (fail)
        go_wp2
        go_ret
        exact ⟨rfl, (KK2.out.later (below_dr _)).2.2.2.2⟩
    · have hv : decide (valN X < valN Y) = false := by
        have hP : X.take j = Y.take j := HP
        rw [List.take_of_length_le (by rw [HX.out]; omega), List.take_of_length_le (by rw [HY.out]; omega)] at hP
        rw [hP]; simp
      obtain rfl : R = false := by rw [HR.out, hv]
      clear hv HP HR
      go_wp2
      go_ret
      exact ⟨rfl, hbw⟩

end Go.Proofs.YtkdjdoncmihkfaaDoor
