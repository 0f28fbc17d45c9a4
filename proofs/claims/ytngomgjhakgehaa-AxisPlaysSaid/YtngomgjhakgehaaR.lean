/- The document's Same: of two rows of ids. -/
import Derived.Test.YtngomgjhakgehaaO
import Derived.Deep.QuietTactic
import Derived.BigQuiet
import Derived.Deep.RegionHeld3
namespace Go.Proofs.Ytngomgjhakgehaa
open Go.RowKit Go.Maps

theorem below_dr {B : Nat} {a w : World} (h : Below B a w) (j : Nat) : Below B a (w.drewN j) := ⟨h.os, h.tape, h.output, h.size, h.block⟩

/-- four cells -/
def C4 (ad ae : Addr) (k : Nat) (x y x2 y2 : Int) (w : World) : Prop :=
  w.cell? (ad.add (k * 2)) = some (.int .i64 x) ∧ w.cell? ⟨(ad.add (k * 2)).block, (ad.add (k * 2)).off + 1, none⟩ = some (.int .i64 y) ∧ w.cell? (ae.add (k * 2)) = some (.int .i64 x2) ∧ w.cell? ⟨(ae.add (k * 2)).block, (ae.add (k * 2)).off + 1, none⟩ = some (.int .i64 y2)

set_option maxHeartbeats 3200000 in
theorem same_ids (u v : Value) (l m : List IdP) (w : World) (hu : IdsAt w u l) (hv : IdsAt w v m) (hlen : l.length ≤ 100000) :
    Calls Try.prog 23 #[u, v] w fun e w' => e = .returned (.bool (decide (l = m))) ∧ Below w.heap.size w w' := by
  obtain ⟨A, c, rfl, hc, hI⟩ := hu
  obtain ⟨B, d, rfl, hd, hK⟩ := hv
  have HI := Lib.hid hI
  have HK := Lib.hid hK
  clear hI hK
  by_cases hll : l.length = m.length
  · obtain ⟨R, hR⟩ : ∃ R, decide (l = m) = R := ⟨_, rfl⟩
    rw [hR]
    have HR := Lib.hid hR
    have hlb : ((↑l.length : Int) != ↑m.length) = false := by rw [hll]; simp
    have HLL := Lib.hid hll
    clear hR hll
    go_enter Try.func23, Try.ntmps23
    go_wp2_with fail
    go_loopw [5] (fun i wr => ∃ k : Nat, k ≤ l.length ∧ i = .int .i64 k ∧ l.take k = m.take k ∧ Below w.heap.size w wr) (fun i _ => l.length - (intOf i).toNat)
    case atStart => exact ⟨0, Nat.zero_le _, rfl, by simp, Below.refl _ _⟩
    case round =>
      obtain ⟨k, hk, rfl, he, hB⟩ := hrel
      have HE := Lib.hid he
      have HW := Lib.hid hB
      clear he hB
      by_cases hlt : k < l.length
      · have hlt2 : k < m.length := by have := HLL.out; omega
        have hx : l[k]? = some l[k] := List.getElem?_eq_getElem hlt
        have hy : m[k]? = some m[k] := List.getElem?_eq_getElem hlt2
        obtain ⟨p, hp⟩ : ∃ p, l[k] = p := ⟨_, rfl⟩
        obtain ⟨q, hq⟩ : ∃ q, m[k] = q := ⟨_, rfl⟩
        rw [hp] at hx
        rw [hq] at hy
        obtain ⟨ad, rfl, c2, c3⟩ := HI.out k p hx
        obtain ⟨ae, rfl, d2, d3⟩ := HK.out k q hy
        have hza := cell_lt c2
        have hzb := cell_lt d2
        rw [add_block] at hza hzb
        have c2' := (HW.out.cell (by rw [add_block]; exact hza)).trans c2
        have c3' := (HW.out.cell (p := ⟨(ad.add (k * 2)).block, _, none⟩) (by simp only [add_block]; exact hza)).trans c3
        have d2' := (HW.out.cell (by rw [add_block]; exact hzb)).trans d2
        have d3' := (HW.out.cell (p := ⟨(ae.add (k * 2)).block, _, none⟩) (by simp only [add_block]; exact hzb)).trans d3
        have hsl : l.take (k + 1) = l.take k ++ [p] := by rw [List.take_add_one, hx]; rfl
        have hsm : m.take (k + 1) = m.take k ++ [q] := by rw [List.take_add_one, hy]; rfl
        have HSL := Lib.hid hsl
        have HSM := Lib.hid hsm
        have HX := Lib.hid hx
        have HY := Lib.hid hy
        obtain ⟨x, y⟩ := p
        obtain ⟨x2, y2⟩ := q
        simp only at c2' c3' d2' d3'
        have hi0 : (0 : Int) ≤ ↑k := by omega
        have hi1 : (↑k : Int) < ↑l.length := by omega
        have hi2 : (↑l.length : Int) ≤ ↑c := by omega
        have hi3 : (↑k : Int) < ↑m.length := by omega
        have hi4 : (↑m.length : Int) ≤ ↑d := by omega
        clear hp hq hx hy c2 c3 d2 d3 hza hzb hsl hsm
        by_cases hpq : (x, y) = (x2, y2)
        · obtain ⟨rfl, rfl⟩ := Prod.mk.inj hpq
          have HB3 : Hid (Below w.heap.size w wr.drew) := Lib.hid HW.out.drew
          have H4 : Hid (C4 ad ae k x y x y wr.drew) := Lib.hid ⟨c2', c3', d2', d3'⟩
          clear c2' c3' d2' d3'
          go_wp2_with fail
          refine wp_region_held_drew (S := C4 ad ae k x y x y) (by kernel_rfl) H4.out (fun hS => ?_)
          refine wpAnyH_take (i := 0) (v := ?v0a) rfl (by kernel_rfl) (by kernel_rfl) (by kernel_rfl) (fun _ _ _ h => h) (Or.inl ⟨by kernel_rfl, ?h0a⟩) hS ?_
          case h0a => (rintro w2 ⟨e0, e1, e2, e3⟩; go_simp; try with_reducible rfl)
          refine wpAnyH_take (i := 1) (v := ?v1a) rfl (by kernel_rfl) (by kernel_rfl) (by kernel_rfl) (fun _ _ _ h => h) (Or.inl ⟨by kernel_rfl, ?h1a⟩) hS ?_
          case h1a => (rintro w2 ⟨e0, e1, e2, e3⟩; go_simp; try with_reducible rfl)
          refine wpAnyH_take (i := 2) (v := ?v2a) rfl (by kernel_rfl) (by kernel_rfl) (by kernel_rfl) (fun _ _ _ h => h) (Or.inl ⟨by kernel_rfl, ?h2a⟩) hS ?_
          case h2a => (rintro w2 ⟨e0, e1, e2, e3⟩; go_simp; try with_reducible rfl)
          refine wpAnyH_take (i := 3) (v := ?v3a) rfl (by kernel_rfl) (by kernel_rfl) (by kernel_rfl) (fun _ _ _ h => h) (Or.inl ⟨by kernel_rfl, ?h3a⟩) hS ?_
          case h3a => (rintro w2 ⟨e0, e1, e2, e3⟩; go_simp; try with_reducible rfl)
          refine wpAnyH_take (i := 4) (v := ?v4a) rfl (by kernel_rfl) (by kernel_rfl) (by kernel_rfl) (fun _ _ _ h => h) (Or.inl ⟨by kernel_rfl, ?h4a⟩) hS ?_
          case h4a => (rintro w2 ⟨e0, e1, e2, e3⟩; go_simp; try with_reducible rfl)
          refine wpAnyH_take (i := 5) (v := ?v5a) rfl (by kernel_rfl) (by kernel_rfl) (by kernel_rfl) (fun _ _ _ h => h) (Or.inl ⟨by kernel_rfl, ?h5a⟩) hS ?_
          case h5a => (rintro w2 ⟨e0, e1, e2, e3⟩; go_simp; try with_reducible rfl)
          refine wpAnyH_take (i := 6) (v := ?v6a) rfl (by kernel_rfl) (by kernel_rfl) (by kernel_rfl) (fun _ _ _ h => h) (Or.inl ⟨by kernel_rfl, ?h6a⟩) hS ?_
          case h6a => (rintro w2 ⟨e0, e1, e2, e3⟩; go_simp; try with_reducible rfl)
          refine wpAnyH_take (i := 7) (v := ?v7a) rfl (by kernel_rfl) (by kernel_rfl) (by kernel_rfl) (fun _ _ _ h => h) (Or.inl ⟨by kernel_rfl, ?h7a⟩) hS ?_
          case h7a => (rintro w2 ⟨e0, e1, e2, e3⟩; go_simp; try with_reducible rfl)
          refine wpAnyH_take (i := 8) (v := ?v8a) rfl (by kernel_rfl) (by kernel_rfl) (by kernel_rfl) (fun _ _ _ h => h) (Or.inl ⟨by kernel_rfl, ?h8a⟩) hS ?_
          case h8a => (rintro w2 ⟨e0, e1, e2, e3⟩; go_simp; try with_reducible rfl)
          refine wpAnyH_done (by kernel_rfl) ?_ _
          go_simp
          go_wp2
          go_roundw
          case rel => exact ⟨k + 1, by omega, by simp, by rw [HSL.out, HSM.out, HE.out], HB3.out⟩
          case measure => simp [intOf]; omega
        · have hRf : R = false := by
            rw [← HR.out]
            refine decide_eq_false (fun hlm => hpq ?_)
            have := HX.out
            rw [hlm, HY.out] at this
            injection this with this
            exact this.symm
          subst hRf
          have HB3 : Hid (Below w.heap.size w wr.drew) := Lib.hid HW.out.drew
          by_cases hxx : x = x2
          · subst hxx
            have hyb : (y == y2) = false := by simp at hpq; simpa using hpq
            clear hpq
            have H4 : Hid (C4 ad ae k x y x y2 wr.drew) := Lib.hid ⟨c2', c3', d2', d3'⟩
            clear c2' c3' d2' d3'
            go_wp2_with fail
            refine wp_region_held_drew (S := C4 ad ae k x y x y2) (by kernel_rfl) H4.out (fun hS => ?_)
            refine wpAnyH_take (i := 0) (v := ?v0b) rfl (by kernel_rfl) (by kernel_rfl) (by kernel_rfl) (fun _ _ _ h => h) (Or.inl ⟨by kernel_rfl, ?h0b⟩) hS ?_
            case h0b => (rintro w2 ⟨e0, e1, e2, e3⟩; go_simp; try with_reducible rfl)
            refine wpAnyH_take (i := 1) (v := ?v1b) rfl (by kernel_rfl) (by kernel_rfl) (by kernel_rfl) (fun _ _ _ h => h) (Or.inl ⟨by kernel_rfl, ?h1b⟩) hS ?_
            case h1b => (rintro w2 ⟨e0, e1, e2, e3⟩; go_simp; try with_reducible rfl)
            refine wpAnyH_take (i := 2) (v := ?v2b) rfl (by kernel_rfl) (by kernel_rfl) (by kernel_rfl) (fun _ _ _ h => h) (Or.inl ⟨by kernel_rfl, ?h2b⟩) hS ?_
            case h2b => (rintro w2 ⟨e0, e1, e2, e3⟩; go_simp; try with_reducible rfl)
            refine wpAnyH_take (i := 3) (v := ?v3b) rfl (by kernel_rfl) (by kernel_rfl) (by kernel_rfl) (fun _ _ _ h => h) (Or.inl ⟨by kernel_rfl, ?h3b⟩) hS ?_
            case h3b => (rintro w2 ⟨e0, e1, e2, e3⟩; go_simp; try with_reducible rfl)
            refine wpAnyH_take (i := 4) (v := ?v4b) rfl (by kernel_rfl) (by kernel_rfl) (by kernel_rfl) (fun _ _ _ h => h) (Or.inl ⟨by kernel_rfl, ?h4b⟩) hS ?_
            case h4b => (rintro w2 ⟨e0, e1, e2, e3⟩; go_simp; try with_reducible rfl)
            refine wpAnyH_take (i := 5) (v := ?v5b) rfl (by kernel_rfl) (by kernel_rfl) (by kernel_rfl) (fun _ _ _ h => h) (Or.inl ⟨by kernel_rfl, ?h5b⟩) hS ?_
            case h5b => (rintro w2 ⟨e0, e1, e2, e3⟩; go_simp; try with_reducible rfl)
            refine wpAnyH_take (i := 6) (v := ?v6b) rfl (by kernel_rfl) (by kernel_rfl) (by kernel_rfl) (fun _ _ _ h => h) (Or.inl ⟨by kernel_rfl, ?h6b⟩) hS ?_
            case h6b => (rintro w2 ⟨e0, e1, e2, e3⟩; go_simp; try with_reducible rfl)
            refine wpAnyH_take (i := 7) (v := ?v7b) rfl (by kernel_rfl) (by kernel_rfl) (by kernel_rfl) (fun _ _ _ h => h) (Or.inl ⟨by kernel_rfl, ?h7b⟩) hS ?_
            case h7b => (rintro w2 ⟨e0, e1, e2, e3⟩; go_simp; try with_reducible rfl)
            refine wpAnyH_take (i := 8) (v := ?v8b) rfl (by kernel_rfl) (by kernel_rfl) (by kernel_rfl) (fun _ _ _ h => h) (Or.inl ⟨by kernel_rfl, ?h8b⟩) hS ?_
            case h8b => (rintro w2 ⟨e0, e1, e2, e3⟩; go_simp; try with_reducible rfl)
            refine wpAnyH_done (by kernel_rfl) ?_ _
            go_simp
            go_wp2
            go_ret
            exact ⟨rfl, HB3.out⟩
          · have hxb : (x == x2) = false := by simpa using hxx
            clear hpq hxx
            have H4 : Hid (C4 ad ae k x y x2 y2 wr.drew) := Lib.hid ⟨c2', c3', d2', d3'⟩
            clear c2' c3' d2' d3'
            go_wp2_with fail
            refine wp_region_held_drew (S := C4 ad ae k x y x2 y2) (by kernel_rfl) H4.out (fun hS => ?_)
            refine wpAnyH_take (i := 0) (v := ?v0c) rfl (by kernel_rfl) (by kernel_rfl) (by kernel_rfl) (fun _ _ _ h => h) (Or.inl ⟨by kernel_rfl, ?h0c⟩) hS ?_
            case h0c => (rintro w2 ⟨e0, e1, e2, e3⟩; go_simp; try with_reducible rfl)
            refine wpAnyH_take (i := 1) (v := ?v1c) rfl (by kernel_rfl) (by kernel_rfl) (by kernel_rfl) (fun _ _ _ h => h) (Or.inl ⟨by kernel_rfl, ?h1c⟩) hS ?_
            case h1c => (rintro w2 ⟨e0, e1, e2, e3⟩; go_simp; try with_reducible rfl)
            refine wpAnyH_take (i := 2) (v := ?v2c) rfl (by kernel_rfl) (by kernel_rfl) (by kernel_rfl) (fun _ _ _ h => h) (Or.inl ⟨by kernel_rfl, ?h2c⟩) hS ?_
            case h2c => (rintro w2 ⟨e0, e1, e2, e3⟩; go_simp; try with_reducible rfl)
            refine wpAnyH_take (i := 3) (v := ?v3c) rfl (by kernel_rfl) (by kernel_rfl) (by kernel_rfl) (fun _ _ _ h => h) (Or.inl ⟨by kernel_rfl, ?h3c⟩) hS ?_
            case h3c => (rintro w2 ⟨e0, e1, e2, e3⟩; go_simp; try with_reducible rfl)
            refine wpAnyH_take (i := 4) (v := ?v4c) rfl (by kernel_rfl) (by kernel_rfl) (by kernel_rfl) (fun _ _ _ h => h) (Or.inl ⟨by kernel_rfl, ?h4c⟩) hS ?_
            case h4c => (rintro w2 ⟨e0, e1, e2, e3⟩; go_simp; try with_reducible rfl)
            refine wpAnyH_take (i := 5) (v := ?v5c) rfl (by kernel_rfl) (by kernel_rfl) (by kernel_rfl) (fun _ _ _ h => h) (Or.inl ⟨by kernel_rfl, ?h5c⟩) hS ?_
            case h5c => (rintro w2 ⟨e0, e1, e2, e3⟩; go_simp; try with_reducible rfl)
            refine wpAnyH_take (i := 6) (v := ?v6c) rfl (by kernel_rfl) (by kernel_rfl) (by kernel_rfl) (fun _ _ _ h => h) (Or.inl ⟨by kernel_rfl, ?h6c⟩) hS ?_
            case h6c => (rintro w2 ⟨e0, e1, e2, e3⟩; go_simp; try with_reducible rfl)
            refine wpAnyH_take (i := 7) (v := ?v7c) rfl (by kernel_rfl) (by kernel_rfl) (by kernel_rfl) (fun _ _ _ h => h) (Or.inl ⟨by kernel_rfl, ?h7c⟩) hS ?_
            case h7c => (rintro w2 ⟨e0, e1, e2, e3⟩; go_simp; try with_reducible rfl)
            refine wpAnyH_take (i := 8) (v := ?v8c) rfl (by kernel_rfl) (by kernel_rfl) (by kernel_rfl) (fun _ _ _ h => h) (Or.inl ⟨by kernel_rfl, ?h8c⟩) hS ?_
            case h8c => (rintro w2 ⟨e0, e1, e2, e3⟩; go_simp; try with_reducible rfl)
            refine wpAnyH_done (by kernel_rfl) ?_ _
            go_simp
            go_wp2
            go_ret
            exact ⟨rfl, HB3.out⟩
      · obtain rfl : k = l.length := by omega
        have hlt2 : ¬ (↑l.length : Int) < ↑l.length := by omega
        have hRt : R = true := by
          rw [← HR.out]
          refine decide_eq_true ?_
          have := HE.out
          rw [List.take_length, HLL.out, List.take_length] at this
          exact this
        subst hRt
        go_wp2
        go_ret
        exact ⟨rfl, HW.out⟩
  · have hlb : ((↑l.length : Int) != ↑m.length) = true := by simp; omega
    have hne : decide (l = m) = false := decide_eq_false (fun h => hll (by rw [h]))
    rw [hne]
    clear hne hll
    go_enter Try.func23, Try.ntmps23
    go_wp2_with fail
    go_ret
    exact ⟨rfl, Below.refl _ _⟩
end Go.Proofs.Ytngomgjhakgehaa
