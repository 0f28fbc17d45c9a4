/- The document's wide: noughts behind digits. -/
import Derived.Test.YtkdjdoncmihkfaaDoorRd
namespace Go.Proofs.YtkdjdoncmihkfaaDoor
open Go.RowKit

/-- a slice value reads as these digits -/
def Vd (w : World) (v : Value) (l : List UInt8) : Prop :=
  v = .slice none 0 0 ∧ l = [] ∨ ∃ b off c, v = .slice (some ⟨b, off, none⟩) l.length c ∧ l.length ≤ c ∧ c ≤ 9223372036854775807 ∧ b < w.heap.size ∧ ∀ j x, l[j]? = some x → w.cell? ⟨b, off + j, none⟩ = some (.int .i64 (x.toNat : Int))
theorem Vd.below {w w' : World} {v : Value} {l : List UInt8} (h : Vd w v l) (hb : Below w.heap.size w w') : Vd w' v l := by
  rcases h with h | ⟨b, off, c, h1, h2, h3, h4, h5⟩
  · exact .inl h
  · have := hb.size
    exact .inr ⟨b, off, c, h1, h2, h3, by omega, fun j x hx => (hb.cell (p := ⟨b, off + j, none⟩) h4).trans (h5 j x hx)⟩
theorem OwnD.below {w w' : World} {B : Nat} {v : Value} {l : List UInt8} (h : OwnD w B v l) (hb : Below w.heap.size w w') : OwnD w' B v l :=
  ⟨h.1.kept (row := none) ⟨hb.os, hb.tape, hb.output, hb.size, fun j hj _ => hb.block j hj⟩ (by cases hv : v.ownBlock <;> simp), h.2⟩
theorem OwnD.vd {w : World} {B : Nat} {v : Value} {l : List UInt8} (h : OwnD w B v l) : Vd w v l := by
  obtain ⟨g, c, rfl, _, h1, h2, h3⟩ := h.rd
  by_cases hl : 0 < l.length
  · obtain ⟨b, off, e, hb, hc⟩ := h3 hl
    simp only [Option.some.injEq, Addr.mk.injEq, and_true] at e
    obtain ⟨rfl, rfl⟩ := e
    exact .inr ⟨_, _, c, rfl, h1, h2, hb, hc⟩
  · obtain ⟨⟨_, h5⟩, g', c', hv⟩ := h
    rcases h5 with ⟨h', _⟩ | ⟨g2, cap, cur, h', hb, hg, _⟩
    · simp at h'
    · simp only [Value.slice.injEq, Option.some.injEq, Addr.mk.injEq, and_true, true_and] at h'
      obtain ⟨rfl, rfl⟩ := h'
      have : l = [] := List.eq_nil_of_length_eq_zero (by omega)
      subst this
      exact .inr ⟨_, 0, c, rfl, h1, h2, (Array.getElem?_eq_some_iff.1 hg).1, fun j x hx => by simp at hx⟩
theorem ceD_append (a b : List UInt8) : ceD (a ++ b) = ceD a ++ ceD b := by simp [ceD]
/-- an append of digits to one's own -/
theorem OwnD.made {w1 : World} {B : Nat} {v' : Value} {a b : List UInt8} (h : w1.ownsRow B 3 1 v' (a.length + b.length) (ceD a ++ ceD b)) (hn : ¬ v' = .slice none 0 0) : OwnD w1 B v' (a ++ b) := by
  have e : (a ++ b).length = a.length + b.length := by simp
  refine ⟨by rw [e, ceD_append]; exact h, ?_⟩
  rcases h.2 with ⟨rfl, _⟩ | ⟨g, cap, cur, rfl, _⟩
  · exact absurd rfl hn
  · exact ⟨g, cap, by rw [e]⟩
theorem lit_nil (w : World) : OwnD (w.alloc (.cells #[] 3)) w.heap.size (.slice (some ⟨w.heap.size, 0, none⟩) 0 0) [] :=
  ⟨World.ownsRow_lit (base := w.heap.size) (e := 3) (size := 1) w #[] 0 (Nat.le_refl _) (by unfold maxLen; omega) (by simp), _, _, rfl⟩

set_option maxRecDepth 1000000 in
set_option maxHeartbeats 2000000 in
theorem wide_any (v : Value) (l : List UInt8) (k : Nat) (w : World) (h : Vd w v l) (hll : l.length ≤ 1000) (hk : k ≤ 1000) :
    Calls Tryd.prog 60 #[v, .int .i64 (k : Int)] w fun e w' => ∃ v', e = .returned v' ∧ OwnD w' w.heap.size v' (l ++ List.replicate k 0) ∧ Below w.heap.size w w' := by
  obtain ⟨i0, hi, hz0, hz1, hz2⟩ := info_parts info3
  have hlit := lit_nil w
  have hb0 := alloc_below w (.cells #[] 3)
  have hone : ∀ u ∈ ceD l, u.oneCell' = true := by intro u hu; simp [ceD] at hu; obtain ⟨x, _, rfl⟩ := hu; rfl
  rcases h with ⟨rfl, rfl⟩ | ⟨b, off, c, rfl, h1, h2, h3, h4⟩
  · go_enter Tryd.func60, Tryd.ntmps60
    go_wp2_with (first
      | (at_builtin; refine wpList_append_own_none _ rfl _ _ 43 rfl w.heap.size 3 i0 1 Tryd.underlying43 hi _ 0 [] rfl hlit.1 rfl ?_))
    go_wp2
    go_loopw [5, 6] (fun o i wr => ∃ j : Nat, j ≤ k ∧ i = .int .i64 (j : Int) ∧ OwnD wr w.heap.size o (([] : List UInt8) ++ List.replicate j 0) ∧ Below w.heap.size w wr) (fun _ i _ => k - (intOf i).toNat)
    case atStart => exact ⟨0, by omega, rfl, by simpa using hlit, hb0⟩
    case round =>
      obtain ⟨j, hj, rfl, hown, hbw⟩ := hrel
      have hBw := hbw.size
      obtain ⟨L, hL⟩ : ∃ L, L = ([] : List UInt8) ++ List.replicate j 0 := ⟨_, rfl⟩
      have hLl : L.length ≤ 2000 := by rw [hL]; simp; omega
      rw [← hL] at hown
      obtain ⟨g, cg, rfl, hBg, hlc, _, _⟩ := hown.rd
      have HL := Lib.hid hL
      clear hL hlit hb0
      by_cases hjk : j < k
      · go_wp2_with (first
          | (at_builtin; refine wpList_append_own _ rfl _ _ 43 rfl w.heap.size 3 i0 (.int .i64 0) 1 8 Tryd.underlying43 hi hz0 hz1 hz2 rfl (by decide) _ _ _ rfl (hown.1.alloc _) ⟨wr.heap.size, 0, none⟩ 1 1 [.int .i64 0] rfl rfl (cell_one_new _ _ _) (fun u hu => by simp at hu; subst hu; rfl) (by unfold maxLen; omega) (by omega) (by simp; omega) ?_))
        intro v' w3 hown3 hgrow hnil
        have R := OwnD.made (b := [0]) hown3 hnil
        have hb3 : Below w.heap.size w w3 := Below.grown (hbw.alloc hBw _) hgrow (by simp; omega) (fun j hj => by simp [Value.ownBlock] at hj; omega)
        have e1 : L ++ [0] = ([] : List UInt8) ++ List.replicate (j + 1) 0 := by rw [HL.out, List.replicate_succ', List.append_assoc]
        rw [e1] at R
        have HR := Lib.hid R
        clear hown3 hgrow hnil R e1 hown
        go_wp2
        go_roundw
        case rel => exact ⟨j + 1, by omega, by go_num, HR.out, hb3⟩
        case measure => simp [intOf]; omega
      · have e2 : L = ([] : List UInt8) ++ List.replicate k 0 := by rw [HL.out, show j = k by omega]
        have HO := Lib.hid hown
        clear hown
        go_wp2
        go_ret
        exact ⟨_, rfl, (congrArg (OwnD wr w.heap.size (.slice (some ⟨g, 0, none⟩) L.length cg)) e2).mp HO.out, hbw⟩
  · have hnews : ∀ j u, (ceD l)[j]? = some u → (w.alloc (.cells #[] 3)).cell? ((⟨b, off, none⟩ : Addr).add j) = some u := by
      intro j u hj
      have hjl : j < l.length := by have := (List.getElem?_eq_some_iff.1 hj).1; rwa [ceD_length] at this
      have h5 := h4 j l[j] (List.getElem?_eq_getElem hjl)
      have h6 : u = .int .i64 ((l[j]).toNat : Int) := by simpa [ceD, hjl] using hj.symm
      rw [h6, ← h5]
      have ea : (⟨b, off, none⟩ : Addr).add j = ⟨b, off + j, none⟩ := by
        by_cases hj0 : j = 0
        · subst hj0; rfl
        · simp [Addr.add, hj0]
      rw [ea]
      exact hb0.cell (p := ⟨b, off + j, none⟩) h3
    have hcl := ceD_length l
    clear h4
    go_enter Tryd.func60, Tryd.ntmps60
    go_wp2_with (first
      | (at_builtin; refine wpList_append_own _ rfl _ _ 43 rfl w.heap.size 3 i0 (.int .i64 0) 1 8 Tryd.underlying43 hi hz0 hz1 hz2 rfl (by decide) _ _ _ rfl hlit.1 ⟨b, off, none⟩ l.length c (ceD l) rfl (by omega) hnews hone (by show 0 + l.length ≤ maxLen; unfold maxLen; omega) (by show (0 + l.length) * 8 ≤ _; omega) (by simp) ?_))
    intro v1 w1 hown1 hgrow1 hnil1
    have O1 : OwnD w1 w.heap.size v1 l := OwnD.made (a := []) (b := l) (by rw [List.length_nil, Nat.zero_add]; exact hown1) hnil1
    have hb1 : Below w.heap.size w w1 := Below.grown hb0 hgrow1 (by simp) (fun j hj => by simp [Value.ownBlock] at hj; omega)
    clear hown1 hgrow1 hnil1 hnews hcl hlit hb0 hone
    go_wp2
    go_loopw [5, 6] (fun o i wr => ∃ j : Nat, j ≤ k ∧ i = .int .i64 (j : Int) ∧ OwnD wr w.heap.size o (l ++ List.replicate j 0) ∧ Below w.heap.size w wr) (fun _ i _ => k - (intOf i).toNat)
    case atStart => exact ⟨0, by omega, rfl, by simpa using O1, hb1⟩
    case round =>
      obtain ⟨j, hj, rfl, hown, hbw⟩ := hrel
      have hBw := hbw.size
      obtain ⟨L, hL⟩ : ∃ L, L = l ++ List.replicate j 0 := ⟨_, rfl⟩
      have hLl : L.length ≤ 2000 := by rw [hL]; simp; omega
      rw [← hL] at hown
      obtain ⟨g, cg, rfl, hBg, hlc, _, _⟩ := hown.rd
      have HL := Lib.hid hL
      clear hL O1 hb1
      by_cases hjk : j < k
      · go_wp2_with (first
          | (at_builtin; refine wpList_append_own _ rfl _ _ 43 rfl w.heap.size 3 i0 (.int .i64 0) 1 8 Tryd.underlying43 hi hz0 hz1 hz2 rfl (by decide) _ _ _ rfl (hown.1.alloc _) ⟨wr.heap.size, 0, none⟩ 1 1 [.int .i64 0] rfl rfl (cell_one_new _ _ _) (fun u hu => by simp at hu; subst hu; rfl) (by unfold maxLen; omega) (by omega) (by simp; omega) ?_))
        intro v' w3 hown3 hgrow hnil
        have R := OwnD.made (b := [0]) hown3 hnil
        have hb3 : Below w.heap.size w w3 := Below.grown (hbw.alloc hBw _) hgrow (by simp; omega) (fun j hj => by simp [Value.ownBlock] at hj; omega)
        have e1 : L ++ [0] = l ++ List.replicate (j + 1) 0 := by rw [HL.out, List.replicate_succ', List.append_assoc]
        rw [e1] at R
        have HR := Lib.hid R
        clear hown3 hgrow hnil R e1 hown
        go_wp2
        go_roundw
        case rel => exact ⟨j + 1, by omega, by go_num, HR.out, hb3⟩
        case measure => simp [intOf]; omega
      · have e2 : L = l ++ List.replicate k 0 := by rw [HL.out, show j = k by omega]
        have HO := Lib.hid hown
        clear hown
        go_wp2
        go_ret
        exact ⟨_, rfl, (congrArg (OwnD wr w.heap.size (.slice (some ⟨g, 0, none⟩) L.length cg)) e2).mp HO.out, hbw⟩

end Go.Proofs.YtkdjdoncmihkfaaDoor
