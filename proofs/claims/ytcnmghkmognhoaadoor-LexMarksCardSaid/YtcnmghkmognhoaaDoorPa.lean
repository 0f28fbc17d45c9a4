/- Rows of tokens, cell by cell; the document's example. -/
import Derived.Test.YtcnmghkmognhoaaDoorOb
namespace Go.Proofs.YtcnmghkmognhoaaDoor
open Go.RowKit Go.Shelf

def CellG (w : World) (g k : Nat) (t : Tok) : Prop := w.cell? ⟨g, k * 3, none⟩ = some (.int .i64 t.kind) ∧ w.cell? ⟨g, k * 3 + 1, none⟩ = some (.string ⟨t.text.toArray⟩) ∧ w.cell? ⟨g, k * 3 + 2, none⟩ = some (.int .i64 t.at')
theorem rowT_cells {w : World} {base e : Nat} {v : Value} {l : List Tok} (h : w.ownsRow base e 3 v l.length (flatT l)) : ∃ A c, v = .slice A l.length c ∧ l.length ≤ c ∧ ∀ (k : Nat) t, l[k]? = some t → ∃ g, A = some ⟨g, 0, none⟩ ∧ base ≤ g ∧ g < w.heap.size ∧ CellG w g k t := by
  rcases h.2 with ⟨rfl, h0⟩ | ⟨g, cap, cur, rfl, hbg, hb, hnc, _, hsz, hcur⟩
  · obtain rfl : l = [] := List.eq_nil_of_length_eq_zero h0
    exact ⟨none, 0, rfl, Nat.le_refl _, fun k p h => by simp at h⟩
  · refine ⟨_, _, rfl, hnc, fun k t hk => ⟨g, rfl, hbg, (Array.getElem?_eq_some_iff.1 hb).1, ?_⟩⟩
    obtain ⟨e1, e2, e3⟩ := flatT_at hk
    have hat : ∀ j u, (flatT l)[j]? = some u → cur[j]? = some u := fun j u hu => by
      have hj : j < l.length * 3 := by have := (List.getElem?_eq_some_iff.1 hu).1; rw [flatT_len] at this; exact this
      rw [← hcur, List.getElem?_take_of_lt hj] at hu
      simpa using hu
    refine ⟨?_, ?_, ?_⟩
    · simp [World.cell?, hb, hat _ _ e1]
    · simp [World.cell?, hb, hat _ _ e2]
    · simp [World.cell?, hb, hat _ _ e3]
theorem CellG.below {w w' : World} {g k : Nat} {t : Tok} (h : CellG w g k t) (hb : Below w.heap.size w w') (hg : g < w.heap.size) : CellG w' g k t :=
  ⟨(hb.cell (p := ⟨g, _, none⟩) hg).trans h.1, (hb.cell (p := ⟨g, _, none⟩) hg).trans h.2.1, (hb.cell (p := ⟨g, _, none⟩) hg).trans h.2.2⟩
theorem exampleA : lexG [34, 97, 34, 34, 98, 34, 60, 61, 32, 36, 65, 49] 0 = .inl [⟨2, [97, 34, 98], 0⟩, ⟨5, [60, 61], 6⟩, ⟨4, [36, 65, 49], 9⟩, ⟨0, [], 12⟩] := by decide +kernel
theorem exampleB : lexG [49, 46, 120] 0 = .inr 1 := by decide +kernel
set_option maxRecDepth 100000 in
set_option maxHeartbeats 1000000 in
theorem awake_any (w : World) (he : Env w) : Calls Tryd.prog 10 #[] w fun e w' => e = .returned (.bool true) ∧ Below w.heap.size w w' := by
  have HA := Lib.hid (lex_any ⟨#[34, 97, 34, 34, 98, 34, 60, 61, 32, 36, 65, 49]⟩ (by decide) w he)
  have HB := Lib.hid (fun W hW => lex_any ⟨#[49, 46, 120]⟩ (by decide) W hW)
  have HE := Lib.hid he
  clear he
  go_enter Tryd.func10, Tryd.ntmps10
  go_wp2_with fail
  refine HA.out.mono ?_
  rintro e w1 ⟨h1, hb1⟩
  rw [exampleA] at h1
  obtain ⟨v, rfl, hr⟩ := h1
  obtain ⟨A, c, rfl, hc, hI⟩ := rowT_cells hr
  obtain ⟨g, rfl, _, hg, hc0⟩ := hI 0 _ rfl
  obtain ⟨g', e2, _, _, hc2⟩ := hI 2 _ rfl
  obtain ⟨g'', e3, _, _, hc3⟩ := hI 3 _ rfl
  injection e2 with e2
  injection e2 with e2
  subst e2
  injection e3 with e3
  injection e3 with e3
  subst e3
  have HC := Lib.hid (And.intro hc0 (And.intro hc2 hc3))
  have HB1 := Lib.hid hb1
  have HG := Lib.hid hg
  have hcl : (4 : Int) ≤ (c : Int) := by simp at hc; omega
  clear hr hI hc0 hc2 hc3 hb1 hg hc HA
  go_wp2_with fail
  refine (HB.out w1 (HE.out.below HB1.out)).mono ?_
  rintro e w2 ⟨h2, hb2⟩
  rw [exampleB] at h2
  subst h2
  obtain ⟨x0, x1, x2⟩ := HC.out.1.below hb2 HG.out
  obtain ⟨y0, y1, y2⟩ := HC.out.2.1.below hb2 HG.out
  obtain ⟨z0, z1, z2⟩ := HC.out.2.2.below hb2 HG.out
  have HB2 := Lib.hid (HB1.out.trans (hb2.mono HB1.out.size))
  simp only [Nat.zero_mul, Nat.zero_add, Nat.reduceMul, Nat.reduceAdd] at x0 x1 x2 y0 y1 y2 z0 z1 z2
  clear hb2 HB HC
  go_wp2
  go_ret
  exact ⟨rfl, HB2.out⟩
end Go.Proofs.YtcnmghkmognhoaaDoor
