/- The document's board: what lies where; held, New, On, Has, In, Of, Owner. -/
import Derived.Test.YtdeneogbnmedkaaCo
import Derived.Laws.AppendOwnNone
namespace Go.Proofs.Ytdeneogbnmedkaa
open Go.RowKit Go.Maps

def flat8 (l : List Dc) : List Value := l.flatMap fun d => [.int .i64 d.r.1, .int .i64 d.r.2.1, .int .i64 d.r.2.2.1, .int .i64 d.r.2.2.2, .bool d.st, .int .i64 d.bl.1, .int .i64 d.bl.2, .bool d.hb]
theorem flat8_len (l : List Dc) : (flat8 l).length = l.length * 8 := by
  induction l with
  | nil => rfl
  | cons p l ih => simp [flat8, List.flatMap_cons] at ih ⊢; omega
theorem flat8_app (l m : List Dc) : flat8 (l ++ m) = flat8 l ++ flat8 m := by simp [flat8]
theorem flat8_cons (d : Dc) (l : List Dc) : flat8 (d :: l) = .int .i64 d.r.1 :: .int .i64 d.r.2.1 :: .int .i64 d.r.2.2.1 :: .int .i64 d.r.2.2.2 :: .bool d.st :: .int .i64 d.bl.1 :: .int .i64 d.bl.2 :: .bool d.hb :: flat8 l := by simp [flat8]
theorem flat8_at {l : List Dc} {k : Nat} {d : Dc} (h : l[k]? = some d) : (flat8 l)[k * 8]? = some (.int .i64 d.r.1) ∧ (flat8 l)[k * 8 + 1]? = some (.int .i64 d.r.2.1) ∧ (flat8 l)[k * 8 + 2]? = some (.int .i64 d.r.2.2.1) ∧ (flat8 l)[k * 8 + 3]? = some (.int .i64 d.r.2.2.2) ∧
    (flat8 l)[k * 8 + 4]? = some (.bool d.st) ∧ (flat8 l)[k * 8 + 5]? = some (.int .i64 d.bl.1) ∧ (flat8 l)[k * 8 + 6]? = some (.int .i64 d.bl.2) ∧ (flat8 l)[k * 8 + 7]? = some (.bool d.hb) := by
  induction l generalizing k with
  | nil => simp at h
  | cons q l ih =>
    rw [flat8_cons]
    cases k with
    | zero => simp at h; subst h; simp
    | succ k =>
      have := ih (k := k) (by simpa using h)
      rw [show (k + 1) * 8 = k * 8 + 1 + 1 + 1 + 1 + 1 + 1 + 1 + 1 by omega]
      simpa using this
/-- the cells of one rect -/
def Cell8 (w : World) (ad : Addr) (k : Nat) (d : Dc) : Prop :=
  w.cell? (ad.add (k * 8)) = some (.int .i64 d.r.1) ∧ w.cell? ⟨(ad.add (k * 8)).block, (ad.add (k * 8)).off + 1, none⟩ = some (.int .i64 d.r.2.1) ∧ w.cell? ⟨(ad.add (k * 8)).block, (ad.add (k * 8)).off + 2, none⟩ = some (.int .i64 d.r.2.2.1) ∧ w.cell? ⟨(ad.add (k * 8)).block, (ad.add (k * 8)).off + 3, none⟩ = some (.int .i64 d.r.2.2.2) ∧
    w.cell? ⟨(ad.add (k * 8)).block, (ad.add (k * 8)).off + 4, none⟩ = some (.bool d.st) ∧ w.cell? ⟨(ad.add (k * 8)).block, (ad.add (k * 8)).off + 5, none⟩ = some (.int .i64 d.bl.1) ∧ w.cell? ⟨(ad.add (k * 8)).block, (ad.add (k * 8)).off + 6, none⟩ = some (.int .i64 d.bl.2) ∧ w.cell? ⟨(ad.add (k * 8)).block, (ad.add (k * 8)).off + 7, none⟩ = some (.bool d.hb)
theorem row8_cells {w : World} {base : Nat} {v : Value} {l : List Dc} (h : w.ownsRow base 42 8 v l.length (flat8 l)) : ∃ A c, v = .slice A l.length c ∧ l.length ≤ c ∧ ∀ (k : Nat) d, l[k]? = some d → ∃ ad, A = some ad ∧ Cell8 w ad k d := by
  rcases h.2 with ⟨rfl, h0⟩ | ⟨g, cap, cur, rfl, _, hb, hnc, _, hsz, hcur⟩
  · obtain rfl : l = [] := List.eq_nil_of_length_eq_zero h0
    exact ⟨none, 0, rfl, Nat.le_refl _, fun k p h => by simp at h⟩
  · refine ⟨_, _, rfl, hnc, fun k d hk => ⟨_, rfl, ?_⟩⟩
    obtain ⟨e1, e2, e3, e4, e5, e6, e7, e8⟩ := flat8_at hk
    have hat : ∀ j u, (flat8 l)[j]? = some u → cur[j]? = some u := fun j u hu => by
      have hj : j < l.length * 8 := by have := (List.getElem?_eq_some_iff.1 hu).1; rw [flat8_len] at this; exact this
      rw [← hcur, List.getElem?_take_of_lt hj] at hu
      simpa using hu
    unfold Cell8
    rw [add_off]
    refine ⟨?_, ?_, ?_, ?_, ?_, ?_, ?_, ?_⟩
    · simp [World.cell?, hb, hat _ _ e1]
    · simp [World.cell?, hb, hat _ _ e2]
    · simp [World.cell?, hb, hat _ _ e3]
    · simp [World.cell?, hb, hat _ _ e4]
    · simp [World.cell?, hb, hat _ _ e5]
    · simp [World.cell?, hb, hat _ _ e6]
    · simp [World.cell?, hb, hat _ _ e7]
    · simp [World.cell?, hb, hat _ _ e8]
theorem rowG_later {w w' : World} {v : Value} {n base e size : Nat} {xs : List Value} (h : w.ownsRow base e size v n xs) (hb : Below w.heap.size w w') : w'.ownsRow base e size v n xs := rowG_kept h (fun _ hg => hb.block _ (rowG_lt h hg).1)
/-- the document's board: two numbers, the cells with content, the rects -/
structure RefAt (W : World) (vf vl : Value) (B : Brd) (n : Nat) : Prop where
  full : ∃ F : List Pl, W.ownsRow 0 58 2 vf F.length (flat2 F) ∧ F.length ≤ n ∧ ∀ p, B.con p = decide (p ∈ F)
  row : W.ownsRow 0 42 8 vl B.l.length (flat8 B.l)
  len : B.l.length ≤ n
theorem RefAt.later {W W' : World} {vf vl : Value} {B : Brd} {n : Nat} (h : RefAt W vf vl B n) (hb : Below W.heap.size W W') : RefAt W' vf vl B n := by
  obtain ⟨F, h1, h2⟩ := h.full
  exact ⟨⟨F, rowG_later h1 hb, h2⟩, rowG_later h.row hb, h.len⟩
def idxI {α : Type} (l : List α) (f : α → Bool) : Int := match l.findIdx? f with | some i => i | none => -1
theorem idxI_at {α : Type} {l : List α} {f : α → Bool} {k : Nat} {x : α} (hx : l[k]? = some x) (hf : f x = true) (hn : ∀ y ∈ l.take k, f y = false) : idxI l f = k := by
  obtain ⟨hk, hke⟩ := List.getElem?_eq_some_iff.1 hx
  unfold idxI
  rw [List.findIdx?_eq_some_iff_getElem.2 ⟨hk, by rw [hke]; exact hf, fun j hj => by
    have := hn l[j] (List.mem_take_iff_getElem.2 ⟨j, by omega, rfl⟩)
    simpa using this⟩]
theorem idxI_none {α : Type} {l : List α} {f : α → Bool} (hn : ∀ y ∈ l, f y = false) : idxI l f = -1 := by
  unfold idxI
  rw [List.findIdx?_eq_none_iff.2 hn]
theorem idx_find {α : Type} (l : List α) (f : α → Bool) : (l.find? f = none ∧ idxI l f = -1) ∨ ∃ (i : Nat) (x : α), l.find? f = some x ∧ l[i]? = some x ∧ idxI l f = i := by
  unfold idxI
  cases h : l.findIdx? f with
  | none =>
    rw [List.findIdx?_eq_none_iff] at h
    exact .inl ⟨List.find?_eq_none.2 (fun x hx => by rw [h x hx]; simp), rfl⟩
  | some i =>
    obtain ⟨hi, hf, hn⟩ := List.findIdx?_eq_some_iff_getElem.1 h
    exact .inr ⟨i, l[i], find_at (List.getElem?_eq_getElem hi) hf (fun q hq => by
      obtain ⟨j, hj, rfl⟩ := List.mem_take_iff_getElem.1 hq
      have := hn j (by omega)
      simpa using this), List.getElem?_eq_getElem hi, rfl⟩
def ofI (B : Brd) (p : Pl) : Int := idxI B.l fun d => anc d.r == p
def ownI (B : Brd) (p : Pl) : Int := idxI B.l fun d => d.st && inR d.r p

theorem held_any (x : Int) (w : World) : Calls Try.prog 22 #[.int .i64 x] w fun e w' => e = .returned (.int .i64 (clampF x)) ∧ w' = w := by
  by_cases h1 : x < 0
  · have hc : clampF x = 0 := by unfold clampF; omega
    rw [hc]
    go_enter Try.func22, Try.ntmps22
    go_wp2
    go_ret
    exact ⟨rfl, rfl⟩
  · by_cases h2 : 1000 < x
    · have hc : clampF x = 1000 := by unfold clampF; omega
      rw [hc]
      go_enter Try.func22, Try.ntmps22
      go_wp2
      go_ret
      exact ⟨rfl, rfl⟩
    · have hc : clampF x = x := by unfold clampF; omega
      rw [hc]
      go_enter Try.func22, Try.ntmps22
      go_wp2
      go_ret
      exact ⟨rfl, rfl⟩
theorem on_any (B : Brd) (vf vl : Value) (row col : Int) (w : World) :
    Calls Try.prog 23 #[.agg #[.int .i64 B.rows, .int .i64 B.cols, vf, vl], .int .i64 row, .int .i64 col] w fun e w' => e = .returned (.bool (hasP B (row, col))) ∧ Below w.heap.size w w' := by
  have hb0 : Below w.heap.size w (w.alloc (.cells #[.int .i64 B.rows, .int .i64 B.cols, vf, vl] 29)) := (Below.refl _ _).alloc (Nat.le_refl _) _
  obtain ⟨c0, c1, _⟩ := box4 (World.alloc_heap_new w (.cells #[.int .i64 B.rows, .int .i64 B.cols, vf, vl] 29))
  have HB := Lib.hid hb0
  have hdef : hasP B (row, col) = decide (0 ≤ row ∧ 0 ≤ col ∧ row < B.rows ∧ col < B.cols) := rfl
  obtain ⟨R, hR⟩ : ∃ R, hasP B (row, col) = R := ⟨_, rfl⟩
  obtain ⟨r, hr⟩ : ∃ r, B.rows = r := ⟨_, rfl⟩
  obtain ⟨k, hk⟩ : ∃ k, B.cols = k := ⟨_, rfl⟩
  rw [hR, hr, hk] at hdef
  rw [hR]
  rw [hr, hk] at c0 c1 HB ⊢
  clear hR hr hk hb0
  by_cases h1 : 0 ≤ row
  · by_cases h2 : 0 ≤ col
    · by_cases h3 : row < r
      · by_cases h4 : col < k
        · obtain rfl : R = true := by rw [hdef]; exact decide_eq_true ⟨h1, h2, h3, h4⟩
          clear hdef
          go_enter Try.func23, Try.ntmps23
          go_wp2
          go_ret
          exact ⟨rfl, HB.out⟩
        · obtain rfl : R = false := by rw [hdef]; exact decide_eq_false fun h => h4 h.2.2.2
          clear hdef
          go_enter Try.func23, Try.ntmps23
          go_wp2
          go_ret
          exact ⟨rfl, HB.out⟩
      · obtain rfl : R = false := by rw [hdef]; exact decide_eq_false fun h => h3 h.2.2.1
        clear hdef
        go_enter Try.func23, Try.ntmps23
        go_wp2
        go_ret
        exact ⟨rfl, HB.out⟩
    · by_cases h3 : row < r
      · obtain rfl : R = false := by rw [hdef]; exact decide_eq_false fun h => h2 h.2.1
        clear hdef
        go_enter Try.func23, Try.ntmps23
        go_wp2
        go_ret
        exact ⟨rfl, HB.out⟩
      · obtain rfl : R = false := by rw [hdef]; exact decide_eq_false fun h => h3 h.2.2.1
        clear hdef
        go_enter Try.func23, Try.ntmps23
        go_wp2
        go_ret
        exact ⟨rfl, HB.out⟩
  · obtain rfl : R = false := by rw [hdef]; exact decide_eq_false fun h => h1 h.1
    clear hdef
    go_enter Try.func23, Try.ntmps23
    go_wp2
    go_ret
    exact ⟨rfl, HB.out⟩
set_option maxHeartbeats 2000000 in
theorem rhas_any (B : Brd) (vf vl : Value) (n : Nat) (x y : Int) (w : World) (h : RefAt w vf vl B n) (hn : n ≤ 100000) :
    Calls Try.prog 25 #[.agg #[.int .i64 B.rows, .int .i64 B.cols, vf, vl], .int .i64 x, .int .i64 y] w fun e w' => e = .returned (.bool (B.con (x, y))) ∧ Below w.heap.size w w' := by
  obtain ⟨F, hrow, hFl, hF⟩ := h.full
  have hb0 : Below w.heap.size w (w.alloc (.cells #[.int .i64 B.rows, .int .i64 B.cols, vf, vl] 29)) := (Below.refl _ _).alloc (Nat.le_refl _) _
  obtain ⟨A, c, rfl, hc, hI⟩ := plG (rowG_later hrow hb0)
  have hz0 := World.alloc_heap_new w (.cells #[.int .i64 B.rows, .int .i64 B.cols, .slice A F.length c, vl] 29)
  obtain ⟨R, hR⟩ : ∃ R, B.con (x, y) = R := ⟨_, rfl⟩
  rw [hR]
  rw [hF] at hR
  obtain ⟨W0, hW0⟩ : ∃ W0, w.alloc (.cells #[.int .i64 B.rows, .int .i64 B.cols, .slice A F.length c, vl] 29) = W0 := ⟨_, rfl⟩
  rw [hW0] at hb0 hI hz0
  have HB0 := Lib.hid hb0
  have HI := Lib.hid hI
  have HR := Lib.hid hR
  have HW0 := Lib.hid hW0
  obtain ⟨_, _, c2, _⟩ := box4 hz0
  clear hrow hF h hb0 hI hz0 hR hW0
  go_enter Try.func25, Try.ntmps25
  go_wp2_with fail
  rw [HW0.out]
  go_loopw [7] (fun i wr => ∃ k : Nat, k ≤ F.length ∧ i = .int .i64 k ∧ wr = W0 ∧ ∀ q ∈ F.take k, q ≠ (x, y)) (fun i _ => F.length - (intOf i).toNat)
  case atStart => exact ⟨0, Nat.zero_le _, rfl, rfl, by simp⟩
  case round =>
    obtain ⟨k, hk, rfl, rfl, hn⟩ := hrel
    have HN := Lib.hid hn
    clear hn
    by_cases hlt : k < F.length
    · have hx : F[k]? = some F[k] := List.getElem?_eq_getElem hlt
      have hd : F.take (k + 1) = F.take k ++ [F[k]] := (List.take_append_getElem hlt).symm
      obtain ⟨d, hdd⟩ : ∃ d, F[k] = d := ⟨_, rfl⟩
      rw [hdd] at hx hd
      have HD := Lib.hid hd
      have hmem := List.mem_of_getElem? hx
      obtain ⟨ad, rfl, k0, k1⟩ := HI.out k d hx
      obtain ⟨d1, d2⟩ := d
      have hi0 : (0 : Int) ≤ ↑k := by omega
      have hi1 : (↑k : Int) < ↑F.length := by omega
      have hi2 : (↑F.length : Int) ≤ ↑c := by omega
      simp only at k0 k1
      clear hx hd hdd
      by_cases e1 : d1 = x
      · have b1 : (d1 == x) = true := by simpa using e1
        by_cases e2 : d2 = y
        · have b2 : (d2 == y) = true := by simpa using e2
          have hR : R = true := by rw [← HR.out]; simp [← e1, ← e2, hmem]
          subst hR
          clear e1 e2 hmem
          go_wp2
          go_ret
          exact ⟨rfl, HB0.out⟩
        · have b2 : (d2 == y) = false := by simpa using e2
          have HNE := Lib.hid (show (d1, d2) ≠ (x, y) from fun h => e2 (congrArg (·.2) h))
          clear e1 e2 hmem
          go_wp2_with fail
          go_roundw
          case rel => exact ⟨k + 1, by omega, by simp, (by first | rfl | trivial), fun q hq => by
            rw [HD.out] at hq
            rcases List.mem_append.1 hq with hq | hq
            · exact HN.out q hq
            · simp only [List.mem_singleton] at hq; rw [hq]; exact HNE.out⟩
          case measure => simp [intOf]; omega
      · have b1 : (d1 == x) = false := by simpa using e1
        have HNE := Lib.hid (show (d1, d2) ≠ (x, y) from fun h => e1 (congrArg (·.1) h))
        clear e1 hmem
        go_wp2_with fail
        go_roundw
        case rel => exact ⟨k + 1, by omega, by simp, (by first | rfl | trivial), fun q hq => by
          rw [HD.out] at hq
          rcases List.mem_append.1 hq with hq | hq
          · exact HN.out q hq
          · simp only [List.mem_singleton] at hq; rw [hq]; exact HNE.out⟩
        case measure => simp [intOf]; omega
    · obtain rfl : k = F.length := by omega
      have hlt2 : ¬ (↑F.length : Int) < ↑F.length := by omega
      have hn := HN.out
      rw [List.take_length] at hn
      have hR : R = false := by
        rw [← HR.out]
        exact decide_eq_false fun h => hn _ h rfl
      subst hR
      clear hn
      go_wp2
      go_ret
      exact ⟨rfl, HB0.out⟩
end Go.Proofs.Ytdeneogbnmedkaa
