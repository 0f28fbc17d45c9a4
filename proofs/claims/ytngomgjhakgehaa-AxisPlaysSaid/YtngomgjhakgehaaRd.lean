/- The document's Set. -/
import Derived.Test.YtngomgjhakgehaaRc
namespace Go.Proofs.Ytngomgjhakgehaa
open Go.RowKit Go.Maps

theorem boolsE_set {l : List Ent} {k : Nat} {e : Ent} (c : Bool) (_ : l[k]? = some e) : boolsE (l.set k (e.1, c)) = (boolsE l).set k (.bool c) := by
  unfold boolsE
  rw [List.map_set]
theorem map_set1 {l : List Ent} {k : Nat} {e : Ent} (c : Bool) (h : l[k]? = some e) : (l.set k (e.1, c)).map (·.1) = l.map (·.1) := set_map (p := e.1) (b := e.2) h
theorem own_set4 {w : World} {b g cap n i : Nat} {ys : List Value} (x : Value) (h : w.ownsRow b 4 1 (.slice (some ⟨g, 0, none⟩) n cap) n ys) (_ : i < n) : (w.setCell ⟨g, i, none⟩ x).ownsRow b 4 1 (.slice (some ⟨g, 0, none⟩) n cap) n (ys.set i x) := by
  refine ⟨by rw [List.length_set]; exact h.1, .inr ?_⟩
  rcases h.2 with ⟨h0, _⟩ | ⟨g', cap', cur, hv, hb0, hb, hnc, hm, hsz, hcur⟩
  · cases h0
  · simp only [Value.slice.injEq, Option.some.injEq, Addr.mk.injEq, and_true] at hv
    obtain ⟨rfl, _, rfl⟩ := hv
    refine ⟨g, cap, cur.setIfInBounds i x, by simp, hb0, ?_, hnc, hm, by simpa using hsz, ?_⟩
    · simp [World.setCell, Array.getElem?_modify, hb]
    · rw [← hcur, Array.toList_setIfInBounds, List.take_set]
theorem own_addr4 {w : World} {b n : Nat} {v : Value} {ys : List Value} (h : w.ownsRow b 4 1 v n ys) (hn : 0 < n) : ∃ g cap, v = .slice (some ⟨g, 0, none⟩) n cap ∧ n ≤ cap ∧ ∀ j, j < n → (∃ x, w.cell? ⟨g, j, none⟩ = some x) ∧ w.frozen? ⟨g, j, none⟩ = false := by
  rcases h.2 with ⟨rfl, h0⟩ | ⟨g, cap, cur, rfl, _, hb, hnc, _, hsz, hcur⟩
  · omega
  · refine ⟨g, cap, rfl, hnc, fun j hj => ⟨⟨cur[j]'(by omega), ?_⟩, by simp [World.frozen?, hb]⟩⟩
    simp [World.cell?, hb]
theorem bools_cells {w : World} {be : Addr} {l : List Ent} (h : ∀ (k : Nat) e, l[k]? = some e → ∃ b, some be = some b ∧ w.cell? (b.add k) = some (.bool e.2)) : ∀ j u, (boolsE l)[j]? = some u → w.cell? (be.add j) = some u := by
  intro j u hj
  unfold boolsE at hj
  rw [List.getElem?_map] at hj
  cases hl : l[j]? with
  | none => rw [hl] at hj; cases hj
  | some e =>
    rw [hl] at hj
    injection hj with hj
    subst hj
    obtain ⟨b, hb, hc⟩ := h j e hl
    injection hb with hb
    subst hb
    exact hc
theorem raw_mark {w : World} {s : Nat} {S : Nat → Prop} {u : Value} {g c n i m : Nat} {xs ys : List Value} (x : Value) (h : RawAt w s S u (.slice (some ⟨g, 0, none⟩) n c) m xs n ys) (hi : i < n) :
    RawAt (w.setCell ⟨g, i, none⟩ x) s S u (.slice (some ⟨g, 0, none⟩) n c) m xs n (ys.set i x) ∧ Only S w (w.setCell ⟨g, i, none⟩ x) := by
  have hsg : s ≠ g := fun he => row_ne h.live h.box (by decide) (by rw [he]; rfl)
  refine ⟨⟨h.mem, (Below.heap_setCell w _ _ s hsg).trans h.box, row_block h.ids (fun b hb => Below.heap_setCell w _ _ b (fun he => row_row h.ids h.live (by decide) hb (by rw [he]; rfl))), own_set4 x h.live hi, h.hu, h.hv⟩, ?_⟩
  exact ⟨rfl, rfl, rfl, by simp [World.setCell], fun k _ hk => Below.heap_setCell w _ _ k (fun he => hk (by rw [he]; exact h.hv g rfl))⟩
/-- what lies behind the document's Set -/
def RSetOut (s : Nat) (S : Nat → Prop) (l : List Ent) (p : IdP) (live : Bool) (w : World) (e : Ending) (w' : World) : Prop :=
  e = .returned (.int .i64 (turnR l p live)) ∧ RefAt w' s (fun k => S k ∨ w.heap.size ≤ k) (turnL l p live) ∧ Only S w w'

set_option maxRecDepth 100000 in
set_option maxHeartbeats 3200000 in
theorem rset_any (s : Nat) (S : Nat → Prop) (l : List Ent) (a n : Int) (live : Bool) (w : World) (h : RefAt w s S l) (hlen : l.length ≤ 100000) :
    Calls Try.prog 31 #[.pointer (some ⟨s, 0, none⟩), .agg #[.int .i64 a, .int .i64 n], .bool live] w (RSetOut s S l (a, n) live w) := by
  obtain ⟨i4, hk, hk0, hk1, hk2⟩ := info_parts info4
  have hb0 : Below w.heap.size w (w.alloc (.cells #[.int .i64 a, .int .i64 n] 25)) := (Below.refl _ _).alloc (Nat.le_refl _) _
  have H0 := Lib.hid (h.later hb0)
  have HB0 := Lib.hid hb0
  obtain ⟨R, hR⟩ : ∃ R, RSetOut s S l (a, n) live w = R := ⟨_, rfl⟩
  rw [hR]
  have HR := Lib.hid hR
  clear h hb0 hR
  cases hx : idxE l (a, n) with
  | none =>
    have HF := Lib.hid (show findE l (a, n) = -1 by unfold findE; rw [hx])
    have HX := Lib.hid hx
    clear hx
    go_enter Try.func31, Try.ntmps31
    go_wp2_with fail
    refine (rfind_any s l a n _ H0.out.r hlen).mono ?_
    rw [HF.out]
    rintro e w2 ⟨rfl, hb2⟩
    have A2 := Lib.hid (H0.out.later hb2)
    have HB2 := Lib.hid (HB0.out.trans (hb2.mono HB0.out.size))
    clear hb2
    go_wp2
    rw [← HR.out]
    exact ⟨show Ending.returned (.int .i64 3) = _ by unfold turnR; rw [HX.out], by unfold turnL; rw [HX.out]; exact A2.out.wider (fun b h1 _ => .inl h1), (Only.of_below HB2.out).mono (fun b h1 h2 => by omega)⟩
  | some i =>
    obtain ⟨b, hb⟩ := idxE_some hx
    have HF := Lib.hid (show findE l (a, n) = i by unfold findE; rw [hx])
    have HX := Lib.hid hx
    have HL := Lib.hid hb
    have hil := (List.getElem?_eq_some_iff.1 hb).1
    clear hx hb
    go_enter Try.func31, Try.ntmps31
    go_wp2_with fail
    refine (rfind_any s l a n _ H0.out.r hlen).mono ?_
    rw [HF.out]
    rintro e w2 ⟨rfl, hb2⟩
    have A2 := Lib.hid (H0.out.later hb2)
    have HB2 := Lib.hid (HB0.out.trans (hb2.mono HB0.out.size))
    clear hb2
    obtain ⟨u, v, hraw⟩ := A2.out
    obtain ⟨B, d, rfl, hnd, hbs⟩ := bools_of_own hraw.live
    obtain ⟨be, rfl, hbc⟩ := hbs i _ HL.out
    have HRAW := Lib.hid hraw
    have HBC := Lib.hid (bools_cells hbs)
    have hcell : w2.cell? ⟨s, 1, none⟩ = some (.slice (some be) l.length d) := by simp [World.cell?, hraw.box]
    have hi0 : (0 : Int) ≤ ↑i := by omega
    have hi1 : (↑i : Int) < ↑l.length := by omega
    have hi2 : (↑l.length : Int) ≤ ↑d := by omega
    have hi3 : ¬ (↑i : Int) < 0 := by omega
    clear hraw hbs
    by_cases hbl : b = live
    · subst hbl
      go_wp2_with fail
      rw [← HR.out]
      refine ⟨show Ending.returned (.int .i64 11) = _ by unfold turnR; rw [HX.out]; simp [HL.out], ?_, (Only.of_below HB2.out).mono (fun b h1 h2 => by omega)⟩
      unfold turnL
      rw [HX.out]
      have : l.set i ((a, n), b) = l := by
        obtain ⟨h5, h6⟩ := List.getElem?_eq_some_iff.1 HL.out
        rw [← h6, List.set_getElem_self]
      show RefAt w2 s _ (l.set i ((a, n), b))
      rw [this]
      exact A2.out.wider (fun b h1 _ => .inl h1)
    · have hbb : (b == live) = false := by simpa using hbl
      have q3 : (w2.alloc (.cells #[] 4)).cell? ⟨s, 1, none⟩ = some (.slice (some be) l.length d) := (((Below.refl w2.heap.size w2).alloc (Nat.le_refl _) (.cells #[] 4)).cell (p := ⟨s, 1, none⟩) (Array.getElem?_eq_some_iff.1 HRAW.out.box).1).trans hcell
      have hz2 := HB2.out.size
      go_wp2_with (at_builtin; refine wpList_append_own_at _ rfl _ _ 58 rfl w2.heap.size 4 i4 (.bool false) 1 1 Try.underlying58 hk hk0 hk1 hk2 rfl (by decide) _ _ _ rfl (own_empty w2 w2.heap.size w2.heap.size 4 1 rfl (Nat.le_refl _)) be l.length d (boolsE l) rfl (by simp [boolsE]) (fun j u hj => (((Below.refl w2.heap.size w2).alloc (Nat.le_refl _) (.cells #[] 4)).cell (cell_lt (HBC.out j u hj))).trans (HBC.out j u hj)) (bools_one l) (by unfold maxLen; omega) (by omega) (by simp) ?_; intro v1 w7 hown7 hgrow7 hnil7 hat7; have hB7 : Below w2.heap.size w2 w7 := ((Below.refl w2.heap.size w2).alloc (Nat.le_refl _) (.cells #[] 4)).grown hgrow7 (by simp) (fun j hj => by injection hj with hj; simp only at hj; omega); rw [Nat.zero_add, List.nil_append] at hown7; obtain ⟨g7, c7, rfl, hnc7, hcf7⟩ := own_addr4 hown7 (by omega); have HO7 := Lib.hid hown7; have HB7 := Lib.hid hB7; have hbx7 : w7.heap[s]? = some (.cells #[u, .slice (some be) l.length d] 60 (0, 0)) := ((hB7.block s (Array.getElem?_eq_some_iff.1 HRAW.out.box).1).trans HRAW.out.box); have hc7 : w7.cell? ⟨s, 1, none⟩ = some (.slice (some be) l.length d) := (by simp [World.cell?, hbx7]); have hf7 : w7.frozen? ⟨s, 1, none⟩ = false := (by simp [World.frozen?, hbx7]); have HBX7 := Lib.hid hbx7; obtain ⟨⟨x8, hx8⟩, hf8⟩ := hcf7 i hil; have hsg : some g7 ≠ some s := (fun he => row_ne hown7 hbx7 (by decide) he); have hc8 : (w7.setCell ⟨s, 1, none⟩ (.slice (some ⟨g7, 0, none⟩) l.length c7)).cell? ⟨g7, i, none⟩ = some x8 := (World.cell?_of_block (Below.heap_setCell w7 _ _ _ (fun he => hsg (congrArg some he)))).trans hx8; clear hown7 hgrow7 hnil7 hat7 hbx7 hcf7 hB7)
      rw [← HR.out]
      have hlv := row_block (w' := w7) HRAW.out.ids (fun g hg => HB7.out.block g (row_lt HRAW.out.ids hg))
      have hput := RawAt.put_live (T := fun b => S b ∨ w.heap.size ≤ b) HBX7.out hlv (own_base4 HO7.out (Nat.zero_le _)) (.inl HRAW.out.mem) (fun g hg => .inl (HRAW.out.hu g hg)) (fun g hg => .inr (Nat.le_trans hz2 (own_from HO7.out hg)))
      have hfin := raw_mark (.bool live) hput hil
      refine ⟨show Ending.returned (.int .i64 0) = _ by unfold turnR; rw [HX.out]; simp [HL.out, hbl], ?_, ?_⟩
      · unfold turnL
        rw [HX.out]
        refine ⟨u, .slice (some ⟨g7, 0, none⟩) l.length c7, ?_⟩
        show RawAt _ s _ u (.slice (some ⟨g7, 0, none⟩) l.length c7) (l.set i ((a, n), live)).length (flat2 ((l.set i (((a, n), b).1, live)).map (·.1))) (l.set i ((a, n), live)).length (boolsE (l.set i (((a, n), b).1, live)))
        rw [map_set1 live HL.out, boolsE_set live HL.out, List.length_set]
        exact hfin.1
      · have o1 : Only S w w2 := (Only.of_below HB2.out).mono (fun b h1 h2 => by omega)
        have o2 : Only S w2 w7 := (Only.of_below HB7.out).mono (fun b h1 h2 => by omega)
        have o3 : Only S w7 (w7.setCell ⟨s, 1, none⟩ (.slice (some ⟨g7, 0, none⟩) l.length c7)) := (Only.of_grown (grownBy_cell1 w7 s _)).mono (fun b h1 _ => by injection h1 with h1; rw [← h1]; exact HRAW.out.mem)
        have hg7 := own_from HO7.out (g := g7) rfl
        exact ((o1.trans o2 (fun b h _ => h)).trans o3 (fun b h _ => h)).trans hfin.2 (fun b h hlt => by
          rcases h with h | h
          · exact h
          · omega)
end Go.Proofs.Ytngomgjhakgehaa
