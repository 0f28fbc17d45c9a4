/- An axis with its own blocks; to delete and to revive. -/
import Derived.Test.YtngomgjhakgehaaE
import Derived.OneCell
namespace Go.Proofs.Ytngomgjhakgehaa
open Go.RowKit Go.Maps

/-- the cells of a list -/
def flat3 (l : List Ent) : List Value := l.flatMap fun e => [.int .i64 e.1.1, .int .i64 e.1.2, .bool e.2]
theorem flat3_len (l : List Ent) : (flat3 l).length = l.length * 3 := by
  induction l with
  | nil => rfl
  | cons p l ih => simp [flat3, List.flatMap_cons] at ih ⊢; omega
theorem flat3_app (l m : List Ent) : flat3 (l ++ m) = flat3 l ++ flat3 m := by simp [flat3]
theorem flat3_cons (e : Ent) (l : List Ent) : flat3 (e :: l) = .int .i64 e.1.1 :: .int .i64 e.1.2 :: .bool e.2 :: flat3 l := by simp [flat3]
theorem flat3_at {l : List Ent} {k : Nat} {e : Ent} (h : l[k]? = some e) : (flat3 l)[k * 3]? = some (.int .i64 e.1.1) ∧ (flat3 l)[k * 3 + 1]? = some (.int .i64 e.1.2) ∧ (flat3 l)[k * 3 + 2]? = some (.bool e.2) := by
  induction l generalizing k with
  | nil => simp at h
  | cons q l ih =>
    rw [flat3_cons]
    cases k with
    | zero => simp at h; subst h; simp
    | succ k =>
      have := ih (k := k) (by simpa using h)
      rw [show (k + 1) * 3 = k * 3 + 1 + 1 + 1 by omega]
      simpa using this
theorem flat3_set {l : List Ent} {k : Nat} {e : Ent} (c : Bool) (h : l[k]? = some e) : flat3 (l.set k (e.1, c)) = (flat3 l).set (k * 3 + 2) (.bool c) := by
  induction l generalizing k with
  | nil => simp at h
  | cons q l ih =>
    cases k with
    | zero => simp at h; subst h; rw [List.set_cons_zero, flat3_cons, flat3_cons]; rfl
    | succ k =>
      have := ih (k := k) (by simpa using h)
      rw [List.set_cons_succ, flat3_cons, flat3_cons, this, show (k + 1) * 3 + 2 = k * 3 + 2 + 1 + 1 + 1 by omega]
      simp
theorem add_off (g j : Nat) : (⟨g, 0, none⟩ : Addr).add j = ⟨g, j, none⟩ := by unfold Addr.add; split <;> simp_all
theorem list_of_own {w : World} {base : Nat} {v : Value} {l : List Ent} (h : w.ownsRow base 68 3 v l.length (flat3 l)) : ListAt w v l := by
  rcases h.2 with ⟨rfl, h0⟩ | ⟨g, cap, cur, rfl, _, hb, hnc, _, hsz, hcur⟩
  · obtain rfl : l = [] := List.eq_nil_of_length_eq_zero h0
    exact ListAt.nil w
  · refine ⟨_, _, rfl, hnc, fun k p hk => ⟨_, rfl, ?_⟩⟩
    obtain ⟨e1, e2, e3⟩ := flat3_at hk
    have hat : ∀ j u, (flat3 l)[j]? = some u → cur[j]? = some u := fun j u hu => by
      have hj : j < l.length * 3 := by have := (List.getElem?_eq_some_iff.1 hu).1; rw [flat3_len] at this; exact this
      rw [← hcur, List.getElem?_take_of_lt hj] at hu
      simpa using hu
    rw [add_off]
    refine ⟨?_, ?_, ?_⟩
    · simp [World.cell?, hb, hat _ _ e1]
    · simp [World.cell?, hb, hat _ _ e2]
    · simp [World.cell?, hb, hat _ _ e3]

/-- an axis at s, whose blocks are among S -/
def AxAt (w : World) (s : Nat) (S : Nat → Prop) (l : List Ent) : Prop :=
  S s ∧ ∃ v, Boxed w s 54 v ∧ w.ownsRow 0 68 3 v l.length (flat3 l) ∧ ∀ g, v.ownBlock = some g → S g
theorem AxAt.p {w : World} {s : Nat} {S : Nat → Prop} {l : List Ent} (h : AxAt w s S l) : AxP w (some ⟨s, 0, none⟩) l := by
  obtain ⟨_, v, hb, hr, _⟩ := h
  exact .inr ⟨s, v, rfl, hb, list_of_own hr⟩
theorem own_block_lt {w : World} {v : Value} {n : Nat} {xs : List Value} (h : w.ownsRow 0 68 3 v n xs) {g : Nat} (hg : v.ownBlock = some g) : g < w.heap.size := by
  rcases h.2 with ⟨rfl, _⟩ | ⟨g', cap, cur, rfl, _, hb, _⟩
  · cases hg
  · injection hg with hg; subst hg; exact (Array.getElem?_eq_some_iff.1 hb).1
theorem AxAt.kept {w w' : World} {s : Nat} {S T : Nat → Prop} {l : List Ent} (h : AxAt w s S l) (ho : Only T w w') (hd : ∀ b, S b → b < w.heap.size → ¬ T b) : AxAt w' s S l := by
  obtain ⟨h1, v, hb, hr, hs⟩ := h
  refine ⟨h1, v, box_kept hb (ho.block s (box_lt hb) (hd s h1 (box_lt hb))), ⟨hr.1, ?_⟩, hs⟩
  rcases hr.2 with h5 | ⟨g, cap, cur, hv, h0, hg, h6⟩
  · exact .inl h5
  · have hgl := (Array.getElem?_eq_some_iff.1 hg).1
    exact .inr ⟨g, cap, cur, hv, h0, (ho.block g hgl (hd g (hs g (by rw [hv]; rfl)) hgl)).trans hg, h6⟩
theorem AxAt.later {w w' : World} {s : Nat} {S : Nat → Prop} {l : List Ent} (h : AxAt w s S l) (hb : Below w.heap.size w w') : AxAt w' s S l := h.kept (Only.of_below hb) (fun b _ h1 h2 => by omega)
theorem AxAt.wider {w : World} {s : Nat} {S T : Nat → Prop} {l : List Ent} (h : AxAt w s S l) (hS : ∀ b, S b → b < w.heap.size → T b) : AxAt w s T l := by
  obtain ⟨h1, v, hb, hr, hs⟩ := h
  exact ⟨hS s h1 (box_lt hb), v, hb, hr, fun g hg => hS g (hs g hg) (own_block_lt hr hg)⟩

theorem own_set {w : World} {g cap i : Nat} {l : List Ent} {e : Ent} (c : Bool) (h : w.ownsRow 0 68 3 (.slice (some ⟨g, 0, none⟩) l.length cap) l.length (flat3 l)) (hi : l[i]? = some e) :
    (w.setCell ⟨g, i * 3 + 2, none⟩ (.bool c)).ownsRow 0 68 3 (.slice (some ⟨g, 0, none⟩) (l.set i (e.1, c)).length cap) (l.set i (e.1, c)).length (flat3 (l.set i (e.1, c))) := by
  refine ⟨flat3_len _, .inr ?_⟩
  rcases h.2 with ⟨h0, _⟩ | ⟨g', cap', cur, hv, _, hb, hnc, hm, hsz, hcur⟩
  · cases h0
  · simp only [Value.slice.injEq, Option.some.injEq, Addr.mk.injEq, and_true] at hv
    obtain ⟨rfl, _, rfl⟩ := hv
    have hil := (List.getElem?_eq_some_iff.1 hi).1
    refine ⟨g, cap, cur.setIfInBounds (i * 3 + 2) (.bool c), by simp, Nat.zero_le _, ?_, by simpa using hnc, hm, by simpa using hsz, ?_⟩
    · simp [World.setCell, Array.getElem?_modify, hb]
    · rw [flat3_set c hi, ← hcur, List.length_set, Array.toList_setIfInBounds, List.take_set]

theorem own_addr {w : World} {ad : Addr} {n m c : Nat} {xs : List Value} (h : w.ownsRow 0 68 3 (.slice (some ad) m c) n xs) : (∃ g, ad = ⟨g, 0, none⟩) ∧ ∀ j, w.frozen? ⟨(ad.add j).block, (ad.add j).off + 2, none⟩ = false := by
  rcases h.2 with ⟨h0, _⟩ | ⟨g, cap, cur, hv, _, hb, _⟩
  · cases h0
  · simp only [Value.slice.injEq, Option.some.injEq] at hv
    obtain ⟨rfl, _, _⟩ := hv
    exact ⟨⟨g, rfl⟩, fun j => by rw [add_off]; simp [World.frozen?, hb]⟩

theorem grownBy_setCell3 (w : World) (g j : Nat) (v : Value) : w.grownBy (w.setCell ⟨g, j, none⟩ v) (some g) :=
  ⟨rfl, rfl, rfl, by simp [World.setCell], fun k _ hk => Below.heap_setCell w _ v k (fun e => hk (by rw [e]))⟩

def turnR (l : List Ent) (p : IdP) (live : Bool) : Int := match idxE l p with | none => 3 | some i => if (l[i]?.map (·.2)) = some live then 11 else 0
def turnL (l : List Ent) (p : IdP) (live : Bool) : List Ent := match idxE l p with | none => l | some i => l.set i (p, live)
/-- what lies behind a turn -/
def TurnOut (s : Nat) (S : Nat → Prop) (l : List Ent) (p : IdP) (live : Bool) (w : World) (e : Ending) (w' : World) : Prop :=
  e = .returned (.int .i64 (turnR l p live)) ∧ AxAt w' s S (turnL l p live) ∧ Only S w w'

set_option maxHeartbeats 1600000 in
theorem turn_any (s : Nat) (S : Nat → Prop) (l : List Ent) (a n : Int) (live : Bool) (w : World) (h : AxAt w s S l) (hlen : l.length ≤ 100000) :
    Calls Try.prog 35 #[.pointer (some ⟨s, 0, none⟩), .agg #[.int .i64 a, .int .i64 n], .bool live] w (TurnOut s S l (a, n) live w) := by
  have hb0 : Below w.heap.size w (w.alloc (.cells #[.int .i64 a, .int .i64 n] 25)) := (Below.refl _ _).alloc (Nat.le_refl _) _
  have H0 := Lib.hid (h.later hb0)
  have HB0 := Lib.hid hb0
  obtain ⟨k0, k1, _⟩ := IdBox.new w a n
  simp only at k0 k1
  obtain ⟨R, hR⟩ : ∃ R, TurnOut s S l (a, n) live w = R := ⟨_, rfl⟩
  rw [hR]
  have HR := Lib.hid hR
  clear h hb0 hR
  cases hx : idxE l (a, n) with
  | none =>
    have hf : findE l (a, n) = -1 := by unfold findE; rw [hx]
    have HF := Lib.hid hf
    have HX := Lib.hid hx
    clear hx hf
    go_enter Try.func35, Try.ntmps35
    go_wp2_with fail
    refine (find_any _ l a n _ H0.out.p hlen).mono ?_
    rw [HF.out]
    rintro e w2 ⟨rfl, hb2⟩
    have A2 := Lib.hid (H0.out.later hb2)
    have HB2 := Lib.hid (HB0.out.trans (hb2.mono HB0.out.size))
    clear hb2 k0 k1
    go_wp2
    rw [← HR.out]
    refine ⟨show Ending.returned (.int .i64 3) = _ by unfold turnR; rw [HX.out], by unfold turnL; rw [HX.out]; exact A2.out, (Only.of_below HB2.out).mono (fun b h1 h2 => by omega)⟩
  | some i =>
    have hf : findE l (a, n) = i := by unfold findE; rw [hx]
    obtain ⟨b, hb⟩ := idxE_some hx
    have HF := Lib.hid hf
    have HX := Lib.hid hx
    have HL := Lib.hid hb
    clear hx hf hb
    go_enter Try.func35, Try.ntmps35
    go_wp2_with fail
    refine (find_any _ l a n _ H0.out.p hlen).mono ?_
    rw [HF.out]
    rintro e w2 ⟨rfl, hb2⟩
    have A2 := Lib.hid (H0.out.later hb2)
    have HB2 := Lib.hid (HB0.out.trans (hb2.mono HB0.out.size))
    clear hb2 k0 k1
    have h2 := A2.out
    obtain ⟨hs, v, hbx, hr, hS⟩ := h2
    have hl := list_of_own hr
    obtain ⟨A, c, rfl, hc, hI⟩ := hl
    obtain ⟨ad, rfl, c2, c3, c4⟩ := hI i _ HL.out
    have hil := (List.getElem?_eq_some_iff.1 HL.out).1
    have hcell := hbx.cell
    have hi0 : (0 : Int) ≤ ↑i := by omega
    have hi1 : (↑i : Int) < ↑l.length := by omega
    have hi2 : (↑l.length : Int) ≤ ↑c := by omega
    have HRW := Lib.hid hr
    have HBX := Lib.hid hbx
    have HS := Lib.hid hS
    simp only at c4
    clear hbx hr hS hI c2 c3
    by_cases hbl : b = live
    · subst hbl
      go_wp2_with fail
      rw [← HR.out]
      refine ⟨show Ending.returned (.int .i64 11) = _ by unfold turnR; rw [HX.out]; simp [HL.out], ?_, (Only.of_below HB2.out).mono (fun b h1 h2 => by omega)⟩
      unfold turnL
      rw [HX.out]
      have : l.set i ((a, n), b) = l := by
        obtain ⟨h5, h6⟩ := List.getElem?_eq_some_iff.1 HL.out
        rw [← h6, List.set_getElem_self]
      show AxAt w2 s S (l.set i ((a, n), b))
      rw [this]
      exact A2.out
    · have hbb : (b == live) = false := by simpa using hbl
      have hfz := (own_addr HRW.out).2 (i * 3)
      go_wp2_with fail
      rw [← HR.out]
      obtain ⟨⟨g, rfl⟩, _⟩ := own_addr HRW.out
      rw [add_off]
      have hg : S g := HS.out g rfl
      have hne : s ≠ g := fun he => by
        have := HBX.out.not_row (show (54 : Nat) ≠ 68 by decide) HRW.out
        exact this (by rw [he]; rfl)
      have hgl : g < w2.heap.size := own_block_lt HRW.out rfl
      refine ⟨show Ending.returned (.int .i64 0) = _ by unfold turnR; rw [HX.out]; simp [HL.out, hbl], ?_, ?_⟩
      · unfold turnL
        rw [HX.out]
        show AxAt (w2.setCell ⟨g, i * 3 + 2, none⟩ (.bool live)) s S (l.set i ((a, n), live))
        have h9 := own_set live HRW.out HL.out
        simp only [List.length_set] at h9
        refine ⟨hs, _, box_kept HBX.out (Below.heap_setCell _ _ _ _ hne), by rw [List.length_set]; exact h9, fun g' hg' => ?_⟩
        injection hg' with hg'
        rw [← hg']
        exact hg
      · exact ((Only.of_below HB2.out).mono (T := S) (fun b h1 h2 => by omega)).trans ((Only.of_grown (grownBy_setCell3 w2 g (i * 3 + 2) (.bool live)))) (fun b hb hz => by injection hb with hb; rw [← hb]; exact hg)
end Go.Proofs.Ytngomgjhakgehaa
