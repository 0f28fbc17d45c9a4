/- The document's Add. -/
import Derived.Test.YtggcnglnclpaeaaK
import Derived.Deep.QuietTactic
import Derived.BigQuiet
import Derived.Laws.MakeOwn
import Derived.Maps.AppendAt
namespace Go.Proofs.Ytggcnglnclpaeaa
open Go.RowKit Go.Maps

/-- one round of the document's Add -/
def stepL (a n : Int) (st : Bool × Row) (p : Int × Int) : Bool × Row :=
  if p.1 = a then st else if !st.1 && decide (a < p.1) then (true, st.2 ++ [(a, n)] ++ [p]) else (st.1, st.2 ++ [p])
def partL (a n : Int) (l : Row) : Bool × Row := l.foldl (stepL a n) (false, [])
theorem partL_snoc (a n : Int) (l : Row) (p : Int × Int) : partL a n (l ++ [p]) = stepL a n (partL a n l) p := by simp [partL]
theorem fold_true (a n : Int) (l out : Row) (h : ∀ p ∈ l, a < p.1) : l.foldl (stepL a n) (true, out) = (true, out ++ l) := by
  induction l generalizing out with
  | nil => simp
  | cons p l ih =>
    have hp := h p (by simp)
    simp only [List.foldl_cons]
    have : stepL a n (true, out) p = (true, out ++ [p]) := by unfold stepL; rw [if_neg (by omega)]; simp
    rw [this, ih _ (fun q hq => h q (by simp [hq]))]
    simp
/-- at the end: it comes last, if it hasn't come -/
def endL (a n : Int) (st : Bool × Row) : Row := if st.1 then st.2 else st.2 ++ [(a, n)]
theorem fold_ins (a n : Int) (l out : Row) (ho : l.Pairwise (fun p q => p.1 < q.1)) :
    endL a n (l.foldl (stepL a n) (false, out)) = out ++ ins a n l := by
  induction l generalizing out with
  | nil => simp [ins, endL]
  | cons p l ih =>
    have hp := List.pairwise_cons.1 ho
    simp only [List.foldl_cons]
    rcases Int.lt_trichotomy p.1 a with h | h | h
    · have e : stepL a n (false, out) p = (false, out ++ [p]) := by
        unfold stepL; rw [if_neg (by omega), if_neg (by simp; omega)]
      rw [e, ih _ hp.2]
      simp [ins, h]
    · have e : stepL a n (false, out) p = (false, out) := by unfold stepL; rw [if_pos h]
      rw [e, ih _ hp.2]
      have e2 : ins a n (p :: l) = (a, n) :: l := by simp only [ins]; rw [if_neg (by omega), if_pos h]
      rw [e2]
      congr 1
      have hl : ∀ q ∈ l, a < q.1 := fun q hq => by have := hp.1 q hq; omega
      cases l with
      | nil => rfl
      | cons q l =>
        have := hl q (by simp)
        simp only [ins]; rw [if_neg (by omega), if_neg (by omega)]
    · have e : stepL a n (false, out) p = (true, out ++ [(a, n)] ++ [p]) := by
        unfold stepL; rw [if_neg (by omega), if_pos (by simp; omega)]
      rw [e, fold_true _ _ _ _ (fun q hq => by have := hp.1 q hq; omega)]
      simp only [ins]; rw [if_neg (by omega), if_neg (by omega)]
      simp [endL]
theorem partL_ins {l : Row} (ho : OkR l) (a n : Int) : endL a n (partL a n l) = ins a n l := by
  exact fold_ins a n l [] ho.up
theorem partL_len (a n : Int) (l : Row) : (partL a n l).2.length ≤ 2 * l.length := by
  have : ∀ (l : Row) (st : Bool × Row), (l.foldl (stepL a n) st).2.length ≤ st.2.length + 2 * l.length := by
    intro l
    induction l with
    | nil => intro st; simp
    | cons p l ih =>
      intro st
      simp only [List.foldl_cons]
      have h1 := ih (stepL a n st p)
      have h2 : (stepL a n st p).2.length ≤ st.2.length + 2 := by
        unfold stepL
        split
        · omega
        · split <;> simp
      simp only [List.length_cons]; omega
  have := this l (false, [])
  simpa [partL] using this

/-- a row's cells -/
def flat (l : Row) : List Value := l.flatMap fun p => [.int .i64 p.1, .int .i64 p.2]
theorem flat_len (l : Row) : (flat l).length = l.length * 2 := by
  induction l with
  | nil => rfl
  | cons p l ih => simp [flat, List.flatMap_cons] at ih ⊢; omega
theorem flat_app (l m : Row) : flat (l ++ m) = flat l ++ flat m := by simp [flat]
theorem flat_at {l : Row} {k : Nat} {p : Int × Int} (h : l[k]? = some p) : (flat l)[k * 2]? = some (.int .i64 p.1) ∧ (flat l)[k * 2 + 1]? = some (.int .i64 p.2) := by
  induction l generalizing k with
  | nil => simp at h
  | cons q l ih =>
    cases k with
    | zero => simp at h; subst h; simp [flat]
    | succ k =>
      simp at h
      have := ih h
      have e : (k + 1) * 2 = k * 2 + 2 := by omega
      rw [e]
      simpa [flat, List.flatMap_cons] using this

theorem ids_of_own {w : World} {base : Nat} {v : Value} {l : Row} (h : w.ownsRow base 24 2 v l.length (flat l)) : IdsAt w v l := by
  rcases h.2 with ⟨rfl, h0⟩ | ⟨g, cap, cur, rfl, _, hb, hnc, _, hsz, hcur⟩
  · obtain rfl : l = [] := List.eq_nil_of_length_eq_zero h0
    exact IdsAt.nil w
  · refine ⟨_, _, rfl, hnc, fun k p hk => ⟨_, rfl, ?_⟩⟩
    have hk2 := (List.getElem?_eq_some_iff.1 hk).1
    obtain ⟨e1, e2⟩ := flat_at hk
    have hat : ∀ j u, (flat l)[j]? = some u → cur[j]? = some u := fun j u hu => by
      have hj : j < l.length * 2 := by have := (List.getElem?_eq_some_iff.1 hu).1; rw [flat_len] at this; exact this
      rw [← hcur, List.getElem?_take_of_lt hj] at hu
      simpa using hu
    have ha : ∀ j, (⟨g, 0, none⟩ : Addr).add j = ⟨g, j, none⟩ := fun j => by unfold Addr.add; split <;> simp_all
    rw [ha]
    constructor
    · simp [World.cell?, hb, hat _ _ e1]
    · simp [World.cell?, hb, hat _ _ e2]

theorem info24 : (Try.prog.info? 24).map (fun i => (i.zero, i.size, i.bytes)) = some (some (.agg #[.int .i64 0, .int .i64 0]), 2, 16) := by kernel_rfl
theorem lit_cells (w : World) (x y : Value) : ∀ (j : Nat) (u : Value), [x, y][j]? = some u → (w.alloc (.cells #[x, y] 24)).cell? ((⟨w.heap.size, 0, none⟩ : Addr).add j) = some u := by
  intro j u hu
  match j, hu with
  | 0, hu => simp at hu; subst hu; exact (World.cell?_alloc_new _ _ _ _).trans rfl
  | 1, hu => simp at hu; subst hu; exact (World.cell?_alloc_new _ _ _ _).trans rfl

theorem radd_no (v : Value) (l : Row) (a n : Int) (w : World) (h : IdsAt w v l) (hok : OkR l) (hlen : l.length ≤ 100000) (hn : addB l a n = false) :
    Calls Try.prog 12 #[v, idV a n] w fun e w' => e = .returned (.tuple #[v, .bool false]) ∧ Below w.heap.size w w' := by
  obtain ⟨m, hm⟩ : ∃ m, mayB a n = m := ⟨_, rfl⟩
  obtain ⟨q, hq⟩ : ∃ q, hasB l a n = q := ⟨_, rfl⟩
  have HR : Hid (∀ w, Calls Try.prog 27 #[.agg #[.int .i64 a, .int .i64 n]] w fun e w' => e = .returned (.bool m) ∧ Below w.heap.size w w') := Lib.hid (fun w => by have := may_any a n w; rw [hm] at this; exact this)
  have HH : Hid (∀ w1, Below w.heap.size w w1 → Calls Try.prog 16 #[v, .agg #[.int .i64 a, .int .i64 n]] w1 fun e w' => e = .returned (.bool q) ∧ Below w1.heap.size w1 w') := Lib.hid (fun w1 hb => by have := rhas_any v l a n w1 (h.below hb) hok hlen; rw [hq] at this; exact this)
  have hb : Below w.heap.size w (w.alloc (.cells #[.int .i64 a, .int .i64 n] 24)) := (Below.refl _ _).alloc (Nat.le_refl _) _
  have hz : w.heap.size < (w.alloc (.cells #[.int .i64 a, .int .i64 n] 24)).heap.size := by simp
  have HB := Lib.hid hb
  have HZ := Lib.hid hz
  unfold addB at hn
  rw [hm, hq] at hn
  clear hm hq h hok hb hz
  unfold idV
  cases m
  · go_enter Try.func12, Try.ntmps12
    go_wp2_with (go_at_call 27; refine (HR.out _).mono ?_; rintro e w1 ⟨rfl, hb1⟩)
    exact bodyPost_ret (v := .tuple #[v, .bool false]) (by simp [results, Try.results12, go_sem]) rfl ⟨rfl, HB.out.trans (hb1.mono HB.out.size)⟩
  · obtain rfl : q = true := by simpa using hn
    go_enter Try.func12, Try.ntmps12
    go_wp2_with fail
    refine (HR.out _).mono ?_
    rintro e w1 ⟨rfl, hb1⟩
    have c0 : w1.cell? ⟨w.heap.size, 0, none⟩ = some (.int .i64 a) := (hb1.cell (p := ⟨w.heap.size, 0, none⟩) HZ.out).trans ((World.cell?_alloc_new _ _ _ _).trans rfl)
    have c1 : w1.cell? ⟨w.heap.size, 1, none⟩ = some (.int .i64 n) := (hb1.cell (p := ⟨w.heap.size, 1, none⟩) HZ.out).trans ((World.cell?_alloc_new _ _ _ _).trans rfl)
    have HB1 := Lib.hid (HB.out.trans (hb1.mono HB.out.size))
    clear hb1
    go_wp2_with fail
    refine (HH.out _ HB1.out).mono ?_
    rintro e w2 ⟨rfl, hb2⟩
    go_wp2_with fail
    exact bodyPost_ret (v := .tuple #[v, .bool false]) (by simp [results, Try.results12, go_sem]) rfl ⟨rfl, HB1.out.trans (hb2.mono HB1.out.size)⟩

/-- what lies behind the document's Add, where it adds -/
def RAdded (w : World) (l : Row) (a n : Int) (e : Ending) (w' : World) : Prop := ∃ v', e = .returned (.tuple #[v', .bool true]) ∧ IdsAt w' v' (ins a n l) ∧ Below w.heap.size w w'
/-- the literal's world, behind it -/
theorem lit_below {w W : World} (h : Below w.heap.size w W) (o : Obj) : Below w.heap.size w (W.alloc o) := h.alloc h.size o
theorem one_lit (x y : Int) : ∀ u ∈ [Value.int .i64 x, Value.int .i64 y], u.oneCell' = true := by
  intro u hu
  simp only [List.mem_cons, List.not_mem_nil, or_false] at hu
  rcases hu with rfl | rfl <;> rfl
/-- a row of one's own that holds one id more -/
theorem own_snoc {w : World} {base : Nat} {v : Value} {o : Row} {p : Int × Int} (h : w.ownsRow base 24 2 v (o.length + 1) (flat o ++ [.int .i64 p.1, .int .i64 p.2])) : w.ownsRow base 24 2 v (o ++ [p]).length (flat (o ++ [p])) := by
  rw [flat_app, List.length_append]
  exact h
theorem own_snoc2 {w : World} {base : Nat} {v : Value} {o : Row} {p : Int × Int} {m : Nat} {ys : List Value} (h : w.ownsRow base 24 2 v (o.length + 1 + m) (flat o ++ [.int .i64 p.1, .int .i64 p.2] ++ ys)) : w.ownsRow base 24 2 v ((o ++ [p]).length + m) (flat (o ++ [p]) ++ ys) := by
  rw [flat_app, List.length_append]
  exact h
theorem own_lit {w : World} {base n : Nat} {v : Value} {xs : List Value} (h : w.ownsRow base 24 2 v n xs) (j : Nat) (o : Obj) : ((w.drewN j).alloc o).ownsRow base 24 2 v n xs := (show (w.drewN j).ownsRow base 24 2 v n xs from h).alloc o
theorem grow_below {w2 W w3 : World} {n : Nat} {v : Value} {xs : List Value} (hB : Below w2.heap.size w2 W) (hown : W.ownsRow w2.heap.size 24 2 v n xs) (hg : W.grownBy w3 v.ownBlock) : Below w2.heap.size w2 w3 :=
  hB.grown hg hB.size (fun k e => by
    rcases hown.2 with ⟨rfl, _⟩ | ⟨g, cap, cur, rfl, hge, _⟩
    · cases e
    · injection e with e; subst e; exact hge)
theorem below_dr {B : Nat} {a w : World} (h : Below B a w) (j : Nat) : Below B a (w.drewN j) := ⟨h.os, h.tape, h.output, h.size, h.block⟩
theorem grow_below2 {w2 wr w3 : World} {n : Nat} {v : Value} {xs : List Value} {j : Nat} {o : Obj} (hB : Below w2.heap.size w2 wr) (hown : wr.ownsRow w2.heap.size 24 2 v n xs) (hg : ((wr.drewN j).alloc o).grownBy w3 v.ownBlock) : Below w2.heap.size w2 w3 :=
  grow_below ((below_dr hB j).alloc hB.size o) (own_lit hown j o) hg
theorem grow_below3 {w2 wr w3 : World} {n : Nat} {v : Value} {xs : List Value} {o : Obj} (hB : Below w2.heap.size w2 wr) (hown : wr.ownsRow w2.heap.size 24 2 v n xs) (hg : (wr.alloc o).grownBy w3 v.ownBlock) : Below w2.heap.size w2 w3 :=
  grow_below (hB.alloc hB.size o) (hown.alloc o) hg
set_option maxHeartbeats 3200000 in
theorem radd_yes (v : Value) (l : Row) (a n : Int) (w : World) (h : IdsAt w v l) (hok : OkR l) (hlen : l.length ≤ 100000) (hn : addB l a n = true) :
    Calls Try.prog 12 #[v, idV a n] w (RAdded w l a n) := by
  obtain ⟨i0, hj, hj0, hj1, hj2⟩ := info_parts info24
  have hm : mayB a n = true := addB_may hn
  have hq : hasB l a n = false := by unfold addB at hn; rw [hm] at hn; simpa using hn
  have HR : Hid (∀ w, Calls Try.prog 27 #[.agg #[.int .i64 a, .int .i64 n]] w fun e w' => e = .returned (.bool true) ∧ Below w.heap.size w w') := Lib.hid (fun w => by have := may_any a n w; rw [hm] at this; exact this)
  have HH : Hid (∀ w1, Below w.heap.size w w1 → Calls Try.prog 16 #[v, .agg #[.int .i64 a, .int .i64 n]] w1 fun e w' => e = .returned (.bool false) ∧ Below w1.heap.size w1 w') := Lib.hid (fun w1 hb => by have := rhas_any v l a n w1 (h.below hb) hok hlen; rw [hq] at this; exact this)
  have hb : Below w.heap.size w (w.alloc (.cells #[.int .i64 a, .int .i64 n] 24)) := (Below.refl _ _).alloc (Nat.le_refl _) _
  have hz : w.heap.size < (w.alloc (.cells #[.int .i64 a, .int .i64 n] 24)).heap.size := by simp
  have HB := Lib.hid hb
  have HZ := Lib.hid hz
  have HID := Lib.hid h
  have HEND := Lib.hid (partL_ins hok a n)
  obtain ⟨A, c, rfl, hc, hI⟩ := h
  have HI := Lib.hid hI
  clear hm hq hok hb hz hn hI
  unfold idV
  go_enter Try.func12, Try.ntmps12
  go_wp2_with fail
  refine (HR.out _).mono ?_
  rintro e w1 ⟨rfl, hb1⟩
  have c0 : w1.cell? ⟨w.heap.size, 0, none⟩ = some (.int .i64 a) := (hb1.cell (p := ⟨w.heap.size, 0, none⟩) HZ.out).trans ((World.cell?_alloc_new _ _ _ _).trans rfl)
  have c1 : w1.cell? ⟨w.heap.size, 1, none⟩ = some (.int .i64 n) := (hb1.cell (p := ⟨w.heap.size, 1, none⟩) HZ.out).trans ((World.cell?_alloc_new _ _ _ _).trans rfl)
  have HB1 := Lib.hid (HB.out.trans (hb1.mono HB.out.size))
  have hz1 : w.heap.size < w1.heap.size := Nat.lt_of_lt_of_le HZ.out hb1.size
  clear hb1
  go_wp2_with fail
  refine (HH.out _ HB1.out).mono ?_
  rintro e w2 ⟨rfl, hb2⟩
  have d0 : w2.cell? ⟨w.heap.size, 0, none⟩ = some (.int .i64 a) := (hb2.cell (p := ⟨w.heap.size, 0, none⟩) hz1).trans c0
  have d1 : w2.cell? ⟨w.heap.size, 1, none⟩ = some (.int .i64 n) := (hb2.cell (p := ⟨w.heap.size, 1, none⟩) hz1).trans c1
  have hz22 : w.heap.size < w2.heap.size := Nat.lt_of_lt_of_le hz1 hb2.size
  have HB2 := Lib.hid (HB1.out.trans (hb2.mono HB1.out.size))
  clear hb2 c0 c1
  go_wp2_with fail
  have hrow0 : (w2.alloc (.cells #[] 24)).ownsRow w2.heap.size 24 2 (.slice (some ⟨w2.heap.size, 0, none⟩) 0 0) 0 [] := ⟨rfl, .inr ⟨w2.heap.size, 0, #[], rfl, Nat.le_refl _, World.alloc_heap_new w2 _, Nat.le_refl _, by unfold maxLen; omega, rfl, rfl⟩⟩
  go_loopw [6, 7, 8] (fun o d i wr => ∃ k : Nat, k ≤ l.length ∧ i = .int .i64 k ∧ d = .bool (partL a n (l.take k)).1 ∧ wr.ownsRow w2.heap.size 24 2 o (partL a n (l.take k)).2.length (flat (partL a n (l.take k)).2) ∧ Below w2.heap.size w2 wr) (fun _ _ i _ => l.length - (intOf i).toNat)
  case atStart => exact ⟨0, Nat.zero_le _, rfl, rfl, hrow0, (Below.refl _ _).alloc (Nat.le_refl _) _⟩
  case round =>
    obtain ⟨k, hk, rfl, hd, hown, hB⟩ := hrel
    obtain ⟨st, hst⟩ : ∃ st, partL a n (l.take k) = st := ⟨_, rfl⟩
    have hpl := partL_len a n (l.take k)
    rw [hst] at hd hown hpl
    obtain ⟨dn, o⟩ := st
    simp only at hd hown hpl
    subst hd
    have e0 : wr.cell? ⟨w.heap.size, 0, none⟩ = some (.int .i64 a) := (hB.cell (p := ⟨w.heap.size, 0, none⟩) hz22).trans d0
    have e1 : wr.cell? ⟨w.heap.size, 1, none⟩ = some (.int .i64 n) := (hB.cell (p := ⟨w.heap.size, 1, none⟩) hz22).trans d1
    have HBW := Lib.hid (HB2.out.trans (hB.mono HB2.out.size))
    have HBB := Lib.hid hB
    have HST := Lib.hid hst
    have HOWN := Lib.hid hown
    have ho : o.length ≤ 200000 := by have := List.length_take_le k l; omega
    clear hB hst hown hpl
    by_cases hlt : k < l.length
    · have hx : l[k]? = some l[k] := List.getElem?_eq_getElem hlt
      obtain ⟨p, hp⟩ : ∃ p, l[k] = p := ⟨_, rfl⟩
      rw [hp] at hx
      have hsn : partL a n (l.take (k + 1)) = stepL a n (dn, o) p := by rw [List.take_add_one, hx]; exact (partL_snoc _ _ _ _).trans (by rw [HST.out])
      have HSN := Lib.hid hsn
      obtain ⟨ad, rfl, c2, c3⟩ := HI.out k p hx
      have hza := cell_lt c2
      rw [add_block] at hza
      have c2' := (HBW.out.cell (by rw [add_block]; exact hza)).trans c2
      have c3' := (HBW.out.cell (p := ⟨(ad.add (k * 2)).block, _, none⟩) (by simp only [add_block]; exact hza)).trans c3
      obtain ⟨x, y⟩ := p
      have hi0 : (0 : Int) ≤ ↑k := by omega
      have hi1 : (↑k : Int) < ↑l.length := by omega
      have hi2 : (↑l.length : Int) ≤ ↑c := by omega
      clear hp hx hsn c2 c3 d0 d1
      by_cases hxa : x = a
      · subst hxa
        go_wp2
        go_quiet (fail)
        have hst2 : stepL x n (dn, o) (x, y) = (dn, o) := by unfold stepL; rw [if_pos rfl]
        rw [hst2] at HSN
        have HB3 : Hid (Below w2.heap.size w2 (wr.drewN nq)) := Lib.hid ⟨HBB.out.os, HBB.out.tape, HBB.out.output, HBB.out.size, HBB.out.block⟩
        clear hst2
        go_wp2
        go_roundw
        case rel => exact ⟨k + 1, by omega, by simp, by rw [HSN.out], by rw [HSN.out]; exact HOWN.out, HB3.out⟩
        case measure => simp [intOf]; omega
      · have hxb : (x == a) = false := by simpa using hxa
        have hzz := HBB.out.size
        cases dn
        · by_cases hax : a < x
          · have hst2 : stepL a n (false, o) (x, y) = (true, o ++ [(a, n)] ++ [(x, y)]) := by unfold stepL; rw [if_neg hxa, if_pos (by simpa using hax)]
            rw [hst2] at HSN
            clear hst2
            go_wp2
            go_quiet (fail)
            go_wp2_with fail
            go_quiet (fail)
            go_wp2_with (first
              | (at_builtin; refine wpList_append_own _ rfl _ _ 22 rfl w2.heap.size 24 i0 (.agg #[.int .i64 0, .int .i64 0]) 2 16 Try.underlying22 hj hj0 hj1 hj2 rfl (by decide) _ _ _ rfl (own_lit HOWN.out _ _) ⟨wr.heap.size, 0, none⟩ 1 1 [.int .i64 a, .int .i64 n] rfl rfl (lit_cells (wr.drewN _) _ _) (one_lit _ _) (by unfold maxLen; omega) (by omega) (by simp; omega) ?_; intro v1 w3 hown1 hgrow1 hnil1; have hb3 := grow_below2 HBB.out HOWN.out hgrow1; have HB3 := Lib.hid hb3; have HO1 := Lib.hid hown1; have c2b := (hb3.cell (p := ad.add (k * 2)) (by rw [add_block]; omega)).trans ((HBB.out.cell (by rw [add_block]; omega)).symm.trans c2'); have c3b := (hb3.cell (p := ⟨(ad.add (k * 2)).block, _, none⟩) (by simp only [add_block]; omega)).trans ((HBB.out.cell (p := ⟨(ad.add (k * 2)).block, _, none⟩) (by simp only [add_block]; omega)).symm.trans c3'); clear hown1 hgrow1 hnil1 hb3)
              | (at_builtin; refine wpList_append_own _ rfl _ _ 22 rfl w2.heap.size 24 i0 (.agg #[.int .i64 0, .int .i64 0]) 2 16 Try.underlying22 hj hj0 hj1 hj2 rfl (by decide) _ _ _ rfl (HO1.out.alloc _) ⟨w3.heap.size, 0, none⟩ 1 1 [.int .i64 x, .int .i64 y] rfl rfl (lit_cells w3 _ _) (one_lit _ _) (by unfold maxLen; omega) (by omega) (by simp; have := HB3.out.size; omega) ?_; intro v2 w4 hown2 hgrow2 hnil2; have hb4 := grow_below3 HB3.out HO1.out hgrow2; have HB4 := Lib.hid hb4; have HO2 := Lib.hid hown2; clear hown2 hgrow2 hnil2 hb4))
            go_roundw
            case rel => exact ⟨k + 1, by omega, by simp, by rw [HSN.out], by rw [HSN.out]; exact own_snoc (p := (x, y)) (own_snoc2 (p := (a, n)) HO2.out), HB4.out⟩
            case measure => simp [intOf]; omega
          · have hst2 : stepL a n (false, o) (x, y) = (false, o ++ [(x, y)]) := by unfold stepL; rw [if_neg hxa, if_neg (by simpa using hax)]
            rw [hst2] at HSN
            clear hst2
            go_wp2
            go_quiet (fail)
            go_wp2_with fail
            go_quiet (fail)
            go_wp2_with (at_builtin; refine wpList_append_own _ rfl _ _ 22 rfl w2.heap.size 24 i0 (.agg #[.int .i64 0, .int .i64 0]) 2 16 Try.underlying22 hj hj0 hj1 hj2 rfl (by decide) _ _ _ rfl (own_lit HOWN.out _ _) ⟨wr.heap.size, 0, none⟩ 1 1 [.int .i64 x, .int .i64 y] rfl rfl (lit_cells (wr.drewN _) _ _) (one_lit _ _) (by unfold maxLen; omega) (by omega) (by simp; omega) ?_; intro v1 w3 hown1 hgrow1 hnil1; have hb3 := grow_below2 HBB.out HOWN.out hgrow1; have HB3 := Lib.hid hb3; have HO1 := Lib.hid hown1; clear hown1 hgrow1 hnil1 hb3)
            go_roundw
            case rel => exact ⟨k + 1, by omega, by simp, by rw [HSN.out], by rw [HSN.out]; exact own_snoc (p := (x, y)) HO1.out, HB3.out⟩
            case measure => simp [intOf]; omega
        · have hst2 : stepL a n (true, o) (x, y) = (true, o ++ [(x, y)]) := by unfold stepL; rw [if_neg hxa, if_neg (by simp)]
          rw [hst2] at HSN
          clear hst2
          go_wp2
          go_quiet (fail)
          go_wp2_with fail
          go_quiet (fail)
          go_wp2_with (at_builtin; refine wpList_append_own _ rfl _ _ 22 rfl w2.heap.size 24 i0 (.agg #[.int .i64 0, .int .i64 0]) 2 16 Try.underlying22 hj hj0 hj1 hj2 rfl (by decide) _ _ _ rfl (own_lit HOWN.out _ _) ⟨wr.heap.size, 0, none⟩ 1 1 [.int .i64 x, .int .i64 y] rfl rfl (lit_cells (wr.drewN _) _ _) (one_lit _ _) (by unfold maxLen; omega) (by omega) (by simp; omega) ?_; intro v1 w3 hown1 hgrow1 hnil1; have hb3 := grow_below2 HBB.out HOWN.out hgrow1; have HB3 := Lib.hid hb3; have HO1 := Lib.hid hown1; clear hown1 hgrow1 hnil1 hb3)
          go_roundw
          case rel => exact ⟨k + 1, by omega, by simp, by rw [HSN.out], by rw [HSN.out]; exact own_snoc (p := (x, y)) HO1.out, HB3.out⟩
          case measure => simp [intOf]; omega
    · obtain rfl : k = l.length := by omega
      have hlt2 : ¬ (↑l.length : Int) < ↑l.length := by omega
      rw [List.take_length] at HST
      have hE := HEND.out
      rw [HST.out] at hE
      have HE := Lib.hid hE
      clear hE
      have hzz := HBB.out.size
      cases dn
      · go_wp2_with (at_builtin; refine wpList_append_own _ rfl _ _ 22 rfl w2.heap.size 24 i0 (.agg #[.int .i64 0, .int .i64 0]) 2 16 Try.underlying22 hj hj0 hj1 hj2 rfl (by decide) _ _ _ rfl (HOWN.out.alloc _) ⟨wr.heap.size, 0, none⟩ 1 1 [.int .i64 a, .int .i64 n] rfl rfl (lit_cells wr _ _) (one_lit _ _) (by unfold maxLen; omega) (by omega) (by simp; omega) ?_; intro v1 w3 hown1 hgrow1 hnil1; have hb3 := grow_below3 HBB.out HOWN.out hgrow1; have HB3 := Lib.hid hb3; have HO1 := Lib.hid hown1; clear hown1 hgrow1 hnil1 hb3)
        refine bodyPost_ret (v := .tuple #[v1, .bool true]) (by simp [results, Try.results12, go_sem]) rfl ⟨v1, rfl, ?_, HB2.out.trans (HB3.out.mono HB2.out.size)⟩
        rw [← HE.out]
        exact ids_of_own (own_snoc (p := (a, n)) HO1.out)
      · go_wp2_with fail
        refine bodyPost_ret (v := .tuple #[_, .bool true]) (by simp [results, Try.results12, go_sem]; rfl) rfl ⟨_, rfl, ?_, HBW.out⟩
        rw [← HE.out]
        exact ids_of_own HOWN.out

theorem addsL_len (l ids : Row) : (addsL l ids).length ≤ l.length + ids.length := by
  have hins : ∀ (a n : Int) (l : Row), (ins a n l).length ≤ l.length + 1 := by
    intro a n l
    induction l with
    | nil => simp [ins]
    | cons p l ih =>
      unfold ins
      split
      · simp; omega
      · split <;> simp
  induction ids generalizing l with
  | nil => simp [addsL]
  | cons p ids ih =>
    have h1 := ih (addL l p.1 p.2)
    have h2 : (addL l p.1 p.2).length ≤ l.length + 1 := by
      unfold addL; split
      · exact hins _ _ _
      · omega
    show (addsL (addL l p.1 p.2) ids).length ≤ _
    simp only [List.length_cons]; omega

/-- the document's Add -/
theorem radd_any (v : Value) (l : Row) (a n : Int) (w : World) (h : IdsAt w v l) (hok : OkR l) (hlen : l.length ≤ 100000) :
    Calls Try.prog 12 #[v, idV a n] w fun e w' => ∃ v', e = .returned (.tuple #[v', .bool (addB l a n)]) ∧ IdsAt w' v' (addL l a n) ∧ Below w.heap.size w w' := by
  cases hn : addB l a n with
  | false =>
    refine (radd_no v l a n w h hok hlen hn).mono ?_
    rintro e w' ⟨rfl, hb⟩
    exact ⟨v, rfl, by unfold addL; rw [hn]; exact h.below hb, hb⟩
  | true =>
    refine (radd_yes v l a n w h hok hlen hn).mono ?_
    rintro e w' ⟨v', rfl, hi, hb⟩
    exact ⟨v', rfl, by unfold addL; rw [hn]; exact hi, hb⟩
end Go.Proofs.Ytggcnglnclpaeaa
