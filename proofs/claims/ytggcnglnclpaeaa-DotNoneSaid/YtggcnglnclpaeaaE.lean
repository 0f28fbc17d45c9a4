/- The contract of Add: what it answers, what it writes. -/
import Derived.Test.YtggcnglnclpaeaaD
import Derived.StillTailTactics
namespace Go.Proofs.Ytggcnglnclpaeaa
open Go.RowKit Go.Maps

set_option maxHeartbeats 1600000 in
theorem add_no (s : Nat) (S : Nat → Prop) (K : Nat) (l : Row) (a n : Int) (w : World) (h : SeenAt w s S K l) (h0 : -9223372036854775808 ≤ a) (h1 : a ≤ 9223372036854775807) (hm : mayB a n = true) (hl : n ≤ look l a) :
    Calls Try.prog 13 #[.pointer (some ⟨s, 0, none⟩), idV a n] w fun e w' => e = .returned (.bool false) ∧ Below w.heap.size w w' := by
  have hP : SeenP w (some ⟨s, 0, none⟩) S K l := .inr ⟨s, rfl, h⟩
  have H0 := Lib.hid h0
  have H1 := Lib.hid h1
  have hfst := Lib.hid (KeptH.first w _ S K l a n hP)
  obtain ⟨q, hq⟩ : ∃ q, look l a = q := ⟨_, rfl⟩
  rw [hq] at hl
  have HR : Hid (∀ w, Calls Try.prog 28 #[.agg #[.int .i64 a, .int .i64 n]] w fun e w' => e = .returned (.bool true) ∧ Below w.heap.size w w') := Lib.hid (fun w => by have := right_any a n w; rw [hm] at this; exact this)
  have HN : Hid (∀ w1, KeptH w w.heap.size (some ⟨s, 0, none⟩) S K l a n w1 → Calls Try.prog 29 #[.pointer (some ⟨s, 0, none⟩), .int .i64 a] w1 fun e w' => e = .returned (.int .i64 q) ∧ w1 = w') := Lib.hid (fun w1 hk => by have := number_any _ S K l a w1 hk.seen H0.out H1.out; rw [hq] at this; exact this)
  clear hm hq hP h h0 h1
  unfold idV
  go_enter Try.func13, Try.ntmps13
  go_wp2_with fail
  go_region_held3 (fun w' => w'.cell? ⟨w.heap.size, 0, none⟩ = some (.int .i64 a) ∧ w'.cell? ⟨w.heap.size, 1, none⟩ = some (.int .i64 n) ∧ SeenP w' (some ⟨s, 0, none⟩) S K l ∧ Below w.heap.size w w' ∧ w.heap.size < w'.heap.size)
    ((show KeptH w w.heap.size (some ⟨s, 0, none⟩) S K l a n _; with_reducible first | exact hfst.out | exact X5.out))
    (first
      | (go_at_call 28; refine (HR.out _).mono ?_; rintro e w1 ⟨rfl, hb1⟩; have X5 := Lib.hid (KeptH.later (show KeptH w w.heap.size (some ⟨s, 0, none⟩) S K l a n _ by assumption) hb1))
      | (go_at_call 29; refine (HN.out _ (show KeptH w w.heap.size (some ⟨s, 0, none⟩) S K l a n _ by assumption)).mono ?_; rintro e w1 ⟨rfl, rfl⟩; have X5 := Lib.hid (show KeptH w w.heap.size (some ⟨s, 0, none⟩) S K l a n _ by assumption)))
  have hb := X5.out.bel
  go_wp2
  go_ret
  exact ⟨rfl, hb⟩

/-- the map's datum with one number more -/
theorem relD_put {D : DataW Unit} {l : Row} (hD : IsMap D) (hr : RelD D l) (ho : OkR l) (a n : Int) : RelD (D.put (.int .i64 a) (.lit (.int .i64 n))) (ins a n l) := by
  have hk : WideAt.IsKeyLit (Lit.int .i64 a) := by trivial
  constructor
  · intro b
    rw [look_ins ho.up]
    by_cases h : b = a
    · subst h; rw [atKey_put_same hD hk, if_pos rfl]
    · rw [atKey_put_other (by simpa using h), hr.1 b, if_neg h]
  · intro b
    by_cases h : b = a
    · subst h
      rw [has_put_same hD hk]
      simp only [true_iff]
      have : ∀ l : Row, ∃ p ∈ ins b n l, p.1 = b := by
        intro l
        induction l with
        | nil => exact ⟨(b, n), by simp [ins], rfl⟩
        | cons p l ih =>
          unfold ins
          split
          · obtain ⟨q, hq, e⟩ := ih; exact ⟨q, by simp [hq], e⟩
          · split <;> exact ⟨(b, n), by simp, rfl⟩
      exact this l
    · rw [has_put_other (by simpa using h), hr.2 b]
      constructor
      · rintro ⟨p, hp, e⟩
        have : p ∈ ins a n l := by
          clear hr ho
          induction l with
          | nil => cases hp
          | cons q l ih =>
            unfold ins
            rcases List.mem_cons.1 hp with rfl | hp
            · split
              · simp
              · rw [if_neg (by omega)]; simp
            · split
              · simp [ih hp]
              · split <;> simp [hp]
        exact ⟨p, this, e⟩
      · rintro ⟨p, hp, e⟩
        rcases mem_ins hp with rfl | hp
        · exact absurd e (fun x => h x.symm)
        · exact ⟨p, hp, e⟩
theorem relD_empty : RelD (.map []) [] := ⟨fun a => rfl, fun a => by simp [Maps.has]⟩

theorem map_eq (mb : Option Nat) (w : World) : (binOp .eql 45 (.map mb) (.map none)).run Try.prog w = .ok (.bool (decide (mb = none))) w := by
  cases mb <;> rfl

/-- what an Add may turn: the Seen's own cell, or its map -/
def Foot (w : World) (s : Nat) (S : Nat → Prop) (b : Nat) : Prop := b = s ∨ (S b ∧ ∃ es c, w.heap[b]? = some (.map es c))
/-- what lies behind an Add that adds -/
def Added (w : World) (s : Nat) (S : Nat → Prop) (K : Nat) (l : Row) (a n : Int) (e : Ending) (w' : World) : Prop :=
  e = .returned (.bool true) ∧ SeenAt w' s (fun b => S b ∨ w.heap.size ≤ b) (K + 1) (ins a n l) ∧ Only (Foot w s S) w w'

theorem added_1 {w w1 w2 : World} {s mb : Nat} {S : Nat → Prop} {K : Nat} {l : Row} {a n : Int} {D : DataW Unit} (hs : S s) (hmb : S mb) (hne : mb ≠ s) (ho : OkR l) (hm : mayB a n = true) (h2 : n ≤ 9223372036854775807) (hr : RelD D l)
    (hsz : s < w.heap.size) (hb : Boxed w s 47 (.map (some mb))) (hmp : ∃ es c, w.heap[mb]? = some (.map es c)) (hB : Below w.heap.size w w1) (hD : IsMap D)
    (hO : w2.ownsMap (H := Unit) Try.prog 3 (plainElem Try.prog 3) mb (K + 1) (D.put (.int .i64 a) (.lit (.int .i64 n)))) (hG : w1.drew.grownBy w2 (some mb)) :
    Added w s S K l a n (.returned (.bool true)) w2 := by
  have h12 := hB.size
  have hs2 : w2.heap[s]? = w.heap[s]? := (hG.block s (Nat.lt_of_lt_of_le hsz h12) (fun e => hne (by injection e with e; exact e.symm))).trans (hB.block s hsz)
  refine ⟨rfl, ⟨.inl hs, ins_ok ho hm h2, .inr ⟨mb, _, .inl hmb, hne, box_kept hb hs2, hO, relD_put hD hr ho a n⟩⟩, ?_⟩
  refine ⟨hG.os.trans hB.os, hG.tape.trans hB.tape, hG.output.trans hB.output, Nat.le_trans h12 hG.size, fun k hk hns => ?_⟩
  exact (hG.block k (Nat.lt_of_lt_of_le hk h12) (fun e => hns (by injection e with e; rw [e]; exact .inr ⟨hmb, hmp⟩))).trans (hB.block k hk)

/-- the world behind 's.numbers = map[int]int{}' -/
theorem made_0 {w1 : World} {s : Nat} (hb : Boxed w1 s 47 (.map none)) :
    Boxed ((w1.setCell ⟨s, 0, none⟩ (.map (some w1.heap.size))).alloc (.map #[] 0)) s 47 (.map (some w1.heap.size)) ∧
    (∀ b, b < w1.heap.size → b ≠ s → ((w1.setCell ⟨s, 0, none⟩ (.map (some w1.heap.size))).alloc (.map #[] 0)).heap[b]? = w1.heap[b]?) ∧
    ((w1.setCell ⟨s, 0, none⟩ (.map (some w1.heap.size))).alloc (.map #[] 0)).ownsMap (H := Unit) Try.prog 3 (plainElem Try.prog 3) w1.heap.size 0 (.map []) ∧
    ((w1.setCell ⟨s, 0, none⟩ (.map (some w1.heap.size))).alloc (.map #[] 0)).heap.size = w1.heap.size + 1 ∧
    ((w1.setCell ⟨s, 0, none⟩ (.map (some w1.heap.size))).alloc (.map #[] 0)).os = w1.os ∧
    ((w1.setCell ⟨s, 0, none⟩ (.map (some w1.heap.size))).alloc (.map #[] 0)).tape = w1.tape ∧
    ((w1.setCell ⟨s, 0, none⟩ (.map (some w1.heap.size))).alloc (.map #[] 0)).output = w1.output := by
  have hz := box_lt hb
  have hsz : (w1.setCell ⟨s, 0, none⟩ (.map (some w1.heap.size))).heap.size = w1.heap.size := by simp [World.setCell]
  refine ⟨?_, fun b hb' hne => ?_, ?_, by simp [hsz], rfl, rfl, rfl⟩
  · have h1 : Boxed (w1.setCell ⟨s, 0, none⟩ (.map (some w1.heap.size))) s 47 (.map (some w1.heap.size)) := hb.set _
    exact h1.alloc _
  · rw [Below.heap_alloc _ _ _ (by omega), Below.heap_setCell _ _ _ _ hne]
  · have := World.ownsMap_made (w1.setCell ⟨s, 0, none⟩ (.map (some w1.heap.size))) Try.prog 3 (plainElem (H := Unit) Try.prog 3)
    rwa [hsz] at this

theorem added_0 {w w1 W3 w2 : World} {s : Nat} {S : Nat → Prop} {K : Nat} {a n : Int} (hs : S s) (hm : mayB a n = true) (h2 : n ≤ 9223372036854775807)
    (hsz : s < w.heap.size) (hB : Below w.heap.size w w1) (hX : Boxed W3 s 47 (.map (some w1.heap.size))) (hk3 : ∀ b, b < w1.heap.size → b ≠ s → W3.heap[b]? = w1.heap[b]?)
    (hz3 : W3.heap.size = w1.heap.size + 1) (h3o : W3.os = w1.os) (h3t : W3.tape = w1.tape) (h3p : W3.output = w1.output)
    (hO : w2.ownsMap (H := Unit) Try.prog 3 (plainElem Try.prog 3) w1.heap.size (0 + 1) ((DataW.map []).put (.int .i64 a) (.lit (.int .i64 n)))) (hG : W3.drew.grownBy w2 (some w1.heap.size)) :
    Added w s S K [] a n (.returned (.bool true)) w2 := by
  have h12 := hB.size
  have hG1 : w2.heap[s]? = W3.heap[s]? := hG.block s (by show s < W3.heap.size; omega) (fun e => by injection e with e; omega)
  refine ⟨rfl, ⟨.inl hs, ins_ok OkR.nil hm h2, .inr ⟨w1.heap.size, _, .inr h12, by omega, box_kept hX hG1, hO.mono (by omega), relD_put ⟨_, rfl⟩ relD_empty OkR.nil a n⟩⟩, ?_⟩
  have hz2 := hG.size
  refine ⟨hG.os.trans (h3o.trans hB.os), hG.tape.trans (h3t.trans hB.tape), hG.output.trans (h3p.trans hB.output), ?_, fun k hk hns => ?_⟩
  · have : W3.heap.size ≤ w2.heap.size := hz2
    omega
  · have hks : k ≠ s := fun e => hns (.inl e)
    have e1 : w2.heap[k]? = W3.heap[k]? := hG.block k (by show k < W3.heap.size; omega) (fun e => by injection e with e; omega)
    exact e1.trans ((hk3 k (by omega) hks).trans (hB.block k hk))

set_option maxHeartbeats 1600000 in
theorem add_yes1 (s mb : Nat) (D : DataW Unit) (S : Nat → Prop) (K : Nat) (l : Row) (a n : Int) (w : World) (h : SeenAt w s S K l) (h0 : -9223372036854775808 ≤ a) (h1 : a ≤ 9223372036854775807) (hm : mayB a n = true) (hl : ¬ n ≤ look l a)
    (hK : K < maxLen) (h2 : n ≤ 9223372036854775807) (hmb : S mb) (hne : mb ≠ s) (hb : Boxed w s 47 (.map (some mb))) (hw : w.ownsMap (H := Unit) Try.prog 3 (plainElem Try.prog 3) mb K D) (hr : RelD D l) :
    Calls Try.prog 13 #[.pointer (some ⟨s, 0, none⟩), idV a n] w (Added w s S K l a n) := by
  have hP : SeenP w (some ⟨s, 0, none⟩) S K l := .inr ⟨s, rfl, h⟩
  have H0 := Lib.hid h0
  have H1 := Lib.hid h1
  have hfst := Lib.hid (KeptH.first w _ S K l a n hP)
  have hkey := Maps.keyOf_int_mk Try.underlying3 (key_wf h0 h1)
  have hval : plainElem (H := Unit) Try.prog 3 (.int .i64 n) = some (.lit (.int .i64 n), []) := plainElem_int Try.underlying3 (key_wf (by have := (mayB_iff a n).1 hm; omega) h2)
  have hsz := box_lt hb
  have hmz := hw.lt
  have FIN := Lib.hid (fun (w1 w2 : World) => added_1 (w := w) (w1 := w1) (w2 := w2) (K := K) h.1 hmb hne h.2.1 hm h2 hr hsz hb (by obtain ⟨es, c, h5, _⟩ := hw; exact ⟨es, c, h5⟩))
  obtain ⟨q, hq⟩ : ∃ q, look l a = q := ⟨_, rfl⟩
  rw [hq] at hl
  have HR : Hid (∀ w, Calls Try.prog 28 #[.agg #[.int .i64 a, .int .i64 n]] w fun e w' => e = .returned (.bool true) ∧ Below w.heap.size w w') := Lib.hid (fun w => by have := right_any a n w; rw [hm] at this; exact this)
  have HN : Hid (∀ w1, KeptH w w.heap.size (some ⟨s, 0, none⟩) S K l a n w1 → Calls Try.prog 29 #[.pointer (some ⟨s, 0, none⟩), .int .i64 a] w1 fun e w' => e = .returned (.int .i64 q) ∧ w1 = w') := Lib.hid (fun w1 hk => by have := number_any _ S K l a w1 hk.seen H0.out H1.out; rw [hq] at this; exact this)
  have HB := Lib.hid hb
  have HW := Lib.hid hw
  clear hm hq hP h h0 h1 hb hw hr
  unfold idV
  go_enter Try.func13, Try.ntmps13
  go_wp2_with fail
  go_region_held3 (fun w' => w'.cell? ⟨w.heap.size, 0, none⟩ = some (.int .i64 a) ∧ w'.cell? ⟨w.heap.size, 1, none⟩ = some (.int .i64 n) ∧ SeenP w' (some ⟨s, 0, none⟩) S K l ∧ Below w.heap.size w w' ∧ w.heap.size < w'.heap.size)
    ((show KeptH w w.heap.size (some ⟨s, 0, none⟩) S K l a n _; with_reducible first | exact hfst.out | exact X5.out))
    (first
      | (go_at_call 28; refine (HR.out _).mono ?_; rintro e w1 ⟨rfl, hb1⟩; have X5 := Lib.hid (KeptH.later (show KeptH w w.heap.size (some ⟨s, 0, none⟩) S K l a n _ by assumption) hb1))
      | (go_at_call 29; refine (HN.out _ (show KeptH w w.heap.size (some ⟨s, 0, none⟩) S K l a n _ by assumption)).mono ?_; rintro e w1 ⟨rfl, rfl⟩; have X5 := Lib.hid (show KeptH w w.heap.size (some ⟨s, 0, none⟩) S K l a n _ by assumption)))
  have hb2 := X5.out.bel
  have c0 := X5.out.1
  have c1 := X5.out.2.1
  have hbx : Boxed w1 s 47 (.map (some mb)) := box_kept HB.out (hb2.block s hsz)
  have cs := hbx.cell
  have hown : w1.drew.ownsMap (H := Unit) Try.prog 3 (plainElem Try.prog 3) mb K D := map_kept HW.out (hb2.block mb hmz)
  have HD := Lib.hid hown.isMap
  obtain ⟨w2, hrun, hown2, hgrow⟩ := hown.update (Maps.int_keyed Try.underlying3) Try.underlying45 hK hkey hval
  have HO := Lib.hid hown2
  have HG := Lib.hid hgrow
  have HB2 := Lib.hid hb2
  clear hown2 hgrow hb2 hown hbx
  have hmeq := map_eq (some mb) w1
  simp only [reduceCtorEq, decide_false] at hmeq
  go_wp2_with fail
  go_still_tail 8, (by kernel_rfl)
  change wpList _ _ _ _ _ w1.drew
  go_wp2
  go_ret
  exact FIN.out w1 w2 HB2.out HD.out HO.out HG.out

set_option maxHeartbeats 1600000 in
theorem add_yes0 (s : Nat) (S : Nat → Prop) (K : Nat) (a n : Int) (w : World) (h : SeenAt w s S K []) (h0 : -9223372036854775808 ≤ a) (h1 : a ≤ 9223372036854775807) (hm : mayB a n = true)
    (h2 : n ≤ 9223372036854775807) (hb : Boxed w s 47 (.map none)) :
    Calls Try.prog 13 #[.pointer (some ⟨s, 0, none⟩), idV a n] w (Added w s S K [] a n) := by
  have hP : SeenP w (some ⟨s, 0, none⟩) S K [] := .inr ⟨s, rfl, h⟩
  have hl : ¬ n ≤ 0 := by have := (mayB_iff a n).1 hm; omega
  have H0 := Lib.hid h0
  have H1 := Lib.hid h1
  have hfst := Lib.hid (KeptH.first w _ S K [] a n hP)
  have hkey := Maps.keyOf_int_mk Try.underlying3 (key_wf h0 h1)
  have hval : plainElem (H := Unit) Try.prog 3 (.int .i64 n) = some (.lit (.int .i64 n), []) := plainElem_int Try.underlying3 (key_wf (by have := (mayB_iff a n).1 hm; omega) h2)
  have hsz := box_lt hb
  have HR : Hid (∀ w, Calls Try.prog 28 #[.agg #[.int .i64 a, .int .i64 n]] w fun e w' => e = .returned (.bool true) ∧ Below w.heap.size w w') := Lib.hid (fun w => by have := right_any a n w; rw [hm] at this; exact this)
  have HN : Hid (∀ w1, KeptH w w.heap.size (some ⟨s, 0, none⟩) S K [] a n w1 → Calls Try.prog 29 #[.pointer (some ⟨s, 0, none⟩), .int .i64 a] w1 fun e w' => e = .returned (.int .i64 0) ∧ w1 = w') := Lib.hid (fun w1 hk => number_any _ S K [] a w1 hk.seen H0.out H1.out)
  have HB := Lib.hid hb
  have HS := Lib.hid h.1
  have HM := Lib.hid hm
  clear hm hP h h0 h1 hb
  unfold idV
  go_enter Try.func13, Try.ntmps13
  go_wp2_with fail
  go_region_held3 (fun w' => w'.cell? ⟨w.heap.size, 0, none⟩ = some (.int .i64 a) ∧ w'.cell? ⟨w.heap.size, 1, none⟩ = some (.int .i64 n) ∧ SeenP w' (some ⟨s, 0, none⟩) S K [] ∧ Below w.heap.size w w' ∧ w.heap.size < w'.heap.size)
    ((show KeptH w w.heap.size (some ⟨s, 0, none⟩) S K [] a n _; with_reducible first | exact hfst.out | exact X5.out))
    (first
      | (go_at_call 28; refine (HR.out _).mono ?_; rintro e w1 ⟨rfl, hb1⟩; have X5 := Lib.hid (KeptH.later (show KeptH w w.heap.size (some ⟨s, 0, none⟩) S K [] a n _ by assumption) hb1))
      | (go_at_call 29; refine (HN.out _ (show KeptH w w.heap.size (some ⟨s, 0, none⟩) S K [] a n _ by assumption)).mono ?_; rintro e w1 ⟨rfl, rfl⟩; have X5 := Lib.hid (show KeptH w w.heap.size (some ⟨s, 0, none⟩) S K [] a n _ by assumption)))
  have hb2 := X5.out.bel
  have c0 := X5.out.1
  have c1 := X5.out.2.1
  have hz1 := X5.out.2.2.2.2
  have hbx : Boxed w1 s 47 (.map none) := box_kept HB.out (hb2.block s hsz)
  have cs := hbx.cell
  have fs := hbx.frozen
  have hsz1 := box_lt hbx
  have hmm := @run_makeMap Try.prog
  obtain ⟨m1, m2, m3, m4, m5, m6, m7⟩ := made_0 hbx
  have hmeq := map_eq none w1
  simp only [decide_true] at hmeq
  have M1 := Lib.hid m1
  have M2 := Lib.hid m2
  have M3 := Lib.hid m3
  have M4 := Lib.hid m4
  have M5 := Lib.hid m5
  have M6 := Lib.hid m6
  have M7 := Lib.hid m7
  have HB2 := Lib.hid hb2
  clear m1 m2 m3 m4 m5 m6 m7 hb2 hbx
  go_wp2_with fail
  obtain ⟨W3, hW3⟩ : ∃ W3, (w1.setCell ⟨s, 0, none⟩ (.map (some w1.heap.size))).alloc (.map #[] 0) = W3 := ⟨_, rfl⟩
  rw [hW3] at M1 M2 M3 M4 M5 M6 M7 ⊢
  clear hW3 cs fs
  have d0 : W3.cell? ⟨w.heap.size, 0, none⟩ = some (.int .i64 a) := (World.cell?_of_block (w := w1) (M2.out w.heap.size hz1 (by omega))).trans c0
  have d1 : W3.cell? ⟨w.heap.size, 1, none⟩ = some (.int .i64 n) := (World.cell?_of_block (w := w1) (M2.out w.heap.size hz1 (by omega))).trans c1
  have ds := M1.out.cell
  clear c0 c1 hmeq
  have hown : W3.drew.ownsMap (H := Unit) Try.prog 3 (plainElem Try.prog 3) w1.heap.size 0 (.map []) := M3.out
  obtain ⟨w2, hrun, hown2, hgrow⟩ := hown.update (Maps.int_keyed Try.underlying3) Try.underlying45 (by decide) hkey hval
  have HO := Lib.hid hown2
  have HG := Lib.hid hgrow
  clear hown hown2 hgrow
  go_still_tail 8, (by kernel_rfl)
  change wpList _ _ _ _ _ W3.drew
  go_wp2
  go_ret
  exact added_0 HS.out HM.out h2 hsz HB2.out M1.out M2.out M4.out M5.out M6.out M7.out HO.out HG.out

/-- Add, of a Seen that is there -/
theorem add_any (s : Nat) (S : Nat → Prop) (K : Nat) (l : Row) (a n : Int) (w : World) (h : SeenAt w s S K l) (h0 : -9223372036854775808 ≤ a) (h1 : a ≤ 9223372036854775807) (h2 : n ≤ 9223372036854775807) (hK : K < maxLen) :
    Calls Try.prog 13 #[.pointer (some ⟨s, 0, none⟩), idV a n] w fun e w' => e = .returned (.bool (addB l a n)) ∧ SeenAt w' s (fun b => S b ∨ w.heap.size ≤ b) (K + 1) (addL l a n) ∧ Only (Foot w s S) w w' := by
  have hno : ∀ (e : Ending) (w' : World), addB l a n = false → e = .returned (.bool false) ∧ Below w.heap.size w w' → e = .returned (.bool (addB l a n)) ∧ SeenAt w' s (fun b => S b ∨ w.heap.size ≤ b) (K + 1) (addL l a n) ∧ Only (Foot w s S) w w' := by
    rintro e w' hf ⟨rfl, hb⟩
    refine ⟨by rw [hf], ?_, (Only.of_below hb).mono (fun b h1 h2 => by omega)⟩
    unfold addL
    rw [hf]
    exact (h.kept (Only.of_below hb) (fun b _ h1 h2 => by omega)).wider (fun b hb _ => .inl hb) (by omega)
  cases hm : mayB a n with
  | false => exact (add_not _ a n w hm).mono fun e w' hh => hno e w' (by simp [addB, hm]) hh
  | true =>
    by_cases hl : n ≤ look l a
    · exact (add_no s S K l a n w h h0 h1 hm hl).mono fun e w' hh => hno e w' (by simp [addB, hasB, hm, hl]) hh
    · have hy : addB l a n = true := by simp [addB, hasB, hm]; omega
      have fin : ∀ e w', Added w s S K l a n e w' → e = .returned (.bool (addB l a n)) ∧ SeenAt w' s (fun b => S b ∨ w.heap.size ≤ b) (K + 1) (addL l a n) ∧ Only (Foot w s S) w w' := by
        rintro e w' ⟨rfl, h3, h4⟩
        exact ⟨by rw [hy], by unfold addL; rw [hy]; exact h3, h4⟩
      have h' := h
      obtain ⟨hs, hok, ⟨hb, rfl⟩ | ⟨mb, D, hmb, hne, hb, hw, hr⟩⟩ := h'
      · exact (add_yes0 s S K a n w h h0 h1 hm h2 hb).mono fin
      · exact (add_yes1 s mb D S K l a n w h h0 h1 hm hl hK h2 hmb hne hb hw hr).mono fin
end Go.Proofs.Ytggcnglnclpaeaa
