/- Walks over addr.Absolute and the document's Absolute: the same marks of all texts, as seen from a place. -/
import Derived.Test.YtkggooemnahgpaaDoorWp
namespace Go.Proofs.YtkggooemnahgpaaDoor
open Go.RowKit

/-- what stands ahead of the first 'C', and behind it -/
def splitC : List UInt8 → Option (List UInt8 × List UInt8)
  | [] => none
  | c :: t => if c = 67 then some ([], t) else (splitC t).map fun x => (c :: x.1, x.2)

theorem cut_c : ∀ l : List UInt8, Lib.cut l [67] = match splitC l with | some (a, b) => (a, b, true) | none => (l, [], false)
  | [] => rfl
  | c :: t => by
    have ih := cut_c t
    by_cases h : c = 67
    · subst h
      simp [splitC, Lib.cut, Lib.index, List.isPrefixOf]
    · have hb : ((67 : UInt8) == c) = false := by rw [beq_eq_false_iff_ne]; exact fun e => h e.symm
      have hi : Lib.index (c :: t) [67] = if Lib.index t [67] == -1 then -1 else Lib.index t [67] + 1 := by
        simp [Lib.index, List.isPrefixOf, hb]
      have hge := Lib.index_ge t [67]
      unfold Lib.cut at ih ⊢
      rw [hi]
      unfold splitC
      rw [if_neg h]
      by_cases h0 : Lib.index t [67] = -1
      · rw [h0] at ih ⊢
        simp only [show ¬ (0 : Int) ≤ -1 by decide, if_false] at ih
        cases hs : splitC t with
        | none => simp
        | some x => rw [hs] at ih; simp at ih
      · have h1 : ((Lib.index t [67] == -1) = true) = False := by simp [h0]
        rw [if_pos (by omega)] at ih
        cases hs : splitC t with
        | none => rw [hs] at ih; simp at ih
        | some x =>
          rw [hs] at ih
          simp only [Prod.mk.injEq, and_true] at ih
          simp only [h1, if_false, Option.map_some]
          rw [if_pos (by omega)]
          have e : (Lib.index t [67] + 1).toNat = (Lib.index t [67]).toNat + 1 := by omega
          rw [e]
          simp only [List.length_cons, List.length_nil] at ih ⊢
          rw [List.take_succ_cons, ih.1]
          congr 2
          rw [show (Lib.index t [67]).toNat + 1 + (0 + 1) = ((Lib.index t [67]).toNat + (0 + 1)) + 1 by omega, List.drop_succ_cons]
          exact ih.2

theorem splitC_at : ∀ (u : List UInt8) (j : Nat) (hj : j < u.length), (∀ b ∈ u.take j, b ≠ 67) → u[j] = 67 → splitC u = some (u.take j, u.drop (j + 1))
  | [], j, hj, _, _ => by simp at hj
  | c :: t, 0, _, _, h => by
    simp at h
    simp [splitC, h]
  | c :: t, j + 1, hj, hn, h => by
    have hc : c ≠ 67 := hn c (by simp)
    have := splitC_at t j (by simpa using hj) (fun b hb => hn b (by simp [hb])) (by simpa using h)
    simp [splitC, hc, this]
theorem splitC_none : ∀ (u : List UInt8), (∀ b ∈ u, b ≠ 67) → splitC u = none
  | [], _ => rfl
  | c :: t, h => by
    simp [splitC, h c (by simp), splitC_none t (fun b hb => h b (by simp [hb]))]

/-- the mark that a text is, as seen from a place -/
def absL (l : List UInt8) (pr pc : Int) : Option (Int × Int × Bool × Bool) :=
  if Lib.hasPrefix l [82] then
    match splitC (Lib.trimPrefix l [82]) with
    | none => none
    | some (a, b) => if rightB pr pc then
        match halfL a pr with
        | none => none
        | some (r, fr) => match halfL b pc with
          | none => none
          | some (c, fc) => if rightB r c then some (r, c, fr, fc) else none
      else none
  else none

theorem below_drewN0 (w : World) (n : Nat) : Below w.heap.size w (w.drewN n) := below_drewN (Below.refl _ _) n

theorem cut_some (s : ByteArray) (a b : List UInt8) (h : splitC s.data.toList = some (a, b)) (hs : s.size ≤ 1000) (w : World) (hsh : w.ShapedOpen Tryd.prog) :
    Calls Tryd.prog 36 #[.string s, .string ⟨#[67]⟩] w fun e w' => e = .returned (.tuple #[.string ⟨a.toArray⟩, .string ⟨b.toArray⟩, .bool true]) ∧ Below w.heap.size w w' := by
  refine (Tryd.strings_Cut_shaped s ⟨#[67]⟩ w hsh (by omega)).mono ?_
  rintro e w' ⟨he, n, hw⟩
  have hc := cut_c s.data.toList
  rw [h] at hc
  rw [show (⟨#[67]⟩ : ByteArray).data.toList = [67] from rfl, hc] at he
  exact ⟨he, hw ▸ below_drewN0 w n⟩
theorem cut_none (s : ByteArray) (h : splitC s.data.toList = none) (hs : s.size ≤ 1000) (w : World) (hsh : w.ShapedOpen Tryd.prog) :
    Calls Tryd.prog 36 #[.string s, .string ⟨#[67]⟩] w fun e w' => e = .returned (.tuple #[.string s, .string ⟨#[]⟩, .bool false]) ∧ Below w.heap.size w w' := by
  refine (Tryd.strings_Cut_shaped s ⟨#[67]⟩ w hsh (by omega)).mono ?_
  rintro e w' ⟨he, n, hw⟩
  have hc := cut_c s.data.toList
  rw [h] at hc
  rw [show (⟨#[67]⟩ : ByteArray).data.toList = [67] from rfl, hc] at he
  refine ⟨?_, hw ▸ below_drewN0 w n⟩
  rw [he]
theorem meant_some (s : ByteArray) (f : Int) (h0 : 0 ≤ f) (h1 : f ≤ 9999998) (hs : s.size ≤ 1000) (w : World) (p : Int) (fx : Bool) (h : halfL s.data.toList f = some (p, fx)) :
    Calls Tryd.prog 37 #[.string s, .int .i64 f] w fun e w' => e = .returned (.tuple #[.int .i64 p, .bool fx, .bool true]) ∧ Below w.heap.size w w' := by
  refine (meant_any s f h0 h1 hs w).mono ?_
  rintro e w' ⟨⟨v, he, hv⟩, hb⟩
  rw [h] at hv
  exact ⟨by rw [he, show v = _ from hv], hb⟩
theorem meant_none (s : ByteArray) (f : Int) (h0 : 0 ≤ f) (h1 : f ≤ 9999998) (hs : s.size ≤ 1000) (w : World) (h : halfL s.data.toList f = none) :
    Calls Tryd.prog 37 #[.string s, .int .i64 f] w fun e w' => ∃ (p : Int) (fx : Bool), e = .returned (.tuple #[.int .i64 p, .bool fx, .bool false]) ∧ Below w.heap.size w w' := by
  refine (meant_any s f h0 h1 hs w).mono ?_
  rintro e w' ⟨⟨v, he, hv⟩, hb⟩
  rw [h] at hv
  obtain ⟨p, fx, hv⟩ := hv
  exact ⟨p, fx, by rw [he, hv], hb⟩
theorem rhalf_some (s : ByteArray) (f : Int) (h0 : 0 ≤ f) (h1 : f ≤ 9999998) (hs : s.size ≤ 1000) (w : World) (p : Int) (fx : Bool) (h : halfL s.data.toList f = some (p, fx)) :
    Calls Tryd.prog 38 #[.string s, .int .i64 f] w fun e w' => e = .returned (.tuple #[.int .i64 p, .bool fx, .bool true]) ∧ Below w.heap.size w w' := by
  refine (rhalf_any s f h0 h1 hs w).mono ?_
  rintro e w' ⟨⟨v, he, hv⟩, hb⟩
  rw [h] at hv
  exact ⟨by rw [he, show v = _ from hv], hb⟩
theorem rhalf_none (s : ByteArray) (f : Int) (h0 : 0 ≤ f) (h1 : f ≤ 9999998) (hs : s.size ≤ 1000) (w : World) (h : halfL s.data.toList f = none) :
    Calls Tryd.prog 38 #[.string s, .int .i64 f] w fun e w' => ∃ (p : Int) (fx : Bool), e = .returned (.tuple #[.int .i64 p, .bool fx, .bool false]) ∧ Below w.heap.size w w' := by
  refine (rhalf_any s f h0 h1 hs w).mono ?_
  rintro e w' ⟨⟨v, he, hv⟩, hb⟩
  rw [h] at hv
  obtain ⟨p, fx, hv⟩ := hv
  exact ⟨p, fx, by rw [he, hv], hb⟩

theorem shaped_below {w w' : World} (h : w.ShapedOpen Tryd.prog) (hb : Below w.heap.size w w') : w'.ShapedOpen Tryd.prog :=
  h.keptBut (hb.frame fun _ => False) (fun _ h => h.elim)
theorem splitC_len : ∀ (t a b : List UInt8), splitC t = some (a, b) → t.length ≤ 1000 → a.length ≤ 1000 ∧ b.length ≤ 1000
  | [], _, _, h, _ => by simp [splitC] at h
  | c :: t, a, b, h, hl => by
    have : ∀ (t a b : List UInt8), splitC t = some (a, b) → a.length ≤ t.length ∧ b.length ≤ t.length := by
      intro t
      induction t with
      | nil => intro a b h; simp [splitC] at h
      | cons x t ih =>
        intro a b h
        unfold splitC at h
        split at h
        · simp only [Option.some.injEq, Prod.mk.injEq] at h
          obtain ⟨rfl, rfl⟩ := h; simp
        · cases hs : splitC t with
          | none => rw [hs] at h; cases h
          | some y =>
            obtain ⟨y1, y2⟩ := y
            rw [hs] at h
            simp only [Option.map_some, Option.some.injEq, Prod.mk.injEq] at h
            obtain ⟨rfl, rfl⟩ := h
            have := ih y1 y2 hs
            simp; omega
    have h2 := this _ _ _ h
    omega

set_option maxHeartbeats 1600000 in
set_option maxRecDepth 100000 in
theorem abs_nosplit (s : ByteArray) (pr pc : Int) (w : World) (hs : s.size ≤ 1000) (hsh : w.ShapedOpen Tryd.prog) (b : Bool) (hp : Lib.hasPrefix s.data.toList [82] = b) (hc : splitC (Lib.trimPrefix s.data.toList [82]) = none) :
    Calls Tryd.prog 20 #[.string s, .int .i64 pr, .int .i64 pc] w fun e w' => e = .returned (parseR none) ∧ Below w.heap.size w w' := by
  have hsh0 := shaped_below hsh (below_new w (.cells #[.int .i64 0, .int .i64 0, .bool false, .bool false] 28))
  have htl : (Lib.trimPrefix s.data.toList [82]).length ≤ 1000 := by
    have := trim_len s.data.toList [82]
    rw [size_list] at this; omega
  obtain ⟨t, ht⟩ : ∃ t, Lib.trimPrefix s.data.toList [82] = t := ⟨_, rfl⟩
  rw [ht] at htl hc
  have HT := Lib.hid ht
  have HP := Lib.hid hp
  clear ht hp
  have HC := Lib.hid hc
  clear hc
  cases b
  all_goals
    go_enter Tryd.func20, Tryd.ntmps20
    go_wp2_with fail
    refine (Tryd.strings_CutPrefix _ _ _).mono ?_
    rw [show (⟨#[82]⟩ : ByteArray).data.toList = [82] from rfl, HT.out, HP.out]
    rintro e w' ⟨rfl, rfl⟩
    go_wp2_with fail
    refine (cut_none ⟨t.toArray⟩ HC.out htl _ hsh0).mono ?_
    rintro e w1 ⟨rfl, hb1⟩
    obtain ⟨c0, c1, c2, c3, f0, f1, f2, f3, hz⟩ := four hb1
    have HB := below4 hb1
    clear hb1
    go_wp2_with fail
    refine bodyPost_ret (v := .tuple #[.agg #[.int .i64 0, .int .i64 0, .bool false, .bool false], .bool false]) (by simp [results, Tryd.results20, go_sem, c0, c1, c2, c3]) rfl ⟨rfl, ?_⟩
    exact below_sets HB _ _ _ _

set_option maxHeartbeats 1600000 in
set_option maxRecDepth 100000 in
theorem abs_noprefix (s : ByteArray) (pr pc : Int) (w : World) (hs : s.size ≤ 1000) (hsh : w.ShapedOpen Tryd.prog) (a b : List UInt8) (hp : Lib.hasPrefix s.data.toList [82] = false) (hc : splitC (Lib.trimPrefix s.data.toList [82]) = some (a, b)) :
    Calls Tryd.prog 20 #[.string s, .int .i64 pr, .int .i64 pc] w fun e w' => e = .returned (parseR none) ∧ Below w.heap.size w w' := by
  have hsh0 := shaped_below hsh (below_new w (.cells #[.int .i64 0, .int .i64 0, .bool false, .bool false] 28))
  have htl : (Lib.trimPrefix s.data.toList [82]).length ≤ 1000 := by
    have := trim_len s.data.toList [82]
    rw [size_list] at this; omega
  obtain ⟨t, ht⟩ : ∃ t, Lib.trimPrefix s.data.toList [82] = t := ⟨_, rfl⟩
  rw [ht] at htl hc
  have HT := Lib.hid ht
  have HP := Lib.hid hp
  clear ht hp
  have HC := Lib.hid hc
  clear hc
  go_enter Tryd.func20, Tryd.ntmps20
  go_wp2_with fail
  refine (Tryd.strings_CutPrefix _ _ _).mono ?_
  rw [show (⟨#[82]⟩ : ByteArray).data.toList = [82] from rfl, HT.out, HP.out]
  rintro e w' ⟨rfl, rfl⟩
  go_wp2_with fail
  refine (cut_some ⟨t.toArray⟩ a b HC.out htl _ hsh0).mono ?_
  rintro e w1 ⟨rfl, hb1⟩
  obtain ⟨c0, c1, c2, c3, f0, f1, f2, f3, hz⟩ := four hb1
  have HB := below4 hb1
  clear hb1
  go_wp2_with fail
  refine bodyPost_ret (v := .tuple #[.agg #[.int .i64 0, .int .i64 0, .bool false, .bool false], .bool false]) (by simp [results, Tryd.results20, go_sem, c0, c1, c2, c3]) rfl ⟨rfl, ?_⟩
  exact below_sets HB _ _ _ _

set_option maxHeartbeats 1600000 in
set_option maxRecDepth 100000 in
theorem abs_noplace (s : ByteArray) (pr pc : Int) (w : World) (hs : s.size ≤ 1000) (hsh : w.ShapedOpen Tryd.prog) (a b : List UInt8) (hp : Lib.hasPrefix s.data.toList [82] = true) (hc : splitC (Lib.trimPrefix s.data.toList [82]) = some (a, b)) (hr : rightB pr pc = false) :
    Calls Tryd.prog 20 #[.string s, .int .i64 pr, .int .i64 pc] w fun e w' => e = .returned (parseR none) ∧ Below w.heap.size w w' := by
  have hsh0 := shaped_below hsh (below_new w (.cells #[.int .i64 0, .int .i64 0, .bool false, .bool false] 28))
  have htl : (Lib.trimPrefix s.data.toList [82]).length ≤ 1000 := by
    have := trim_len s.data.toList [82]
    rw [size_list] at this; omega
  obtain ⟨t, ht⟩ : ∃ t, Lib.trimPrefix s.data.toList [82] = t := ⟨_, rfl⟩
  rw [ht] at htl hc
  have HT := Lib.hid ht
  have HP := Lib.hid hp
  clear ht hp
  have HC := Lib.hid hc
  clear hc
  go_enter Tryd.func20, Tryd.ntmps20
  go_wp2_with fail
  refine (Tryd.strings_CutPrefix _ _ _).mono ?_
  rw [show (⟨#[82]⟩ : ByteArray).data.toList = [82] from rfl, HT.out, HP.out]
  rintro e w' ⟨rfl, rfl⟩
  go_wp2_with fail
  refine (cut_some ⟨t.toArray⟩ a b HC.out htl _ hsh0).mono ?_
  rintro e w1 ⟨rfl, hb1⟩
  obtain ⟨c0, c1, c2, c3, f0, f1, f2, f3, hz⟩ := four hb1
  have HB := below4 hb1
  clear hb1
  go_wp2_with fail
  refine (right_any _ _ _).mono ?_
  rw [hr]
  rintro e w' ⟨rfl, rfl⟩
  go_wp2_with fail
  refine bodyPost_ret (v := .tuple #[.agg #[.int .i64 0, .int .i64 0, .bool false, .bool false], .bool false]) (by simp [results, Tryd.results20, go_sem, c0, c1, c2, c3]) rfl ⟨rfl, ?_⟩
  exact below_sets HB _ _ _ _

set_option maxHeartbeats 1600000 in
set_option maxRecDepth 100000 in
theorem abs_nn (s : ByteArray) (pr pc : Int) (w : World) (hs : s.size ≤ 1000) (hsh : w.ShapedOpen Tryd.prog) (a b : List UInt8) (hp : Lib.hasPrefix s.data.toList [82] = true) (hc : splitC (Lib.trimPrefix s.data.toList [82]) = some (a, b)) (hr : rightB pr pc = true) (h1 : halfL a pr = none) (h2 : halfL b pc = none) :
    Calls Tryd.prog 20 #[.string s, .int .i64 pr, .int .i64 pc] w fun e w' => e = .returned (parseR none) ∧ Below w.heap.size w w' := by
  have hsh0 := shaped_below hsh (below_new w (.cells #[.int .i64 0, .int .i64 0, .bool false, .bool false] 28))
  have htl : (Lib.trimPrefix s.data.toList [82]).length ≤ 1000 := by
    have := trim_len s.data.toList [82]
    rw [size_list] at this; omega
  obtain ⟨t, ht⟩ : ∃ t, Lib.trimPrefix s.data.toList [82] = t := ⟨_, rfl⟩
  rw [ht] at htl hc
  have HT := Lib.hid ht
  have HP := Lib.hid hp
  clear ht hp
  have hpl : 0 ≤ pr ∧ pr ≤ 9999998 ∧ 0 ≤ pc ∧ pc ≤ 18277 := by simpa [rightB] using hr
  obtain ⟨p1, p2, p3, p4⟩ := hpl
  have hal : a.length ≤ 1000 ∧ b.length ≤ 1000 := splitC_len t a b hc htl
  obtain ⟨al, bl⟩ := hal
  have HC := Lib.hid hc
  clear hc
  have H1 := Lib.hid h1
  have H2 := Lib.hid h2
  clear h1 h2
  go_enter Tryd.func20, Tryd.ntmps20
  go_wp2_with fail
  refine (Tryd.strings_CutPrefix _ _ _).mono ?_
  rw [show (⟨#[82]⟩ : ByteArray).data.toList = [82] from rfl, HT.out, HP.out]
  rintro e w' ⟨rfl, rfl⟩
  go_wp2_with fail
  refine (cut_some ⟨t.toArray⟩ a b HC.out htl _ hsh0).mono ?_
  rintro e w1 ⟨rfl, hb1⟩
  obtain ⟨c0, c1, c2, c3, f0, f1, f2, f3, hz⟩ := four hb1
  have HB := below4 hb1
  clear hb1
  go_wp2_with fail
  refine (right_any _ _ _).mono ?_
  rw [hr]
  rintro e w' ⟨rfl, rfl⟩
  go_wp2_with fail
  refine (meant_none ⟨a.toArray⟩ pr p1 p2 al _ H1.out).mono ?_
  rintro e w2 ⟨r, fr, rfl, hb2⟩
  obtain ⟨d0, d1, d2, d3, g0, g1, g2, g3, hy⟩ := four2 hz hb2 c0 c1 c2 c3 f0 f1 f2 f3
  have HB2 := HB.trans (hb2.mono HB.size)
  clear hb2 HB hz c0 c1 c2 c3 f0 f1 f2 f3
  go_wp2_with fail
  refine (meant_none ⟨b.toArray⟩ pc p3 (by omega) bl _ H2.out).mono ?_
  rintro e w3 ⟨c, fc, rfl, hb3⟩
  obtain ⟨c0, c1, c2, c3, f0, f1, f2, f3, hz⟩ := four2 hy hb3 d0 d1 d2 d3 g0 g1 g2 g3
  have HB := HB2.trans (hb3.mono HB2.size)
  clear hb3 HB2 hy d0 d1 d2 d3 g0 g1 g2 g3
  go_wp2_with fail
  refine bodyPost_ret (v := .tuple #[.agg #[.int .i64 0, .int .i64 0, .bool false, .bool false], .bool false]) (by simp [results, Tryd.results20, go_sem, c0, c1, c2, c3]) rfl ⟨rfl, ?_⟩
  exact below_sets HB _ _ _ _

set_option maxHeartbeats 1600000 in
set_option maxRecDepth 100000 in
theorem abs_ns (s : ByteArray) (pr pc : Int) (w : World) (hs : s.size ≤ 1000) (hsh : w.ShapedOpen Tryd.prog) (a b : List UInt8) (hp : Lib.hasPrefix s.data.toList [82] = true) (hc : splitC (Lib.trimPrefix s.data.toList [82]) = some (a, b)) (hr : rightB pr pc = true) (h1 : halfL a pr = none) (c : Int) (fc : Bool) (h2 : halfL b pc = some (c, fc)) :
    Calls Tryd.prog 20 #[.string s, .int .i64 pr, .int .i64 pc] w fun e w' => e = .returned (parseR none) ∧ Below w.heap.size w w' := by
  have hsh0 := shaped_below hsh (below_new w (.cells #[.int .i64 0, .int .i64 0, .bool false, .bool false] 28))
  have htl : (Lib.trimPrefix s.data.toList [82]).length ≤ 1000 := by
    have := trim_len s.data.toList [82]
    rw [size_list] at this; omega
  obtain ⟨t, ht⟩ : ∃ t, Lib.trimPrefix s.data.toList [82] = t := ⟨_, rfl⟩
  rw [ht] at htl hc
  have HT := Lib.hid ht
  have HP := Lib.hid hp
  clear ht hp
  have hpl : 0 ≤ pr ∧ pr ≤ 9999998 ∧ 0 ≤ pc ∧ pc ≤ 18277 := by simpa [rightB] using hr
  obtain ⟨p1, p2, p3, p4⟩ := hpl
  have hal : a.length ≤ 1000 ∧ b.length ≤ 1000 := splitC_len t a b hc htl
  obtain ⟨al, bl⟩ := hal
  have HC := Lib.hid hc
  clear hc
  have H1 := Lib.hid h1
  have H2 := Lib.hid h2
  clear h1 h2
  go_enter Tryd.func20, Tryd.ntmps20
  go_wp2_with fail
  refine (Tryd.strings_CutPrefix _ _ _).mono ?_
  rw [show (⟨#[82]⟩ : ByteArray).data.toList = [82] from rfl, HT.out, HP.out]
  rintro e w' ⟨rfl, rfl⟩
  go_wp2_with fail
  refine (cut_some ⟨t.toArray⟩ a b HC.out htl _ hsh0).mono ?_
  rintro e w1 ⟨rfl, hb1⟩
  obtain ⟨c0, c1, c2, c3, f0, f1, f2, f3, hz⟩ := four hb1
  have HB := below4 hb1
  clear hb1
  go_wp2_with fail
  refine (right_any _ _ _).mono ?_
  rw [hr]
  rintro e w' ⟨rfl, rfl⟩
  go_wp2_with fail
  refine (meant_none ⟨a.toArray⟩ pr p1 p2 al _ H1.out).mono ?_
  rintro e w2 ⟨r, fr, rfl, hb2⟩
  obtain ⟨d0, d1, d2, d3, g0, g1, g2, g3, hy⟩ := four2 hz hb2 c0 c1 c2 c3 f0 f1 f2 f3
  have HB2 := HB.trans (hb2.mono HB.size)
  clear hb2 HB hz c0 c1 c2 c3 f0 f1 f2 f3
  go_wp2_with fail
  refine (meant_some ⟨b.toArray⟩ pc p3 (by omega) bl _ c fc H2.out).mono ?_
  rintro e w3 ⟨rfl, hb3⟩
  obtain ⟨c0, c1, c2, c3, f0, f1, f2, f3, hz⟩ := four2 hy hb3 d0 d1 d2 d3 g0 g1 g2 g3
  have HB := HB2.trans (hb3.mono HB2.size)
  clear hb3 HB2 hy d0 d1 d2 d3 g0 g1 g2 g3
  go_wp2_with fail
  refine bodyPost_ret (v := .tuple #[.agg #[.int .i64 0, .int .i64 0, .bool false, .bool false], .bool false]) (by simp [results, Tryd.results20, go_sem, c0, c1, c2, c3]) rfl ⟨rfl, ?_⟩
  exact below_sets HB _ _ _ _

set_option maxHeartbeats 1600000 in
set_option maxRecDepth 100000 in
theorem abs_sn (s : ByteArray) (pr pc : Int) (w : World) (hs : s.size ≤ 1000) (hsh : w.ShapedOpen Tryd.prog) (a b : List UInt8) (hp : Lib.hasPrefix s.data.toList [82] = true) (hc : splitC (Lib.trimPrefix s.data.toList [82]) = some (a, b)) (hr : rightB pr pc = true) (r : Int) (fr : Bool) (h1 : halfL a pr = some (r, fr)) (h2 : halfL b pc = none) :
    Calls Tryd.prog 20 #[.string s, .int .i64 pr, .int .i64 pc] w fun e w' => e = .returned (parseR none) ∧ Below w.heap.size w w' := by
  have hsh0 := shaped_below hsh (below_new w (.cells #[.int .i64 0, .int .i64 0, .bool false, .bool false] 28))
  have htl : (Lib.trimPrefix s.data.toList [82]).length ≤ 1000 := by
    have := trim_len s.data.toList [82]
    rw [size_list] at this; omega
  obtain ⟨t, ht⟩ : ∃ t, Lib.trimPrefix s.data.toList [82] = t := ⟨_, rfl⟩
  rw [ht] at htl hc
  have HT := Lib.hid ht
  have HP := Lib.hid hp
  clear ht hp
  have hpl : 0 ≤ pr ∧ pr ≤ 9999998 ∧ 0 ≤ pc ∧ pc ≤ 18277 := by simpa [rightB] using hr
  obtain ⟨p1, p2, p3, p4⟩ := hpl
  have hal : a.length ≤ 1000 ∧ b.length ≤ 1000 := splitC_len t a b hc htl
  obtain ⟨al, bl⟩ := hal
  have HC := Lib.hid hc
  clear hc
  have H1 := Lib.hid h1
  have H2 := Lib.hid h2
  clear h1 h2
  go_enter Tryd.func20, Tryd.ntmps20
  go_wp2_with fail
  refine (Tryd.strings_CutPrefix _ _ _).mono ?_
  rw [show (⟨#[82]⟩ : ByteArray).data.toList = [82] from rfl, HT.out, HP.out]
  rintro e w' ⟨rfl, rfl⟩
  go_wp2_with fail
  refine (cut_some ⟨t.toArray⟩ a b HC.out htl _ hsh0).mono ?_
  rintro e w1 ⟨rfl, hb1⟩
  obtain ⟨c0, c1, c2, c3, f0, f1, f2, f3, hz⟩ := four hb1
  have HB := below4 hb1
  clear hb1
  go_wp2_with fail
  refine (right_any _ _ _).mono ?_
  rw [hr]
  rintro e w' ⟨rfl, rfl⟩
  go_wp2_with fail
  refine (meant_some ⟨a.toArray⟩ pr p1 p2 al _ r fr H1.out).mono ?_
  rintro e w2 ⟨rfl, hb2⟩
  obtain ⟨d0, d1, d2, d3, g0, g1, g2, g3, hy⟩ := four2 hz hb2 c0 c1 c2 c3 f0 f1 f2 f3
  have HB2 := HB.trans (hb2.mono HB.size)
  clear hb2 HB hz c0 c1 c2 c3 f0 f1 f2 f3
  go_wp2_with fail
  refine (meant_none ⟨b.toArray⟩ pc p3 (by omega) bl _ H2.out).mono ?_
  rintro e w3 ⟨c, fc, rfl, hb3⟩
  obtain ⟨c0, c1, c2, c3, f0, f1, f2, f3, hz⟩ := four2 hy hb3 d0 d1 d2 d3 g0 g1 g2 g3
  have HB := HB2.trans (hb3.mono HB2.size)
  clear hb3 HB2 hy d0 d1 d2 d3 g0 g1 g2 g3
  go_wp2_with fail
  refine bodyPost_ret (v := .tuple #[.agg #[.int .i64 0, .int .i64 0, .bool false, .bool false], .bool false]) (by simp [results, Tryd.results20, go_sem, c0, c1, c2, c3]) rfl ⟨rfl, ?_⟩
  exact below_sets HB _ _ _ _

set_option maxHeartbeats 1600000 in
set_option maxRecDepth 100000 in
theorem abs_out (s : ByteArray) (pr pc : Int) (w : World) (hs : s.size ≤ 1000) (hsh : w.ShapedOpen Tryd.prog) (a b : List UInt8) (hp : Lib.hasPrefix s.data.toList [82] = true) (hc : splitC (Lib.trimPrefix s.data.toList [82]) = some (a, b)) (hr : rightB pr pc = true) (r : Int) (fr : Bool) (h1 : halfL a pr = some (r, fr)) (c : Int) (fc : Bool) (h2 : halfL b pc = some (c, fc)) (hrc : rightB r c = false) :
    Calls Tryd.prog 20 #[.string s, .int .i64 pr, .int .i64 pc] w fun e w' => e = .returned (parseR none) ∧ Below w.heap.size w w' := by
  have hsh0 := shaped_below hsh (below_new w (.cells #[.int .i64 0, .int .i64 0, .bool false, .bool false] 28))
  have htl : (Lib.trimPrefix s.data.toList [82]).length ≤ 1000 := by
    have := trim_len s.data.toList [82]
    rw [size_list] at this; omega
  obtain ⟨t, ht⟩ : ∃ t, Lib.trimPrefix s.data.toList [82] = t := ⟨_, rfl⟩
  rw [ht] at htl hc
  have HT := Lib.hid ht
  have HP := Lib.hid hp
  clear ht hp
  have hpl : 0 ≤ pr ∧ pr ≤ 9999998 ∧ 0 ≤ pc ∧ pc ≤ 18277 := by simpa [rightB] using hr
  obtain ⟨p1, p2, p3, p4⟩ := hpl
  have hal : a.length ≤ 1000 ∧ b.length ≤ 1000 := splitC_len t a b hc htl
  obtain ⟨al, bl⟩ := hal
  have HC := Lib.hid hc
  clear hc
  have H1 := Lib.hid h1
  have H2 := Lib.hid h2
  clear h1 h2
  go_enter Tryd.func20, Tryd.ntmps20
  go_wp2_with fail
  refine (Tryd.strings_CutPrefix _ _ _).mono ?_
  rw [show (⟨#[82]⟩ : ByteArray).data.toList = [82] from rfl, HT.out, HP.out]
  rintro e w' ⟨rfl, rfl⟩
  go_wp2_with fail
  refine (cut_some ⟨t.toArray⟩ a b HC.out htl _ hsh0).mono ?_
  rintro e w1 ⟨rfl, hb1⟩
  obtain ⟨c0, c1, c2, c3, f0, f1, f2, f3, hz⟩ := four hb1
  have HB := below4 hb1
  clear hb1
  go_wp2_with fail
  refine (right_any _ _ _).mono ?_
  rw [hr]
  rintro e w' ⟨rfl, rfl⟩
  go_wp2_with fail
  refine (meant_some ⟨a.toArray⟩ pr p1 p2 al _ r fr H1.out).mono ?_
  rintro e w2 ⟨rfl, hb2⟩
  obtain ⟨d0, d1, d2, d3, g0, g1, g2, g3, hy⟩ := four2 hz hb2 c0 c1 c2 c3 f0 f1 f2 f3
  have HB2 := HB.trans (hb2.mono HB.size)
  clear hb2 HB hz c0 c1 c2 c3 f0 f1 f2 f3
  go_wp2_with fail
  refine (meant_some ⟨b.toArray⟩ pc p3 (by omega) bl _ c fc H2.out).mono ?_
  rintro e w3 ⟨rfl, hb3⟩
  obtain ⟨c0, c1, c2, c3, f0, f1, f2, f3, hz⟩ := four2 hy hb3 d0 d1 d2 d3 g0 g1 g2 g3
  have HB := HB2.trans (hb3.mono HB2.size)
  clear hb3 HB2 hy d0 d1 d2 d3 g0 g1 g2 g3
  go_wp2_with fail
  refine (right_any _ _ _).mono ?_
  rw [hrc]
  rintro e w' ⟨rfl, rfl⟩
  go_wp2_with fail
  refine bodyPost_ret (v := .tuple #[.agg #[.int .i64 0, .int .i64 0, .bool false, .bool false], .bool false]) (by simp [results, Tryd.results20, go_sem, c0, c1, c2, c3]) rfl ⟨rfl, ?_⟩
  exact below_sets HB _ _ _ _

set_option maxHeartbeats 1600000 in
set_option maxRecDepth 100000 in
theorem abs_yes (s : ByteArray) (pr pc : Int) (w : World) (hs : s.size ≤ 1000) (hsh : w.ShapedOpen Tryd.prog) (a b : List UInt8) (hp : Lib.hasPrefix s.data.toList [82] = true) (hc : splitC (Lib.trimPrefix s.data.toList [82]) = some (a, b)) (hr : rightB pr pc = true) (r : Int) (fr : Bool) (h1 : halfL a pr = some (r, fr)) (c : Int) (fc : Bool) (h2 : halfL b pc = some (c, fc)) (hrc : rightB r c = true) :
    Calls Tryd.prog 20 #[.string s, .int .i64 pr, .int .i64 pc] w fun e w' => e = .returned (parseR (some (r, c, fr, fc))) ∧ Below w.heap.size w w' := by
  have hsh0 := shaped_below hsh (below_new w (.cells #[.int .i64 0, .int .i64 0, .bool false, .bool false] 28))
  have htl : (Lib.trimPrefix s.data.toList [82]).length ≤ 1000 := by
    have := trim_len s.data.toList [82]
    rw [size_list] at this; omega
  obtain ⟨t, ht⟩ : ∃ t, Lib.trimPrefix s.data.toList [82] = t := ⟨_, rfl⟩
  rw [ht] at htl hc
  have HT := Lib.hid ht
  have HP := Lib.hid hp
  clear ht hp
  have hpl : 0 ≤ pr ∧ pr ≤ 9999998 ∧ 0 ≤ pc ∧ pc ≤ 18277 := by simpa [rightB] using hr
  obtain ⟨p1, p2, p3, p4⟩ := hpl
  have hal : a.length ≤ 1000 ∧ b.length ≤ 1000 := splitC_len t a b hc htl
  obtain ⟨al, bl⟩ := hal
  have HC := Lib.hid hc
  clear hc
  have H1 := Lib.hid h1
  have H2 := Lib.hid h2
  clear h1 h2
  go_enter Tryd.func20, Tryd.ntmps20
  go_wp2_with fail
  refine (Tryd.strings_CutPrefix _ _ _).mono ?_
  rw [show (⟨#[82]⟩ : ByteArray).data.toList = [82] from rfl, HT.out, HP.out]
  rintro e w' ⟨rfl, rfl⟩
  go_wp2_with fail
  refine (cut_some ⟨t.toArray⟩ a b HC.out htl _ hsh0).mono ?_
  rintro e w1 ⟨rfl, hb1⟩
  obtain ⟨c0, c1, c2, c3, f0, f1, f2, f3, hz⟩ := four hb1
  have HB := below4 hb1
  clear hb1
  go_wp2_with fail
  refine (right_any _ _ _).mono ?_
  rw [hr]
  rintro e w' ⟨rfl, rfl⟩
  go_wp2_with fail
  refine (meant_some ⟨a.toArray⟩ pr p1 p2 al _ r fr H1.out).mono ?_
  rintro e w2 ⟨rfl, hb2⟩
  obtain ⟨d0, d1, d2, d3, g0, g1, g2, g3, hy⟩ := four2 hz hb2 c0 c1 c2 c3 f0 f1 f2 f3
  have HB2 := HB.trans (hb2.mono HB.size)
  clear hb2 HB hz c0 c1 c2 c3 f0 f1 f2 f3
  go_wp2_with fail
  refine (meant_some ⟨b.toArray⟩ pc p3 (by omega) bl _ c fc H2.out).mono ?_
  rintro e w3 ⟨rfl, hb3⟩
  obtain ⟨c0, c1, c2, c3, f0, f1, f2, f3, hz⟩ := four2 hy hb3 d0 d1 d2 d3 g0 g1 g2 g3
  have HB := HB2.trans (hb3.mono HB2.size)
  clear hb3 HB2 hy d0 d1 d2 d3 g0 g1 g2 g3
  go_wp2_with fail
  refine (right_any _ _ _).mono ?_
  rw [hrc]
  rintro e w' ⟨rfl, rfl⟩
  go_wp2_with fail
  refine bodyPost_ret (v := .tuple #[.agg #[.int .i64 r, .int .i64 c, .bool fr, .bool fc], .bool true]) (by simp [results, Tryd.results20, go_sem, c0, c1, c2, c3]) rfl ⟨rfl, ?_⟩
  exact below_sets HB _ _ _ _

/-- Absolute, at every string of at most 1000 bytes -/
theorem absolute_any (s : ByteArray) (pr pc : Int) (w : World) (hs : s.size ≤ 1000) (hsh : w.ShapedOpen Tryd.prog) :
    Calls Tryd.prog 20 #[.string s, .int .i64 pr, .int .i64 pc] w fun e w' => e = .returned (parseR (absL s.data.toList pr pc)) ∧ Below w.heap.size w w' := by
  unfold absL
  cases hc : splitC (Lib.trimPrefix s.data.toList [82]) with
  | none =>
    have := abs_nosplit s pr pc w hs hsh _ rfl hc
    cases Lib.hasPrefix s.data.toList [82] <;> exact this
  | some x =>
    obtain ⟨a, b⟩ := x
    cases hp : Lib.hasPrefix s.data.toList [82] with
    | false => exact abs_noprefix s pr pc w hs hsh a b hp hc
    | true =>
      cases hr : rightB pr pc with
      | false => exact abs_noplace s pr pc w hs hsh a b hp hc hr
      | true =>
        cases h1 : halfL a pr with
        | none =>
          cases h2 : halfL b pc with
          | none => simpa [hr, h1, h2] using abs_nn s pr pc w hs hsh a b hp hc hr h1 h2
          | some y => obtain ⟨c, fc⟩ := y; simpa [hr, h1, h2] using abs_ns s pr pc w hs hsh a b hp hc hr h1 c fc h2
        | some x =>
          obtain ⟨r, fr⟩ := x
          cases h2 : halfL b pc with
          | none => simpa [hr, h1, h2] using abs_sn s pr pc w hs hsh a b hp hc hr r fr h1 h2
          | some y =>
            obtain ⟨c, fc⟩ := y
            cases hrc : rightB r c with
            | false => simpa [hr, h1, h2, hrc] using abs_out s pr pc w hs hsh a b hp hc hr r fr h1 c fc h2 hrc
            | true => simpa [hr, h1, h2, hrc] using abs_yes s pr pc w hs hsh a b hp hc hr r fr h1 c fc h2 hrc
end Go.Proofs.YtkggooemnahgpaaDoor
