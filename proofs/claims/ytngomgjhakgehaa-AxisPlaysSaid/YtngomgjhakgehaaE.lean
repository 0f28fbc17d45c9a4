/- Where an id stands; Has. -/
import Derived.Test.YtngomgjhakgehaaD
namespace Go.Proofs.Ytngomgjhakgehaa
open Go.RowKit Go.Maps

/-- an id's box -/
def IdBox (w : World) (g : Nat) (p : IdP) : Prop := w.cell? ⟨g, 0, none⟩ = some (.int .i64 p.1) ∧ w.cell? ⟨g, 1, none⟩ = some (.int .i64 p.2) ∧ g < w.heap.size
theorem IdBox.below {w w' : World} {g : Nat} {p : IdP} (h : IdBox w g p) (hb : Below w.heap.size w w') : IdBox w' g p :=
  ⟨(hb.cell (p := ⟨g, 0, none⟩) h.2.2).trans h.1, (hb.cell (p := ⟨g, 1, none⟩) h.2.2).trans h.2.1, Nat.lt_of_lt_of_le h.2.2 hb.size⟩
theorem IdBox.new (w : World) (a n : Int) : IdBox (w.alloc (.cells #[.int .i64 a, .int .i64 n] 25)) w.heap.size (a, n) := ⟨(World.cell?_alloc_new _ _ _ _).trans rfl, (World.cell?_alloc_new _ _ _ _).trans rfl, by simp⟩

theorem eq_any (x y : Int) (b : Bool) (g : Nat) (a n : Int) (w : World) (h : IdBox w g (a, n)) :
    Calls Try.prog 40 #[.agg #[.int .i64 x, .int .i64 y, .bool b], .pointer (some ⟨g, 0, none⟩)] w fun e w' => e = .returned (.bool ((x, y) == (a, n))) ∧ Below w.heap.size w w' := by
  obtain ⟨k0, k1, hg⟩ := h
  have hb0 : Below w.heap.size w (w.alloc (.cells #[.int .i64 x, .int .i64 y, .bool b] 68)) := (Below.refl _ _).alloc (Nat.le_refl _) _
  have m0 := (hb0.cell (p := ⟨g, 0, none⟩) hg).trans k0
  have m1 := (hb0.cell (p := ⟨g, 1, none⟩) hg).trans k1
  have HB0 := Lib.hid hb0
  simp only at m0 m1
  clear hb0 k0 k1
  by_cases hxa : x = a
  · subst hxa
    by_cases hyn : y = n
    · subst hyn
      go_enter Try.func40, Try.ntmps40
      go_wp2
      go_ret
      exact ⟨by simp, HB0.out⟩
    · have hyb : (y == n) = false := by simpa using hyn
      have he : ((x, y) == (x, n)) = false := by simpa using hyn
      rw [he]
      clear he hyn
      go_enter Try.func40, Try.ntmps40
      go_wp2
      go_ret
      exact ⟨rfl, HB0.out⟩
  · have hxb : (x == a) = false := by simpa using hxa
    have he : ((x, y) == (a, n)) = false := by simp [hxa]
    rw [he]
    clear he hxa
    go_enter Try.func40, Try.ntmps40
    go_wp2
    go_ret
    exact ⟨rfl, HB0.out⟩

theorem idxE_at {l : List Ent} {p : IdP} {k : Nat} {e : Ent} (hx : l[k]? = some e) (he : (e.1 == p) = true) (hn : ∀ e ∈ l.take k, (e.1 == p) = false) : idxE l p = some k := by
  obtain ⟨hk, hke⟩ := List.getElem?_eq_some_iff.1 hx
  unfold idxE
  refine List.findIdx?_eq_some_iff_getElem.2 ⟨hk, by rw [hke]; exact he, fun j hj => ?_⟩
  have := hn l[j] (List.mem_take_iff_getElem.2 ⟨j, by omega, rfl⟩)
  simpa using this
theorem idxE_none {l : List Ent} {p : IdP} (hn : ∀ e ∈ l, (e.1 == p) = false) : idxE l p = none := by
  unfold idxE
  rw [List.findIdx?_eq_none_iff]
  exact hn
theorem has_find (l : List Ent) (p : IdP) : hasE l p = decide (0 ≤ findE l p) := by
  unfold findE
  cases h : idxE l p with
  | none =>
    unfold idxE at h
    rw [List.findIdx?_eq_none_iff] at h
    have : hasE l p = false := by
      cases h2 : hasE l p with
      | false => rfl
      | true =>
        obtain ⟨e, he, hp⟩ := (hasE_iff l p).1 h2
        have := h e he
        simp [hp] at this
    rw [this]; rfl
  | some i =>
    obtain ⟨b, hb⟩ := idxE_some h
    have : hasE l p = true := (hasE_iff l p).2 ⟨_, List.mem_of_getElem? hb, rfl⟩
    rw [this]; simp

set_option maxHeartbeats 3200000 in
theorem index_any (v : Value) (l : List Ent) (g : Nat) (a n : Int) (w : World) (h : ListAt w v l) (hg : IdBox w g (a, n)) (hlen : l.length ≤ 100000) :
    Calls Try.prog 39 #[v, .func (.func 40) #[] #[.pointer (some ⟨g, 0, none⟩)]] w fun e w' => e = .returned (.int .i64 (findE l (a, n))) ∧ Below w.heap.size w w' := by
  obtain ⟨A, c, rfl, hc, hI⟩ := h
  have HI := Lib.hid hI
  have HG := Lib.hid hg
  clear hI hg
  obtain ⟨R, hR⟩ : ∃ R, findE l (a, n) = R := ⟨_, rfl⟩
  rw [hR]
  have HR := Lib.hid hR
  clear hR
  go_enter Try.func39, Try.ntmps39
  go_wp2_with fail
  go_loopw [8] (fun i wr => ∃ k : Nat, k ≤ l.length ∧ i = .int .i64 k ∧ (∀ e ∈ l.take k, (e.1 == (a, n)) = false) ∧ Below w.heap.size w wr) (fun i _ => l.length - (intOf i).toNat)
  case atStart => exact ⟨0, Nat.zero_le _, rfl, by simp, Below.refl _ _⟩
  case round =>
    obtain ⟨k, hk, rfl, hn, hB⟩ := hrel
    have HW := Lib.hid hB
    have HN := Lib.hid hn
    have GR := Lib.hid (HG.out.below hB)
    clear hB hn
    by_cases hlt : k < l.length
    · have hx : l[k]? = some l[k] := List.getElem?_eq_getElem hlt
      have hd : l.take (k + 1) = l.take k ++ [l[k]] := (List.take_append_getElem hlt).symm
      obtain ⟨e, he⟩ : ∃ e, l[k] = e := ⟨_, rfl⟩
      have HE := Lib.hid he
      rw [he] at hx hd
      have HD := Lib.hid hd
      obtain ⟨ad, rfl, c2, c3, c4⟩ := HI.out k e hx
      have hza := cell_lt c2
      rw [add_block] at hza
      have c2' := (HW.out.cell (by rw [add_block]; exact hza)).trans c2
      have c3' := (HW.out.cell (p := ⟨(ad.add (k * 3)).block, _, none⟩) (by simp only [add_block]; exact hza)).trans c3
      have c4' := (HW.out.cell (p := ⟨(ad.add (k * 3)).block, _, none⟩) (by simp only [add_block]; exact hza)).trans c4
      obtain ⟨⟨x, y⟩, b⟩ := e
      simp only at c2' c3' c4'
      have hi0 : (0 : Int) ≤ ↑k := by omega
      have hi1 : (↑k : Int) < ↑l.length := by omega
      have hi2 : (↑l.length : Int) ≤ ↑c := by omega
      clear hx hd he c2 c3 c4 hza
      go_wp2_with fail
      obtain ⟨r, hr⟩ : ∃ r, ((x, y) == (a, n)) = r := ⟨_, rfl⟩
      have HRR := Lib.hid hr
      clear hr c2' c3' c4'
      refine (eq_any x y b g a n wr GR.out).mono ?_
      rw [HRR.out]
      rintro e w6 ⟨rfl, hb6⟩
      have B6 := Lib.hid (HW.out.trans (hb6.mono HW.out.size))
      clear hb6
      cases r
      · go_wp2_with fail
        go_roundw
        case rel => exact ⟨k + 1, by omega, by simp, fun e he => by
          rw [HD.out] at he
          rcases List.mem_append.1 he with he | he
          · exact HN.out e he
          · simp only [List.mem_singleton] at he; rw [he]; exact HRR.out, B6.out⟩
        case measure => simp [intOf]; omega
      · have hR : R = k := by
          rw [← HR.out]
          unfold findE
          rw [idxE_at (k := k) (e := ((x, y), b)) (by rw [List.getElem?_eq_getElem hlt, HE.out]) HRR.out HN.out]
        subst hR
        go_wp2_with fail
        go_ret
        exact ⟨rfl, B6.out⟩
    · obtain rfl : k = l.length := by omega
      have hlt2 : ¬ (↑l.length : Int) < ↑l.length := by omega
      have hn := HN.out
      rw [List.take_length] at hn
      have hR : R = -1 := by
        rw [← HR.out]
        unfold findE
        rw [idxE_none hn]
      subst hR
      clear hn
      go_wp2
      go_ret
      exact ⟨rfl, HW.out⟩

theorem find_any (p : Option Addr) (l : List Ent) (a n : Int) (w : World) (h : AxP w p l) (hlen : l.length ≤ 100000) :
    Calls Try.prog 34 #[.pointer p, .agg #[.int .i64 a, .int .i64 n]] w fun e w' => e = .returned (.int .i64 (findE l (a, n))) ∧ Below w.heap.size w w' := by
  have hb0 : Below w.heap.size w (w.alloc (.cells #[.int .i64 a, .int .i64 n] 25)) := (Below.refl _ _).alloc (Nat.le_refl _) _
  have H0 := Lib.hid (h.below hb0)
  have HB0 := Lib.hid hb0
  have HG := Lib.hid (IdBox.new w a n)
  have hmf : ∀ (fn : Fn) (first cap : Array Value) (w : World), (Instr.makeFunc fn first cap).run Try.prog w = .ok (.func fn first cap) w := fun _ _ _ _ => rfl
  clear h hb0
  go_enter Try.func34, Try.ntmps34
  go_wp2_with fail
  refine (entries_any p l _ H0.out).mono ?_
  rintro e w1 ⟨v, rfl, hl, rfl⟩
  have HL := Lib.hid hl
  clear hl
  go_wp2_with fail
  refine (index_any v l w.heap.size a n _ HL.out HG.out hlen).mono ?_
  rintro e w2 ⟨rfl, hb2⟩
  have HB2 := Lib.hid (HB0.out.trans (hb2.mono HB0.out.size))
  clear hb2
  go_wp2
  go_ret
  exact ⟨rfl, HB2.out⟩

theorem has_any (p : Option Addr) (l : List Ent) (a n : Int) (w : World) (h : AxP w p l) (hlen : l.length ≤ 100000) :
    Calls Try.prog 20 #[.pointer p, .agg #[.int .i64 a, .int .i64 n]] w fun e w' => e = .returned (.bool (hasE l (a, n))) ∧ Below w.heap.size w w' := by
  have hb0 : Below w.heap.size w (w.alloc (.cells #[.int .i64 a, .int .i64 n] 25)) := (Below.refl _ _).alloc (Nat.le_refl _) _
  have H0 := Lib.hid (h.below hb0)
  have HB0 := Lib.hid hb0
  obtain ⟨k0, k1, _⟩ := IdBox.new w a n
  simp only at k0 k1
  obtain ⟨r, hr⟩ : ∃ r, findE l (a, n) = r := ⟨_, rfl⟩
  have hh := has_find l (a, n)
  rw [hr] at hh
  rw [hh]
  have HR := Lib.hid hr
  clear h hb0 hr hh
  go_enter Try.func20, Try.ntmps20
  go_wp2_with fail
  refine (find_any p l a n _ H0.out hlen).mono ?_
  rw [HR.out]
  rintro e w2 ⟨rfl, hb2⟩
  have HB2 := Lib.hid (HB0.out.trans (hb2.mono HB0.out.size))
  clear hb2 k0 k1
  by_cases hr0 : 0 ≤ r
  · go_wp2
    go_ret
    exact ⟨by simp [hr0], HB2.out⟩
  · go_wp2
    go_ret
    exact ⟨by simp, HB2.out⟩
end Go.Proofs.Ytngomgjhakgehaa
