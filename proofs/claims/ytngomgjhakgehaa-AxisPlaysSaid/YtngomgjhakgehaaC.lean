/- What lies where: a list of entries, an axis. Place, At. -/
import Derived.Test.YtngomgjhakgehaaB
import Derived.RangeFuncBox
import Derived.WalkKit
import Derived.Maps.OwnIn
import Derived.Lib.Hide
namespace Go.Proofs.Ytngomgjhakgehaa
open Go.RowKit Go.Maps

/-- of what was there, S aside, nothing has turned -/
structure Only (S : Nat → Prop) (w w' : World) : Prop where
  os : w'.os = w.os
  tape : w'.tape = w.tape
  output : w'.output = w.output
  size : w.heap.size ≤ w'.heap.size
  block : ∀ k, k < w.heap.size → ¬ S k → w'.heap[k]? = w.heap[k]?
section
variable {S T : Nat → Prop} {w w' w2 : World}
theorem Only.refl (S : Nat → Prop) (w : World) : Only S w w := ⟨rfl, rfl, rfl, Nat.le_refl _, fun _ _ _ => rfl⟩
theorem Only.trans (h : Only S w w') (k : Only T w' w2) (hT : ∀ b, T b → b < w.heap.size → S b) : Only S w w2 :=
  ⟨k.os.trans h.os, k.tape.trans h.tape, k.output.trans h.output, Nat.le_trans h.size k.size, fun b hb hs =>
    (k.block b (Nat.lt_of_lt_of_le hb h.size) (fun ht => hs (hT b ht hb))).trans (h.block b hb hs)⟩
theorem Only.mono (h : Only S w w') (hS : ∀ b, S b → b < w.heap.size → T b) : Only T w w' :=
  ⟨h.os, h.tape, h.output, h.size, fun b hb hs => h.block b hb (fun k => hs (hS b k hb))⟩
theorem Only.of_below {n : Nat} (h : Below n w w') : Only (fun b => n ≤ b) w w' := ⟨h.os, h.tape, h.output, h.size, fun b _ hs => h.block b (by omega)⟩
theorem Only.below {n : Nat} (h : Only S w w') (hn : n ≤ w.heap.size) (hS : ∀ b, S b → n ≤ b) : Below n w w' := ⟨h.os, h.tape, h.output, h.size, fun b hb => h.block b (by omega) (fun k => absurd (hS b k) (by omega))⟩
theorem Only.of_grown {row : Option Nat} (h : w.grownBy w' row) : Only (fun b => row = some b) w w' := ⟨h.os, h.tape, h.output, h.size, fun b hb hs => h.block b hb (fun k => hs k.symm)⟩
theorem Only.drew (h : Only S w w') : Only S w w'.drew := ⟨h.os, h.tape, h.output, h.size, h.block⟩
end

theorem box_lt {w : World} {s : Nat} {t : TypeId} {v : Value} (h : Boxed w s t v) : s < w.heap.size := (Array.getElem?_eq_some_iff.1 h).1
theorem box_kept {w w' : World} {s : Nat} {t : TypeId} {v : Value} (h : Boxed w s t v) (hb : w'.heap[s]? = w.heap[s]?) : Boxed w' s t v := hb.trans h
theorem add_block (a : Addr) (n : Nat) : (a.add n).block = a.block := by unfold Addr.add; split <;> rfl
theorem cell_lt {w : World} {a : Addr} {v : Value} (h : w.cell? a = some v) : a.block < w.heap.size := by
  rcases Nat.lt_or_ge a.block w.heap.size with hlt | hge
  · exact hlt
  · unfold World.cell? at h; rw [Array.getElem?_eq_none hge] at h; simp at h

def idV (p : IdP) : Value := .agg #[.int .i64 p.1, .int .i64 p.2]
def entV (e : Ent) : Value := .agg #[idV e.1, .bool e.2]
/-- a slice of entries -/
def ListAt (w : World) (v : Value) (l : List Ent) : Prop :=
  ∃ A c, v = .slice A l.length c ∧ l.length ≤ c ∧ ∀ (k : Nat) e, l[k]? = some e → ∃ ad, A = some ad ∧ w.cell? (ad.add (k * 3)) = some (.int .i64 e.1.1) ∧ w.cell? ⟨(ad.add (k * 3)).block, (ad.add (k * 3)).off + 1, none⟩ = some (.int .i64 e.1.2) ∧ w.cell? ⟨(ad.add (k * 3)).block, (ad.add (k * 3)).off + 2, none⟩ = some (.bool e.2)
theorem ListAt.below {w w' : World} {v : Value} {l : List Ent} (h : ListAt w v l) (hb : Below w.heap.size w w') : ListAt w' v l := by
  obtain ⟨A, c, hv, hc, h⟩ := h
  refine ⟨A, c, hv, hc, fun k e hk => ?_⟩
  obtain ⟨ad, hA, h1, h2, h3⟩ := h k e hk
  exact ⟨ad, hA, (hb.cell (cell_lt h1)).trans h1, (hb.cell (cell_lt h2)).trans h2, (hb.cell (cell_lt h3)).trans h3⟩
theorem ListAt.nil (w : World) : ListAt w (.slice none 0 0) [] := ⟨none, 0, rfl, Nat.le_refl _, fun k p h => by simp at h⟩

/-- an axis that isn't there, or one at a block whose list can be read -/
def AxP (w : World) (p : Option Addr) (l : List Ent) : Prop := (p = none ∧ l = []) ∨ ∃ s v, p = some ⟨s, 0, none⟩ ∧ Boxed w s 54 v ∧ ListAt w v l
theorem AxP.below {w w' : World} {p : Option Addr} {l : List Ent} (h : AxP w p l) (hb : Below w.heap.size w w') : AxP w' p l := by
  rcases h with h | ⟨s, v, hp, h1, h2⟩
  · exact .inl h
  · exact .inr ⟨s, v, hp, box_kept h1 (hb.block s (box_lt h1)), h2.below hb⟩

theorem entries_any (p : Option Addr) (l : List Ent) (w : World) (h : AxP w p l) : Calls Try.prog 32 #[.pointer p] w fun e w' => ∃ v, e = .returned v ∧ ListAt w v l ∧ w = w' := by
  rcases h with ⟨rfl, rfl⟩ | ⟨s, v, rfl, hb, hl⟩
  · go_enter Try.func32, Try.ntmps32
    go_wp2
    go_ret
    exact ⟨_, rfl, ListAt.nil w, rfl⟩
  · have hc := hb.cell
    obtain ⟨A, c, rfl, _, _⟩ := id hl
    have HL := Lib.hid hl
    clear hl hb
    go_enter Try.func32, Try.ntmps32
    go_wp2
    go_ret
    exact ⟨_, rfl, HL.out, rfl⟩

set_option maxHeartbeats 3200000 in
theorem place_any (p : Option Addr) (l : List Ent) (a n : Int) (w : World) (h : AxP w p l) (hlen : l.length ≤ 100000) :
    Calls Try.prog 16 #[.pointer p, .agg #[.int .i64 a, .int .i64 n]] w fun e w' => e = .returned (.tuple #[.int .i64 (placeF (a, n) 0 l).1, .bool (placeF (a, n) 0 l).2]) ∧ Below w.heap.size w w' := by
  have hb0 : Below w.heap.size w (w.alloc (.cells #[.int .i64 a, .int .i64 n] 25)) := (Below.refl _ _).alloc (Nat.le_refl _) _
  have H0 := Lib.hid (h.below hb0)
  have HB0 := Lib.hid hb0
  clear h hb0
  obtain ⟨R, hR⟩ : ∃ R, placeF (a, n) 0 l = R := ⟨_, rfl⟩
  rw [hR]
  have HR := Lib.hid hR
  clear hR
  go_enter Try.func16, Try.ntmps16
  go_wp2_with fail
  refine (entries_any p l _ H0.out).mono ?_
  rintro e w1 ⟨v, rfl, hl, rfl⟩
  have HL := Lib.hid hl
  obtain ⟨A, c, rfl, hc, hI⟩ := hl
  have HI := Lib.hid hI
  clear hI
  have hz0 : w.heap.size < (w.alloc (.cells #[.int .i64 a, .int .i64 n] 25)).heap.size := by simp
  have hk0 : (w.alloc (.cells #[.int .i64 a, .int .i64 n] 25)).cell? ⟨w.heap.size, 0, none⟩ = some (.int .i64 a) := (World.cell?_alloc_new _ _ _ _).trans rfl
  have hk1 : (w.alloc (.cells #[.int .i64 a, .int .i64 n] 25)).cell? ⟨w.heap.size, 1, none⟩ = some (.int .i64 n) := (World.cell?_alloc_new _ _ _ _).trans rfl
  obtain ⟨w2, hw2⟩ : ∃ w2, w.alloc (.cells #[.int .i64 a, .int .i64 n] 25) = w2 := ⟨_, rfl⟩
  rw [hw2] at H0 HB0 HL HI hz0 hk0 hk1 ⊢
  have K0 := Lib.hid hk0
  have K1 := Lib.hid hk1
  clear hw2 hk0 hk1
  go_wp2_with fail
  go_loopw [6, 12] (fun u i wr => ∃ (k : Nat) (q : Int), k ≤ l.length ∧ i = .int .i64 k ∧ u = .int .i64 q ∧ 0 ≤ q ∧ q ≤ k ∧ placeF (a, n) q (l.drop k) = R ∧ Below w2.heap.size w2 wr) (fun _ i _ => l.length - (intOf i).toNat)
  case atStart => exact ⟨0, 0, Nat.zero_le _, rfl, rfl, by omega, by omega, HR.out, Below.refl _ _⟩
  case round =>
    obtain ⟨k, q, hk, rfl, rfl, hq0, hqk, hp, hB⟩ := hrel
    have HW := Lib.hid hB
    have HP := Lib.hid hp
    have k0 := (hB.cell hz0).trans K0.out
    have k1 := (hB.cell hz0).trans K1.out
    clear hB hp
    by_cases hlt : k < l.length
    · have hx : l[k]? = some l[k] := List.getElem?_eq_getElem hlt
      have hd : l.drop k = l[k] :: l.drop (k + 1) := List.drop_eq_getElem_cons hlt
      obtain ⟨e, he⟩ : ∃ e, l[k] = e := ⟨_, rfl⟩
      rw [he] at hx hd
      obtain ⟨ad, rfl, c2, c3, c4⟩ := HI.out k e hx
      have hza := cell_lt c2
      rw [add_block] at hza
      have c2' := (HW.out.cell (by rw [add_block]; exact hza)).trans c2
      have c3' := (HW.out.cell (p := ⟨(ad.add (k * 3)).block, _, none⟩) (by simp only [add_block]; exact hza)).trans c3
      have c4' := (HW.out.cell (p := ⟨(ad.add (k * 3)).block, _, none⟩) (by simp only [add_block]; exact hza)).trans c4
      obtain ⟨⟨x, y⟩, b⟩ := e
      have hP := HP.out
      rw [hd] at hP
      have HP2 := Lib.hid hP
      simp only at c2' c3' c4'
      have hi0 : (0 : Int) ≤ ↑k := by omega
      have hi1 : (↑k : Int) < ↑l.length := by omega
      have hi2 : (↑l.length : Int) ≤ ↑c := by omega
      have HB2 := Lib.hid (HW.out.alloc HW.out.size (.cells #[.int .i64 x, .int .i64 y, .bool b] 68))
      have hzw : w.heap.size < wr.heap.size := Nat.lt_of_lt_of_le hz0 HW.out.size
      have hw3 : Below wr.heap.size wr (wr.alloc (.cells #[.int .i64 x, .int .i64 y, .bool b] 68)) := (Below.refl _ _).alloc (Nat.le_refl _) _
      have m0 := (hw3.cell (p := ⟨w.heap.size, 0, none⟩) hzw).trans k0
      have m1 := (hw3.cell (p := ⟨w.heap.size, 1, none⟩) hzw).trans k1
      clear hx hd he c2 c3 c4 hza hP HP hw3 k0 k1
      by_cases hxy : x = a ∧ y = n
      · obtain ⟨rfl, rfl⟩ := hxy
        cases b
        · have hr : R = (0, false) := HP2.out.symm.trans (by simp [placeF])
          subst hr
          clear HP2
          go_wp2_with fail
          exact bodyPost_ret (v := .tuple #[.int .i64 0, .bool false]) (by simp [results, Try.f16, go_sem]) rfl ⟨rfl, HB0.out.trans (HB2.out.mono HB0.out.size)⟩
        · have hr : R = (q, true) := HP2.out.symm.trans (by simp [placeF])
          subst hr
          clear HP2
          go_wp2_with fail
          exact bodyPost_ret (v := .tuple #[.int .i64 q, .bool true]) (by simp [results, Try.f16, go_sem]) rfl ⟨rfl, HB0.out.trans (HB2.out.mono HB0.out.size)⟩
      · have hxe : ((x, y) == (a, n)) = false := by simpa using hxy
        by_cases hxa : x = a
        · have hax : a = x := hxa.symm
          subst hax
          clear hxa
          have hyb : (y == n) = false := by simp at hxy; simpa using hxy
          clear hxy
          cases b
          · have hr : placeF (a, n) q (l.drop (k + 1)) = R := HP2.out.symm.trans (by simp [placeF, hxe]) |>.symm
            have HR2 := Lib.hid hr
            clear HP2 hr hxe
            go_wp2_with fail
            go_roundw
            case rel => exact ⟨k + 1, q, by omega, by simp, rfl, hq0, by omega, HR2.out, HB2.out⟩
            case measure => simp [intOf]; omega
          · have hr : placeF (a, n) (q + 1) (l.drop (k + 1)) = R := HP2.out.symm.trans (by simp [placeF, hxe]) |>.symm
            have HR2 := Lib.hid hr
            clear HP2 hr hxe
            go_wp2_with fail
            go_roundw
            case rel => exact ⟨k + 1, q + 1, by omega, by simp, by simp, by omega, by omega, HR2.out, HB2.out⟩
            case measure => simp [intOf]; omega
        · have hxb : (x == a) = false := by simpa using hxa
          clear hxy hxa
          cases b
          · have hr : placeF (a, n) q (l.drop (k + 1)) = R := HP2.out.symm.trans (by simp [placeF, hxe]) |>.symm
            have HR2 := Lib.hid hr
            clear HP2 hr hxe
            go_wp2_with fail
            go_roundw
            case rel => exact ⟨k + 1, q, by omega, by simp, rfl, hq0, by omega, HR2.out, HB2.out⟩
            case measure => simp [intOf]; omega
          · have hr : placeF (a, n) (q + 1) (l.drop (k + 1)) = R := HP2.out.symm.trans (by simp [placeF, hxe]) |>.symm
            have HR2 := Lib.hid hr
            clear HP2 hr hxe
            go_wp2_with fail
            go_roundw
            case rel => exact ⟨k + 1, q + 1, by omega, by simp, by simp, by omega, by omega, HR2.out, HB2.out⟩
            case measure => simp [intOf]; omega
    · obtain rfl : k = l.length := by omega
      have hlt2 : ¬ (↑l.length : Int) < ↑l.length := by omega
      have hr := HP.out
      rw [List.drop_length] at hr
      have hr2 : R = (0, false) := hr.symm
      subst hr2
      clear hr HP
      go_wp2
      exact bodyPost_ret (v := .tuple #[.int .i64 0, .bool false]) (by simp [results, Try.f16, go_sem]) rfl ⟨rfl, HB0.out.trans (HW.out.mono HB0.out.size)⟩
end Go.Proofs.Ytngomgjhakgehaa
