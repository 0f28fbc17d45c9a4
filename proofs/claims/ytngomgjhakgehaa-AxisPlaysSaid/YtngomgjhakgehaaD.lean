/- At; where an id stands. -/
import Derived.Test.YtngomgjhakgehaaC
namespace Go.Proofs.Ytngomgjhakgehaa
open Go.RowKit Go.Maps

set_option maxHeartbeats 3200000 in
theorem at_any (p : Option Addr) (l : List Ent) (a : Int) (w : World) (h : AxP w p l) (hlen : l.length ≤ 100000) :
    Calls Try.prog 15 #[.pointer p, .int .i64 a] w fun e w' => e = .returned (.tuple #[.agg #[.int .i64 (atF a 0 l).1.1, .int .i64 (atF a 0 l).1.2], .bool (atF a 0 l).2]) ∧ Below w.heap.size w w' := by
  have hb0 : Below w.heap.size w (w.alloc (.cells #[.int .i64 0, .int .i64 0] 25)) := (Below.refl _ _).alloc (Nat.le_refl _) _
  have H0 := Lib.hid (h.below hb0)
  have HB0 := Lib.hid hb0
  clear h hb0
  obtain ⟨R, hR⟩ : ∃ R, atF a 0 l = R := ⟨_, rfl⟩
  rw [hR]
  have HR := Lib.hid hR
  clear hR
  go_enter Try.func15, Try.ntmps15
  go_wp2_with fail
  refine (entries_any p l _ H0.out).mono ?_
  rintro e w1 ⟨v, rfl, hl, rfl⟩
  obtain ⟨A, c, rfl, hc, hI⟩ := hl
  have HI := Lib.hid hI
  clear hI
  have hz0 : w.heap.size < (w.alloc (.cells #[.int .i64 0, .int .i64 0] 25)).heap.size := by simp
  have hw0 : (w.alloc (.cells #[.int .i64 0, .int .i64 0] 25)).heap[w.heap.size]? = some (.cells #[.int .i64 0, .int .i64 0] 25 (0, 0)) := World.alloc_heap_new w _
  obtain ⟨w2, hw2⟩ : ∃ w2, w.alloc (.cells #[.int .i64 0, .int .i64 0] 25) = w2 := ⟨_, rfl⟩
  rw [hw2] at H0 HB0 HI hz0 hw0 ⊢
  have K0 := Lib.hid hw0
  clear hw2 hw0
  go_wp2_with fail
  go_loopw [6, 12] (fun u i wr => ∃ (k : Nat) (q : Int), k ≤ l.length ∧ i = .int .i64 k ∧ u = .int .i64 q ∧ 0 ≤ q ∧ q ≤ k ∧ atF a q (l.drop k) = R ∧ Below w2.heap.size w2 wr) (fun _ i _ => l.length - (intOf i).toNat)
  case atStart => exact ⟨0, 0, Nat.zero_le _, rfl, rfl, by omega, by omega, HR.out, Below.refl _ _⟩
  case round =>
    obtain ⟨k, q, hk, rfl, rfl, hq0, hqk, hp, hB⟩ := hrel
    have HW := Lib.hid hB
    have HP := Lib.hid hp
    have HK := Lib.hid ((hB.block _ hz0).trans K0.out)
    clear hB hp
    by_cases hlt : k < l.length
    · have hx : l[k]? = some l[k] := List.getElem?_eq_getElem hlt
      have hd : l.drop k = l[k] :: l.drop (k + 1) := List.drop_eq_getElem_cons hlt
      obtain ⟨e, he⟩ : ∃ e, l[k] = e := ⟨_, rfl⟩
      rw [he] at hx hd
      obtain ⟨ad, rfl, c2, c3, c4⟩ := HI.out k e hx
      have hza := cell_lt c2
      rw [add_block] at hza
      have c2' := (HW.out.cell (by rw [add_block]; exact hza)).trans c2
      have c3' := (HW.out.cell (p := ⟨(ad.add (k * 3)).block, _, none⟩) (by simp only [add_block]; exact hza)).trans c3
      have c4' := (HW.out.cell (p := ⟨(ad.add (k * 3)).block, _, none⟩) (by simp only [add_block]; exact hza)).trans c4
      obtain ⟨⟨x, y⟩, b⟩ := e
      have hP := HP.out
      rw [hd] at hP
      have HP2 := Lib.hid hP
      simp only at c2' c3' c4'
      have hi0 : (0 : Int) ≤ ↑k := by omega
      have hi1 : (↑k : Int) < ↑l.length := by omega
      have hi2 : (↑l.length : Int) ≤ ↑c := by omega
      have HB2 := Lib.hid (HW.out.alloc HW.out.size (.cells #[.int .i64 x, .int .i64 y, .bool b] 68))
      have hzw : w.heap.size < wr.heap.size := Nat.lt_of_lt_of_le hz0 HW.out.size
      have HZ := Lib.hid ((Below.heap_alloc wr (.cells #[.int .i64 x, .int .i64 y, .bool b] 68) _ hzw).trans HK.out)
      have HBW := Lib.hid (HB0.out.trans (HB2.out.mono HB0.out.size))
      clear hx hd he c2 c3 c4 hza hP HP
      cases b
      · have hr : atF a q (l.drop (k + 1)) = R := HP2.out.symm.trans (by simp [atF]) |>.symm
        have HR2 := Lib.hid hr
        clear HP2 hr
        go_wp2_with fail
        go_roundw
        case rel => exact ⟨k + 1, q, by omega, by simp, rfl, hq0, by omega, HR2.out, HB2.out⟩
        case measure => simp [intOf]; omega
      · by_cases hqa : q = a
        · have hr : R = ((x, y), true) := HP2.out.symm.trans (by simp [atF, hqa])
          subst hr
          have hqb : (q == a) = true := by simpa using hqa
          clear HP2 hqa
          have hz := HK.out
          have t0 : wr.cell? ⟨w.heap.size, 0, none⟩ = some (.int .i64 0) := by simp [World.cell?, hz]
          have t1 : wr.cell? ⟨w.heap.size, 1, none⟩ = some (.int .i64 0) := by simp [World.cell?, hz]
          have f0 : wr.frozen? ⟨w.heap.size, 0, none⟩ = false := by simp [World.frozen?, hz]
          have f1 : wr.frozen? ⟨w.heap.size, 1, none⟩ = false := by simp [World.frozen?, hz]
          have hbb : Below w.heap.size w (((wr.setCell ⟨w.heap.size, 0, none⟩ (.int .i64 x)).setCell ⟨w.heap.size, 1, none⟩ (.int .i64 y)).alloc (.cells #[.int .i64 x, .int .i64 y, .bool true] 68)) :=
            (((HB0.out.trans (HW.out.mono HB0.out.size)).setCell (p := ⟨w.heap.size, 0, none⟩) (Nat.le_refl _) _).setCell (p := ⟨w.heap.size, 1, none⟩) (Nat.le_refl _) _).alloc (by simp; omega) _
          have HBB := Lib.hid hbb
          have hz2 : ((wr.setCell ⟨w.heap.size, 0, none⟩ (.int .i64 x)).setCell ⟨w.heap.size, 1, none⟩ (.int .i64 y)).heap[w.heap.size]? = some (.cells #[.int .i64 x, .int .i64 y] 25 (0, 0)) := by
            simp [World.setCell, Array.getElem?_modify, hz]
          have HZ2 := Lib.hid hz2
          clear hz hbb hz2
          go_wp2_with fail
          have hz := HZ2.out
          have r0 : ((wr.setCell ⟨w.heap.size, 0, none⟩ (.int .i64 x)).setCell ⟨w.heap.size, 1, none⟩ (.int .i64 y)).cell? ⟨w.heap.size, 0, none⟩ = some (.int .i64 x) := by simp [World.cell?, hz]
          have r1 : ((wr.setCell ⟨w.heap.size, 0, none⟩ (.int .i64 x)).setCell ⟨w.heap.size, 1, none⟩ (.int .i64 y)).cell? ⟨w.heap.size, 1, none⟩ = some (.int .i64 y) := by simp [World.cell?, hz]
          exact bodyPost_ret (v := .tuple #[.agg #[.int .i64 x, .int .i64 y], .bool true]) (by simp [results, Try.f15, go_sem, hzw, r0, r1]) rfl ⟨rfl, HBB.out⟩
        · have hqb : (q == a) = false := by simpa using hqa
          have hr : atF a (q + 1) (l.drop (k + 1)) = R := HP2.out.symm.trans (by simp [atF, hqb]) |>.symm
          have HR2 := Lib.hid hr
          clear HP2 hr hqa
          go_wp2_with fail
          go_roundw
          case rel => exact ⟨k + 1, q + 1, by omega, by simp, by simp, by omega, by omega, HR2.out, HB2.out⟩
          case measure => simp [intOf]; omega
    · obtain rfl : k = l.length := by omega
      have hlt2 : ¬ (↑l.length : Int) < ↑l.length := by omega
      have hr := HP.out
      rw [List.drop_length] at hr
      have hr2 : R = ((0, 0), false) := hr.symm
      subst hr2
      have HBW := Lib.hid (HB0.out.trans (HW.out.mono HB0.out.size))
      clear hr HP
      have hz := HK.out
      have t0 : wr.cell? ⟨w.heap.size, 0, none⟩ = some (.int .i64 0) := by simp [World.cell?, hz]
      have t1 : wr.cell? ⟨w.heap.size, 1, none⟩ = some (.int .i64 0) := by simp [World.cell?, hz]
      have f0 : wr.frozen? ⟨w.heap.size, 0, none⟩ = false := by simp [World.frozen?, hz]
      have f1 : wr.frozen? ⟨w.heap.size, 1, none⟩ = false := by simp [World.frozen?, hz]
      clear hz
      go_wp2_with fail
      have hz := HK.out
      have r0 : ((wr.setCell ⟨w.heap.size, 0, none⟩ (.int .i64 0)).setCell ⟨w.heap.size, 1, none⟩ (.int .i64 0)).cell? ⟨w.heap.size, 0, none⟩ = some (.int .i64 0) := by
        simp [World.cell?, World.setCell, Array.getElem?_modify, hz]
      have r1 : ((wr.setCell ⟨w.heap.size, 0, none⟩ (.int .i64 0)).setCell ⟨w.heap.size, 1, none⟩ (.int .i64 0)).cell? ⟨w.heap.size, 1, none⟩ = some (.int .i64 0) := by
        simp [World.cell?, World.setCell, Array.getElem?_modify, hz]
      exact bodyPost_ret (v := .tuple #[.agg #[.int .i64 0, .int .i64 0], .bool false]) (by simp [results, Try.f15, go_sem, r0, r1]) rfl ⟨rfl, (HBW.out.setCell (p := ⟨w.heap.size, 0, none⟩) (Nat.le_refl _) _).setCell (p := ⟨w.heap.size, 1, none⟩) (Nat.le_refl _) _⟩
end Go.Proofs.Ytngomgjhakgehaa
