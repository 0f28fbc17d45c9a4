/- Before (both), the document's Next, Covers and Join. -/
import Derived.Test.YtggcnglnclpaeaaL
import Derived.Test.YtggcnglnclpaeaaG
namespace Go.Proofs.Ytggcnglnclpaeaa
open Go.RowKit Go.Maps

theorem bef_cases (a b : Int × Int) : (a.2 < b.2) ∨ (a.2 = b.2 ∧ a.1 < b.1) ∨ (a.2 = b.2 ∧ ¬ a.1 < b.1) ∨ (b.2 < a.2) := by omega
set_option maxHeartbeats 1600000 in
theorem before_any (a b : Int × Int) (w : World) : Calls Try.prog 25 #[idV a.1 a.2, idV b.1 b.2] w fun e w' => e = .returned (.bool (befB a b)) ∧ Below w.heap.size w w' := by
  obtain ⟨a1, a2⟩ := a
  obtain ⟨b1, b2⟩ := b
  unfold idV
  have hb : Below w.heap.size w ((w.alloc (.cells #[.int .i64 a1, .int .i64 a2] 24)).alloc (.cells #[.int .i64 b1, .int .i64 b2] 24)) := ((Below.refl _ _).alloc (Nat.le_refl _) _).alloc (by simp) _
  have HB := Lib.hid hb
  clear hb
  by_cases h1 : a2 < b2
  · go_enter Try.func25, Try.ntmps25
    go_wp2
    go_ret
    exact ⟨by simp [befB, h1], HB.out⟩
  · by_cases h2 : a2 = b2
    · subst h2
      by_cases h3 : a1 < b1
      all_goals
        go_enter Try.func25, Try.ntmps25
        go_wp2
        go_ret
        exact ⟨by simp [befB, h3], HB.out⟩
    · have h4 : (a2 == b2) = false := by simpa using h2
      go_enter Try.func25, Try.ntmps25
      go_wp2
      go_ret
      exact ⟨by simp [befB, h2]; omega, HB.out⟩
set_option maxHeartbeats 1600000 in
theorem rbefore_any (a b : Int × Int) (w : World) : Calls Try.prog 26 #[idV a.1 a.2, idV b.1 b.2] w fun e w' => e = .returned (.bool (befB a b)) ∧ Below w.heap.size w w' := by
  obtain ⟨a1, a2⟩ := a
  obtain ⟨b1, b2⟩ := b
  unfold idV
  have hb : Below w.heap.size w ((w.alloc (.cells #[.int .i64 a1, .int .i64 a2] 24)).alloc (.cells #[.int .i64 b1, .int .i64 b2] 24)) := ((Below.refl _ _).alloc (Nat.le_refl _) _).alloc (by simp) _
  have HB := Lib.hid hb
  clear hb
  by_cases h1 : a2 < b2
  · go_enter Try.func26, Try.ntmps26
    go_wp2
    go_ret
    exact ⟨by simp [befB, h1], HB.out⟩
  · by_cases h2 : a2 = b2
    · subst h2
      by_cases h3 : a1 < b1
      all_goals
        go_enter Try.func26, Try.ntmps26
        go_wp2
        go_ret
        exact ⟨by simp [befB, h3], HB.out⟩
    · have h4 : (a2 == b2) = false := by simpa using h2
      go_enter Try.func26, Try.ntmps26
      go_wp2
      go_ret
      exact ⟨by simp [befB, h2]; omega, HB.out⟩

theorem two_new (w : World) (x y : Value) : Two (w.alloc (.cells #[x, y] 24)) w.heap.size x y := World.alloc_heap_new w _
theorem res_two (w : World) (x y : Int) (tmps : Array Value) (h4 : tmps[4]?.getD undef = .pointer (some ⟨w.heap.size, 0, none⟩)) : (results Try.f18 tmps).run Try.prog (w.alloc (.cells #[.int .i64 x, .int .i64 y] 24)) = .ok (idV x y) (w.alloc (.cells #[.int .i64 x, .int .i64 y] 24)) := by
  obtain ⟨c0, c1⟩ := two_cells (two_new w (.int .i64 x) (.int .i64 y))
  simp [results, Try.f18, go_sem, h4, c0, c1, idV]
set_option maxHeartbeats 3200000 in
theorem rnext_any (v : Value) (l : Row) (a : Int) (w : World) (h : IdsAt w v l) (hok : OkR l) (hlen : l.length ≤ 100000) :
    Calls Try.prog 18 #[v, .int .i64 a] w fun e w' => e = .returned (idV (nextL l a).1 (nextL l a).2) ∧ Below w.heap.size w w' := by
  obtain ⟨A, c, rfl, hc, hI⟩ := h
  have HI := Lib.hid hI
  have hbd := mostL_bd hok
  have hb0 : Below w.heap.size w (w.alloc (.cells #[.int .i64 0, .int .i64 0] 24)) := (Below.refl _ _).alloc (Nat.le_refl _) _
  have HB0 := Lib.hid hb0
  have HT0 := Lib.hid (show Two (w.alloc (.cells #[.int .i64 0, .int .i64 0] 24)) w.heap.size (.int .i64 0) (.int .i64 0) from World.alloc_heap_new w _)
  obtain ⟨m, hm⟩ : ∃ m, mostL l = m := ⟨_, rfl⟩
  rw [hm] at hbd
  obtain ⟨hm0, hm1⟩ := hbd
  have HM := Lib.hid hm
  clear hI hm hok hb0
  go_enter Try.func18, Try.ntmps18
  go_wp2
  go_loop [5, 6] (fun o i => ∃ k : Nat, k ≤ l.length ∧ i = .int .i64 k ∧ o = .int .i64 (mostL (l.take k))) (fun _ i => l.length - (intOf i).toNat)
  case atStart => exact ⟨0, Nat.zero_le _, rfl, rfl⟩
  case round =>
    obtain ⟨k, hk, rfl, rfl⟩ := hrel
    obtain ⟨q, hq⟩ : ∃ q, mostL (l.take k) = q := ⟨_, rfl⟩
    by_cases hlt : k < l.length
    · have hx : l[k]? = some l[k] := List.getElem?_eq_getElem hlt
      obtain ⟨p, hp⟩ : ∃ p, l[k] = p := ⟨_, rfl⟩
      rw [hp] at hx
      have hsn : mostL (l.take (k + 1)) = max q p.2 := by rw [List.take_add_one, hx]; exact (mostL_snoc _ _).trans (by rw [hq])
      have HSN := Lib.hid hsn
      obtain ⟨ad, rfl, c2, c3⟩ := HI.out k p hx
      have hza := cell_lt c2
      rw [add_block] at hza
      have c2' := (HB0.out.cell (by rw [add_block]; exact hza)).trans c2
      have c3' := (HB0.out.cell (p := ⟨(ad.add (k * 2)).block, _, none⟩) (by simp only [add_block]; exact hza)).trans c3
      obtain ⟨x, y⟩ := p
      have hi0 : (0 : Int) ≤ ↑k := by omega
      have hi1 : (↑k : Int) < ↑l.length := by omega
      have hi2 : (↑l.length : Int) ≤ ↑c := by omega
      rw [hq]
      clear hp hx hsn c2 c3 hq
      by_cases hyq : q < y
      · go_wp2
        go_round
        case rel => exact ⟨k + 1, by omega, by simp, by rw [HSN.out]; congr 1; simp only; omega⟩
        case measure => simp [intOf]; omega
      · go_wp2
        go_round
        case rel => exact ⟨k + 1, by omega, by simp, by rw [HSN.out]; congr 1; simp only; omega⟩
        case measure => simp [intOf]; omega
    · obtain rfl : k = l.length := by omega
      have hlt2 : ¬ (↑l.length : Int) < ↑l.length := by omega
      rw [List.take_length, HM.out] at hq
      subst hq
      rw [List.take_length, HM.out]
      obtain ⟨t0, t1⟩ := two_cells HT0.out
      by_cases h1 : 1 ≤ a
      · by_cases h2 : a ≤ 1000
        · by_cases hmx : m = 9223372036854775807
          · subst hmx
            go_wp2
            exact bodyPost_ret (v := idV 0 0) (res_two w 0 0 _ rfl) rfl ⟨by rw [show nextL l a = (0, 0) by unfold nextL; rw [HM.out]; simp], (Below.refl _ _).alloc (Nat.le_refl _) _⟩
          · have hb1 : (m == 9223372036854775807) = false := by simpa using hmx
            have hm2 : m + 1 ≤ 9223372036854775807 := by omega
            go_wp2
            exact bodyPost_ret (v := idV a (m + 1)) (res_two w a (m + 1) _ rfl) rfl ⟨by rw [show nextL l a = (a, (m + 1)) by unfold nextL; rw [HM.out]; simp [h1, h2, hmx]], (Below.refl _ _).alloc (Nat.le_refl _) _⟩
        · go_wp2
          exact bodyPost_ret (v := idV 0 0) (res_two w 0 0 _ rfl) rfl ⟨by rw [show nextL l a = (0, 0) by unfold nextL; rw [HM.out]; simp; omega], (Below.refl _ _).alloc (Nat.le_refl _) _⟩
      · go_wp2
        exact bodyPost_ret (v := idV 0 0) (res_two w 0 0 _ rfl) rfl ⟨by rw [show nextL l a = (0, 0) by unfold nextL; rw [HM.out]; simp; omega], (Below.refl _ _).alloc (Nat.le_refl _) _⟩

set_option maxHeartbeats 3200000 in
theorem rcovers_any (u v : Value) (l m : Row) (w : World) (hu : IdsAt w u l) (h : IdsAt w v m) (hok : OkR l) (hlen : l.length ≤ 100000) (hlen2 : m.length ≤ 100000) :
    Calls Try.prog 21 #[u, v] w fun e w' => e = .returned (.bool (covB l m)) ∧ Below w.heap.size w w' := by
  obtain ⟨A, c, rfl, hc, hI⟩ := h
  have HI := Lib.hid hI
  have HH : Hid (∀ (x y : Int) w1, Below w.heap.size w w1 → Calls Try.prog 16 #[u, .agg #[.int .i64 x, .int .i64 y]] w1 fun e w' => e = .returned (.bool (hasB l x y)) ∧ Below w1.heap.size w1 w') := Lib.hid (fun x y w1 hb => rhas_any u l x y w1 (hu.below hb) hok hlen)
  clear hI hu hok
  go_enter Try.func21, Try.ntmps21
  go_wp2
  go_loopw [5] (fun i wr => ∃ k : Nat, k ≤ m.length ∧ i = .int .i64 k ∧ (∀ j p, j < k → m[j]? = some p → hasB l p.1 p.2 = true) ∧ Below w.heap.size w wr) (fun i _ => m.length - (intOf i).toNat)
  case atStart => exact ⟨0, Nat.zero_le _, rfl, fun j p hj => by omega, Below.refl _ _⟩
  case round =>
    obtain ⟨k, hk, rfl, hall, hB⟩ := hrel
    have HB := Lib.hid hB
    have HA := Lib.hid hall
    clear hB hall
    by_cases hlt : k < m.length
    · have hx : m[k]? = some m[k] := List.getElem?_eq_getElem hlt
      obtain ⟨p, hp⟩ : ∃ p, m[k] = p := ⟨_, rfl⟩
      rw [hp] at hx
      obtain ⟨ad, rfl, c2, c3⟩ := HI.out k p hx
      have hza := cell_lt c2
      rw [add_block] at hza
      have c2' := (HB.out.cell (by rw [add_block]; exact hza)).trans c2
      have c3' := (HB.out.cell (p := ⟨(ad.add (k * 2)).block, _, none⟩) (by simp only [add_block]; exact hza)).trans c3
      have HX := Lib.hid hx
      obtain ⟨x, y⟩ := p
      have hi0 : (0 : Int) ≤ ↑k := by omega
      have hi1 : (↑k : Int) < ↑m.length := by omega
      have hi2 : (↑m.length : Int) ≤ ↑c := by omega
      obtain ⟨q, hq⟩ : ∃ q, hasB l x y = q := ⟨_, rfl⟩
      have HC := Lib.hid (HH.out x y wr HB.out)
      rw [hq] at HC
      have HQ := Lib.hid hq
      clear hp hx c2 c3 hq
      cases q
      · have hfin : covB l m = false := by
          unfold covB
          rw [List.all_eq_false]
          exact ⟨(x, y), List.mem_of_getElem? HX.out, by simp only; rw [HQ.out]; simp⟩
        have HF := Lib.hid hfin
        clear hfin
        go_wp2_with (go_at_call 16; refine HC.out.mono ?_; rintro e w1 ⟨rfl, hb1⟩)
        go_ret
        exact ⟨by rw [HF.out]; rfl, HB.out.trans (hb1.mono HB.out.size)⟩
      · go_wp2_with (go_at_call 16; refine HC.out.mono ?_; rintro e w1 ⟨rfl, hb1⟩)
        go_roundw
        case rel =>
          refine ⟨k + 1, by omega, by simp, fun j p hj hp => ?_, HB.out.trans (hb1.mono HB.out.size)⟩
          by_cases e : j = k
          · subst e; rw [HX.out] at hp; injection hp with hp; subst hp; exact HQ.out
          · exact HA.out j p (by omega) hp
        case measure => simp [intOf]; omega
    · obtain rfl : k = m.length := by omega
      have hfin : covB l m = true := by
        unfold covB
        rw [List.all_eq_true]
        intro p hp
        obtain ⟨j, hj, hj2⟩ := List.getElem_of_mem hp
        exact HA.out j p hj (by rw [List.getElem?_eq_getElem hj, hj2])
      have HF := Lib.hid hfin
      have hlt2 : ¬ (↑m.length : Int) < ↑m.length := by omega
      clear hfin
      go_wp2
      go_ret
      exact ⟨by rw [HF.out]; rfl, HB.out⟩

/-- what lies behind the document's Join -/
def JoinOut (w : World) (l : Row) (e : Ending) (w' : World) : Prop := ∃ v', e = .returned v' ∧ IdsAt w' v' l ∧ Below w.heap.size w w'
set_option maxHeartbeats 3200000 in
theorem rjoin_any (u v : Value) (l m : Row) (w : World) (hu : IdsAt w u l) (h : IdsAt w v m) (hok : OkR l) (hm : ∀ p ∈ m, p.2 ≤ 9223372036854775807) (hlen : l.length + m.length ≤ 100000) :
    Calls Try.prog 24 #[u, v] w (JoinOut w (addsL l m)) := by
  obtain ⟨A, c, rfl, hc, hI⟩ := h
  have HI := Lib.hid hI
  have HU := Lib.hid hu
  have HOK := Lib.hid hok
  have HM := Lib.hid hm
  clear hI hu hok hm
  go_enter Try.func24, Try.ntmps24
  go_wp2
  go_loopw [0, 5] (fun o i wr => ∃ k : Nat, k ≤ m.length ∧ i = .int .i64 k ∧ IdsAt wr o (addsL l (m.take k)) ∧ Below w.heap.size w wr) (fun _ i _ => m.length - (intOf i).toNat)
  case atStart => exact ⟨0, Nat.zero_le _, rfl, HU.out, Below.refl _ _⟩
  case round =>
    obtain ⟨k, hk, rfl, hi, hB⟩ := hrel
    have HB := Lib.hid hB
    have HID := Lib.hid hi
    clear hB hi
    by_cases hlt : k < m.length
    · have hx : m[k]? = some m[k] := List.getElem?_eq_getElem hlt
      obtain ⟨p, hp⟩ : ∃ p, m[k] = p := ⟨_, rfl⟩
      rw [hp] at hx
      obtain ⟨ad, rfl, c2, c3⟩ := HI.out k p hx
      have hza := cell_lt c2
      rw [add_block] at hza
      have c2' := (HB.out.cell (by rw [add_block]; exact hza)).trans c2
      have c3' := (HB.out.cell (p := ⟨(ad.add (k * 2)).block, _, none⟩) (by simp only [add_block]; exact hza)).trans c3
      have hsn : addsL l (m.take (k + 1)) = addL (addsL l (m.take k)) p.1 p.2 := by rw [List.take_add_one, hx]; exact addsL_snoc _ _ _
      have HNX := Lib.hid hsn
      have hll := addsL_len l (m.take k)
      rw [List.length_take] at hll
      have hok2 := addsL_ok HOK.out (ids := m.take k) (fun p hp => HM.out p (List.mem_of_mem_take hp))
      obtain ⟨x, y⟩ := p
      have hi0 : (0 : Int) ≤ ↑k := by omega
      have hi1 : (↑k : Int) < ↑m.length := by omega
      have hi2 : (↑m.length : Int) ≤ ↑c := by omega
      obtain ⟨lk, hlk⟩ : ∃ lk, addsL l (m.take k) = lk := ⟨_, rfl⟩
      rw [hlk] at HID HNX hll hok2
      have HC := Lib.hid (radd_any _ lk x y wr HID.out hok2 (by omega))
      clear hp hx hsn c2 c3 hlk hok2
      unfold idV at HC
      go_wp2_with (go_at_call 12; refine HC.out.mono ?_; rintro e w1 ⟨v', rfl, hi1, hb1⟩; have HI1 := Lib.hid hi1; have HB1 := Lib.hid (HB.out.trans (hb1.mono HB.out.size)); clear hi1 hb1)
      go_roundw
      case rel => exact ⟨k + 1, by omega, by simp, by rw [HNX.out]; exact HI1.out, HB1.out⟩
      case measure => simp [intOf]; omega
    · obtain rfl : k = m.length := by omega
      rw [List.take_length] at HID
      have hlt2 : ¬ (↑m.length : Int) < ↑m.length := by omega
      go_wp2
      go_ret
      exact ⟨_, rfl, HID.out, HB.out⟩
end Go.Proofs.Ytggcnglnclpaeaa
