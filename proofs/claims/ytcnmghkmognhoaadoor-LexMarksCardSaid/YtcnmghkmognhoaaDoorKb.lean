/- addr's number and Column -/
import Derived.Test.YtcnmghkmognhoaaDoorKa
import Derived.Lib.Hide
namespace Go.Proofs.YtcnmghkmognhoaaDoor.Addr
open Go.RowKit Go.Shelf
set_option maxRecDepth 100000


/-- decimal digits, read on from a number -/
def digL : List UInt8 → Int → Option Int
  | [], n => some n
  | c :: t, n => if 48 ≤ c.toNat ∧ c.toNat ≤ 57 then digL t (n * 10 + ((c.toNat : Int) - 48)) else none
/-- what a loop over digits comes to -/
def digR (o : Option Int) : Value := match o with | some n => .tuple #[.int .i64 n, .bool true] | none => .tuple #[.int .i64 0, .bool false]
def numL (l : List UInt8) : Option Int := if l.length = 0 ∨ 7 < l.length ∨ l.head? = some 48 then none else digL l 0

theorem drop_get (s : ByteArray) (p : Nat) (h : p < s.size) : s.data.toList.drop p = s[p] :: s.data.toList.drop (p + 1) := by
  rw [List.drop_eq_getElem_cons (by simpa using h)]; rfl

theorem digL_step (s : ByteArray) (p : Nat) (n : Int) (h : p < s.size) (h1 : 48 ≤ (s[p]).toNat) (h2 : (s[p]).toNat ≤ 57) : digL (s.data.toList.drop p) n = digL (s.data.toList.drop (p + 1)) (n * 10 + (((s[p]).toNat : Int) - 48)) := by
  rw [drop_get s p h, digL, if_pos ⟨h1, h2⟩]
theorem digL_stop (s : ByteArray) (p : Nat) (n : Int) (h : p < s.size) (h1 : ¬ (48 ≤ (s[p]).toNat ∧ (s[p]).toNat ≤ 57)) : digL (s.data.toList.drop p) n = none := by
  rw [drop_get s p h, digL, if_neg h1]
theorem digL_end (s : ByteArray) (p : Nat) (n : Int) (h : ¬ p < s.size) : digL (s.data.toList.drop p) n = some n := by
  rw [List.drop_eq_nil_of_le (by simp; omega)]; rfl

/-- the rune that stands at a place: the byte, or something beyond 127 -/
theorem dec_cases (s : ByteArray) (p : Nat) (h : p < s.size) : ((s[p]).toNat < 128 ∧ Utf8.decode s p = ((s[p]).toNat, 1)) ∨ (128 ≤ (s[p]).toNat ∧ 128 ≤ (Utf8.decode s p).1 ∧ (Utf8.decode s p).1 ≤ 2147483647) := by
  by_cases ha : (s[p]).toNat < 128
  · exact .inl ⟨ha, decode_ascii s p h ha⟩
  · exact .inr ⟨by omega, (decode_high s p h (by omega)).1, decode_le s p⟩

theorem ten_pow (p : Nat) (h : p ≤ 6) : (10 : Int) ^ p ≤ 1000000 := by
  have : p = 0 ∨ p = 1 ∨ p = 2 ∨ p = 3 ∨ p = 4 ∨ p = 5 ∨ p = 6 := by omega
  rcases this with rfl | rfl | rfl | rfl | rfl | rfl | rfl <;> decide

theorem not_empty (s : ByteArray) (h : 0 < s.size) : s.toList.isEmpty = false := by
  rw [← decide_eq_emptyBytes s]
  refine decide_eq_false fun e => ?_
  rw [e] at h; exact absurd h (by decide)
theorem size_list (s : ByteArray) : s.data.toList.length = s.size := by rw [Array.length_toList]; rfl
theorem empty_of (s : ByteArray) (h : s.size = 0) : s = ⟨#[]⟩ := by
  cases s with | mk d => simp [ByteArray.size] at h; simp [h]

set_option maxHeartbeats 1000000 in
set_option maxRecDepth 100000 in
theorem number_in (s : ByteArray) (h0 : 0 < s.size) (h7 : s.size ≤ 7) (hh : (((s[0]).toNat : Int) == 48) = false) (he : (s.toList.isEmpty) = false) (w : World) :
    Calls Tryd.prog 47 #[.string s] w fun e w' => e = .returned (digR (digL s.data.toList 0)) ∧ Below w.heap.size w w' := by
  go_enter Tryd.func47, Tryd.ntmps47
  go_wp2
  go_loopw [4] (fun n w' => ∃ (p : Nat) (k : Int), w' = w.iter s p ∧ n = .int .i64 k ∧ 0 ≤ k ∧ k < 10 ^ p ∧ digL (s.data.toList.drop p) k = digL s.data.toList 0) (fun _ w' => s.size - w'.iterPos w.heap.size)
  case atStart => exact ⟨0, 0, rfl, rfl, by omega, by simp, by simp⟩
  case round =>
    obtain ⟨p, k, rfl, rfl, hk0, hk1, hd⟩ := hrel
    by_cases hp : p < s.size
    · have hnx : ∀ ty, (Instr.next (.pointer (some ⟨w.heap.size, 0, none⟩)) true ty).run Tryd.prog (w.iter s p) = _ := fun ty => run_next_any w s p ty hp
      have hk2 := ten_pow p (by omega)
      rcases dec_cases s p hp with ⟨ha, hdec⟩ | ⟨ha, hr1, hr2⟩
      · rw [hdec] at hnx
        by_cases hd1 : 48 ≤ (s[p]).toNat ∧ (s[p]).toNat ≤ 57
        · have hst := digL_step s p k hp hd1.1 hd1.2
          have HS := Lib.hid (hst.symm.trans hd)
          have HK := Lib.hid hk1
          have hk3 : k ≤ 1000000 := by omega
          clear hd hst hdec hk1 hk2
          obtain ⟨c, hc⟩ : ∃ c : Nat, c = (s[p]).toNat := ⟨_, rfl⟩
          rw [← hc] at hnx HS ha hd1
          clear hc
          obtain ⟨h1, h2⟩ := hd1
          go_wp2
          go_roundw
          case rel =>
            refine ⟨p + 1, _, rfl, rfl, by omega, ?_, HS.out⟩
            have := HK.out
            rw [Int.pow_succ]; omega
          case measure => simp; omega
        · have hst := digL_stop s p k hp hd1
          have HS := Lib.hid (hst.symm.trans hd)
          clear hd hst hdec hk1 hk2
          obtain ⟨c, hc⟩ : ∃ c : Nat, c = (s[p]).toNat := ⟨_, rfl⟩
          rw [← hc] at hnx hd1 ha
          clear hc
          by_cases hlo : c < 48
          · go_wp2
            go_ret2
            exact ⟨by rw [← HS.out]; rfl, (Below.refl _ _).alloc (Nat.le_refl _) _⟩
          · have hhi : 57 < c := by omega
            go_wp2
            go_ret2
            exact ⟨by rw [← HS.out]; rfl, (Below.refl _ _).alloc (Nat.le_refl _) _⟩
      · have hst := digL_stop s p k hp (by omega)
        have HS := Lib.hid (hst.symm.trans hd)
        clear hd hst hk1 hk2
        obtain ⟨q, hq⟩ : ∃ q, q = Utf8.decode s p := ⟨_, rfl⟩
        rw [← hq] at hnx hr1 hr2
        clear hq
        obtain ⟨c, wd⟩ := q
        simp only at hnx hr1 hr2
        go_wp2
        go_ret2
        exact ⟨by rw [← HS.out]; rfl, (Below.refl _ _).alloc (Nat.le_refl _) _⟩
    · have hnx : ∀ ty, (Instr.next (.pointer (some ⟨w.heap.size, 0, none⟩)) true ty).run Tryd.prog (w.iter s p) = _ := fun ty => run_next_end w s p ty hp
      have hst := digL_end s p k hp
      have HS := Lib.hid (hst.symm.trans hd)
      clear hd hst hk1
      go_wp2
      go_ret2
      exact ⟨by rw [← HS.out]; rfl, (Below.refl _ _).alloc (Nat.le_refl _) _⟩

theorem number_no (s : ByteArray) (h : s.size = 0 ∨ 7 < s.size) (w : World) :
    Calls Tryd.prog 47 #[.string s] w fun e w' => e = .returned (digR none) ∧ Below w.heap.size w w' := by
  rcases h with h | h
  · have hs := empty_of s h
    subst hs
    go_enter Tryd.func47, Tryd.ntmps47
    go_wp2
    go_ret2
    exact ⟨rfl, Below.refl _ _⟩
  · have he := not_empty s (by omega)
    go_enter Tryd.func47, Tryd.ntmps47
    go_wp2
    go_ret2
    exact ⟨rfl, Below.refl _ _⟩

theorem number_nought (s : ByteArray) (h0 : 0 < s.size) (h7 : s.size ≤ 7) (hh : (((s[0]).toNat : Int) == 48) = true) (he : (s.toList.isEmpty) = false) (w : World) :
    Calls Tryd.prog 47 #[.string s] w fun e w' => e = .returned (digR none) ∧ Below w.heap.size w w' := by
  go_enter Tryd.func47, Tryd.ntmps47
  go_wp2
  go_ret2
  exact ⟨rfl, Below.refl _ _⟩

/-- number, at every string -/
theorem number_any (s : ByteArray) (w : World) : Calls Tryd.prog 47 #[.string s] w fun e w' => e = .returned (digR (numL s.data.toList)) ∧ Below w.heap.size w w' := by
  unfold numL
  rw [size_list]
  by_cases h0 : s.size = 0
  · rw [if_pos (.inl h0)]; exact number_no s (.inl h0) w
  · by_cases h7 : 7 < s.size
    · rw [if_pos (.inr (.inl h7))]; exact number_no s (.inr h7) w
    · have hp : 0 < s.size := by omega
      have hd : s.data.toList.head? = some s[0] := by
        have := drop_get s 0 hp
        rw [List.drop_zero] at this; rw [this]; rfl
      rw [hd]
      by_cases h8 : s[0].toNat = 48
      · have : s[0] = 48 := UInt8.toNat_inj.1 h8
        rw [if_pos (.inr (.inr (by rw [this])))]
        exact number_nought s hp (by omega) (by rw [h8]; rfl) (not_empty s hp) w
      · rw [if_neg (by rintro (h | h | h); · exact h0 h
                       · exact h7 h
                       · injection h with h; rw [h] at h8; exact h8 rfl)]
        exact number_in s hp (by omega) (by rw [beq_eq_false_iff_ne]; omega) (not_empty s hp) w

/-- a letter's number -/
def capN (c : Nat) : Option Int := if 97 ≤ c ∧ c ≤ 122 then some ((c : Int) - 97) else if 65 ≤ c ∧ c ≤ 90 then some ((c : Int) - 65) else none
/-- letters, read on from a number -/
def colL : List UInt8 → Int → Option Int
  | [], n => some (n - 1)
  | c :: t, n => match capN c.toNat with | some d => colL t (n * 26 + d + 1) | none => none
def columnL (l : List UInt8) : Option Int := if l.length = 0 ∨ 3 < l.length then none else colL l 0

theorem colL_lo (s : ByteArray) (p : Nat) (n : Int) (h : p < s.size) (h1 : 97 ≤ (s[p]).toNat) (h2 : (s[p]).toNat ≤ 122) : colL (s.data.toList.drop p) n = colL (s.data.toList.drop (p + 1)) (n * 26 + (((s[p]).toNat : Int) - 97) + 1) := by
  rw [drop_get s p h, colL, capN, if_pos ⟨h1, h2⟩]
theorem colL_up (s : ByteArray) (p : Nat) (n : Int) (h : p < s.size) (h1 : 65 ≤ (s[p]).toNat) (h2 : (s[p]).toNat ≤ 90) : colL (s.data.toList.drop p) n = colL (s.data.toList.drop (p + 1)) (n * 26 + (((s[p]).toNat : Int) - 65) + 1) := by
  rw [drop_get s p h, colL, capN, if_neg (by omega), if_pos ⟨h1, h2⟩]
theorem colL_stop (s : ByteArray) (p : Nat) (n : Int) (h : p < s.size) (h1 : ¬ (97 ≤ (s[p]).toNat ∧ (s[p]).toNat ≤ 122)) (h2 : ¬ (65 ≤ (s[p]).toNat ∧ (s[p]).toNat ≤ 90)) : colL (s.data.toList.drop p) n = none := by
  rw [drop_get s p h, colL, capN, if_neg h1, if_neg h2]
theorem colL_end (s : ByteArray) (p : Nat) (n : Int) (h : ¬ p < s.size) : colL (s.data.toList.drop p) n = some (n - 1) := by
  rw [List.drop_eq_nil_of_le (by simp; omega)]; rfl
theorem alph_pow (p : Nat) (h : p ≤ 3) : (27 : Int) ^ p ≤ 20000 := by
  have : p = 0 ∨ p = 1 ∨ p = 2 ∨ p = 3 := by omega
  rcases this with rfl | rfl | rfl | rfl <;> decide

set_option maxHeartbeats 2000000 in
set_option maxRecDepth 100000 in
theorem column_in (s : ByteArray) (h0 : 0 < s.size) (h7 : s.size ≤ 3) (he : (s.toList.isEmpty) = false) (w : World) :
    Calls Tryd.prog 46 #[.string s] w fun e w' => e = .returned (digR (colL s.data.toList 0)) ∧ Below w.heap.size w w' := by
  go_enter Tryd.func46, Tryd.ntmps46
  go_wp2
  go_loopw [4] (fun n w' => ∃ (p : Nat) (k : Int), p ≤ s.size ∧ w' = w.iter s p ∧ n = .int .i64 k ∧ 0 ≤ k ∧ k < 27 ^ p ∧ colL (s.data.toList.drop p) k = colL s.data.toList 0) (fun _ w' => s.size - w'.iterPos w.heap.size)
  case atStart => exact ⟨0, 0, Nat.zero_le _, rfl, rfl, by omega, by simp, by simp⟩
  case round =>
    obtain ⟨p, k, hps, rfl, rfl, hk0, hk1, hd⟩ := hrel
    by_cases hp : p < s.size
    · have hnx : ∀ ty, (Instr.next (.pointer (some ⟨w.heap.size, 0, none⟩)) true ty).run Tryd.prog (w.iter s p) = _ := fun ty => run_next_any w s p ty hp
      have hk2 := alph_pow p (by omega)
      rcases dec_cases s p hp with ⟨ha, hdec⟩ | ⟨ha, hr1, hr2⟩
      · rw [hdec] at hnx
        by_cases hd1 : 97 ≤ (s[p]).toNat ∧ (s[p]).toNat ≤ 122
        · have hst := colL_lo s p k hp hd1.1 hd1.2
          have HS := Lib.hid (hst.symm.trans hd)
          have HK := Lib.hid hk1
          have hk3 : k ≤ 20000 := by omega
          clear hd hst hdec hk1 hk2
          obtain ⟨c, hc⟩ : ∃ c : Nat, c = (s[p]).toNat := ⟨_, rfl⟩
          rw [← hc] at hnx HS ha hd1
          clear hc
          obtain ⟨h1, h2⟩ := hd1
          go_wp2
          go_roundw
          case rel =>
            refine ⟨p + 1, _, by omega, rfl, rfl, by omega, ?_, ?_⟩
            · have := HK.out
              rw [Int.pow_succ]; omega
            · rw [← HS.out]; first | rfl | (congr 1; omega)
          case measure => simp; omega
        · by_cases hd2 : 65 ≤ (s[p]).toNat ∧ (s[p]).toNat ≤ 90
          · have hst := colL_up s p k hp hd2.1 hd2.2
            have HS := Lib.hid (hst.symm.trans hd)
            have HK := Lib.hid hk1
            have hk3 : k ≤ 20000 := by omega
            clear hd hst hdec hk1 hk2 hd1
            obtain ⟨c, hc⟩ : ∃ c : Nat, c = (s[p]).toNat := ⟨_, rfl⟩
            rw [← hc] at hnx HS ha hd2
            clear hc
            obtain ⟨h1, h2⟩ := hd2
            go_wp2
            go_roundw
            case rel =>
              refine ⟨p + 1, _, by omega, rfl, rfl, by omega, ?_, ?_⟩
              · have := HK.out
                rw [Int.pow_succ]; omega
              · rw [← HS.out]
            case measure => simp; omega
          · have hst := colL_stop s p k hp hd1 hd2
            have HS := Lib.hid (hst.symm.trans hd)
            clear hd hst hdec hk1 hk2
            obtain ⟨c, hc⟩ : ∃ c : Nat, c = (s[p]).toNat := ⟨_, rfl⟩
            rw [← hc] at hnx hd1 hd2 ha
            clear hc
            by_cases c1 : 97 ≤ c
            · have c2 : 122 < c := by omega
              clear hd1 hd2
              go_wp2
              go_ret2
              exact ⟨by rw [← HS.out]; rfl, (Below.refl _ _).alloc (Nat.le_refl _) _⟩
            · by_cases c3 : c < 65
              · clear hd1 hd2
                go_wp2
                go_ret2
                exact ⟨by rw [← HS.out]; rfl, (Below.refl _ _).alloc (Nat.le_refl _) _⟩
              · have c4 : 90 < c := by omega
                clear hd1 hd2
                go_wp2
                go_ret2
                exact ⟨by rw [← HS.out]; rfl, (Below.refl _ _).alloc (Nat.le_refl _) _⟩
      · have hst := colL_stop s p k hp (by omega) (by omega)
        have HS := Lib.hid (hst.symm.trans hd)
        clear hd hst hk1 hk2
        obtain ⟨q, hq⟩ : ∃ q, q = Utf8.decode s p := ⟨_, rfl⟩
        rw [← hq] at hnx hr1 hr2
        clear hq
        obtain ⟨c, wd⟩ := q
        simp only at hnx hr1 hr2
        go_wp2
        go_ret2
        exact ⟨by rw [← HS.out]; rfl, (Below.refl _ _).alloc (Nat.le_refl _) _⟩
    · have hnx : ∀ ty, (Instr.next (.pointer (some ⟨w.heap.size, 0, none⟩)) true ty).run Tryd.prog (w.iter s p) = _ := fun ty => run_next_end w s p ty hp
      have hst := colL_end s p k hp
      have HS := Lib.hid (hst.symm.trans hd)
      have hk3 : k ≤ 20000 := by
        have := alph_pow p (by omega)
        omega
      clear hd hst hk1
      go_wp2
      go_ret2
      exact ⟨by rw [← HS.out]; rfl, (Below.refl _ _).alloc (Nat.le_refl _) _⟩
theorem column_no (s : ByteArray) (h : s.size = 0 ∨ 3 < s.size) (w : World) :
    Calls Tryd.prog 46 #[.string s] w fun e w' => e = .returned (digR none) ∧ Below w.heap.size w w' := by
  rcases h with h | h
  · have hs := empty_of s h
    subst hs
    go_enter Tryd.func46, Tryd.ntmps46
    go_wp2
    go_ret2
    exact ⟨rfl, Below.refl _ _⟩
  · have he := not_empty s (by omega)
    go_enter Tryd.func46, Tryd.ntmps46
    go_wp2
    go_ret2
    exact ⟨rfl, Below.refl _ _⟩

/-- Column, at every string -/
theorem column_any (s : ByteArray) (w : World) : Calls Tryd.prog 46 #[.string s] w fun e w' => e = .returned (digR (columnL s.data.toList)) ∧ Below w.heap.size w w' := by
  unfold columnL
  rw [size_list]
  by_cases h0 : s.size = 0
  · rw [if_pos (.inl h0)]; exact column_no s (.inl h0) w
  · by_cases h7 : 3 < s.size
    · rw [if_pos (.inr h7)]; exact column_no s (.inr h7) w
    · rw [if_neg (by omega)]
      exact column_in s (by omega) (by omega) (not_empty s (by omega)) w

end Go.Proofs.YtcnmghkmognhoaaDoor.Addr
