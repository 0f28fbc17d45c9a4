/- Walk over num.digitsOf: for every int, its sign and its digits, in new memory. -/
import Derived.Test.YtkdjdoncmihkfaaDoorNa
import Derived.Test.YtkdjdoncmihkfaaDoorShelf
import Derived.Deep.LoopGhost
import Derived.Deep.AppendLies
import Derived.Lib.OthersKept
import Derived.Lib.ItoaLen
import Derived.Lib.AppendIntMem
namespace Go.Proofs.YtkdjdoncmihkfaaDoor
open Go.RowKit

theorem info5 : (Tryd.prog.info? 5).map (fun i => (i.zero, i.size, i.bytes)) = some (some (.int .u8 0), 1, 1) := by kernel_rfl

/-- the table of powers of ten is as the program's text lays it -/
def Tab (w : World) : Prop := Lib.TabIs Tryd.prog w "internal/strconv.uint64pow10" .u64 Lib.pow10Tab
theorem gPow : Tryd.prog.globalNamed "internal/strconv.uint64pow10" = some 1 := by kernel_rfl
theorem var_lt {P : Program} {w : World} {n : String} {g : Nat} {cs : Array Value} (hg : P.globalNamed n = some g) (h : w.var? P n = some cs) : g < w.heap.size := by
  unfold World.var? at h
  simp only [hg, Option.bind_some] at h
  by_cases hl : g < w.heap.size
  · exact hl
  · rw [Array.getElem?_eq_none (by omega)] at h; simp at h
theorem Tab.below {w w' : World} (h : Tab w) (hb : Below w.heap.size w w') : Tab w' :=
  var?_below hb gPow (var_lt gPow h) h
theorem below_grow0 (w : World) (k : Nat) (os : Array Obj) : Below w.heap.size w (Sort.grow (w.drewN k) os) := Lib.below_grow _ _ (Nat.le_refl _) _ _
theorem itoa_any (n : Int) (h0 : -9223372036854775808 ≤ n) (h1 : n ≤ 9223372036854775807) (w : World) (ht : Tab w) :
    Calls Tryd.prog 73 #[.int .i64 n] w fun e w' => e = .returned (.string ⟨(Lib.itoa n).toArray⟩) ∧ Below w.heap.size w w' :=
  (Tryd.strconv_Itoa n h0 h1 w ht).mono fun _ _ ⟨he, k, os, hw⟩ => ⟨he, hw ▸ below_grow0 w k os⟩

/-- the bytes as cells -/
def cel (l : List UInt8) : List Value := l.map fun x => .int .u8 (x.toNat : Int)
theorem cel_length (l : List UInt8) : (cel l).length = l.length := by simp [cel]
/-- the value is a slice of the call's own, not nil, with these bytes -/
def Own (w : World) (B : Nat) (v : Value) (l : List UInt8) : Prop := w.ownsRow B 5 1 v l.length (cel l) ∧ ∃ g c, v = .slice (some ⟨g, 0, none⟩) l.length c

/-- the digits of a text, signs and noughts ahead left out -/
def dg : List UInt8 → List UInt8 → List UInt8
  | acc, [] => acc
  | acc, c :: t => if c = 45 ∨ (c = 48 ∧ acc = []) then dg acc t else dg (acc ++ [c - 48]) t
def digs (m : Int) : List UInt8 := dg [] (Lib.itoa m)

theorem drop_get (s : ByteArray) (p : Nat) (h : p < s.size) : s.data.toList.drop p = s[p] :: s.data.toList.drop (p + 1) := by
  rw [List.drop_eq_getElem_cons (by simpa using h)]; rfl
theorem size_list (s : ByteArray) : s.data.toList.length = s.size := by rw [Array.length_toList]; rfl
theorem iterPos_of {w : World} {k : Nat} {s : ByteArray} {p : Nat} (h : w.heap[k]? = some (.stringIter s p)) : w.iterPos k = p := by simp [World.iterPos, h]

/-- what is a cells' block is none of an iterator -/
theorem own_ne {w : World} {B : Nat} {v : Value} {l : List UInt8} (h : Own w B v l) {k : Nat} {s : ByteArray} {p : Nat} (hk : w.heap[k]? = some (.stringIter s p)) : v.ownBlock ≠ some k := by
  intro e
  rcases h.1.2 with ⟨rfl, _⟩ | ⟨g, cap, cur, rfl, _, hg, _⟩
  · simp [Value.ownBlock] at e
  · simp only [Value.ownBlock, Option.some.injEq] at e
    subst e
    rw [hg] at hk; simp at hk
theorem own_iterAt {w : World} {B : Nat} {v : Value} {l : List UInt8} (h : Own w B v l) {k : Nat} {s : ByteArray} {p : Nat} (hk : w.heap[k]? = some (.stringIter s p)) (s' : ByteArray) (p' : Nat) : Own (w.iterAt k s' p') B v l := by
  have hne := own_ne h hk
  obtain ⟨⟨h1, h2⟩, h3⟩ := h
  refine ⟨⟨h1, ?_⟩, h3⟩
  rcases h2 with h2 | ⟨g, cap, cur, rfl, b, c, d⟩
  · exact .inl h2
  · refine .inr ⟨g, cap, cur, rfl, b, ?_, d⟩
    rw [Lib.iterAt_other _ _ _ _ _ (fun e => hne (by subst e; rfl))]; exact c
theorem own_of {w : World} {B : Nat} {v' : Value} {l : List UInt8} {y : UInt8} (h : w.ownsRow B 5 1 v' (l.length + 1) (cel l ++ [.int .u8 (y.toNat : Int)])) (hn : ¬ v' = .slice none 0 0) : Own w B v' (l ++ [y]) := by
  have e : cel (l ++ [y]) = cel l ++ [.int .u8 (y.toNat : Int)] := by simp [cel]
  refine ⟨by rw [e]; simpa using h, ?_⟩
  rcases h.2 with ⟨rfl, _⟩ | ⟨g, cap, cur, rfl, _⟩
  · exact absurd rfl hn
  · exact ⟨g, cap, by simp⟩

/-- one byte put behind -/
theorem push_own {w w3 : World} {B K : Nat} {v v' : Value} {acc : List UInt8} {y : UInt8} {s : ByteArray} {p : Nat} {W : World} {o : Obj} (hB : B ≤ K) (hown : Own w B v acc) (hit : w.heap[K]? = some (.stringIter s p)) (hb : Below B W w)
    (h : w3.ownsRow B 5 1 v' (acc.length + 1) (cel acc ++ [.int .u8 (y.toNat : Int)])) (hg : (w.alloc o).grownBy w3 v.ownBlock) (hn : ¬ v' = .slice none 0 0) :
    Own w3 B v' (acc ++ [y]) ∧ w3.heap[K]? = some (.stringIter s p) ∧ Below B W w3 := by
  have hK : K < w.heap.size := (Array.getElem?_eq_some_iff.1 hit).1
  refine ⟨own_of h hn, ?_, ?_⟩
  · rw [hg.block K (by simp; omega) (fun h => own_ne hown hit h.symm), Below.heap_alloc _ _ _ hK]; exact hit
  · exact Below.grown (hb.alloc (by omega) _) hg (by simp; omega) (fun j hj => by have := (hown.1.lt _ hj).1; omega)

theorem dec_all : ∀ (u : Nat), ∀ b ∈ Lib.decDigits u, 48 ≤ b.toNat ∧ b.toNat ≤ 57 := by
  intro u
  induction u using Nat.strongRecOn with
  | ind u ih =>
    intro b hb
    rw [Lib.decDigits] at hb
    by_cases h : u < 10
    · rw [dif_pos h] at hb
      simp at hb; subst hb
      have : u = 0 ∨ u = 1 ∨ u = 2 ∨ u = 3 ∨ u = 4 ∨ u = 5 ∨ u = 6 ∨ u = 7 ∨ u = 8 ∨ u = 9 := by omega
      rcases this with rfl | rfl | rfl | rfl | rfl | rfl | rfl | rfl | rfl | rfl <;> decide
    · rw [dif_neg h] at hb
      rcases List.mem_append.1 hb with hb | hb
      · exact ih (u / 10) (by omega) b hb
      · simp at hb; subst hb
        generalize hm : u % 10 = m
        have hm2 : m < 10 := by omega
        have : m = 0 ∨ m = 1 ∨ m = 2 ∨ m = 3 ∨ m = 4 ∨ m = 5 ∨ m = 6 ∨ m = 7 ∨ m = 8 ∨ m = 9 := by omega
        rcases this with rfl | rfl | rfl | rfl | rfl | rfl | rfl | rfl | rfl | rfl <;> decide
theorem itoa_chars (m : Int) : ∀ b ∈ Lib.itoa m, b = 45 ∨ (48 ≤ b.toNat ∧ b.toNat ≤ 57) := by
  intro b hb
  unfold Lib.itoa at hb
  by_cases h : m < 0
  · rw [if_pos h] at hb
    rcases List.mem_cons.1 hb with hb | hb
    · exact .inl hb
    · exact .inr (dec_all _ b hb)
  · rw [if_neg h] at hb
    exact .inr (dec_all _ b hb)

theorem dig_wrap (x : UInt8) (h : 48 ≤ x.toNat) : IntKind.u8.wrap ((x.toNat : Int) - 48) = ((x - 48).toNat : Int) := by
  have h1 := x.toNat_lt
  have h2 : (x - 48).toNat = x.toNat - 48 := by
    rw [UInt8.toNat_sub_of_le _ _ (by rw [UInt8.le_iff_toNat_le]; exact h)]; rfl
  rw [h2, IntKind.wrap_u8]; omega

theorem cell_one_new (w : World) (a : Value) (t : TypeId) : ∀ j u, [a][j]? = some u → (w.alloc (.cells #[a] t)).cell? ((⟨w.heap.size, 0, none⟩ : Addr).add j) = some u := by
  intro j u hj
  match j, hj with
  | 0, hj => simp at hj; subst hj; simp [Addr.add]
  | j + 1, hj => simp at hj

set_option maxRecDepth 1000000 in
set_option maxHeartbeats 2000000 in
theorem digits_any (m : Int) (h0 : -9223372036854775808 ≤ m) (h1 : m ≤ 9223372036854775807) (w : World) (ht : Tab w) :
    Calls Tryd.prog 47 #[.int .i64 m] w fun e w' => ∃ v, e = .returned (.tuple #[.bool (decide (m < 0)), v]) ∧ Own w' w.heap.size v (digs m) ∧ Below w.heap.size w w' := by
  obtain ⟨i0, hi, hz0, hz1, hz2⟩ := info_parts info5
  have hch := itoa_chars m
  have hlen := Lib.itoa_length_le m h0 h1
  have ht1 : Tab (w.alloc (.cells #[] 5)) := ht.below ((Below.refl _ _).alloc (Nat.le_refl _) _)
  go_enter Tryd.func47, Tryd.ntmps47
  go_wp2_with fail
  refine (itoa_any m h0 h1 _ ht1).mono ?_
  rintro e w1 ⟨rfl, hb1⟩
  obtain ⟨s, hs⟩ : ∃ s : ByteArray, s = ⟨(Lib.itoa m).toArray⟩ := ⟨_, rfl⟩
  have hsd : s.data.toList = Lib.itoa m := by rw [hs]
  rw [← hs]
  have hsz : s.size ≤ 21 := by rw [← size_list, hsd]; exact hlen
  have hchs : ∀ p (h : p < s.size), s[p] = 45 ∨ (48 ≤ (s[p]).toNat ∧ (s[p]).toNat ≤ 57) := fun p h => hch _ (by rw [← hsd]; exact List.getElem_mem (by simpa using h))
  have HD : Hid (dg [] s.data.toList = digs m) := by rw [hsd]; rfl
  have HC := Lib.hid hchs
  have hown0 : Own w1 w.heap.size (.slice (some ⟨w.heap.size, 0, none⟩) 0 0) [] := by
    have h := (World.ownsRow_lit (base := w.heap.size) (e := 5) (size := 1) w #[] 0 (Nat.le_refl _) (by unfold maxLen; omega) (by simp))
    refine ⟨?_, w.heap.size, 0, rfl⟩
    rcases h.2 with ⟨h', _⟩ | ⟨g, cap, cur, h', hb, hg, hr⟩
    · simp at h'
    · refine ⟨by simp [cel], .inr ⟨g, cap, cur, h', hb, ?_, by simpa [cel] using hr⟩⟩
      exact (hb1.block g (Array.getElem?_eq_some_iff.1 hg).1).trans hg
  have hbw0 : Below w.heap.size w w1 := ((Below.refl _ _).alloc (Nat.le_refl _) _).trans (hb1.mono (by simp))
  have hK : w.heap.size ≤ w1.heap.size := hbw0.size
  clear hchs hch hlen hsd hs ht1 hb1 ht
  go_wp2
  go_loopw [4] (fun v wr => ∃ (pos : Nat) (acc : List UInt8), wr.heap[w1.heap.size]? = some (.stringIter s pos) ∧ Own wr w.heap.size v acc ∧ Below w.heap.size w wr ∧ Hid (dg acc (s.data.toList.drop pos) = digs m) ∧ acc.length ≤ pos ∧ pos ≤ s.size) (fun _ wr => s.size - wr.iterPos w1.heap.size)
  case atStart =>
    refine ⟨0, [], World.iter_heap w1 s 0, ?_, hbw0.alloc (by omega) _, by simpa using HD, by simp, by omega⟩
    exact ⟨hown0.1.alloc _, hown0.2⟩
  case round =>
    obtain ⟨pos, acc, hit, hown, hbw, HS, hl, hp0⟩ := hrel
    have hpos0 := iterPos_of hit
    by_cases hp : pos < s.size
    · have hnx : ∀ ty, (Instr.next (.pointer (some ⟨w1.heap.size, 0, none⟩)) true ty).run Tryd.prog wr = _ := fun ty => Lib.run_next_any_at wr w1.heap.size s pos ty hit hp
      have hdec : Utf8.decode s pos = ((s[pos]).toNat, 1) := decode_ascii s pos hp ((HC pos hp).elim (fun h => by rw [h]; decide) (fun h => by omega))
      rw [hdec] at hnx
      have hit2 := Lib.iterAt_heap wr w1.heap.size s pos (pos + 1) hit
      have hbw2 := Lib.below_iterAt hbw (k := w1.heap.size) hK s (pos + 1)
      have hown2 := own_iterAt hown hit s (pos + 1)
      obtain ⟨W1, hW1⟩ : ∃ W1, W1 = wr.iterAt w1.heap.size s (pos + 1) := ⟨_, rfl⟩
      simp only at hnx
      rw [← hW1] at hnx hit2 hbw2 hown2
      have hiter2 := iterPos_of hit2
      obtain ⟨c, hc⟩ : ∃ c, c = s[pos] := ⟨_, rfl⟩
      have hcc : c = 45 ∨ (48 ≤ c.toNat ∧ c.toNat ≤ 57) := by rw [hc]; exact HC pos hp
      have HN := HS
      rw [drop_get s pos hp] at HN
      rw [← hc] at hnx HN
      clear HS hW1 hc hit hown hbw hdec
      obtain ⟨g, cp, rfl⟩ := hown2.2
      by_cases h45 : c = 45
      · subst h45
        have HS2 : Hid (dg acc (s.data.toList.drop (pos + 1)) = digs m) := by
          have := HN
          show _ = _
          rw [← (show _ = _ from this), dg, if_pos (.inl rfl)]
        clear HN
        have e1 : (((45 : UInt8).toNat : Int) != 45) = false := rfl
        go_wp2
        go_roundw
        case rel => exact ⟨pos + 1, acc, hit2, hown2, hbw2, HS2, by omega, by omega⟩
        case measure => rw [hiter2, hpos0]; omega
      · have hr : 48 ≤ c.toNat ∧ c.toNat ≤ 57 := hcc.resolve_left h45
        have e1 : ((c.toNat : Int) != 45) = true := by
          rw [bne_iff_ne]; intro e; omega
        by_cases h48 : c = 48 ∧ acc = []
        · obtain ⟨rfl, rfl⟩ := h48
          have HS2 : Hid (dg [] (s.data.toList.drop (pos + 1)) = digs m) := by
            have := HN
            show _ = _
            rw [← (show _ = _ from this), dg, if_pos (.inr ⟨rfl, rfl⟩)]
          clear HN
          have e2 : (((48 : UInt8).toNat : Int) != 48) = false := rfl
          go_wp2
          go_roundw
          case rel => exact ⟨pos + 1, [], hit2, hown2, hbw2, HS2, by omega, by omega⟩
          case measure => rw [hiter2, hpos0]; omega
        · have HS2 : Hid (dg (acc ++ [c - 48]) (s.data.toList.drop (pos + 1)) = digs m) := by
            have := HN
            show _ = _
            rw [← (show _ = _ from this), dg, if_neg (fun h => h.elim h45 h48)]
          have hw := dig_wrap c hr.1
          have hc256 := c.toNat_lt
          have e32 : IntKind.i32.wrap ((c.toNat : Int) - 48) = (c.toNat : Int) - 48 := by rw [IntKind.wrap_i32]; omega
          have hlt : acc.length ≤ 21 := by omega
          clear HN hcc
          by_cases hc48 : c = 48
          · have e2 : ((c.toNat : Int) != 48) = false := by rw [hc48]; rfl
            have hacc : 0 < acc.length := List.length_pos_iff.2 (fun e => h48 ⟨hc48, e⟩)
            clear h48 h45 hc48
            go_wp2_with (first
              | (at_builtin; refine wpList_append_own _ rfl _ _ 49 rfl w.heap.size 5 i0 (.int .u8 0) 1 1 Tryd.underlying49 hi hz0 hz1 hz2 rfl (by decide) _ _ _ rfl (hown2.1.alloc _) ⟨W1.heap.size, 0, none⟩ 1 1 [.int .u8 ((c - 48).toNat : Int)] rfl rfl (cell_one_new _ _ _) (fun u hu => by simp at hu; subst hu; rfl) (by unfold maxLen; omega) (by omega) (by simp; have := hbw2.size; omega) ?_))
            intro v' w3 hown3 hgrow hnil
            have R := push_own hK hown2 hit2 hbw2 hown3 hgrow hnil
            clear hown3 hgrow hnil hw e32
            have hiter3 := iterPos_of R.2.1
            go_wp2
            go_roundw
            case rel => exact ⟨pos + 1, acc ++ [c - 48], R.2.1, R.1, R.2.2, HS2, by simp; omega, by omega⟩
            case measure => rw [hiter3, hpos0]; omega
          · have e2 : ((c.toNat : Int) != 48) = true := by
              rw [bne_iff_ne]; intro e; exact hc48 (UInt8.toNat_inj.1 (show c.toNat = 48 by omega))
            clear h48 h45 hc48
            go_wp2_with (first
              | (at_builtin; refine wpList_append_own _ rfl _ _ 49 rfl w.heap.size 5 i0 (.int .u8 0) 1 1 Tryd.underlying49 hi hz0 hz1 hz2 rfl (by decide) _ _ _ rfl (hown2.1.alloc _) ⟨W1.heap.size, 0, none⟩ 1 1 [.int .u8 ((c - 48).toNat : Int)] rfl rfl (cell_one_new _ _ _) (fun u hu => by simp at hu; subst hu; rfl) (by unfold maxLen; omega) (by omega) (by simp; have := hbw2.size; omega) ?_))
            intro v' w3 hown3 hgrow hnil
            have R := push_own hK hown2 hit2 hbw2 hown3 hgrow hnil
            clear hown3 hgrow hnil hw e32
            have hiter3 := iterPos_of R.2.1
            go_wp2
            go_roundw
            case rel => exact ⟨pos + 1, acc ++ [c - 48], R.2.1, R.1, R.2.2, HS2, by simp; omega, by omega⟩
            case measure => rw [hiter3, hpos0]; omega
    · have hnx : ∀ ty, (Instr.next (.pointer (some ⟨w1.heap.size, 0, none⟩)) true ty).run Tryd.prog wr = _ := fun ty => Lib.run_next_end_at wr w1.heap.size s pos ty hit hp
      have HE : Hid (acc = digs m) := by
        have := HS
        show _ = _
        rw [← (show _ = _ from this), List.drop_eq_nil_of_le (by rw [size_list]; omega)]; rfl
      clear HS
      obtain ⟨g, cp, rfl⟩ := hown.2
      go_wp2
      go_ret2
      exact ⟨_, rfl, by rw [← (show _ = _ from HE)]; exact hown, hbw⟩
end Go.Proofs.YtkdjdoncmihkfaaDoor
