/- Kinds of bytes: functions that are handed on; run, begins, after. -/
import Derived.Test.YtcnmghkmognhoaaDoorProg
import Derived.Test.YtcnmghkmognhoaaDoorA
import Derived.WalkKit
import Derived.WalkSpells
import Derived.WalkLawsBesides
import Derived.Outline
import Derived.KernelRfl
import Derived.Lib.Hide
import Derived.LoopN
import Derived.Deep.WholeRow
import Derived.Shelf.Abstract
import Derived.Test.YtcnmghkmognhoaaDoorShelf
namespace Go.Proofs.YtcnmghkmognhoaaDoor
open Go.RowKit Go.Shelf

theorem drop_get (s : ByteArray) (i : Nat) (h : i < s.size) : s.data.toList.drop i = s[i] :: s.data.toList.drop (i + 1) := by
  rw [List.drop_eq_getElem_cons (show i < s.data.toList.length by simpa using h)]
  rfl
theorem cut_end (s : ByteArray) (k : Nat) : (s.extract k s.size).data.toList = s.data.toList.drop k := by
  rw [ByteArray.data_extract]
  simp only [Array.toList_extract, List.extract_eq_take_drop]
  rw [List.take_of_length_le]
  simp
theorem cut_head (s : ByteArray) (k : Nat) : (s.extract 0 k).data.toList = s.data.toList.take k := by
  rw [ByteArray.data_extract]
  simp
theorem cut_mid (s : ByteArray) (a b : Nat) : (s.extract a b).data.toList = (s.data.toList.take b).drop a := by
  rw [ByteArray.data_extract]
  simp [List.drop_take]
theorem size_list (s : ByteArray) : s.data.toList.length = s.size := by simp
/-- a function that tells of each byte whether it is of a kind -/
def KindIs (W : World) (v : Value) (p : UInt8 → Bool) : Prop :=
  ∃ (N : Nat) (caps : Array Value), v = .func (.func N) #[] caps ∧ (∀ args w, (callFunc N args).run Tryd.prog w = .ok (.enter N args) w) ∧ ∀ W', Below W.heap.size W W' → ∀ c : UInt8, Calls Tryd.prog N (#[.int .u8 (c.toNat : Int)] ++ caps) W' fun e w' => e = .returned (.bool (p c)) ∧ Below W'.heap.size W' w'
theorem KindIs.later {W W' : World} {v : Value} {p : UInt8 → Bool} (h : KindIs W v p) (hb : Below W.heap.size W W') : KindIs W' v p := by
  obtain ⟨N, caps, e, hn, hc⟩ := h
  exact ⟨N, caps, e, hn, fun W2 h2 c => hc W2 (hb.trans (h2.mono hb.size)) c⟩
theorem KindIs.ext {W : World} {v : Value} {p q : UInt8 → Bool} (h : KindIs W v p) (he : ∀ x, p x = q x) : KindIs W v q := by
  have : p = q := funext he
  exact this ▸ h
def KindOut (w : World) (p : UInt8 → Bool) (e : Ending) (w' : World) : Prop := ∃ v, e = .returned v ∧ KindIs w' v p ∧ Below w.heap.size w w'
theorem bet_call (a b : Nat) (pa pb : Addr) (w : World) (h1 : w.cell? pa = some (.int .u8 (a : Int))) (h2 : w.cell? pb = some (.int .u8 (b : Int))) (c : UInt8) :
    Calls Tryd.prog 111 #[.int .u8 (c.toNat : Int), .pointer (some pa), .pointer (some pb)] w fun e w' => e = .returned (.bool (betP a b c)) ∧ w = w' := by
  by_cases h3 : a ≤ c.toNat
  · by_cases h4 : c.toNat ≤ b
    · have hr : betP a b c = true := by unfold betP; simp [h3, h4]
      rw [hr]
      clear hr
      go_enter Tryd.func111, Tryd.ntmps111
      go_wp2
      go_ret
      exact ⟨rfl, rfl⟩
    · have hr : betP a b c = false := by unfold betP; simp [h4]
      rw [hr]
      clear hr
      go_enter Tryd.func111, Tryd.ntmps111
      go_wp2
      go_ret
      exact ⟨rfl, rfl⟩
  · have hr : betP a b c = false := by unfold betP; simp [h3]
    rw [hr]
    clear hr
    go_enter Tryd.func111, Tryd.ntmps111
    go_wp2
    go_ret
    exact ⟨rfl, rfl⟩
theorem between_any (a b : Nat) (w : World) : Calls Tryd.prog 84 #[.int .u8 (a : Int), .int .u8 (b : Int)] w (KindOut w (betP a b)) := by
  obtain ⟨R, hR⟩ : ∃ R, KindOut w (betP a b) = R := ⟨_, rfl⟩
  rw [hR]
  have HR := Lib.hid hR
  have hmf : ∀ (fn : Fn) (first cap : Array Value) (w : World), (Instr.makeFunc fn first cap).run Tryd.prog w = .ok (.func fn first cap) w := fun _ _ _ _ => rfl
  clear hR
  go_enter Tryd.func84, Tryd.ntmps84
  go_wp2
  rw [← HR.out]
  refine ⟨_, rfl, ⟨111, _, rfl, enters_of Tryd.func111 (by kernel_rfl) rfl, fun W hW c => ?_⟩, ((Below.refl _ _).alloc (Nat.le_refl _) _).alloc (by simp) _⟩
  have h1 : W.cell? ⟨w.heap.size, 0, none⟩ = some (.int .u8 (a : Int)) := (hW.cell (p := ⟨w.heap.size, 0, none⟩) (by simp; omega)).trans (World.cell?_alloc2_first _ _ _ _)
  have h2 : W.cell? ⟨w.heap.size + 1, 0, none⟩ = some (.int .u8 (b : Int)) := (hW.cell (p := ⟨w.heap.size + 1, 0, none⟩) (by simp)).trans (by simp)
  refine (bet_call a b _ _ W h1 h2 c).mono ?_
  rintro e w' ⟨rfl, rfl⟩
  exact ⟨rfl, Below.refl _ _⟩
set_option maxRecDepth 100000 in
set_option maxHeartbeats 400000 in
/-- how many bytes of a kind a text begins with -/
theorem run_any (s : ByteArray) (hs : s.size ≤ 100000) (v : Value) (p : UInt8 → Bool) (w : World) (hk : KindIs w v p) :
    Calls Tryd.prog 85 #[.string s, v] w fun e w' => e = .returned (.int .i64 (runF p s.data.toList : Nat)) ∧ Below w.heap.size w w' := by
  obtain ⟨M, caps, rfl, hE, hK⟩ := hk
  have HK := Lib.hid hK
  clear hK
  go_enter Tryd.func85, Tryd.ntmps85
  go_wp2
  go_loopw [5] (fun n wr => ∃ k : Nat, k ≤ s.size ∧ n = .int .i64 (k : Int) ∧ Hid (k + runF p (s.data.toList.drop k) = runF p s.data.toList) ∧ Below w.heap.size w wr) (fun n _ => s.size - (intOf n).toNat)
  case atStart => exact ⟨0, by omega, rfl, Lib.hid (by simp), Below.refl _ _⟩
  case round =>
    obtain ⟨k, hk, rfl, HD, hB⟩ := hrel
    have HB := Lib.hid hB
    clear hB
    by_cases hlt : k < s.size
    · have hd := HD.out
      rw [drop_get s _ hlt, runF] at hd
      have hi : (k : Int) < (s.size : Int) := by omega
      have hi0 : (0 : Int) ≤ (k : Int) := by omega
      obtain ⟨c, hc⟩ : ∃ c, s[k] = c := ⟨_, rfl⟩
      rw [hc] at hd
      have HDD := Lib.hid hd
      have HC := Lib.hid hc
      clear hd hc HD
      go_wp2_with fail
      refine (HK.out _ HB.out _).mono ?_
      rw [HC.out]
      rintro e w1 ⟨rfl, hb1⟩
      have HB1 := Lib.hid (HB.out.trans (hb1.mono HB.out.size))
      clear hb1
      obtain ⟨b, hb⟩ : ∃ b, p c = b := ⟨_, rfl⟩
      have hd := HDD.out
      rw [hb] at hd ⊢
      clear hb HDD
      cases b with
      | true =>
        have HD2 : Hid (k + 1 + runF p (s.data.toList.drop (k + 1)) = runF p s.data.toList) := Lib.hid (by rw [← hd, if_pos rfl]; omega)
        clear hd
        go_wp2
        go_roundw
        case rel => exact ⟨k + 1, by omega, by simp, HD2, HB1.out⟩
        case measure => simp [intOf]; omega
      | false =>
        have HD2 : Hid (runF p s.data.toList = k) := Lib.hid (by rw [← hd, if_neg (by decide)]; omega)
        clear hd
        go_wp2
        go_ret
        exact ⟨by rw [HD2.out]; rfl, HB1.out⟩
    · have hd := HD.out
      rw [List.drop_eq_nil_of_le (Nat.le_trans (Nat.le_of_eq (show s.data.toList.length = s.size by simp)) (show s.size ≤ k by omega)), runF] at hd
      have hi : ¬ (k : Int) < (s.size : Int) := by omega
      have HD2 : Hid (runF p s.data.toList = k) := Lib.hid hd.symm
      clear hd HD
      go_wp2
      go_ret
      exact ⟨by rw [HD2.out]; rfl, HB.out⟩
set_option maxRecDepth 100000 in
/-- does a text begin with a byte of a kind? -/
theorem begins_any (s : ByteArray) (v : Value) (p : UInt8 → Bool) (w : World) (hk : KindIs w v p) :
    Calls Tryd.prog 88 #[v, .string s] w fun e w' => e = .returned (.bool (headP p s.data.toList)) ∧ Below w.heap.size w w' := by
  obtain ⟨M, caps, rfl, hE, hK⟩ := hk
  have HK := Lib.hid hK
  clear hK
  by_cases hlt : 0 < s.size
  · have hd := drop_get s 0 hlt
    rw [List.drop_zero] at hd
    obtain ⟨c, hc⟩ : ∃ c, s[0] = c := ⟨_, rfl⟩
    have hr : headP p s.data.toList = p c := by rw [hd, ← hc]; rfl
    rw [hr]
    have hne : ¬ s.toList = [] := by rw [ByteArray.toList_eq, hd]; simp
    have hne2 : (!s.toList.isEmpty) = true := by rw [ByteArray.toList_eq, hd]; rfl
    have hi : (0 : Int) < (s.size : Int) := by omega
    have HC := Lib.hid hc
    clear hd hc hr
    go_enter Tryd.func88, Tryd.ntmps88
    go_wp2_with fail
    refine (HK.out _ (Below.refl _ _) _).mono ?_
    rw [HC.out]
    rintro e w1 ⟨rfl, hb1⟩
    have HB := Lib.hid hb1
    clear hb1
    go_wp2
    go_ret
    exact ⟨rfl, HB.out⟩
  · have he : s = ⟨#[]⟩ := by
      apply ByteArray.ext
      exact Array.eq_empty_of_size_eq_zero (by show s.size = 0; omega)
    have hr : headP p s.data.toList = false := by rw [he]; rfl
    have hne : s.toList = [] := by rw [ByteArray.toList_eq, he]
    rw [hr]
    clear hr hlt he
    go_enter Tryd.func88, Tryd.ntmps88
    go_wp2
    go_ret
    exact ⟨rfl, Below.refl _ _⟩
theorem one_call (S : ByteArray) (pa : Addr) (w : World) (h1 : w.cell? pa = some (.string S)) (c : UInt8) :
    Calls Tryd.prog 112 #[.int .u8 (c.toNat : Int), .pointer (some pa)] w fun e w' => e = .returned (.bool (setP S.data.toList c)) ∧ w = w' := by
  have hc : ((c.toNat : Int)).toNat.toUInt8 = c := by simp
  have hi := Tryd.strings_IndexByte S (c.toNat : Int)
  rw [hc] at hi
  have hr : setP S.data.toList c = decide (0 ≤ Lib.indexByte S.data.toList c) := by
    unfold setP
    have h0 := Lib.indexByte_ge S.data.toList c
    by_cases h : Lib.indexByte S.data.toList c = -1
    · have h2 := Lib.indexByte_none h
      rw [h]
      have : ¬ c ∈ S.data.toList := fun hm => by
        obtain ⟨k, hk⟩ := List.mem_iff_getElem?.1 hm
        exact h2 k hk
      simp [this]
    · obtain ⟨o, ho⟩ : ∃ o : Nat, Lib.indexByte S.data.toList c = o := ⟨(Lib.indexByte S.data.toList c).toNat, by omega⟩
      have h2 := (Lib.indexByte_some ho).1
      rw [ho]
      have : c ∈ S.data.toList := List.mem_iff_getElem?.2 ⟨o, h2⟩
      simp [this]
  obtain ⟨j, hj⟩ : ∃ j, Lib.indexByte S.data.toList c = j := ⟨_, rfl⟩
  rw [hj] at hi hr
  have HI := Lib.hid hi
  clear hi hc hj
  rw [hr]
  clear hr
  go_enter Tryd.func112, Tryd.ntmps112
  go_wp2_with fail
  refine (HI.out _).mono ?_
  rintro e w1 ⟨rfl, rfl⟩
  go_wp2
  go_ret
  exact ⟨rfl, rfl⟩
theorem oneOf_any (S : ByteArray) (w : World) : Calls Tryd.prog 87 #[.string S] w (KindOut w (setP S.data.toList)) := by
  obtain ⟨R, hR⟩ : ∃ R, KindOut w (setP S.data.toList) = R := ⟨_, rfl⟩
  rw [hR]
  have HR := Lib.hid hR
  have hmf : ∀ (fn : Fn) (first cap : Array Value) (w : World), (Instr.makeFunc fn first cap).run Tryd.prog w = .ok (.func fn first cap) w := fun _ _ _ _ => rfl
  clear hR
  go_enter Tryd.func87, Tryd.ntmps87
  go_wp2
  rw [← HR.out]
  refine ⟨_, rfl, ⟨112, _, rfl, enters_of Tryd.func112 (by kernel_rfl) rfl, fun W hW c => ?_⟩, (Below.refl _ _).alloc (Nat.le_refl _) _⟩
  have h1 : W.cell? ⟨w.heap.size, 0, none⟩ = some (.string S) := (hW.cell (p := ⟨w.heap.size, 0, none⟩) (by simp)).trans (by simp)
  refine (one_call S _ W h1 c).mono ?_
  rintro e w' ⟨rfl, rfl⟩
  exact ⟨rfl, Below.refl _ _⟩
/-- what stands behind the byte at a place -/
theorem after_any (s : ByteArray) (k : Nat) (hk : k ≤ s.size) (hs : s.size ≤ 100000) (v : Value) (p : UInt8 → Bool) (w : World) (hv : KindIs w v p) :
    Calls Tryd.prog 86 #[.string s, .int .i64 (k : Int), v] w fun e w' => (∃ t : ByteArray, e = .returned (.string t) ∧ t.data.toList = afterF s.data.toList k p ∧ t.size ≤ s.size) ∧ Below w.heap.size w w' := by
  obtain ⟨R, hR⟩ : ∃ R : Ending → World → Prop, (fun e w' => (∃ t : ByteArray, e = .returned (.string t) ∧ t.data.toList = afterF s.data.toList k p ∧ t.size ≤ s.size) ∧ Below w.heap.size w w') = R := ⟨_, rfl⟩
  rw [hR]
  have HR := Lib.hid hR
  have hcut := cut_end s k
  have hb := begins_any (s.extract k s.size) v p w hv
  rw [hcut] at hb
  have hk0 : (0 : Int) ≤ (k : Int) := by omega
  have hk1 : (k : Int) ≤ (s.size : Int) := by omega
  obtain ⟨b, hb2⟩ : ∃ b, headP p (s.data.toList.drop k) = b := ⟨_, rfl⟩
  rw [hb2] at hb
  have HB := Lib.hid hb
  have HB2 := Lib.hid hb2
  obtain ⟨M, caps, rfl, hE, hK⟩ := hv
  clear hK hE hR hb hb2 hcut
  cases b with
  | false =>
    go_enter Tryd.func86, Tryd.ntmps86
    go_wp2_with fail
    refine (HB.out).mono ?_
    rintro e w1 ⟨rfl, hb1⟩
    have HB1 := Lib.hid hb1
    clear hb1
    go_wp2
    rw [← HR.out]
    exact ⟨⟨⟨#[]⟩, rfl, by unfold afterF; rw [HB2.out]; rfl, Nat.zero_le _⟩, HB1.out⟩
  | true =>
    have hk2 : (k : Int) + 1 ≤ (s.size : Int) := by
      have : s.data.toList.drop k ≠ [] := fun e => by have := HB2.out; rw [e] at this; simp [headP] at this
      have := List.length_pos_iff.2 this
      simp at this; omega
    have hwr : IntKind.i64.wrap ((k : Int) + 1) = (k : Int) + 1 := by rw [IntKind.wrap_i64]; omega
    go_enter Tryd.func86, Tryd.ntmps86
    go_wp2_with fail
    refine (HB.out).mono ?_
    rintro e w1 ⟨rfl, hb1⟩
    have HB1 := Lib.hid hb1
    clear hb1
    go_wp2
    rw [← HR.out]
    refine ⟨⟨s.extract (k + 1) s.size, rfl, ?_, ?_⟩, HB1.out⟩
    · unfold afterF
      rw [HB2.out, if_pos rfl, cut_end]
    · rw [ByteArray.size_extract]; omega
end Go.Proofs.YtcnmghkmognhoaaDoor
