/- addr's Parse -/
import Derived.Test.YtcnmghkmognhoaaDoorKb
namespace Go.Proofs.YtcnmghkmognhoaaDoor.Addr
open Go.RowKit Go.Shelf
set_option maxRecDepth 100000


theorem bcell {W w1 : World} (hb : Below W.heap.size W w1) : (∀ b o, b < W.heap.size → w1.cell? ⟨b, o, none⟩ = W.cell? ⟨b, o, none⟩) ∧ (∀ b o, b < W.heap.size → w1.frozen? ⟨b, o, none⟩ = W.frozen? ⟨b, o, none⟩) :=
  ⟨fun b o h => hb.cell (p := ⟨b, o, none⟩) h, fun b o h => hb.frozen (p := ⟨b, o, none⟩) h⟩

/-- '$' or a digit -/
def isStop (c : Nat) : Bool := c == 36 || (decide (48 ≤ c) && decide (c ≤ 57))

theorem stop_gives (W : World) (c : Nat) : FnGives Tryd.prog 45 #[] #[encR c] (.bool (isStop c)) W := by
  unfold FnGives encR
  by_cases h1 : c = 36
  · subst h1
    go_enter Tryd.func45, Tryd.ntmps45
    go_wp2
    go_ret
    exact ⟨rfl, 0, rfl⟩
  · have hb : (((c : Int)) == 36) = false := by rw [beq_eq_false_iff_ne]; omega
    by_cases h2 : 48 ≤ c
    · by_cases h3 : c ≤ 57
      · have e : isStop c = true := by simp [isStop, h2, h3]
        rw [e]
        go_enter Tryd.func45, Tryd.ntmps45
        go_wp2
        go_ret
        exact ⟨by simp; omega, 0, rfl⟩
      · have e : isStop c = false := by simp [isStop, h1, h3]
        rw [e]
        go_enter Tryd.func45, Tryd.ntmps45
        go_wp2
        go_ret
        exact ⟨by simp; omega, 0, rfl⟩
    · have e : isStop c = false := by simp [isStop, h1, h2]
      rw [e]
      go_enter Tryd.func45, Tryd.ntmps45
      go_wp2
      go_ret
      exact ⟨rfl, 0, rfl⟩

theorem index_any (s : ByteArray) (w : World) : Calls Tryd.prog 44 #[.string s, .func (.func 45) #[] #[]] w fun e w' => e = .returned (.int .i64 (Lib.idxFunc isStop true s)) ∧ Below w.heap.size w w' :=
  Any.strings_IndexFunc Tryd.laysGw15 45 #[] (enters_of Tryd.func45 (by kernel_rfl) rfl) isStop s w (fun W x _ => stop_gives W x)

/-- what Parse comes to -/
def parseR (o : Option (Int × Int × Bool × Bool)) : Value := match o with
  | some (r, c, fr, fc) => .tuple #[.agg #[.int .i64 r, .int .i64 c, .bool fr, .bool fc], .bool true]
  | none => .tuple #[.agg #[.int .i64 0, .int .i64 0, .bool false, .bool false], .bool false]

theorem four {w w1 : World} {a b c d : Value} {T : TypeId} (hb : Below (w.alloc (.cells #[a, b, c, d] T)).heap.size (w.alloc (.cells #[a, b, c, d] T)) w1) :
    w1.cell? ⟨w.heap.size, 0, none⟩ = some a ∧ w1.cell? ⟨w.heap.size, 1, none⟩ = some b ∧ w1.cell? ⟨w.heap.size, 2, none⟩ = some c ∧ w1.cell? ⟨w.heap.size, 3, none⟩ = some d ∧
    w1.frozen? ⟨w.heap.size, 0, none⟩ = false ∧ w1.frozen? ⟨w.heap.size, 1, none⟩ = false ∧ w1.frozen? ⟨w.heap.size, 2, none⟩ = false ∧ w1.frozen? ⟨w.heap.size, 3, none⟩ = false ∧ w.heap.size < w1.heap.size := by
  obtain ⟨hc, hf⟩ := bcell hb
  have hl : w.heap.size < (w.alloc (.cells #[a, b, c, d] T)).heap.size := by rw [World.size_alloc]; omega
  refine ⟨?_, ?_, ?_, ?_, ?_, ?_, ?_, ?_, ?_⟩
  iterate 4 (rw [hc _ _ hl, World.cell?_alloc_new]; rfl)
  iterate 4 (rw [hf _ _ hl, World.frozen?_alloc_new])
  have := hb.size; omega

theorem below4 {w w1 : World} {o : Obj} (hb : Below (w.alloc o).heap.size (w.alloc o) w1) : Below w.heap.size w w1 :=
  ((Below.refl _ _).alloc (Nat.le_refl _) _).trans (hb.mono (by rw [World.size_alloc]; omega))

theorem below_sets {B n : Nat} {w w1 : World} (hb : Below B w w1) (a b c d : Value) (h : B ≤ n := by exact Nat.le_refl _) : Below B w ((((w1.setCell ⟨n, 0, none⟩ a).setCell ⟨n, 1, none⟩ b).setCell ⟨n, 2, none⟩ c).setCell ⟨n, 3, none⟩ d) :=
  (((hb.setCell h _).setCell h _).setCell h _).setCell h _

theorem four2 {n : Nat} {w1 w2 : World} {a b c d : Value} (hz : n < w1.heap.size) (hb : Below w1.heap.size w1 w2)
    (c0 : w1.cell? ⟨n, 0, none⟩ = some a) (c1 : w1.cell? ⟨n, 1, none⟩ = some b) (c2 : w1.cell? ⟨n, 2, none⟩ = some c) (c3 : w1.cell? ⟨n, 3, none⟩ = some d)
    (f0 : w1.frozen? ⟨n, 0, none⟩ = false) (f1 : w1.frozen? ⟨n, 1, none⟩ = false) (f2 : w1.frozen? ⟨n, 2, none⟩ = false) (f3 : w1.frozen? ⟨n, 3, none⟩ = false) :
    w2.cell? ⟨n, 0, none⟩ = some a ∧ w2.cell? ⟨n, 1, none⟩ = some b ∧ w2.cell? ⟨n, 2, none⟩ = some c ∧ w2.cell? ⟨n, 3, none⟩ = some d ∧
    w2.frozen? ⟨n, 0, none⟩ = false ∧ w2.frozen? ⟨n, 1, none⟩ = false ∧ w2.frozen? ⟨n, 2, none⟩ = false ∧ w2.frozen? ⟨n, 3, none⟩ = false ∧ n < w2.heap.size := by
  obtain ⟨hc, hf⟩ := bcell hb
  have := hb.size
  exact ⟨(hc _ _ hz).trans c0, (hc _ _ hz).trans c1, (hc _ _ hz).trans c2, (hc _ _ hz).trans c3, (hf _ _ hz).trans f0, (hf _ _ hz).trans f1, (hf _ _ hz).trans f2, (hf _ _ hz).trans f3, by omega⟩

set_option maxHeartbeats 1000000 in
set_option maxRecDepth 100000 in
theorem parse_a (s : ByteArray) (w : World) (t : List UInt8) (b : Bool) (ht : Lib.trimPrefix s.data.toList [36] = t) (hb : Lib.hasPrefix s.data.toList [36] = b) (n : Int) (hn : Lib.idxFunc isStop true ⟨t.toArray⟩ = n) (hneg : n < 0) :
    Calls Tryd.prog 20 #[.string s] w fun e w' => e = .returned (parseR none) ∧ Below w.heap.size w w' := by
  have HN := Lib.hid hn
  have HT := Lib.hid ht
  have HB := Lib.hid hb
  clear hn ht hb
  go_enter Tryd.func20, Tryd.ntmps20
  go_wp2_with (go_at_call 43; refine (Tryd.strings_CutPrefix _ _ _).mono ?_; rw [show (⟨#[36]⟩ : ByteArray).data.toList = [36] from rfl, HT.out, HB.out]; rintro e w' ⟨rfl, rfl⟩)
  go_at_call 44
  refine (index_any _ _).mono ?_
  rw [HN.out]
  rintro e w1 ⟨rfl, hb1⟩
  obtain ⟨c0, c1, c2, c3, f0, f1, f2, f3, hz⟩ := four hb1
  have hb2 := below4 hb1
  clear hb1
  go_wp2
  refine bodyPost_ret (v := .tuple #[.agg #[.int .i64 0, .int .i64 0, .bool false, .bool false], .bool false]) (by simp [results, Tryd.results20, go_sem, c0, c1, c2, c3]) rfl ⟨rfl, ?_⟩
  exact below_sets hb2 _ _ _ _

theorem ext_take (t : List UInt8) (k : Nat) : ((⟨t.toArray⟩ : ByteArray).extract 0 k).data.toList = t.take k := by
  rw [Lib.extract_data]; simp
theorem ext_drop (t : List UInt8) (k : Nat) : ((⟨t.toArray⟩ : ByteArray).extract k t.length).data.toList = t.drop k := by
  rw [Lib.extract_data]; exact List.take_of_length_le (by simp)

set_option maxHeartbeats 1000000 in
set_option maxRecDepth 100000 in
theorem parse_b (s : ByteArray) (w : World) (t : List UInt8) (b : Bool) (ht : Lib.trimPrefix s.data.toList [36] = t) (hb : Lib.hasPrefix s.data.toList [36] = b) (k : Nat) (hn : Lib.idxFunc isStop true ⟨t.toArray⟩ = k) (hk : k ≤ t.length) (hc : columnL (t.take k) = none) :
    Calls Tryd.prog 20 #[.string s] w fun e w' => e = .returned (parseR none) ∧ Below w.heap.size w w' := by
  have HN := Lib.hid hn
  have HT := Lib.hid ht
  have HB := Lib.hid hb
  have HC := Lib.hid hc
  clear hn ht hb hc
  go_enter Tryd.func20, Tryd.ntmps20
  go_wp2_with (go_at_call 43; refine (Tryd.strings_CutPrefix _ _ _).mono ?_; rw [show (⟨#[36]⟩ : ByteArray).data.toList = [36] from rfl, HT.out, HB.out]; rintro e w' ⟨rfl, rfl⟩)
  go_at_call 44
  refine (index_any _ _).mono ?_
  rw [HN.out]
  rintro e w1 ⟨rfl, hb1⟩
  obtain ⟨c0, c1, c2, c3, f0, f1, f2, f3, hz⟩ := four hb1
  have hb2 := below4 hb1
  clear hb1
  go_wp2_with fail
  refine (column_any _ _).mono ?_
  rw [ext_take, HC.out]
  unfold digR
  rintro e w2 ⟨rfl, hb3⟩
  obtain ⟨d0, d1, d2, d3, e0, e1, e2, e3, hy⟩ := four2 hz hb3 c0 c1 c2 c3 f0 f1 f2 f3
  have hb4 := hb2.trans (hb3.mono (by omega))
  clear hb3 c0 c1 c2 c3 f0 f1 f2 f3 hb2 hz
  go_wp2_with fail
  refine bodyPost_ret (v := .tuple #[.agg #[.int .i64 0, .int .i64 0, .bool false, .bool false], .bool false]) (by simp [results, Tryd.results20, go_sem, d0, d1, d2, d3]) rfl ⟨rfl, ?_⟩
  exact below_sets hb4 _ _ _ _

set_option maxHeartbeats 1000000 in
set_option maxRecDepth 100000 in
theorem parse_c (s : ByteArray) (w : World) (t : List UInt8) (b : Bool) (ht : Lib.trimPrefix s.data.toList [36] = t) (hb : Lib.hasPrefix s.data.toList [36] = b) (k : Nat) (hn : Lib.idxFunc isStop true ⟨t.toArray⟩ = k) (hk : k ≤ t.length) (c : Int) (hc : columnL (t.take k) = some c)
    (u : List UInt8) (b' : Bool) (hu : Lib.trimPrefix (t.drop k) [36] = u) (hb' : Lib.hasPrefix (t.drop k) [36] = b') (hnum : numL u = none) :
    Calls Tryd.prog 20 #[.string s] w fun e w' => e = .returned (parseR none) ∧ Below w.heap.size w w' := by
  have HN := Lib.hid hn
  have HT := Lib.hid ht
  have HB := Lib.hid hb
  have HC := Lib.hid hc
  have HU := Lib.hid hu
  have HB' := Lib.hid hb'
  have HM := Lib.hid hnum
  clear hn ht hb hc hu hb' hnum
  go_enter Tryd.func20, Tryd.ntmps20
  go_wp2_with (go_at_call 43; refine (Tryd.strings_CutPrefix _ _ _).mono ?_; rw [show (⟨#[36]⟩ : ByteArray).data.toList = [36] from rfl, HT.out, HB.out]; rintro e w' ⟨rfl, rfl⟩)
  go_at_call 44
  refine (index_any _ _).mono ?_
  rw [HN.out]
  rintro e w1 ⟨rfl, hb1⟩
  obtain ⟨c0, c1, c2, c3, f0, f1, f2, f3, hz⟩ := four hb1
  have hb2 := below4 hb1
  clear hb1
  go_wp2_with fail
  refine (column_any _ _).mono ?_
  rw [ext_take, HC.out]
  unfold digR
  rintro e w2 ⟨rfl, hb3⟩
  obtain ⟨d0, d1, d2, d3, e0, e1, e2, e3, hy⟩ := four2 hz hb3 c0 c1 c2 c3 f0 f1 f2 f3
  have hb4 := hb2.trans (hb3.mono (by omega))
  clear hb3 c0 c1 c2 c3 f0 f1 f2 f3 hb2 hz
  go_wp2_with (go_at_call 43; refine (Tryd.strings_CutPrefix _ _ _).mono ?_; rw [show (⟨#[36]⟩ : ByteArray).data.toList = [36] from rfl, ext_drop, HU.out, HB'.out]; rintro e w' ⟨rfl, rfl⟩)
  go_at_call 47
  refine (number_any _ _).mono ?_
  rw [show (⟨u.toArray⟩ : ByteArray).data.toList = u from rfl, HM.out]
  unfold digR
  rintro e w3 ⟨rfl, hb5⟩
  obtain ⟨c0, c1, c2, c3, f0, f1, f2, f3, hz⟩ := four2 hy hb5 d0 d1 d2 d3 e0 e1 e2 e3
  have hb6 := hb4.trans (hb5.mono (by omega))
  clear hb5 d0 d1 d2 d3 e0 e1 e2 e3 hb4 hy
  go_wp2_with fail
  refine bodyPost_ret (v := .tuple #[.agg #[.int .i64 0, .int .i64 0, .bool false, .bool false], .bool false]) (by simp [results, Tryd.results20, go_sem, c0, c1, c2, c3]) rfl ⟨rfl, ?_⟩
  exact below_sets hb6 _ _ _ _

set_option maxHeartbeats 1000000 in
set_option maxRecDepth 100000 in
theorem parse_d (s : ByteArray) (w : World) (t : List UInt8) (b : Bool) (ht : Lib.trimPrefix s.data.toList [36] = t) (hb : Lib.hasPrefix s.data.toList [36] = b) (k : Nat) (hn : Lib.idxFunc isStop true ⟨t.toArray⟩ = k) (hk : k ≤ t.length) (c : Int) (hc : columnL (t.take k) = some c)
    (u : List UInt8) (b' : Bool) (hu : Lib.trimPrefix (t.drop k) [36] = u) (hb' : Lib.hasPrefix (t.drop k) [36] = b') (m : Int) (hnum : numL u = some m) (hm0 : 1 ≤ m) (hm1 : m ≤ 9999999) :
    Calls Tryd.prog 20 #[.string s] w fun e w' => e = .returned (parseR (some (m - 1, c, b', b))) ∧ Below w.heap.size w w' := by
  have HN := Lib.hid hn
  have HT := Lib.hid ht
  have HB := Lib.hid hb
  have HC := Lib.hid hc
  have HU := Lib.hid hu
  have HB' := Lib.hid hb'
  have HM := Lib.hid hnum
  clear hn ht hb hc hu hb' hnum
  go_enter Tryd.func20, Tryd.ntmps20
  go_wp2_with (go_at_call 43; refine (Tryd.strings_CutPrefix _ _ _).mono ?_; rw [show (⟨#[36]⟩ : ByteArray).data.toList = [36] from rfl, HT.out, HB.out]; rintro e w' ⟨rfl, rfl⟩)
  go_at_call 44
  refine (index_any _ _).mono ?_
  rw [HN.out]
  rintro e w1 ⟨rfl, hb1⟩
  obtain ⟨c0, c1, c2, c3, f0, f1, f2, f3, hz⟩ := four hb1
  have hb2 := below4 hb1
  clear hb1
  go_wp2_with fail
  refine (column_any _ _).mono ?_
  rw [ext_take, HC.out]
  unfold digR
  rintro e w2 ⟨rfl, hb3⟩
  obtain ⟨d0, d1, d2, d3, e0, e1, e2, e3, hy⟩ := four2 hz hb3 c0 c1 c2 c3 f0 f1 f2 f3
  have hb4 := hb2.trans (hb3.mono (by omega))
  clear hb3 c0 c1 c2 c3 f0 f1 f2 f3 hb2 hz
  go_wp2_with (go_at_call 43; refine (Tryd.strings_CutPrefix _ _ _).mono ?_; rw [show (⟨#[36]⟩ : ByteArray).data.toList = [36] from rfl, ext_drop, HU.out, HB'.out]; rintro e w' ⟨rfl, rfl⟩)
  go_at_call 47
  refine (number_any _ _).mono ?_
  rw [show (⟨u.toArray⟩ : ByteArray).data.toList = u from rfl, HM.out]
  unfold digR
  rintro e w3 ⟨rfl, hb5⟩
  obtain ⟨c0, c1, c2, c3, f0, f1, f2, f3, hz⟩ := four2 hy hb5 d0 d1 d2 d3 e0 e1 e2 e3
  have hb6 := hb4.trans (hb5.mono (by omega))
  clear hb5 d0 d1 d2 d3 e0 e1 e2 e3 hb4 hy
  go_wp2_with fail
  refine bodyPost_ret (v := .tuple #[.agg #[.int .i64 (m - 1), .int .i64 c, .bool b', .bool b], .bool true]) (by simp [results, Tryd.results20, go_sem, c0, c1, c2, c3]) rfl ⟨rfl, ?_⟩
  exact below_sets hb6 _ _ _ _

/-- the mark that a text tells -/
def parseL (l : List UInt8) : Option (Int × Int × Bool × Bool) :=
  if Lib.idxFunc isStop true ⟨(Lib.trimPrefix l [36]).toArray⟩ < 0 then none else
  match columnL ((Lib.trimPrefix l [36]).take (Lib.idxFunc isStop true ⟨(Lib.trimPrefix l [36]).toArray⟩).toNat) with
  | none => none
  | some c => match numL (Lib.trimPrefix ((Lib.trimPrefix l [36]).drop (Lib.idxFunc isStop true ⟨(Lib.trimPrefix l [36]).toArray⟩).toNat) [36]) with
    | none => none
    | some m => some (m - 1, c, Lib.hasPrefix ((Lib.trimPrefix l [36]).drop (Lib.idxFunc isStop true ⟨(Lib.trimPrefix l [36]).toArray⟩).toNat) [36], Lib.hasPrefix l [36])

theorem digL_bound : ∀ (l : List UInt8) (n m : Int), 0 ≤ n → digL l n = some m → n * 10 ^ l.length ≤ m ∧ m < (n + 1) * 10 ^ l.length
  | [], n, m, _, h => by simp [digL] at h; subst h; simp; omega
  | c :: t, n, m, h0, h => by
    unfold digL at h
    split at h
    · rename_i hc
      obtain ⟨h1, h2⟩ := digL_bound t _ m (by omega) h
      rw [List.length_cons, Int.pow_succ]
      have hp : (0 : Int) < 10 ^ t.length := Int.pow_pos (by decide)
      generalize (10 : Int) ^ t.length = q at *
      constructor
      · refine Int.le_trans ?_ h1
        have : n * (q * 10) = (n * 10) * q := by rw [Int.mul_comm q, Int.mul_assoc]
        rw [this]
        exact Int.mul_le_mul_of_nonneg_right (by omega) (by omega)
      · refine Int.lt_of_lt_of_le h2 ?_
        have : (n + 1) * (q * 10) = ((n + 1) * 10) * q := by rw [Int.mul_comm q, Int.mul_assoc]
        rw [this]
        exact Int.mul_le_mul_of_nonneg_right (by omega) (by omega)
    · cases h

theorem seven_pow (p : Nat) (h : p ≤ 7) : (10 : Int) ^ p ≤ 10000000 := by
  have : p = 0 ∨ p = 1 ∨ p = 2 ∨ p = 3 ∨ p = 4 ∨ p = 5 ∨ p = 6 ∨ p = 7 := by omega
  rcases this with rfl | rfl | rfl | rfl | rfl | rfl | rfl | rfl <;> decide

theorem numL_bound (l : List UInt8) (m : Int) (h : numL l = some m) : 1 ≤ m ∧ m ≤ 9999999 := by
  unfold numL at h
  split at h
  · cases h
  · rename_i hc
    match l, hc with
    | [], hc => simp at hc
    | c :: t, hc =>
      simp only [List.length_cons, List.head?_cons, not_or] at hc
      obtain ⟨_, h7, hne⟩ := hc
      have hb := digL_bound (c :: t) 0 m (by omega) h
      have hs := seven_pow (c :: t).length (by simp; omega)
      unfold digL at h
      split at h
      · rename_i hd
        have hc48 : c.toNat ≠ 48 := fun e => hne (by rw [show c = 48 from UInt8.toNat_inj.1 e])
        obtain ⟨h1, _⟩ := digL_bound t _ m (by omega) h
        have hp : (0 : Int) < 10 ^ t.length := Int.pow_pos (by decide)
        have h3 : 1 * (10 : Int) ^ t.length ≤ (0 * 10 + ((c.toNat : Int) - 48)) * 10 ^ t.length := Int.mul_le_mul_of_nonneg_right (by omega) (by omega)
        omega
      · cases h

theorem trim_len (l p : List UInt8) : (Lib.trimPrefix l p).length ≤ l.length := by
  unfold Lib.trimPrefix; split
  · simp
  · exact Nat.le_refl _

/-- Parse, at every string -/
theorem parse_any (s : ByteArray) (w : World) : Calls Tryd.prog 20 #[.string s] w fun e w' => e = .returned (parseR (parseL s.data.toList)) ∧ Below w.heap.size w w' := by
  unfold parseL
  obtain ⟨n, hn⟩ : ∃ n, Lib.idxFunc isStop true ⟨(Lib.trimPrefix s.data.toList [36]).toArray⟩ = n := ⟨_, rfl⟩
  rw [hn]
  by_cases h0 : n < 0
  · rw [if_pos h0]; exact parse_a s w _ _ rfl rfl n hn h0
  · rw [if_neg h0]
    obtain ⟨k, rfl⟩ := Int.eq_ofNat_of_zero_le (show 0 ≤ n by omega)
    have hk : k ≤ (Lib.trimPrefix s.data.toList [36]).length := by
      have hr := Lib.idxFuncFrom_range isStop true (⟨(Lib.trimPrefix s.data.toList [36]).toArray⟩ : ByteArray) (⟨(Lib.trimPrefix s.data.toList [36]).toArray⟩ : ByteArray).size 0
      rw [show Lib.idxFuncFrom isStop true (⟨(Lib.trimPrefix s.data.toList [36]).toArray⟩ : ByteArray) (⟨(Lib.trimPrefix s.data.toList [36]).toArray⟩ : ByteArray).size 0 = (k : Int) from hn] at hr
      have hz : (⟨(Lib.trimPrefix s.data.toList [36]).toArray⟩ : ByteArray).size = (Lib.trimPrefix s.data.toList [36]).length := rfl
      rw [hz] at hr
      omega
    rw [Int.toNat_natCast]
    cases hc : columnL ((Lib.trimPrefix s.data.toList [36]).take k) with
    | none => exact parse_b s w _ _ rfl rfl k hn hk hc
    | some c =>
      cases hm : numL (Lib.trimPrefix ((Lib.trimPrefix s.data.toList [36]).drop k) [36]) with
      | none => exact parse_c s w _ _ rfl rfl k hn hk c hc _ _ rfl rfl hm
      | some m => exact parse_d s w _ _ rfl rfl k hn hk c hc _ _ rfl rfl m hm (numL_bound _ _ hm).1 (numL_bound _ _ hm).2

end Go.Proofs.YtcnmghkmognhoaaDoor.Addr
