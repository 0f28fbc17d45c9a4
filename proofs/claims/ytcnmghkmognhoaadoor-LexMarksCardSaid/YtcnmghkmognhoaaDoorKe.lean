/- Parse undoes Text -/
import Derived.Test.YtcnmghkmognhoaaDoorKf
namespace Go.Proofs.YtcnmghkmognhoaaDoor.Addr
open Go.RowKit Go.Shelf
set_option maxRecDepth 100000

/-- how far the document's number lags behind -/
def offs (p : Nat) : Int := match p with | 0 => 0 | 1 => 1 | 2 => 27 | _ => 703

theorem colL_get (s : ByteArray) (p : Nat) (n : Int) (h : p < s.size) : colL (s.data.toList.drop p) n = match capN (s[p]).toNat with | some d => colL (s.data.toList.drop (p + 1)) (n * 26 + d + 1) | none => none := by
  rw [drop_get s p h, colL]
  cases capN (s[p]).toNat <;> rfl
theorem capN_range (c : Nat) (d : Int) (h : capN c = some d) : 0 ≤ d ∧ d ≤ 25 := by
  unfold capN at h
  split at h
  · injection h with h; omega
  · split at h
    · injection h with h; omega
    · cases h

theorem capN_let (n : Int) (h0 : 0 ≤ n) (h1 : n < 26) : capN (letB n).toNat = some n := by
  have e := letB_nat n h0 h1
  unfold capN
  rw [if_neg (by omega), if_pos (by omega)]
  congr 1; omega

/-- what Letters tells, Column reads -/
theorem column_let (c : Int) (h0 : 0 ≤ c) (h1 : c ≤ 18277) : columnL (letL c) = some c := by
  unfold letL
  split
  · simp [columnL, colL, capN_let (c % 26) (by omega) (by omega)]; omega
  · split
    · simp [columnL, colL, capN_let (c % 26) (by omega) (by omega), capN_let ((c / 26 - 1) % 26) (by omega) (by omega)]; omega
    · simp [columnL, colL, capN_let (c % 26) (by omega) (by omega), capN_let ((c / 26 - 1) % 26) (by omega) (by omega), capN_let (((c / 26 - 1) / 26 - 1) % 26) (by omega) (by omega)]; omega
/-- how many letters stand ahead -/
def lets : List UInt8 → Nat
  | [] => 0
  | c :: t => if (capN c.toNat).isSome then lets t + 1 else 0
theorem lets_le : ∀ l : List UInt8, lets l ≤ l.length
  | [] => Nat.le_refl _
  | c :: t => by unfold lets; split <;> simp [lets_le t]
theorem lets_drop : ∀ (l : List UInt8) (p : Nat), p ≤ lets l → lets (l.drop p) = lets l - p
  | l, 0, _ => by simp
  | [], p + 1, h => by simp [lets] at h
  | c :: t, p + 1, h => by
    rw [List.drop_succ_cons]
    by_cases hc : (capN c.toNat).isSome = true
    · have e : lets (c :: t) = lets t + 1 := by rw [lets, if_pos hc]
      rw [e] at h ⊢
      rw [lets_drop t p (by omega)]; omega
    · have e : lets (c :: t) = 0 := by rw [lets, if_neg hc]
      rw [e] at h; omega

/-- what stands behind a '$', if one stands ahead -/
def opened (l t : List UInt8) (b : Bool) : Prop := (b = true ∧ l = 36 :: t) ∨ (b = false ∧ l = t ∧ t.head? ≠ some 36)
theorem opened_of (l : List UInt8) : opened l (Lib.trimPrefix l [36]) (Lib.hasPrefix l [36]) := by
  cases l with
  | nil => exact .inr ⟨rfl, rfl, by simp [Lib.trimPrefix, Lib.hasPrefix]⟩
  | cons c t =>
    by_cases h : c = 36
    · subst h
      exact .inl ⟨by simp [Lib.hasPrefix], by simp [Lib.trimPrefix, Lib.hasPrefix]⟩
    · have e : Lib.hasPrefix (c :: t) [36] = false := by simp [Lib.hasPrefix, List.isPrefixOf]; exact fun h' => h h'.symm
      refine .inr ⟨e, by simp [Lib.trimPrefix, e], ?_⟩
      simp [Lib.trimPrefix, e, h]

theorem lets_at (l : List UInt8) (p : Nat) (hp : p < l.length) (h : p ≤ lets l) : (capN (l[p]).toNat).isSome = decide (p < lets l) := by
  have e := lets_drop l p h
  rw [List.drop_eq_getElem_cons hp] at e
  by_cases hc : (capN (l[p]).toNat).isSome = true
  · rw [lets, if_pos hc] at e
    rw [hc]; symm; exact decide_eq_true (by omega)
  · rw [lets, if_neg hc] at e
    rw [Bool.not_eq_true] at hc
    rw [hc]; symm; exact decide_eq_false (by omega)

/-- the mark that a text tells, as the document reads it -/
def rparseL (l : List UInt8) : Option (Int × Int × Bool × Bool) :=
  match columnL ((Lib.trimPrefix l [36]).take (lets (Lib.trimPrefix l [36]))) with
  | none => none
  | some c => match numL (Lib.trimPrefix ((Lib.trimPrefix l [36]).drop (lets (Lib.trimPrefix l [36]))) [36]) with
    | none => none
    | some m => some (m - 1, c, Lib.hasPrefix ((Lib.trimPrefix l [36]).drop (lets (Lib.trimPrefix l [36]))) [36], Lib.hasPrefix l [36])

/-- a mark out of its parts -/
def comb (o q : Option Int) (b' b : Bool) : Option (Int × Int × Bool × Bool) := match o with | none => none | some c => match q with | none => none | some m => some (m - 1, c, b', b)

theorem rparseL_comb (l : List UInt8) : rparseL l = comb (columnL ((Lib.trimPrefix l [36]).take (lets (Lib.trimPrefix l [36])))) (numL (Lib.trimPrefix ((Lib.trimPrefix l [36]).drop (lets (Lib.trimPrefix l [36]))) [36])) (Lib.hasPrefix ((Lib.trimPrefix l [36]).drop (lets (Lib.trimPrefix l [36]))) [36]) (Lib.hasPrefix l [36]) := by
  unfold rparseL comb
  cases columnL ((Lib.trimPrefix l [36]).take (lets (Lib.trimPrefix l [36]))) with
  | none => rfl
  | some c => cases numL (Lib.trimPrefix ((Lib.trimPrefix l [36]).drop (lets (Lib.trimPrefix l [36]))) [36]) <;> rfl

theorem capN_ascii (c : Nat) (h : (capN c).isSome = true) : c < 128 ∧ isStop c = false := by
  unfold capN at h
  split at h
  · rename_i h1; exact ⟨by omega, by simp [isStop]; omega⟩
  · split at h
    · rename_i h1; exact ⟨by omega, by simp [isStop]; omega⟩
    · cases h
theorem stop_ascii (c : Nat) (h : isStop c = true) : c < 128 ∧ capN c = none := by
  simp [isStop] at h
  refine ⟨by omega, ?_⟩
  unfold capN
  rw [if_neg (by omega), if_neg (by omega)]

/-- all of columnL's bytes are letters -/
theorem colL_all : ∀ (l : List UInt8) (n c : Int), colL l n = some c → ∀ b ∈ l, (capN b.toNat).isSome = true
  | [], _, _, _ => by simp
  | x :: t, n, c, h => by
    unfold colL at h
    cases hx : capN x.toNat with
    | none => rw [hx] at h; cases h
    | some d =>
      rw [hx] at h
      intro b hb
      rcases List.mem_cons.1 hb with rfl | hb
      · rw [hx]; rfl
      · exact colL_all t _ c h b hb
theorem columnL_all (l : List UInt8) (c : Int) (h : columnL l = some c) : ∀ b ∈ l, (capN b.toNat).isSome = true := by
  unfold columnL at h
  split at h
  · cases h
  · exact colL_all l 0 c h
theorem lets_prefix : ∀ (l : List UInt8) (k : Nat), k ≤ l.length → (∀ b ∈ l.take k, (capN b.toNat).isSome = true) → k ≤ lets l
  | _, 0, _, _ => Nat.zero_le _
  | [], k + 1, h, _ => by simp at h
  | c :: t, k + 1, h, hb => by
    have hc : (capN c.toNat).isSome = true := hb c (by simp)
    rw [lets, if_pos hc]
    have := lets_prefix t k (by simpa using h) (fun b hb' => hb b (by simp [hb']))
    omega
theorem lets_all : ∀ (l : List UInt8) (p : Nat) (_ : p < lets l) (hl : p < l.length), (capN (l[p]).toNat).isSome = true
  | [], p, _, hl => by simp at hl
  | c :: t, p, hp, hl => by
    by_cases hc : (capN c.toNat).isSome = true
    · cases p with
      | zero => exact hc
      | succ p =>
        rw [lets, if_pos hc] at hp
        exact lets_all t p (by omega) (by simpa using hl)
    · rw [lets, if_neg hc] at hp; omega

/-- the first stop, where letters alone stand ahead of it -/
theorem idx_from (u : ByteArray) (k : Nat) (hk : k < u.size) (hlet : ∀ p, (hp : p < k) → (capN (u[p]'(by omega)).toNat).isSome = true) (hstop : isStop (u[k]).toNat = true) :
    ∀ (f p : Nat), p ≤ k → k < p + f → Lib.idxFuncFrom isStop true u f p = k
  | 0, p, h1, h2 => by omega
  | f + 1, p, h1, h2 => by
    unfold Lib.idxFuncFrom
    rw [if_pos (by omega)]
    by_cases he : p = k
    · subst he
      have ha := (stop_ascii _ hstop).1
      rw [decode_ascii u p hk ha]
      simp only []
      rw [if_pos hstop]
    · have hp : p < k := by omega
      have ha := capN_ascii _ (hlet p hp)
      rw [decode_ascii u p (by omega) ha.1]
      simp only []
      rw [ha.2, if_neg (by decide)]
      exact idx_from u k hk hlet hstop f (p + 1) (by omega) (by omega)
/-- what stands at the first stop -/
theorem idx_stop (u : ByteArray) (n : Nat) : ∀ (f p : Nat), p ≤ n → Lib.idxFuncFrom isStop true u f p = n → (∀ q, p ≤ q → (hq : q < n) → ∃ h : q < u.size, (capN (u[q]'h).toNat).isSome = true) → ∃ h : n < u.size, isStop (u[n]'h).toNat = true
  | 0, p, _, h, _ => by simp [Lib.idxFuncFrom] at h
  | f + 1, p, hp, h, hl => by
    unfold Lib.idxFuncFrom at h
    by_cases hlt : p < u.size
    · rw [if_pos hlt] at h
      by_cases hpn : p = n
      · subst hpn
        by_cases hs : isStop (Utf8.decode u p).1 = true
        · refine ⟨hlt, ?_⟩
          by_cases ha : (u[p]).toNat < 128
          · rw [decode_ascii u p hlt ha] at hs; exact hs
          · have := (decode_high u p hlt (by omega)).1
            have := (stop_ascii _ hs).1
            omega
        · rw [if_neg hs] at h
          have hr := Lib.idxFuncFrom_range isStop true u f (p + (Utf8.decode u p).2)
          rw [h] at hr
          have : 1 ≤ (Utf8.decode u p).2 := by
            by_cases ha : (u[p]).toNat < 128
            · rw [decode_ascii u p hlt ha]; exact Nat.le_refl _
            · exact (decode_high u p hlt (by omega)).2
          omega
      · have hq := hl p (Nat.le_refl _) (by omega)
        obtain ⟨h', hc⟩ := hq
        have ha := capN_ascii _ hc
        rw [decode_ascii u p hlt ha.1] at h
        simp only [] at h
        rw [ha.2, if_neg (by decide)] at h
        exact idx_stop u n f (p + 1) (by omega) h (fun q hq1 hq2 => hl q (by omega) hq2)
    · rw [if_neg hlt] at h; omega
theorem numL_head (v : List UInt8) (m : Int) (h : numL v = some m) : ∃ c t, v = c :: t ∧ isStop c.toNat = true := by
  unfold numL at h
  split at h
  · cases h
  · cases v with
    | nil => rename_i h0; simp at h0
    | cons c t =>
      unfold digL at h
      split at h
      · rename_i hc
        exact ⟨c, t, rfl, by simp [isStop]; omega⟩
      · cases h
theorem trim_head (v : List UInt8) (m : Int) (h : numL (Lib.trimPrefix v [36]) = some m) : ∃ c t, v = c :: t ∧ isStop c.toNat = true := by
  rcases opened_of v with ⟨_, hv⟩ | ⟨_, hv, _⟩
  · exact ⟨36, _, hv, by decide⟩
  · rw [← hv] at h; exact numL_head v m h

theorem idx_eq (t : List UInt8) (hs : ∃ c v, t.drop (lets t) = c :: v ∧ isStop c.toNat = true) : Lib.idxFunc isStop true ⟨t.toArray⟩ = (lets t : Nat) := by
  obtain ⟨c, v, hd, hc⟩ := hs
  have hk : lets t < t.length := by
    have := congrArg List.length hd
    simp at this; omega
  have e : t[lets t] = c := by
    rw [List.drop_eq_getElem_cons hk] at hd
    injection hd
  exact idx_from ⟨t.toArray⟩ (lets t) hk (fun p hp => lets_all t p hp (by omega)) (by
    show isStop (t[lets t]).toNat = true
    rw [e]; exact hc) t.length 0 (Nat.zero_le _) (by omega)

theorem lets_of (t : List UInt8) (n : Nat) (c : Int) (hn : Lib.idxFunc isStop true ⟨t.toArray⟩ = n) (hc : columnL (t.take n) = some c) : lets t = n := by
  have hr := Lib.idxFuncFrom_range isStop true (⟨t.toArray⟩ : ByteArray) t.length 0
  have hn' : Lib.idxFuncFrom isStop true (⟨t.toArray⟩ : ByteArray) t.length 0 = n := hn
  rw [hn'] at hr
  have hz : (⟨t.toArray⟩ : ByteArray).size = t.length := rfl
  rw [hz] at hr
  have hlt : n < t.length := by omega
  have hall := columnL_all _ _ hc
  have h1 := lets_prefix t n (by omega) hall
  have hst := idx_stop ⟨t.toArray⟩ n t.length 0 (Nat.zero_le _) hn' (fun q _ hq => ⟨by rw [hz]; omega, lets_all t q (by omega) (by omega)⟩)
  obtain ⟨h2, h3⟩ := hst
  by_cases he : lets t = n
  · exact he
  · have h4 := lets_all t n (by omega) hlt
    have h5 := (stop_ascii _ h3).2
    have h6 : (⟨t.toArray⟩ : ByteArray)[n] = t[n] := rfl
    rw [h6] at h5
    rw [h5] at h4; cases h4

/-- the program's and the document's reading are one -/
theorem parse_eq (l : List UInt8) : parseL l = rparseL l := by
  unfold parseL
  rw [rparseL_comb]
  generalize Lib.trimPrefix l [36] = t
  generalize Lib.hasPrefix l [36] = b
  obtain ⟨n, hn⟩ : ∃ n, Lib.idxFunc isStop true ⟨t.toArray⟩ = n := ⟨_, rfl⟩
  rw [hn]
  -- where the document reads a mark, the first stop is behind the letters
  have key : ∀ c m, columnL (t.take (lets t)) = some c → numL (Lib.trimPrefix (t.drop (lets t)) [36]) = some m → n = (lets t : Nat) := fun c m _ hm => by
    rw [← hn]; exact idx_eq t (trim_head _ m hm)
  by_cases h0 : n < 0
  · rw [if_pos h0]
    cases hc : columnL (t.take (lets t)) with
    | none => rfl
    | some c =>
      cases hm : numL (Lib.trimPrefix (t.drop (lets t)) [36]) with
      | none => rfl
      | some m => have := key c m hc hm; omega
  · rw [if_neg h0]
    obtain ⟨k, rfl⟩ := Int.eq_ofNat_of_zero_le (show 0 ≤ n by omega)
    rw [Int.toNat_natCast]
    cases hc : columnL (t.take k) with
    | some c =>
      have e := lets_of t k c hn hc
      rw [e, hc]
      cases numL (Lib.trimPrefix (t.drop k) [36]) <;> rfl
    | none =>
      cases hc2 : columnL (t.take (lets t)) with
      | none => rfl
      | some c =>
        cases hm : numL (Lib.trimPrefix (t.drop (lets t)) [36]) with
        | none => rfl
        | some m =>
          have := key c m hc2 hm
          have e : k = lets t := by omega
          rw [e, hc2] at hc; cases hc
theorem digL_dec : ∀ (u : Nat) (l : List UInt8) (n : Int), digL (Lib.decDigits u ++ l) n = digL l (n * 10 ^ Lib.nDigits u + u) := by
  intro u
  induction u using Nat.strongRecOn with
  | _ u ih =>
    intro l n
    by_cases h : u < 10
    · have hb : (UInt8.ofNat (48 + u)).toNat = 48 + u := by rw [UInt8.toNat_ofNat']; omega
      rw [Lib.decDigits, dif_pos h, Lib.nDigits_small h, List.singleton_append, digL, hb, if_pos (by omega)]
      congr 1
      omega
    · have hb : (UInt8.ofNat (48 + u % 10)).toNat = 48 + u % 10 := by rw [UInt8.toNat_ofNat']; omega
      rw [Lib.decDigits, dif_neg h, Lib.nDigits_big h, List.append_assoc, ih (u / 10) (by omega), List.singleton_append, digL, hb, if_pos (by omega)]
      congr 1
      rw [Int.pow_succ]
      generalize (10 : Int) ^ Lib.nDigits (u / 10) = q
      have : n * (q * 10) = n * q * 10 := by rw [Int.mul_assoc]
      rw [this]
      omega
theorem dec_head : ∀ (u : Nat), 1 ≤ u → ∃ c t, Lib.decDigits u = c :: t ∧ 49 ≤ c.toNat ∧ c.toNat ≤ 57 := by
  intro u
  induction u using Nat.strongRecOn with
  | _ u ih =>
    intro h1
    by_cases h : u < 10
    · have hb : (UInt8.ofNat (48 + u)).toNat = 48 + u := by rw [UInt8.toNat_ofNat']; omega
      exact ⟨UInt8.ofNat (48 + u), [], by rw [Lib.decDigits, dif_pos h], by omega, by omega⟩
    · obtain ⟨c, t, e, h2, h3⟩ := ih (u / 10) (by omega) (by omega)
      exact ⟨c, t ++ [UInt8.ofNat (48 + u % 10)], by rw [Lib.decDigits, dif_neg h, e]; rfl, h2, h3⟩
theorem nDig_le : ∀ (k u : Nat), u < 10 ^ (k + 1) → Lib.nDigits u ≤ k + 1
  | 0, u, h => by rw [Lib.nDigits_small (by simpa using h)]; exact Nat.le_refl _
  | k + 1, u, h => by
    by_cases h10 : u < 10
    · rw [Lib.nDigits_small h10]; omega
    · rw [Lib.nDigits_big h10]
      have := nDig_le k (u / 10) (by rw [Nat.pow_succ] at h; omega)
      omega

theorem itoa_nat (u : Nat) : Lib.itoa (u : Int) = Lib.decDigits u := by unfold Lib.itoa; rw [if_neg (by omega)]; simp
/-- a numeral is read as its number -/
theorem numL_itoa (n : Int) (h1 : 1 ≤ n) (h2 : n ≤ 9999999) : numL (Lib.itoa n) = some n := by
  obtain ⟨u, rfl⟩ := Int.eq_ofNat_of_zero_le (show 0 ≤ n by omega)
  rw [itoa_nat]
  have hl : (Lib.decDigits u).length ≤ 7 := by
    rw [Lib.decDigits_length]; exact nDig_le 6 u (by omega)
  obtain ⟨c, t, e, h3, h4⟩ := dec_head u (by omega)
  have hd := digL_dec u [] 0
  rw [List.append_nil] at hd
  unfold numL
  rw [if_neg, hd]
  · simp [digL]
  · rintro (h | h | h)
    · rw [e] at h; simp at h
    · omega
    · rw [e] at h; injection h with h; rw [h] at h3; exact absurd h3 (by decide)
theorem itoa_head (n : Int) (h1 : 1 ≤ n) : ∃ c t, Lib.itoa n = c :: t ∧ 49 ≤ c.toNat ∧ c.toNat ≤ 57 := by
  obtain ⟨u, rfl⟩ := Int.eq_ofNat_of_zero_le (show 0 ≤ n by omega)
  rw [itoa_nat]; exact dec_head u (by omega)
/-- a number's numeral is as long as the digits that it was read from -/
theorem numL_len (l : List UInt8) (m : Int) (h : numL l = some m) : (Lib.itoa m).length = l.length := by
  have hb := numL_bound l m h
  obtain ⟨u, rfl⟩ := Int.eq_ofNat_of_zero_le (show 0 ≤ m by omega)
  rw [itoa_nat, Lib.decDigits_length]
  unfold numL at h
  split at h
  · cases h
  · rename_i hc
    match l, hc with
    | [], hc => simp at hc
    | c :: t, hc =>
      simp only [List.length_cons, List.head?_cons, not_or] at hc
      obtain ⟨_, h7, hne⟩ := hc
      have h8 := digL_bound (c :: t) 0 u (by omega) h
      unfold digL at h
      split at h
      · rename_i hd
        have hc48 : c.toNat ≠ 48 := fun e => hne (by rw [show c = 48 from UInt8.toNat_inj.1 e])
        obtain ⟨h1, _⟩ := digL_bound t _ u (by omega) h
        have hp : (0 : Int) < 10 ^ t.length := Int.pow_pos (by decide)
        have h3 : 1 * (10 : Int) ^ t.length ≤ (0 * 10 + ((c.toNat : Int) - 48)) * 10 ^ t.length := Int.mul_le_mul_of_nonneg_right (by omega) (by omega)
        have e1 : ((10 : Int) ^ t.length) = ((10 ^ t.length : Nat) : Int) := by simp
        have e2 : ((10 : Int) ^ (c :: t).length) = ((10 ^ (t.length + 1) : Nat) : Int) := by simp
        rw [e1] at h3 h1
        rw [e2] at h8
        rw [List.length_cons]
        exact Lib.nDigits_unique t.length u (by omega) (by omega)
      · cases h
/-- a column's letters are as many as it was read from -/
theorem columnL_len (l : List UInt8) (c : Int) (h : columnL l = some c) : 0 ≤ c ∧ c ≤ 18277 ∧ (letL c).length = l.length := by
  unfold columnL at h
  split at h
  · cases h
  · rename_i hc
    match l, hc, h with
    | [], hc, _ => simp at hc
    | [a], _, h =>
      simp only [colL] at h
      cases ha : capN a.toNat with
      | none => rw [ha] at h; cases h
      | some d =>
        rw [ha] at h
        have hr := capN_range _ _ ha
        simp only [Option.some.injEq] at h
        refine ⟨by omega, by omega, ?_⟩
        unfold letL; rw [if_pos (by omega)]; rfl
    | [a, b], _, h =>
      simp only [colL] at h
      cases ha : capN a.toNat with
      | none => rw [ha] at h; cases h
      | some d =>
        rw [ha] at h
        simp only at h
        cases hb : capN b.toNat with
        | none => rw [hb] at h; cases h
        | some d' =>
          rw [hb] at h
          have hr := capN_range _ _ ha
          have hr' := capN_range _ _ hb
          simp only [Option.some.injEq] at h
          refine ⟨by omega, by omega, ?_⟩
          unfold letL; rw [if_neg (by omega), if_pos (by omega)]; rfl
    | [a, b, e], _, h =>
      simp only [colL] at h
      cases ha : capN a.toNat with
      | none => rw [ha] at h; cases h
      | some d =>
        rw [ha] at h
        simp only at h
        cases hb : capN b.toNat with
        | none => rw [hb] at h; cases h
        | some d' =>
          rw [hb] at h
          simp only at h
          cases he : capN e.toNat with
          | none => rw [he] at h; cases h
          | some d'' =>
            rw [he] at h
            have hr := capN_range _ _ ha
            have hr' := capN_range _ _ hb
            have hr'' := capN_range _ _ he
            simp only [Option.some.injEq] at h
            refine ⟨by omega, by omega, ?_⟩
            unfold letL; rw [if_neg (by omega), if_neg (by omega)]; rfl
    | a :: b :: e :: f :: t, hc, _ => simp at hc

theorem letL_all (c : Int) (h0 : 0 ≤ c) (h1 : c ≤ 18277) : ∀ b ∈ letL c, (capN b.toNat).isSome = true := columnL_all _ c (column_let c h0 h1)
theorem lets_app (a : List UInt8) (c : UInt8) (t : List UInt8) (ha : ∀ b ∈ a, (capN b.toNat).isSome = true) (hc : (capN c.toNat).isSome = false) : lets (a ++ c :: t) = a.length := by
  induction a with
  | nil => rw [List.nil_append, lets, if_neg (by rw [hc]; decide)]; rfl
  | cons x a ih =>
    rw [List.cons_append, lets, if_pos (ha x (by simp)), ih (fun b hb => ha b (by simp [hb])), List.length_cons]

theorem opened_uniq {l t t' : List UInt8} {b b' : Bool} (h : opened l t b) (h' : opened l t' b') : t = t' ∧ b = b' := by
  rcases h with ⟨rfl, e⟩ | ⟨rfl, e, hh⟩ <;> rcases h' with ⟨rfl, e'⟩ | ⟨rfl, e', hh'⟩
  · rw [e] at e'; injection e' with _ e'; exact ⟨e', rfl⟩
  · rw [e] at e'; rw [← e'] at hh'; exact absurd rfl hh'
  · rw [e'] at e; rw [← e] at hh; exact absurd rfl hh
  · exact ⟨e.symm.trans e', rfl⟩
theorem opened_dol (b : Bool) (t : List UInt8) (h : t.head? ≠ some 36) : opened (dol b ++ t) t b := by
  cases b
  · exact .inr ⟨rfl, rfl, h⟩
  · exact .inl ⟨rfl, rfl⟩
theorem trim_dol (b : Bool) (t : List UInt8) (h : t.head? ≠ some 36) : Lib.trimPrefix (dol b ++ t) [36] = t ∧ Lib.hasPrefix (dol b ++ t) [36] = b :=
  opened_uniq (opened_of _) (opened_dol b t h)
theorem dol_of {l t : List UInt8} {b : Bool} (h : opened l t b) : l = dol b ++ t := by
  rcases h with ⟨rfl, e⟩ | ⟨rfl, e, _⟩ <;> exact e

/-- a mark is read from its text -/
theorem parse_text (r c : Int) (fr fc : Bool) (h : rightB r c = true) : parseL (textL r c fr fc) = some (r, c, fr, fc) := by
  have g1 : 0 ≤ r ∧ r ≤ 9999998 ∧ 0 ≤ c ∧ c ≤ 18277 := by simpa [rightB] using h
  obtain ⟨a1, a2, a3, a4⟩ := g1
  rw [parse_eq, rparseL_comb]
  unfold textL
  rw [if_pos h]
  obtain ⟨d, v, hv, d1, d2⟩ := itoa_head (r + 1) (by omega)
  have hd36 : (Lib.itoa (r + 1)).head? ≠ some 36 := by
    rw [hv]; intro e; injection e with e; rw [e] at d1; exact absurd d1 (by decide)
  have hlet : ∀ x : List UInt8, (letL c ++ x).head? ≠ some 36 := by
    intro x e
    have hall := letL_all c a3 a4
    cases hl : letL c with
    | nil => have := (columnL_len _ _ (column_let c a3 a4)); rw [hl] at this; have h2 := column_let c a3 a4; rw [hl] at h2; simp [columnL] at h2
    | cons y z =>
      rw [hl] at e hall
      injection e with e
      have := hall y (by simp)
      rw [e] at this; exact absurd this (by decide)
  have e1 : dol fc ++ letL c ++ dol fr ++ Lib.itoa (r + 1) = dol fc ++ (letL c ++ (dol fr ++ Lib.itoa (r + 1))) := by simp
  rw [e1]
  obtain ⟨t1, t2⟩ := trim_dol fc (letL c ++ (dol fr ++ Lib.itoa (r + 1))) (hlet _)
  rw [t1, t2]
  have hx : ∃ x y, dol fr ++ Lib.itoa (r + 1) = x :: y ∧ (capN x.toNat).isSome = false := by
    cases fr
    · refine ⟨d, v, hv, ?_⟩
      unfold capN; rw [if_neg (by omega), if_neg (by omega)]; rfl
    · exact ⟨36, _, rfl, by decide⟩
  obtain ⟨x, y, hxy, hx⟩ := hx
  have e2 : lets (letL c ++ (dol fr ++ Lib.itoa (r + 1))) = (letL c).length := by
    rw [hxy]; exact lets_app _ x y (letL_all c a3 a4) hx
  rw [e2, List.take_left' rfl, List.drop_left' rfl]
  obtain ⟨t3, t4⟩ := trim_dol fr (Lib.itoa (r + 1)) hd36
  rw [t3, t4, column_let c a3 a4, numL_itoa (r + 1) (by omega) (by omega)]
  simp [comb]

/-- the text of what was read is as long -/
theorem parse_len (l : List UInt8) (r c : Int) (fr fc : Bool) (h : parseL l = some (r, c, fr, fc)) : rightB r c = true ∧ (textL r c fr fc).length = l.length := by
  rw [parse_eq, rparseL_comb] at h
  have o1 := opened_of l
  generalize Lib.trimPrefix l [36] = t at *
  generalize Lib.hasPrefix l [36] = b at *
  have o2 := opened_of (t.drop (lets t))
  generalize Lib.trimPrefix (t.drop (lets t)) [36] = v at *
  generalize Lib.hasPrefix (t.drop (lets t)) [36] = b' at *
  cases hc : columnL (t.take (lets t)) with
  | none => rw [hc] at h; cases h
  | some c' =>
    cases hm : numL v with
    | none => rw [hc, hm] at h; cases h
    | some m =>
      rw [hc, hm] at h
      simp only [comb, Option.some.injEq, Prod.mk.injEq] at h
      obtain ⟨rfl, rfl, rfl, rfl⟩ := h
      have h1 := columnL_len _ _ hc
      have h2 := numL_len _ _ hm
      have h3 := numL_bound _ _ hm
      have hr : rightB (m - 1) c' = true := by simp [rightB]; omega
      refine ⟨hr, ?_⟩
      have e1 := congrArg List.length (dol_of o1)
      have e2 := congrArg List.length (dol_of o2)
      unfold textL
      rw [if_pos hr, show m - 1 + 1 = m by omega]
      simp only [List.length_append, List.length_drop, List.length_take] at *
      have := lets_le t
      omega

end Go.Proofs.YtcnmghkmognhoaaDoor.Addr
