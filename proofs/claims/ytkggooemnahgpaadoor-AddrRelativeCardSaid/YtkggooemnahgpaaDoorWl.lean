/- The program's and the document's reading of a mark are one: plain mathematics. -/
import Derived.Test.YtkggooemnahgpaaDoorWk
namespace Go.Proofs.YtkggooemnahgpaaDoor
open Go.RowKit

theorem capN_ascii (c : Nat) (h : (capN c).isSome = true) : c < 128 ∧ isStop c = false := by
  unfold capN at h
  split at h
  · rename_i h1; exact ⟨by omega, by simp [isStop]; omega⟩
  · split at h
    · rename_i h1; exact ⟨by omega, by simp [isStop]; omega⟩
    · cases h
theorem stop_ascii (c : Nat) (h : isStop c = true) : c < 128 ∧ capN c = none := by
  simp [isStop] at h
  refine ⟨by omega, ?_⟩
  unfold capN
  rw [if_neg (by omega), if_neg (by omega)]

/-- all of columnL's bytes are letters -/
theorem colL_all : ∀ (l : List UInt8) (n c : Int), colL l n = some c → ∀ b ∈ l, (capN b.toNat).isSome = true
  | [], _, _, _ => by simp
  | x :: t, n, c, h => by
    unfold colL at h
    cases hx : capN x.toNat with
    | none => rw [hx] at h; cases h
    | some d =>
      rw [hx] at h
      intro b hb
      rcases List.mem_cons.1 hb with rfl | hb
      · rw [hx]; rfl
      · exact colL_all t _ c h b hb
theorem columnL_all (l : List UInt8) (c : Int) (h : columnL l = some c) : ∀ b ∈ l, (capN b.toNat).isSome = true := by
  unfold columnL at h
  split at h
  · cases h
  · exact colL_all l 0 c h
theorem lets_prefix : ∀ (l : List UInt8) (k : Nat), k ≤ l.length → (∀ b ∈ l.take k, (capN b.toNat).isSome = true) → k ≤ lets l
  | _, 0, _, _ => Nat.zero_le _
  | [], k + 1, h, _ => by simp at h
  | c :: t, k + 1, h, hb => by
    have hc : (capN c.toNat).isSome = true := hb c (by simp)
    rw [lets, if_pos hc]
    have := lets_prefix t k (by simpa using h) (fun b hb' => hb b (by simp [hb']))
    omega
theorem lets_all : ∀ (l : List UInt8) (p : Nat) (_ : p < lets l) (hl : p < l.length), (capN (l[p]).toNat).isSome = true
  | [], p, _, hl => by simp at hl
  | c :: t, p, hp, hl => by
    by_cases hc : (capN c.toNat).isSome = true
    · cases p with
      | zero => exact hc
      | succ p =>
        rw [lets, if_pos hc] at hp
        exact lets_all t p (by omega) (by simpa using hl)
    · rw [lets, if_neg hc] at hp; omega

/-- the first stop, where letters alone stand ahead of it -/
theorem idx_from (u : ByteArray) (k : Nat) (hk : k < u.size) (hlet : ∀ p, (hp : p < k) → (capN (u[p]'(by omega)).toNat).isSome = true) (hstop : isStop (u[k]).toNat = true) :
    ∀ (f p : Nat), p ≤ k → k < p + f → Lib.idxFuncFrom isStop true u f p = k
  | 0, p, h1, h2 => by omega
  | f + 1, p, h1, h2 => by
    unfold Lib.idxFuncFrom
    rw [if_pos (by omega)]
    by_cases he : p = k
    · subst he
      have ha := (stop_ascii _ hstop).1
      rw [decode_ascii u p hk ha]
      simp only []
      rw [if_pos hstop]
    · have hp : p < k := by omega
      have ha := capN_ascii _ (hlet p hp)
      rw [decode_ascii u p (by omega) ha.1]
      simp only []
      rw [ha.2, if_neg (by decide)]
      exact idx_from u k hk hlet hstop f (p + 1) (by omega) (by omega)
/-- what stands at the first stop -/
theorem idx_stop (u : ByteArray) (n : Nat) : ∀ (f p : Nat), p ≤ n → Lib.idxFuncFrom isStop true u f p = n → (∀ q, p ≤ q → (hq : q < n) → ∃ h : q < u.size, (capN (u[q]'h).toNat).isSome = true) → ∃ h : n < u.size, isStop (u[n]'h).toNat = true
  | 0, p, _, h, _ => by simp [Lib.idxFuncFrom] at h
  | f + 1, p, hp, h, hl => by
    unfold Lib.idxFuncFrom at h
    by_cases hlt : p < u.size
    · rw [if_pos hlt] at h
      by_cases hpn : p = n
      · subst hpn
        by_cases hs : isStop (Utf8.decode u p).1 = true
        · refine ⟨hlt, ?_⟩
          by_cases ha : (u[p]).toNat < 128
          · rw [decode_ascii u p hlt ha] at hs; exact hs
          · have := (decode_high u p hlt (by omega)).1
            have := (stop_ascii _ hs).1
            omega
        · rw [if_neg hs] at h
          have hr := Lib.idxFuncFrom_range isStop true u f (p + (Utf8.decode u p).2)
          rw [h] at hr
          have : 1 ≤ (Utf8.decode u p).2 := by
            by_cases ha : (u[p]).toNat < 128
            · rw [decode_ascii u p hlt ha]; exact Nat.le_refl _
            · exact (decode_high u p hlt (by omega)).2
          omega
      · have hq := hl p (Nat.le_refl _) (by omega)
        obtain ⟨h', hc⟩ := hq
        have ha := capN_ascii _ hc
        rw [decode_ascii u p hlt ha.1] at h
        simp only [] at h
        rw [ha.2, if_neg (by decide)] at h
        exact idx_stop u n f (p + 1) (by omega) h (fun q hq1 hq2 => hl q (by omega) hq2)
    · rw [if_neg hlt] at h; omega
theorem numL_head (v : List UInt8) (m : Int) (h : numL v = some m) : ∃ c t, v = c :: t ∧ isStop c.toNat = true := by
  unfold numL at h
  split at h
  · cases h
  · cases v with
    | nil => rename_i h0; simp at h0
    | cons c t =>
      unfold digL at h
      split at h
      · rename_i hc
        exact ⟨c, t, rfl, by simp [isStop]; omega⟩
      · cases h
theorem trim_head (v : List UInt8) (m : Int) (h : numL (Lib.trimPrefix v [36]) = some m) : ∃ c t, v = c :: t ∧ isStop c.toNat = true := by
  rcases opened_of v with ⟨_, hv⟩ | ⟨_, hv, _⟩
  · exact ⟨36, _, hv, by decide⟩
  · rw [← hv] at h; exact numL_head v m h

theorem idx_eq (t : List UInt8) (hs : ∃ c v, t.drop (lets t) = c :: v ∧ isStop c.toNat = true) : Lib.idxFunc isStop true ⟨t.toArray⟩ = (lets t : Nat) := by
  obtain ⟨c, v, hd, hc⟩ := hs
  have hk : lets t < t.length := by
    have := congrArg List.length hd
    simp at this; omega
  have e : t[lets t] = c := by
    rw [List.drop_eq_getElem_cons hk] at hd
    injection hd
  exact idx_from ⟨t.toArray⟩ (lets t) hk (fun p hp => lets_all t p hp (by omega)) (by
    show isStop (t[lets t]).toNat = true
    rw [e]; exact hc) t.length 0 (Nat.zero_le _) (by omega)

theorem lets_of (t : List UInt8) (n : Nat) (c : Int) (hn : Lib.idxFunc isStop true ⟨t.toArray⟩ = n) (hc : columnL (t.take n) = some c) : lets t = n := by
  have hr := Lib.idxFuncFrom_range isStop true (⟨t.toArray⟩ : ByteArray) t.length 0
  have hn' : Lib.idxFuncFrom isStop true (⟨t.toArray⟩ : ByteArray) t.length 0 = n := hn
  rw [hn'] at hr
  have hz : (⟨t.toArray⟩ : ByteArray).size = t.length := rfl
  rw [hz] at hr
  have hlt : n < t.length := by omega
  have hall := columnL_all _ _ hc
  have h1 := lets_prefix t n (by omega) hall
  have hst := idx_stop ⟨t.toArray⟩ n t.length 0 (Nat.zero_le _) hn' (fun q _ hq => ⟨by rw [hz]; omega, lets_all t q (by omega) (by omega)⟩)
  obtain ⟨h2, h3⟩ := hst
  by_cases he : lets t = n
  · exact he
  · have h4 := lets_all t n (by omega) hlt
    have h5 := (stop_ascii _ h3).2
    have h6 : (⟨t.toArray⟩ : ByteArray)[n] = t[n] := rfl
    rw [h6] at h5
    rw [h5] at h4; cases h4

/-- the program's and the document's reading are one -/
theorem parse_eq (l : List UInt8) : parseL l = rparseL l := by
  unfold parseL
  rw [rparseL_comb]
  generalize Lib.trimPrefix l [36] = t
  generalize Lib.hasPrefix l [36] = b
  obtain ⟨n, hn⟩ : ∃ n, Lib.idxFunc isStop true ⟨t.toArray⟩ = n := ⟨_, rfl⟩
  rw [hn]
  -- where the document reads a mark, the first stop is behind the letters
  have key : ∀ c m, columnL (t.take (lets t)) = some c → numL (Lib.trimPrefix (t.drop (lets t)) [36]) = some m → n = (lets t : Nat) := fun c m _ hm => by
    rw [← hn]; exact idx_eq t (trim_head _ m hm)
  by_cases h0 : n < 0
  · rw [if_pos h0]
    cases hc : columnL (t.take (lets t)) with
    | none => rfl
    | some c =>
      cases hm : numL (Lib.trimPrefix (t.drop (lets t)) [36]) with
      | none => rfl
      | some m => have := key c m hc hm; omega
  · rw [if_neg h0]
    obtain ⟨k, rfl⟩ := Int.eq_ofNat_of_zero_le (show 0 ≤ n by omega)
    rw [Int.toNat_natCast]
    cases hc : columnL (t.take k) with
    | some c =>
      have e := lets_of t k c hn hc
      rw [e, hc]
      cases numL (Lib.trimPrefix (t.drop k) [36]) <;> rfl
    | none =>
      cases hc2 : columnL (t.take (lets t)) with
      | none => rfl
      | some c =>
        cases hm : numL (Lib.trimPrefix (t.drop (lets t)) [36]) with
        | none => rfl
        | some m =>
          have := key c m hc2 hm
          have e : k = lets t := by omega
          rw [e, hc2] at hc; cases hc
end Go.Proofs.YtkggooemnahgpaaDoor
