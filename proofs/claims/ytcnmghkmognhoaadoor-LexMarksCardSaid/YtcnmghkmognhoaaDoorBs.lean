/- The law LexBeside: two texts with a blank between have the tokens of both. -/
import Derived.Test.YtcnmghkmognhoaaDoorPb
namespace Go.Proofs.YtcnmghkmognhoaaDoor
open Go.RowKit Go.Shelf

/-- the tokens of two texts with a blank between -/
theorem beside_ok {S T : List UInt8} {la lb : List Tok} (ha : lexG S 0 = .inl la) (hb : lexG T 0 = .inl lb) :
    ∃ q, la = q ++ [⟨0, [], S.length⟩] ∧ lexG (S ++ 32 :: T) 0 = .inl (q ++ lb.map (shiftT (S.length + 1))) := by
  obtain ⟨q, hq, h⟩ := lex_beside S T (S.length + 1 + T.length + 1) (by omega) (S.length + 1) 0 (Nat.zero_le _) (by omega) la ha
  refine ⟨q, hq, ?_⟩
  have hl : (S ++ 32 :: T).length + 1 = S.length + 1 + T.length + 1 := by simp; omega
  unfold lexG at hb ⊢
  rw [hl, h]
  have h2 := lex_shift (S ++ [32]) T (S.length + 1 + T.length + 1) 0
  rw [lex_fuel T (S.length + 1 + T.length + 1) (T.length + 1) 0 (by omega) (by omega), hb] at h2
  simp only [List.append_assoc, List.cons_append, List.nil_append, List.length_append, List.length_cons, List.length_nil, Nat.add_zero] at h2
  rw [show S.length + 1 = S.length + (0 + 1) by omega, h2]
theorem beside_bad {S T : List UInt8} {la : List Tok} {b : Nat} (ha : lexG S 0 = .inl la) (hb : lexG T 0 = .inr b) : lexG (S ++ 32 :: T) 0 = .inr (S.length + 1 + b) := by
  obtain ⟨q, hq, h⟩ := lex_beside S T (S.length + 1 + T.length + 1) (by omega) (S.length + 1) 0 (Nat.zero_le _) (by omega) la ha
  have hl : (S ++ 32 :: T).length + 1 = S.length + 1 + T.length + 1 := by simp; omega
  unfold lexG at hb ⊢
  rw [hl, h]
  have h2 := lex_shift (S ++ [32]) T (S.length + 1 + T.length + 1) 0
  rw [lex_fuel T (S.length + 1 + T.length + 1) (T.length + 1) 0 (by omega) (by omega), hb] at h2
  simp only [List.append_assoc, List.cons_append, List.nil_append, List.length_append, List.length_cons, List.length_nil, Nat.add_zero] at h2
  rw [show S.length + 1 = S.length + (0 + 1) by omega, h2]
theorem len_tok (S : List UInt8) : ∀ (f k : Nat) (l : List Tok), lexF S f k = .inl l → l.length ≤ f + 1 ∧ 1 ≤ l.length
  | 0, k, l, h => by simp [lexF] at h; subst h; simp
  | f + 1, k, l, h => by
    cases hd : S.drop k with
    | nil =>
      rw [lex_end S _ k (List.drop_eq_nil_iff.1 hd)] at h
      injection h with h; subst h; simp
    | cons x u =>
      by_cases hx : x = 32
      · subst hx
        rw [lex_blank S f k hd] at h
        have := len_tok S f _ l h; omega
      · obtain ⟨tk, n, hf⟩ : ∃ tk n, firstF (x :: u) = (tk, n) := ⟨_, _, rfl⟩
        rw [lex_step S f k hd hx hf] at h
        split at h
        · cases h
        · cases hr : lexF S f (k + n) with
          | inr b => rw [hr] at h; cases h
          | inl m =>
            rw [hr] at h
            injection h with h
            have := len_tok S f _ m hr
            rw [← h]; simp; omega
theorem bad_lt (S : List UInt8) : ∀ (f k : Nat) (b : Nat), lexF S f k = .inr b → b < S.length
  | 0, k, b, h => by simp [lexF] at h
  | f + 1, k, b, h => by
    cases hd : S.drop k with
    | nil =>
      rw [lex_end S _ k (List.drop_eq_nil_iff.1 hd)] at h
      cases h
    | cons x u =>
      have hk : k < S.length := by
        have : (S.drop k).length = u.length + 1 := by rw [hd]; rfl
        rw [List.length_drop] at this; omega
      by_cases hx : x = 32
      · subst hx
        rw [lex_blank S f k hd] at h
        exact bad_lt S f _ b h
      · obtain ⟨tk, n, hf⟩ : ∃ tk n, firstF (x :: u) = (tk, n) := ⟨_, _, rfl⟩
        rw [lex_step S f k hd hx hf] at h
        split at h
        · injection h with h; omega
        · cases hr : lexF S f (k + n) with
          | inl m => rw [hr] at h; cases h
          | inr c => rw [hr] at h; injection h with h; rw [← h]; exact bad_lt S f _ c hr
/-- where a token begins -/
theorem at_le (S : List UInt8) : ∀ (f k : Nat) (l : List Tok), k ≤ S.length → lexF S f k = .inl l → ∀ t ∈ l, 0 ≤ t.at' ∧ t.at' ≤ S.length
  | 0, k, l, hk, h => by
    simp [lexF] at h
    subst h
    intro t ht
    simp at ht
    subst ht
    simp; omega
  | f + 1, k, l, hk, h => by
    cases hd : S.drop k with
    | nil =>
      rw [lex_end S _ k (List.drop_eq_nil_iff.1 hd)] at h
      injection h with h
      subst h
      intro t ht
      simp at ht
      subst ht
      simp; omega
    | cons x u =>
      have hk2 : k < S.length := by
        have : (S.drop k).length = u.length + 1 := by rw [hd]; rfl
        rw [List.length_drop] at this; omega
      by_cases hx : x = 32
      · subst hx
        rw [lex_blank S f k hd] at h
        exact at_le S f _ l (by omega) h
      · obtain ⟨tk, n, hf⟩ : ∃ tk n, firstF (x :: u) = (tk, n) := ⟨_, _, rfl⟩
        rw [lex_step S f k hd hx hf] at h
        split at h
        · cases h
        · have hn : n ≤ (x :: u).length := by have := first_le (x :: u); rw [hf] at this; exact this
          have hl2 : (S.drop k).length = (x :: u).length := by rw [hd]
          rw [List.length_drop] at hl2
          cases hr : lexF S f (k + n) with
          | inr b => rw [hr] at h; cases h
          | inl m =>
            rw [hr] at h
            injection h with h
            intro t ht
            rw [← h] at ht
            rcases List.mem_cons.1 ht with rfl | ht
            · simp; omega
            · exact at_le S f _ m (by omega) hr t ht
/-- tokens that are written over, one by one -/
def CurAt (W : World) (g : Nat) (l : List Tok) : Prop := ∃ cur, W.heap[g]? = some (.cells cur 39 (0, 0)) ∧ ∀ (k : Nat) t, l[k]? = some t → cur[k * 3]? = some (.int .i64 t.kind) ∧ cur[k * 3 + 1]? = some (.string ⟨t.text.toArray⟩) ∧ cur[k * 3 + 2]? = some (.int .i64 t.at')
theorem CurAt.cell {W : World} {g : Nat} {l : List Tok} (h : CurAt W g l) {k : Nat} {t : Tok} (hk : l[k]? = some t) : CellG W g k t ∧ W.frozen? ⟨g, k * 3 + 2, none⟩ = false := by
  obtain ⟨cur, h1, h2⟩ := h
  obtain ⟨e0, e1, e2⟩ := h2 k t hk
  exact ⟨⟨by simp [World.cell?, h1, e0], by simp [World.cell?, h1, e1], by simp [World.cell?, h1, e2]⟩, by simp [World.frozen?, h1]⟩
theorem CurAt.set {W : World} {g : Nat} {l : List Tok} (h : CurAt W g l) {k : Nat} {t : Tok} (hk : l[k]? = some t) (a : Int) : CurAt (W.setCell ⟨g, k * 3 + 2, none⟩ (.int .i64 a)) g (l.set k { t with at' := a }) := by
  obtain ⟨cur, h1, h2⟩ := h
  refine ⟨cur.setIfInBounds (k * 3 + 2) (.int .i64 a), by simp [World.setCell, Array.getElem?_modify, h1], fun j u hj => ?_⟩
  rw [List.getElem?_set] at hj
  by_cases hjk : k = j
  · subst hjk
    rw [if_pos rfl] at hj
    have hkl : k < l.length := (List.getElem?_eq_some_iff.1 hk).1
    rw [if_pos hkl] at hj
    injection hj with hj
    subst hj
    obtain ⟨e0, e1, e2⟩ := h2 k t hk
    have := (Array.getElem?_eq_some_iff.1 e2).1
    refine ⟨?_, ?_, ?_⟩
    · rw [Array.getElem?_setIfInBounds_ne (by omega)]; exact e0
    · rw [Array.getElem?_setIfInBounds_ne (by omega)]; exact e1
    · simp [this]
  · rw [if_neg hjk] at hj
    obtain ⟨e0, e1, e2⟩ := h2 j u hj
    refine ⟨?_, ?_, ?_⟩
    · rw [Array.getElem?_setIfInBounds_ne (by omega)]; exact e0
    · rw [Array.getElem?_setIfInBounds_ne (by omega)]; exact e1
    · rw [Array.getElem?_setIfInBounds_ne (by omega)]; exact e2
theorem cur_of_own {w : World} {base : Nat} {v : Value} {l : List Tok} (h : w.ownsRow base 39 3 v l.length (flatT l)) (hl : l ≠ []) : ∃ g c, v = .slice (some ⟨g, 0, none⟩) l.length c ∧ l.length ≤ c ∧ base ≤ g ∧ g < w.heap.size ∧ CurAt w g l := by
  rcases h.2 with ⟨rfl, h0⟩ | ⟨g, cap, cur, rfl, hbg, hb, hnc, _, hsz, hcur⟩
  · exact (hl (List.eq_nil_of_length_eq_zero h0)).elim
  · refine ⟨g, cap, rfl, hnc, hbg, (Array.getElem?_eq_some_iff.1 hb).1, cur, hb, fun k t hk => ?_⟩
    obtain ⟨e1, e2, e3⟩ := flatT_at hk
    have hat : ∀ j u, (flatT l)[j]? = some u → cur[j]? = some u := fun j u hu => by
      have hj : j < l.length * 3 := by have := (List.getElem?_eq_some_iff.1 hu).1; rw [flatT_len] at this; exact this
      rw [← hcur, List.getElem?_take_of_lt hj] at hu
      simpa using hu
    exact ⟨hat _ _ e1, hat _ _ e2, hat _ _ e3⟩
/-- so far the first k are shifted -/
def shK (d : Int) (l : List Tok) (k : Nat) : List Tok := (l.take k).map (fun t => { t with at' := t.at' + d }) ++ l.drop k
theorem shK_get (d : Int) (l : List Tok) {k : Nat} (h : k < l.length) : (shK d l k)[k]? = l[k]? := by
  unfold shK
  rw [List.getElem?_append_right (by simp; omega)]
  simp only [List.length_map, List.length_take]
  rw [List.getElem?_drop, show k + (k - min k l.length) = k by omega]
theorem shK_set (d : Int) (l : List Tok) {k : Nat} {t : Tok} (h : l[k]? = some t) : (shK d l k).set k { t with at' := t.at' + d } = shK d l (k + 1) := by
  have hk : k < l.length := (List.getElem?_eq_some_iff.1 h).1
  unfold shK
  rw [List.set_append_right _ _ (by simp; omega)]
  simp only [List.length_map, List.length_take]
  rw [show k - min k l.length = 0 by omega]
  have hd : l.drop k = t :: l.drop (k + 1) := by
    rw [List.drop_eq_getElem_cons hk]
    congr 1
    rw [List.getElem?_eq_getElem hk] at h
    injection h
  rw [hd, List.set_cons_zero, List.take_add_one, h]
  simp
theorem shK_zero (d : Int) (l : List Tok) : shK d l 0 = l := by simp [shK]
theorem shK_all (d : Int) (l : List Tok) : shK d l l.length = l.map (fun t => { t with at' := t.at' + d }) := by simp [shK]
theorem shK_len (d : Int) (l : List Tok) (k : Nat) : (shK d l k).length = l.length := by simp [shK]; omega
theorem tok_of_cur {W : World} {g n c : Nat} {l : List Tok} (h : CurAt W g l) (hn : l.length = n) (hc : n ≤ c) (hg : g < W.heap.size) : TokAt W (.slice (some ⟨g, 0, none⟩) n c) l := by
  subst hn
  refine ⟨_, c, rfl, hc, fun k t hk => ⟨g, 0, rfl, hg, ?_⟩⟩
  obtain ⟨⟨h1, h2, h3⟩, _⟩ := h.cell hk
  exact ⟨by simpa using h1, by simpa using h2, by simpa using h3⟩
/-- the first ones, and those from a place on -/
theorem TokAt.front {W : World} {A : Option Addr} {n c : Nat} {q r : List Tok} (h : TokAt W (.slice A n c) (q ++ r)) : TokAt W (.slice A q.length c) q := by
  obtain ⟨A2, c2, hv, hc, hI⟩ := h
  simp only [Value.slice.injEq] at hv
  obtain ⟨rfl, _, rfl⟩ := hv
  refine ⟨A, c, rfl, by simp at hc; omega, fun k t hk => hI k t ?_⟩
  rw [List.getElem?_append_left (List.getElem?_eq_some_iff.1 hk).1]
  exact hk
theorem TokAt.back {W : World} {g o n c : Nat} {q r : List Tok} (h : TokAt W (.slice (some ⟨g, o, none⟩) n c) (q ++ r)) {m c' : Nat} (hm : m = r.length) (hc' : m ≤ c') : TokAt W (.slice (some ⟨g, o + q.length * 3, none⟩) m c') r := by
  obtain ⟨A2, c2, hv, hc, hI⟩ := h
  simp only [Value.slice.injEq] at hv
  obtain ⟨rfl, _, rfl⟩ := hv
  subst hm
  refine ⟨_, c', rfl, hc', fun k t hk => ?_⟩
  obtain ⟨g2, o2, e, hg, h1, h2, h3⟩ := hI (q.length + k) t (by rw [List.getElem?_append_right (by omega)]; simpa using hk)
  injection e with e
  injection e with e1 e2
  subst e1 e2
  refine ⟨g, _, rfl, hg, ?_, ?_, ?_⟩
  · rw [show o + q.length * 3 + k * 3 = o + (q.length + k) * 3 by omega]; exact h1
  · rw [show o + q.length * 3 + k * 3 = o + (q.length + k) * 3 by omega]; exact h2
  · rw [show o + q.length * 3 + k * 3 = o + (q.length + k) * 3 by omega]; exact h3
theorem TokAt.kept {w w' : World} {g o n c : Nat} {l : List Tok} (h : TokAt w (.slice (some ⟨g, o, none⟩) n c) l) (hb : w'.heap[g]? = w.heap[g]?) (hg : g < w'.heap.size) : TokAt w' (.slice (some ⟨g, o, none⟩) n c) l := by
  obtain ⟨A2, c2, hv, hc, hI⟩ := h
  simp only [Value.slice.injEq] at hv
  obtain ⟨rfl, rfl, rfl⟩ := hv
  refine ⟨_, _, rfl, hc, fun k t hk => ?_⟩
  obtain ⟨g2, o2, e, _, h1, h2, h3⟩ := hI k t hk
  injection e with e
  injection e with e1 e2
  subst e1 e2
  have hcell : ∀ j, w'.cell? ⟨g, j, none⟩ = w.cell? ⟨g, j, none⟩ := fun j => by unfold World.cell?; simp only [hb]
  exact ⟨g, o, rfl, hg, (hcell _).trans h1, (hcell _).trans h2, (hcell _).trans h3⟩
set_option maxRecDepth 100000 in
set_option maxHeartbeats 4000000 in
theorem beside_any (s t : ByteArray) (w : World) (he : Env w) : Calls Tryd.prog 6 #[.string s, .string t] w fun e w' => e = .returned (.bool true) ∧ Below w.heap.size w w' := by
  have HE := Lib.hid he
  clear he
  by_cases hs : s.size ≤ 200
  rotate_left
  · have hsi : (200 : Int) < (s.size : Int) := by omega
    clear hs
    go_enter Tryd.func6, Tryd.ntmps6
    go_wp2_with fail
    refine (awake_any w HE.out).mono ?_
    rintro e w1 ⟨rfl, hb1⟩
    have HB1 := Lib.hid hb1
    clear hb1
    go_wp2_with fail
    refine (awake_any w1 (HE.out.below HB1.out)).mono ?_
    rintro e w2 ⟨rfl, hb2⟩
    have HB2 := Lib.hid (HB1.out.trans (hb2.mono HB1.out.size))
    clear hb2
    go_wp2
    go_ret
    exact ⟨rfl, HB2.out⟩
  have hsi : ¬ (200 : Int) < (s.size : Int) := by omega
  by_cases ht : t.size ≤ 200
  rotate_left
  · have hti : (200 : Int) < (t.size : Int) := by omega
    clear ht
    go_enter Tryd.func6, Tryd.ntmps6
    go_wp2_with fail
    refine (awake_any w HE.out).mono ?_
    rintro e w1 ⟨rfl, hb1⟩
    have HB1 := Lib.hid hb1
    clear hb1
    go_wp2_with fail
    refine (awake_any w1 (HE.out.below HB1.out)).mono ?_
    rintro e w2 ⟨rfl, hb2⟩
    have HB2 := Lib.hid (HB1.out.trans (hb2.mono HB1.out.size))
    clear hb2
    go_wp2
    go_ret
    exact ⟨rfl, HB2.out⟩
  have hti : ¬ (200 : Int) < (t.size : Int) := by omega
  go_enter Tryd.func6, Tryd.ntmps6
  go_wp2_with fail
  refine (awake_any w HE.out).mono ?_
  rintro e w0 ⟨rfl, hb0⟩
  have HB0 := Lib.hid hb0
  have HE0 := Lib.hid (HE.out.below hb0)
  clear hb0 HE
  go_wp2_with fail
  refine (lex_any s (by omega) w0 HE0.out).mono ?_
  rintro e w1 ⟨ha, hb1⟩
  have HB1 := Lib.hid (HB0.out.trans (hb1.mono HB0.out.size))
  have HE1 := Lib.hid (HE0.out.below hb1)
  have hz01 := hb1.size
  cases hla : lexG s.data.toList 0 with
  | inr b =>
    rw [hla] at ha
    subst ha
    clear hb1 hla HE0
    go_wp2_with fail
    refine (lex_any t (by omega) w1 HE1.out).mono ?_
    rintro e w2 ⟨hbt, hb2⟩
    have HB2 := Lib.hid (HB1.out.trans (hb2.mono HB1.out.size))
    cases hlb : lexG t.data.toList 0 with
    | inr b2 =>
      rw [hlb] at hbt
      subst hbt
      clear hb2 hlb
      go_wp2
      go_ret
      exact ⟨rfl, HB2.out⟩
    | inl lb =>
      rw [hlb] at hbt
      obtain ⟨v, rfl, _⟩ := hbt
      clear hb2 hlb
      go_wp2
      go_ret
      exact ⟨rfl, HB2.out⟩
  | inl la =>
    rw [hla] at ha
    obtain ⟨va, rfl, hra⟩ := ha
    have hla1 := len_tok _ _ _ _ hla
    rw [size_list] at hla1
    have htoka := tok_of_own hra
    obtain ⟨ga, ca, rfl, hca, _, hga, _⟩ := cur_of_own hra (fun e => by rw [e] at hla1; simp at hla1)
    have HTA1 := Lib.hid htoka
    have HLA := Lib.hid hla
    clear hb1 hla HE0 hra htoka
    go_wp2_with fail
    refine (lex_any t (by omega) w1 HE1.out).mono ?_
    rintro e w2 ⟨hbt, hb2⟩
    have HB2 := Lib.hid (HB1.out.trans (hb2.mono HB1.out.size))
    have HE2 := Lib.hid (HE1.out.below hb2)
    have HTA0 := Lib.hid (HTA1.out.below hb2)
    have hz12 := hb2.size
    have hu : ∀ W, Env W → Calls Tryd.prog 11 #[.string (s ++ ⟨#[32]⟩ ++ t)] W (LexOut W (s.data.toList ++ 32 :: t.data.toList)) := fun W hW => by
      have h := lex_any (s ++ ⟨#[32]⟩ ++ t) (by rw [ByteArray.size_append, ByteArray.size_append]; have : (⟨#[32]⟩ : ByteArray).size = 1 := rfl; omega) W hW
      have e : (s ++ ⟨#[32]⟩ ++ t).data.toList = s.data.toList ++ 32 :: t.data.toList := by simp [ByteArray.data_append]
      rw [e] at h
      exact h
    have HU := Lib.hid hu
    clear HTA1 hu
    cases hlb : lexG t.data.toList 0 with
    | inr b2 =>
      rw [hlb] at hbt
      subst hbt
      have hub := beside_bad HLA.out hlb
      rw [size_list] at hub
      have HUB := Lib.hid hub
      have HBT := Lib.hid hlb
      clear hb2 hlb hub
      go_wp2_with fail
      refine (HU.out w2 HE2.out).mono ?_
      rintro e w3 ⟨hut, hb3⟩
      rw [HUB.out] at hut
      subst hut
      have HB3 := Lib.hid (HB2.out.trans (hb3.mono HB2.out.size))
      have hblt := bad_lt _ _ _ _ HBT.out
      rw [size_list] at hblt
      obtain ⟨sum, hsum⟩ : ∃ n : Nat, s.size + 1 + b2 = n := ⟨_, rfl⟩
      rw [hsum]
      have hq : (s.size : Int) + 1 + (b2 : Int) = (sum : Int) := by omega
      clear hb3 hsum
      go_wp2
      go_ret
      exact ⟨rfl, HB3.out⟩
    | inl lb =>
      rw [hlb] at hbt
      obtain ⟨vb, rfl, hrb⟩ := hbt
      obtain ⟨q, hq, hub⟩ := beside_ok HLA.out hlb
      rw [size_list] at hq hub
      have hlb1 := len_tok _ _ _ _ hlb
      have hat := at_le _ _ _ _ (Nat.zero_le _) hlb
      rw [size_list] at hlb1 hat
      obtain ⟨gb, cb, rfl, hcb, hbb, hgb, hcur⟩ := cur_of_own hrb (fun e => by rw [e] at hlb1; simp at hlb1)
      have hql : la.length = q.length + 1 := by rw [hq]; simp
      have HTA2 := Lib.hid (show TokAt w2 (.slice (some ⟨ga, 0, none⟩) (q.length + 1) ca) (q ++ [⟨0, [], s.size⟩]) by
        have := HTA0.out
        rw [hq] at this
        simpa using this)
      rw [hql] at hca ⊢
      have HUB := Lib.hid hub
      have HCUR := Lib.hid hcur
      have HAT := Lib.hid hat
      obtain ⟨nb, hnb⟩ : ∃ n, lb.length = n := ⟨_, rfl⟩
      obtain ⟨nq, hnq⟩ : ∃ n, q.length = n := ⟨_, rfl⟩
      rw [hnq] at HTA2 hca ⊢
      rw [hnb] at hcb ⊢
      have hnb1 : nb ≤ 202 ∧ 1 ≤ nb := by omega
      have hnq1 : nq ≤ 201 := by omega
      have HNB := Lib.hid hnb
      have HNQ := Lib.hid hnq
      clear hb2 hlb hub hrb hq hlb1 hla1 hat hcur hql hnb hnq HTA0 HLA
      go_wp2_with fail
      refine (HU.out w2 HE2.out).mono ?_
      rintro e w3 ⟨hut, hb3⟩
      rw [HUB.out] at hut
      obtain ⟨vu, rfl, hru⟩ := hut
      have HB3 := Lib.hid (HB2.out.trans (hb3.mono HB2.out.size))
      have htu := tok_of_own hru
      have hlu : (q ++ lb.map (shiftT (s.size + 1))).length = nq + nb := by simp [HNB.out, HNQ.out]
      obtain ⟨gu, cu, rfl, hcu, hgu0, hgu, _⟩ := cur_of_own hru (fun e => by rw [e] at hlu; simp at hlu; omega)
      rw [hlu] at hcu htu ⊢
      have HTU := Lib.hid htu
      have HTA := Lib.hid (HTA2.out.below hb3)
      have hcur3 : CurAt w3 gb lb := by
        obtain ⟨cur, h1, h2⟩ := HCUR.out
        exact ⟨cur, (hb3.block gb hgb).trans h1, h2⟩
      have HCUR3 := Lib.hid hcur3
      have hw1 : (nq : Int) + 1 - 1 = (nq : Int) := by omega
      clear hb3 hru hlu htu hcur3 HTA2 HCUR HUB HU
      go_wp2_with fail
      go_loopw [14] (fun i wr => ∃ k : Nat, k ≤ nb ∧ i = .int .i64 (k : Int) ∧ CurAt wr gb (shK ((s.size : Int) + 1) lb k) ∧ (∀ b, b ≠ gb → wr.heap[b]? = w3.heap[b]?) ∧ wr.heap.size = w3.heap.size ∧ Below w.heap.size w wr) (fun i _ => nb - (intOf i).toNat)
      case atStart => exact ⟨0, by omega, rfl, by rw [shK_zero]; exact HCUR3.out, fun _ _ => rfl, rfl, HB3.out⟩
      case round =>
        obtain ⟨k, hk, rfl, hcu3, hoth, hsz, hB⟩ := hrel
        have HCU := Lib.hid hcu3
        have HOTH := Lib.hid hoth
        have HSZ := Lib.hid hsz
        have HB := Lib.hid hB
        clear hcu3 hoth hsz hB HCUR3
        by_cases hlt : k < nb
        · have hx : lb[k]? = some (lb[k]'(by rw [HNB.out]; exact hlt)) := List.getElem?_eq_getElem _
          obtain ⟨tk, htk⟩ : ∃ x, (lb[k]'(by rw [HNB.out]; exact hlt)) = x := ⟨_, rfl⟩
          rw [htk] at hx
          have hatk := HAT.out tk (List.mem_of_getElem? hx)
          have hgk : (shK ((s.size : Int) + 1) lb k)[k]? = some tk := by rw [shK_get _ _ (by rw [HNB.out]; exact hlt)]; exact hx
          obtain ⟨⟨_, _, k2⟩, kf⟩ := HCU.out.cell hgk
          have hset := HCU.out.set hgk (tk.at' + (s.size : Int) + 1)
          rw [show tk.at' + (s.size : Int) + 1 = tk.at' + ((s.size : Int) + 1) by omega, shK_set _ _ hx, show tk.at' + ((s.size : Int) + 1) = tk.at' + (s.size : Int) + 1 by omega] at hset
          obtain ⟨a, ha⟩ : ∃ a, tk.at' = a := ⟨_, rfl⟩
          rw [ha] at k2 hset hatk
          have hi : (k : Int) < (nb : Int) := by omega
          have hi0 : (0 : Int) ≤ (k : Int) := by omega
          have hi2 : (nb : Int) ≤ (cb : Int) := by omega
          have hsw : Below w.heap.size w (wr.setCell ⟨gb, k * 3 + 2, none⟩ (.int .i64 (a + (s.size : Int) + 1))) := HB.out.setCell (p := ⟨gb, _, none⟩) (by have := HB1.out.size; show w.heap.size ≤ gb; omega) _
          have HSET := Lib.hid hset
          have HSW := Lib.hid hsw
          clear hx htk hgk hset ha hsw
          go_wp2_with fail
          go_roundw
          case rel => exact ⟨k + 1, by omega, by simp, HSET.out, fun b hb => (Below.heap_setCell _ _ _ _ hb).trans (HOTH.out b hb), by simp [World.setCell]; exact HSZ.out, HSW.out⟩
          case measure => simp [intOf]; omega
        · obtain rfl : k = nb := by omega
          have hi : ¬ (k : Int) < (k : Int) := by omega
          obtain ⟨lb', hlb'⟩ : ∃ l, lb.map (shiftT (s.size + 1)) = l := ⟨_, rfl⟩
          have hlbl : lb'.length = k := by rw [← hlb']; simp [HNB.out]
          have hcl : CurAt wr gb lb' := by
            have := HCU.out
            rw [← HNB.out, shK_all] at this
            have e : (fun t : Tok => ({ t with at' := t.at' + ((s.size : Int) + 1) } : Tok)) = shiftT (s.size + 1) := by funext t; simp [shiftT]
            rw [e, hlb'] at this
            exact this
          have hszw := HSZ.out
          have HTB := Lib.hid (tok_of_cur hcl hlbl hcb (by have := HB3.out.size; omega))
          have HTAw := (HTA.out.kept (w' := wr) (HOTH.out ga (by omega)) (by omega))
          have HTUw := (HTU.out.kept (w' := wr) (HOTH.out gu (by omega)) (by omega))
          rw [hlb'] at HTUw
          have hqn := HNQ.out
          have HTA := Lib.hid (show TokAt wr (.slice (some ⟨ga, 0, none⟩) nq ca) q by have := HTAw.front; rw [hqn] at this; exact this)
          have HTL1 := Lib.hid (show TokAt wr (.slice (some ⟨gu, 0, none⟩) nq cu) q by have := HTUw.front; rw [hqn] at this; exact this)
          have HTL2 := Lib.hid (show TokAt wr (.slice (some ⟨gu, nq * 3, none⟩) k (cu - nq)) lb' by have := HTUw.back (m := k) (c' := cu - nq) hlbl.symm (by omega); rw [hqn] at this; simpa using this)
          have hs1 : (nq : Int) ≤ (cu : Int) := by omega
          have hs2 : (nq : Int) ≤ (ca : Int) := by omega
          have hs0 : (0 : Int) ≤ (nq : Int) := by omega
          have hs3 : (nq : Int) ≤ (nq : Int) + (k : Int) := by omega
          have hs4 : ¬ cu = nq := by omega
          have hs5 : nq + k - nq = k := by omega
          have hwq : IntKind.i64.wrap (nq : Int) = (nq : Int) := by rw [IntKind.wrap_i64]; omega
          have hq100 : q.length ≤ 100000 := by omega
          have hl100 : lb'.length ≤ 100000 := by omega
          clear hlb' hlbl hcl hszw HTAw HTUw hqn
          go_wp2_with fail
          refine wp_region_held_drew (S := fun X => Below wr.heap.size wr X) (by kernel_rfl) ((Below.refl _ _).drew) (fun hS => ?_)
          refine wpAnyH_take (i := 0) (v := ?v0b) rfl (by kernel_rfl) (by kernel_rfl) (by kernel_rfl) (fun _ _ _ h => h) (Or.inl ⟨by kernel_rfl, ?h0b⟩) hS ?_
          case h0b => (rintro w2 hb; go_simp; try with_reducible rfl)
          refine wpAnyH_take (i := 1) (v := ?v1b) rfl (by kernel_rfl) (by kernel_rfl) (by kernel_rfl) (fun _ _ _ h => h) (Or.inl ⟨by kernel_rfl, ?h1b⟩) hS ?_
          case h1b => (rintro w2 hb; go_simp; try with_reducible rfl)
          refine wpAnyH_take (i := 2) (v := ?v2b) rfl (by kernel_rfl) (by kernel_rfl) (by kernel_rfl) (fun _ _ _ h => h) (Or.inl ⟨by kernel_rfl, ?h2b⟩) hS ?_
          case h2b => (rintro w2 hb; go_simp; try with_reducible rfl)
          refine wpAnyH_take (i := 3) (v := ?v3b) rfl (by kernel_rfl) (by kernel_rfl) (by kernel_rfl) (fun _ _ _ h => h) (Or.inl ⟨by kernel_rfl, ?h3b⟩) hS ?_
          case h3b => (rintro w2 hb; go_simp; try with_reducible rfl)
          refine wpAnyH_take (i := 4) (v := ?v4b) rfl (by kernel_rfl) (by kernel_rfl) (by kernel_rfl) (fun _ _ _ h => h) (Or.inl ⟨by kernel_rfl, ?h4b⟩) hS ?_
          case h4b => (rintro w2 hb; go_simp; try with_reducible rfl)
          refine wpAnyH_take (i := 6) (v := ?v6b) rfl (by kernel_rfl) (by kernel_rfl) (by kernel_rfl) (fun _ _ _ h => h) (Or.inl ⟨by kernel_rfl, ?h6b⟩) hS ?_
          case h6b => (rintro w2 hb; go_simp; try with_reducible rfl)
          refine wpAnyH_take (i := 7) (v := ?v7b) rfl (by kernel_rfl) (by kernel_rfl) (by kernel_rfl) (fun _ _ _ h => h) (Or.inl ⟨by kernel_rfl, ?h7b⟩) hS ?_
          case h7b => (rintro w2 hb; go_simp; try with_reducible rfl)
          refine wpAnyH_take (i := 8) (v := ?v8b) rfl (by kernel_rfl) (by kernel_rfl) (by kernel_rfl) (fun _ _ _ h => h) (Or.inl ⟨by kernel_rfl, ?h8b⟩) hS ?_
          case h8b => (rintro w2 hb; go_simp; try with_reducible rfl)
          refine wpAnyH_take (i := 9) (v := ?v9b) rfl (by kernel_rfl) (by kernel_rfl) (by kernel_rfl) (fun _ _ _ h => h) (Or.inl ⟨by kernel_rfl, ?h9b⟩) hS ?_
          case h9b => (rintro w2 hb; go_simp; try with_reducible rfl)
          refine wpAnyH_take (i := 10) (v := ?v10b) rfl (by kernel_rfl) (by kernel_rfl) (by kernel_rfl) (fun _ _ _ h => h) (Or.inl ⟨by kernel_rfl, ?h10b⟩) hS ?_
          case h10b => (rintro w2 hb; go_simp; try with_reducible rfl)
          refine wpAnyH_ready (rs := [5]) (by kernel_rfl) (by simp) (AllReadyH.cons rfl (fun K hK => ?_) AllReadyH.nil)
          go_simp
          go_wp2_with (go_at_call 14; refine (of_any _ _ (by omega) _ (HTL1.out.below hS)).mono ?_; rintro e x1 ⟨⟨u1, rfl, hr⟩, hU⟩; have HT5 := Lib.hid (tok_of_own hr); have HU5 := Lib.hid hU; clear hr hU)
          refine hK.out _ _ (hS.trans (HU5.out.mono hS.size)) (fun hS5 => ?_); clear hK K
          refine wpAnyH_ready (rs := [11]) (by kernel_rfl) (by simp) (AllReadyH.cons rfl (fun K hK => ?_) AllReadyH.nil)
          go_simp
          go_wp2_with (go_at_call 14; refine (of_any _ _ (by omega) _ (HTA.out.below hS5)).mono ?_; rintro e x2 ⟨⟨u2, rfl, hr⟩, hU⟩; have HT11 := Lib.hid (tok_of_own hr); have HU11 := Lib.hid hU; clear hr hU)
          refine hK.out _ _ (hS5.trans (HU11.out.mono hS5.size)) (fun hS11 => ?_); clear hK K
          refine wpAnyH_ready (rs := [12]) (by kernel_rfl) (by simp) (AllReadyH.cons rfl (fun K hK => ?_) AllReadyH.nil)
          go_simp
          go_wp2_with (go_at_call 13; refine (same_true _ _ q q (by omega) rfl (fun k t r h1 h2 => by rw [h1] at h2; injection h2 with h2; subst h2; exact ⟨rfl, rfl, rfl⟩) _ (HT5.out.below HU11.out) HT11.out).mono ?_; rintro e x3 ⟨rfl, hU⟩; have HU12 := Lib.hid hU; clear hU)
          refine hK.out _ _ (hS11.trans (HU12.out.mono hS11.size)) (fun hS12 => ?_); clear hK K
          refine wpAnyH_take (i := 13) (v := .bool true) rfl (by kernel_rfl) (by kernel_rfl) (by kernel_rfl) (fun _ _ _ h => h) (Or.inl ⟨by kernel_rfl, ?h13b⟩) hS12 ?_
          case h13b => (rintro w2 hb; go_simp; try with_reducible rfl)
          refine wpAnyH_take (i := 14) (v := ?v14b) rfl (by kernel_rfl) (by kernel_rfl) (by kernel_rfl) (fun _ _ _ h => h) (Or.inl ⟨by kernel_rfl, ?h14b⟩) hS12 ?_
          case h14b => (rintro w2 hb; go_simp; try with_reducible rfl)
          refine wpAnyH_take (i := 15) (v := ?v15b) rfl (by kernel_rfl) (by kernel_rfl) (by kernel_rfl) (fun _ _ _ h => h) (Or.inl ⟨by kernel_rfl, ?h15b⟩) hS12 ?_
          case h15b => (rintro w2 hb; go_simp; try with_reducible rfl)
          refine wpAnyH_take (i := 16) (v := ?v16b) rfl (by kernel_rfl) (by kernel_rfl) (by kernel_rfl) (fun _ _ _ h => h) (Or.inl ⟨by kernel_rfl, ?h16b⟩) hS12 ?_
          case h16b => (rintro w2 hb; go_simp; try with_reducible rfl)
          refine wpAnyH_take (i := 17) (v := ?v17b) rfl (by kernel_rfl) (by kernel_rfl) (by kernel_rfl) (fun _ _ _ h => h) (Or.inl ⟨by kernel_rfl, ?h17b⟩) hS12 ?_
          case h17b => (rintro w2 hb; go_simp; try with_reducible rfl)
          refine wpAnyH_take (i := 18) (v := ?v18b) rfl (by kernel_rfl) (by kernel_rfl) (by kernel_rfl) (fun _ _ _ h => h) (Or.inl ⟨by kernel_rfl, ?h18b⟩) hS12 ?_
          case h18b => (rintro w2 hb; go_simp; try with_reducible rfl)
          refine wpAnyH_take (i := 20) (v := ?v20b) rfl (by kernel_rfl) (by kernel_rfl) (by kernel_rfl) (fun _ _ _ h => h) (Or.inl ⟨by kernel_rfl, ?h20b⟩) hS12 ?_
          case h20b => (rintro w2 hb; go_simp; try with_reducible rfl)
          refine wpAnyH_ready (rs := [19]) (by kernel_rfl) (by simp) (AllReadyH.cons rfl (fun K hK => ?_) AllReadyH.nil)
          go_simp
          go_wp2_with (go_at_call 14; refine (of_any _ _ (by omega) _ (HTL2.out.below hS12)).mono ?_; rintro e x4 ⟨⟨u3, rfl, hr⟩, hU⟩; have HT19 := Lib.hid (tok_of_own hr); have HU19 := Lib.hid hU; clear hr hU)
          refine hK.out _ _ (hS12.trans (HU19.out.mono hS12.size)) (fun hS19 => ?_); clear hK K
          refine wpAnyH_ready (rs := [21]) (by kernel_rfl) (by simp) (AllReadyH.cons rfl (fun K hK => ?_) AllReadyH.nil)
          go_simp
          go_wp2_with (go_at_call 14; refine (of_any _ _ (by omega) _ (HTB.out.below hS19)).mono ?_; rintro e x5 ⟨⟨u4, rfl, hr⟩, hU⟩; have HT21 := Lib.hid (tok_of_own hr); have HU21 := Lib.hid hU; clear hr hU)
          refine hK.out _ _ (hS19.trans (HU21.out.mono hS19.size)) (fun hS21 => ?_); clear hK K
          refine wpAnyH_ready (rs := [22]) (by kernel_rfl) (by simp) (AllReadyH.cons rfl (fun K hK => ?_) AllReadyH.nil)
          go_simp
          go_wp2_with (go_at_call 13; refine (same_true _ _ lb' lb' (by omega) rfl (fun k t r h1 h2 => by rw [h1] at h2; injection h2 with h2; subst h2; exact ⟨rfl, rfl, rfl⟩) _ (HT19.out.below HU21.out) HT21.out).mono ?_; rintro e x6 ⟨rfl, hU⟩; have HU22 := Lib.hid hU; clear hU)
          refine hK.out _ _ (hS21.trans (HU22.out.mono hS21.size)) (fun hS22 => ?_); clear hK K
          refine wpAnyH_take (i := 23) (v := .bool true) rfl (by kernel_rfl) (by kernel_rfl) (by kernel_rfl) (fun _ _ _ h => h) (Or.inl ⟨by kernel_rfl, ?h23b⟩) hS22 ?_
          case h23b => (rintro w2 hb; go_simp; try with_reducible rfl)
          refine wpAnyH_take (i := 24) (v := ?v24b) rfl (by kernel_rfl) (by kernel_rfl) (by kernel_rfl) (fun _ _ _ h => h) (Or.inl ⟨by kernel_rfl, ?h24b⟩) hS22 ?_
          case h24b => (rintro w2 hb; go_simp; try with_reducible rfl)
          refine wpAnyH_done (by kernel_rfl) ?_ _
          go_simp
          have HFIN := Lib.hid (HB.out.trans (hS22.mono HB.out.size))
          go_wp2
          go_ret
          exact ⟨rfl, HFIN.out⟩
end Go.Proofs.YtcnmghkmognhoaaDoor
