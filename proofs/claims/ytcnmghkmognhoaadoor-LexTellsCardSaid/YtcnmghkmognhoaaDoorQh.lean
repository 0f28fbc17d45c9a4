/- The document's side: which fault, which sign; the lists of them. -/
import Derived.Test.YtcnmghkmognhoaaDoorQg
namespace Go.Proofs.YtcnmghkmognhoaaDoor
open Go.RowKit Go.Shelf

def But (R : Nat) (w W : World) : Prop := W.heap.size = w.heap.size ∧ ∀ k, k ≠ R → W.heap[k]? = w.heap[k]?
theorem But.refl (R : Nat) (w : World) : But R w w := ⟨rfl, fun _ _ => rfl⟩
theorem But.drew (R : Nat) (w : World) : But R w w.drew := ⟨rfl, fun _ _ => rfl⟩
theorem But.set {R : Nat} {w W : World} (h : But R w W) (i : Nat) (v : Value) : But R w (W.setCell ⟨R, i, none⟩ v) := ⟨by rw [← h.1]; simp [World.setCell], fun k hk => (Below.heap_setCell _ _ _ _ hk).trans (h.2 k hk)⟩
theorem But.cell {R : Nat} {w W : World} (h : But R w W) {a : Addr} {v : Value} (ha : w.cell? a = some v) (hne : a.block ≠ R) : W.cell? a = some v := (World.cell?_of_block (h.2 _ hne)).trans ha

def faultP (l : List UInt8) (k : Nat) : Bool := (faultT k).isPrefixOf (l.map foldB)
theorem rfaultOf_at {t : List UInt8} {k : Nat} (h1 : 1 ≤ k) (hk : k < 10) (h : t.map foldB = faultT k) : faultOfF t = k := by
  unfold faultOfF
  rw [h]
  obtain rfl | rfl | rfl | rfl | rfl | rfl | rfl | rfl | rfl : k = 1 ∨ k = 2 ∨ k = 3 ∨ k = 4 ∨ k = 5 ∨ k = 6 ∨ k = 7 ∨ k = 8 ∨ k = 9 := by omega
  all_goals decide
theorem of_faultOf {t : List UInt8} {k : Nat} (h1 : 1 ≤ k) (h : faultOfF t = k) : t.map foldB = faultT k := by
  unfold faultOfF at h
  cases hf : (List.range 10).find? (fun k => decide (0 < k) && (t.map foldB == faultT k)) with
  | none => rw [hf] at h; simp at h; omega
  | some j =>
    rw [hf] at h
    have h9 := List.find?_some hf
    have : j = k := by simpa using h
    subst this
    rw [Bool.and_eq_true] at h9
    exact eq_of_beq h9.2
theorem fold_hash {x : UInt8} (h : foldB x = 35) : x = 35 := by
  unfold foldB at h
  split at h
  · rename_i hb
    have h9 := congrArg UInt8.toNat h
    rw [UInt8.toNat_add, UInt8.toNat_sub] at h9
    simp at h9
    omega
  · exact h
theorem faultT_head {k : Nat} (h1 : 1 ≤ k) (hk : k < 10) : ∃ t, faultT k = 35 :: t := by
  obtain rfl | rfl | rfl | rfl | rfl | rfl | rfl | rfl | rfl : k = 1 ∨ k = 2 ∨ k = 3 ∨ k = 4 ∨ k = 5 ∨ k = 6 ∨ k = 7 ∨ k = 8 ∨ k = 9 := by omega
  all_goals exact ⟨_, rfl⟩
theorem faultP_yes {l : List UInt8} {k : Nat} (h1 : 1 ≤ k) (hk : k < 10) (h : faultP l k = true) : headP (setP [35]) l = true ∧ faultAt l k = true := by
  unfold faultP at h
  have hp := List.isPrefixOf_iff_prefix.1 h
  have hl := hp.length_le
  rw [List.length_map] at hl
  have he := List.prefix_iff_eq_take.1 hp
  rw [← List.map_take] at he
  constructor
  · obtain ⟨t, ht⟩ := faultT_head h1 hk
    cases l with
    | nil => rw [ht] at hl; simp at hl
    | cons x u =>
      rw [ht] at he
      simp at he
      have := fold_hash he.1.symm
      rw [this]; rfl
  · unfold faultAt
    rw [rfaultOf_at h1 hk he.symm]
    simp [hl]
theorem faultP_of {l : List UInt8} {k : Nat} (h1 : 1 ≤ k) (h : faultAt l k = true) : faultP l k = true := by
  unfold faultAt at h
  rw [Bool.and_eq_true] at h
  have h2 := of_faultOf h1 (eq_of_beq h.2)
  unfold faultP
  rw [List.isPrefixOf_iff_prefix, ← h2, List.map_take]
  exact List.take_prefix _ _
theorem faultF_found {l : List UInt8} {k : Nat} (h1 : 1 ≤ k) (hk : k < 10) (h : faultP l k = true) (hn : ∀ j, 1 ≤ j → j < k → faultP l j = false) : faultF l = faultT k := by
  have h9 := faultP_yes h1 hk h
  refine faultF_at h9.1 h1 hk h9.2 (fun j hj1 hj => ?_)
  cases hf : faultAt l j with
  | false => rfl
  | true => have := faultP_of hj1 hf; rw [hn j hj1 hj] at this; cases this
theorem faultF_no {l : List UInt8} (hn : ∀ j, 1 ≤ j → j < 10 → faultP l j = false) : faultF l = [] :=
  faultF_none (fun j hj1 hj => by
    cases hf : faultAt l j with
    | false => rfl
    | true => have := faultP_of hj1 hf; rw [hn j hj1 hj] at this; cases this)
def signL : List (List UInt8) := [[60, 62], [60, 61], [62, 61], [43], [45], [42], [47], [94], [38], [61], [60], [62], [37], [40], [41], [123], [125], [44], [59], [58], [35]]
def signP (l : List UInt8) (k : Nat) : Bool := (signL.getD k []).isPrefixOf (l.map id)
theorem signL_one : ∀ k, k < 21 → 3 ≤ k → ∃ c ∈ signS, signL.getD k [] = [c] := by decide
theorem one_signL : ∀ c ∈ signS, ∃ k, k < 21 ∧ signL.getD k [] = [c] := by decide
theorem signF_found {l : List UInt8} {k : Nat} (hk : k < 21) (h : signP l k = true) (hn : ∀ j, j < k → signP l j = false) : l.take (signF l) = signL.getD k [] ∧ signF l = (signL.getD k []).length := by
  unfold signP at h
  rw [List.map_id] at h
  have hp := List.prefix_iff_eq_take.1 (List.isPrefixOf_iff_prefix.1 h)
  by_cases h3 : 3 ≤ k
  · have h0 := hn 0 (by omega)
    have h1 := hn 1 (by omega)
    have h2 := hn 2 (by omega)
    unfold signP at h0 h1 h2
    rw [List.map_id] at h0 h1 h2
    obtain ⟨c, hc, hkc⟩ := signL_one k hk h3
    rw [hkc] at hp ⊢
    have hs : signF l = 1 := by
      unfold signF
      rw [show [60, 62].isPrefixOf l = false from h0, show [60, 61].isPrefixOf l = false from h1, show [62, 61].isPrefixOf l = false from h2, if_neg (by decide)]
      rw [show l.take 1 = [c] from hp.symm]
      rw [runF, runF, if_pos (by unfold setP; simpa using hc)]
    rw [hs]
    exact ⟨hp.symm, rfl⟩
  · have hs : signF l = 2 := by
      unfold signF
      rw [if_pos]
      obtain rfl | rfl | rfl : k = 0 ∨ k = 1 ∨ k = 2 := by omega
      · rw [show [60, 62].isPrefixOf l = true from h]; rfl
      · rw [show [60, 61].isPrefixOf l = true from h]; simp
      · rw [show [62, 61].isPrefixOf l = true from h]; simp
    rw [hs]
    obtain rfl | rfl | rfl : k = 0 ∨ k = 1 ∨ k = 2 := by omega
    all_goals exact ⟨hp.symm, rfl⟩
theorem signF_no {l : List UInt8} (hn : ∀ j, j < 21 → signP l j = false) : signF l = 0 := by
  have h0 := hn 0 (by omega)
  have h1 := hn 1 (by omega)
  have h2 := hn 2 (by omega)
  unfold signP at h0 h1 h2
  rw [List.map_id] at h0 h1 h2
  unfold signF
  rw [show [60, 62].isPrefixOf l = false from h0, show [60, 61].isPrefixOf l = false from h1, show [62, 61].isPrefixOf l = false from h2, if_neg (by decide)]
  cases l with
  | nil => rfl
  | cons x t =>
    rw [List.take_succ_cons, List.take_zero, runF]
    rw [if_neg]
    intro hx
    obtain ⟨k, hk, hkx⟩ := one_signL x (by simpa [setP] using hx)
    have := hn k hk
    unfold signP at this
    rw [hkx] at this
    simp [List.isPrefixOf] at this
theorem run_take_self (p : UInt8 → Bool) : ∀ l : List UInt8, runF p (l.take (runF p l)) = runF p l
  | [] => rfl
  | x :: t => by
    rw [runF]
    split
    · rename_i h
      rw [List.take_succ_cons, runF, if_pos h, run_take_self p t]
    · rfl
theorem word_take_self (l : List UInt8) : wordF (l.take (wordF l)) = wordF l := by
  unfold wordF
  by_cases h : headP fstP l = true
  · rw [if_pos h]
    cases l with
    | nil => rfl
    | cons x t =>
      have hw : wrdP x = true := by
        have : fstP x = true := h
        unfold fstP at this
        unfold wrdP
        rw [Bool.or_eq_true] at this
        rcases this with h | h
        · rw [h]; rfl
        · have : x = 95 ∨ x = 36 := by simpa [setP] using h
          rcases this with rfl | rfl <;> decide
      have hr : runF wrdP (x :: t) = runF wrdP t + 1 := by rw [runF, if_pos hw]
      rw [hr, List.take_succ_cons, if_pos (show headP fstP (x :: List.take (runF wrdP t) t) = true from h), runF, if_pos hw, run_take_self]
  · rw [if_neg h]; rfl
def fltC : Array Value := #[.string ⟨#[]⟩, .string ⟨#[35, 68, 73, 86, 47, 48, 33]⟩, .string ⟨#[35, 86, 65, 76, 85, 69, 33]⟩, .string ⟨#[35, 82, 69, 70, 33]⟩, .string ⟨#[35, 78, 65, 77, 69, 63]⟩, .string ⟨#[35, 78, 85, 77, 33]⟩, .string ⟨#[35, 78, 47, 65]⟩, .string ⟨#[35, 83, 80, 73, 76, 76, 33]⟩, .string ⟨#[35, 67, 73, 82, 67, 33]⟩, .string ⟨#[35, 67, 65, 76, 67, 33]⟩]
def sgnC : Array Value := #[.string ⟨#[60, 62]⟩, .string ⟨#[60, 61]⟩, .string ⟨#[62, 61]⟩, .string ⟨#[43]⟩, .string ⟨#[45]⟩, .string ⟨#[42]⟩, .string ⟨#[47]⟩, .string ⟨#[94]⟩, .string ⟨#[38]⟩, .string ⟨#[61]⟩, .string ⟨#[60]⟩, .string ⟨#[62]⟩, .string ⟨#[37]⟩, .string ⟨#[40]⟩, .string ⟨#[41]⟩, .string ⟨#[123]⟩, .string ⟨#[125]⟩, .string ⟨#[44]⟩, .string ⟨#[59]⟩, .string ⟨#[58]⟩, .string ⟨#[35]⟩]
def sB (k : Nat) : ByteArray := ⟨(signL.getD k []).toArray⟩
theorem flt_cell {W : World} {g : Nat} (h : W.heap[g]? = some (.cells fltC 9 (0, 0))) (k : Nat) (hk : k < 10) : W.cell? ⟨g, k, none⟩ = some (.string (fT k)) := by
  simp only [World.cell?, h]
  obtain rfl | rfl | rfl | rfl | rfl | rfl | rfl | rfl | rfl | rfl : k = 0 ∨ k = 1 ∨ k = 2 ∨ k = 3 ∨ k = 4 ∨ k = 5 ∨ k = 6 ∨ k = 7 ∨ k = 8 ∨ k = 9 := by omega
  all_goals rfl
theorem sgn_cells : ∀ k, k < 21 → sgnC[k]? = some (.string (sB k)) := by
  intro k hk
  have : k = 0 ∨ k = 1 ∨ k = 2 ∨ k = 3 ∨ k = 4 ∨ k = 5 ∨ k = 6 ∨ k = 7 ∨ k = 8 ∨ k = 9 ∨ k = 10 ∨ k = 11 ∨ k = 12 ∨ k = 13 ∨ k = 14 ∨ k = 15 ∨ k = 16 ∨ k = 17 ∨ k = 18 ∨ k = 19 ∨ k = 20 := by omega
  rcases this with rfl | rfl | rfl | rfl | rfl | rfl | rfl | rfl | rfl | rfl | rfl | rfl | rfl | rfl | rfl | rfl | rfl | rfl | rfl | rfl | rfl
  all_goals rfl
theorem sgn_cell {W : World} {g : Nat} (h : W.heap[g]? = some (.cells sgnC 9 (0, 0))) (k : Nat) (hk : k < 21) : W.cell? ⟨g, k, none⟩ = some (.string (sB k)) := by
  simp only [World.cell?, h]
  have := sgn_cells k hk
  simpa using this
theorem rfaults_any (w : World) : Calls Tryd.prog 32 #[] w fun e w' => e = .returned (.slice (some ⟨w.heap.size, 0, none⟩) 10 10) ∧ w' = w.alloc (.cells fltC 9) := by
  go_enter Tryd.func32, Tryd.ntmps32
  go_wp2
  go_ret
  exact ⟨rfl, rfl⟩
theorem rsigns_any (w : World) : Calls Tryd.prog 31 #[] w fun e w' => e = .returned (.slice (some ⟨w.heap.size, 0, none⟩) 21 21) ∧ w' = w.alloc (.cells sgnC 9) := by
  go_enter Tryd.func31, Tryd.ntmps31
  go_wp2
  go_ret
  exact ⟨rfl, rfl⟩
end Go.Proofs.YtcnmghkmognhoaaDoor
