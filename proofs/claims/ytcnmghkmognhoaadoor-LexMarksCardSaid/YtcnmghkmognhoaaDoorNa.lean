/- Each two quotes as one; the token with which a text begins. -/
import Derived.Test.YtcnmghkmognhoaaDoorE
import Derived.Test.YtcnmghkmognhoaaDoorI
import Derived.Test.YtcnmghkmognhoaaDoorJ
import Derived.Test.YtcnmghkmognhoaaDoorM
namespace Go.Proofs.YtcnmghkmognhoaaDoor
open Go.RowKit Go.Shelf

theorem rep_meant : ∀ (n : Nat) (l : List UInt8), l.length ≤ n → ∀ k, Lib.count l [34, 34] ≤ k → Lib.replaceK [34, 34] [34] k l = meantF l
  | 0, l, hn, k, hk => by
    obtain rfl : l = [] := List.eq_nil_of_length_eq_zero (by omega)
    cases k with
    | zero => rfl
    | succ k => rfl
  | n + 1, [], hn, k, hk => by
    cases k with
    | zero => rfl
    | succ k => rfl
  | n + 1, x :: t, hn, k, hk => by
    simp only [List.length_cons] at hn
    by_cases hp : ([34, 34] : List UInt8).isPrefixOf (x :: t) = true
    · obtain ⟨u, rfl, rfl⟩ : ∃ u, x = 34 ∧ t = 34 :: u := by
        cases t with
        | nil => simp [List.isPrefixOf] at hp
        | cons y u =>
          simp [List.isPrefixOf] at hp
          exact ⟨u, hp.1.symm, by rw [hp.2]⟩
      have hi : Lib.index (34 :: 34 :: u) [34, 34] = (0 : Nat) := by rw [Lib.index, if_pos hp]; rfl
      have hc := Lib.count_hit (by simp) hi
      rw [hc] at hk
      obtain ⟨k', rfl⟩ : ∃ k', k = k' + 1 := ⟨k - 1, by omega⟩
      rw [Lib.replaceK_hit _ _ _ _ _ hi]
      have hd : (34 :: 34 :: u : List UInt8).drop (0 + ([34, 34] : List UInt8).length) = u := rfl
      rw [hd] at hk ⊢
      simp only [List.length_cons] at hn
      rw [rep_meant n u (by omega) k' (by omega), meantF, if_pos ⟨rfl, rfl⟩]
      rfl
    · have hm : meantF (x :: t) = x :: meantF t := by
        cases t with
        | nil => rfl
        | cons y u =>
          rw [meantF, if_neg]
          rintro ⟨rfl, rfl⟩
          exact hp (by simp [List.isPrefixOf])
      rw [hm]
      by_cases hi : Lib.index t [34, 34] = -1
      · have hx : Lib.index (x :: t) [34, 34] = -1 := by rw [Lib.index, if_neg hp, hi]; rfl
        have ih := rep_meant n t (by omega) 1 (by rw [Lib.count_miss hi]; omega)
        rw [Lib.replaceK, hi] at ih
        rw [← show t = meantF t from ih]
        cases k with
        | zero => rfl
        | succ k => rw [Lib.replaceK, hx]; rfl
      · have hge := Lib.index_ge t [34, 34]
        obtain ⟨i, hti⟩ : ∃ i : Nat, Lib.index t [34, 34] = i := ⟨(Lib.index t [34, 34]).toNat, by omega⟩
        have hx : Lib.index (x :: t) [34, 34] = ((i + 1 : Nat) : Int) := by
          rw [Lib.index, if_neg hp, if_neg (by rw [hti, beq_iff_eq]; omega), hti]; rfl
        have hc1 := Lib.count_hit (by simp) hx
        have hc2 := Lib.count_hit (by simp) hti
        have hdd : (x :: t).drop (i + 1 + ([34, 34] : List UInt8).length) = t.drop (i + ([34, 34] : List UInt8).length) := by
          rw [show i + 1 + ([34, 34] : List UInt8).length = (i + ([34, 34] : List UInt8).length) + 1 by omega]
          rfl
        rw [hdd] at hc1
        obtain ⟨k', rfl⟩ : ∃ k', k = k' + 1 := ⟨k - 1, by omega⟩
        rw [← rep_meant n t (by omega) (k' + 1) (by omega), Lib.replaceK_hit _ _ _ _ _ hx, Lib.replaceK_hit _ _ _ _ _ hti, hdd]
        rfl
theorem all_meant (l : List UInt8) : Lib.replaceAll l [34, 34] [34] = meantF l := by
  unfold Lib.replaceAll Lib.replace
  rw [if_neg (by decide)]
  refine rep_meant _ l (Nat.le_refl _) _ ?_
  unfold Lib.replaceNum
  rw [if_pos (.inl (by omega))]
  exact Nat.le_refl _
theorem meant_any (s : ByteArray) (hs : s.size ≤ 100000) (w : World) (he : Env w) : Calls Tryd.prog 59 #[.string s, .string ⟨#[34, 34]⟩, .string ⟨#[34]⟩] w fun e w' => e = .returned (.string ⟨(meantF s.data.toList).toArray⟩) ∧ Below w.heap.size w w' := by
  obtain ⟨m, hm⟩ := he.max
  have h := Tryd.strings_ReplaceAll s ⟨#[34, 34]⟩ ⟨#[34]⟩ m w (by omega) hm (by decide) (by
    have h1 := Lib.count_le s.data.toList (⟨#[34, 34]⟩ : ByteArray).data.toList
    rw [size_list] at h1
    have h2 : (⟨#[34]⟩ : ByteArray).size = 1 := rfl
    rw [h2]
    unfold Lib.countB
    omega)
  rw [show (⟨#[34, 34]⟩ : ByteArray).data.toList = [34, 34] from rfl, show (⟨#[34]⟩ : ByteArray).data.toList = [34] from rfl, all_meant] at h
  exact h
end Go.Proofs.YtcnmghkmognhoaaDoor
