/- One of several kinds. -/
import Derived.Test.YtcnmghkmognhoaaDoorC
namespace Go.Proofs.YtcnmghkmognhoaaDoor
open Go.RowKit Go.Shelf

/-- kinds that lie side by side -/
def KindsAt (w : World) (b : Nat) (ks : List (Value × (UInt8 → Bool))) : Prop := ∀ (k : Nat) x, ks[k]? = some x → w.cell? ⟨b, k, none⟩ = some x.1 ∧ KindIs w x.1 x.2
theorem cell_lt {w : World} {a : Addr} {v : Value} (h : w.cell? a = some v) : a.block < w.heap.size := by
  unfold World.cell? at h
  split at h
  · rename_i hh
    exact (Array.getElem?_eq_some_iff.1 hh).1
  · cases h
theorem KindsAt.later {w w' : World} {b : Nat} {ks : List (Value × (UInt8 → Bool))} (h : KindsAt w b ks) (hb : Below w.heap.size w w') : KindsAt w' b ks := fun k x hx => by
  obtain ⟨h1, h2⟩ := h k x hx
  exact ⟨(hb.cell (p := ⟨b, k, none⟩) (cell_lt h1)).trans h1, h2.later hb⟩
def anyK (ks : List (Value × (UInt8 → Bool))) (c : UInt8) : Bool := ks.any fun x => x.2 c
set_option maxRecDepth 100000 in
theorem either_call (b : Nat) (ks : List (Value × (UInt8 → Bool))) (hn : ks.length ≤ 100) (pa : Addr) (w : World) (h1 : w.cell? pa = some (.slice (some ⟨b, 0, none⟩) ks.length ks.length)) (h2 : KindsAt w b ks) (c : UInt8) :
    Calls Tryd.prog 113 #[.int .u8 (c.toNat : Int), .pointer (some pa)] w fun e w' => e = .returned (.bool (anyK ks c)) ∧ Below w.heap.size w w' := by
  obtain ⟨R, hR⟩ : ∃ R, anyK ks c = R := ⟨_, rfl⟩
  rw [hR]
  have HR := Lib.hid hR
  have H2 := Lib.hid h2
  clear hR h2
  go_enter Tryd.func113, Tryd.ntmps113
  go_wp2
  go_loopw [8] (fun i wr => ∃ k : Nat, k ≤ ks.length ∧ i = .int .i64 (k : Int) ∧ Hid (∀ x ∈ ks.take k, x.2 c = false) ∧ Below w.heap.size w wr) (fun i _ => ks.length - (intOf i).toNat)
  case atStart => exact ⟨0, by omega, rfl, Lib.hid (by simp), Below.refl _ _⟩
  case round =>
    obtain ⟨k, hk, rfl, HN, hB⟩ := hrel
    have HB := Lib.hid hB
    clear hB
    by_cases hlt : k < ks.length
    · have hx : ks[k]? = some ks[k] := List.getElem?_eq_getElem hlt
      obtain ⟨x, hxx⟩ : ∃ x, ks[k] = x := ⟨_, rfl⟩
      have ht : ks.take (k + 1) = ks.take k ++ [x] := by rw [← hxx]; exact (List.take_append_getElem hlt).symm
      rw [hxx] at hx
      have HM := Lib.hid (List.mem_of_getElem? hx)
      have HT := Lib.hid ht
      obtain ⟨c0, M, caps, hv, hE, hK⟩ := H2.out.later HB.out k x hx
      obtain ⟨v, p⟩ := x
      simp only at hv hK c0
      subst hv
      have HK := Lib.hid hK
      have hi : (k : Int) < (ks.length : Int) := by omega
      have hi0 : (0 : Int) ≤ (k : Int) := by omega
      have hc0 : wr.cell? ((⟨b, 0, none⟩ : Addr).add k) = some (.func (.func M) #[] caps) := by
        have : (⟨b, 0, none⟩ : Addr).add k = ⟨b, k, none⟩ := by unfold Addr.add; split <;> simp_all
        rw [this]; exact c0
      clear hx hxx ht hK
      go_wp2_with fail
      refine (HK.out _ (Below.refl _ _) _).mono ?_
      rintro e w1 ⟨rfl, hb1⟩
      have HB1 := Lib.hid (HB.out.trans (hb1.mono HB.out.size))
      clear hb1
      obtain ⟨r, hr⟩ : ∃ r, p c = r := ⟨_, rfl⟩
      rw [hr]
      have HP := Lib.hid hr
      clear hr
      cases r with
      | true =>
        have hRt : R = true := by rw [← HR.out]; exact List.any_eq_true.2 ⟨_, HM.out, HP.out⟩
        subst hRt
        go_wp2
        go_ret
        exact ⟨rfl, HB1.out⟩
      | false =>
        go_wp2
        go_roundw
        case rel => exact ⟨k + 1, by omega, by simp, Lib.hid (fun y hy => by
          rw [HT.out] at hy
          rcases List.mem_append.1 hy with hy | hy
          · exact HN.out y hy
          · simp only [List.mem_singleton] at hy; rw [hy]; exact HP.out), HB1.out⟩
        case measure => simp [intOf]; omega
    · have hi : ¬ (k : Int) < (ks.length : Int) := by omega
      have hRf : R = false := by
        rw [← HR.out]
        have h3 := HN.out
        rw [List.take_of_length_le (by omega)] at h3
        unfold anyK
        rw [List.any_eq_false]
        intro x hx
        rw [h3 x hx]; simp
      subst hRf
      go_wp2
      go_ret
      exact ⟨rfl, HB.out⟩
theorem either_any (b : Nat) (ks : List (Value × (UInt8 → Bool))) (n : Nat) (hn : ks.length = n) (hn2 : n ≤ 100) (w : World) (h2 : KindsAt w b ks) : Calls Tryd.prog 89 #[.slice (some ⟨b, 0, none⟩) n n] w (KindOut w (anyK ks)) := by
  obtain ⟨R, hR⟩ : ∃ R, KindOut w (anyK ks) = R := ⟨_, rfl⟩
  rw [hR]
  have HR := Lib.hid hR
  have HN := Lib.hid hn
  have H2 := Lib.hid h2
  have hmf : ∀ (fn : Fn) (first cap : Array Value) (w : World), (Instr.makeFunc fn first cap).run Tryd.prog w = .ok (.func fn first cap) w := fun _ _ _ _ => rfl
  clear hR hn h2
  go_enter Tryd.func89, Tryd.ntmps89
  go_wp2
  rw [← HR.out]
  refine ⟨_, rfl, ⟨113, _, rfl, enters_of Tryd.func113 (by kernel_rfl) rfl, fun W hW c => ?_⟩, (Below.refl _ _).alloc (Nat.le_refl _) _⟩
  have h1 : W.cell? ⟨w.heap.size, 0, none⟩ = some (.slice (some ⟨b, 0, none⟩) ks.length ks.length) := (hW.cell (p := ⟨w.heap.size, 0, none⟩) (by simp)).trans (by rw [HN.out]; simp)
  exact either_call b ks (by rw [HN.out]; exact hn2) _ W h1 ((H2.out.later ((Below.refl _ _).alloc (Nat.le_refl _) _)).later hW) c
/-- two, or three, kinds in a new block -/
theorem kinds_two {w : World} {t : TypeId} {v1 v2 : Value} {p1 p2 : UInt8 → Bool} (h1 : KindIs w v1 p1) (h2 : KindIs w v2 p2) : KindsAt (w.alloc (.cells #[v1, v2] t)) w.heap.size [(v1, p1), (v2, p2)] := by
  have hb : Below w.heap.size w (w.alloc (.cells #[v1, v2] t)) := (Below.refl _ _).alloc (Nat.le_refl _) _
  intro k x hx
  match k, hx with
  | 0, hx => simp at hx; subst hx; exact ⟨by simp, h1.later hb⟩
  | 1, hx => simp at hx; subst hx; exact ⟨by simp, h2.later hb⟩
  | k + 2, hx => simp at hx
theorem kinds_three {w : World} {t : TypeId} {v1 v2 v3 : Value} {p1 p2 p3 : UInt8 → Bool} (h1 : KindIs w v1 p1) (h2 : KindIs w v2 p2) (h3 : KindIs w v3 p3) : KindsAt (w.alloc (.cells #[v1, v2, v3] t)) w.heap.size [(v1, p1), (v2, p2), (v3, p3)] := by
  have hb : Below w.heap.size w (w.alloc (.cells #[v1, v2, v3] t)) := (Below.refl _ _).alloc (Nat.le_refl _) _
  intro k x hx
  match k, hx with
  | 0, hx => simp at hx; subst hx; exact ⟨by simp, h1.later hb⟩
  | 1, hx => simp at hx; subst hx; exact ⟨by simp, h2.later hb⟩
  | 2, hx => simp at hx; subst hx; exact ⟨by simp, h3.later hb⟩
  | k + 3, hx => simp at hx
end Go.Proofs.YtcnmghkmognhoaaDoor
