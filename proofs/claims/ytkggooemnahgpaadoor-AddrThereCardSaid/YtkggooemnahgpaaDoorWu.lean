/- Walks over the laws AddrRelative and AddrThere. -/
import Derived.Test.YtkggooemnahgpaaDoorWr
import Derived.Test.YtkggooemnahgpaaDoorWt
namespace Go.Proofs.YtkggooemnahgpaaDoor
open Go.RowKit

theorem rrel_plain (r c : Int) (fr fc : Bool) (pr pc : Int) (t : List UInt8) (h : relL r c fr fc pr pc = t) (w : World) : Calls Tryd.prog 22 #[.agg #[.int .i64 r, .int .i64 c, .bool fr, .bool fc], .int .i64 pr, .int .i64 pc] w fun e w' => e = .returned (.string ⟨t.toArray⟩) ∧ Below w.heap.size w w' := h ▸ rrelative_any r c fr fc pr pc w

theorem rellaw_long (r c : Int) (fr fc : Bool) (s : ByteArray) (pr pc : Int) (w : World) (ht : Tab w) (h : 100 < s.size) :
    Calls Tryd.prog 5 #[markV r c fr fc, .string s, .int .i64 pr, .int .i64 pc] w fun e w' => e = .returned (.bool true) ∧ Below w.heap.size w w' := by
  have hb0 := below_new w (.cells #[.int .i64 r, .int .i64 c, .bool fr, .bool fc] 28)
  have ht0 := ht.below hb0
  have H0 := Lib.hid hb0
  clear hb0
  unfold markV
  go_enter Tryd.func5, Tryd.ntmps5
  go_wp2_with fail
  refine (awake_any _ ht0).mono ?_
  rintro e w1 ⟨rfl, hb1⟩
  go_wp2_with fail
  go_ret
  exact ⟨rfl, H0.out.trans (hb1.mono H0.out.size)⟩

set_option maxHeartbeats 6400000 in
set_option maxRecDepth 100000 in
theorem rellaw_some (r c : Int) (fr fc : Bool) (s : ByteArray) (pr pc : Int) (w : World) (ht : Tab w) (hsh : w.ShapedOpen Tryd.prog) (h : s.size ≤ 100) (xr xc : Int) (xfr xfc : Bool) (hp : absL s.data.toList pr pc = some (xr, xc, xfr, xfc)) :
    Calls Tryd.prog 5 #[markV r c fr fc, .string s, .int .i64 pr, .int .i64 pc] w fun e w' => e = .returned (.bool true) ∧ Below w.heap.size w w' := by
  have hb0 := below_new w (.cells #[.int .i64 r, .int .i64 c, .bool fr, .bool fc] 28)
  have ht0 := ht.below hb0
  have hk0 := MarkAt.new w r c fr fc 28
  have H0 := Lib.hid hb0
  have HK0 := Lib.hid hk0
  have HP := Lib.hid hp
  obtain ⟨t, hT⟩ : ∃ t, relL r c fr fc pr pc = t := ⟨_, rfl⟩
  have HT := Lib.hid hT
  clear hb0 hk0 hp hT
  unfold markV
  go_enter Tryd.func5, Tryd.ntmps5
  go_wp2_with fail
  refine (awake_any _ ht0).mono ?_
  rintro e w1 ⟨rfl, hb1⟩
  obtain ⟨c0, c1, c2, c3, hz⟩ := HK0.out.later hb1
  have ht1 := ht0.below hb1
  have hb2 := H0.out.trans (hb1.mono H0.out.size)
  clear hb1 ht0
  go_wp2_with fail
  refine (relative_any r c fr fc pr pc _ ht1).mono ?_
  rw [HT.out]
  rintro e w2 ⟨rfl, hb3⟩
  have hk2 := MarkAt.later ⟨c0, c1, c2, c3, hz⟩ hb3
  have ht2 := ht1.below hb3
  have hb4 := hb2.trans (hb3.mono hb2.size)
  have HK2 := Lib.hid hk2
  clear hb3 hb2 ht1 c0 c1 c2 c3 hz hk2
  go_wp2_with fail
  refine (absolute_any s pr pc _ (by omega) (shaped_below hsh hb4)).mono ?_
  rw [HP.out]
  unfold parseR
  rintro e w3 ⟨rfl, hb5⟩
  have hk3 := HK2.out.later hb5
  have ht3 := ht2.below hb5
  have hb6 := hb4.trans (hb5.mono hb4.size)
  have HK3 := Lib.hid hk3
  clear hb5 hb4 ht2 hk3
  go_wp2_with fail
  refine (rabsolute_any s pr pc _ (by omega)).mono ?_
  rw [HP.out]
  unfold parseR
  rintro e w4 ⟨rfl, hb7⟩
  have hk4 := (HK3.out.later (below_new w3 (.cells #[.int .i64 xr, .int .i64 xc, .bool xfr, .bool xfc] 28))).later hb7
  have hx4 := (MarkAt.new w3 xr xc xfr xfc 28).later hb7
  have ht4 := (ht3.below (below_new w3 (.cells #[.int .i64 xr, .int .i64 xc, .bool xfr, .bool xfc] 28))).below hb7
  have hb8 := hb6.trans ((below4 hb7).mono hb6.size)
  have hA : Kept3 w w.heap.size w3.heap.size w4.heap.size r c fr fc xr xc xfr xfc (w4.alloc (.cells #[.int .i64 xr, .int .i64 xc, .bool xfr, .bool xfc] 32)) :=
    ⟨hk4.later (below_new _ _), hx4.later (below_new _ _), MarkAt.new _ _ _ _ _ _, ht4.below (below_new _ _), hb8.trans ((below_new _ _).mono hb8.size)⟩
  have HA := Lib.hid hA
  clear hk4 hx4 ht4 hb8 hA hb7 ht3 hb6
  go_wp2_with fail
  go_region_held3 (fun w' => (w'.cell? ⟨w.heap.size, 0, none⟩ = some (.int .i64 r) ∧ w'.cell? ⟨w.heap.size, 1, none⟩ = some (.int .i64 c) ∧ w'.cell? ⟨w.heap.size, 2, none⟩ = some (.bool fr) ∧ w'.cell? ⟨w.heap.size, 3, none⟩ = some (.bool fc) ∧ w.heap.size < w'.heap.size) ∧
      (w'.cell? ⟨w3.heap.size, 0, none⟩ = some (.int .i64 xr) ∧ w'.cell? ⟨w3.heap.size, 1, none⟩ = some (.int .i64 xc) ∧ w'.cell? ⟨w3.heap.size, 2, none⟩ = some (.bool xfr) ∧ w'.cell? ⟨w3.heap.size, 3, none⟩ = some (.bool xfc) ∧ w3.heap.size < w'.heap.size) ∧
      (w'.cell? ⟨w4.heap.size, 0, none⟩ = some (.int .i64 xr) ∧ w'.cell? ⟨w4.heap.size, 1, none⟩ = some (.int .i64 xc) ∧ w'.cell? ⟨w4.heap.size, 2, none⟩ = some (.bool xfr) ∧ w'.cell? ⟨w4.heap.size, 3, none⟩ = some (.bool xfc) ∧ w4.heap.size < w'.heap.size) ∧ Tab w' ∧ Below w.heap.size w w')
    (first | exact Kept3.later HA.out (below_dr _) | assumption | exact Kept3.later (hb := hbA) (h := by assumption) | exact Kept3.later (hb := hbB) (h := by assumption) | exact Kept3.later (hb := hbC) (h := by assumption))
    (first
      | (go_at_call_of 18 (Value.int IntKind.i64 r); refine (of_plain _ _ _ _ _).mono ?_; rintro e wA ⟨rfl, hbA⟩)
      | (go_at_call_of 22 (Value.int IntKind.i64 r); refine (rrel_plain _ _ _ _ _ _ _ HT.out _).mono ?_; rintro e wB ⟨rfl, hbB⟩)
      | (go_at_call_of 18 (Value.int IntKind.i64 xr); refine (of_plain _ _ _ _ _).mono ?_; rintro e wC ⟨rfl, hbC⟩))
  have hK : Kept3 w w.heap.size w3.heap.size w4.heap.size r c fr fc xr xc xfr xfc wC := by assumption
  clear hbA hbB hbC
  obtain ⟨k0, kx, ky, kt, kb⟩ := hK
  have hshC := shaped_below hsh kb
  clear kx ky kt
  have K0 := Lib.hid k0
  have KB := Lib.hid kb
  clear k0 kb
  cases hr : (rightB r c && rightB pr pc) with
  | true =>
    have hr2 : rightB r c = true ∧ rightB pr pc = true := by simpa using hr
    have hpt := abs_rel r c fr fc pr pc pr pc hr2.1 hr2.2 hr2.2
    rw [show pr - pr = 0 by omega, show pc - pc = 0 by omega, Int.add_zero, Int.add_zero, ite_self, ite_self, if_pos hr2.1, HT.out] at hpt
    have hte := relL_ne r c fr fc pr pc hr2.1 hr2.2
    rw [HT.out] at hte
    have htl := relL_len r c fr fc pr pc
    rw [HT.out] at htl
    have HPT := Lib.hid hpt
    clear hpt hr hr2
    go_wp2_with fail
    refine (absolute_any ⟨t.toArray⟩ pr pc _ htl hshC).mono ?_
    rw [show (⟨t.toArray⟩ : ByteArray).data.toList = t from rfl, HPT.out]
    unfold parseR
    rintro e w5 ⟨rfl, hb9⟩
    obtain ⟨c0, c1, c2, c3, hz⟩ := K0.out.later hb9
    have hb10 := KB.out.trans (hb9.mono KB.out.size)
    clear hb9
    have HB := Lib.hid hb10
    clear hb10
    go_wp2_with fail
    go_ret
    exact ⟨rfl, HB.out.trans ((below_new _ _).mono HB.out.size)⟩
  | false =>
    have hte : t = [] := by rw [← HT.out]; exact relL_none r c fr fc pr pc hr
    clear hr
    subst hte
    go_wp2_with fail
    go_ret
    exact ⟨rfl, KB.out⟩

set_option maxHeartbeats 6400000 in
set_option maxRecDepth 100000 in
theorem rellaw_none (r c : Int) (fr fc : Bool) (s : ByteArray) (pr pc : Int) (w : World) (ht : Tab w) (hsh : w.ShapedOpen Tryd.prog) (h : s.size ≤ 100) (hp : absL s.data.toList pr pc = none) :
    Calls Tryd.prog 5 #[markV r c fr fc, .string s, .int .i64 pr, .int .i64 pc] w fun e w' => e = .returned (.bool true) ∧ Below w.heap.size w w' := by
  have hb0 := below_new w (.cells #[.int .i64 r, .int .i64 c, .bool fr, .bool fc] 28)
  have ht0 := ht.below hb0
  have hk0 := MarkAt.new w r c fr fc 28
  have H0 := Lib.hid hb0
  have HK0 := Lib.hid hk0
  have HP := Lib.hid hp
  obtain ⟨t, hT⟩ : ∃ t, relL r c fr fc pr pc = t := ⟨_, rfl⟩
  have HT := Lib.hid hT
  clear hb0 hk0 hp hT
  unfold markV
  go_enter Tryd.func5, Tryd.ntmps5
  go_wp2_with fail
  refine (awake_any _ ht0).mono ?_
  rintro e w1 ⟨rfl, hb1⟩
  obtain ⟨c0, c1, c2, c3, hz⟩ := HK0.out.later hb1
  have ht1 := ht0.below hb1
  have hb2 := H0.out.trans (hb1.mono H0.out.size)
  clear hb1 ht0
  go_wp2_with fail
  refine (relative_any r c fr fc pr pc _ ht1).mono ?_
  rw [HT.out]
  rintro e w2 ⟨rfl, hb3⟩
  have hk2 := MarkAt.later ⟨c0, c1, c2, c3, hz⟩ hb3
  have ht2 := ht1.below hb3
  have hb4 := hb2.trans (hb3.mono hb2.size)
  have HK2 := Lib.hid hk2
  clear hb3 hb2 ht1 c0 c1 c2 c3 hz hk2
  go_wp2_with fail
  refine (absolute_any s pr pc _ (by omega) (shaped_below hsh hb4)).mono ?_
  rw [HP.out]
  unfold parseR
  rintro e w3 ⟨rfl, hb5⟩
  have hk3 := HK2.out.later hb5
  have ht3 := ht2.below hb5
  have hb6 := hb4.trans (hb5.mono hb4.size)
  have HK3 := Lib.hid hk3
  clear hb5 hb4 ht2 hk3
  go_wp2_with fail
  refine (rabsolute_any s pr pc _ (by omega)).mono ?_
  rw [HP.out]
  unfold parseR
  rintro e w4 ⟨rfl, hb7⟩
  have hk4 := (HK3.out.later (below_new w3 (.cells #[.int .i64 0, .int .i64 0, .bool false, .bool false] 28))).later hb7
  have hx4 := (MarkAt.new w3 0 0 false false 28).later hb7
  have ht4 := (ht3.below (below_new w3 (.cells #[.int .i64 0, .int .i64 0, .bool false, .bool false] 28))).below hb7
  have hb8 := hb6.trans ((below4 hb7).mono hb6.size)
  have hA : Kept3 w w.heap.size w3.heap.size w4.heap.size r c fr fc 0 0 false false (w4.alloc (.cells #[.int .i64 0, .int .i64 0, .bool false, .bool false] 32)) :=
    ⟨hk4.later (below_new _ _), hx4.later (below_new _ _), MarkAt.new _ _ _ _ _ _, ht4.below (below_new _ _), hb8.trans ((below_new _ _).mono hb8.size)⟩
  have HA := Lib.hid hA
  clear hk4 hx4 ht4 hb8 hA hb7 ht3 hb6
  go_wp2_with fail
  go_region_held3 (fun w' => (w'.cell? ⟨w.heap.size, 0, none⟩ = some (.int .i64 r) ∧ w'.cell? ⟨w.heap.size, 1, none⟩ = some (.int .i64 c) ∧ w'.cell? ⟨w.heap.size, 2, none⟩ = some (.bool fr) ∧ w'.cell? ⟨w.heap.size, 3, none⟩ = some (.bool fc) ∧ w.heap.size < w'.heap.size) ∧
      (w'.cell? ⟨w3.heap.size, 0, none⟩ = some (.int .i64 0) ∧ w'.cell? ⟨w3.heap.size, 1, none⟩ = some (.int .i64 0) ∧ w'.cell? ⟨w3.heap.size, 2, none⟩ = some (.bool false) ∧ w'.cell? ⟨w3.heap.size, 3, none⟩ = some (.bool false) ∧ w3.heap.size < w'.heap.size) ∧
      (w'.cell? ⟨w4.heap.size, 0, none⟩ = some (.int .i64 0) ∧ w'.cell? ⟨w4.heap.size, 1, none⟩ = some (.int .i64 0) ∧ w'.cell? ⟨w4.heap.size, 2, none⟩ = some (.bool false) ∧ w'.cell? ⟨w4.heap.size, 3, none⟩ = some (.bool false) ∧ w4.heap.size < w'.heap.size) ∧ Tab w' ∧ Below w.heap.size w w')
    (first | exact Kept3.later HA.out (below_dr _) | assumption | exact Kept3.later (hb := hbA) (h := by assumption) | exact Kept3.later (hb := hbB) (h := by assumption) | exact Kept3.later (hb := hbC) (h := by assumption))
    (first
      | (go_at_call_of 18 (Value.int IntKind.i64 r); refine (of_plain _ _ _ _ _).mono ?_; rintro e wA ⟨rfl, hbA⟩)
      | (go_at_call_of 22 (Value.int IntKind.i64 r); refine (rrel_plain _ _ _ _ _ _ _ HT.out _).mono ?_; rintro e wB ⟨rfl, hbB⟩)
      | (go_at_call_of 18 (Value.int IntKind.i64 0); refine (of_plain _ _ _ _ _).mono ?_; rintro e wC ⟨rfl, hbC⟩))
  have hK : Kept3 w w.heap.size w3.heap.size w4.heap.size r c fr fc 0 0 false false wC := by assumption
  clear hbA hbB hbC
  obtain ⟨k0, kx, ky, kt, kb⟩ := hK
  have hshC := shaped_below hsh kb
  clear kx ky kt
  have K0 := Lib.hid k0
  have KB := Lib.hid kb
  clear k0 kb
  cases hr : (rightB r c && rightB pr pc) with
  | true =>
    have hr2 : rightB r c = true ∧ rightB pr pc = true := by simpa using hr
    have hpt := abs_rel r c fr fc pr pc pr pc hr2.1 hr2.2 hr2.2
    rw [show pr - pr = 0 by omega, show pc - pc = 0 by omega, Int.add_zero, Int.add_zero, ite_self, ite_self, if_pos hr2.1, HT.out] at hpt
    have hte := relL_ne r c fr fc pr pc hr2.1 hr2.2
    rw [HT.out] at hte
    have htl := relL_len r c fr fc pr pc
    rw [HT.out] at htl
    have HPT := Lib.hid hpt
    clear hpt hr hr2
    go_wp2_with fail
    refine (absolute_any ⟨t.toArray⟩ pr pc _ htl hshC).mono ?_
    rw [show (⟨t.toArray⟩ : ByteArray).data.toList = t from rfl, HPT.out]
    unfold parseR
    rintro e w5 ⟨rfl, hb9⟩
    obtain ⟨c0, c1, c2, c3, hz⟩ := K0.out.later hb9
    have hb10 := KB.out.trans (hb9.mono KB.out.size)
    clear hb9
    have HB := Lib.hid hb10
    clear hb10
    go_wp2_with fail
    go_ret
    exact ⟨rfl, HB.out.trans ((below_new _ _).mono HB.out.size)⟩
  | false =>
    have hte : t = [] := by rw [← HT.out]; exact relL_none r c fr fc pr pc hr
    clear hr
    subst hte
    go_wp2_with fail
    go_ret
    exact ⟨rfl, KB.out⟩

/-- AddrRelative, at every input -/
theorem rellaw_any (r c : Int) (fr fc : Bool) (s : ByteArray) (pr pc : Int) (w : World) (ht : Tab w) (hsh : w.ShapedOpen Tryd.prog) :
    Calls Tryd.prog 5 #[markV r c fr fc, .string s, .int .i64 pr, .int .i64 pc] w fun e w' => e = .returned (.bool true) ∧ Below w.heap.size w w' := by
  by_cases h : 100 < s.size
  · exact rellaw_long r c fr fc s pr pc w ht h
  · cases hp : absL s.data.toList pr pc with
    | none => exact rellaw_none r c fr fc s pr pc w ht hsh (by omega) hp
    | some x =>
      obtain ⟨xr, xc, xfr, xfc⟩ := x
      exact rellaw_some r c fr fc s pr pc w ht hsh (by omega) xr xc xfr xfc hp
end Go.Proofs.YtkggooemnahgpaaDoor
