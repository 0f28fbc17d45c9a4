/- Walk over the law AddrTexts. -/
import Derived.Test.YtkggooemnahgpaaDoorWm
namespace Go.Proofs.YtkggooemnahgpaaDoor
open Go.RowKit

/-- a block's four cells hold a mark -/
def MarkAt (n : Nat) (r c : Int) (fr fc : Bool) (w : World) : Prop :=
  w.cell? ⟨n, 0, none⟩ = some (.int .i64 r) ∧ w.cell? ⟨n, 1, none⟩ = some (.int .i64 c) ∧ w.cell? ⟨n, 2, none⟩ = some (.bool fr) ∧ w.cell? ⟨n, 3, none⟩ = some (.bool fc) ∧ n < w.heap.size
theorem MarkAt.later {n : Nat} {r c : Int} {fr fc : Bool} {w w' : World} (h : MarkAt n r c fr fc w) (hb : Below w.heap.size w w') : MarkAt n r c fr fc w' := by
  obtain ⟨c0, c1, c2, c3, hz⟩ := h
  obtain ⟨hc, hf⟩ := bcell hb
  have := hb.size
  exact ⟨(hc _ _ hz).trans c0, (hc _ _ hz).trans c1, (hc _ _ hz).trans c2, (hc _ _ hz).trans c3, by omega⟩
theorem MarkAt.new (w : World) (r c : Int) (fr fc : Bool) (T : TypeId) : MarkAt w.heap.size r c fr fc (w.alloc (.cells #[.int .i64 r, .int .i64 c, .bool fr, .bool fc] T)) := by
  refine ⟨?_, ?_, ?_, ?_, ?_⟩
  iterate 4 (exact (World.cell?_alloc_new _ _ _ _).trans rfl)
  rw [World.size_alloc]; omega
theorem below_new (w : World) (o : Obj) : Below w.heap.size w (w.alloc o) := (Below.refl _ _).alloc (Nat.le_refl _) _

theorem of_plain (r c : Int) (fr fc : Bool) (w : World) : Calls Tryd.prog 18 #[.agg #[.int .i64 r, .int .i64 c, .bool fr, .bool fc]] w fun e w' => e = .returned (.agg #[.int .i64 r, .int .i64 c, .bool fr, .bool fc]) ∧ Below w.heap.size w w' := of_any r c fr fc w
theorem rtext_plain (r c : Int) (fr fc : Bool) (t : List UInt8) (h : textL r c fr fc = t) (w : World) : Calls Tryd.prog 17 #[.agg #[.int .i64 r, .int .i64 c, .bool fr, .bool fc]] w fun e w' => e = .returned (.string ⟨t.toArray⟩) ∧ Below w.heap.size w w' := h ▸ rtext_any r c fr fc w

/-- what a region keeps: three marks, the table, all that lay before -/
def Kept3 (w : World) (n0 n1 n2 : Nat) (r c : Int) (fr fc : Bool) (xr xc : Int) (xfr xfc : Bool) (w' : World) : Prop :=
  MarkAt n0 r c fr fc w' ∧ MarkAt n1 xr xc xfr xfc w' ∧ MarkAt n2 xr xc xfr xfc w' ∧ Tab w' ∧ Below w.heap.size w w'
theorem Kept3.later {w : World} {n0 n1 n2 : Nat} {r c : Int} {fr fc : Bool} {xr xc : Int} {xfr xfc : Bool} {w1 w2 : World} (h : Kept3 w n0 n1 n2 r c fr fc xr xc xfr xfc w1) (hb : Below w1.heap.size w1 w2) : Kept3 w n0 n1 n2 r c fr fc xr xc xfr xfc w2 :=
  ⟨h.1.later hb, h.2.1.later hb, h.2.2.1.later hb, h.2.2.2.1.below hb, h.2.2.2.2.trans (hb.mono h.2.2.2.2.size)⟩
theorem below_dr (w : World) : Below w.heap.size w w.drew := (Below.refl _ _).drew

theorem texts_long (r c : Int) (fr fc : Bool) (s : ByteArray) (w : World) (ht : Tab w) (h : 100 < s.size) :
    Calls Tryd.prog 4 #[markV r c fr fc, .string s] w fun e w' => e = .returned (.bool true) ∧ Below w.heap.size w w' := by
  have hb0 := below_new w (.cells #[.int .i64 r, .int .i64 c, .bool fr, .bool fc] 28)
  have ht0 := ht.below hb0
  have H0 := Lib.hid hb0
  clear hb0
  unfold markV
  go_enter Tryd.func4, Tryd.ntmps4
  go_wp2_with fail
  refine (awake_any _ ht0).mono ?_
  rintro e w1 ⟨rfl, hb1⟩
  go_wp2_with fail
  go_ret
  exact ⟨rfl, H0.out.trans (hb1.mono H0.out.size)⟩

set_option maxHeartbeats 6400000 in
set_option maxRecDepth 100000 in
theorem texts_some (r c : Int) (fr fc : Bool) (s : ByteArray) (w : World) (ht : Tab w) (h : s.size ≤ 100) (xr xc : Int) (xfr xfc : Bool) (hp : parseL s.data.toList = some (xr, xc, xfr, xfc)) :
    Calls Tryd.prog 4 #[markV r c fr fc, .string s] w fun e w' => e = .returned (.bool true) ∧ Below w.heap.size w w' := by
  have hb0 := below_new w (.cells #[.int .i64 r, .int .i64 c, .bool fr, .bool fc] 28)
  have ht0 := ht.below hb0
  have hk0 := MarkAt.new w r c fr fc 28
  have H0 := Lib.hid hb0
  have HK0 := Lib.hid hk0
  have HP := Lib.hid hp
  have HR := Lib.hid ((parse_eq s.data.toList).symm.trans hp)
  obtain ⟨t, hT⟩ : ∃ t, textL r c fr fc = t := ⟨_, rfl⟩
  have HT := Lib.hid hT
  clear hb0 hk0 hp hT
  unfold markV
  go_enter Tryd.func4, Tryd.ntmps4
  go_wp2_with fail
  refine (awake_any _ ht0).mono ?_
  rintro e w1 ⟨rfl, hb1⟩
  obtain ⟨c0, c1, c2, c3, hz⟩ := HK0.out.later hb1
  have ht1 := ht0.below hb1
  have hb2 := H0.out.trans (hb1.mono H0.out.size)
  clear hb1 ht0
  go_wp2_with fail
  refine (text_any r c fr fc _ ht1).mono ?_
  rw [HT.out]
  rintro e w2 ⟨rfl, hb3⟩
  have hk2 := MarkAt.later ⟨c0, c1, c2, c3, hz⟩ hb3
  have ht2 := ht1.below hb3
  have hb4 := hb2.trans (hb3.mono hb2.size)
  have HK2 := Lib.hid hk2
  clear hb3 hb2 ht1 c0 c1 c2 c3 hz hk2
  go_wp2_with fail
  refine (parse_any _ _).mono ?_
  rw [HP.out]
  unfold parseR
  rintro e w3 ⟨rfl, hb5⟩
  have hk3 := HK2.out.later hb5
  have ht3 := ht2.below hb5
  have hb6 := hb4.trans (hb5.mono hb4.size)
  have HK3 := Lib.hid hk3
  clear hb5 hb4 ht2 hk3
  go_wp2_with fail
  refine (rparse_any _ _ (by omega)).mono ?_
  rw [HR.out]
  unfold parseR
  rintro e w4 ⟨rfl, hb7⟩
  have hk4 := (HK3.out.later (below_new w3 (.cells #[.int .i64 xr, .int .i64 xc, .bool xfr, .bool xfc] 28))).later hb7
  have hx4 := (MarkAt.new w3 xr xc xfr xfc 28).later hb7
  have ht4 := (ht3.below (below_new w3 (.cells #[.int .i64 xr, .int .i64 xc, .bool xfr, .bool xfc] 28))).below hb7
  have hb8 := hb6.trans ((below4 hb7).mono hb6.size)
  have hA : Kept3 w w.heap.size w3.heap.size w4.heap.size r c fr fc xr xc xfr xfc (w4.alloc (.cells #[.int .i64 xr, .int .i64 xc, .bool xfr, .bool xfc] 32)) :=
    ⟨hk4.later (below_new _ _), hx4.later (below_new _ _), MarkAt.new _ _ _ _ _ _, ht4.below (below_new _ _), hb8.trans ((below_new _ _).mono hb8.size)⟩
  have HA := Lib.hid hA
  clear hk4 hx4 ht4 hb8 hA hb7 ht3 hb6
  go_wp2_with fail
  go_region_held3 (fun w' => (w'.cell? ⟨w.heap.size, 0, none⟩ = some (.int .i64 r) ∧ w'.cell? ⟨w.heap.size, 1, none⟩ = some (.int .i64 c) ∧ w'.cell? ⟨w.heap.size, 2, none⟩ = some (.bool fr) ∧ w'.cell? ⟨w.heap.size, 3, none⟩ = some (.bool fc) ∧ w.heap.size < w'.heap.size) ∧
      (w'.cell? ⟨w3.heap.size, 0, none⟩ = some (.int .i64 xr) ∧ w'.cell? ⟨w3.heap.size, 1, none⟩ = some (.int .i64 xc) ∧ w'.cell? ⟨w3.heap.size, 2, none⟩ = some (.bool xfr) ∧ w'.cell? ⟨w3.heap.size, 3, none⟩ = some (.bool xfc) ∧ w3.heap.size < w'.heap.size) ∧
      (w'.cell? ⟨w4.heap.size, 0, none⟩ = some (.int .i64 xr) ∧ w'.cell? ⟨w4.heap.size, 1, none⟩ = some (.int .i64 xc) ∧ w'.cell? ⟨w4.heap.size, 2, none⟩ = some (.bool xfr) ∧ w'.cell? ⟨w4.heap.size, 3, none⟩ = some (.bool xfc) ∧ w4.heap.size < w'.heap.size) ∧ Tab w' ∧ Below w.heap.size w w')
    (first | exact Kept3.later HA.out (below_dr _) | assumption | exact Kept3.later (hb := hbA) (h := by assumption) | exact Kept3.later (hb := hbB) (h := by assumption) | exact Kept3.later (hb := hbC) (h := by assumption))
    (first
      | (go_at_call_of 18 (Value.int IntKind.i64 r); refine (of_plain _ _ _ _ _).mono ?_; rintro e wA ⟨rfl, hbA⟩)
      | (go_at_call_of 17 (Value.int IntKind.i64 r); refine (rtext_plain _ _ _ _ _ HT.out _).mono ?_; rintro e wB ⟨rfl, hbB⟩)
      | (go_at_call_of 18 (Value.int IntKind.i64 xr); refine (of_plain _ _ _ _ _).mono ?_; rintro e wC ⟨rfl, hbC⟩))
  have hK : Kept3 w w.heap.size w3.heap.size w4.heap.size r c fr fc xr xc xfr xfc wC := by assumption
  clear hbA hbB hbC
  have hlen := (parse_len _ _ _ _ _ HP.out).2
  obtain ⟨z, hZ⟩ : ∃ z, textL xr xc xfr xfc = z := ⟨_, rfl⟩
  rw [hZ, size_list] at hlen
  have hzl : (((z.length : Int)) == (s.size : Int)) = true := by rw [beq_iff_eq]; omega
  have HZ := Lib.hid hZ
  clear hZ hlen
  obtain ⟨k0, kx, ky, kt, kb⟩ := hK
  by_cases hr : rightB r c = true
  · have hpt := parse_text r c fr fc hr
    rw [HT.out] at hpt
    have hte : t.isEmpty = false := by
      cases t with
      | nil =>
        have h1 := HT.out
        unfold textL at h1
        rw [if_pos hr] at h1
        have h2 := congrArg List.length h1
        obtain ⟨d, v, hv, _⟩ := itoa_head (r + 1) (by have : 0 ≤ r ∧ r ≤ 9999998 ∧ 0 ≤ c ∧ c ≤ 18277 := by simpa [rightB] using hr
                                                      omega)
        rw [hv] at h2; simp at h2
      | cons x y => rfl
    have HPT := Lib.hid hpt
    clear hpt
    have K0 := Lib.hid k0
    have KX := Lib.hid kx
    have KB := Lib.hid kb
    clear k0 kx ky kb
    go_wp2_with fail
    refine (parse_any _ _).mono ?_
    rw [show (⟨t.toArray⟩ : ByteArray).data.toList = t from rfl, HPT.out]
    unfold parseR
    rintro e w5 ⟨rfl, hb9⟩
    obtain ⟨c0, c1, c2, c3, hz⟩ := K0.out.later hb9
    obtain ⟨d0, d1, d2, d3, hy⟩ := KX.out.later hb9
    have ht5 := (kt.below hb9).below (below_new _ (.cells #[.int .i64 r, .int .i64 c, .bool fr, .bool fc] 28))
    have hb10 := KB.out.trans (hb9.mono KB.out.size)
    clear hb9 kt
    have HB := Lib.hid hb10
    clear hb10
    go_wp2_with fail
    refine (text_any xr xc xfr xfc _ ht5).mono ?_
    rw [HZ.out]
    rintro e w6 ⟨rfl, hb11⟩
    go_wp2_with fail
    go_ret
    exact ⟨rfl, HB.out.trans ((below4 hb11).mono HB.out.size)⟩
  · have hte : t = [] := by
      have h1 := HT.out
      unfold textL at h1
      rw [if_neg hr] at h1
      exact h1.symm
    clear hr
    subst hte
    obtain ⟨d0, d1, d2, d3, hy⟩ := kx
    have KB := Lib.hid kb
    clear k0 ky kb
    go_wp2_with fail
    refine (text_any xr xc xfr xfc _ kt).mono ?_
    rw [HZ.out]
    rintro e w6 ⟨rfl, hb11⟩
    go_wp2_with fail
    go_ret
    exact ⟨rfl, KB.out.trans (hb11.mono KB.out.size)⟩
set_option maxHeartbeats 6400000 in
set_option maxRecDepth 100000 in
theorem texts_none (r c : Int) (fr fc : Bool) (s : ByteArray) (w : World) (ht : Tab w) (h : s.size ≤ 100) (hp : parseL s.data.toList = none) :
    Calls Tryd.prog 4 #[markV r c fr fc, .string s] w fun e w' => e = .returned (.bool true) ∧ Below w.heap.size w w' := by
  have hb0 := below_new w (.cells #[.int .i64 r, .int .i64 c, .bool fr, .bool fc] 28)
  have ht0 := ht.below hb0
  have hk0 := MarkAt.new w r c fr fc 28
  have H0 := Lib.hid hb0
  have HK0 := Lib.hid hk0
  have HP := Lib.hid hp
  have HR := Lib.hid ((parse_eq s.data.toList).symm.trans hp)
  obtain ⟨t, hT⟩ : ∃ t, textL r c fr fc = t := ⟨_, rfl⟩
  have HT := Lib.hid hT
  clear hb0 hk0 hp hT
  unfold markV
  go_enter Tryd.func4, Tryd.ntmps4
  go_wp2_with fail
  refine (awake_any _ ht0).mono ?_
  rintro e w1 ⟨rfl, hb1⟩
  obtain ⟨c0, c1, c2, c3, hz⟩ := HK0.out.later hb1
  have ht1 := ht0.below hb1
  have hb2 := H0.out.trans (hb1.mono H0.out.size)
  clear hb1 ht0
  go_wp2_with fail
  refine (text_any r c fr fc _ ht1).mono ?_
  rw [HT.out]
  rintro e w2 ⟨rfl, hb3⟩
  have hk2 := MarkAt.later ⟨c0, c1, c2, c3, hz⟩ hb3
  have ht2 := ht1.below hb3
  have hb4 := hb2.trans (hb3.mono hb2.size)
  have HK2 := Lib.hid hk2
  clear hb3 hb2 ht1 c0 c1 c2 c3 hz hk2
  go_wp2_with fail
  refine (parse_any _ _).mono ?_
  rw [HP.out]
  unfold parseR
  rintro e w3 ⟨rfl, hb5⟩
  have hk3 := HK2.out.later hb5
  have ht3 := ht2.below hb5
  have hb6 := hb4.trans (hb5.mono hb4.size)
  have HK3 := Lib.hid hk3
  clear hb5 hb4 ht2 hk3
  go_wp2_with fail
  refine (rparse_any _ _ (by omega)).mono ?_
  rw [HR.out]
  unfold parseR
  rintro e w4 ⟨rfl, hb7⟩
  have hk4 := (HK3.out.later (below_new w3 (.cells #[.int .i64 0, .int .i64 0, .bool false, .bool false] 28))).later hb7
  have hx4 := (MarkAt.new w3 0 0 false false 28).later hb7
  have ht4 := (ht3.below (below_new w3 (.cells #[.int .i64 0, .int .i64 0, .bool false, .bool false] 28))).below hb7
  have hb8 := hb6.trans ((below4 hb7).mono hb6.size)
  have hA : Kept3 w w.heap.size w3.heap.size w4.heap.size r c fr fc 0 0 false false (w4.alloc (.cells #[.int .i64 0, .int .i64 0, .bool false, .bool false] 32)) :=
    ⟨hk4.later (below_new _ _), hx4.later (below_new _ _), MarkAt.new _ _ _ _ _ _, ht4.below (below_new _ _), hb8.trans ((below_new _ _).mono hb8.size)⟩
  have HA := Lib.hid hA
  clear hk4 hx4 ht4 hb8 hA hb7 ht3 hb6
  go_wp2_with fail
  go_region_held3 (fun w' => (w'.cell? ⟨w.heap.size, 0, none⟩ = some (.int .i64 r) ∧ w'.cell? ⟨w.heap.size, 1, none⟩ = some (.int .i64 c) ∧ w'.cell? ⟨w.heap.size, 2, none⟩ = some (.bool fr) ∧ w'.cell? ⟨w.heap.size, 3, none⟩ = some (.bool fc) ∧ w.heap.size < w'.heap.size) ∧
      (w'.cell? ⟨w3.heap.size, 0, none⟩ = some (.int .i64 0) ∧ w'.cell? ⟨w3.heap.size, 1, none⟩ = some (.int .i64 0) ∧ w'.cell? ⟨w3.heap.size, 2, none⟩ = some (.bool false) ∧ w'.cell? ⟨w3.heap.size, 3, none⟩ = some (.bool false) ∧ w3.heap.size < w'.heap.size) ∧
      (w'.cell? ⟨w4.heap.size, 0, none⟩ = some (.int .i64 0) ∧ w'.cell? ⟨w4.heap.size, 1, none⟩ = some (.int .i64 0) ∧ w'.cell? ⟨w4.heap.size, 2, none⟩ = some (.bool false) ∧ w'.cell? ⟨w4.heap.size, 3, none⟩ = some (.bool false) ∧ w4.heap.size < w'.heap.size) ∧ Tab w' ∧ Below w.heap.size w w')
    (first | exact Kept3.later HA.out (below_dr _) | assumption | exact Kept3.later (hb := hbA) (h := by assumption) | exact Kept3.later (hb := hbB) (h := by assumption) | exact Kept3.later (hb := hbC) (h := by assumption))
    (first
      | (go_at_call_of 18 (Value.int IntKind.i64 r); refine (of_plain _ _ _ _ _).mono ?_; rintro e wA ⟨rfl, hbA⟩)
      | (go_at_call_of 17 (Value.int IntKind.i64 r); refine (rtext_plain _ _ _ _ _ HT.out _).mono ?_; rintro e wB ⟨rfl, hbB⟩)
      | (go_at_call_of 18 (Value.int IntKind.i64 0); refine (of_plain _ _ _ _ _).mono ?_; rintro e wC ⟨rfl, hbC⟩))
  have hK : Kept3 w w.heap.size w3.heap.size w4.heap.size r c fr fc 0 0 false false wC := by assumption
  clear hbA hbB hbC
  obtain ⟨k0, kx, ky, kt, kb⟩ := hK
  by_cases hr : rightB r c = true
  · have hpt := parse_text r c fr fc hr
    rw [HT.out] at hpt
    have hte : t.isEmpty = false := by
      cases t with
      | nil =>
        have h1 := HT.out
        unfold textL at h1
        rw [if_pos hr] at h1
        have h2 := congrArg List.length h1
        obtain ⟨d, v, hv, _⟩ := itoa_head (r + 1) (by have : 0 ≤ r ∧ r ≤ 9999998 ∧ 0 ≤ c ∧ c ≤ 18277 := by simpa [rightB] using hr
                                                      omega)
        rw [hv] at h2; simp at h2
      | cons x y => rfl
    have HPT := Lib.hid hpt
    clear hpt
    have K0 := Lib.hid k0
    have KX := Lib.hid kx
    have KB := Lib.hid kb
    clear k0 kx ky kb
    go_wp2_with fail
    refine (parse_any _ _).mono ?_
    rw [show (⟨t.toArray⟩ : ByteArray).data.toList = t from rfl, HPT.out]
    unfold parseR
    rintro e w5 ⟨rfl, hb9⟩
    obtain ⟨c0, c1, c2, c3, hz⟩ := K0.out.later hb9
    obtain ⟨d0, d1, d2, d3, hy⟩ := KX.out.later hb9
    have ht5 := (kt.below hb9).below (below_new _ (.cells #[.int .i64 r, .int .i64 c, .bool fr, .bool fc] 28))
    have hb10 := KB.out.trans (hb9.mono KB.out.size)
    clear hb9 kt
    have HB := Lib.hid hb10
    clear hb10
    go_wp2_with fail
    go_ret
    exact ⟨rfl, HB.out.trans ((below_new _ _).mono HB.out.size)⟩
  · have hte : t = [] := by
      have h1 := HT.out
      unfold textL at h1
      rw [if_neg hr] at h1
      exact h1.symm
    clear hr
    subst hte
    obtain ⟨d0, d1, d2, d3, hy⟩ := kx
    have KB := Lib.hid kb
    clear k0 ky kb
    go_wp2_with fail
    go_ret
    exact ⟨rfl, KB.out⟩

/-- AddrTexts, at every input -/
theorem texts_any (r c : Int) (fr fc : Bool) (s : ByteArray) (w : World) (ht : Tab w) :
    Calls Tryd.prog 4 #[markV r c fr fc, .string s] w fun e w' => e = .returned (.bool true) ∧ Below w.heap.size w w' := by
  by_cases h : 100 < s.size
  · exact texts_long r c fr fc s w ht h
  · cases hp : parseL s.data.toList with
    | none => exact texts_none r c fr fc s w ht (by omega) hp
    | some x =>
      obtain ⟨xr, xc, xfr, xfc⟩ := x
      exact texts_some r c fr fc s w ht (by omega) xr xc xfr xfc hp
end Go.Proofs.YtkggooemnahgpaaDoor
