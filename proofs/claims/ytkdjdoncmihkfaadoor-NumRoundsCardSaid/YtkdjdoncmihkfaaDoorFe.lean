/- The document's Round. -/
import Derived.Test.YtkdjdoncmihkfaaDoorFd
namespace Go.Proofs.YtkdjdoncmihkfaaDoor
open Go.RowKit


set_option maxHeartbeats 2000000 in
theorem rrnd_no (m e p : Int) (hr : rightB m e = false) (w : World) : Calls Tryd.prog 36 #[numV m e, .int .i64 p] w fun r w' => r = .returned (numV 0 0) ∧ Below w.heap.size w w' := by
  have R1 : Hid (∀ w1, Calls Tryd.prog 18 #[.agg #[.int .i64 m, .int .i64 e]] w1 fun r w' => r = .returned (.bool false) ∧ Below w1.heap.size w1 w') := by
    intro w1; have := rright_any m e w1; rw [hr] at this; exact this
  clear hr 
  unfold numV
  go_enter Tryd.func36, Tryd.ntmps36
  go_wp2_with fail
  refine (R1.out _).mono ?_
  rintro e w1 ⟨rfl, hb1⟩
  have hT0 := Duo.new w m e 0 0
  have hB0 := below2 w (.cells #[.int .i64 m, .int .i64 e] 24) (.cells #[.int .i64 0, .int .i64 0] 24)
  obtain ⟨hT1, hZ1⟩ := hT0.below hb1 (by simp)
  have hW1 := hB0.trans (hb1.mono hB0.size)
  clear hT0 hB0 hb1
  obtain ⟨⟨p0, p1, p2, p3⟩, p4, p5, p6, p7⟩ := hT1
  go_wp2
  refine bodyPost_ret (v := numV 0 0) (by simp [numV, results, Tryd.results36, go_sem, p4, p5]) rfl ⟨rfl, ?_⟩
  first | exact hW1 | exact slot_set2 hW1 (by omega) _ _

set_option maxHeartbeats 2000000 in
theorem rrnd_low (m e p : Int) (hr : rightB m e = true) (hp : p < -100) (w : World) : Calls Tryd.prog 36 #[numV m e, .int .i64 p] w fun r w' => r = .returned (numV 0 0) ∧ Below w.heap.size w w' := by
  have R1 : Hid (∀ w1, Calls Tryd.prog 18 #[.agg #[.int .i64 m, .int .i64 e]] w1 fun r w' => r = .returned (.bool true) ∧ Below w1.heap.size w1 w') := by
    intro w1; have := rright_any m e w1; rw [hr] at this; exact this
  clear hr 
  unfold numV
  go_enter Tryd.func36, Tryd.ntmps36
  go_wp2_with fail
  refine (R1.out _).mono ?_
  rintro e w1 ⟨rfl, hb1⟩
  have hT0 := Duo.new w m e 0 0
  have hB0 := below2 w (.cells #[.int .i64 m, .int .i64 e] 24) (.cells #[.int .i64 0, .int .i64 0] 24)
  obtain ⟨hT1, hZ1⟩ := hT0.below hb1 (by simp)
  have hW1 := hB0.trans (hb1.mono hB0.size)
  clear hT0 hB0 hb1
  obtain ⟨⟨p0, p1, p2, p3⟩, p4, p5, p6, p7⟩ := hT1
  go_wp2
  refine bodyPost_ret (v := numV 0 0) (by simp [numV, results, Tryd.results36, go_sem, p4, p5]) rfl ⟨rfl, ?_⟩
  first | exact hW1 | exact slot_set2 hW1 (by omega) _ _

set_option maxHeartbeats 2000000 in
theorem rrnd_high (m e p : Int) (hr : rightB m e = true) (_hp : ¬ p < -100) (hp2 : 40 < p) (w : World) : Calls Tryd.prog 36 #[numV m e, .int .i64 p] w fun r w' => r = .returned (numV m e) ∧ Below w.heap.size w w' := by
  have R1 : Hid (∀ w1, Calls Tryd.prog 18 #[.agg #[.int .i64 m, .int .i64 e]] w1 fun r w' => r = .returned (.bool true) ∧ Below w1.heap.size w1 w') := by
    intro w1; have := rright_any m e w1; rw [hr] at this; exact this
  clear hr 
  unfold numV
  go_enter Tryd.func36, Tryd.ntmps36
  go_wp2_with fail
  refine (R1.out _).mono ?_
  rintro e w1 ⟨rfl, hb1⟩
  have hT0 := Duo.new w m e 0 0
  have hB0 := below2 w (.cells #[.int .i64 m, .int .i64 e] 24) (.cells #[.int .i64 0, .int .i64 0] 24)
  obtain ⟨hT1, hZ1⟩ := hT0.below hb1 (by simp)
  have hW1 := hB0.trans (hb1.mono hB0.size)
  clear hT0 hB0 hb1
  obtain ⟨⟨p0, p1, p2, p3⟩, p4, p5, p6, p7⟩ := hT1
  go_wp2
  refine bodyPost_ret (v := numV m e) (by simp [numV, results, Tryd.results36, go_sem, p4, p5]) rfl ⟨rfl, ?_⟩
  first | exact hW1 | exact slot_set2 hW1 (by omega) _ _

set_option maxHeartbeats 2000000 in
theorem rrnd_same (m e p : Int) (hr : rightB m e = true) (hp : ¬ p < -100) (hp2 : ¬ 40 < p) (hp3 : -p ≤ e) (w : World) : Calls Tryd.prog 36 #[numV m e, .int .i64 p] w fun r w' => r = .returned (numV m e) ∧ Below w.heap.size w w' := by
  have R1 : Hid (∀ w1, Calls Tryd.prog 18 #[.agg #[.int .i64 m, .int .i64 e]] w1 fun r w' => r = .returned (.bool true) ∧ Below w1.heap.size w1 w') := by
    intro w1; have := rright_any m e w1; rw [hr] at this; exact this
  have hwn : IntKind.i64.wrap (-p) = -p := by rw [IntKind.wrap_i64]; omega
  clear hr 
  unfold numV
  go_enter Tryd.func36, Tryd.ntmps36
  go_wp2_with fail
  refine (R1.out _).mono ?_
  rintro e w1 ⟨rfl, hb1⟩
  have hT0 := Duo.new w m e 0 0
  have hB0 := below2 w (.cells #[.int .i64 m, .int .i64 e] 24) (.cells #[.int .i64 0, .int .i64 0] 24)
  obtain ⟨hT1, hZ1⟩ := hT0.below hb1 (by simp)
  have hW1 := hB0.trans (hb1.mono hB0.size)
  clear hT0 hB0 hb1
  obtain ⟨⟨p0, p1, p2, p3⟩, p4, p5, p6, p7⟩ := hT1
  go_wp2
  refine bodyPost_ret (v := numV m e) (by simp [numV, results, Tryd.results36, go_sem, p4, p5]) rfl ⟨rfl, ?_⟩
  first | exact hW1 | exact slot_set2 hW1 (by omega) _ _

/-- what the walk holds: the number's cells, the result's, and its exact value's -/
structure Kv (w' : World) (H : Nat) (m e : Int) (B : Nat) (ng : Bool) (v : Value) : Prop where
  duo : Duo w' H m e 0 0
  v0 : w'.cell? ⟨B, 0, none⟩ = some (.bool ng)
  v1 : w'.cell? ⟨B, 1, none⟩ = some v
  v2 : w'.cell? ⟨B, 2, none⟩ = some (.int .i64 e)
  hB : H + 2 ≤ B
  lt : B < w'.heap.size
theorem Kv.below {w1 w2 : World} {H : Nat} {m e : Int} {B : Nat} {ng : Bool} {v : Value} {C : Nat} (h : Kv w1 H m e B ng v) (hb : Below C w1 w2) (hC : B < C) : Kv w2 H m e B ng v := by
  have hB := h.hB
  refine ⟨⟨h.duo.s0.below hb (by omega), h.duo.s1.below hb (by omega)⟩, (hb.cell (p := ⟨B, 0, none⟩) hC).trans h.v0, (hb.cell (p := ⟨B, 1, none⟩) hC).trans h.v1, (hb.cell (p := ⟨B, 2, none⟩) hC).trans h.v2, hB, Nat.lt_of_lt_of_le h.lt hb.size⟩
theorem Kv.new {w1 : World} {H : Nat} {m e : Int} (h : Duo w1 H m e 0 0) (hz : H + 2 ≤ w1.heap.size) (ng : Bool) (v : Value) : Kv (w1.alloc (.cells #[.bool ng, v, .int .i64 e] 45)) H m e w1.heap.size ng v := by
  have hb := alloc_below w1 (.cells #[.bool ng, v, .int .i64 e] 45)
  refine ⟨(h.below hb hz).1, ?_, ?_, ?_, hz, by simp⟩
  all_goals simp

set_option maxRecDepth 1000000 in
set_option maxHeartbeats 4000000 in
theorem rrnd_none (m e p : Int) (hr : rightB m e = true) (D : List UInt8) (hD : D = digs m) (hp : ¬ p < -100) (hp2 : ¬ 40 < p) (hp3 : ¬ -p ≤ e) (hl : (D.length : Int) < -p - e) (w : World) : Calls Tryd.prog 36 #[numV m e, .int .i64 p] w fun r w' => r = .returned (numV 0 0) ∧ Below w.heap.size w w' := by
  have R1 : Hid (∀ w1, Calls Tryd.prog 18 #[.agg #[.int .i64 m, .int .i64 e]] w1 fun r w' => r = .returned (.bool true) ∧ Below w1.heap.size w1 w') := by
    intro w1; have := rright_any m e w1; rw [hr] at this; exact this
  obtain ⟨ba, bb1, bb2⟩ := right_bounds hr
  obtain ⟨ng, hng⟩ : ∃ s, s = decide (m < 0) := ⟨_, rfl⟩
  have OF1 : Hid (∀ w1, Calls Tryd.prog 45 #[.agg #[.int .i64 m, .int .i64 e]] w1 fun r w' => ∃ v, r = .returned (.agg #[.bool ng, v, .int .i64 e]) ∧ Vd w' v D ∧ Below w1.heap.size w1 w') := by
    intro w1; rw [hng, hD]; exact of_any m e (by omega) (by omega) w1
  have hwn : IntKind.i64.wrap (-p) = -p := by rw [IntKind.wrap_i64]; omega
  have hwn2 : IntKind.i64.wrap (-p - e) = -p - e := by rw [IntKind.wrap_i64]; omega
  clear hr hD hng ba
  unfold numV
  go_enter Tryd.func36, Tryd.ntmps36
  go_wp2_with fail
  refine (R1.out _).mono ?_
  rintro x w1 ⟨rfl, hb1⟩
  have hT0 := Duo.new w m e 0 0
  have hB0 := below2 w (.cells #[.int .i64 m, .int .i64 e] 24) (.cells #[.int .i64 0, .int .i64 0] 24)
  obtain ⟨hT1, hZ1⟩ := hT0.below hb1 (by simp)
  have hW1 := hB0.trans (hb1.mono hB0.size)
  clear hT0 hB0 hb1
  obtain ⟨⟨p0, p1, p2, p3⟩, p4, p5, p6, p7⟩ := id hT1
  go_wp2_with fail
  refine (OF1.out _).mono ?_
  rintro x w2 ⟨v2, rfl, hV2, hb2⟩
  obtain ⟨hT2, hZ2⟩ := hT1.below hb2 hZ1
  have hW2 := hW1.trans (hb2.mono hW1.size)
  have al := alloc_below w2 (.cells #[.bool ng, v2, .int .i64 e] 45)
  have KV := Kv.new hT2 hZ2 ng v2
  have hW3 := hW2.trans (al.mono hW2.size)
  have hV3 := hV2.below al
  have hBw : w.heap.size + 2 ≤ w2.heap.size := hZ2
  clear hT1 hZ1 hW1 hb2 hT2 hZ2 hW2 hV2 p0 p1 p2 p3 p4 p5 p6 p7 al OF1 R1
  rcases hV3 with ⟨rfl, hn⟩ | ⟨b, off, c, rfl, q1, q2, q3, q4⟩
  · have hl2 : (0 : Int) < -p - e := by omega
    obtain ⟨⟨⟨p0, p1, p2, p3⟩, p4, p5, p6, p7⟩, v0, v1, v2, _, _⟩ := id KV
    clear hn hl
    go_wp2
    refine bodyPost_ret (v := .agg #[.int .i64 0, .int .i64 0]) (by simp [results, Tryd.results36, go_sem, p4, p5]) rfl ⟨rfl, ?_⟩
    first | exact hW3 | exact slot_set2 hW3 (by omega) _ _
  · obtain ⟨n, hn⟩ : ∃ n, n = D.length := ⟨_, rfl⟩
    rw [← hn] at hl q1 KV hW3 ⊢
    obtain ⟨⟨⟨p0, p1, p2, p3⟩, p4, p5, p6, p7⟩, v0, v1, v2, _, _⟩ := id KV
    clear hn q3 q4
    go_wp2
    refine bodyPost_ret (v := .agg #[.int .i64 0, .int .i64 0]) (by simp [results, Tryd.results36, go_sem, p4, p5]) rfl ⟨rfl, ?_⟩
    first | exact hW3 | exact slot_set2 hW3 (by omega) _ _

set_option maxRecDepth 1000000 in
set_option maxHeartbeats 8000000 in
theorem rrnd_keep_ok (m e p : Int) (hr : rightB m e = true) (D : List UInt8) (hD : D = digs m) (hp : ¬ p < -100) (hp2 : ¬ 40 < p) (hp3 : ¬ -p ≤ e) (d kk n : Nat) (hd : -p - e = (d : Int)) (hd0 : 0 < d) (hl : D.length = n) (hn : n = kk + d) (K R : List UInt8) (hK : K = D.take kk) (hR : R = D.drop kk) (r0 : UInt8) (hr0 : R[0]? = some r0) (h5 : r0.toNat < 5) (M E : Int) (hM : roundN (decide (m < 0)) (upN m.natAbs d) (-p) = (M, E, true)) (w : World) :
    Calls Tryd.prog 36 #[numV m e, .int .i64 p] w fun r w' => r = .returned (numV M E) ∧ Below w.heap.size w w' := by
  obtain ⟨i0, hi, hz0, hz1, hz2⟩ := info_parts info3
  have R1 : Hid (∀ w1, Calls Tryd.prog 18 #[.agg #[.int .i64 m, .int .i64 e]] w1 fun r w' => r = .returned (.bool true) ∧ Below w1.heap.size w1 w') := by
    intro w1; have := rright_any m e w1; rw [hr] at this; exact this
  obtain ⟨ba, bb1, bb2⟩ := right_bounds hr
  obtain ⟨ng, hng⟩ : ∃ s, s = decide (m < 0) := ⟨_, rfl⟩
  have OF1 : Hid (∀ w1, Calls Tryd.prog 45 #[.agg #[.int .i64 m, .int .i64 e]] w1 fun r w' => ∃ v, r = .returned (.agg #[.bool ng, v, .int .i64 e]) ∧ Vd w' v D ∧ Below w1.heap.size w1 w') := by
    intro w1; rw [hng, hD]; exact of_any m e (by omega) (by omega) w1
  obtain ⟨a1, a2, a3⟩ := digs_val m
  rw [← hD] at a1 a2 a3
  have hn15 : n ≤ 21 := by rw [← hl, hD]; exact digs_length m (by omega) (by omega)
  have hKl : K.length = kk := by rw [hK, List.length_take]; omega
  have hRl : R.length = d := by rw [hR, List.length_drop]; omega
  have hlsp : D = K ++ R := by rw [hK, hR, List.take_append_drop]
  have hDK : Dig K := by rw [hK]; exact a2.take _
  obtain ⟨L5, hL5⟩ : ∃ L5, L5 = 0 :: K := ⟨_, rfl⟩
  have hL5d : Dig L5 := by rw [hL5]; exact zero_dig hDK
  have hL5l : L5.length = kk + 1 := by rw [hL5]; rw [List.length_cons, hKl]
  have hr0' : D[kk]? = some r0 := by rw [hR, List.getElem?_drop] at hr0; exact hr0
  have hL5v : valN L5 = upN m.natAbs d := by
    obtain ⟨u1, u2⟩ := upL_val a2 (d := d) hd0 (by omega)
    rw [← a1, ← u1, hL5]
    unfold upL
    rw [show D.length - d = kk by omega, hr0', ← hK]
    rw [if_neg (show ¬ 5 ≤ (some r0 |>.getD 0).toNat from by simpa using h5), valN_cons]; simp
  have NR : Hid (∀ (wr : World) (B g cp : Nat), OwnD wr B (.slice (some ⟨g, 0, none⟩) (kk + 1) cp) L5 → Calls Tryd.prog 49 #[.agg #[.bool ng, .slice (some ⟨g, 0, none⟩) (kk + 1) cp, .int .i64 (-p)], .bool false] wr fun x w' => x = .returned (.tuple #[.agg #[.int .i64 M, .int .i64 E], .bool true]) ∧ Below wr.heap.size wr w') := fun wr B g cp h => by
    obtain ⟨g', c', hv, hb, hlc, hcm2, hrd⟩ := h.rd
    simp only [Value.slice.injEq, Option.some.injEq, Addr.mk.injEq, and_true] at hv
    obtain ⟨rfl, hv2, rfl⟩ := hv
    have := near_any ng (some ⟨g, 0, none⟩) L5 cp (-p) false wr hrd hlc hcm2 (by omega) hL5d (by omega) (by omega)
    rw [near_roundN _ _ _ (by omega) (by omega), hL5v, hng, hM, ← hng] at this
    rw [hv2]; exact this
  have hwn : IntKind.i64.wrap (-p) = -p := by rw [IntKind.wrap_i64]; omega
  have hwn2 : IntKind.i64.wrap (-p - e) = (d : Int) := by rw [IntKind.wrap_i64]; omega
  have hone : ∀ u ∈ ceD K, u.oneCell' = true := ceD_one K
  have hcl := ceD_length K
  have hdn : ¬ (n : Int) < (d : Int) := by omega
  have hsub : (n : Int) - (d : Int) = (kk : Int) := by omega
  have hsub2 : n - kk = d := by omega
  have hL9 := zero_dig hDK
  have HKL := Lib.hid hKl
  have HL5 := Lib.hid hL5
  have HLS := Lib.hid hlsp
  have HL9 := Lib.hid hL9
  have HR0 := Lib.hid hr0'
  have HDL := Lib.hid hl
  have hr256 := r0.toNat_lt
  have hn1 : kk + d ≤ n := by omega
  have hn2 : n ≤ kk + d := by omega
  clear hn
  clear hr hD hng ba a1 a2 a3 hM hL5v hL5d hL5l hDK hL9 hRl hr0 hr0' hL5 hlsp hK hR hl
  unfold numV
  go_enter Tryd.func36, Tryd.ntmps36
  go_wp2_with fail
  refine (R1.out _).mono ?_
  rintro x w1 ⟨rfl, hb1⟩
  have hT0 := Duo.new w m e 0 0
  have hB0 := below2 w (.cells #[.int .i64 m, .int .i64 e] 24) (.cells #[.int .i64 0, .int .i64 0] 24)
  obtain ⟨hT1, hZ1⟩ := hT0.below hb1 (by simp)
  have hW1 := hB0.trans (hb1.mono hB0.size)
  clear hT0 hB0 hb1
  obtain ⟨⟨p0, p1, p2, p3⟩, p4, p5, p6, p7⟩ := id hT1
  go_wp2_with fail
  refine (OF1.out _).mono ?_
  rintro x w2 ⟨v2, rfl, hV2, hb2⟩
  obtain ⟨hT2, hZ2⟩ := hT1.below hb2 hZ1
  have hW2 := hW1.trans (hb2.mono hW1.size)
  have al := alloc_below w2 (.cells #[.bool ng, v2, .int .i64 e] 45)
  have KV := Kv.new hT2 hZ2 ng v2
  have hW3 := hW2.trans (al.mono hW2.size)
  have hV3 := hV2.below al
  have hBw : w.heap.size + 2 ≤ w2.heap.size := hZ2
  clear hT1 hZ1 hW1 hb2 hT2 hZ2 hW2 hV2 p0 p1 p2 p3 p4 p5 p6 p7 al OF1 R1
  rcases hV3 with ⟨rfl, hnn⟩ | ⟨b, off, c, rfl, q1, q2, q3, q4⟩
  · have := HDL.out; rw [hnn] at this; simp at this; omega
  rw [HDL.out] at q1 q4 KV hW3 q3 ⊢
  have hWs : (w2.alloc (.cells #[.bool ng, .slice (some ⟨b, off, none⟩) n c, .int .i64 e] 45)).heap.size = w2.heap.size + 1 := by simp
  have hnews : ∀ j u, (ceD K)[j]? = some u → ((w2.alloc (.cells #[.bool ng, .slice (some ⟨b, off, none⟩) n c, .int .i64 e] 45)).alloc (.cells #[.int .i64 0] 3)).cell? ((⟨b, off, none⟩ : Addr).add j) = some u := by
    intro j u hj
    have hjl : j < K.length := by have := (List.getElem?_eq_some_iff.1 hj).1; rwa [ceD_length] at this
    have h1 := q4 j K[j] (by rw [HLS.out, List.getElem?_append_left hjl, List.getElem?_eq_getElem hjl])
    have h2 : u = .int .i64 ((K[j]).toNat : Int) := by simpa [ceD, hjl] using hj.symm
    rw [h2, ← h1]
    have ea : (⟨b, off, none⟩ : Addr).add j = ⟨b, off + j, none⟩ := by
      by_cases hj0 : j = 0
      · subst hj0; rfl
      · simp [Addr.add, hj0]
    rw [ea]
    exact (alloc_below _ _).cell (p := ⟨b, off + j, none⟩) q3
  have hown0 := World.ownsRow_lit (base := w2.heap.size + 1) (e := 3) (size := 1) (w2.alloc (.cells #[.bool ng, .slice (some ⟨b, off, none⟩) n c, .int .i64 e] 45)) #[.int .i64 0] 1 (by rw [hWs]; exact Nat.le_refl _) (by unfold maxLen; omega) (by simp)
  rw [hWs] at hown0
  have hbw0 : Below (w2.heap.size + 1) (w2.alloc (.cells #[.bool ng, .slice (some ⟨b, off, none⟩) n c, .int .i64 e] 45)) ((w2.alloc (.cells #[.bool ng, .slice (some ⟨b, off, none⟩) n c, .int .i64 e] 45)).alloc (.cells #[.int .i64 0] 3)) := by have := alloc_below (w2.alloc (.cells #[.bool ng, .slice (some ⟨b, off, none⟩) n c, .int .i64 e] 45)) (.cells #[.int .i64 0] 3); rwa [hWs] at this
  have hcc := q4 kk r0 HR0.out
  rw [hWs] at q3
  have Q4 := Lib.hid hcc
  clear hcc q4
  obtain ⟨⟨⟨p0, p1, p2, p3⟩, p4, p5, p6, p7⟩, v0, v1, v2, _, _⟩ := id KV
  go_wp2_with (first
    | (at_builtin; refine wpList_append_own _ rfl _ _ 43 rfl (w2.heap.size + 1) 3 i0 (.int .i64 0) 1 8 Tryd.underlying43 hi hz0 hz1 hz2 rfl (by decide) _ _ _ rfl hown0 ⟨b, off, none⟩ kk c (ceD K) rfl (by omega) hnews hone (by unfold maxLen; omega) (by omega) (by simp) ?_))
  intro v' w4 hown' hgrow hnil
  have hown1 : OwnD w4 (w2.heap.size + 1) v' (0 :: K) := by
    have e1 : (0 :: K).length = 1 + kk := by simp [HKL.out]; omega
    refine ⟨by rw [e1]; exact hown', ?_⟩
    rcases hown'.2 with ⟨rfl, h0⟩ | ⟨g, cap, cur, rfl, _⟩
    · omega
    · exact ⟨g, cap, by rw [e1]⟩
  have hbw1 : Below (w2.heap.size + 1) (w2.alloc (.cells #[.bool ng, .slice (some ⟨b, off, none⟩) n c, .int .i64 e] 45)) w4 := Below.grown hbw0 hgrow (by simp) (fun j hj => by simp [Value.ownBlock] at hj; omega)
  clear hown' hgrow hnil hown0 hnews hone hbw0 hcl p0 p1 p2 p3 p4 p5 p6 p7 v0 v1 v2
  obtain ⟨g, cp, rfl⟩ := hown1.2
  have hkl1 : (0 :: K).length = kk + 1 := by simp [HKL.out]
  rw [hkl1] at hown1 ⊢
  have HOW := Lib.hid hown1
  have KV4 := KV.below hbw1 (Nat.lt_succ_self _)
  have hW4 := hW3.trans (hbw1.mono (by omega))
  have hc0 := (hbw1.cell (p := ⟨b, off + kk, none⟩) q3).trans Q4.out
  clear hown1 hkl1 KV hW3 hbw1
  obtain ⟨⟨⟨p0, p1, p2, p3⟩, p4, p5, p6, p7⟩, v0, v1, v2, _, _⟩ := id KV4
  have h5' : ¬ (5 : Int) ≤ (r0.toNat : Int) := by omega
  have HO := HOW.out
  rw [← HL5.out] at HO
  have HN := Lib.hid (NR.out w4 _ g cp HO)
  clear HO HOW h5
  go_wp2_with fail
  refine HN.out.mono ?_
  rintro x w5 ⟨rfl, hb5⟩
  have KV5 := KV4.below hb5 KV4.lt
  have hb6 := alloc_below w5 (.cells #[.int .i64 M, .int .i64 E] 24)
  have KV6 := KV5.below hb6 KV5.lt
  have hz6 : w.heap.size + 2 ≤ w5.heap.size := by have := KV5.lt; omega
  have hWW := ((hW4).trans (hb5.mono hW4.size)).trans (hb6.mono (by omega))
  obtain ⟨n0, n1, n2, n3⟩ := Slot.new w5 M E
  clear hb5 hb6 KV5 KV4 p0 p1 p2 p3 p4 p5 p6 p7 v0 v1 v2
  obtain ⟨⟨⟨p0, p1, p2, p3⟩, p4, p5, p6, p7⟩, v0, v1, v2, _, _⟩ := id KV6
  go_wp2
  refine bodyPost_ret (v := .agg #[.int .i64 M, .int .i64 E]) (by simp [results, Tryd.results36, go_sem, p4, p5]) rfl ⟨rfl, ?_⟩
  exact slot_set2 hWW (by omega) _ _

set_option maxRecDepth 1000000 in
set_option maxHeartbeats 8000000 in
theorem rrnd_keep_not (m e p : Int) (hr : rightB m e = true) (D : List UInt8) (hD : D = digs m) (hp : ¬ p < -100) (hp2 : ¬ 40 < p) (hp3 : ¬ -p ≤ e) (d kk n : Nat) (hd : -p - e = (d : Int)) (hd0 : 0 < d) (hl : D.length = n) (hn : n = kk + d) (K R : List UInt8) (hK : K = D.take kk) (hR : R = D.drop kk) (r0 : UInt8) (hr0 : R[0]? = some r0) (h5 : r0.toNat < 5) (M E : Int) (hM : roundN (decide (m < 0)) (upN m.natAbs d) (-p) = (M, E, false)) (w : World) :
    Calls Tryd.prog 36 #[numV m e, .int .i64 p] w fun r w' => r = .returned (numV m e) ∧ Below w.heap.size w w' := by
  obtain ⟨i0, hi, hz0, hz1, hz2⟩ := info_parts info3
  have R1 : Hid (∀ w1, Calls Tryd.prog 18 #[.agg #[.int .i64 m, .int .i64 e]] w1 fun r w' => r = .returned (.bool true) ∧ Below w1.heap.size w1 w') := by
    intro w1; have := rright_any m e w1; rw [hr] at this; exact this
  obtain ⟨ba, bb1, bb2⟩ := right_bounds hr
  obtain ⟨ng, hng⟩ : ∃ s, s = decide (m < 0) := ⟨_, rfl⟩
  have OF1 : Hid (∀ w1, Calls Tryd.prog 45 #[.agg #[.int .i64 m, .int .i64 e]] w1 fun r w' => ∃ v, r = .returned (.agg #[.bool ng, v, .int .i64 e]) ∧ Vd w' v D ∧ Below w1.heap.size w1 w') := by
    intro w1; rw [hng, hD]; exact of_any m e (by omega) (by omega) w1
  obtain ⟨a1, a2, a3⟩ := digs_val m
  rw [← hD] at a1 a2 a3
  have hn15 : n ≤ 21 := by rw [← hl, hD]; exact digs_length m (by omega) (by omega)
  have hKl : K.length = kk := by rw [hK, List.length_take]; omega
  have hRl : R.length = d := by rw [hR, List.length_drop]; omega
  have hlsp : D = K ++ R := by rw [hK, hR, List.take_append_drop]
  have hDK : Dig K := by rw [hK]; exact a2.take _
  obtain ⟨L5, hL5⟩ : ∃ L5, L5 = 0 :: K := ⟨_, rfl⟩
  have hL5d : Dig L5 := by rw [hL5]; exact zero_dig hDK
  have hL5l : L5.length = kk + 1 := by rw [hL5]; rw [List.length_cons, hKl]
  have hr0' : D[kk]? = some r0 := by rw [hR, List.getElem?_drop] at hr0; exact hr0
  have hL5v : valN L5 = upN m.natAbs d := by
    obtain ⟨u1, u2⟩ := upL_val a2 (d := d) hd0 (by omega)
    rw [← a1, ← u1, hL5]
    unfold upL
    rw [show D.length - d = kk by omega, hr0', ← hK]
    rw [if_neg (show ¬ 5 ≤ (some r0 |>.getD 0).toNat from by simpa using h5), valN_cons]; simp
  have NR : Hid (∀ (wr : World) (B g cp : Nat), OwnD wr B (.slice (some ⟨g, 0, none⟩) (kk + 1) cp) L5 → Calls Tryd.prog 49 #[.agg #[.bool ng, .slice (some ⟨g, 0, none⟩) (kk + 1) cp, .int .i64 (-p)], .bool false] wr fun x w' => x = .returned (.tuple #[.agg #[.int .i64 M, .int .i64 E], .bool false]) ∧ Below wr.heap.size wr w') := fun wr B g cp h => by
    obtain ⟨g', c', hv, hb, hlc, hcm2, hrd⟩ := h.rd
    simp only [Value.slice.injEq, Option.some.injEq, Addr.mk.injEq, and_true] at hv
    obtain ⟨rfl, hv2, rfl⟩ := hv
    have := near_any ng (some ⟨g, 0, none⟩) L5 cp (-p) false wr hrd hlc hcm2 (by omega) hL5d (by omega) (by omega)
    rw [near_roundN _ _ _ (by omega) (by omega), hL5v, hng, hM, ← hng] at this
    rw [hv2]; exact this
  have hwn : IntKind.i64.wrap (-p) = -p := by rw [IntKind.wrap_i64]; omega
  have hwn2 : IntKind.i64.wrap (-p - e) = (d : Int) := by rw [IntKind.wrap_i64]; omega
  have hone : ∀ u ∈ ceD K, u.oneCell' = true := ceD_one K
  have hcl := ceD_length K
  have hdn : ¬ (n : Int) < (d : Int) := by omega
  have hsub : (n : Int) - (d : Int) = (kk : Int) := by omega
  have hsub2 : n - kk = d := by omega
  have hL9 := zero_dig hDK
  have HKL := Lib.hid hKl
  have HL5 := Lib.hid hL5
  have HLS := Lib.hid hlsp
  have HL9 := Lib.hid hL9
  have HR0 := Lib.hid hr0'
  have HDL := Lib.hid hl
  have hr256 := r0.toNat_lt
  have hn1 : kk + d ≤ n := by omega
  have hn2 : n ≤ kk + d := by omega
  clear hn
  clear hr hD hng ba a1 a2 a3 hM hL5v hL5d hL5l hDK hL9 hRl hr0 hr0' hL5 hlsp hK hR hl
  unfold numV
  go_enter Tryd.func36, Tryd.ntmps36
  go_wp2_with fail
  refine (R1.out _).mono ?_
  rintro x w1 ⟨rfl, hb1⟩
  have hT0 := Duo.new w m e 0 0
  have hB0 := below2 w (.cells #[.int .i64 m, .int .i64 e] 24) (.cells #[.int .i64 0, .int .i64 0] 24)
  obtain ⟨hT1, hZ1⟩ := hT0.below hb1 (by simp)
  have hW1 := hB0.trans (hb1.mono hB0.size)
  clear hT0 hB0 hb1
  obtain ⟨⟨p0, p1, p2, p3⟩, p4, p5, p6, p7⟩ := id hT1
  go_wp2_with fail
  refine (OF1.out _).mono ?_
  rintro x w2 ⟨v2, rfl, hV2, hb2⟩
  obtain ⟨hT2, hZ2⟩ := hT1.below hb2 hZ1
  have hW2 := hW1.trans (hb2.mono hW1.size)
  have al := alloc_below w2 (.cells #[.bool ng, v2, .int .i64 e] 45)
  have KV := Kv.new hT2 hZ2 ng v2
  have hW3 := hW2.trans (al.mono hW2.size)
  have hV3 := hV2.below al
  have hBw : w.heap.size + 2 ≤ w2.heap.size := hZ2
  clear hT1 hZ1 hW1 hb2 hT2 hZ2 hW2 hV2 p0 p1 p2 p3 p4 p5 p6 p7 al OF1 R1
  rcases hV3 with ⟨rfl, hnn⟩ | ⟨b, off, c, rfl, q1, q2, q3, q4⟩
  · have := HDL.out; rw [hnn] at this; simp at this; omega
  rw [HDL.out] at q1 q4 KV hW3 q3 ⊢
  have hWs : (w2.alloc (.cells #[.bool ng, .slice (some ⟨b, off, none⟩) n c, .int .i64 e] 45)).heap.size = w2.heap.size + 1 := by simp
  have hnews : ∀ j u, (ceD K)[j]? = some u → ((w2.alloc (.cells #[.bool ng, .slice (some ⟨b, off, none⟩) n c, .int .i64 e] 45)).alloc (.cells #[.int .i64 0] 3)).cell? ((⟨b, off, none⟩ : Addr).add j) = some u := by
    intro j u hj
    have hjl : j < K.length := by have := (List.getElem?_eq_some_iff.1 hj).1; rwa [ceD_length] at this
    have h1 := q4 j K[j] (by rw [HLS.out, List.getElem?_append_left hjl, List.getElem?_eq_getElem hjl])
    have h2 : u = .int .i64 ((K[j]).toNat : Int) := by simpa [ceD, hjl] using hj.symm
    rw [h2, ← h1]
    have ea : (⟨b, off, none⟩ : Addr).add j = ⟨b, off + j, none⟩ := by
      by_cases hj0 : j = 0
      · subst hj0; rfl
      · simp [Addr.add, hj0]
    rw [ea]
    exact (alloc_below _ _).cell (p := ⟨b, off + j, none⟩) q3
  have hown0 := World.ownsRow_lit (base := w2.heap.size + 1) (e := 3) (size := 1) (w2.alloc (.cells #[.bool ng, .slice (some ⟨b, off, none⟩) n c, .int .i64 e] 45)) #[.int .i64 0] 1 (by rw [hWs]; exact Nat.le_refl _) (by unfold maxLen; omega) (by simp)
  rw [hWs] at hown0
  have hbw0 : Below (w2.heap.size + 1) (w2.alloc (.cells #[.bool ng, .slice (some ⟨b, off, none⟩) n c, .int .i64 e] 45)) ((w2.alloc (.cells #[.bool ng, .slice (some ⟨b, off, none⟩) n c, .int .i64 e] 45)).alloc (.cells #[.int .i64 0] 3)) := by have := alloc_below (w2.alloc (.cells #[.bool ng, .slice (some ⟨b, off, none⟩) n c, .int .i64 e] 45)) (.cells #[.int .i64 0] 3); rwa [hWs] at this
  have hcc := q4 kk r0 HR0.out
  rw [hWs] at q3
  have Q4 := Lib.hid hcc
  clear hcc q4
  obtain ⟨⟨⟨p0, p1, p2, p3⟩, p4, p5, p6, p7⟩, v0, v1, v2, _, _⟩ := id KV
  go_wp2_with (first
    | (at_builtin; refine wpList_append_own _ rfl _ _ 43 rfl (w2.heap.size + 1) 3 i0 (.int .i64 0) 1 8 Tryd.underlying43 hi hz0 hz1 hz2 rfl (by decide) _ _ _ rfl hown0 ⟨b, off, none⟩ kk c (ceD K) rfl (by omega) hnews hone (by unfold maxLen; omega) (by omega) (by simp) ?_))
  intro v' w4 hown' hgrow hnil
  have hown1 : OwnD w4 (w2.heap.size + 1) v' (0 :: K) := by
    have e1 : (0 :: K).length = 1 + kk := by simp [HKL.out]; omega
    refine ⟨by rw [e1]; exact hown', ?_⟩
    rcases hown'.2 with ⟨rfl, h0⟩ | ⟨g, cap, cur, rfl, _⟩
    · omega
    · exact ⟨g, cap, by rw [e1]⟩
  have hbw1 : Below (w2.heap.size + 1) (w2.alloc (.cells #[.bool ng, .slice (some ⟨b, off, none⟩) n c, .int .i64 e] 45)) w4 := Below.grown hbw0 hgrow (by simp) (fun j hj => by simp [Value.ownBlock] at hj; omega)
  clear hown' hgrow hnil hown0 hnews hone hbw0 hcl p0 p1 p2 p3 p4 p5 p6 p7 v0 v1 v2
  obtain ⟨g, cp, rfl⟩ := hown1.2
  have hkl1 : (0 :: K).length = kk + 1 := by simp [HKL.out]
  rw [hkl1] at hown1 ⊢
  have HOW := Lib.hid hown1
  have KV4 := KV.below hbw1 (Nat.lt_succ_self _)
  have hW4 := hW3.trans (hbw1.mono (by omega))
  have hc0 := (hbw1.cell (p := ⟨b, off + kk, none⟩) q3).trans Q4.out
  clear hown1 hkl1 KV hW3 hbw1
  obtain ⟨⟨⟨p0, p1, p2, p3⟩, p4, p5, p6, p7⟩, v0, v1, v2, _, _⟩ := id KV4
  have h5' : ¬ (5 : Int) ≤ (r0.toNat : Int) := by omega
  have HO := HOW.out
  rw [← HL5.out] at HO
  have HN := Lib.hid (NR.out w4 _ g cp HO)
  clear HO HOW h5
  go_wp2_with fail
  refine HN.out.mono ?_
  rintro x w5 ⟨rfl, hb5⟩
  have KV5 := KV4.below hb5 KV4.lt
  have hb6 := alloc_below w5 (.cells #[.int .i64 M, .int .i64 E] 24)
  have KV6 := KV5.below hb6 KV5.lt
  have hz6 : w.heap.size + 2 ≤ w5.heap.size := by have := KV5.lt; omega
  have hWW := ((hW4).trans (hb5.mono hW4.size)).trans (hb6.mono (by omega))
  obtain ⟨n0, n1, n2, n3⟩ := Slot.new w5 M E
  clear hb5 hb6 KV5 KV4 p0 p1 p2 p3 p4 p5 p6 p7 v0 v1 v2
  obtain ⟨⟨⟨p0, p1, p2, p3⟩, p4, p5, p6, p7⟩, v0, v1, v2, _, _⟩ := id KV6
  go_wp2
  refine bodyPost_ret (v := .agg #[.int .i64 m, .int .i64 e]) (by simp [results, Tryd.results36, go_sem, p4, p5]) rfl ⟨rfl, ?_⟩
  exact slot_set2 hWW (by omega) _ _

set_option maxRecDepth 1000000 in
set_option maxHeartbeats 8000000 in
theorem rrnd_up_ok (m e p : Int) (hr : rightB m e = true) (D : List UInt8) (hD : D = digs m) (hp : ¬ p < -100) (hp2 : ¬ 40 < p) (hp3 : ¬ -p ≤ e) (d kk n : Nat) (hd : -p - e = (d : Int)) (hd0 : 0 < d) (hl : D.length = n) (hn : n = kk + d) (K R : List UInt8) (hK : K = D.take kk) (hR : R = D.drop kk) (r0 : UInt8) (hr0 : R[0]? = some r0) (h5 : 5 ≤ r0.toNat) (M E : Int) (hM : roundN (decide (m < 0)) (upN m.natAbs d) (-p) = (M, E, true)) (w : World) :
    Calls Tryd.prog 36 #[numV m e, .int .i64 p] w fun r w' => r = .returned (numV M E) ∧ Below w.heap.size w w' := by
  obtain ⟨i0, hi, hz0, hz1, hz2⟩ := info_parts info3
  have R1 : Hid (∀ w1, Calls Tryd.prog 18 #[.agg #[.int .i64 m, .int .i64 e]] w1 fun r w' => r = .returned (.bool true) ∧ Below w1.heap.size w1 w') := by
    intro w1; have := rright_any m e w1; rw [hr] at this; exact this
  obtain ⟨ba, bb1, bb2⟩ := right_bounds hr
  obtain ⟨ng, hng⟩ : ∃ s, s = decide (m < 0) := ⟨_, rfl⟩
  have OF1 : Hid (∀ w1, Calls Tryd.prog 45 #[.agg #[.int .i64 m, .int .i64 e]] w1 fun r w' => ∃ v, r = .returned (.agg #[.bool ng, v, .int .i64 e]) ∧ Vd w' v D ∧ Below w1.heap.size w1 w') := by
    intro w1; rw [hng, hD]; exact of_any m e (by omega) (by omega) w1
  obtain ⟨a1, a2, a3⟩ := digs_val m
  rw [← hD] at a1 a2 a3
  have hn15 : n ≤ 21 := by rw [← hl, hD]; exact digs_length m (by omega) (by omega)
  have hKl : K.length = kk := by rw [hK, List.length_take]; omega
  have hRl : R.length = d := by rw [hR, List.length_drop]; omega
  have hlsp : D = K ++ R := by rw [hK, hR, List.take_append_drop]
  have hDK : Dig K := by rw [hK]; exact a2.take _
  obtain ⟨L5, hL5⟩ : ∃ L5, L5 = (bump (0 :: K)).2 := ⟨_, rfl⟩
  have hL5d : Dig L5 := by rw [hL5]; exact (bump_val (zero_dig hDK)).1
  have hL5l : L5.length = kk + 1 := by rw [hL5]; rw [bump_length, List.length_cons, hKl]
  have hr0' : D[kk]? = some r0 := by rw [hR, List.getElem?_drop] at hr0; exact hr0
  have hL5v : valN L5 = upN m.natAbs d := by
    obtain ⟨u1, u2⟩ := upL_val a2 (d := d) hd0 (by omega)
    rw [← a1, ← u1, hL5]
    unfold upL
    rw [show D.length - d = kk by omega, hr0', ← hK]
    rw [if_pos (show 5 ≤ (some r0 |>.getD 0).toNat from h5)]; unfold oneMoreL; rw [strip_val]
  have NR : Hid (∀ (wr : World) (B g cp : Nat), OwnD wr B (.slice (some ⟨g, 0, none⟩) (kk + 1) cp) L5 → Calls Tryd.prog 49 #[.agg #[.bool ng, .slice (some ⟨g, 0, none⟩) (kk + 1) cp, .int .i64 (-p)], .bool false] wr fun x w' => x = .returned (.tuple #[.agg #[.int .i64 M, .int .i64 E], .bool true]) ∧ Below wr.heap.size wr w') := fun wr B g cp h => by
    obtain ⟨g', c', hv, hb, hlc, hcm2, hrd⟩ := h.rd
    simp only [Value.slice.injEq, Option.some.injEq, Addr.mk.injEq, and_true] at hv
    obtain ⟨rfl, hv2, rfl⟩ := hv
    have := near_any ng (some ⟨g, 0, none⟩) L5 cp (-p) false wr hrd hlc hcm2 (by omega) hL5d (by omega) (by omega)
    rw [near_roundN _ _ _ (by omega) (by omega), hL5v, hng, hM, ← hng] at this
    rw [hv2]; exact this
  have hwn : IntKind.i64.wrap (-p) = -p := by rw [IntKind.wrap_i64]; omega
  have hwn2 : IntKind.i64.wrap (-p - e) = (d : Int) := by rw [IntKind.wrap_i64]; omega
  have hone : ∀ u ∈ ceD K, u.oneCell' = true := ceD_one K
  have hcl := ceD_length K
  have hdn : ¬ (n : Int) < (d : Int) := by omega
  have hsub : (n : Int) - (d : Int) = (kk : Int) := by omega
  have hsub2 : n - kk = d := by omega
  have hL9 := zero_dig hDK
  have HKL := Lib.hid hKl
  have HL5 := Lib.hid hL5
  have HLS := Lib.hid hlsp
  have HL9 := Lib.hid hL9
  have HR0 := Lib.hid hr0'
  have HDL := Lib.hid hl
  have hr256 := r0.toNat_lt
  have hn1 : kk + d ≤ n := by omega
  have hn2 : n ≤ kk + d := by omega
  clear hn
  clear hr hD hng ba a1 a2 a3 hM hL5v hL5d hL5l hDK hL9 hRl hr0 hr0' hL5 hlsp hK hR hl
  unfold numV
  go_enter Tryd.func36, Tryd.ntmps36
  go_wp2_with fail
  refine (R1.out _).mono ?_
  rintro x w1 ⟨rfl, hb1⟩
  have hT0 := Duo.new w m e 0 0
  have hB0 := below2 w (.cells #[.int .i64 m, .int .i64 e] 24) (.cells #[.int .i64 0, .int .i64 0] 24)
  obtain ⟨hT1, hZ1⟩ := hT0.below hb1 (by simp)
  have hW1 := hB0.trans (hb1.mono hB0.size)
  clear hT0 hB0 hb1
  obtain ⟨⟨p0, p1, p2, p3⟩, p4, p5, p6, p7⟩ := id hT1
  go_wp2_with fail
  refine (OF1.out _).mono ?_
  rintro x w2 ⟨v2, rfl, hV2, hb2⟩
  obtain ⟨hT2, hZ2⟩ := hT1.below hb2 hZ1
  have hW2 := hW1.trans (hb2.mono hW1.size)
  have al := alloc_below w2 (.cells #[.bool ng, v2, .int .i64 e] 45)
  have KV := Kv.new hT2 hZ2 ng v2
  have hW3 := hW2.trans (al.mono hW2.size)
  have hV3 := hV2.below al
  have hBw : w.heap.size + 2 ≤ w2.heap.size := hZ2
  clear hT1 hZ1 hW1 hb2 hT2 hZ2 hW2 hV2 p0 p1 p2 p3 p4 p5 p6 p7 al OF1 R1
  rcases hV3 with ⟨rfl, hnn⟩ | ⟨b, off, c, rfl, q1, q2, q3, q4⟩
  · have := HDL.out; rw [hnn] at this; simp at this; omega
  rw [HDL.out] at q1 q4 KV hW3 q3 ⊢
  have hWs : (w2.alloc (.cells #[.bool ng, .slice (some ⟨b, off, none⟩) n c, .int .i64 e] 45)).heap.size = w2.heap.size + 1 := by simp
  have hnews : ∀ j u, (ceD K)[j]? = some u → ((w2.alloc (.cells #[.bool ng, .slice (some ⟨b, off, none⟩) n c, .int .i64 e] 45)).alloc (.cells #[.int .i64 0] 3)).cell? ((⟨b, off, none⟩ : Addr).add j) = some u := by
    intro j u hj
    have hjl : j < K.length := by have := (List.getElem?_eq_some_iff.1 hj).1; rwa [ceD_length] at this
    have h1 := q4 j K[j] (by rw [HLS.out, List.getElem?_append_left hjl, List.getElem?_eq_getElem hjl])
    have h2 : u = .int .i64 ((K[j]).toNat : Int) := by simpa [ceD, hjl] using hj.symm
    rw [h2, ← h1]
    have ea : (⟨b, off, none⟩ : Addr).add j = ⟨b, off + j, none⟩ := by
      by_cases hj0 : j = 0
      · subst hj0; rfl
      · simp [Addr.add, hj0]
    rw [ea]
    exact (alloc_below _ _).cell (p := ⟨b, off + j, none⟩) q3
  have hown0 := World.ownsRow_lit (base := w2.heap.size + 1) (e := 3) (size := 1) (w2.alloc (.cells #[.bool ng, .slice (some ⟨b, off, none⟩) n c, .int .i64 e] 45)) #[.int .i64 0] 1 (by rw [hWs]; exact Nat.le_refl _) (by unfold maxLen; omega) (by simp)
  rw [hWs] at hown0
  have hbw0 : Below (w2.heap.size + 1) (w2.alloc (.cells #[.bool ng, .slice (some ⟨b, off, none⟩) n c, .int .i64 e] 45)) ((w2.alloc (.cells #[.bool ng, .slice (some ⟨b, off, none⟩) n c, .int .i64 e] 45)).alloc (.cells #[.int .i64 0] 3)) := by have := alloc_below (w2.alloc (.cells #[.bool ng, .slice (some ⟨b, off, none⟩) n c, .int .i64 e] 45)) (.cells #[.int .i64 0] 3); rwa [hWs] at this
  have hcc := q4 kk r0 HR0.out
  rw [hWs] at q3
  have Q4 := Lib.hid hcc
  clear hcc q4
  obtain ⟨⟨⟨p0, p1, p2, p3⟩, p4, p5, p6, p7⟩, v0, v1, v2, _, _⟩ := id KV
  go_wp2_with (first
    | (at_builtin; refine wpList_append_own _ rfl _ _ 43 rfl (w2.heap.size + 1) 3 i0 (.int .i64 0) 1 8 Tryd.underlying43 hi hz0 hz1 hz2 rfl (by decide) _ _ _ rfl hown0 ⟨b, off, none⟩ kk c (ceD K) rfl (by omega) hnews hone (by unfold maxLen; omega) (by omega) (by simp) ?_))
  intro v' w4 hown' hgrow hnil
  have hown1 : OwnD w4 (w2.heap.size + 1) v' (0 :: K) := by
    have e1 : (0 :: K).length = 1 + kk := by simp [HKL.out]; omega
    refine ⟨by rw [e1]; exact hown', ?_⟩
    rcases hown'.2 with ⟨rfl, h0⟩ | ⟨g, cap, cur, rfl, _⟩
    · omega
    · exact ⟨g, cap, by rw [e1]⟩
  have hbw1 : Below (w2.heap.size + 1) (w2.alloc (.cells #[.bool ng, .slice (some ⟨b, off, none⟩) n c, .int .i64 e] 45)) w4 := Below.grown hbw0 hgrow (by simp) (fun j hj => by simp [Value.ownBlock] at hj; omega)
  clear hown' hgrow hnil hown0 hnews hone hbw0 hcl p0 p1 p2 p3 p4 p5 p6 p7 v0 v1 v2
  obtain ⟨g, cp, rfl⟩ := hown1.2
  have hkl1 : (0 :: K).length = kk + 1 := by simp [HKL.out]
  rw [hkl1] at hown1 ⊢
  have HOW := Lib.hid hown1
  have KV4 := KV.below hbw1 (Nat.lt_succ_self _)
  have hW4 := hW3.trans (hbw1.mono (by omega))
  have hc0 := (hbw1.cell (p := ⟨b, off + kk, none⟩) q3).trans Q4.out
  clear hown1 hkl1 KV hW3 hbw1
  obtain ⟨⟨⟨p0, p1, p2, p3⟩, p4, p5, p6, p7⟩, v0, v1, v2, _, _⟩ := id KV4
  have h5' : (5 : Int) ≤ (r0.toNat : Int) := by omega
  have hBg : w2.heap.size + 1 ≤ w4.heap.size := by have := KV4.lt; omega
  clear h5
  go_wp2_with fail
  go_loopw [8] (fun i' wr => ∃ (k : Nat) (l' : List UInt8), i' = .int .i64 (k : Int) ∧ k ≤ kk ∧ OwnD wr (w2.heap.size + 1) (.slice (some ⟨g, 0, none⟩) (kk + 1) cp) l' ∧ Below (w2.heap.size + 1) w4 wr ∧ Hid (Mid (0 :: K) (k + 1) l')) (fun i' _ => (intOf i').toNat)
  case atStart =>
    refine ⟨kk, 0 :: K, rfl, Nat.le_refl _, HOW.out, Below.refl _ _, ?_⟩
    have := Mid.start (0 :: K)
    rw [List.length_cons, HKL.out] at this; exact this
  case round =>
    obtain ⟨k, l', rfl, hkk, hown, hbw, HM⟩ := hrel
    have hkL : k < (0 :: K).length := by rw [List.length_cons, HKL.out]; omega
    obtain ⟨hcell, hfz⟩ := hown.at ((HM : Mid (0 :: K) (k + 1) l').get hkL)
    have hL9 : ((0 :: K)[k]).toNat ≤ 9 := HL9.out _ (List.getElem_mem hkL)
    obtain ⟨x, hx⟩ : ∃ x, x = (0 :: K)[k] := ⟨_, rfl⟩
    rw [← hx] at hcell hL9
    clear p0 p1 p2 p3 p4 p5 p6 p7 v0 v1 v2
    by_cases h9 : x.toNat = 9
    · have hk0 : k ≠ 0 := by intro h; subst h; rw [hx] at h9; simp at h9
      obtain ⟨q, rfl⟩ : ∃ q, k = q + 1 := ⟨k - 1, by omega⟩
      have HS := Lib.hid (hown.stored (q + 1) 0)
      have HN : Hid (Mid (0 :: K) (q + 1) (l'.set (q + 1) 0)) := (HM : Mid (0 :: K) (q + 1 + 1) l').next hkL (by rw [← hx]; intro h; have : x.toNat < 9 := h; omega)
      have h9' : ((x.toNat : Int) == 9) = true := by rw [beq_iff_eq]; omega
      clear hown hx h9 hL9
      go_wp2
      go_roundw
      case rel => exact ⟨q, _, by go_num, by omega, HS.out.1, hbw.trans HS.out.2, HN⟩
      case measure => simp [intOf]
    · have h9' : ((x.toNat : Int) == 9) = false := by rw [beq_eq_false_iff_ne]; omega
      have hx9 : (0 :: K)[k] < 9 := by rw [← hx]; show x.toNat < 9; omega
      have e1 : ((x + 1).toNat : Int) = (x.toNat : Int) + 1 := by rw [UInt8.toNat_add]; simp; omega
      have hst := hown.stored k (x + 1)
      have hbw2 := hbw.trans hst.2
      have hO2 := hst.1
      rw [hx, (HM : Mid (0 :: K) (k + 1) l').stop hkL hx9, ← HL5.out, ← hx] at hO2
      rw [e1] at hO2 hbw2
      have KVr := KV4.below hbw2 (Nat.lt_succ_self _)
      have KV0 := KV4.below hbw (Nat.lt_succ_self _)
      have hWr := hW4.trans (hbw2.mono (by omega))
      have HNr := Lib.hid (NR.out _ _ g cp hO2)
      clear e1 hst hown hx h9 hx9 HM hbw hbw2 hO2
      obtain ⟨⟨⟨p0, p1, p2, p3⟩, p4, p5, p6, p7⟩, v0, v1, v2, _, _⟩ := id KVr
      obtain ⟨⟨⟨s0, s1, s2, s3⟩, s4, s5, s6, s7⟩, t0, t1, t2, _, _⟩ := id KV0
      go_wp2_with fail
      refine HNr.out.mono ?_
      rintro x w5 ⟨rfl, hb5⟩
      have KV5 := KVr.below hb5 KVr.lt
      have hb6 := alloc_below w5 (.cells #[.int .i64 M, .int .i64 E] 24)
      have KV6 := KV5.below hb6 KV5.lt
      have hz6 : w.heap.size + 2 ≤ w5.heap.size := by have := KV5.lt; omega
      have hWW := ((hWr).trans (hb5.mono hWr.size)).trans (hb6.mono (by omega))
      obtain ⟨n0, n1, n2, n3⟩ := Slot.new w5 M E
      clear hb5 hb6 KV5 KVr KV0 p0 p1 p2 p3 p4 p5 p6 p7 v0 v1 v2 s0 s1 s2 s3 s4 s5 s6 s7 t0 t1 t2 KV4 hcell hfz
      obtain ⟨⟨⟨p0, p1, p2, p3⟩, p4, p5, p6, p7⟩, v0, v1, v2, _, _⟩ := id KV6
      go_wp2
      refine bodyPost_ret (v := .agg #[.int .i64 M, .int .i64 E]) (by simp [results, Tryd.results36, go_sem, p4, p5]) rfl ⟨rfl, ?_⟩
      exact slot_set2 hWW (by omega) _ _

set_option maxRecDepth 1000000 in
set_option maxHeartbeats 8000000 in
theorem rrnd_up_not (m e p : Int) (hr : rightB m e = true) (D : List UInt8) (hD : D = digs m) (hp : ¬ p < -100) (hp2 : ¬ 40 < p) (hp3 : ¬ -p ≤ e) (d kk n : Nat) (hd : -p - e = (d : Int)) (hd0 : 0 < d) (hl : D.length = n) (hn : n = kk + d) (K R : List UInt8) (hK : K = D.take kk) (hR : R = D.drop kk) (r0 : UInt8) (hr0 : R[0]? = some r0) (h5 : 5 ≤ r0.toNat) (M E : Int) (hM : roundN (decide (m < 0)) (upN m.natAbs d) (-p) = (M, E, false)) (w : World) :
    Calls Tryd.prog 36 #[numV m e, .int .i64 p] w fun r w' => r = .returned (numV m e) ∧ Below w.heap.size w w' := by
  obtain ⟨i0, hi, hz0, hz1, hz2⟩ := info_parts info3
  have R1 : Hid (∀ w1, Calls Tryd.prog 18 #[.agg #[.int .i64 m, .int .i64 e]] w1 fun r w' => r = .returned (.bool true) ∧ Below w1.heap.size w1 w') := by
    intro w1; have := rright_any m e w1; rw [hr] at this; exact this
  obtain ⟨ba, bb1, bb2⟩ := right_bounds hr
  obtain ⟨ng, hng⟩ : ∃ s, s = decide (m < 0) := ⟨_, rfl⟩
  have OF1 : Hid (∀ w1, Calls Tryd.prog 45 #[.agg #[.int .i64 m, .int .i64 e]] w1 fun r w' => ∃ v, r = .returned (.agg #[.bool ng, v, .int .i64 e]) ∧ Vd w' v D ∧ Below w1.heap.size w1 w') := by
    intro w1; rw [hng, hD]; exact of_any m e (by omega) (by omega) w1
  obtain ⟨a1, a2, a3⟩ := digs_val m
  rw [← hD] at a1 a2 a3
  have hn15 : n ≤ 21 := by rw [← hl, hD]; exact digs_length m (by omega) (by omega)
  have hKl : K.length = kk := by rw [hK, List.length_take]; omega
  have hRl : R.length = d := by rw [hR, List.length_drop]; omega
  have hlsp : D = K ++ R := by rw [hK, hR, List.take_append_drop]
  have hDK : Dig K := by rw [hK]; exact a2.take _
  obtain ⟨L5, hL5⟩ : ∃ L5, L5 = (bump (0 :: K)).2 := ⟨_, rfl⟩
  have hL5d : Dig L5 := by rw [hL5]; exact (bump_val (zero_dig hDK)).1
  have hL5l : L5.length = kk + 1 := by rw [hL5]; rw [bump_length, List.length_cons, hKl]
  have hr0' : D[kk]? = some r0 := by rw [hR, List.getElem?_drop] at hr0; exact hr0
  have hL5v : valN L5 = upN m.natAbs d := by
    obtain ⟨u1, u2⟩ := upL_val a2 (d := d) hd0 (by omega)
    rw [← a1, ← u1, hL5]
    unfold upL
    rw [show D.length - d = kk by omega, hr0', ← hK]
    rw [if_pos (show 5 ≤ (some r0 |>.getD 0).toNat from h5)]; unfold oneMoreL; rw [strip_val]
  have NR : Hid (∀ (wr : World) (B g cp : Nat), OwnD wr B (.slice (some ⟨g, 0, none⟩) (kk + 1) cp) L5 → Calls Tryd.prog 49 #[.agg #[.bool ng, .slice (some ⟨g, 0, none⟩) (kk + 1) cp, .int .i64 (-p)], .bool false] wr fun x w' => x = .returned (.tuple #[.agg #[.int .i64 M, .int .i64 E], .bool false]) ∧ Below wr.heap.size wr w') := fun wr B g cp h => by
    obtain ⟨g', c', hv, hb, hlc, hcm2, hrd⟩ := h.rd
    simp only [Value.slice.injEq, Option.some.injEq, Addr.mk.injEq, and_true] at hv
    obtain ⟨rfl, hv2, rfl⟩ := hv
    have := near_any ng (some ⟨g, 0, none⟩) L5 cp (-p) false wr hrd hlc hcm2 (by omega) hL5d (by omega) (by omega)
    rw [near_roundN _ _ _ (by omega) (by omega), hL5v, hng, hM, ← hng] at this
    rw [hv2]; exact this
  have hwn : IntKind.i64.wrap (-p) = -p := by rw [IntKind.wrap_i64]; omega
  have hwn2 : IntKind.i64.wrap (-p - e) = (d : Int) := by rw [IntKind.wrap_i64]; omega
  have hone : ∀ u ∈ ceD K, u.oneCell' = true := ceD_one K
  have hcl := ceD_length K
  have hdn : ¬ (n : Int) < (d : Int) := by omega
  have hsub : (n : Int) - (d : Int) = (kk : Int) := by omega
  have hsub2 : n - kk = d := by omega
  have hL9 := zero_dig hDK
  have HKL := Lib.hid hKl
  have HL5 := Lib.hid hL5
  have HLS := Lib.hid hlsp
  have HL9 := Lib.hid hL9
  have HR0 := Lib.hid hr0'
  have HDL := Lib.hid hl
  have hr256 := r0.toNat_lt
  have hn1 : kk + d ≤ n := by omega
  have hn2 : n ≤ kk + d := by omega
  clear hn
  clear hr hD hng ba a1 a2 a3 hM hL5v hL5d hL5l hDK hL9 hRl hr0 hr0' hL5 hlsp hK hR hl
  unfold numV
  go_enter Tryd.func36, Tryd.ntmps36
  go_wp2_with fail
  refine (R1.out _).mono ?_
  rintro x w1 ⟨rfl, hb1⟩
  have hT0 := Duo.new w m e 0 0
  have hB0 := below2 w (.cells #[.int .i64 m, .int .i64 e] 24) (.cells #[.int .i64 0, .int .i64 0] 24)
  obtain ⟨hT1, hZ1⟩ := hT0.below hb1 (by simp)
  have hW1 := hB0.trans (hb1.mono hB0.size)
  clear hT0 hB0 hb1
  obtain ⟨⟨p0, p1, p2, p3⟩, p4, p5, p6, p7⟩ := id hT1
  go_wp2_with fail
  refine (OF1.out _).mono ?_
  rintro x w2 ⟨v2, rfl, hV2, hb2⟩
  obtain ⟨hT2, hZ2⟩ := hT1.below hb2 hZ1
  have hW2 := hW1.trans (hb2.mono hW1.size)
  have al := alloc_below w2 (.cells #[.bool ng, v2, .int .i64 e] 45)
  have KV := Kv.new hT2 hZ2 ng v2
  have hW3 := hW2.trans (al.mono hW2.size)
  have hV3 := hV2.below al
  have hBw : w.heap.size + 2 ≤ w2.heap.size := hZ2
  clear hT1 hZ1 hW1 hb2 hT2 hZ2 hW2 hV2 p0 p1 p2 p3 p4 p5 p6 p7 al OF1 R1
  rcases hV3 with ⟨rfl, hnn⟩ | ⟨b, off, c, rfl, q1, q2, q3, q4⟩
  · have := HDL.out; rw [hnn] at this; simp at this; omega
  rw [HDL.out] at q1 q4 KV hW3 q3 ⊢
  have hWs : (w2.alloc (.cells #[.bool ng, .slice (some ⟨b, off, none⟩) n c, .int .i64 e] 45)).heap.size = w2.heap.size + 1 := by simp
  have hnews : ∀ j u, (ceD K)[j]? = some u → ((w2.alloc (.cells #[.bool ng, .slice (some ⟨b, off, none⟩) n c, .int .i64 e] 45)).alloc (.cells #[.int .i64 0] 3)).cell? ((⟨b, off, none⟩ : Addr).add j) = some u := by
    intro j u hj
    have hjl : j < K.length := by have := (List.getElem?_eq_some_iff.1 hj).1; rwa [ceD_length] at this
    have h1 := q4 j K[j] (by rw [HLS.out, List.getElem?_append_left hjl, List.getElem?_eq_getElem hjl])
    have h2 : u = .int .i64 ((K[j]).toNat : Int) := by simpa [ceD, hjl] using hj.symm
    rw [h2, ← h1]
    have ea : (⟨b, off, none⟩ : Addr).add j = ⟨b, off + j, none⟩ := by
      by_cases hj0 : j = 0
      · subst hj0; rfl
      · simp [Addr.add, hj0]
    rw [ea]
    exact (alloc_below _ _).cell (p := ⟨b, off + j, none⟩) q3
  have hown0 := World.ownsRow_lit (base := w2.heap.size + 1) (e := 3) (size := 1) (w2.alloc (.cells #[.bool ng, .slice (some ⟨b, off, none⟩) n c, .int .i64 e] 45)) #[.int .i64 0] 1 (by rw [hWs]; exact Nat.le_refl _) (by unfold maxLen; omega) (by simp)
  rw [hWs] at hown0
  have hbw0 : Below (w2.heap.size + 1) (w2.alloc (.cells #[.bool ng, .slice (some ⟨b, off, none⟩) n c, .int .i64 e] 45)) ((w2.alloc (.cells #[.bool ng, .slice (some ⟨b, off, none⟩) n c, .int .i64 e] 45)).alloc (.cells #[.int .i64 0] 3)) := by have := alloc_below (w2.alloc (.cells #[.bool ng, .slice (some ⟨b, off, none⟩) n c, .int .i64 e] 45)) (.cells #[.int .i64 0] 3); rwa [hWs] at this
  have hcc := q4 kk r0 HR0.out
  rw [hWs] at q3
  have Q4 := Lib.hid hcc
  clear hcc q4
  obtain ⟨⟨⟨p0, p1, p2, p3⟩, p4, p5, p6, p7⟩, v0, v1, v2, _, _⟩ := id KV
  go_wp2_with (first
    | (at_builtin; refine wpList_append_own _ rfl _ _ 43 rfl (w2.heap.size + 1) 3 i0 (.int .i64 0) 1 8 Tryd.underlying43 hi hz0 hz1 hz2 rfl (by decide) _ _ _ rfl hown0 ⟨b, off, none⟩ kk c (ceD K) rfl (by omega) hnews hone (by unfold maxLen; omega) (by omega) (by simp) ?_))
  intro v' w4 hown' hgrow hnil
  have hown1 : OwnD w4 (w2.heap.size + 1) v' (0 :: K) := by
    have e1 : (0 :: K).length = 1 + kk := by simp [HKL.out]; omega
    refine ⟨by rw [e1]; exact hown', ?_⟩
    rcases hown'.2 with ⟨rfl, h0⟩ | ⟨g, cap, cur, rfl, _⟩
    · omega
    · exact ⟨g, cap, by rw [e1]⟩
  have hbw1 : Below (w2.heap.size + 1) (w2.alloc (.cells #[.bool ng, .slice (some ⟨b, off, none⟩) n c, .int .i64 e] 45)) w4 := Below.grown hbw0 hgrow (by simp) (fun j hj => by simp [Value.ownBlock] at hj; omega)
  clear hown' hgrow hnil hown0 hnews hone hbw0 hcl p0 p1 p2 p3 p4 p5 p6 p7 v0 v1 v2
  obtain ⟨g, cp, rfl⟩ := hown1.2
  have hkl1 : (0 :: K).length = kk + 1 := by simp [HKL.out]
  rw [hkl1] at hown1 ⊢
  have HOW := Lib.hid hown1
  have KV4 := KV.below hbw1 (Nat.lt_succ_self _)
  have hW4 := hW3.trans (hbw1.mono (by omega))
  have hc0 := (hbw1.cell (p := ⟨b, off + kk, none⟩) q3).trans Q4.out
  clear hown1 hkl1 KV hW3 hbw1
  obtain ⟨⟨⟨p0, p1, p2, p3⟩, p4, p5, p6, p7⟩, v0, v1, v2, _, _⟩ := id KV4
  have h5' : (5 : Int) ≤ (r0.toNat : Int) := by omega
  have hBg : w2.heap.size + 1 ≤ w4.heap.size := by have := KV4.lt; omega
  clear h5
  go_wp2_with fail
  go_loopw [8] (fun i' wr => ∃ (k : Nat) (l' : List UInt8), i' = .int .i64 (k : Int) ∧ k ≤ kk ∧ OwnD wr (w2.heap.size + 1) (.slice (some ⟨g, 0, none⟩) (kk + 1) cp) l' ∧ Below (w2.heap.size + 1) w4 wr ∧ Hid (Mid (0 :: K) (k + 1) l')) (fun i' _ => (intOf i').toNat)
  case atStart =>
    refine ⟨kk, 0 :: K, rfl, Nat.le_refl _, HOW.out, Below.refl _ _, ?_⟩
    have := Mid.start (0 :: K)
    rw [List.length_cons, HKL.out] at this; exact this
  case round =>
    obtain ⟨k, l', rfl, hkk, hown, hbw, HM⟩ := hrel
    have hkL : k < (0 :: K).length := by rw [List.length_cons, HKL.out]; omega
    obtain ⟨hcell, hfz⟩ := hown.at ((HM : Mid (0 :: K) (k + 1) l').get hkL)
    have hL9 : ((0 :: K)[k]).toNat ≤ 9 := HL9.out _ (List.getElem_mem hkL)
    obtain ⟨x, hx⟩ : ∃ x, x = (0 :: K)[k] := ⟨_, rfl⟩
    rw [← hx] at hcell hL9
    clear p0 p1 p2 p3 p4 p5 p6 p7 v0 v1 v2
    by_cases h9 : x.toNat = 9
    · have hk0 : k ≠ 0 := by intro h; subst h; rw [hx] at h9; simp at h9
      obtain ⟨q, rfl⟩ : ∃ q, k = q + 1 := ⟨k - 1, by omega⟩
      have HS := Lib.hid (hown.stored (q + 1) 0)
      have HN : Hid (Mid (0 :: K) (q + 1) (l'.set (q + 1) 0)) := (HM : Mid (0 :: K) (q + 1 + 1) l').next hkL (by rw [← hx]; intro h; have : x.toNat < 9 := h; omega)
      have h9' : ((x.toNat : Int) == 9) = true := by rw [beq_iff_eq]; omega
      clear hown hx h9 hL9
      go_wp2
      go_roundw
      case rel => exact ⟨q, _, by go_num, by omega, HS.out.1, hbw.trans HS.out.2, HN⟩
      case measure => simp [intOf]
    · have h9' : ((x.toNat : Int) == 9) = false := by rw [beq_eq_false_iff_ne]; omega
      have hx9 : (0 :: K)[k] < 9 := by rw [← hx]; show x.toNat < 9; omega
      have e1 : ((x + 1).toNat : Int) = (x.toNat : Int) + 1 := by rw [UInt8.toNat_add]; simp; omega
      have hst := hown.stored k (x + 1)
      have hbw2 := hbw.trans hst.2
      have hO2 := hst.1
      rw [hx, (HM : Mid (0 :: K) (k + 1) l').stop hkL hx9, ← HL5.out, ← hx] at hO2
      rw [e1] at hO2 hbw2
      have KVr := KV4.below hbw2 (Nat.lt_succ_self _)
      have KV0 := KV4.below hbw (Nat.lt_succ_self _)
      have hWr := hW4.trans (hbw2.mono (by omega))
      have HNr := Lib.hid (NR.out _ _ g cp hO2)
      clear e1 hst hown hx h9 hx9 HM hbw hbw2 hO2
      obtain ⟨⟨⟨p0, p1, p2, p3⟩, p4, p5, p6, p7⟩, v0, v1, v2, _, _⟩ := id KVr
      obtain ⟨⟨⟨s0, s1, s2, s3⟩, s4, s5, s6, s7⟩, t0, t1, t2, _, _⟩ := id KV0
      go_wp2_with fail
      refine HNr.out.mono ?_
      rintro x w5 ⟨rfl, hb5⟩
      have KV5 := KVr.below hb5 KVr.lt
      have hb6 := alloc_below w5 (.cells #[.int .i64 M, .int .i64 E] 24)
      have KV6 := KV5.below hb6 KV5.lt
      have hz6 : w.heap.size + 2 ≤ w5.heap.size := by have := KV5.lt; omega
      have hWW := ((hWr).trans (hb5.mono hWr.size)).trans (hb6.mono (by omega))
      obtain ⟨n0, n1, n2, n3⟩ := Slot.new w5 M E
      clear hb5 hb6 KV5 KVr KV0 p0 p1 p2 p3 p4 p5 p6 p7 v0 v1 v2 s0 s1 s2 s3 s4 s5 s6 s7 t0 t1 t2 KV4 hcell hfz
      obtain ⟨⟨⟨p0, p1, p2, p3⟩, p4, p5, p6, p7⟩, v0, v1, v2, _, _⟩ := id KV6
      go_wp2
      refine bodyPost_ret (v := .agg #[.int .i64 m, .int .i64 e]) (by simp [results, Tryd.results36, go_sem, p4, p5]) rfl ⟨rfl, ?_⟩
      exact slot_set2 hWW (by omega) _ _

/-- what Round comes to, of every number -/
def roundQ (m e p : Int) : Int × Int := if rightB m e = true then roundP m e p else (0, 0)
/-- the document's Round, of every number, at every place -/
theorem rrnd_any (m e p : Int) (w : World) : Calls Tryd.prog 36 #[numV m e, .int .i64 p] w fun r w' => r = .returned (numV (roundQ m e p).1 (roundQ m e p).2) ∧ Below w.heap.size w w' := by
  unfold roundQ
  cases hr : rightB m e
  · exact rrnd_no m e p hr w
  rw [if_pos rfl]
  obtain ⟨ba, bb1, bb2⟩ := right_bounds hr
  by_cases h1 : p < -100
  · have e1 : roundP m e p = (0, 0) := by unfold roundP; rw [if_neg (by omega), if_pos (by omega)]
    rw [e1]; exact rrnd_low m e p hr h1 w
  by_cases h2 : 40 < p
  · have e1 : roundP m e p = (m, e) := by unfold roundP; rw [if_pos (by omega)]
    rw [e1]; exact rrnd_high m e p hr h1 h2 w
  by_cases h3 : -p ≤ e
  · have e1 : roundP m e p = (m, e) := by unfold roundP; rw [if_pos (by omega)]
    rw [e1]; exact rrnd_same m e p hr h1 h2 h3 w
  by_cases h4 : ((digs m).length : Int) < -p - e
  · have e1 : roundP m e p = (0, 0) := by
      unfold roundP
      rw [if_neg (by omega)]
      by_cases h5 : p < -40
      · rw [if_pos h5]
      · rw [if_neg h5, if_pos h4]
    rw [e1]; exact rrnd_none m e p hr _ rfl h1 h2 h3 h4 w
  obtain ⟨a1, a2, a3⟩ := digs_val m
  have hdl := digs_len m
  have hm0 : m ≠ 0 := by
    intro h
    subst h
    have := right_nz 0 e hr rfl
    rw [hdl] at h4
    have : nd (0 : Int).natAbs = 0 := nd_zero
    omega
  obtain ⟨m1, m2, m3, m4⟩ := right_mod hr hm0
  have hp : ¬ p < -40 := by omega
  obtain ⟨d, hd⟩ : ∃ d : Nat, (d : Int) = -p - e := ⟨(-p - e).toNat, by omega⟩
  obtain ⟨n, hn⟩ : ∃ n, n = (digs m).length := ⟨_, rfl⟩
  obtain ⟨kk, hkk⟩ : ∃ kk, n = kk + d := ⟨n - d, by omega⟩
  have hdt : (-p - e).toNat = d := by omega
  obtain ⟨u1, u2⟩ := upL_val a2 (d := d) (by omega) (by omega)
  have hv : roundL (decide (m < 0)) (upL (digs m) (-p - e).toNat) (-p) = roundN (decide (m < 0)) (upN m.natAbs d) (-p) := by
    rw [hdt, round_val _ _ u2, u1, a1]
  obtain ⟨⟨M, E, ok⟩, hM⟩ : ∃ M, M = roundN (decide (m < 0)) (upN m.natAbs d) (-p) := ⟨_, rfl⟩
  rw [← hM] at hv
  have e1 : roundP m e p = if ok = true then (M, E) else (m, e) := by
    unfold roundP
    rw [if_neg (by omega), if_neg hp, if_neg h4, hv]
  have hlt : 0 < ((digs m).drop kk).length := by rw [List.length_drop]; omega
  have hr0 : ((digs m).drop kk)[0]? = some ((digs m).drop kk)[0] := List.getElem?_eq_getElem hlt
  obtain ⟨r0, hr0e⟩ : ∃ r0, r0 = ((digs m).drop kk)[0] := ⟨_, rfl⟩
  rw [← hr0e] at hr0
  rw [e1]
  by_cases h5 : 5 ≤ r0.toNat
  · cases ok
    · exact rrnd_up_not m e p hr _ rfl h1 h2 h3 d kk n hd.symm (by omega) hn.symm hkk _ _ rfl rfl r0 hr0 h5 M E hM.symm w
    · exact rrnd_up_ok m e p hr _ rfl h1 h2 h3 d kk n hd.symm (by omega) hn.symm hkk _ _ rfl rfl r0 hr0 h5 M E hM.symm w
  · cases ok
    · exact rrnd_keep_not m e p hr _ rfl h1 h2 h3 d kk n hd.symm (by omega) hn.symm hkk _ _ rfl rfl r0 hr0 (by omega) M E hM.symm w
    · exact rrnd_keep_ok m e p hr _ rfl h1 h2 h3 d kk n hd.symm (by omega) hn.symm hkk _ _ rfl rfl r0 hr0 (by omega) M E hM.symm w

set_option maxHeartbeats 2000000 in
theorem rnd_no (m e p : Int) (hw : Wf m e) (hr : rightB m e = false) (w : World) :
    Calls Tryd.prog 35 #[numV m e, .int .i64 p] w fun r w' => r = .returned (numV 0 0) ∧ Below w.heap.size w w' := by
  have R1 : Hid (∀ w1, Calls Tryd.prog 17 #[.agg #[.int .i64 m, .int .i64 e]] w1 fun r w' => r = .returned (.bool false) ∧ Below w1.heap.size w1 w') := by
    intro w1; have := right_any m e hw.1.1 hw.1.2 hw.2.2 w1; rw [hr] at this; exact this
  have N1 : Hid (∀ w1, Calls Tryd.prog 23 #[.agg #[.int .i64 m, .int .i64 e]] w1 fun r w' => r = .returned (.agg #[.int .i64 0, .int .i64 0]) ∧ Below w1.heap.size w1 w') := by
    intro w1; have := neg_any m e hw.1.1 hw.1.2 hw.2.2 w1; rw [show negP m e = (0, 0) by unfold negP; rw [hr]; rfl] at this; exact this
  have N2 : Hid (∀ w1, Calls Tryd.prog 23 #[.agg #[.int .i64 0, .int .i64 0]] w1 fun r w' => r = .returned (.agg #[.int .i64 0, .int .i64 0]) ∧ Below w1.heap.size w1 w') := by
    intro w1; have := neg_any 0 0 (by omega) (by omega) (by omega) w1; rw [show negP 0 0 = (0, 0) from if_pos rfl] at this; exact this
  clear hr hw
  unfold numV
  go_enter Tryd.func35, Tryd.ntmps35
  go_wp2_with fail
  refine (R1.out _).mono ?_
  rintro e w1 ⟨rfl, hb1⟩
  have hT0 := Duo.new w m e 0 0
  have hB0 := below2 w (.cells #[.int .i64 m, .int .i64 e] 24) (.cells #[.int .i64 0, .int .i64 0] 24)
  obtain ⟨hT1, hZ1⟩ := hT0.below hb1 (by simp)
  have hW1 := hB0.trans (hb1.mono hB0.size)
  clear hT0 hB0 hb1
  obtain ⟨⟨p0, p1, p2, p3⟩, p4, p5, p6, p7⟩ := id hT1
  go_wp2_with fail
  refine (N1.out _).mono ?_
  rintro e w2 ⟨rfl, hb2⟩
  obtain ⟨hT2, hZ2⟩ := hT1.below hb2 hZ1
  have hW2 := hW1.trans (hb2.mono hW1.size)
  clear hT1 hb2 p0 p1 p2 p3 p4 p5 p6 p7 hW1
  go_wp2_with fail
  refine (N2.out _).mono ?_
  rintro e w3 ⟨rfl, hb3⟩
  obtain ⟨hT3, hZ3⟩ := hT2.below hb3 hZ2
  have hW3 := hW2.trans (hb3.mono hW2.size)
  clear hT2 hb3 hW2
  obtain ⟨⟨p0, p1, p2, p3⟩, p4, p5, p6, p7⟩ := hT3
  go_wp2
  refine bodyPost_ret (v := .agg #[.int .i64 0, .int .i64 0]) (by simp [results, Tryd.results35, go_sem, p4, p5]) rfl ⟨rfl, ?_⟩
  exact slot_set2 hW3 (by omega) _ _
/-- Round, of every number, at every place -/
theorem rndQ_any (m e p : Int) (hw : Wf m e) (w : World) (ht : Tab w) :
    Calls Tryd.prog 35 #[numV m e, .int .i64 p] w fun r w' => r = .returned (numV (roundQ m e p).1 (roundQ m e p).2) ∧ Below w.heap.size w w' := by
  unfold roundQ
  cases hr : rightB m e
  · exact rnd_no m e p hw hr w
  · exact rnd_any m e p hr w ht
end Go.Proofs.YtkdjdoncmihkfaaDoor
