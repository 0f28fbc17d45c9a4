/- The document's Plus, of every two; its Of, of every number. -/
import Derived.Test.YtkdjdoncmihkfaaDoorRj
namespace Go.Proofs.YtkdjdoncmihkfaaDoor
open Go.RowKit

/-- the sign that Plus tells -/
def plusS (sa sb : Bool) (U V : Nat) : Bool := if (sa == sb) = true then sa else if U < V then sb else sa
/-- the digits' value that Plus tells -/
def plusN (sa sb : Bool) (U V : Nat) : Nat := if (sa == sb) = true then U + V else if U < V then V - U else U - V
/-- a value of digits, as Plus tells it -/
def DecD (s : Bool) (L : List UInt8) (m : Int) (w : World) (e : Ending) (w' : World) : Prop :=
  ∃ A c, e = .returned (.agg #[.bool s, .slice A L.length c, .int .i64 m]) ∧ L.length ≤ c ∧ c ≤ 9223372036854775807 ∧ RdD w' A L ∧ Below w.heap.size w w'
theorem OwnD.dec {w w' : World} {s : Bool} {m : Int} {L : List UInt8} {e : Ending} {n : Nat} (hn : L.length = n) (h : ∃ g c, e = .returned (.agg #[.bool s, .slice (some ⟨g, 0, none⟩) n c, .int .i64 m]) ∧ OwnD w' w.heap.size (.slice (some ⟨g, 0, none⟩) n c) L ∧ Below w.heap.size w w') : DecD s L m w e w' := by
  obtain ⟨g, c, rfl, ho, hb⟩ := h
  obtain ⟨g2, c2, e2, _, q1, q2, q3⟩ := ho.rd
  simp only [Value.slice.injEq, Option.some.injEq, Addr.mk.injEq, and_true] at e2
  obtain ⟨rfl, _, rfl⟩ := e2
  exact ⟨_, c, by rw [hn], q1, q2, q3, hb⟩
theorem zero_dig {l : List UInt8} (h : Dig l) : Dig (0 :: l) := Dig.mk (by decide) h
theorem plus_any (sa sb : Bool) (ea eb : Int) (la lb : List UInt8) (hla : la.length ≤ 500) (hlb : lb.length ≤ 500) (h1 : -200 ≤ ea) (h2 : ea ≤ 200) (h3 : -200 ≤ eb) (h4 : eb ≤ 200) (dla : Dig la) (dlb : Dig lb) (m : Int) (hm : m = min ea eb) (U V : Nat) (hU : U = valN la * 10 ^ (ea - m).toNat) (hV : V = valN lb * 10 ^ (eb - m).toNat) :
    ∃ L : List UInt8, L.length ≤ 1001 ∧ Dig L ∧ valN L = plusN sa sb U V ∧ ∀ va vb w, Vd w va la → Vd w vb lb → Calls Tryd.prog 44 #[.agg #[.bool sa, va, .int .i64 ea], .agg #[.bool sb, vb, .int .i64 eb]] w (DecD (plusS sa sb U V) L m w) := by
  obtain ⟨n, hn⟩ : ∃ n, n = max (la ++ List.replicate (ea - m).toNat 0).length (lb ++ List.replicate (eb - m).toNat 0).length := ⟨_, rfl⟩
  obtain ⟨x, hx⟩ : ∃ x, x = padL n (la ++ List.replicate (ea - m).toNat 0) := ⟨_, rfl⟩
  obtain ⟨y, hy⟩ : ∃ y, y = padL n (lb ++ List.replicate (eb - m).toNat 0) := ⟨_, rfl⟩
  have hxl : x.length = n := by rw [hx]; exact padL_len (by omega)
  have hyl : y.length = n := by rw [hy]; exact padL_len (by omega)
  have hn5 : n ≤ 1000 := by rw [hn]; simp; omega
  have hdx : Dig x := by rw [hx]; exact padL_dig _ (wide_dig _ dla)
  have hdy : Dig y := by rw [hy]; exact padL_dig _ (wide_dig _ dlb)
  have vx : valN x = U := by rw [hx, padL_val, wide_val, hU]
  have vy : valN y = V := by rw [hy, padL_val, wide_val, hV]
  have hxy : x.length = y.length := by omega
  unfold plusN plusS
  by_cases hs : (sa == sb) = true
  · obtain rfl : sa = sb := by simpa using hs
    obtain ⟨v1, d1, l1⟩ := sumL_val hxy hdx hdy
    refine ⟨sumL x y, by omega, d1, by rw [if_pos hs, v1, vx, vy], fun va vb w hva hvb => ?_⟩
    rw [if_pos hs]
    exact (plus_same sa va vb ea eb la lb w hva hvb hla hlb h1 h2 h3 h4 dla dlb m hm x y n hn hx hy).mono fun e w' h => OwnD.dec (by omega) h
  · have hs' : (sa == sb) = false := by simpa using hs
    by_cases hlt : U < V
    · obtain ⟨v1, d1, l1⟩ := diff_val hxy.symm hdy hdx (by omega)
      refine ⟨0 :: (subL y x).2, by rw [List.length_cons]; omega, zero_dig d1, by rw [if_neg hs, if_pos hlt, valN_cons, v1, vx, vy]; simp, fun va vb w hva hvb => ?_⟩
      rw [if_neg hs, if_pos hlt]
      exact (plus_diff_true sa sb hs' va vb ea eb la lb w hva hvb hla hlb h1 h2 h3 h4 dla dlb m hm x y n hn hx hy (by rw [vx, vy]; simpa using hlt)).mono fun e w' h => OwnD.dec (by rw [List.length_cons]; omega) h
    · obtain ⟨v1, d1, l1⟩ := diff_val hxy hdx hdy (by omega)
      refine ⟨0 :: (subL x y).2, by rw [List.length_cons]; omega, zero_dig d1, by rw [if_neg hs, if_neg hlt, valN_cons, v1, vx, vy]; simp, fun va vb w hva hvb => ?_⟩
      rw [if_neg hs, if_neg hlt]
      exact (plus_diff_false sa sb hs' va vb ea eb la lb w hva hvb hla hlb h1 h2 h3 h4 dla dlb m hm x y n hn hx hy (by rw [vx, vy]; simpa using hlt)).mono fun e w' h => OwnD.dec (by rw [List.length_cons]; omega) h

set_option maxHeartbeats 1000000 in
theorem rdigs_zero (w : World) : Calls Tryd.prog 50 #[.int .i64 0] w fun e w' => e = .returned (.slice none 0 0) ∧ Below w.heap.size w w' := by
  go_enter Tryd.func50, Tryd.ntmps50
  go_wp2
  go_loopw [0, 3] (fun n' o wr => n' = .int .i64 0 ∧ o = .slice none 0 0 ∧ Below w.heap.size w wr) (fun _ _ _ => 0)
  case atStart => exact ⟨rfl, rfl, Below.refl _ _⟩
  case round =>
    obtain ⟨rfl, rfl, hbw⟩ := hrel
    go_wp2
    go_ret
    exact ⟨rfl, hbw⟩
set_option maxRecDepth 1000000 in
set_option maxHeartbeats 2000000 in
theorem of_zero (e : Int) (w : World) :
    Calls Tryd.prog 45 #[numV 0 e] w fun r w' => r = .returned (.agg #[.bool false, .slice none 0 0, .int .i64 e]) ∧ Below w.heap.size w w' := by
  have RD : Hid (∀ w1, Calls Tryd.prog 50 #[.int .i64 0] w1 fun e w' => e = .returned (.slice none 0 0) ∧ Below w1.heap.size w1 w') := fun w1 => rdigs_zero w1
  have H0 := Lib.hid (Kf.first w 0 e)
  unfold numV
  go_enter Tryd.func45, Tryd.ntmps45
  go_wp2_with fail
  go_region_held3 (fun w' => w'.cell? ⟨w.heap.size, 0, none⟩ = some (.int .i64 0) ∧ w'.cell? ⟨w.heap.size, 1, none⟩ = some (.int .i64 e) ∧
  w'.cell? ⟨w.heap.size + 1, 0, none⟩ = some (got w' ⟨w.heap.size + 1, 0, none⟩) ∧ w'.cell? ⟨w.heap.size + 1, 1, none⟩ = some (got w' ⟨w.heap.size + 1, 1, none⟩) ∧ w'.cell? ⟨w.heap.size + 1, 2, none⟩ = some (got w' ⟨w.heap.size + 1, 2, none⟩) ∧
  w'.frozen? ⟨w.heap.size + 1, 0, none⟩ = false ∧ w'.frozen? ⟨w.heap.size + 1, 1, none⟩ = false ∧ w'.frozen? ⟨w.heap.size + 1, 2, none⟩ = false ∧ w.heap.size + 2 ≤ w'.heap.size ∧ Below w.heap.size w w')
    (first | exact H0.out.later (below_dr _) | exact Kf.later (hb := hb5) (h := by assumption) | exact Kf.stored (h := by assumption) _ _ _)
    (first
      | (go_at_call 50; refine (RD.out _).mono ?_; rintro e w5 ⟨rfl, hb5⟩))
  have K4 := H0.out.later (below_dr _)
  have K5 := K4.later hb5
  clear hb5 K4 H0 RD
  obtain ⟨h1, h2, h3, h4, h5, h6, h7, h8, h9, h10⟩ := K5
  have c0 := cell3_0 (is_got h3) (.bool false) (.slice none 0 0) (.int .i64 e)
  have c1 := cell3_1 (is_got h4) (.bool false) (.slice none 0 0) (.int .i64 e)
  have c2 := cell3_2 (is_got h5) (.bool false) (.slice none 0 0) (.int .i64 e)
  have b3 := (((h10.setCell (p := ⟨w.heap.size + 1, 0, none⟩) (show w.heap.size ≤ w.heap.size + 1 by omega) (.bool false)).setCell (p := ⟨w.heap.size + 1, 1, none⟩) (show w.heap.size ≤ w.heap.size + 1 by omega) (.slice none 0 0)).setCell (p := ⟨w.heap.size + 1, 2, none⟩) (show w.heap.size ≤ w.heap.size + 1 by omega) (.int .i64 e))
  clear h1 h2 h3 h4 h5 h6 h7 h8 h9 h10
  go_wp2
  refine bodyPost_ret (v := .agg #[.bool false, .slice none 0 0, .int .i64 e]) (by simp [results, Tryd.results45, go_sem, c0, c1, c2]) rfl ⟨rfl, b3⟩
/-- the document's Of, of every number -/
theorem of_any (m e : Int) (h0 : -9223372036854775808 ≤ m) (h1 : m ≤ 9223372036854775807) (w : World) :
    Calls Tryd.prog 45 #[numV m e] w fun r w' => ∃ v, r = .returned (.agg #[.bool (decide (m < 0)), v, .int .i64 e]) ∧ Vd w' v (digs m) ∧ Below w.heap.size w w' := by
  by_cases hm : m = 0
  · subst hm
    have hz : digs 0 = [] := List.eq_nil_of_length_eq_zero (by rw [digs_len]; exact nd_zero)
    refine (of_zero e w).mono fun r w' ⟨he, hb⟩ => ⟨_, he, .inl ⟨rfl, hz⟩, hb⟩
  · obtain ⟨a1, a2, a3⟩ := digs_val m
    refine (of_some m e _ rfl hm h0 h1 w).mono fun r w' ⟨g, c, he, ho, hb⟩ => ?_
    rw [← a1, dI_map _ _ rfl a2 a3] at he ho
    obtain ⟨A, c2, e2, q1, q2, q3⟩ := ho.rd
    simp only [Value.slice.injEq] at e2
    obtain ⟨rfl, _, rfl⟩ := e2
    simp only [List.length_map] at he q1
    have q4 := RdI.digits q3
    have hl : 0 < (digs m).length := by
      rw [digs_len]
      cases hz : nd m.natAbs with
      | zero => have := lt_pow_nd m.natAbs; rw [hz] at this; simp at this; omega
      | succ k => omega
    obtain ⟨b, off, e3, hlt, hc⟩ := q4 hl
    simp only [Option.some.injEq, Addr.mk.injEq, and_true] at e3
    obtain ⟨rfl, rfl⟩ := e3
    exact ⟨_, he, .inr ⟨g, 0, c, rfl, q1, q2, hlt, hc⟩, hb⟩
end Go.Proofs.YtkdjdoncmihkfaaDoor
