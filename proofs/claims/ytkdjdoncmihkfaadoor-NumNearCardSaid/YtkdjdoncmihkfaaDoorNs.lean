/- Walks over num.stretched and num.filled. -/
import Derived.Test.YtkdjdoncmihkfaaDoorNm
import Derived.Lib.AppendZerosOnto
namespace Go.Proofs.YtkdjdoncmihkfaaDoor
open Go.RowKit

theorem zeroCells_one (z : Value) (k : Nat) : (Builtin.zeroCells #[z] k).toList = List.replicate k z := by
  apply List.ext_getElem
  · simp [Builtin.zeroCells]
  · intro i h1 h2
    simp [Builtin.zeroCells, Nat.mod_one]

/-- noughts put behind a row of one's own, in place of a made slice's -/
theorem run_zeros_own {P : Program} (w : World) (base : Nat) (t tn ty e : TypeId) (i : TypeInfo) (z : Value) (kq kn : IntKind) (ht : P.underlying t = some (.slice e)) (htn : P.underlying tn = some (.int kn)) (hi : P.info? e = some i) (hz : i.zero = some z)
    (hsize : i.size = 1) (hby : i.bytes = 1) (hzc : z.cells = #[z]) (h1 : z.oneCell' = true)
    (g n cap : Nat) (xs : List Value) (hown : w.ownsRow base e 1 (.slice (some ⟨g, 0, none⟩) n cap) n xs)
    (k : Nat) (h63 : n + k ≤ 1000000) (hbase : base ≤ w.heap.size) :
    ∃ v' w', (Builtin.append_ #[t, tn] ty #[.slice (some ⟨g, 0, none⟩) n cap, .int kq k]).run P w = .ok v' w' ∧ w'.ownsRow base e 1 v' (n + k) (xs ++ List.replicate k z) ∧ w.grownBy w' (some g) ∧ ¬ v' = .slice none 0 0 := by
  have hl : (xs ++ List.replicate k z).length = (n + k) * 1 := by rw [List.length_append, hown.1, List.length_replicate]; omega
  have hwk : IntKind.i64.wrap (k : Int) = k := by rw [IntKind.wrap_i64]; omega
  have hneg : ¬ ((k : Int) < 0) := by omega
  rcases hown.2 with ⟨h, _⟩ | ⟨g', cap', cur, h, hbg, hg, hnc, hcm, hcs, htake⟩
  · simp at h
  · simp only [Value.slice.injEq, Option.some.injEq, Addr.mk.injEq, and_true, true_and] at h
    obtain ⟨rfl, rfl⟩ := h
    by_cases hroom : n + k ≤ cap
    · have hst := run_storeCells_at P g (n * 1) e (List.replicate k z) 0 cur w hg (by simp; omega) (fun u hu => by rw [List.eq_of_mem_replicate hu]; exact h1)
      simp only [Nat.add_zero, Nat.mul_one] at hst
      have h48i : ¬ (281474976710656 < (k : Int)) := by omega
      have hw0 : IntKind.i64.wrap 0 = 0 := by rw [IntKind.wrap_i64]; rfl
      refine ⟨.slice (some ⟨g, 0, none⟩) (n + k) cap, w.setRow g (cur.toList.take n ++ List.replicate k z ++ cur.toList.drop (n + (List.replicate k z).length)).toArray, ?_, ⟨hl, .inr ⟨g, cap, _, rfl, hbg, setRow_heap w g cur _ e _ hg, hroom, hcm, ?_, ?_⟩⟩, ⟨rfl, rfl, rfl, by simp, fun k _ hk => setRow_other w g k _ (fun e => hk (by simp [e]))⟩, by simp⟩
      · by_cases hk0 : k = 0
        · subst hk0
          simp at hst
          simp [Builtin.append_, run_underlying ht, run_underlying htn, sizeOf, typeInfo, hi, asInt, asIntOf, hsize, hby, hw0, hnc, Addr.add_lit, hst]
        · simp [Builtin.append_, run_underlying ht, run_underlying htn, sizeOf, typeInfo, zeroValue, hi, hz, asInt, asIntOf, hsize, hby, hwk, hneg, h48i, hroom, hk0, hzc, zeroCells_one, Addr.add_lit, hst]
      · simp only [List.size_toArray, List.length_append, List.length_take, List.length_drop, Array.length_toList, List.length_replicate]
        omega
      · have h1' := hown.1
        rw [Nat.mul_one] at htake h1'
        show List.take _ (List.take n cur.toList ++ List.replicate k z ++ _) = _
        rw [htake, Nat.mul_one]
        exact List.take_left' (by rw [List.length_append, List.length_replicate]; omega)
    · have holds : ∀ j u, xs[j]? = some u → w.drew.cell? ((⟨g, 0, none⟩ : Addr).add j) = some u := fun j u hu => hown.cells (g := g) rfl j u hu
      have hfc := run_firstCells_some (P := P) w.drew i.size n ⟨g, 0, none⟩ n cap xs (by rw [hown.1, hsize]) holds
      have hk0 : 0 < k := by omega
      have hr := Lib.run_append_grow_zeros (P := P) w t tn ty e i z kq kn ht htn hi hz (some ⟨g, 0, none⟩) n cap xs hfc k hk0 (by omega) (by omega) (by omega) (by rw [hby]; omega) (by rw [hby]; exact growslice_fits (bytes := 1) (by omega) (by omega))
      have hge := grownCap_ge w (n + k) cap e
      have hcm2 : grownCap w (n + k) cap e ≤ maxLen := grownCap_le_maxLen w (n + k) cap e (by unfold maxLen; omega)
      refine ⟨_, _, hr, ⟨hl, .inr ⟨w.heap.size, _, _, rfl, hbase, heap_alloc_new w.drew _, hge, hcm2, ?_, ?_⟩⟩, ⟨rfl, rfl, rfl, by simp, fun k hk _ => heap_alloc_old w.drew _ hk⟩, by simp⟩
      · simp only [Array.size_append, List.size_toArray, size_zeroCells, hzc, hown.1]
        simp
        omega
      · simp only [Array.toList_append, hzc, zeroCells_one]
        have h1' := hown.1
        exact List.take_left' (by rw [List.length_append, List.length_replicate]; omega)

set_option maxRecDepth 1000000 in
set_option maxHeartbeats 2000000 in
/-- stretched: a right number's digits, and as many noughts behind as its exponent stands higher -/
theorem stretched_any (m e x : Int) (k : Nat) (hk : (k : Int) = e - x) (hk2 : k ≤ 1000) (hm0 : -9223372036854775808 ≤ m) (hm1 : m ≤ 9223372036854775807) (w : World) (ht : Tab w) :
    Calls Tryd.prog 51 #[numV m e, .int .i64 x] w fun r w' => ∃ v, r = .returned (.tuple #[.bool (decide (m < 0)), v]) ∧ Own w' w.heap.size v (digs m ++ List.replicate k 0) ∧ Below w.heap.size w w' := by
  obtain ⟨i0, hi, hz0, hz1, hz2⟩ := info_parts info5
  have dl := digs_length m hm0 hm1
  obtain ⟨ng, hng⟩ : ∃ ng, ng = decide (m < 0) := ⟨_, rfl⟩
  have D1 : Hid (∀ w1, Tab w1 → Calls Tryd.prog 47 #[.int .i64 m] w1 fun e w' => ∃ v, e = .returned (.tuple #[.bool ng, v]) ∧ Own w' w1.heap.size v (digs m) ∧ Below w1.heap.size w1 w') := by
    intro w1 h; rw [hng]; exact digits_any m hm0 hm1 w1 h
  rw [← hng]
  obtain ⟨D, hD⟩ : ∃ A, A = digs m := ⟨_, rfl⟩
  rw [← hD] at D1 dl ⊢
  have hsub : e - x = (k : Int) := hk.symm
  have HT := Lib.hid ht
  clear hD hng ht hk
  unfold numV
  go_enter Tryd.func51, Tryd.ntmps51
  go_wp2_with fail
  have S0 := Slot.new w m e
  have b0 : Below w.heap.size w (w.alloc (.cells #[.int .i64 m, .int .i64 e] 24)) := alloc_below _ _
  refine (D1.out _ (HT.out.below b0)).mono ?_
  rintro e w1 ⟨v, rfl, hown, hb1⟩
  have S1 := S0.below hb1 (by simp)
  have q1 := below_slot hb1
  have hown1 : Own w1 w.heap.size v D := by
    refine ⟨⟨hown.1.1, ?_⟩, hown.2⟩
    rcases hown.1.2 with h' | ⟨g', cap', cur, h', hb, hg⟩
    · exact .inl h'
    · exact .inr ⟨g', cap', cur, h', by simp at hb; omega, hg⟩
  have hBw := q1.size
  obtain ⟨g, cp, rfl⟩ := hown.2
  clear S0 b0 hb1 hown D1 HT
  obtain ⟨p0, p1, p2, p3⟩ := S1
  obtain ⟨v', w2, hr, hown2, hgrow, hnil⟩ := run_zeros_own (P := Tryd.prog) w1 w.heap.size 49 3 49 5 i0 (.int .u8 0) .i64 .i64 Tryd.underlying49 Tryd.underlying3 hi hz0 hz1 hz2 rfl rfl g D.length cp (cel D) hown1.1 k (by omega) hBw
  have R : Own w2 w.heap.size v' (D ++ List.replicate k 0) ∧ Below w.heap.size w w2 := by
    refine ⟨⟨?_, ?_⟩, Below.grown q1 hgrow (by omega) (fun j hj => by have := hown1.1.lt g rfl; simp at hj; omega)⟩
    · rw [List.length_append, List.length_replicate, show cel (D ++ List.replicate k 0) = cel D ++ List.replicate k (.int .u8 0) by simp [cel]]
      exact hown2
    · rcases hown2.2 with ⟨h, _⟩ | ⟨g2, c2, _, h, _⟩
      · exact absurd h hnil
      · exact ⟨g2, c2, by rw [h]; simp⟩
  have HR := Lib.hid hr
  clear hown2 hgrow hnil hown1 q1 hr
  go_wp2_with (first
    | (at_builtin; refine Lib.wpList_append_run _ rfl _ _ 49 3 rfl _ _ rfl rfl v' w2 HR.out ?_))
  go_ret2
  exact ⟨_, rfl, R.1, R.2⟩

/-- a row of one's own, the base lower -/
theorem Own.mono {w : World} {B B' : Nat} {v : Value} {l : List UInt8} (h : Own w B v l) (hB : B' ≤ B) : Own w B' v l := by
  obtain ⟨⟨h1, h2⟩, h3⟩ := h
  refine ⟨⟨h1, ?_⟩, h3⟩
  rcases h2 with h' | ⟨g', cap', cur, h', hb, hg⟩
  · exact .inl h'
  · exact .inr ⟨g', cap', cur, h', by omega, hg⟩
theorem made_own {w1 : World} {B g n : Nat} (h : w1.ownsRow B 5 1 (.slice (some ⟨g, 0, none⟩) n n) n (madeCells (Value.cells (.int .u8 0)) (n * 1)).toList) : Own w1 B (.slice (some ⟨g, 0, none⟩) n n) (List.replicate n 0) := by
  have e : (madeCells (Value.cells (.int .u8 0)) (n * 1)).toList = cel (List.replicate n 0) := by
    apply List.ext_getElem
    · simp [madeCells, cel]
    · intro i h1 h2
      simp [madeCells, cel, Value.cells, Nat.mod_one]
  rw [e] at h
  exact ⟨by simpa using h, g, n, by simp⟩

set_option maxRecDepth 1000000 in
set_option maxHeartbeats 2000000 in
/-- filled: noughts ahead -/
theorem filled_any (g c n s : Nat) (B : Nat) (l : List UInt8) (w : World) (hown : Own w B (.slice (some ⟨g, 0, none⟩) l.length c) l) (hs : s = l.length + n) (hs2 : s ≤ 100000) :
    Calls Tryd.prog 52 #[.slice (some ⟨g, 0, none⟩) l.length c, .int .i64 (s : Int)] w fun r w' => ∃ g' c', r = .returned (.slice (some ⟨g', 0, none⟩) s c') ∧ Own w' w.heap.size (.slice (some ⟨g', 0, none⟩) s c') (List.replicate n 0 ++ l) ∧ Below w.heap.size w w' := by
  obtain ⟨i0, hi, hz0, hz1, hz2⟩ := info_parts info5
  obtain ⟨w1, hmk, hown0, hgr⟩ := run_make_full (P := Tryd.prog) w w.heap.size 49 5 i0 (.int .u8 0) 1 Tryd.underlying49 hi hz0 hz1 .i64 .i64 n (by rw [hz2]; omega) (by unfold maxLen; omega) (Nat.le_refl _)
  have hb1 : Below w.heap.size w w1 := Below.grown (Below.refl _ _) hgr (Nat.le_refl _) (fun j hj => by cases hj)
  have hown1 := made_own hown0
  have hown1' : w1.ownsRow w.heap.size 5 1 (.slice (some ⟨w.heap.size, 0, none⟩) n n) n (cel (List.replicate n 0)) := by have := hown1.1; rwa [List.length_replicate] at this
  have hownl := hown.below (hb1)
  have hnews : ∀ j u, (cel l)[j]? = some u → w1.cell? ((⟨g, 0, none⟩ : Addr).add j) = some u := by
    intro j u hj
    have hjl : j < l.length := by have := (List.getElem?_eq_some_iff.1 hj).1; rwa [cel_length] at this
    have h1 := (hownl.at (List.getElem?_eq_getElem hjl)).1
    have h2 : u = .int .u8 ((l[j]).toNat : Int) := by simpa [cel, hjl] using hj.symm
    rw [h2, ← h1]
    by_cases hj0 : j = 0
    · subst hj0; rfl
    · simp [Addr.add, hj0]
  have hone : ∀ u ∈ cel l, u.oneCell' = true := by intro u hu; simp [cel] at hu; obtain ⟨x, _, rfl⟩ := hu; rfl
  have hcl := cel_length l
  have hsub : (s : Int) - l.length = n := by omega
  have hn2 : n + l.length ≤ 100000 := by omega
  have HS := Lib.hid hs
  clear hown hown0 hgr hownl hs
  go_enter Tryd.func52, Tryd.ntmps52
  go_wp2_with (first
    | (at_builtin; refine wpList_append_own _ rfl _ _ 49 rfl w.heap.size 5 i0 (.int .u8 0) 1 1 Tryd.underlying49 hi hz0 hz1 hz2 rfl (by decide) _ _ _ rfl hown1' ⟨g, 0, none⟩ l.length c (cel l) rfl (by omega) hnews hone (by unfold maxLen; omega) (by omega) hb1.size ?_))
  intro v' w2 hown2 hgrow hnil
  have R : Below w.heap.size w w2 := Below.grown hb1 hgrow hb1.size (fun j hj => by have := (hown1.1.lt j hj).1; omega)
  have hsl : (List.replicate n (0 : UInt8) ++ l).length = n + l.length := by simp
  have hce : cel (List.replicate n 0 ++ l) = cel (List.replicate n 0) ++ cel l := by simp [cel]
  obtain ⟨g', c', rfl⟩ : ∃ g' c', v' = .slice (some ⟨g', 0, none⟩) (n + l.length) c' := by
    rcases hown2.2 with ⟨h, _⟩ | ⟨g2, c2, _, h, _⟩
    · exact absurd h hnil
    · exact ⟨g2, c2, h⟩
  have hsn : n + l.length = s := by have := HS.out; omega
  have R1 : Own w2 w.heap.size (.slice (some ⟨g', 0, none⟩) s c') (List.replicate n 0 ++ l) := by
    refine ⟨?_, g', c', by rw [hsl, hsn]⟩
    rw [hsl, hce, ← hsn]; exact hown2
  rw [hsn]
  clear hown2 hgrow hnil hown1 hown1' hnews hone hcl hce hsl hsub hn2 hmk hb1
  go_wp2
  go_ret
  exact ⟨g', c', rfl, R1, R⟩
end Go.Proofs.YtkdjdoncmihkfaaDoor
