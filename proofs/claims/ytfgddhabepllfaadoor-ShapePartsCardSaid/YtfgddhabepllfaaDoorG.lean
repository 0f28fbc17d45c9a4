/- build, of whatever function of places. -/
import Derived.Test.YtfgddhabepllfaaDoorF
namespace Go.Proofs.YtfgddhabepllfaaDoor
open Go.RowKit

theorem Bs.first {w : World} {R C : Nat} {S0 : Nat → Prop} {I : Nat → (Nat → Prop) → World → Prop} {F : Nat → Nat → Vl} (hG : ∀ n S w w', I n S w → Only (fun k => ¬ S k) w w' → I n S w') (hlt : ∀ n S w, I n S w → ∀ k, S k → k < w.heap.size) (h0 : I 0 S0 w) :
    Bs w R C S0 I F 0 [] S0 none 0 ((w.alloc (.cells #[.int .i64 0, .int .i64 0, .slice none 0 0] 25)).alloc (.cells #[.int .i64 (R : Int), .int .i64 (C : Int), .slice none 0 0] 25)) := by
  have hb : Below w.heap.size w ((w.alloc (.cells #[.int .i64 0, .int .i64 0, .slice none 0 0] 25)).alloc (.cells #[.int .i64 (R : Int), .int .i64 (C : Int), .slice none 0 0] 25)) := ((Below.refl _ _).alloc (Nat.le_refl _) _).alloc (by simp) _
  refine ⟨hG _ _ _ _ h0 ((Only.of_below hb).mono (fun b h1 h2 => by omega)), ?_, ?_, ⟨rfl, .inl ⟨rfl, rfl⟩⟩, fun g e => (by cases e), fun h => (by have := hlt _ _ _ h0 _ h; omega), fun h => (by have := hlt _ _ _ h0 _ h; omega), (Only.of_below hb).mono (fun b h1 h2 => by omega), fun k hk => .inl hk⟩
  · exact (Below.heap_alloc _ _ _ (by simp)).trans (heap_alloc_new w _)
  · have := heap_alloc_new (w.alloc (.cells #[.int .i64 0, .int .i64 0, .slice none 0 0] 25)) (.cells #[.int .i64 (R : Int), .int .i64 (C : Int), .slice none 0 0] 25)
    rwa [World.size_alloc] at this
/-- what build leaves -/
def BOut (w : World) (R C : Nat) (S0 : Nat → Prop) (I : Nat → (Nat → Prop) → World → Prop) (F : Nat → Nat → Vl) (e : Ending) (w' : World) : Prop :=
  ∃ v S', e = .returned (arV R C v) ∧ ValAt w'.heap.size w' v (bld R C F) ∧ I (R * C) S' w' ∧ Only S0 w w' ∧ ∀ k, S' k → S0 k ∨ w.heap.size ≤ k
set_option maxRecDepth 100000 in
set_option maxHeartbeats 2000000 in
theorem build_any {I : Nat → (Nat → Prop) → World → Prop} {R C : Nat} {F : Nat → Nat → Vl} {N : Nat} {caps : Array Value} (hG : Gen I R C F N caps) (hRC : R * C ≤ 4096) (hR4 : R ≤ 4096) (hC4 : C ≤ 4096) (S0 : Nat → Prop) (w : World) (h0 : I 0 S0 w) :
    Calls Tryd.prog 55 #[.int .i64 (R : Int), .int .i64 (C : Int), .func (.func N) #[] caps] w (BOut w R C S0 I F) := by
  obtain ⟨i0, hj, hj0, hj1, hj2⟩ := info_parts info34
  obtain ⟨Q, hQ⟩ : ∃ Q, BOut w R C S0 I F = Q := ⟨_, rfl⟩
  rw [hQ]
  have HQ := Lib.hid hQ
  have HG := Lib.hid hG
  have HF := Lib.hid (Bs.first (R := R) (C := C) (F := F) hG.stab hG.lt h0)
  have HRC := Lib.hid hRC
  have hE := hG.ent
  clear hQ hG h0 hRC
  go_enter Tryd.func55, Tryd.ntmps55
  go_wp2_with fail
  go_loopw [14] (fun i wr => ∃ (k : Nat) (S : Nat → Prop) (A : Option Addr) (cp : Nat), k ≤ R ∧ i = .int .i64 (k : Int) ∧ Bs w R C S0 I F (k * C) (bld k C F) S A cp wr) (fun i _ => R - (intOf i).toNat)
  case atStart => exact ⟨0, S0, none, 0, by omega, rfl, by simpa [bld] using HF.out⟩
  case round =>
    obtain ⟨i, S1, A1, cp1, hi, rfl, hB1⟩ := hrel
    have HB1 := Lib.hid hB1
    clear hB1
    by_cases hlt : i < R
    · have hii : (i : Int) < (R : Int) := by omega
      go_wp2_with fail
      go_loopw [18] (fun jv wr => ∃ (j : Nat) (S : Nat → Prop) (A : Option Addr) (cp : Nat), j ≤ C ∧ jv = .int .i64 (j : Int) ∧ Bs w R C S0 I F (i * C + j) (bldP C F i j) S A cp wr) (fun jv _ => C - (intOf jv).toNat)
      case atStart => exact ⟨0, S1, A1, cp1, by omega, rfl, by simpa [bldP, row1] using HB1.out⟩
      case round =>
        obtain ⟨j, S, A, cp, hj9, rfl, hB⟩ := hrel
        by_cases hltj : j < C
        · have hcall := HG.out.step i j S wr.drew hlt hltj (HG.out.stab _ _ _ _ hB.inv (Only.draw _ _))
          have hn : i * C + j < R * C := place_in hlt hltj
          have hPS := bldP_succ C F i j
          obtain ⟨n, hn0⟩ : ∃ n, i * C + j = n := ⟨_, rfl⟩
          obtain ⟨l, hl0⟩ : ∃ l, bldP C F i j = l := ⟨_, rfl⟩
          obtain ⟨⟨xk, xm, xe, xt, xb, xf⟩, hx⟩ : ∃ x, F i j = x := ⟨_, rfl⟩
          rw [hx, hn0] at hcall
          rw [hn0, hl0] at hB
          rw [hx, hl0] at hPS
          unfold vV at hcall
          simp only at hcall
          have HCALL := Lib.hid hcall
          have HB := Lib.hid hB
          have HN := Lib.hid (show n < 4096 by have := HRC.out; omega)
          have HN0 := Lib.hid hn0
          have HPS := Lib.hid hPS
          have hji : (j : Int) < (C : Int) := by omega
          clear hcall hB hn hn0 hl0 hx hPS
          go_wp2_with fail
          refine wp_region_K 9 (S := fun X => X.heap[w.heap.size + 1]? = some (.cells #[.int .i64 (R : Int), .int .i64 (C : Int), .slice A n cp] 25 (0, 0))) (by kernel_rfl) HB.out.arr (fun hS => ?_)
          refine wpK_take [1, 7] (i := 0) (v := ?k0b) rfl (by kernel_rfl) (by kernel_rfl) (by kernel_rfl) (by kernel_rfl) (fun _ _ _ h => h) (Or.inl ⟨by kernel_rfl, ?g0b⟩) hS ?_
          case g0b => (rintro w9 hb9; obtain ⟨c0, c1, c2, _⟩ := box3 hb9; go_simp; try with_reducible rfl)
          refine wpK_take [7] (i := 1) (v := ?k1b) rfl (by kernel_rfl) (by kernel_rfl) (by kernel_rfl) (by kernel_rfl) (fun _ _ _ h => h) (Or.inl ⟨by kernel_rfl, ?g1b⟩) hS ?_
          case g1b => (rintro w9 hb9; obtain ⟨c0, c1, c2, _⟩ := box3 hb9; go_simp; try with_reducible rfl)
          refine wpK_take [5, 7] (i := 2) (v := ?k2b) rfl (by kernel_rfl) (by kernel_rfl) (by kernel_rfl) (by kernel_rfl) (fun _ _ _ h => h) (Or.inl ⟨by kernel_rfl, ?g2b⟩) hS ?_
          case g2b => (rintro w9 hb9; obtain ⟨c0, c1, c2, _⟩ := box3 hb9; go_simp; try with_reducible rfl)
          refine wpK_take [5, 7] (i := 3) (v := ?k3b) rfl (by kernel_rfl) (by kernel_rfl) (by kernel_rfl) (by kernel_rfl) (fun _ _ _ h => h) (Or.inl ⟨by kernel_rfl, ?g3b⟩) hS ?_
          case g3b => (rintro w9 hb9; obtain ⟨c0, c1, c2, _⟩ := box3 hb9; go_simp; try with_reducible rfl)
          refine wpK_take [5, 7] (i := 4) (v := ?k4b) rfl (by kernel_rfl) (by kernel_rfl) (by kernel_rfl) (by kernel_rfl) (fun _ _ _ h => h) (Or.inl ⟨by kernel_rfl, ?g4b⟩) hS ?_
          case g4b => (rintro w9 hb9; obtain ⟨c0, c1, c2, _⟩ := box3 hb9; go_simp; try with_reducible rfl)
          refine wpK_one (i := 5) (by kernel_rfl) rfl (fun K hK => ?_)
          go_simp
          go_wp2_with fail
          refine HCALL.out.mono ?_
          rintro e w1 ⟨rfl, S', hI1, hO1, hS1⟩
          have hlt := (Array.getElem?_eq_some_iff.1 HB.out.arr).1
          have HA1 := Lib.hid ((hO1.block (w.heap.size + 1) hlt HB.out.away2).trans HB.out.arr)
          have HROW1 := Lib.hid (row_kept HB.out.row (w' := w1) (fun g e => hO1.block g (row_lt HB.out.row e).1 (HB.out.away g e)))
          have HI1 := Lib.hid hI1
          have HO1 := Lib.hid hO1
          have HS1 := Lib.hid hS1
          have HZ1 := Lib.hid (show w.heap.size + 2 ≤ w1.heap.size by have := hO1.size; have h3 : wr.drew.heap.size = wr.heap.size := rfl; omega)
          clear hI1 hO1 hS1 hlt
          refine hK.out _ _ HA1.out (fun hS5 => ?_); clear hK K HCALL
          refine wpK_one (i := 6) (by kernel_rfl) rfl (fun K hK => ?_)
          go_simp
          have hba : Below w1.heap.size w1 (w1.alloc (.cells #[.int .i64 xk, .int .i64 xm, .int .i64 xe, .string xt, .bool xb, .int .i64 xf] 34)) := Nm.alloc_below _ _
          have HBA := Lib.hid hba
          have HR2 := Lib.hid (row_later HROW1.out hba)
          refine hK.out _ _ ((hba.block _ (by have := HZ1.out; omega)).trans HA1.out) (fun hS6 => ?_); clear hK K hba
          refine wpK_one (i := 7) (by kernel_rfl) rfl (fun K hK => ?_)
          refine wp_append_lies _ (.tmp 22) (.tmp 27) 22 rfl (w.heap.size + 2) 34 i0 (.agg #[.int .i64 0, .int .i64 0, .int .i64 0, .string ⟨#[]⟩, .bool false, .int .i64 0]) 6 56 Tryd.underlying22 hj hj0 hj1 hj2 rfl (by decide) (.slice A n cp) n (flatV l) (by go_simp) HR2.out ⟨w1.heap.size, 0, none⟩ 1 1 (vL ⟨xk, xm, xe, xt, xb, xf⟩) (by go_simp) rfl (lit6 rfl) (one6 _) (by omega) (by have := HN.out; unfold maxLen; omega) (by have := HN.out; omega) (by have := HZ1.out; have := HBA.out.size; omega) _ rfl ?_
          intro g0 cp' w4 hown4 hgrow4 hat4 hlt4
          have hlt1 := (Array.getElem?_eq_some_iff.1 HA1.out).1
          have HNX := Lib.hid (HB.out.next HG.out.stab HG.out.lt HI1.out HO1.out HS1.out HBA.out hown4 hgrow4 hat4)
          have ha4 : w4.heap[w.heap.size + 1]? = some (.cells #[.int .i64 (R : Int), .int .i64 (C : Int), .slice A n cp] 25 (0, 0)) := (hgrow4.block _ (by have := HBA.out.size; omega) (fun e => by have := (row_lt HR2.out e.symm).2; omega)).trans ((HBA.out.block _ hlt1).trans HA1.out)
          have HA4 := Lib.hid ha4
          clear hown4 hgrow4 hat4 hlt4 hlt1
          refine hK.out _ _ ha4 (fun hS7 => ?_); clear hK K ha4
          refine wpK_take [] (i := 8) (v := ?k8b) rfl (by kernel_rfl) (by kernel_rfl) (by kernel_rfl) (by kernel_rfl) (fun _ _ _ h => h) (Or.inl ⟨by kernel_rfl, ?g8b⟩) hS7 ?_
          case g8b => (rintro w9 hb9; obtain ⟨c0, c1, c2, _⟩ := box3 hb9; go_simp; try with_reducible rfl)
          obtain ⟨_, _, _, _, _, f2⟩ := box3 HA4.out
          refine wpK_last (by kernel_rfl) rfl (by kernel_rfl) (fun K hK => ?_)
          go_simp
          refine hK.out _ _ ?_; clear hK K hS hS5 hS6 hS7 f2
          go_wp2_with fail
          go_roundw
          case rel => exact ⟨j + 1, S', _, cp', by omega, by simp, by rw [HPS.out, ← Nat.add_assoc, HN0.out]; exact HNX.out⟩
          case measure => simp [intOf]; omega
        · obtain rfl : j = C := by omega
          have hji : ¬ (j : Int) < (j : Int) := by omega
          have HB := Lib.hid hB
          clear hB
          go_wp2_with fail
          go_roundw
          case rel => exact ⟨i + 1, S, A, cp, by omega, by simp, by rw [Nat.succ_mul]; exact HB.out⟩
          case measure => simp [intOf]; omega
    · obtain rfl : i = R := by omega
      have hii : ¬ (i : Int) < (i : Int) := by omega
      obtain ⟨c0, c1, c2, _⟩ := box3 HB1.out.arr
      obtain ⟨_, _, _, f0, f1, f2⟩ := box3 HB1.out.res
      go_wp2
      obtain ⟨r0, r1, r2, _⟩ := box3 (set3 (.int .i64 (i : Int)) (.int .i64 (C : Int)) (.slice A1 (i * C) cp1) HB1.out.res)
      have hfin : BOut w i C S0 I F (.returned (arV i C (.slice A1 (i * C) cp1))) ((((wr.setCell ⟨w.heap.size, 0, none⟩ (.int .i64 (i : Int))).setCell ⟨w.heap.size, 1, none⟩ (.int .i64 (C : Int))).setCell ⟨w.heap.size, 2, none⟩ (.slice A1 (i * C) cp1))) := by
        have hset : Only (fun b => b = w.heap.size) wr ((((wr.setCell ⟨w.heap.size, 0, none⟩ (.int .i64 (i : Int))).setCell ⟨w.heap.size, 1, none⟩ (.int .i64 (C : Int))).setCell ⟨w.heap.size, 2, none⟩ (.slice A1 (i * C) cp1))) :=
          (Only.set (a := ⟨w.heap.size, 0, none⟩) _).trans ((Only.set (a := ⟨w.heap.size, 1, none⟩) _).trans (Only.set (a := ⟨w.heap.size, 2, none⟩) _) (fun b h1 _ => h1)) (fun b h1 _ => h1)
        refine ⟨_, S1, rfl, ?_, HG.out.stab _ _ _ _ HB1.out.inv (hset.mono (fun b h1 _ hs => HB1.out.away1 (by rw [← show b = w.heap.size from h1]; exact hs))), HB1.out.only.trans hset (fun b h1 h2 => by have : b = w.heap.size := h1; omega), HB1.out.grow⟩
        have hrow := row_kept HB1.out.row (fun g e => hset.block g (row_lt HB1.out.row e).1 (fun h => by have := (row_lt HB1.out.row e).2; have : g = w.heap.size := h; omega))
        have hl : (bld i C F).length = i * C := bld_len _ _ _
        rw [← hl] at hrow
        have := val_of_row hrow rfl
        rwa [hl] at this
      rw [HQ.out] at hfin
      exact bodyPost_ret (v := arV i C (.slice A1 (i * C) cp1)) (by simp [results, Tryd.f55, go_sem, arV, r0, r1, r2]) rfl hfin
end Go.Proofs.YtfgddhabepllfaaDoor
