/- The tokens of a text. -/
import Derived.Test.YtcnmghkmognhoaaDoorOa
namespace Go.Proofs.YtcnmghkmognhoaaDoor
open Go.RowKit Go.Shelf

/-- what Lex tells -/
def LexOut (w : World) (L : List UInt8) (e : Ending) (w' : World) : Prop :=
  (match lexG L 0 with
    | .inl l => ∃ v, e = .returned (.tuple #[v, .int .i64 0, .int .i64 0]) ∧ w'.ownsRow w.heap.size 39 3 v l.length (flatT l)
    | .inr b => e = .returned (.tuple #[.slice none 0 0, .int .i64 (b : Int), .int .i64 7])) ∧ Below w.heap.size w w'
theorem lexOut_ok {w w' : World} {L : List UInt8} {l : List Tok} {v : Value} (h : lexG L 0 = .inl l) (hr : w'.ownsRow w.heap.size 39 3 v l.length (flatT l)) (hb : Below w.heap.size w w') : LexOut w L (.returned (.tuple #[v, .int .i64 0, .int .i64 0])) w' := by
  unfold LexOut
  rw [h]
  exact ⟨⟨v, rfl, hr⟩, hb⟩
theorem lexOut_bad {w w' : World} {L : List UInt8} {b : Nat} (h : lexG L 0 = .inr b) (hb : Below w.heap.size w w') : LexOut w L (.returned (.tuple #[.slice none 0 0, .int .i64 (b : Int), .int .i64 7])) w' := by
  unfold LexOut
  rw [h]
  exact ⟨rfl, hb⟩
set_option maxRecDepth 100000 in
set_option maxHeartbeats 2000000 in
theorem lex_any (s : ByteArray) (hs : s.size ≤ 100000) (w : World) (he : Env w) : Calls Tryd.prog 11 #[.string s] w (LexOut w s.data.toList) := by
  obtain ⟨i0, hj, hj0, hj1, hj2⟩ := info_parts info39
  obtain ⟨L, hL⟩ : ∃ L, s.data.toList = L := ⟨_, rfl⟩
  have hLs : L.length = s.size := by rw [← hL]; exact size_list s
  rw [hL]
  obtain ⟨Q, hQ⟩ : ∃ Q, LexOut w L = Q := ⟨_, rfl⟩
  rw [hQ]
  obtain ⟨G, hG⟩ : ∃ G, lexG L 0 = G := ⟨_, rfl⟩
  have HQ := Lib.hid hQ
  have HL := Lib.hid hL
  have HE := Lib.hid he
  have HG := Lib.hid hG
  have HLS := Lib.hid hLs
  have hnil0 : w.ownsRow w.heap.size 39 3 (.slice none 0 0) 0 [] := ⟨rfl, .inl ⟨rfl, rfl⟩⟩
  have HN0 := Lib.hid hnil0
  clear hQ hL hG hLs he hnil0
  go_enter Tryd.func11, Tryd.ntmps11
  go_wp2_with fail
  go_loopw [5, 6] (fun v i wr => ∃ (k : Nat) (l : List Tok), k ≤ s.size ∧ i = .int .i64 (k : Int) ∧ wr.ownsRow w.heap.size 39 3 v l.length (flatT l) ∧ l.length ≤ k ∧ Hid (joinG l (lexG L k) = G) ∧ Below w.heap.size w wr) (fun _ i _ => s.size - (intOf i).toNat)
  case atStart => exact ⟨0, [], by omega, rfl, HN0.out, Nat.le_refl _, Lib.hid (by rw [HG.out]; cases G <;> rfl), Below.refl _ _⟩
  case round =>
    obtain ⟨k, l, hk, rfl, hrow, hlk, HJ, hB⟩ := hrel
    obtain ⟨A, c0, rfl⟩ := own_shape hrow
    have HROW := Lib.hid hrow
    have HB := Lib.hid hB
    clear hrow hB
    by_cases hlt : k < s.size
    · have hd := drop_get s k hlt
      rw [HL.out] at hd
      obtain ⟨c, hc⟩ : ∃ c, s[k] = c := ⟨_, rfl⟩
      obtain ⟨t, ht⟩ : ∃ t, L.drop (k + 1) = t := ⟨_, rfl⟩
      rw [hc, ht] at hd
      have hi : (k : Int) < (s.size : Int) := by omega
      have hi0 : (0 : Int) ≤ (k : Int) := by omega
      have hi1 : (k : Int) ≤ (s.size : Int) := by omega
      have HC := Lib.hid hc
      by_cases hsp : c = 32
      · have hq : ((s[k].toNat : Int) == 32) = true := by rw [HC.out, hsp]; decide
        rw [hsp] at hd
        have HJ2 : Hid (joinG l (lexG L (k + 1)) = G) := Lib.hid (by rw [← lexG_blank hd]; exact HJ.out)
        clear hd hc ht hsp
        go_wp2_with fail
        go_roundw
        case rel => exact ⟨k + 1, l, by omega, by simp, HROW.out, by omega, HJ2, HB.out⟩
        case measure => simp [intOf]; omega
      · have hcn : c.toNat ≠ 32 := fun e => hsp (UInt8.toNat_inj.1 e)
        have hq : ((s[k].toNat : Int) == 32) = false := by rw [HC.out, beq_eq_false_iff_ne]; omega
        have hq2 : ¬ (s[k].toNat : Int) = 32 := by rw [HC.out]; omega
        obtain ⟨⟨kd, tx, a0⟩, n, hf⟩ : ∃ tk n, firstF (c :: t) = (tk, n) := ⟨_, _, rfl⟩
        have hstep := lexG_step hd hsp hf
        have hnle : n ≤ s.size - k := by
          have h1 := first_le (c :: t)
          have h2 : (L.drop k).length = (c :: t).length := by rw [hd]
          rw [hf] at h1
          rw [List.length_drop, HLS.out] at h2
          simp only at h1
          omega
        have hcall := first_any (s.extract k s.size) (by rw [ByteArray.size_extract]; omega) (by rw [ByteArray.size_extract]; omega) wr (HE.out.below HB.out)
        rw [cut_end, HL.out, hd] at hcall
        unfold firstV tokV at hcall
        rw [hf] at hcall
        simp only at hcall
        obtain ⟨ts, hts⟩ : ∃ ts : ByteArray, ⟨tx.toArray⟩ = ts := ⟨_, rfl⟩
        rw [hts] at hcall
        have HCALL := Lib.hid hcall
        have HSTEP := Lib.hid hstep
        have HTS := Lib.hid hts
        clear hcall hstep hf hd hc ht hsp hcn hts
        go_wp2_with fail
        refine HCALL.out.mono ?_
        rintro e w1 ⟨rfl, hb1⟩
        have hrow1 := rowG_later HROW.out hb1
        have HB1 := Lib.hid (HB.out.trans (hb1.mono HB.out.size))
        have HROW1 := Lib.hid hrow1
        clear hb1 hrow1 HCALL HB HROW hq hq2
        by_cases hn0 : n = 0
        · subst hn0
          have hGb : G = .inr k := by rw [← HJ.out, HSTEP.out, if_pos rfl]; rfl
          have HGB := Lib.hid (HG.out.trans hGb)
          clear hGb HJ HSTEP
          go_wp2
          have hfin := lexOut_bad HGB.out (HB1.out.alloc HB1.out.size (.cells #[.int .i64 kd, .string ts, .int .i64 a0] 39))
          rw [HQ.out] at hfin
          exact bodyPost_ret (v := .tuple #[.slice none 0 0, .int .i64 (k : Int), .int .i64 7]) (by simp [results, Tryd.f11, go_sem]) rfl hfin
        · have hn0i : ((n : Int) == 0) = false := by rw [beq_eq_false_iff_ne]; omega
          have hn0j : ¬ (n : Int) = 0 := by omega
          have hJ2 : joinG (l ++ [⟨kd, tx, k⟩]) (lexG L (k + n)) = G := by rw [← joinG_app, ← HJ.out, HSTEP.out, if_neg hn0]
          have HJ2 := Lib.hid hJ2
          have hba : Below w1.heap.size w1 ((w1.alloc (.cells #[.int .i64 kd, .string ts, .int .i64 (k : Int)] 39)).alloc (.cells #[.int .i64 kd, .string ts, .int .i64 (k : Int)] 39)) := ((Below.refl _ _).alloc (Nat.le_refl _) _).alloc (by simp) _
          have HR2 := Lib.hid (rowG_later HROW1.out hba)
          have HB2 := Lib.hid (HB1.out.trans (hba.mono HB1.out.size))
          have hl60 : l.length ≤ 100000 := by omega
          clear hJ2 HJ HSTEP HC hn0 hba
          go_wp2_with (at_builtin; go_loud (refine wpList_append_own _ rfl _ _ 23 rfl w.heap.size 39 i0 (.agg #[.int .i64 0, .string ⟨#[]⟩, .int .i64 0]) 3 32 Tryd.underlying23 hj hj0 hj1 hj2 rfl (by decide) _ _ _ rfl HR2.out ⟨_, 0, none⟩ 1 1 [.int .i64 kd, .string ts, .int .i64 (k : Int)] rfl rfl (lit39 (by simp)) (one39 _ _ _) (by unfold maxLen; omega) (by omega) HB2.out.size ?_; intro v2 w4 hown2 hgrow2 hnil2; obtain ⟨A2, c2, rfl⟩ := own_shape hown2; have HR4 := Lib.hid hown2; have HB4 := Lib.hid (HB2.out.grown hgrow2 HB2.out.size (fun j e => (rowG_lt HR2.out e).2)); clear hown2 hgrow2 hnil2))
          go_roundw
          case rel => exact ⟨k + n, l ++ [⟨kd, tx, k⟩], by omega, by simp, by
            rw [List.length_append, flatT_app]
            have := HR4.out
            rw [← HTS.out] at this
            exact this, by simp; omega, HJ2, HB4.out⟩
          case measure => simp [intOf]; omega
    · obtain rfl : k = s.size := by omega
      have hi : ¬ (s.size : Int) < (s.size : Int) := by omega
      have hGe : lexG L 0 = .inl (l ++ [⟨0, [], s.size⟩]) := by rw [HG.out, ← HJ.out, lexG_end (by rw [HLS.out]; exact Nat.le_refl _)]; rfl
      have HGE := Lib.hid hGe
      have hba : Below wr.heap.size wr (wr.alloc (.cells #[.int .i64 0, .string ⟨#[]⟩, .int .i64 (s.size : Int)] 39)) := (Below.refl _ _).alloc (Nat.le_refl _) _
      have HR2 := Lib.hid (rowG_later HROW.out hba)
      have HB2 := Lib.hid (HB.out.trans (hba.mono HB.out.size))
      have hl60 : l.length ≤ 100000 := by omega
      clear hGe HJ hba
      go_wp2_with (at_builtin; go_loud (refine wpList_append_own _ rfl _ _ 23 rfl w.heap.size 39 i0 (.agg #[.int .i64 0, .string ⟨#[]⟩, .int .i64 0]) 3 32 Tryd.underlying23 hj hj0 hj1 hj2 rfl (by decide) _ _ _ rfl HR2.out ⟨_, 0, none⟩ 1 1 [.int .i64 0, .string ⟨#[]⟩, .int .i64 (s.size : Int)] rfl rfl (lit39 rfl) (one39 _ _ _) (by unfold maxLen; omega) (by omega) HB2.out.size ?_; intro v2 w4 hown2 hgrow2 hnil2; obtain ⟨A2, c2, rfl⟩ := own_shape hown2; have HR4 := Lib.hid hown2; have HB4 := Lib.hid (HB2.out.grown hgrow2 HB2.out.size (fun j e => (rowG_lt HR2.out e).2)); clear hown2 hgrow2 hnil2))
      have hfin := lexOut_ok (w := w) (v := .slice A2 (l.length + 1) c2) HGE.out (by rw [List.length_append, flatT_app]; exact HR4.out) HB4.out
      rw [HQ.out] at hfin
      exact bodyPost_ret (v := .tuple #[.slice A2 (l.length + 1) c2, .int .i64 0, .int .i64 0]) (by simp [results, Tryd.f11, go_sem]) rfl hfin
end Go.Proofs.YtcnmghkmognhoaaDoor
