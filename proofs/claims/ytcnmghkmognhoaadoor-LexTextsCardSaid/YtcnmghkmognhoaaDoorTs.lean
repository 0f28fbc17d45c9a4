/- The law LexTexts: any bytes in quotes, with each quote twice, are one text, which means them. -/
import Derived.Test.YtcnmghkmognhoaaDoorPb
import Derived.Laws.IdiomStrings
namespace Go.Proofs.YtcnmghkmognhoaaDoor
open Go.RowKit Go.Shelf

/-- a slice that reads as these bytes -/
def BytesAt (w : World) (v : Value) (l : List UInt8) : Prop := ∃ A c, v = .slice A l.length c ∧ l.length ≤ c ∧ ∀ (k : Nat) x, l[k]? = some x → ∃ b o, A = some ⟨b, o, none⟩ ∧ w.cell? ⟨b, o + k, none⟩ = some (.int .u8 (x.toNat : Int))
theorem BytesAt.below {w w' : World} {v : Value} {l : List UInt8} (h : BytesAt w v l) (hb : Below w.heap.size w w') : BytesAt w' v l := by
  obtain ⟨A, c, hv, hc, h⟩ := h
  refine ⟨A, c, hv, hc, fun k x hk => ?_⟩
  obtain ⟨b, o, hA, h1⟩ := h k x hk
  exact ⟨b, o, hA, (hb.cell (p := ⟨b, o + k, none⟩) (cell_lt h1)).trans h1⟩
theorem add_lit (b o k : Nat) : (⟨b, o, none⟩ : Addr).add k = ⟨b, o + k, none⟩ := by unfold Addr.add; split <;> simp_all
theorem BytesAt.text {w : World} {v : Value} {l : List UInt8} (h : BytesAt w v l) : (convert 41 9 v).run Tryd.prog w = .ok (.string ⟨l.toArray⟩) w := by
  obtain ⟨A, c, rfl, hc, hI⟩ := h
  cases l with
  | nil =>
    cases A with
    | none =>
      show (convert 41 9 (.slice none 0 c)).run Tryd.prog w = _
      rw [run_convert_bytes_string w 41 9 5 none 0 c Tryd.underlying41 Tryd.underlying5 Tryd.underlying9]; rfl
    | some a =>
      exact run_convert_bytes_back (P := Tryd.prog) w 41 9 5 a c [] Tryd.underlying41 Tryd.underlying5 Tryd.underlying9 (fun j hj => by simp at hj)
  | cons x t =>
    obtain ⟨b, o, rfl, _⟩ := hI 0 x rfl
    refine run_convert_bytes_back (P := Tryd.prog) w 41 9 5 ⟨b, o, none⟩ c (x :: t) Tryd.underlying41 Tryd.underlying5 Tryd.underlying9 (fun j hj => ?_)
    obtain ⟨b', o', e, h1⟩ := hI j _ (List.getElem?_eq_getElem hj)
    injection e with e
    injection e with e1 e2
    subst e1 e2
    rw [add_lit]
    exact h1
theorem BytesAt.one {w : World} {b o n c : Nat} {l : List UInt8} (h : BytesAt w (.slice (some ⟨b, o, none⟩) n c) l) {k : Nat} {x : UInt8} (hk : l[k]? = some x) (c' : Nat) : (convert 41 9 (.slice (some ⟨b, o + k, none⟩) 1 c')).run Tryd.prog w = .ok (.string ⟨#[x]⟩) w := by
  obtain ⟨A, c, hv, hc, hI⟩ := h
  simp only [Value.slice.injEq] at hv
  obtain ⟨rfl, _, _⟩ := hv
  refine run_convert_bytes_back (P := Tryd.prog) w 41 9 5 ⟨b, o + k, none⟩ c' [x] Tryd.underlying41 Tryd.underlying5 Tryd.underlying9 (fun j hj => ?_)
  obtain rfl : j = 0 := by simpa using hj
  obtain ⟨b', o', e, h1⟩ := hI k _ hk
  injection e with e
  injection e with e1 e2
  subst e1 e2
  rw [add_lit]
  exact h1
theorem dbl_app : ∀ (l : List UInt8) (x : UInt8), dblF (l ++ [x]) = dblF l ++ (if x = 34 then [34, 34] else [x])
  | [], x => by simp [dblF]
  | y :: l, x => by
    simp only [List.cons_append, dblF]
    rw [dbl_app l x]
    split <;> simp
theorem dbl_len : ∀ l : List UInt8, (dblF l).length ≤ 2 * l.length
  | [] => Nat.le_refl _
  | y :: l => by
    rw [dblF]
    have := dbl_len l
    split <;> simp <;> omega
theorem lexG_text (b : List UInt8) : lexG (34 :: (dblF b ++ [34])) 0 = .inl [⟨2, b, 0⟩, ⟨0, [], ((dblF b).length + 2 : Nat)⟩] := lex_text b _
theorem lexG_open (b : List UInt8) : lexG (34 :: dblF b) 0 = .inr 0 := lex_open b _
set_option maxRecDepth 100000 in
set_option maxHeartbeats 4000000 in
theorem texts_any (v : Value) (l : List UInt8) (w : World) (hv : BytesAt w v l) (he : Env w) : Calls Tryd.prog 7 #[v] w fun e w' => e = .returned (.bool true) ∧ Below w.heap.size w w' := by
  have HE := Lib.hid he
  have HV := Lib.hid hv
  obtain ⟨A, c, rfl, hc, _⟩ := hv
  clear he
  by_cases hs : l.length ≤ 200
  rotate_left
  · have hsi : (200 : Int) < (l.length : Int) := by omega
    clear hs
    go_enter Tryd.func7, Tryd.ntmps7
    go_wp2_with fail
    refine (awake_any w HE.out).mono ?_
    rintro e w1 ⟨rfl, hb1⟩
    have HB1 := Lib.hid hb1
    clear hb1
    go_wp2_with fail
    refine (awake_any w1 (HE.out.below HB1.out)).mono ?_
    rintro e w2 ⟨rfl, hb2⟩
    have HB2 := Lib.hid (HB1.out.trans (hb2.mono HB1.out.size))
    clear hb2
    go_wp2
    go_ret
    exact ⟨rfl, HB2.out⟩
  have hsi : ¬ (200 : Int) < (l.length : Int) := by omega
  go_enter Tryd.func7, Tryd.ntmps7
  go_wp2_with fail
  refine (awake_any w HE.out).mono ?_
  rintro e w0 ⟨rfl, hb0⟩
  have HB0 := Lib.hid hb0
  have HE0 := Lib.hid (HE.out.below hb0)
  have HV0 := Lib.hid (HV.out.below hb0)
  clear hb0 HE HV
  go_wp2_with fail
  go_loopw [3, 4] (fun u i wr => ∃ (k : Nat) (S : ByteArray), k ≤ l.length ∧ i = .int .i64 (k : Int) ∧ u = .string S ∧ Hid (S.data.toList = 34 :: dblF (l.take k)) ∧ wr = w0) (fun _ i _ => l.length - (intOf i).toNat)
  case atStart => exact ⟨0, ⟨#[34]⟩, by omega, rfl, rfl, Lib.hid rfl, rfl⟩
  case round =>
    obtain ⟨k, S, hk, rfl, rfl, HS, rfl⟩ := hrel
    have hSz : S.size ≤ 401 := by
      rw [← size_list S, HS.out]
      have := dbl_len (l.take k)
      have h2 : (l.take k).length ≤ k := List.length_take_le _ _
      simp; omega
    by_cases hlt : k < l.length
    · have hx : l[k]? = some l[k] := List.getElem?_eq_getElem hlt
      obtain ⟨x, hxx⟩ : ∃ x, l[k] = x := ⟨_, rfl⟩
      have htk : l.take (k + 1) = l.take k ++ [x] := by rw [← hxx]; exact (List.take_append_getElem hlt).symm
      rw [hxx] at hx
      obtain ⟨A2, c2, hv2, _, hI⟩ := id HV0.out
      simp only [Value.slice.injEq, true_and] at hv2
      obtain ⟨rfl, rfl⟩ := hv2
      obtain ⟨b, o, rfl, hcell⟩ := hI k x hx
      have hone := HV0.out.one hx (c - k)
      have hi : (k : Int) < (l.length : Int) := by omega
      have hi0 : (0 : Int) ≤ (k : Int) := by omega
      have hi1 : (k : Int) + 1 ≤ (c : Int) := by omega
      have hi2 : (k : Int) ≤ (k : Int) + 1 := by omega
      have hck : ¬ c = k := by omega
      have HTK := Lib.hid htk
      clear hx hxx htk hI
      by_cases hq : x = 34
      · have hqi : ((x.toNat : Int) == 34) = true := by rw [hq]; decide
        have HSN : Hid ((S ++ ⟨#[x]⟩ ++ ⟨#[34]⟩ : ByteArray).data.toList = 34 :: dblF (l.take (k + 1))) := Lib.hid (by
          rw [HTK.out, dbl_app, if_pos hq, hq]
          simp [ByteArray.data_append, HS.out])
        clear hq
        go_wp2_with fail
        go_roundw
        case rel => exact ⟨k + 1, _, by omega, by simp, rfl, HSN, (by first | rfl | trivial)⟩
        case measure => simp [intOf]; omega
      · have hqn : x.toNat ≠ 34 := fun e => hq (UInt8.toNat_inj.1 e)
        have hqi : ((x.toNat : Int) == 34) = false := by rw [beq_eq_false_iff_ne]; omega
        have hqj : ¬ (x.toNat : Int) = 34 := by omega
        have HSN : Hid ((S ++ ⟨#[x]⟩ : ByteArray).data.toList = 34 :: dblF (l.take (k + 1))) := Lib.hid (by
          rw [HTK.out, dbl_app, if_neg hq]
          simp [ByteArray.data_append, HS.out])
        clear hq hqn
        go_wp2_with fail
        go_roundw
        case rel => exact ⟨k + 1, _, by omega, by simp, rfl, HSN, (by first | rfl | trivial)⟩
        case measure => simp [intOf]; omega
    · obtain rfl : k = l.length := by omega
      have hi : ¬ (l.length : Int) < (l.length : Int) := by omega
      have hS := HS.out
      rw [List.take_length] at hS
      have hd := dbl_len l
      have h1 := lex_any (S ++ ⟨#[34]⟩) (by rw [ByteArray.size_append]; have : (⟨#[34]⟩ : ByteArray).size = 1 := rfl; omega) wr HE0.out
      rw [show (S ++ ⟨#[34]⟩ : ByteArray).data.toList = 34 :: (dblF l ++ [34]) by simp [ByteArray.data_append, hS]] at h1
      have h2 : ∀ W, Env W → Calls Tryd.prog 11 #[.string S] W (LexOut W (34 :: dblF l)) := fun W hW => by
        have := lex_any S (by omega) W hW
        rw [hS] at this
        exact this
      have H1 := Lib.hid h1
      have H2 := Lib.hid h2
      have HTXT := Lib.hid (lexG_text l)
      have HOPN := Lib.hid (lexG_open l)
      clear hS hd h1 h2 HS
      go_wp2_with fail
      refine H1.out.mono ?_
      rintro e w1 ⟨ha, hb1⟩
      rw [HTXT.out] at ha
      obtain ⟨va, rfl, hra⟩ := ha
      obtain ⟨A3, ca, rfl, hca, hIa⟩ := tok_of_own hra
      obtain ⟨ga, oa, rfl, hga, hcc⟩ := hIa 0 _ rfl
      have HCC := Lib.hid hcc
      have HB1 := Lib.hid hb1
      have HV1 := Lib.hid (HV0.out.below hb1)
      have HE1 := Lib.hid (HE0.out.below hb1)
      have hca2 : (2 : Int) ≤ (ca : Int) := by simp at hca; omega
      clear hra hIa hcc hb1 HTXT H1 hca
      go_wp2_with fail
      refine (H2.out w1 HE1.out).mono ?_
      rintro e w2 ⟨ha, hb2⟩
      rw [HOPN.out] at ha
      subst ha
      have HF : Hid (∀ X, Below w2.heap.size w2 X → CellO X ga oa 0 ⟨2, l, 0⟩ ∧ (convert 41 9 (.slice A l.length c)).run Tryd.prog X = .ok (.string ⟨l.toArray⟩) X) := Lib.hid (fun X hX => ⟨(HCC.out.below hb2 hga).below hX (Nat.lt_of_lt_of_le hga hb2.size), ((HV1.out.below hb2).below hX).text⟩)
      have HB2 := Lib.hid (HB0.out.trans ((HB1.out.trans (hb2.mono HB1.out.size)).mono HB0.out.size))
      obtain ⟨ls, hls⟩ : ∃ ls : ByteArray, ⟨l.toArray⟩ = ls := ⟨_, rfl⟩
      have HLS := Lib.hid hls
      clear hb2 HOPN H2 HCC HV1 HV0 hls
      go_wp2_with fail
      refine wp_region_held_drew (S := fun X => Below w2.heap.size w2 X) (by kernel_rfl) ((Below.refl _ _).drew) (fun hS => ?_)
      refine wpAnyH_take (i := 0) (v := ?v0t) rfl (by kernel_rfl) (by kernel_rfl) (by kernel_rfl) (fun _ _ _ h => h) (Or.inl ⟨by kernel_rfl, ?h0t⟩) hS ?_
      case h0t => (rintro w2' hb; obtain ⟨⟨k0, k1, k2⟩, hcv⟩ := HF.out w2' hb; simp only [HLS.out, Nat.zero_mul, Nat.add_zero] at k0 k1 k2 hcv; go_simp; try with_reducible rfl)
      refine wpAnyH_take (i := 1) (v := .bool true) rfl (by kernel_rfl) (by kernel_rfl) (by kernel_rfl) (fun _ _ _ h => h) (Or.inl ⟨by kernel_rfl, ?h1t⟩) hS ?_
      case h1t => (rintro w2' hb; obtain ⟨⟨k0, k1, k2⟩, hcv⟩ := HF.out w2' hb; simp only [HLS.out, Nat.zero_mul, Nat.add_zero] at k0 k1 k2 hcv; go_simp; try with_reducible rfl)
      refine wpAnyH_take (i := 2) (v := .bool true) rfl (by kernel_rfl) (by kernel_rfl) (by kernel_rfl) (fun _ _ _ h => h) (Or.inl ⟨by kernel_rfl, ?h2t⟩) hS ?_
      case h2t => (rintro w2' hb; obtain ⟨⟨k0, k1, k2⟩, hcv⟩ := HF.out w2' hb; simp only [HLS.out, Nat.zero_mul, Nat.add_zero] at k0 k1 k2 hcv; go_simp; try with_reducible rfl)
      refine wpAnyH_take (i := 3) (v := ?v3t) rfl (by kernel_rfl) (by kernel_rfl) (by kernel_rfl) (fun _ _ _ h => h) (Or.inl ⟨by kernel_rfl, ?h3t⟩) hS ?_
      case h3t => (rintro w2' hb; obtain ⟨⟨k0, k1, k2⟩, hcv⟩ := HF.out w2' hb; simp only [HLS.out, Nat.zero_mul, Nat.add_zero] at k0 k1 k2 hcv; go_simp; try with_reducible rfl)
      refine wpAnyH_take (i := 4) (v := ?v4t) rfl (by kernel_rfl) (by kernel_rfl) (by kernel_rfl) (fun _ _ _ h => h) (Or.inl ⟨by kernel_rfl, ?h4t⟩) hS ?_
      case h4t => (rintro w2' hb; obtain ⟨⟨k0, k1, k2⟩, hcv⟩ := HF.out w2' hb; simp only [HLS.out, Nat.zero_mul, Nat.add_zero] at k0 k1 k2 hcv; go_simp; try with_reducible rfl)
      refine wpAnyH_take (i := 5) (v := .bool true) rfl (by kernel_rfl) (by kernel_rfl) (by kernel_rfl) (fun _ _ _ h => h) (Or.inl ⟨by kernel_rfl, ?h5t⟩) hS ?_
      case h5t => (rintro w2' hb; obtain ⟨⟨k0, k1, k2⟩, hcv⟩ := HF.out w2' hb; simp only [HLS.out, Nat.zero_mul, Nat.add_zero] at k0 k1 k2 hcv; go_simp; try with_reducible rfl)
      refine wpAnyH_take (i := 6) (v := .bool true) rfl (by kernel_rfl) (by kernel_rfl) (by kernel_rfl) (fun _ _ _ h => h) (Or.inl ⟨by kernel_rfl, ?h6t⟩) hS ?_
      case h6t => (rintro w2' hb; obtain ⟨⟨k0, k1, k2⟩, hcv⟩ := HF.out w2' hb; simp only [HLS.out, Nat.zero_mul, Nat.add_zero] at k0 k1 k2 hcv; go_simp; try with_reducible rfl)
      refine wpAnyH_take (i := 7) (v := .bool true) rfl (by kernel_rfl) (by kernel_rfl) (by kernel_rfl) (fun _ _ _ h => h) (Or.inl ⟨by kernel_rfl, ?h7t⟩) hS ?_
      case h7t => (rintro w2' hb; obtain ⟨⟨k0, k1, k2⟩, hcv⟩ := HF.out w2' hb; simp only [HLS.out, Nat.zero_mul, Nat.add_zero] at k0 k1 k2 hcv; go_simp; try with_reducible rfl)
      refine wpAnyH_take (i := 8) (v := ?v8t) rfl (by kernel_rfl) (by kernel_rfl) (by kernel_rfl) (fun _ _ _ h => h) (Or.inl ⟨by kernel_rfl, ?h8t⟩) hS ?_
      case h8t => (rintro w2' hb; obtain ⟨⟨k0, k1, k2⟩, hcv⟩ := HF.out w2' hb; simp only [HLS.out, Nat.zero_mul, Nat.add_zero] at k0 k1 k2 hcv; go_simp; try with_reducible rfl)
      refine wpAnyH_take (i := 9) (v := ?v9t) rfl (by kernel_rfl) (by kernel_rfl) (by kernel_rfl) (fun _ _ _ h => h) (Or.inl ⟨by kernel_rfl, ?h9t⟩) hS ?_
      case h9t => (rintro w2' hb; obtain ⟨⟨k0, k1, k2⟩, hcv⟩ := HF.out w2' hb; simp only [HLS.out, Nat.zero_mul, Nat.add_zero] at k0 k1 k2 hcv; go_simp; try with_reducible rfl)
      refine wpAnyH_take (i := 10) (v := ?v10t) rfl (by kernel_rfl) (by kernel_rfl) (by kernel_rfl) (fun _ _ _ h => h) (Or.inl ⟨by kernel_rfl, ?h10t⟩) hS ?_
      case h10t => (rintro w2' hb; obtain ⟨⟨k0, k1, k2⟩, hcv⟩ := HF.out w2' hb; simp only [HLS.out, Nat.zero_mul, Nat.add_zero] at k0 k1 k2 hcv; go_simp; try with_reducible rfl)
      refine wpAnyH_take (i := 11) (v := ?v11t) rfl (by kernel_rfl) (by kernel_rfl) (by kernel_rfl) (fun _ _ _ h => h) (Or.inl ⟨by kernel_rfl, ?h11t⟩) hS ?_
      case h11t => (rintro w2' hb; obtain ⟨⟨k0, k1, k2⟩, hcv⟩ := HF.out w2' hb; simp only [HLS.out, Nat.zero_mul, Nat.add_zero] at k0 k1 k2 hcv; go_simp; try with_reducible rfl)
      refine wpAnyH_take (i := 12) (v := .bool true) rfl (by kernel_rfl) (by kernel_rfl) (by kernel_rfl) (fun _ _ _ h => h) (Or.inl ⟨by kernel_rfl, ?h12t⟩) hS ?_
      case h12t => (rintro w2' hb; obtain ⟨⟨k0, k1, k2⟩, hcv⟩ := HF.out w2' hb; simp only [HLS.out, Nat.zero_mul, Nat.add_zero] at k0 k1 k2 hcv; go_simp; try with_reducible rfl)
      refine wpAnyH_take (i := 13) (v := .bool true) rfl (by kernel_rfl) (by kernel_rfl) (by kernel_rfl) (fun _ _ _ h => h) (Or.inl ⟨by kernel_rfl, ?h13t⟩) hS ?_
      case h13t => (rintro w2' hb; obtain ⟨⟨k0, k1, k2⟩, hcv⟩ := HF.out w2' hb; simp only [HLS.out, Nat.zero_mul, Nat.add_zero] at k0 k1 k2 hcv; go_simp; try with_reducible rfl)
      refine wpAnyH_take (i := 14) (v := .bool true) rfl (by kernel_rfl) (by kernel_rfl) (by kernel_rfl) (fun _ _ _ h => h) (Or.inl ⟨by kernel_rfl, ?h14t⟩) hS ?_
      case h14t => (rintro w2' hb; obtain ⟨⟨k0, k1, k2⟩, hcv⟩ := HF.out w2' hb; simp only [HLS.out, Nat.zero_mul, Nat.add_zero] at k0 k1 k2 hcv; go_simp; try with_reducible rfl)
      refine wpAnyH_take (i := 15) (v := ?v15t) rfl (by kernel_rfl) (by kernel_rfl) (by kernel_rfl) (fun _ _ _ h => h) (Or.inl ⟨by kernel_rfl, ?h15t⟩) hS ?_
      case h15t => (rintro w2' hb; obtain ⟨⟨k0, k1, k2⟩, hcv⟩ := HF.out w2' hb; simp only [HLS.out, Nat.zero_mul, Nat.add_zero] at k0 k1 k2 hcv; go_simp; try with_reducible rfl)
      refine wpAnyH_take (i := 16) (v := ?v16t) rfl (by kernel_rfl) (by kernel_rfl) (by kernel_rfl) (fun _ _ _ h => h) (Or.inl ⟨by kernel_rfl, ?h16t⟩) hS ?_
      case h16t => (rintro w2' hb; obtain ⟨⟨k0, k1, k2⟩, hcv⟩ := HF.out w2' hb; simp only [HLS.out, Nat.zero_mul, Nat.add_zero] at k0 k1 k2 hcv; go_simp; try with_reducible rfl)
      refine wpAnyH_take (i := 17) (v := ?v17t) rfl (by kernel_rfl) (by kernel_rfl) (by kernel_rfl) (fun _ _ _ h => h) (Or.inl ⟨by kernel_rfl, ?h17t⟩) hS ?_
      case h17t => (rintro w2' hb; obtain ⟨⟨k0, k1, k2⟩, hcv⟩ := HF.out w2' hb; simp only [HLS.out, Nat.zero_mul, Nat.add_zero] at k0 k1 k2 hcv; go_simp; try with_reducible rfl)
      refine wpAnyH_take (i := 18) (v := ?v18t) rfl (by kernel_rfl) (by kernel_rfl) (by kernel_rfl) (fun _ _ _ h => h) (Or.inl ⟨by kernel_rfl, ?h18t⟩) hS ?_
      case h18t => (rintro w2' hb; obtain ⟨⟨k0, k1, k2⟩, hcv⟩ := HF.out w2' hb; simp only [HLS.out, Nat.zero_mul, Nat.add_zero] at k0 k1 k2 hcv; go_simp; try with_reducible rfl)
      refine wpAnyH_take (i := 19) (v := ?v19t) rfl (by kernel_rfl) (by kernel_rfl) (by kernel_rfl) (fun _ _ _ h => h) (Or.inl ⟨by kernel_rfl, ?h19t⟩) hS ?_
      case h19t => (rintro w2' hb; obtain ⟨⟨k0, k1, k2⟩, hcv⟩ := HF.out w2' hb; simp only [HLS.out, Nat.zero_mul, Nat.add_zero] at k0 k1 k2 hcv; go_simp; try with_reducible rfl)
      refine wpAnyH_take (i := 20) (v := ?v20t) rfl (by kernel_rfl) (by kernel_rfl) (by kernel_rfl) (fun _ _ _ h => h) (Or.inl ⟨by kernel_rfl, ?h20t⟩) hS ?_
      case h20t => (rintro w2' hb; obtain ⟨⟨k0, k1, k2⟩, hcv⟩ := HF.out w2' hb; simp only [HLS.out, Nat.zero_mul, Nat.add_zero] at k0 k1 k2 hcv; go_simp; try with_reducible rfl)
      refine wpAnyH_take (i := 21) (v := .bool true) rfl (by kernel_rfl) (by kernel_rfl) (by kernel_rfl) (fun _ _ _ h => h) (Or.inl ⟨by kernel_rfl, ?h21t⟩) hS ?_
      case h21t => (rintro w2' hb; obtain ⟨⟨k0, k1, k2⟩, hcv⟩ := HF.out w2' hb; simp only [HLS.out, Nat.zero_mul, Nat.add_zero] at k0 k1 k2 hcv; go_simp; try with_reducible rfl)
      refine wpAnyH_take (i := 22) (v := .bool true) rfl (by kernel_rfl) (by kernel_rfl) (by kernel_rfl) (fun _ _ _ h => h) (Or.inl ⟨by kernel_rfl, ?h22t⟩) hS ?_
      case h22t => (rintro w2' hb; obtain ⟨⟨k0, k1, k2⟩, hcv⟩ := HF.out w2' hb; simp only [HLS.out, Nat.zero_mul, Nat.add_zero] at k0 k1 k2 hcv; go_simp; try with_reducible rfl)
      refine wpAnyH_take (i := 23) (v := .bool true) rfl (by kernel_rfl) (by kernel_rfl) (by kernel_rfl) (fun _ _ _ h => h) (Or.inl ⟨by kernel_rfl, ?h23t⟩) hS ?_
      case h23t => (rintro w2' hb; obtain ⟨⟨k0, k1, k2⟩, hcv⟩ := HF.out w2' hb; simp only [HLS.out, Nat.zero_mul, Nat.add_zero] at k0 k1 k2 hcv; go_simp; try with_reducible rfl)
      refine wpAnyH_take (i := 24) (v := ?v24t) rfl (by kernel_rfl) (by kernel_rfl) (by kernel_rfl) (fun _ _ _ h => h) (Or.inl ⟨by kernel_rfl, ?h24t⟩) hS ?_
      case h24t => (rintro w2' hb; obtain ⟨⟨k0, k1, k2⟩, hcv⟩ := HF.out w2' hb; simp only [HLS.out, Nat.zero_mul, Nat.add_zero] at k0 k1 k2 hcv; go_simp; try with_reducible rfl)
      refine wpAnyH_take (i := 25) (v := .bool true) rfl (by kernel_rfl) (by kernel_rfl) (by kernel_rfl) (fun _ _ _ h => h) (Or.inl ⟨by kernel_rfl, ?h25t⟩) hS ?_
      case h25t => (rintro w2' hb; obtain ⟨⟨k0, k1, k2⟩, hcv⟩ := HF.out w2' hb; simp only [HLS.out, Nat.zero_mul, Nat.add_zero] at k0 k1 k2 hcv; go_simp; try with_reducible rfl)
      refine wpAnyH_take (i := 26) (v := .bool true) rfl (by kernel_rfl) (by kernel_rfl) (by kernel_rfl) (fun _ _ _ h => h) (Or.inl ⟨by kernel_rfl, ?h26t⟩) hS ?_
      case h26t => (rintro w2' hb; obtain ⟨⟨k0, k1, k2⟩, hcv⟩ := HF.out w2' hb; simp only [HLS.out, Nat.zero_mul, Nat.add_zero] at k0 k1 k2 hcv; go_simp; try with_reducible rfl)
      refine wpAnyH_take (i := 27) (v := .bool true) rfl (by kernel_rfl) (by kernel_rfl) (by kernel_rfl) (fun _ _ _ h => h) (Or.inl ⟨by kernel_rfl, ?h27t⟩) hS ?_
      case h27t => (rintro w2' hb; obtain ⟨⟨k0, k1, k2⟩, hcv⟩ := HF.out w2' hb; simp only [HLS.out, Nat.zero_mul, Nat.add_zero] at k0 k1 k2 hcv; go_simp; try with_reducible rfl)
      refine wpAnyH_take (i := 28) (v := ?v28t) rfl (by kernel_rfl) (by kernel_rfl) (by kernel_rfl) (fun _ _ _ h => h) (Or.inl ⟨by kernel_rfl, ?h28t⟩) hS ?_
      case h28t => (rintro w2' hb; obtain ⟨⟨k0, k1, k2⟩, hcv⟩ := HF.out w2' hb; simp only [HLS.out, Nat.zero_mul, Nat.add_zero] at k0 k1 k2 hcv; go_simp; try with_reducible rfl)
      refine wpAnyH_take (i := 29) (v := .bool true) rfl (by kernel_rfl) (by kernel_rfl) (by kernel_rfl) (fun _ _ _ h => h) (Or.inl ⟨by kernel_rfl, ?h29t⟩) hS ?_
      case h29t => (rintro w2' hb; obtain ⟨⟨k0, k1, k2⟩, hcv⟩ := HF.out w2' hb; simp only [HLS.out, Nat.zero_mul, Nat.add_zero] at k0 k1 k2 hcv; go_simp; try with_reducible rfl)
      refine wpAnyH_take (i := 30) (v := .bool true) rfl (by kernel_rfl) (by kernel_rfl) (by kernel_rfl) (fun _ _ _ h => h) (Or.inl ⟨by kernel_rfl, ?h30t⟩) hS ?_
      case h30t => (rintro w2' hb; obtain ⟨⟨k0, k1, k2⟩, hcv⟩ := HF.out w2' hb; simp only [HLS.out, Nat.zero_mul, Nat.add_zero] at k0 k1 k2 hcv; go_simp; try with_reducible rfl)
      refine wpAnyH_take (i := 31) (v := .bool true) rfl (by kernel_rfl) (by kernel_rfl) (by kernel_rfl) (fun _ _ _ h => h) (Or.inl ⟨by kernel_rfl, ?h31t⟩) hS ?_
      case h31t => (rintro w2' hb; obtain ⟨⟨k0, k1, k2⟩, hcv⟩ := HF.out w2' hb; simp only [HLS.out, Nat.zero_mul, Nat.add_zero] at k0 k1 k2 hcv; go_simp; try with_reducible rfl)
      refine wpAnyH_take (i := 32) (v := ?v32t) rfl (by kernel_rfl) (by kernel_rfl) (by kernel_rfl) (fun _ _ _ h => h) (Or.inl ⟨by kernel_rfl, ?h32t⟩) hS ?_
      case h32t => (rintro w2' hb; obtain ⟨⟨k0, k1, k2⟩, hcv⟩ := HF.out w2' hb; simp only [HLS.out, Nat.zero_mul, Nat.add_zero] at k0 k1 k2 hcv; go_simp; try with_reducible rfl)
      refine wpAnyH_take (i := 33) (v := ?v33t) rfl (by kernel_rfl) (by kernel_rfl) (by kernel_rfl) (fun _ _ _ h => h) (Or.inl ⟨by kernel_rfl, ?h33t⟩) hS ?_
      case h33t => (rintro w2' hb; obtain ⟨⟨k0, k1, k2⟩, hcv⟩ := HF.out w2' hb; simp only [HLS.out, Nat.zero_mul, Nat.add_zero] at k0 k1 k2 hcv; go_simp; try with_reducible rfl)
      refine wpAnyH_take (i := 34) (v := .bool true) rfl (by kernel_rfl) (by kernel_rfl) (by kernel_rfl) (fun _ _ _ h => h) (Or.inl ⟨by kernel_rfl, ?h34t⟩) hS ?_
      case h34t => (rintro w2' hb; obtain ⟨⟨k0, k1, k2⟩, hcv⟩ := HF.out w2' hb; simp only [HLS.out, Nat.zero_mul, Nat.add_zero] at k0 k1 k2 hcv; go_simp; try with_reducible rfl)
      refine wpAnyH_take (i := 35) (v := .bool true) rfl (by kernel_rfl) (by kernel_rfl) (by kernel_rfl) (fun _ _ _ h => h) (Or.inl ⟨by kernel_rfl, ?h35t⟩) hS ?_
      case h35t => (rintro w2' hb; obtain ⟨⟨k0, k1, k2⟩, hcv⟩ := HF.out w2' hb; simp only [HLS.out, Nat.zero_mul, Nat.add_zero] at k0 k1 k2 hcv; go_simp; try with_reducible rfl)
      refine wpAnyH_take (i := 36) (v := .bool true) rfl (by kernel_rfl) (by kernel_rfl) (by kernel_rfl) (fun _ _ _ h => h) (Or.inl ⟨by kernel_rfl, ?h36t⟩) hS ?_
      case h36t => (rintro w2' hb; obtain ⟨⟨k0, k1, k2⟩, hcv⟩ := HF.out w2' hb; simp only [HLS.out, Nat.zero_mul, Nat.add_zero] at k0 k1 k2 hcv; go_simp; try with_reducible rfl)
      refine wpAnyH_done (by kernel_rfl) ?_ _
      go_simp
      go_wp2
      go_ret
      exact ⟨rfl, HB2.out.drew⟩
end Go.Proofs.YtcnmghkmognhoaaDoor
