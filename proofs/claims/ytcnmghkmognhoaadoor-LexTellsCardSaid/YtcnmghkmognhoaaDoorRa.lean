/- LexTells: the program's tokens are the document's. -/
import Derived.Test.YtcnmghkmognhoaaDoorQj
import Derived.Test.YtcnmghkmognhoaaDoorBs
namespace Go.Proofs.YtcnmghkmognhoaaDoor
open Go.RowKit Go.Shelf

set_option maxRecDepth 100000 in
set_option maxHeartbeats 4000000 in
theorem tells_any (s : ByteArray) (w : World) (he : Env w) : Calls Tryd.prog 3 #[.string s] w fun e w' => e = .returned (.bool true) ∧ Below w.heap.size w w' := by
  have HE := Lib.hid he
  clear he
  by_cases hs : s.size ≤ 200
  rotate_left
  · have hsi : (200 : Int) < (s.size : Int) := by omega
    clear hs
    go_enter Tryd.func3, Tryd.ntmps3
    go_wp2_with fail
    refine (awake_any w HE.out).mono ?_
    rintro e w1 ⟨rfl, hb1⟩
    have HB1 := Lib.hid hb1
    clear hb1
    go_wp2_with fail
    refine (awake_any w1 (HE.out.below HB1.out)).mono ?_
    rintro e w2 ⟨rfl, hb2⟩
    have HB2 := Lib.hid (HB1.out.trans (hb2.mono HB1.out.size))
    clear hb2
    go_wp2
    go_ret
    exact ⟨rfl, HB2.out⟩
  have hsi : ¬ (200 : Int) < (s.size : Int) := by omega
  go_enter Tryd.func3, Tryd.ntmps3
  go_wp2_with fail
  refine (awake_any w HE.out).mono ?_
  rintro e w0 ⟨rfl, hb0⟩
  have HB0 := Lib.hid hb0
  have HE0 := Lib.hid (HE.out.below hb0)
  clear hb0 HE
  go_wp2_with fail
  refine (lex_any s (by omega) w0 HE0.out).mono ?_
  rintro e w1 ⟨ha, hb1⟩
  have HB1 := Lib.hid (HB0.out.trans (hb1.mono HB0.out.size))
  cases hla : lexG s.data.toList 0 with
  | inr b =>
    rw [hla] at ha
    subst ha
    have HLA := Lib.hid hla
    clear hb1 hla HE0
    go_wp2_with fail
    refine (rlex_any s (by omega) w1).mono ?_
    rintro e w2 ⟨hbt, hb2⟩
    have HB2 := Lib.hid (HB1.out.trans (hb2.mono HB1.out.size))
    rw [HLA.out] at hbt
    subst hbt
    clear hb2
    go_wp2
    go_ret
    exact ⟨rfl, HB2.out⟩
  | inl la =>
    rw [hla] at ha
    obtain ⟨va, rfl, hra⟩ := ha
    have hla1 := len_tok _ _ _ _ hla
    rw [size_list] at hla1
    have htoka := tok_of_own hra
    obtain ⟨Aa, ca, rfl⟩ := own_shape hra
    have HTA := Lib.hid htoka
    have HLA := Lib.hid hla
    have HLN := Lib.hid (show la.length ≤ 100000 by omega)
    clear hb1 hla HE0 hra htoka hla1
    go_wp2_with fail
    refine (rlex_any s (by omega) w1).mono ?_
    rintro e w2 ⟨hbt, hb2⟩
    have HB2 := Lib.hid (HB1.out.trans (hb2.mono HB1.out.size))
    rw [HLA.out] at hbt
    obtain ⟨vb, rfl, hrb⟩ := hbt
    have HTA2 := Lib.hid (HTA.out.below hb2)
    have HTB := Lib.hid (tok_of_own hrb)
    clear hb2 hrb HTA
    go_wp2_with fail
    refine (of_any _ la HLN.out w2 HTA2.out).mono ?_
    rintro e w3 ⟨⟨vu, rfl, hru⟩, hb3⟩
    have HB3 := Lib.hid (HB2.out.trans (hb3.mono HB2.out.size))
    have HTB3 := Lib.hid (HTB.out.below hb3)
    have HTU := Lib.hid (tok_of_own hru)
    clear hb3 hru HTB
    go_wp2_with fail
    refine (same_true _ _ la la HLN.out rfl (fun k t r h1 h2 => by rw [h1] at h2; cases h2; exact ⟨rfl, rfl, rfl⟩) w3 HTU.out HTB3.out).mono ?_
    rintro e w4 ⟨rfl, hb4⟩
    have HB4 := Lib.hid (HB3.out.trans (hb4.mono HB3.out.size))
    clear hb4
    go_wp2
    go_ret
    exact ⟨rfl, HB4.out⟩
end Go.Proofs.YtcnmghkmognhoaaDoor
