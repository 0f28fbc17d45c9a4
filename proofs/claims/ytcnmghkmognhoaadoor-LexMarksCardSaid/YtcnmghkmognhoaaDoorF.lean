/- How long the word is with which a text begins; whether a word is a mark. -/
import Derived.Test.YtcnmghkmognhoaaDoorD
import Derived.Test.YtcnmghkmognhoaaDoorB
import Derived.Deep.RegionHeld3
import Derived.Shelf.RegionOpen
import Derived.IntWalk
namespace Go.Proofs.YtcnmghkmognhoaaDoor
open Go.RowKit Go.Shelf

theorem KindIs.fn {w : World} {v : Value} {p : UInt8 → Bool} (h : KindIs w v p) : ∃ M caps, v = .func (.func M) #[] caps := by
  obtain ⟨M, caps, e, _⟩ := h
  exact ⟨M, caps, e⟩
set_option maxRecDepth 100000 in
set_option maxHeartbeats 2000000 in
theorem word_any (s : ByteArray) (hs : s.size ≤ 100000) (w : World) : Calls Tryd.prog 56 #[.string s] w fun e w' => e = .returned (.int .i64 (wordF s.data.toList : Nat)) ∧ Below w.heap.size w w' := by
  obtain ⟨R, hR⟩ : ∃ R, wordF s.data.toList = R := ⟨_, rfl⟩
  rw [hR]
  have HR := Lib.hid hR
  clear hR
  go_enter Tryd.func56, Tryd.ntmps56
  go_wp2_with fail
  refine (between_any 97 122 w).mono ?_
  rintro e w1 ⟨v4, rfl, hk4, hb1⟩
  obtain ⟨M4, c4, rfl⟩ := hk4.fn
  have HK4 := Lib.hid hk4
  have HB1 := Lib.hid hb1
  clear hk4 hb1
  go_wp2_with fail
  refine (between_any 65 90 w1).mono ?_
  rintro e w2 ⟨v5, rfl, hk5, hb2⟩
  obtain ⟨M5, c5, rfl⟩ := hk5.fn
  have HK5 := Lib.hid (kinds_two (t := 120) (HK4.out.later hb2) hk5)
  have HB2 := Lib.hid (HB1.out.trans (hb2.mono HB1.out.size))
  clear hk5 hb2 HK4
  go_wp2_with fail
  refine (either_any _ _ 2 rfl (by omega) _ HK5.out).mono ?_
  rintro e w3 ⟨v3, rfl, hk3, hb3⟩
  obtain ⟨M3, c3, rfl⟩ := hk3.fn
  have HK3 : Hid (KindIs w3 (.func (.func M3) #[] c3) letP) := Lib.hid (hk3.ext (fun x => by simp [anyK, letP]))
  have HB3 := Lib.hid ((HB2.out.alloc HB2.out.size _).trans (hb3.mono (by have := HB2.out.size; simp; omega)))
  clear hk3 hb3 HK5
  go_wp2_with fail
  refine (oneOf_any ⟨#[95, 36]⟩ w3).mono ?_
  rintro e w4 ⟨v9, rfl, hk9, hb4⟩
  obtain ⟨M9, c9, rfl⟩ := hk9.fn
  have HK9 := Lib.hid (kinds_two (t := 120) (HK3.out.later hb4) hk9)
  have HK3' := Lib.hid (HK3.out.later hb4)
  have HB4 := Lib.hid (HB3.out.trans (hb4.mono HB3.out.size))
  clear hk9 hb4 HK3
  go_wp2_with fail
  refine (either_any _ _ 2 rfl (by omega) _ HK9.out).mono ?_
  rintro e w5 ⟨v11, rfl, hk11, hb5⟩
  obtain ⟨M11, c11, rfl⟩ := hk11.fn
  have HK11 : Hid (KindIs w5 (.func (.func M11) #[] c11) fstP) := Lib.hid (hk11.ext (fun x => by simp [anyK, fstP]))
  have HB5 := Lib.hid ((HB4.out.alloc HB4.out.size _).trans (hb5.mono (by have := HB4.out.size; simp; omega)))
  have HK3 := Lib.hid ((HK3'.out.later ((Below.refl _ _).alloc (Nat.le_refl _) _)).later hb5)
  clear hk11 hb5 HK9 HK3'
  go_wp2_with fail
  obtain ⟨hd, hhd⟩ : ∃ b, headP fstP s.data.toList = b := ⟨_, rfl⟩
  have HH := Lib.hid hhd
  clear hhd
  refine (begins_any s (.func (.func M11) #[] c11) fstP w5 HK11.out).mono ?_
  rw [HH.out]
  rintro e w6 ⟨rfl, hb6⟩
  have HB6 := Lib.hid (HB5.out.trans (hb6.mono HB5.out.size))
  have HK3' := Lib.hid (HK3.out.later hb6)
  clear hb6 HK3 HK11
  cases hd with
  | false =>
    have hRz : R = 0 := by rw [← HR.out]; unfold wordF; rw [HH.out]; rfl
    subst hRz
    go_wp2
    go_ret
    exact ⟨rfl, HB6.out⟩
  | true =>
    have hRz : runF wrdP s.data.toList = R := by rw [← HR.out]; unfold wordF; rw [HH.out]; rfl
    have HRZ := Lib.hid hRz
    clear hRz
    go_wp2_with fail
    refine (between_any 48 57 w6).mono ?_
    rintro e w7 ⟨v17, rfl, hk17, hb7⟩
    obtain ⟨M17, c17, rfl⟩ := hk17.fn
    have HK17 := Lib.hid hk17
    have HB7 := Lib.hid (HB6.out.trans (hb7.mono HB6.out.size))
    have HK3 := Lib.hid (HK3'.out.later hb7)
    clear hk17 hb7 HK3'
    go_wp2_with fail
    refine (oneOf_any ⟨#[95, 46, 36]⟩ w7).mono ?_
    rintro e w8 ⟨v18, rfl, hk18, hb8⟩
    obtain ⟨M18, c18, rfl⟩ := hk18.fn
    have HK18 := Lib.hid (kinds_three (t := 120) (HK3.out.later hb8) (HK17.out.later hb8) hk18)
    have HB8 := Lib.hid (HB7.out.trans (hb8.mono HB7.out.size))
    clear hk18 hb8 HK3 HK17
    go_wp2_with fail
    refine (either_any _ _ 3 rfl (by omega) _ HK18.out).mono ?_
    rintro e w9 ⟨v20, rfl, hk20, hb9⟩
    obtain ⟨M20, c20, rfl⟩ := hk20.fn
    have HK20 : Hid (KindIs w9 (.func (.func M20) #[] c20) wrdP) := Lib.hid (hk20.ext (fun x => by simp [anyK, wrdP, digP, Bool.or_assoc]))
    have HB9 := Lib.hid ((HB8.out.alloc HB8.out.size _).trans (hb9.mono (by have := HB8.out.size; simp; omega)))
    clear hk20 hb9 HK18
    go_wp2_with fail
    refine (run_any s hs (.func (.func M20) #[] c20) wrdP w9 HK20.out).mono ?_
    rw [HRZ.out]
    rintro e wa ⟨rfl, hba⟩
    have HBA := Lib.hid (HB9.out.trans (hba.mono HB9.out.size))
    clear hba
    go_wp2
    go_ret
    exact ⟨rfl, HBA.out⟩
end Go.Proofs.YtcnmghkmognhoaaDoor
