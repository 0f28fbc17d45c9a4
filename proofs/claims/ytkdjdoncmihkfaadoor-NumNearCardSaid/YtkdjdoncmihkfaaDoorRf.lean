/- The document's level: two values' digits at one exponent, of one length. -/
import Derived.Test.YtkdjdoncmihkfaaDoorRe
namespace Go.Proofs.YtkdjdoncmihkfaaDoor
open Go.RowKit

theorem OwnD.mono {w : World} {B B' : Nat} {v : Value} {l : List UInt8} (h : OwnD w B v l) (hB : B' ≤ B) : OwnD w B' v l := by
  obtain ⟨⟨h1, h2⟩, h3⟩ := h
  refine ⟨⟨h1, ?_⟩, h3⟩
  rcases h2 with h' | ⟨g', cap', cur, h', hb, hg⟩
  · exact .inl h'
  · exact .inr ⟨g', cap', cur, h', by omega, hg⟩
theorem lit_one (w : World) : w.heap.size ≤ w.heap.size ∧ (w.alloc (.cells #[.int .i64 0] 3)).ownsRow w.heap.size 3 1 (.slice (some ⟨w.heap.size, 0, none⟩) 1 1) 1 [.int .i64 0] :=
  ⟨Nat.le_refl _, World.ownsRow_lit (base := w.heap.size) (e := 3) (size := 1) w #[.int .i64 0] 1 (Nat.le_refl _) (by unfold maxLen; omega) (by simp)⟩
/-- the cells that are put behind, when a block is new -/
theorem OwnD.news {w : World} {B g c : Nat} {l : List UInt8} (h : OwnD w B (.slice (some ⟨g, 0, none⟩) l.length c) l) (o : Obj) : ∀ j u, (ceD l)[j]? = some u → (w.alloc o).cell? ((⟨g, 0, none⟩ : Addr).add j) = some u := by
  intro j u hj
  have hjl : j < l.length := by have := (List.getElem?_eq_some_iff.1 hj).1; rwa [ceD_length] at this
  have h5 := (h.at (List.getElem?_eq_getElem hjl)).1
  have h6 : u = .int .i64 ((l[j]).toNat : Int) := by simpa [ceD, hjl] using hj.symm
  have hg : g < w.heap.size := by
    obtain ⟨g', c', hv, _, _, _, hr⟩ := h.rd
    simp only [Value.slice.injEq, Option.some.injEq, Addr.mk.injEq, and_true, true_and] at hv
    obtain ⟨rfl, rfl⟩ := hv
    obtain ⟨b, off, e, hb, _⟩ := hr (by omega)
    simp only [Option.some.injEq, Addr.mk.injEq, and_true] at e
    obtain ⟨rfl, rfl⟩ := e
    exact hb
  rw [h6, ← h5]
  have ea : (⟨g, 0, none⟩ : Addr).add j = ⟨g, j, none⟩ := by
    by_cases hj0 : j = 0
    · subst hj0; rfl
    · simp [Addr.add, hj0]
  rw [ea]
  exact (alloc_below w o).cell (p := ⟨g, j, none⟩) hg
theorem ceD_one (l : List UInt8) : ∀ u ∈ ceD l, u.oneCell' = true := by intro u hu; simp [ceD] at hu; obtain ⟨x, _, rfl⟩ := hu; rfl
theorem preD_own {w w1 : World} {l : List UInt8} {v' : Value}
    (h : w1.ownsRow w.heap.size 3 1 v' (1 + l.length) ([.int .i64 0] ++ ceD l)) (hg : (w.alloc (.cells #[.int .i64 0] 3)).grownBy w1 (some w.heap.size)) (hn : ¬ v' = .slice none 0 0) :
    OwnD w1 w.heap.size v' (0 :: l) ∧ Below w.heap.size w w1 := by
  refine ⟨OwnD.made (a := [0]) (b := l) h hn, ?_⟩
  exact Below.grown (alloc_below _ _) hg (by simp) (fun j hj => by simp at hj; omega)
/-- two boxes -/
structure B2 (w : World) (H : Nat) (na nb : Bool) (va vb : Value) (ea eb : Int) : Prop where
  a0 : w.cell? ⟨H, 0, none⟩ = some (.bool na)
  a1 : w.cell? ⟨H, 1, none⟩ = some va
  a2 : w.cell? ⟨H, 2, none⟩ = some (.int .i64 ea)
  b0 : w.cell? ⟨H + 1, 0, none⟩ = some (.bool nb)
  b1 : w.cell? ⟨H + 1, 1, none⟩ = some vb
  b2 : w.cell? ⟨H + 1, 2, none⟩ = some (.int .i64 eb)
theorem B2.new (w : World) (na nb : Bool) (va vb : Value) (ea eb : Int) : B2 ((w.alloc (.cells #[.bool na, va, .int .i64 ea] 45)).alloc (.cells #[.bool nb, vb, .int .i64 eb] 45)) w.heap.size na nb va vb ea eb := by
  have h := fun (i : Nat) => ((Below.refl (w.heap.size + 1) (w.alloc (.cells #[.bool na, va, .int .i64 ea] 45))).alloc (by simp) (.cells #[.bool nb, vb, .int .i64 eb] 45)).cell (p := ⟨w.heap.size, i, none⟩) (by simp)
  refine ⟨?_, ?_, ?_, ?_, ?_, ?_⟩
  · rw [h 0]; simp
  · rw [h 1]; simp
  · rw [h 2]; simp
  all_goals (rw [show w.heap.size + 1 = (w.alloc (.cells #[.bool na, va, .int .i64 ea] 45)).heap.size by simp]; simp)
theorem B2.below {w w' : World} {H : Nat} {na nb : Bool} {va vb : Value} {ea eb : Int} {C : Nat} (h : B2 w H na nb va vb ea eb) (hb : Below C w w') (hC : H + 1 < C) : B2 w' H na nb va vb ea eb :=
  ⟨(hb.cell (p := ⟨H, 0, none⟩) (by show H < C; omega)).trans h.a0, (hb.cell (p := ⟨H, 1, none⟩) (by show H < C; omega)).trans h.a1, (hb.cell (p := ⟨H, 2, none⟩) (by show H < C; omega)).trans h.a2, (hb.cell (p := ⟨H + 1, 0, none⟩) hC).trans h.b0, (hb.cell (p := ⟨H + 1, 1, none⟩) hC).trans h.b1, (hb.cell (p := ⟨H + 1, 2, none⟩) hC).trans h.b2⟩
def padL (n : Nat) (l : List UInt8) : List UInt8 := List.replicate (n - l.length) 0 ++ l
theorem padL_pre {l : List UInt8} {j : Nat} : (0 : UInt8) :: (List.replicate j 0 ++ l) = List.replicate (j + 1) 0 ++ l := by rw [List.replicate_succ]; rfl

set_option maxRecDepth 1000000 in
set_option maxHeartbeats 4000000 in
theorem level_any (na nb : Bool) (va vb : Value) (ea eb : Int) (la lb : List UInt8) (w : World) (hva : Vd w va la) (hvb : Vd w vb lb) (hla : la.length ≤ 500) (hlb : lb.length ≤ 500) (h1 : -200 ≤ ea) (h2 : ea ≤ 200) (h3 : -200 ≤ eb) (h4 : eb ≤ 200) (m : Int) (hm : m = min ea eb) (X Y : List UInt8) (n : Nat)
    (hX : X = la ++ List.replicate (ea - m).toNat 0) (hY : Y = lb ++ List.replicate (eb - m).toNat 0) (hn : n = max X.length Y.length) :
    Calls Tryd.prog 71 #[.agg #[.bool na, va, .int .i64 ea], .agg #[.bool nb, vb, .int .i64 eb]] w fun e w' => ∃ v1 v2, e = .returned (.tuple #[v1, v2, .int .i64 m]) ∧ OwnD w' w.heap.size v1 (padL n X) ∧ OwnD w' w.heap.size v2 (padL n Y) ∧ Below w.heap.size w w' := by
  obtain ⟨i0, hi, hz0, hz1, hz2⟩ := info_parts info3
  have hXl : X.length ≤ 1000 := by rw [hX]; simp; omega
  have hYl : Y.length ≤ 1000 := by rw [hY]; simp; omega
  have W1 : Hid (∀ w1, Below w.heap.size w w1 → Calls Tryd.prog 60 #[va, .int .i64 (ea - m)] w1 fun e w' => ∃ v', e = .returned v' ∧ OwnD w' w1.heap.size v' X ∧ Below w1.heap.size w1 w') := fun w1 hb => by
    have := wide_any va la (ea - m).toNat w1 (hva.below hb) (by omega) (by omega)
    rw [show (((ea - m).toNat : Nat) : Int) = ea - m by omega, ← hX] at this; exact this
  have W2 : Hid (∀ w1, Below w.heap.size w w1 → Calls Tryd.prog 60 #[vb, .int .i64 (eb - m)] w1 fun e w' => ∃ v', e = .returned v' ∧ OwnD w' w1.heap.size v' Y ∧ Below w1.heap.size w1 w') := fun w1 hb => by
    have := wide_any vb lb (eb - m).toNat w1 (hvb.below hb) (by omega) (by omega)
    rw [show (((eb - m).toNat : Nat) : Int) = eb - m by omega, ← hY] at this; exact this
  have HN := Lib.hid hn
  have HB := Lib.hid (B2.new w na nb va vb ea eb)
  have hb0 : Below w.heap.size w ((w.alloc (.cells #[.bool na, va, .int .i64 ea] 45)).alloc (.cells #[.bool nb, vb, .int .i64 eb] 45)) := two_below _ _ _
  clear hva hvb hX hY hn hla hlb
  by_cases hlt : eb < ea
  · obtain rfl : m = eb := by omega
    rw [Int.sub_self] at W2
    clear hm
    go_enter Tryd.func71, Tryd.ntmps71
    go_wp2_with fail
    refine (W1.out _ hb0).mono ?_
    rintro e w1 ⟨v1, rfl, o1, q1⟩
    have S1 := HB.out.below q1 (by simp)
    have q2 : Below w.heap.size w w1 := hb0.trans (q1.mono hb0.size)
    have hz1' : w.heap.size + 1 < w1.heap.size := by have := q1.size; simp at this; omega
    have P1 : OwnD w1 w.heap.size v1 X := o1.mono (by simp; omega)
    have W3 := Lib.hid (W2.out w1 q2)
    obtain ⟨a0, a1, a2, b0, b1, b2⟩ := S1
    clear o1 q1 HB W1 W2 hb0
    go_wp2_with fail
    refine W3.out.mono ?_
    rintro e w2 ⟨v2, rfl, o2, q3⟩
    have P2 := P1.below q3
    have q4 := q2.trans (q3.mono q2.size)
    have P3 : OwnD w2 w.heap.size v2 Y := o2.mono q2.size
    obtain ⟨g1, c1, rfl⟩ := P2.2
    obtain ⟨g2, c2, rfl⟩ := P3.2
    have PX := Lib.hid P2
    have PY := Lib.hid P3
    clear o2 P1 P2 P3 W3 q3 q2 a0 a1 a2 b0 b1 b2 hz1'
    go_wp2
    go_loopw [8] (fun x wr => ∃ j : Nat, j ≤ n - X.length ∧ OwnD wr w.heap.size x (List.replicate j 0 ++ X) ∧ OwnD wr w.heap.size (.slice (some ⟨g2, 0, none⟩) Y.length c2) Y ∧ Below w.heap.size w wr) (fun x _ => n - lenOf x)
    case atStart => exact ⟨0, by omega, by simpa using PX.out, PY.out, q4⟩
    case round =>
      obtain ⟨j, hj, hown, hoth, hbw⟩ := hrel
      have hBw := hbw.size
      obtain ⟨L, hL⟩ : ∃ L, L = List.replicate j 0 ++ X := ⟨_, rfl⟩
      have hLl : L.length = j + X.length := by rw [hL]; simp
      rw [← hL] at hown
      have HL := Lib.hid hL
      clear hL
      obtain ⟨g, cg, rfl⟩ := hown.2
      have hN := HN.out
      by_cases hjk : L.length < Y.length
      · have hnews := hown.news (.cells #[.int .i64 0] 3)
        have hone := ceD_one L
        have hcl := ceD_length L
        obtain ⟨_, hlit⟩ := lit_one wr
        have HO := Lib.hid hown
        have HT := Lib.hid hoth
        have HW := Lib.hid hbw
        have hL1 : L.length ≤ 1000 := by omega
        have hm1 : 1 + L.length ≤ maxLen := by unfold maxLen; omega
        have HLl := Lib.hid hLl
        clear hown hoth hbw hN hXl hYl hLl
        go_wp2_with (first
          | (at_builtin; refine wpList_append_own _ rfl _ _ 43 rfl wr.heap.size 3 i0 (.int .i64 0) 1 8 Tryd.underlying43 hi hz0 hz1 hz2 rfl (by decide) _ _ _ rfl hlit ⟨g, 0, none⟩ L.length cg (ceD L) rfl (by omega) hnews hone hm1 (by omega) (by simp) ?_))
        intro v' w3 hown3 hgrow hnil
        have R := preD_own (l := L) hown3 hgrow hnil
        have R1 : OwnD w3 w.heap.size v' (List.replicate (j + 1) 0 ++ X) := by
          have := R.1.mono hBw
          rw [HL.out, padL_pre] at this; exact this
        have R2 := HT.out.below R.2
        have R3 := HW.out.trans (R.2.mono hBw)
        clear hown3 hgrow hnil R hlit hnews hone hcl HO HT HW
        obtain ⟨g3, c3, rfl⟩ := R1.2
        have HR := Lib.hid R1
        have HR2 := Lib.hid R2
        have HR3 := Lib.hid R3
        clear R1 R2 R3
        go_wp2
        go_roundw
        case rel => exact ⟨j + 1, by have := HN.out; have := HLl.out; omega, HR.out, HR2.out, HR3.out⟩
        case measure => simp [lenOf]; have := HN.out; have := HLl.out; omega
      · have HO1 : Hid (OwnD wr w.heap.size (.slice (some ⟨g, 0, none⟩) L.length cg) L) := Lib.hid hown
        have HT := Lib.hid hoth
        have hle : Y.length ≤ L.length := by omega
        have hLn : L.length = n := by omega
        have hL2 : L.length ≤ 1000 := by omega
        have hLX : Hid (L = padL n X) := by show _ = _; rw [HL.out]; unfold padL; rw [show j = n - X.length by omega]
        have HLn := Lib.hid hLn
        clear hown hoth hN hLl hLn
        go_wp2
        go_loopw [9] (fun x wr2 => ∃ j : Nat, j ≤ n - Y.length ∧ OwnD wr2 w.heap.size x (List.replicate j 0 ++ Y) ∧ OwnD wr2 w.heap.size (.slice (some ⟨g, 0, none⟩) L.length cg) L ∧ Below w.heap.size w wr2) (fun x _ => n - lenOf x)
        case atStart => exact ⟨0, by omega, by simpa using HT.out, HO1.out, hbw⟩
        case round =>
          obtain ⟨j2, hj2, hown, hoth, hbw2⟩ := hrel
          have hBw2 := hbw2.size
          obtain ⟨M, hM⟩ : ∃ M, M = List.replicate j2 0 ++ Y := ⟨_, rfl⟩
          have hMl : M.length = j2 + Y.length := by rw [hM]; simp
          rw [← hM] at hown
          have HM := Lib.hid hM
          clear hM
          obtain ⟨g4, cg4, rfl⟩ := hown.2
          have hLn := HLn.out
          by_cases hjk2 : M.length < L.length
          · have hnews := hown.news (.cells #[.int .i64 0] 3)
            have hone := ceD_one M
            have hcl := ceD_length M
            obtain ⟨_, hlit⟩ := lit_one wr
            have HO := Lib.hid hown
            have HT2 := Lib.hid hoth
            have HW := Lib.hid hbw2
            have hm1 : 1 + M.length ≤ maxLen := by unfold maxLen; omega
            have HMl := Lib.hid hMl
            clear hown hoth hbw2 hXl hYl hMl hLn
            go_wp2_with (first
              | (at_builtin; refine wpList_append_own _ rfl _ _ 43 rfl wr.heap.size 3 i0 (.int .i64 0) 1 8 Tryd.underlying43 hi hz0 hz1 hz2 rfl (by decide) _ _ _ rfl hlit ⟨g4, 0, none⟩ M.length cg4 (ceD M) rfl (by omega) hnews hone hm1 (by omega) (by simp) ?_))
            intro v' w3 hown3 hgrow hnil
            have R := preD_own (l := M) hown3 hgrow hnil
            have R1 : OwnD w3 w.heap.size v' (List.replicate (j2 + 1) 0 ++ Y) := by
              have := R.1.mono hBw2
              rw [HM.out, padL_pre] at this; exact this
            have R2 := HT2.out.below R.2
            have R3 := HW.out.trans (R.2.mono hBw2)
            clear hown3 hgrow hnil R hlit hnews hone hcl HO HT2 HW
            obtain ⟨g3, c3, rfl⟩ := R1.2
            have HR := Lib.hid R1
            have HR2 := Lib.hid R2
            have HR3 := Lib.hid R3
            clear R1 R2 R3
            go_wp2
            go_roundw
            case rel => exact ⟨j2 + 1, by have := HMl.out; have := HLn.out; omega, HR.out, HR2.out, HR3.out⟩
            case measure => simp [lenOf]; have := HMl.out; have := HLn.out; omega
          · have hMY : M = padL n Y := by rw [HM.out]; unfold padL; rw [show j2 = n - Y.length by omega]
            have HF2 := Lib.hid hMY
            have HO2 := Lib.hid hown
            have HT2 := Lib.hid hoth
            have HMl := Lib.hid hMl
            clear hown hoth hMY hMl hLn
            go_wp2
            refine bodyPost_ret (v := .tuple #[.slice (some ⟨g, 0, none⟩) L.length cg, .slice (some ⟨g4, 0, none⟩) M.length cg4, .int .i64 m]) (by simp [results, Tryd.results71, go_sem]) rfl ⟨_, _, rfl, ?_, ?_, hbw2⟩
            · exact (congrArg (OwnD wr w.heap.size (.slice (some ⟨g, 0, none⟩) L.length cg)) hLX.out).mp HT2.out
            · exact (congrArg (OwnD wr w.heap.size (.slice (some ⟨g4, 0, none⟩) M.length cg4)) HF2.out).mp HO2.out
  · obtain rfl : m = ea := by omega
    rw [Int.sub_self] at W1
    clear hm
    go_enter Tryd.func71, Tryd.ntmps71
    go_wp2_with fail
    refine (W1.out _ hb0).mono ?_
    rintro e w1 ⟨v1, rfl, o1, q1⟩
    have S1 := HB.out.below q1 (by simp)
    have q2 : Below w.heap.size w w1 := hb0.trans (q1.mono hb0.size)
    have hz1' : w.heap.size + 1 < w1.heap.size := by have := q1.size; simp at this; omega
    have P1 : OwnD w1 w.heap.size v1 X := o1.mono (by simp; omega)
    have W3 := Lib.hid (W2.out w1 q2)
    obtain ⟨a0, a1, a2, b0, b1, b2⟩ := S1
    clear o1 q1 HB W1 W2 hb0
    go_wp2_with fail
    refine W3.out.mono ?_
    rintro e w2 ⟨v2, rfl, o2, q3⟩
    have P2 := P1.below q3
    have q4 := q2.trans (q3.mono q2.size)
    have P3 : OwnD w2 w.heap.size v2 Y := o2.mono q2.size
    obtain ⟨g1, c1, rfl⟩ := P2.2
    obtain ⟨g2, c2, rfl⟩ := P3.2
    have PX := Lib.hid P2
    have PY := Lib.hid P3
    clear o2 P1 P2 P3 W3 q3 q2 a0 a1 a2 b0 b1 b2 hz1'
    go_wp2
    go_loopw [8] (fun x wr => ∃ j : Nat, j ≤ n - X.length ∧ OwnD wr w.heap.size x (List.replicate j 0 ++ X) ∧ OwnD wr w.heap.size (.slice (some ⟨g2, 0, none⟩) Y.length c2) Y ∧ Below w.heap.size w wr) (fun x _ => n - lenOf x)
    case atStart => exact ⟨0, by omega, by simpa using PX.out, PY.out, q4⟩
    case round =>
      obtain ⟨j, hj, hown, hoth, hbw⟩ := hrel
      have hBw := hbw.size
      obtain ⟨L, hL⟩ : ∃ L, L = List.replicate j 0 ++ X := ⟨_, rfl⟩
      have hLl : L.length = j + X.length := by rw [hL]; simp
      rw [← hL] at hown
      have HL := Lib.hid hL
      clear hL
      obtain ⟨g, cg, rfl⟩ := hown.2
      have hN := HN.out
      by_cases hjk : L.length < Y.length
      · have hnews := hown.news (.cells #[.int .i64 0] 3)
        have hone := ceD_one L
        have hcl := ceD_length L
        obtain ⟨_, hlit⟩ := lit_one wr
        have HO := Lib.hid hown
        have HT := Lib.hid hoth
        have HW := Lib.hid hbw
        have hL1 : L.length ≤ 1000 := by omega
        have hm1 : 1 + L.length ≤ maxLen := by unfold maxLen; omega
        have HLl := Lib.hid hLl
        clear hown hoth hbw hN hXl hYl hLl
        go_wp2_with (first
          | (at_builtin; refine wpList_append_own _ rfl _ _ 43 rfl wr.heap.size 3 i0 (.int .i64 0) 1 8 Tryd.underlying43 hi hz0 hz1 hz2 rfl (by decide) _ _ _ rfl hlit ⟨g, 0, none⟩ L.length cg (ceD L) rfl (by omega) hnews hone hm1 (by omega) (by simp) ?_))
        intro v' w3 hown3 hgrow hnil
        have R := preD_own (l := L) hown3 hgrow hnil
        have R1 : OwnD w3 w.heap.size v' (List.replicate (j + 1) 0 ++ X) := by
          have := R.1.mono hBw
          rw [HL.out, padL_pre] at this; exact this
        have R2 := HT.out.below R.2
        have R3 := HW.out.trans (R.2.mono hBw)
        clear hown3 hgrow hnil R hlit hnews hone hcl HO HT HW
        obtain ⟨g3, c3, rfl⟩ := R1.2
        have HR := Lib.hid R1
        have HR2 := Lib.hid R2
        have HR3 := Lib.hid R3
        clear R1 R2 R3
        go_wp2
        go_roundw
        case rel => exact ⟨j + 1, by have := HN.out; have := HLl.out; omega, HR.out, HR2.out, HR3.out⟩
        case measure => simp [lenOf]; have := HN.out; have := HLl.out; omega
      · have HO1 : Hid (OwnD wr w.heap.size (.slice (some ⟨g, 0, none⟩) L.length cg) L) := Lib.hid hown
        have HT := Lib.hid hoth
        have hle : Y.length ≤ L.length := by omega
        have hLn : L.length = n := by omega
        have hL2 : L.length ≤ 1000 := by omega
        have hLX : Hid (L = padL n X) := by show _ = _; rw [HL.out]; unfold padL; rw [show j = n - X.length by omega]
        have HLn := Lib.hid hLn
        clear hown hoth hN hLl hLn
        go_wp2
        go_loopw [9] (fun x wr2 => ∃ j : Nat, j ≤ n - Y.length ∧ OwnD wr2 w.heap.size x (List.replicate j 0 ++ Y) ∧ OwnD wr2 w.heap.size (.slice (some ⟨g, 0, none⟩) L.length cg) L ∧ Below w.heap.size w wr2) (fun x _ => n - lenOf x)
        case atStart => exact ⟨0, by omega, by simpa using HT.out, HO1.out, hbw⟩
        case round =>
          obtain ⟨j2, hj2, hown, hoth, hbw2⟩ := hrel
          have hBw2 := hbw2.size
          obtain ⟨M, hM⟩ : ∃ M, M = List.replicate j2 0 ++ Y := ⟨_, rfl⟩
          have hMl : M.length = j2 + Y.length := by rw [hM]; simp
          rw [← hM] at hown
          have HM := Lib.hid hM
          clear hM
          obtain ⟨g4, cg4, rfl⟩ := hown.2
          have hLn := HLn.out
          by_cases hjk2 : M.length < L.length
          · have hnews := hown.news (.cells #[.int .i64 0] 3)
            have hone := ceD_one M
            have hcl := ceD_length M
            obtain ⟨_, hlit⟩ := lit_one wr
            have HO := Lib.hid hown
            have HT2 := Lib.hid hoth
            have HW := Lib.hid hbw2
            have hm1 : 1 + M.length ≤ maxLen := by unfold maxLen; omega
            have HMl := Lib.hid hMl
            clear hown hoth hbw2 hXl hYl hMl hLn
            go_wp2_with (first
              | (at_builtin; refine wpList_append_own _ rfl _ _ 43 rfl wr.heap.size 3 i0 (.int .i64 0) 1 8 Tryd.underlying43 hi hz0 hz1 hz2 rfl (by decide) _ _ _ rfl hlit ⟨g4, 0, none⟩ M.length cg4 (ceD M) rfl (by omega) hnews hone hm1 (by omega) (by simp) ?_))
            intro v' w3 hown3 hgrow hnil
            have R := preD_own (l := M) hown3 hgrow hnil
            have R1 : OwnD w3 w.heap.size v' (List.replicate (j2 + 1) 0 ++ Y) := by
              have := R.1.mono hBw2
              rw [HM.out, padL_pre] at this; exact this
            have R2 := HT2.out.below R.2
            have R3 := HW.out.trans (R.2.mono hBw2)
            clear hown3 hgrow hnil R hlit hnews hone hcl HO HT2 HW
            obtain ⟨g3, c3, rfl⟩ := R1.2
            have HR := Lib.hid R1
            have HR2 := Lib.hid R2
            have HR3 := Lib.hid R3
            clear R1 R2 R3
            go_wp2
            go_roundw
            case rel => exact ⟨j2 + 1, by have := HMl.out; have := HLn.out; omega, HR.out, HR2.out, HR3.out⟩
            case measure => simp [lenOf]; have := HMl.out; have := HLn.out; omega
          · have hMY : M = padL n Y := by rw [HM.out]; unfold padL; rw [show j2 = n - Y.length by omega]
            have HF2 := Lib.hid hMY
            have HO2 := Lib.hid hown
            have HT2 := Lib.hid hoth
            have HMl := Lib.hid hMl
            clear hown hoth hMY hMl hLn
            go_wp2
            refine bodyPost_ret (v := .tuple #[.slice (some ⟨g, 0, none⟩) L.length cg, .slice (some ⟨g4, 0, none⟩) M.length cg4, .int .i64 m]) (by simp [results, Tryd.results71, go_sem]) rfl ⟨_, _, rfl, ?_, ?_, hbw2⟩
            · exact (congrArg (OwnD wr w.heap.size (.slice (some ⟨g, 0, none⟩) L.length cg)) hLX.out).mp HT2.out
            · exact (congrArg (OwnD wr w.heap.size (.slice (some ⟨g4, 0, none⟩) M.length cg4)) HF2.out).mp HO2.out
end Go.Proofs.YtkdjdoncmihkfaaDoor
