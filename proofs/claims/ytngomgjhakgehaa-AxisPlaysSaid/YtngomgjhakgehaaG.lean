/- Delete, Revive; a map that is keyed by ids. -/
import Derived.Test.YtngomgjhakgehaaF
import Derived.Maps.OwnSet
import Derived.DeepKeys5
import Derived.MapViews
namespace Go.Proofs.Ytngomgjhakgehaa
open Go.RowKit Go.Maps

theorem delete_any (s : Nat) (S : Nat → Prop) (l : List Ent) (a n : Int) (w : World) (h : AxAt w s S l) (hlen : l.length ≤ 100000) :
    Calls Try.prog 25 #[.pointer (some ⟨s, 0, none⟩), .agg #[.int .i64 a, .int .i64 n]] w (TurnOut s S l (a, n) false w) := by
  have hb0 : Below w.heap.size w (w.alloc (.cells #[.int .i64 a, .int .i64 n] 25)) := (Below.refl _ _).alloc (Nat.le_refl _) _
  have H0 := Lib.hid (h.later hb0)
  have HB0 := Lib.hid hb0
  obtain ⟨k0, k1, _⟩ := IdBox.new w a n
  simp only at k0 k1
  obtain ⟨R, hR⟩ : ∃ R, TurnOut s S l (a, n) false w = R := ⟨_, rfl⟩
  rw [hR]
  have HR := Lib.hid hR
  clear h hb0 hR
  go_enter Try.func25, Try.ntmps25
  go_wp2_with fail
  refine (turn_any s S l a n false _ H0.out hlen).mono ?_
  rintro e w2 ⟨rfl, ha, ho⟩
  have HA := Lib.hid ha
  have HO := Lib.hid (((Only.of_below HB0.out).mono (T := S) (fun b h1 h2 => by omega)).trans ho (fun b hb _ => hb))
  clear ha ho k0 k1
  go_wp2
  rw [← HR.out]
  exact ⟨rfl, HA.out, HO.out⟩
theorem revive_any (s : Nat) (S : Nat → Prop) (l : List Ent) (a n : Int) (w : World) (h : AxAt w s S l) (hlen : l.length ≤ 100000) :
    Calls Try.prog 26 #[.pointer (some ⟨s, 0, none⟩), .agg #[.int .i64 a, .int .i64 n]] w (TurnOut s S l (a, n) true w) := by
  have hb0 : Below w.heap.size w (w.alloc (.cells #[.int .i64 a, .int .i64 n] 25)) := (Below.refl _ _).alloc (Nat.le_refl _) _
  have H0 := Lib.hid (h.later hb0)
  have HB0 := Lib.hid hb0
  obtain ⟨k0, k1, _⟩ := IdBox.new w a n
  simp only at k0 k1
  obtain ⟨R, hR⟩ : ∃ R, TurnOut s S l (a, n) true w = R := ⟨_, rfl⟩
  rw [hR]
  have HR := Lib.hid hR
  clear h hb0 hR
  go_enter Try.func26, Try.ntmps26
  go_wp2_with fail
  refine (turn_any s S l a n true _ H0.out hlen).mono ?_
  rintro e w2 ⟨rfl, ha, ho⟩
  have HA := Lib.hid ha
  have HO := Lib.hid (((Only.of_below HB0.out).mono (T := S) (fun b h1 h2 => by omega)).trans ho (fun b hb _ => hb))
  clear ha ho k0 k1
  go_wp2
  rw [← HR.out]
  exact ⟨rfl, HA.out, HO.out⟩

/-- an id's numbers are of the machine's -/
def Wf (p : IdP) : Prop := (Lit.int .i64 p.1).wf = true ∧ (Lit.int .i64 p.2).wf = true
theorem deep25 : Try.prog.keyTypeAt (Try.prog.types.size + 1) 25 = true := by kernel_rfl
theorem wide25 : (match Try.prog.underlying 25 with | some (.array _ _) | some (.struct _) => true | _ => false) = true := by kernel_rfl
theorem laidOut : laidOutB Try.prog = true := by kernel_rfl
theorem row25 : (25 : TypeId) < Try.prog.types.size := of_decide_eq_true (by kernel_rfl)
theorem keyed25 : Keyed Try.prog 25 := Keyed.of_law (deep_law_laid laidOut (m := 2) (by omega) row25 (by kernel_rfl) wide25)
theorem key_some {p : IdP} (h : Wf p) : ∃ kl, keyOf Try.prog 25 (.agg #[.int .i64 p.1, .int .i64 p.2]) = some kl := by
  obtain ⟨h1, h2⟩ := h
  have c25 : Try.prog.cellsOf 25 = 2 := by kernel_rfl
  have c3 : Try.prog.cellsOf 3 = 1 := by kernel_rfl
  have kt : Try.prog.keyType 25 = true := by kernel_rfl
  obtain ⟨m, hm⟩ : ∃ m, Try.prog.types.size = m + 1 := ⟨Try.prog.types.size - 1, (Nat.succ_pred_eq_of_pos (Nat.lt_of_le_of_lt (Nat.zero_le 25) row25)).symm⟩
  unfold keyOf
  rw [Try.underlying25, hm]
  simp [Value.formed, Try.underlying25, c25, Program.keyLits, Try.underlying3, c3, kt, h1, h2, Value.cells]
/-- the key of an id -/
noncomputable def kid (p : IdP) : Lit := (keyOf Try.prog 25 (.agg #[.int .i64 p.1, .int .i64 p.2])).getD (.bool false)
theorem key_of {p : IdP} (h : Wf p) : keyOf Try.prog 25 (.agg #[.int .i64 p.1, .int .i64 p.2]) = some (kid p) := by
  obtain ⟨kl, hk⟩ := key_some h
  unfold kid
  rw [hk]; rfl
theorem kid_inj {p q : IdP} (hp : Wf p) (hq : Wf q) (h : kid p = kid q) : p = q := by
  have h1 := key_of hp
  rw [h] at h1
  have := keyed25.inj h1 (key_of hq)
  simp only [Value.agg.injEq, Array.mk.injEq, List.cons.injEq, Value.int.injEq, true_and, and_true] at this
  exact Prod.ext this.1 this.2
/-- the map knows which ids came -/
def RelM (D : DataW Unit) (l : List Ent) : Prop := ∀ p, Wf p → D.atKey (kid p) (.lit (.bool false)) = .lit (.bool (hasE l p))
theorem relM_nil : RelM (.map []) [] := fun _ _ => rfl
theorem relM_put {D : DataW Unit} {l : List Ent} (hD : IsMap D) (hr : RelM D l) {p : IdP} (hp : Wf p) (b : Bool) : RelM (D.put (kid p) (.lit (.bool true))) (l ++ [(p, b)]) := by
  have hk : WideAt.IsKeyLit (kid p) := keyed25.key (key_of hp)
  intro q hq
  by_cases h : q = p
  · subst h
    rw [atKey_put_same hD hk]
    simp [hasE]
  · rw [atKey_put_other (fun he => h (kid_inj hq hp he)), hr q hq]
    congr 2
    have : (p == q) = false := by simpa using fun he : p = q => h he.symm
    simp [hasE, this]
theorem plain_bool_inv {v : Value} {d : DataW Unit} {ps : List MemPlace} (h : plainElem Try.prog 4 v = some (d, ps)) : ∃ x, v = .bool x ∧ d = .lit (.bool x) := by
  unfold plainElem at h
  rw [Try.underlying4] at h
  split at h
  · rename_i x heq
    simp only [Option.some.injEq, Prod.mk.injEq] at h
    exact ⟨_, rfl, h.1.symm⟩
  all_goals simp_all
/-- whether an id came -/
theorem map_look {w : World} {b K : Nat} {D : DataW Unit} {l : List Ent} (h : w.ownsMap Try.prog 25 (plainElem Try.prog 4) b K D) (hr : RelM D l) {p : IdP} (hp : Wf p) :
    (Instr.lookup 66 (.map (some b)) (.agg #[.int .i64 p.1, .int .i64 p.2]) false).run Try.prog w = .ok (.bool (hasE l p)) w := by
  have hz : plainElem (H := Unit) Try.prog 4 (.bool false) = some (.lit (.bool false), []) := by simp [plainElem, Try.underlying4]
  obtain ⟨v, ps, hrun, hv⟩ := h.lookup keyed25 Try.underlying66 (Try.zeroValue4 w) hz (key_of hp)
  rw [hr p hp] at hv
  obtain ⟨x, rfl, hx⟩ := plain_bool_inv hv
  simp only [DataW.lit.injEq, Lit.bool.injEq] at hx
  rw [hx]
  exact hrun
end Go.Proofs.Ytngomgjhakgehaa
