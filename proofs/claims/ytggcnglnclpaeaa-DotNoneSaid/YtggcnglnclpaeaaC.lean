/- What lies where: a Seen in memory; what a call leaves alone. The contracts of number, Right, New, Has, Add. -/
import Derived.Test.YtggcnglnclpaeaaA
import Derived.Test.YtggcnglnclpaeaaB
import Derived.RangeFuncBox
import Derived.WalkKit
import Derived.Maps.OwnIn
import Derived.Lib.Hide
namespace Go.Proofs.Ytggcnglnclpaeaa
open Go.RowKit Go.Maps

/-- of what was there, S aside, nothing has turned -/
structure Only (S : Nat → Prop) (w w' : World) : Prop where
  os : w'.os = w.os
  tape : w'.tape = w.tape
  output : w'.output = w.output
  size : w.heap.size ≤ w'.heap.size
  block : ∀ k, k < w.heap.size → ¬ S k → w'.heap[k]? = w.heap[k]?
section
variable {S T : Nat → Prop} {w w' w2 : World}
theorem Only.refl (S : Nat → Prop) (w : World) : Only S w w := ⟨rfl, rfl, rfl, Nat.le_refl _, fun _ _ _ => rfl⟩
theorem Only.trans (h : Only S w w') (k : Only T w' w2) (hT : ∀ b, T b → b < w.heap.size → S b) : Only S w w2 :=
  ⟨k.os.trans h.os, k.tape.trans h.tape, k.output.trans h.output, Nat.le_trans h.size k.size, fun b hb hs =>
    (k.block b (Nat.lt_of_lt_of_le hb h.size) (fun ht => hs (hT b ht hb))).trans (h.block b hb hs)⟩
theorem Only.mono (h : Only S w w') (hS : ∀ b, S b → b < w.heap.size → T b) : Only T w w' :=
  ⟨h.os, h.tape, h.output, h.size, fun b hb hs => h.block b hb (fun k => hs (hS b k hb))⟩
theorem Only.of_below {n : Nat} (h : Below n w w') : Only (fun b => n ≤ b) w w' := ⟨h.os, h.tape, h.output, h.size, fun b _ hs => h.block b (by omega)⟩
theorem Only.below {n : Nat} (h : Only S w w') (hn : n ≤ w.heap.size) (hS : ∀ b, S b → n ≤ b) : Below n w w' := ⟨h.os, h.tape, h.output, h.size, fun b hb => h.block b (by omega) (fun k => absurd (hS b k) (by omega))⟩
theorem Only.of_grown {row : Option Nat} (h : w.grownBy w' row) : Only (fun b => row = some b) w w' := ⟨h.os, h.tape, h.output, h.size, fun b hb hs => h.block b hb (fun k => hs k.symm)⟩
theorem Only.drew (h : Only S w w') : Only S w w'.drew := ⟨h.os, h.tape, h.output, h.size, h.block⟩
end

/-- the numbers that a map's datum has -/
def RelD (D : DataW Unit) (l : Row) : Prop :=
  (∀ a, D.atKey (.int .i64 a) (.lit (.int .i64 0)) = .lit (.int .i64 (look l a))) ∧ ∀ a, (Maps.has D (.int .i64 a) = true ↔ ∃ p ∈ l, p.1 = a)

/-- a Seen whose blocks are among S -/
def SeenAt (w : World) (s : Nat) (S : Nat → Prop) (K : Nat) (l : Row) : Prop :=
  S s ∧ OkR l ∧ ((Boxed w s 47 (.map none) ∧ l = []) ∨
    ∃ mb D, S mb ∧ mb ≠ s ∧ Boxed w s 47 (.map (some mb)) ∧ w.ownsMap (H := Unit) Try.prog 3 (plainElem Try.prog 3) mb K D ∧ RelD D l)
theorem SeenAt.ok {w : World} {s : Nat} {S : Nat → Prop} {K : Nat} {l : Row} (h : SeenAt w s S K l) : OkR l := h.2.1

theorem box_kept {w w' : World} {s : Nat} {t : TypeId} {v : Value} (h : Boxed w s t v) (hb : w'.heap[s]? = w.heap[s]?) : Boxed w' s t v := hb.trans h
theorem map_kept {w w' : World} {R : Value → Option (DataW Unit × List MemPlace)} {b K : Nat} {D : DataW Unit} (h : w.ownsMap Try.prog 3 R b K D) (hb : w'.heap[b]? = w.heap[b]?) : w'.ownsMap Try.prog 3 R b K D := by
  obtain ⟨es, clock, h1, h2⟩ := h
  exact ⟨es, clock, hb.trans h1, h2⟩
theorem box_lt {w : World} {s : Nat} {t : TypeId} {v : Value} (h : Boxed w s t v) : s < w.heap.size := (Array.getElem?_eq_some_iff.1 h).1

/-- it lies on where its blocks do -/
theorem SeenAt.kept {w w' : World} {s : Nat} {S T : Nat → Prop} {K : Nat} {l : Row} (h : SeenAt w s S K l) (ho : Only T w w') (hd : ∀ b, S b → b < w.heap.size → ¬ T b) : SeenAt w' s S K l := by
  obtain ⟨h1, h2, h3⟩ := h
  refine ⟨h1, h2, ?_⟩
  rcases h3 with ⟨hb, hl⟩ | ⟨mb, D, hm, hne, hb, hw, hr⟩
  · exact .inl ⟨box_kept hb (ho.block s (box_lt hb) (hd s h1 (box_lt hb))), hl⟩
  · exact .inr ⟨mb, D, hm, hne, box_kept hb (ho.block s (box_lt hb) (hd s h1 (box_lt hb))), map_kept hw (ho.block mb hw.lt (hd mb hm hw.lt)), hr⟩
theorem SeenAt.wider {w : World} {s : Nat} {S T : Nat → Prop} {K K' : Nat} {l : Row} (h : SeenAt w s S K l) (hS : ∀ b, S b → b < w.heap.size → T b) (hK : K ≤ K') : SeenAt w s T K' l := by
  obtain ⟨h1, h2, h3⟩ := h
  rcases h3 with ⟨hb, hl⟩ | ⟨mb, D, hm, hne, hb, hw, hr⟩
  · exact ⟨hS s h1 (box_lt hb), h2, .inl ⟨hb, hl⟩⟩
  · exact ⟨hS s h1 (box_lt hb), h2, .inr ⟨mb, D, hS mb hm hw.lt, hne, hb, hw.mono hK, hr⟩⟩
theorem SeenAt.lt {w : World} {s : Nat} {S : Nat → Prop} {K : Nat} {l : Row} (h : SeenAt w s S K l) : s < w.heap.size := by
  rcases h.2.2 with ⟨hb, _⟩ | ⟨_, _, _, _, hb, _⟩ <;> exact box_lt hb

/-- a pointer to a Seen, or a nil one, which has seen nothing -/
def SeenP (w : World) (p : Option Addr) (S : Nat → Prop) (K : Nat) (l : Row) : Prop :=
  (p = none ∧ l = []) ∨ ∃ s, p = some ⟨s, 0, none⟩ ∧ SeenAt w s S K l
theorem SeenP.ok {w : World} {p : Option Addr} {S : Nat → Prop} {K : Nat} {l : Row} (h : SeenP w p S K l) : OkR l := by
  rcases h with ⟨_, rfl⟩ | ⟨s, _, h⟩
  · exact OkR.nil
  · exact h.ok
theorem SeenP.kept {w w' : World} {p : Option Addr} {S T : Nat → Prop} {K : Nat} {l : Row} (h : SeenP w p S K l) (ho : Only T w w') (hd : ∀ b, S b → b < w.heap.size → ¬ T b) : SeenP w' p S K l := by
  rcases h with h | ⟨s, e, h⟩
  · exact .inl h
  · exact .inr ⟨s, e, h.kept ho hd⟩

theorem SeenP.below {w w' : World} {p : Option Addr} {S : Nat → Prop} {K : Nat} {l : Row} (h : SeenP w p S K l) (hb : Below w.heap.size w w') : SeenP w' p S K l :=
  h.kept (Only.of_below hb) (fun _ _ h1 h2 => by omega)

theorem key_wf {a : Int} (h0 : -9223372036854775808 ≤ a) (h1 : a ≤ 9223372036854775807) : (Lit.int .i64 a).wf = true := by
  simp [Lit.wf, show IntKind.i64.min = -9223372036854775808 from rfl, show IntKind.i64.max = 9223372036854775807 from rfl]; omega
theorem ret_int {k : IntKind} {a b : Int} (h : a = b) : Ending.returned (.int k a) = .returned (.int k b) := by rw [h]

theorem isAuthor_any (a : Int) (w : World) : Calls Try.prog 31 #[.int .i64 a] w fun e w' => e = .returned (.bool (decide (1 ≤ a) && decide (a ≤ 1000))) ∧ w = w' := by
  by_cases h1 : 1 ≤ a <;> by_cases h2 : a ≤ 1000
  all_goals
    go_enter Try.func31, Try.ntmps31
    go_wp2
    go_ret
    simp [h1, h2]

theorem number_any (p : Option Addr) (S : Nat → Prop) (K : Nat) (l : Row) (a : Int) (w : World) (h : SeenP w p S K l) (h0 : -9223372036854775808 ≤ a) (h1 : a ≤ 9223372036854775807) :
    Calls Try.prog 29 #[.pointer p, .int .i64 a] w fun e w' => e = .returned (.int .i64 (look l a)) ∧ w = w' := by
  have hkey := Maps.keyOf_int_mk Try.underlying3 (key_wf h0 h1)
  rcases h with ⟨rfl, rfl⟩ | ⟨s, rfl, hs, hok, ⟨hb, rfl⟩ | ⟨mb, D, hm, hne, hb, hw, hr⟩⟩
  · go_enter Try.func29, Try.ntmps29
    go_wp2
    go_ret
    exact ⟨rfl, rfl⟩
  · have hc := hb.cell
    have hlook : (Instr.lookup 45 (.map none) (.int .i64 a) false).run Try.prog w = .ok (.int .i64 0) w := by
      have := Maps.look_nil (w := w) false (Maps.int_keyed Try.underlying3) Try.underlying45 (Try.zeroValue3 w) hkey
      simpa using this
    go_enter Try.func29, Try.ntmps29
    go_wp2
    go_ret
    exact ⟨rfl, rfl⟩
  · have hc := hb.cell
    have HR := Lib.hid (hr.1 a)
    clear hr hb h0 h1
    go_enter Try.func29, Try.ntmps29
    go_wp2_with (at_lookup; refine wpList_lookup_own_int _ rfl _ _ 45 rfl 3 3 .i64 (Maps.int_keyed Try.underlying3) Try.underlying45 Try.underlying3 (Try.zeroValue3 _) mb K _ rfl hw _ _ rfl hkey ?_; intro c hat hwc)
    go_ret
    have e := HR.out
    rw [hat] at e
    exact ⟨ret_int (by injection e with e; injection e with _ e), rfl⟩

/-- an id as a value -/
def idV (a n : Int) : Value := .agg #[.int .i64 a, .int .i64 n]

theorem right_any (a n : Int) (w : World) : Calls Try.prog 28 #[idV a n] w fun e w' => e = .returned (.bool (mayB a n)) ∧ Below w.heap.size w w' := by
  unfold idV
  by_cases h1 : 1 ≤ n
  all_goals
    obtain ⟨b, hb⟩ : ∃ b, (decide (1 ≤ a) && decide (a ≤ 1000)) = b := ⟨_, rfl⟩
    have HB := Lib.hid hb
    clear hb
    cases b
  all_goals
    go_enter Try.func28, Try.ntmps28
    go_wp2_with (go_at_call 31; refine (isAuthor_any _ _).mono ?_; rw [HB.out]; rintro e w1 ⟨rfl, rfl⟩)
    go_ret
    exact ⟨by simp [mayB, HB.out, h1], (Below.refl _ _).alloc (Nat.le_refl _) _⟩

theorem new_any (w : World) : Calls Try.prog 11 #[] w fun e w' => e = .returned (.pointer (some ⟨w.heap.size, 0, none⟩)) ∧ w' = w.alloc (.cells #[.map none] 47) := by
  go_enter Try.func11, Try.ntmps11
  go_wp2
  go_ret
  exact ⟨rfl, rfl⟩

end Go.Proofs.Ytggcnglnclpaeaa
