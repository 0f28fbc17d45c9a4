/- A region that draws its order and only reads, inside a fence, a round of a loop over an iterator too: each operation yields one value in every world that meets S. -/
import Derived.Deep.RegionHeld3
import Derived.OrdersIn
namespace Go.Proofs.Ytngomgjhakgehaa
section
variable {F : Fence} {n : Nat} {P : Program} {ops : Array Oper} {Q : Exit → Act → World → Prop} {md : Region.Mode} {S : World → Prop}

/-- whatever may come up only yields -/
def wpP (P : Program) (md : Region.Mode) (ops : Array Oper) (Q : Act → Prop) (S : World → Prop) : Nat → Array Bool → Act → Prop
  | 0, listed, a => Region.ready md ops listed = [] ∧ Q a
  | k + 1, listed, a => (Region.ready md ops listed = [] → Q a) ∧ ∀ i, i ∈ Region.ready md ops listed → ∃ o v, ops[i]? = some o ∧ YieldsIf P ops S o v a ∧ wpP P md ops Q S k (listed.setIfInBounds i true) (a.put o.dst v)
/-- a call of a builtin, or none at all; nothing put off -/
def tame (o : Oper) : Bool := match o.op with
  | .call c => match c.callee with | .builtin _ => true | _ => false
  | .defer _ => false
  | _ => true
theorem tame_about {o : Oper} (h : tame o = true) (ρ : Operand → Value) (w : World) : o.about P w ρ = none := by
  unfold Oper.about
  unfold tame at h
  cases ho : o.op <;> first | rfl | skip
  rename_i c
  rw [ho] at h
  simp only at h
  cases hc : c.callee with
  | builtin b => simp [resolve, hc, Target.leads]
  | value f => rw [hc] at h; cases h
  | invoke r s => rw [hc] at h; cases h
theorem tame_defer {o : Oper} (h : tame o = true) : ∀ c, o.op ≠ .defer c := by
  intro c hc
  unfold tame at h
  rw [hc] at h
  cases h
theorem wpP_in (ht : ∀ o ∈ ops, tame o = true) (k : Nat) : ∀ (listed : Array Bool) (a : Act) (w : World), S w → wpP P md ops (fun a' => ∀ w', S w' → Q .normal a' w') S k listed a → wpAnyIn F n P md ops Q k listed a w := by
  induction k with
  | zero => intro listed a w hS h; exact ⟨h.1, h.2 w hS⟩
  | succ k ih =>
    intro listed a w hS h
    refine ⟨fun h0 => h.1 h0 w hS, fun i hi => ?_⟩
    obtain ⟨o, v, ho, hy, hr⟩ := h.2 i hi
    have hto := ht o (Array.mem_of_getElem? ho)
    have hab : ∀ f, o.about P w a.eval = some f → F.fn f := fun f hf => by rw [tame_about hto] at hf; cases hf
    unfold wpOpIn
    simp only [ho]
    rcases hy with ⟨hw, hv⟩ | ⟨hw, rfl⟩
    · simp only [hw, if_true, Oper.wpIn, Oper.semAt_eq F.round a.eval o (tame_defer hto), hv w hS, Oper.uponIn_value]
      exact ⟨hab, ih _ _ w hS hr⟩
    · simp only [hw, Bool.false_eq_true, if_false]
      exact ⟨hab, ih _ _ w hS hr⟩
theorem wpP_take {Q : Act → Prop} {i : Nat} {o : Oper} {v : Value} {k : Nat} {listed : Array Bool} {a : Act} (ho : ops[i]? = some o) (hs : Region.noSelect ops = true) (hf : Region.free md ops listed i = true)
    (hr : (Region.ready md ops listed).contains i = true) (hy : YieldsIf P ops S o v a) (h : wpP P md ops Q S k (listed.setIfInBounds i true) (a.put o.dst v)) : wpP P md ops Q S (k + 1) listed a := by
  have hfree := Region.free_spec ho hf
  have hmem : i ∈ Region.ready md ops listed := by simpa using hr
  clear hf hr
  induction k generalizing listed a with
  | zero =>
    refine ⟨fun h0 => (by rw [h0] at hmem; cases hmem), fun j hj => ?_⟩
    by_cases hji : j = i
    · subst hji; exact ⟨o, v, ho, hy, h⟩
    · have := ready_mono hj hji
      rw [h.1] at this
      cases this
  | succ k ih =>
    refine ⟨fun h0 => (by rw [h0] at hmem; cases hmem), fun j hj => ?_⟩
    by_cases hji : j = i
    · subst hji; exact ⟨o, v, ho, hy, h⟩
    · obtain ⟨oj, u, hoj, hyj, hrest⟩ := h.2 j (ready_mono hj hji)
      obtain ⟨hun, _, _, _⟩ := mem_ready.1 hj
      have hnw : ∀ e ∈ oj.after, Region.binds md e = true → e.on ≠ i := by
        rintro e he hb rfl
        obtain ⟨_, o', ho', hall⟩ := mem_ready.1 hj
        rw [hoj] at ho'
        injection ho' with ho'
        subst ho'
        have h1 := hall e he hb
        have h0 := (mem_ready.1 hmem).1
        cases hx : listed[e.on]? with
        | none => simp [hx] at h1
        | some b => simp [hx] at h0 h1; rw [h0] at h1; cases h1
      obtain ⟨a1, a2, a3⟩ := Oper.apart_spec (hfree j oj hoj hji hun hnw)
      have hsel : ∀ {k : Nat} {o : Oper}, ops[k]? = some o → ∀ cs b, o.op ≠ .select cs b := fun hk cs b => Region.noSelect_spec hs _ _ cs b hk
      have yj : YieldsIf P ops S oj u a := hyj.of_same (execOp_put oj (hsel hoj) a o.dst v a1).symm (wanted_put oj a o.dst v a1).symm
      have yi : YieldsIf P ops S o v (a.put oj.dst u) := hy.of_same (execOp_put o (hsel ho) a oj.dst u a3) (wanted_put o a oj.dst u a3)
      refine ⟨oj, u, hoj, yj, ih yi ?_ (fun m om hm hmi hum hno => ?_) (ready_mono hmem (Ne.symm hji))⟩
      · rw [Array.setIfInBounds_comm _ _ hji, ← Act.put_comm a v u a2]
        exact hrest
      · refine hfree m om hm hmi ?_ hno
        by_cases hjm : j = m
        · subst hjm; exact hun
        · rwa [getD_set_ne true hjm] at hum
theorem wpP_done {Q : Act → Prop} {listed : Array Bool} {a : Act} (hr : Region.ready md ops listed = []) (h : Q a) : ∀ k, wpP P md ops Q S k listed a
  | 0 => ⟨hr, h⟩
  | _ + 1 => ⟨fun _ => h, by rw [hr]; intro i hi; cases hi⟩
theorem wpIn_region_P {id : Nat} {a : Act} {w : World} (hm : P.follows .mixedOrders = true) (ht : ops.all tame = true) (hS : S w.drew)
    (h : wpP P .any ops (fun a' => ∀ w', S w' → Q .normal a' w') S ops.size (Array.replicate ops.size false) a) : (Code.region id ops true).wpIn F n P Q a w :=
  wpIn_region_any hm (wpP_in (fun o ho => Array.all_eq_true_iff_forall_mem.1 ht o ho) _ _ _ _ hS h)
end
end Go.Proofs.Ytngomgjhakgehaa
