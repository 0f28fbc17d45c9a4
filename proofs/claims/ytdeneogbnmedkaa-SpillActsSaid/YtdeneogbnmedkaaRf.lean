/- A region that draws its order, inside a fence, a round of a loop over an iterator too: each operation yields one value in every world that meets S, or is a call that hands back one value and keeps S. -/
import Derived.Deep.RegionHeld3
import Derived.OrdersIn
namespace Go.Proofs.Ytdeneogbnmedkaa
section
variable {F : Fence} {n : Nat} {P : Program} {ops : Array Oper} {Q : Exit → Act → World → Prop} {md : Region.Mode} {S : World → Prop}

/-- an operation that gives one value in every world that meets S -/
def Does (F : Fence) (n : Nat) (P : Program) (ops : Array Oper) (S : World → Prop) (o : Oper) (v : Value) (a : Act) : Prop :=
  (∀ w f, o.about P w a.eval = some f → F.fn f) ∧ (∀ c, o.op ≠ .defer c) ∧
    (YieldsIf P ops S o v a ∨ (Region.wanted o (yielded ops a.tmps) = true ∧ ∃ f args, (F.depth.isSome = true → 1 ≤ n) ∧ (∀ w, S w → (execOp a.eval o).run P w = .ok (.enter f args) w) ∧ ∀ w, S w → CallsIn F (n - 1) P f args w (fun e w' => e = .returned v ∧ S w')))
theorem Does.of_same {o : Oper} {v : Value} {a a' : Act} (hy : Does F n P ops S o v a) (he : execOp a'.eval o = execOp a.eval o)
    (hw : Region.wanted o (yielded ops a'.tmps) = Region.wanted o (yielded ops a.tmps)) (hb : ∀ w, o.about P w a'.eval = o.about P w a.eval) : Does F n P ops S o v a' := by
  obtain ⟨h1, h2, h3⟩ := hy
  refine ⟨fun w f hf => h1 w f (by rw [← hb w]; exact hf), h2, ?_⟩
  rcases h3 with h3 | ⟨h3, f, args, h4, h5, h6⟩
  · exact .inl (h3.of_same he hw)
  · exact .inr ⟨by rw [hw]; exact h3, f, args, h4, fun w hS => by rw [he]; exact h5 w hS, h6⟩
/-- whatever may come up gives one value -/
def wpC (F : Fence) (n : Nat) (P : Program) (md : Region.Mode) (ops : Array Oper) (Q : Act → Prop) (S : World → Prop) : Nat → Array Bool → Act → Prop
  | 0, listed, a => Region.ready md ops listed = [] ∧ Q a
  | k + 1, listed, a => (Region.ready md ops listed = [] → Q a) ∧ ∀ i, i ∈ Region.ready md ops listed → ∃ o v, ops[i]? = some o ∧ Does F n P ops S o v a ∧ wpC F n P md ops Q S k (listed.setIfInBounds i true) (a.put o.dst v)
theorem wpC_in (k : Nat) : ∀ (listed : Array Bool) (a : Act) (w : World), S w → wpC F n P md ops (fun a' => ∀ w', S w' → Q .normal a' w') S k listed a → wpAnyIn F n P md ops Q k listed a w := by
  induction k with
  | zero => intro listed a w hS h; exact ⟨h.1, h.2 w hS⟩
  | succ k ih =>
    intro listed a w hS h
    refine ⟨fun h0 => h.1 h0 w hS, fun i hi => ?_⟩
    obtain ⟨o, v, ho, ⟨hab, hnd, hy⟩, hr⟩ := h.2 i hi
    unfold wpOpIn
    simp only [ho]
    rcases hy with (⟨hw, hv⟩ | ⟨hw, rfl⟩) | ⟨hw, f, args, hd, hv, hc⟩
    · simp only [hw, if_true, Oper.wpIn, Oper.semAt_eq F.round a.eval o hnd, hv w hS, Oper.uponIn_value]
      exact ⟨hab w, ih _ _ w hS hr⟩
    · simp only [hw, Bool.false_eq_true, if_false]
      exact ⟨hab w, ih _ _ w hS hr⟩
    · simp only [hw, if_true, Oper.wpIn, Oper.semAt_eq F.round a.eval o hnd, hv w hS, Oper.uponIn_enter]
      refine ⟨hab w, hd, (hc w hS).mono ?_⟩
      rintro e w' ⟨rfl, hS'⟩
      exact ih _ _ w' hS' hr
theorem wpC_take {Q : Act → Prop} {i : Nat} {o : Oper} {v : Value} {k : Nat} {listed : Array Bool} {a : Act} (ho : ops[i]? = some o) (hs : Region.noSelect ops = true) (hf : Region.free md ops listed i = true)
    (hr : (Region.ready md ops listed).contains i = true) (hy : Does F n P ops S o v a) (h : wpC F n P md ops Q S k (listed.setIfInBounds i true) (a.put o.dst v)) : wpC F n P md ops Q S (k + 1) listed a := by
  have hfree := Region.free_spec ho hf
  have hmem : i ∈ Region.ready md ops listed := by simpa using hr
  clear hf hr
  induction k generalizing listed a with
  | zero =>
    refine ⟨fun h0 => (by rw [h0] at hmem; cases hmem), fun j hj => ?_⟩
    by_cases hji : j = i
    · subst hji; exact ⟨o, v, ho, hy, h⟩
    · have := ready_mono hj hji
      rw [h.1] at this
      cases this
  | succ k ih =>
    refine ⟨fun h0 => (by rw [h0] at hmem; cases hmem), fun j hj => ?_⟩
    by_cases hji : j = i
    · subst hji; exact ⟨o, v, ho, hy, h⟩
    · obtain ⟨oj, u, hoj, hyj, hrest⟩ := h.2 j (ready_mono hj hji)
      obtain ⟨hun, _, _, _⟩ := mem_ready.1 hj
      have hnw : ∀ e ∈ oj.after, Region.binds md e = true → e.on ≠ i := by
        rintro e he hb rfl
        obtain ⟨_, o', ho', hall⟩ := mem_ready.1 hj
        rw [hoj] at ho'
        injection ho' with ho'
        subst ho'
        have h1 := hall e he hb
        have h0 := (mem_ready.1 hmem).1
        cases hx : listed[e.on]? with
        | none => simp [hx] at h1
        | some b => simp [hx] at h0 h1; rw [h0] at h1; cases h1
      obtain ⟨a1, a2, a3⟩ := Oper.apart_spec (hfree j oj hoj hji hun hnw)
      have hsel : ∀ {k : Nat} {o : Oper}, ops[k]? = some o → ∀ cs b, o.op ≠ .select cs b := fun hk cs b => Region.noSelect_spec hs _ _ cs b hk
      have yj : Does F n P ops S oj u a := hyj.of_same (execOp_put oj (hsel hoj) a o.dst v a1).symm (wanted_put oj a o.dst v a1).symm (fun w => (about_put oj w a o.dst v a1).symm)
      have yi : Does F n P ops S o v (a.put oj.dst u) := hy.of_same (execOp_put o (hsel ho) a oj.dst u a3) (wanted_put o a oj.dst u a3) (fun w => about_put o w a oj.dst u a3)
      refine ⟨oj, u, hoj, yj, ih yi ?_ (fun m om hm hmi hum hno => ?_) (ready_mono hmem (Ne.symm hji))⟩
      · rw [Array.setIfInBounds_comm _ _ hji, ← Act.put_comm a v u a2]
        exact hrest
      · refine hfree m om hm hmi ?_ hno
        by_cases hjm : j = m
        · subst hjm; exact hun
        · rwa [getD_set_ne true hjm] at hum
theorem wpC_done {Q : Act → Prop} {listed : Array Bool} {a : Act} (hr : Region.ready md ops listed = []) (h : Q a) : ∀ k, wpC F n P md ops Q S k listed a
  | 0 => ⟨hr, h⟩
  | _ + 1 => ⟨fun _ => h, by rw [hr]; intro i hi; cases hi⟩
theorem wpIn_region_C {id : Nat} {a : Act} {w : World} (hm : P.follows .mixedOrders = true) (hS : S w.drew)
    (h : wpC F n P .any ops (fun a' => ∀ w', S w' → Q .normal a' w') S ops.size (Array.replicate ops.size false) a) : (Code.region id ops true).wpIn F n P Q a w :=
  wpIn_region_any hm (wpC_in _ _ _ _ hS h)
end
end Go.Proofs.Ytdeneogbnmedkaa
