/- A region that draws its order and ends with a store: what is asked of the world (S) holds behind every operation but that last one (L). In the manner of the library's wpAnyH, which it leans on for one operation's laws. -/
import Derived.Deep.RegionHeld3
namespace Go.Proofs.YtfgddhabepllfaaDoor
section
variable {P : Program} {ops : Array Oper} {Q : Exit → Act → World → Prop} {md : Region.Mode} {S : World → Prop} {L : Nat}

/-- behind an operation: S, unless it is the last one; and the rest goes in whatever order -/
def wpK (P : Program) (md : Region.Mode) (ops : Array Oper) (Q : Exit → Act → World → Prop) (S : World → Prop) (L : Nat) (fuel : Nat) (listed : Array Bool) (a : Act) (w : World) : Prop :=
  match fuel with
  | 0 => Region.ready md ops listed = [] ∧ Q .normal a w
  | fuel + 1 => (Region.ready md ops listed = [] → Q .normal a w) ∧ ∀ i, i ∈ Region.ready md ops listed → wpOp P ops Q i (fun b v => (i ≠ L → S v) ∧ wpK P md ops Q S L fuel (listed.setIfInBounds i true) b v) a w
theorem wpK_any (fuel : Nat) : ∀ (listed : Array Bool) (a : Act) (w : World), wpK P md ops Q S L fuel listed a w → wpAny P md ops Q fuel listed a w := by
  induction fuel with
  | zero => intro _ _ _ h; exact h
  | succ n ih =>
    intro listed a w h
    obtain ⟨h1, h2⟩ := h
    exact ⟨h1, fun i hi => wpOp_mono (fun b v hb => ih _ b v hb.2) (h2 i hi)⟩
/-- L waits for i -/
def behind (md : Region.Mode) (ops : Array Oper) (L i : Nat) : Bool := (ops[L]?).any fun o => o.after.any fun e => Region.binds md e && e.on == i
/-- who may come up beside i doesn't wait for i -/
theorem no_wait {i j : Nat} {o : Oper} {listed : Array Bool} (hi : i ∈ Region.ready md ops listed) (hj : j ∈ Region.ready md ops listed) (ho : ops[j]? = some o) : ∀ e ∈ o.after, Region.binds md e = true → e.on ≠ i := by
  rintro e he hb rfl
  obtain ⟨_, o', ho', hall⟩ := mem_ready.1 hj
  rw [ho] at ho'
  injection ho' with ho'
  subst ho'
  have h1 := hall e he hb
  have h0 := (mem_ready.1 hi).1
  cases hx : listed[e.on]? with
  | none => simp [hx] at h1
  | some b => simp [hx] at h0 h1; rw [h0] at h1; cases h1
/-- L waits for who waits .. for i: the way of those between, none of whom was -/
def pathOk (md : Region.Mode) (ops : Array Oper) (listed : Array Bool) (L : Nat) : Nat → List Nat → Bool
  | i, [] => behind md ops L i
  | i, c :: cs => behind md ops c i && (!(listed.getD c true) && pathOk md ops listed L c cs)
theorem waits_no {i j : Nat} {listed : Array Bool} (hu : listed.getD i true = false) (hj : j ∈ Region.ready md ops listed) (hb : behind md ops j i = true) : False := by
  obtain ⟨_, o, ho, hall⟩ := mem_ready.1 hj
  unfold behind at hb
  rw [ho] at hb
  simp only [Option.any_some, Array.any_eq_true, Bool.and_eq_true, beq_iff_eq] at hb
  obtain ⟨k, hk, h1, h2⟩ := hb
  have h3 := hall _ (Array.getElem_mem hk) h1
  rw [h2] at h3
  cases hx : listed[i]? with
  | none => simp [hx] at h3
  | some b => simp [hx] at hu h3; rw [hu] at h3; cases h3
theorem path_no {listed : Array Bool} {j : Nat} (hj : j ∈ Region.ready md ops listed) : ∀ (cs : List Nat) (i : Nat), listed.getD i true = false → pathOk md ops listed L i cs = true → j ≠ L ∧ j ∉ cs
  | [], i, hu, hp => ⟨fun e => by subst e; exact waits_no hu hj hp, by simp⟩
  | c :: cs, i, hu, hp => by
    rw [pathOk, Bool.and_eq_true, Bool.and_eq_true] at hp
    obtain ⟨h1, h2, h3⟩ := hp
    have hc : listed.getD c true = false := by simpa using h2
    obtain ⟨h4, h5⟩ := path_no hj cs c hc h3
    refine ⟨h4, fun hm => ?_⟩
    rcases List.mem_cons.1 hm with rfl | hm
    · exact waits_no hu hj h1
    · exact h5 hm
theorem path_keep {listed : Array Bool} {j : Nat} : ∀ (cs : List Nat) (i : Nat), j ∉ cs → pathOk md ops listed L i cs = true → pathOk md ops (listed.setIfInBounds j true) L i cs = true
  | [], _, _, hp => hp
  | c :: cs, i, hn, hp => by
    rw [pathOk, Bool.and_eq_true, Bool.and_eq_true] at hp ⊢
    obtain ⟨h1, h2, h3⟩ := hp
    refine ⟨h1, ?_, path_keep cs c (fun h => hn (by simp [h])) h3⟩
    rw [getD_set_ne true (fun e => hn (by simp [e]))]
    exact h2
/-- i may be taken first -/
theorem wpK_take (cs : List Nat) {i : Nat} {o : Oper} {v : Value} {fuel : Nat} {listed : Array Bool} {a : Act} {w : World} (ho : ops[i]? = some o) (hs : Region.noSelect ops = true) (hf : Region.free md ops listed i = true)
    (hr : (Region.ready md ops listed).contains i = true) (hb : pathOk md ops listed L i cs = true) (hQ : ∀ c a w, Q (.panic c) (a.put o.dst v) w → Q (.panic c) a w) (hy : YieldsIf P ops S o v a) (hS : S w)
    (h : wpK P md ops Q S L fuel (listed.setIfInBounds i true) (a.put o.dst v) w) : wpK P md ops Q S L (fuel + 1) listed a w := by
  have hfree := Region.free_spec ho hf
  have hmem : i ∈ Region.ready md ops listed := by simpa using hr
  clear hf hr
  induction fuel generalizing listed a w with
  | zero =>
    refine ⟨fun h0 => (by rw [h0] at hmem; cases hmem), fun j hj => ?_⟩
    by_cases hji : j = i
    · subst hji; exact hy.wpOp ho hS ⟨fun _ => hS, h⟩
    · have := ready_mono hj hji
      rw [h.1] at this
      cases this
  | succ n ih =>
    refine ⟨fun h0 => (by rw [h0] at hmem; cases hmem), fun j hj => ?_⟩
    by_cases hji : j = i
    · subst hji; exact hy.wpOp ho hS ⟨fun _ => hS, h⟩
    · obtain ⟨hun, oj, hoj, _⟩ := mem_ready.1 hj
      have hnw := no_wait hmem hj hoj
      obtain ⟨hjL, hjc⟩ := path_no hj cs i (mem_ready.1 hmem).1 hb
      refine wpOp_mono ?_ (wpOp_putIf hoj (hfree j oj hoj hji hun hnw) (fun cs b => Region.noSelect_spec hs i o cs b ho) (fun cs b => Region.noSelect_spec hs j oj cs b hoj) hQ hy (h.2 j (ready_mono hj hji)))
      rintro b u ⟨hyb, hSu, hrest⟩
      refine ⟨fun _ => hSu hjL, ih (path_keep cs i hjc hb) hyb (hSu hjL) (by rw [Array.setIfInBounds_comm _ _ hji]; exact hrest) (fun k ok hk hki hunk hno => ?_) (ready_mono hmem (Ne.symm hji))⟩
      refine hfree k ok hk hki ?_ hno
      by_cases hjk : j = k
      · subst hjk; exact hun
      · rwa [getD_set_ne true hjk] at hunk
/-- one alone may come up -/
theorem wpK_one {i : Nat} {o : Oper} {fuel : Nat} {listed : Array Bool} {a : Act} {w : World} (hr : Region.ready md ops listed = [i]) (ho : ops[i]? = some o)
    (h : ∀ K : Act → World → Prop, Shut (∀ b v, S v → (S v → wpK P md ops Q S L fuel (listed.setIfInBounds i true) b v) → K b v) → if Region.wanted o (yielded ops a.tmps) = true then Oper.wp P o a w K Q else K (a.put o.dst undef) w) : wpK P md ops Q S L (fuel + 1) listed a w := by
  refine ⟨fun h0 => (by rw [hr] at h0; cases h0), fun j hj => ?_⟩
  rw [hr] at hj
  obtain rfl : j = i := by simpa using hj
  exact wpOp_step ho (fun K hK => h K (fun b v hS hW => hK b v ⟨fun _ => hS, hW hS⟩))
/-- two may come up -/
theorem wpK_two {i k : Nat} {o o' : Oper} {fuel : Nat} {listed : Array Bool} {a : Act} {w : World} (hr : Region.ready md ops listed = [i, k]) (ho : ops[i]? = some o) (ho' : ops[k]? = some o')
    (h : ∀ K : Act → World → Prop, Shut (∀ b v, S v → (S v → wpK P md ops Q S L fuel (listed.setIfInBounds i true) b v) → K b v) → if Region.wanted o (yielded ops a.tmps) = true then Oper.wp P o a w K Q else K (a.put o.dst undef) w)
    (h' : ∀ K : Act → World → Prop, Shut (∀ b v, S v → (S v → wpK P md ops Q S L fuel (listed.setIfInBounds k true) b v) → K b v) → if Region.wanted o' (yielded ops a.tmps) = true then Oper.wp P o' a w K Q else K (a.put o'.dst undef) w) : wpK P md ops Q S L (fuel + 1) listed a w := by
  refine ⟨fun h0 => (by rw [hr] at h0; cases h0), fun j hj => ?_⟩
  rw [hr] at hj
  rcases List.mem_cons.1 hj with rfl | hj
  · exact wpOp_step ho (fun K hK => h K (fun b v hS hW => hK b v ⟨fun _ => hS, hW hS⟩))
  · obtain rfl : j = k := by simpa using hj
    exact wpOp_step ho' (fun K hK => h' K (fun b v hS hW => hK b v ⟨fun _ => hS, hW hS⟩))
/-- the last one comes up: S is no longer asked -/
theorem wpK_last {o : Oper} {fuel : Nat} {listed : Array Bool} {a : Act} {w : World} (hr : Region.ready md ops listed = [L]) (ho : ops[L]? = some o) (hd : Region.ready md ops (listed.setIfInBounds L true) = [])
    (h : ∀ K : Act → World → Prop, Shut (∀ b v, Q .normal b v → K b v) → if Region.wanted o (yielded ops a.tmps) = true then Oper.wp P o a w K Q else K (a.put o.dst undef) w) : wpK P md ops Q S L (fuel + 1) listed a w := by
  refine ⟨fun h0 => (by rw [hr] at h0; cases h0), fun j hj => ?_⟩
  rw [hr] at hj
  obtain rfl : j = L := by simpa using hj
  refine wpOp_step ho (fun K hK => h K (fun b v hq => hK b v ⟨fun hc => absurd rfl hc, ?_⟩))
  cases fuel with
  | zero => exact ⟨hd, hq⟩
  | succ n => exact ⟨fun _ => hq, by rw [hd]; intro i hi; cases hi⟩
theorem wp_region_K (L : Nat) {id : Nat} {a : Act} {w : World} (hm : P.follows .mixedOrders = true) (hS : S w.drew)
    (h : S w.drew → wpK P .any ops Q S L ops.size (Array.replicate ops.size false) a w.drew) : (Code.region id ops true).wp P Q a w :=
  wp_region_any hm (wpK_any _ _ _ _ (h hS))
end
end Go.Proofs.YtfgddhabepllfaaDoor
