/- The document's Insert. -/
import Derived.Test.YtngomgjhakgehaaRb
import Derived.Test.YtngomgjhakgehaaKk
import Derived.Laws.AppendOwnNone
namespace Go.Proofs.Ytngomgjhakgehaa
open Go.RowKit Go.Maps

/-- a slice that may be read: m elements, their cells -/
def SrcAt (w : World) (x : Value) (m : Nat) (news : List Value) : Prop := (x = .slice none 0 0 ∧ m = 0 ∧ news = []) ∨ ∃ ad c, x = .slice (some ad) m c ∧ ∀ j u, news[j]? = some u → w.cell? (ad.add j) = some u
theorem SrcAt.below {w w' : World} {N : Nat} {x : Value} {m : Nat} {news : List Value} (h : SrcAt w x m news) (hb : Below N w w') (hN : w.heap.size ≤ N) : SrcAt w' x m news := by
  rcases h with h | ⟨ad, c, hx, h⟩
  · exact .inl h
  · refine .inr ⟨ad, c, hx, fun j u hj => ?_⟩
    have h1 := h j u hj
    have := cell_lt h1
    exact (hb.cell (by omega)).trans h1
theorem step_app {ops : Array Oper} {o : Oper} {a : Act} {X W : World} {K : Act → World → Prop} {Q : Exit → Act → World → Prop} {E : Prop} (hgd : o.guard = none) (s x : Operand) (t : TypeId)
    (ho : o.op = .call { callee := .builtin .append, args := #[s, x], argTypes := #[t, t] })
    (e : TypeId) (i : TypeInfo) (z : Value) (size bytes : Nat) (ht : Try.prog.underlying t = some (.slice e)) (hi : Try.prog.info? e = some i) (hz : i.zero = some z) (hsize : i.size = size) (hby : i.bytes = bytes) (hzs : z.cells.size = size) (hsz : 0 < size)
    (N : Nat) (v : Value) (n : Nat) (xs : List Value) (hs : a.eval s = v) (hown : X.ownsRow N e size v n xs) (hB : Below N W X) (hN : N ≤ X.heap.size)
    (xv : Value) (m : Nat) (news : List Value) (hx : a.eval x = xv) (hsrc : SrcAt X xv m news) (hl : news.length = m * size) (h1 : ∀ u ∈ news, u.oneCell' = true) (h63 : n + m ≤ maxLen) (hbytes : (n + m) * bytes ≤ 140737488355328)
    (h : ∀ v' X', X'.ownsRow N e size v' (n + m) (xs ++ news) → Below N W X' → X.grownBy X' v.ownBlock → K (a.put o.dst v') X') :
    if Region.wanted o (yielded ops a.tmps) = true then Oper.wp Try.prog o a X K Q else E := by
  have hw : Region.wanted o (yielded ops a.tmps) = true := by simp [Region.wanted, hgd]
  rw [if_pos hw]
  rcases hsrc with ⟨rfl, rfl, rfl⟩ | ⟨ad, c, rfl, hc⟩
  · have hrun := run_append_owned_none (P := Try.prog) (w := X) N t o.type e i size ht hi v n xs hown
    have hK := h v X (by simpa using hown) hB ⟨rfl, rfl, rfl, Nat.le_refl _, fun _ _ _ => rfl⟩
    unfold Oper.wp execOp
    simp only [ho, resolve, invoke, builtin, Sem.run_bind, Sem.run_pure, Result.andThen_ok, List.map_toArray, List.map_cons, List.map_nil, hs, hx, hrun]
    exact hK
  · obtain ⟨v', w', hr, h2, h3, _, _⟩ := run_append_own_at (P := Try.prog) (w := X) N t o.type e i z size bytes ht hi hz hsize hby hzs hsz v n xs hown ad m c news hl hc h1 h63 hbytes hN
    have hK := h v' w' h2 (hB.grown h3 hN (fun j hj => by
      rcases hown.2 with ⟨rfl, _⟩ | ⟨g, cap, cur, rfl, hg, _⟩
      · cases hj
      · injection hj with hj; simp only at hj; omega)) h3
    unfold Oper.wp execOp
    simp only [ho, resolve, invoke, builtin, Sem.run_bind, Sem.run_pure, Result.andThen_ok, List.map_toArray, List.map_cons, List.map_nil, hs, hx, hr]
    exact hK
theorem own_empty (w : World) (N g : Nat) (t : TypeId) (size : Nat) (hg : g = w.heap.size) (hN : N ≤ g) : (w.alloc (.cells #[] t)).ownsRow N t size (.slice (some ⟨g, 0, none⟩) 0 0) 0 [] := by
  subst hg
  exact ⟨by simp, .inr ⟨w.heap.size, 0, #[], rfl, hN, World.alloc_heap_new w _, Nat.le_refl _, by unfold maxLen; omega, by simp, by simp⟩⟩
theorem src_new (w : World) (g : Nat) (hg : g = w.heap.size) (cs : Array Value) (t : TypeId) : SrcAt (w.alloc (.cells cs t)) (.slice (some ⟨g, 0, none⟩) 1 1) 1 cs.toList := by subst hg; exact .inr ⟨_, _, rfl, World.news_of_block (World.alloc_heap_new w _)⟩
theorem SrcAt.grown {w w' : World} {g m c : Nat} {news : List Value} {v : Value} (h : SrcAt w (.slice (some ⟨g, 0, none⟩) m c) m news) (hg : w.grownBy w' v.ownBlock) (hne : v.ownBlock ≠ some g) : SrcAt w' (.slice (some ⟨g, 0, none⟩) m c) m news := by
  rcases h with ⟨h, _, _⟩ | ⟨ad, c', hx, h⟩
  · cases h
  · simp only [Value.slice.injEq, Option.some.injEq, true_and] at hx
    obtain ⟨rfl, rfl⟩ := hx
    refine .inr ⟨_, _, rfl, fun j u hj => ?_⟩
    have h1 := h j u hj
    rw [add_off] at h1 ⊢
    exact (World.cell?_of_block (hg.block g (cell_lt h1) (fun e => hne e.symm))).trans h1
theorem exec_slice {P : Program} {w : World} (ρ : Operand → Value) (o : Oper) (t : TypeId) (x : Operand) (lo hi mx : Option Operand) (ho : o.op = .slice t x lo hi mx) {v r : Value} {lv hv mv : Option Value} (hx : ρ x = v) (hlo : lo.map ρ = lv) (hhi : hi.map ρ = hv) (hmx : mx.map ρ = mv)
    (hr : (Instr.sliceAt t v lv hv mv).run P w = .ok r w) : (execOp ρ o).run P w = .ok (.value r) w := by
  subst hx hlo hhi hmx
  unfold execOp
  simp only [ho, Sem.run_bind, hr, Result.andThen_ok, Sem.run_pure]
/-- what holds in a region: a cell, a box, and all that was there -/
def RgS (W : World) (p0 : Addr) (u : Value) (g : Nat) (x y : Int) (X : World) : Prop :=
  (X.cell? p0 = some u ∧ X.cell? ⟨g, 0, none⟩ = some (.int .i64 x) ∧ X.cell? ⟨g, 1, none⟩ = some (.int .i64 y)) ∧ Below W.heap.size W X ∧ p0.block < W.heap.size ∧ g < W.heap.size
theorem RgS.next {W : World} {p0 : Addr} {u : Value} {g : Nat} {x y : Int} {X X' : World} (h : RgS W p0 u g x y X) (hb : Below W.heap.size W X') : RgS W p0 u g x y X' := by
  obtain ⟨⟨h1, h2, h3⟩, h4, h5, h6⟩ := h
  have e : ∀ p : Addr, p.block < W.heap.size → X'.cell? p = X.cell? p := fun p hp => (hb.cell hp).trans (h4.cell hp).symm
  exact ⟨⟨(e _ h5).trans h1, (e _ h6).trans h2, (e _ h6).trans h3⟩, hb, h5, h6⟩
theorem RgS.alloc {W : World} {p0 : Addr} {u : Value} {g : Nat} {x y : Int} {X : World} (h : RgS W p0 u g x y X) (o : Obj) : RgS W p0 u g x y (X.alloc o) := h.next (h.2.1.alloc h.2.1.size o)
theorem slice_pre {w : World} {e size n k t : Nat} {v : Value} {xs : List Value} (h : w.ownsRow 0 e size v n xs) (hk : k ≤ n) (ht : Try.prog.underlying t = some (.slice e)) (hs : (Try.prog.info? e).map (·.size) = some size) :
    ∃ x, (∀ W, (Instr.sliceAt t v none (some (.int .i64 k)) none).run Try.prog W = .ok x W) ∧ SrcAt w x k (xs.take (k * size)) := by
  obtain ⟨i, hi⟩ : ∃ i, Try.prog.info? e = some i := by
    cases hq : Try.prog.info? e with
    | none => simp [hq] at hs
    | some i => exact ⟨i, rfl⟩
  have hsz : i.size = size := by simpa [hi] using hs
  have hk0 : (0 : Int) ≤ ↑k := by omega
  rcases h.2 with ⟨rfl, h0⟩ | ⟨g, cap, cur, rfl, _, hb, hnc, _, hz, hcur⟩
  · obtain rfl : k = 0 := by omega
    refine ⟨.slice none 0 0, fun W => ?_, .inl ⟨rfl, rfl, by simp⟩⟩
    simp [Instr.sliceAt, Instr.slice, Instr.sliceBounds, Instr.sliceBound, run_underlying ht, sizeOf, typeInfo, hi, asIntOf]
  · refine ⟨.slice (some ⟨g, 0, none⟩) k cap, fun W => ?_, .inr ⟨_, _, rfl, fun j u hj => ?_⟩⟩
    · simp [Instr.sliceAt, Instr.slice, Instr.sliceBounds, Instr.sliceBound, run_underlying ht, sizeOf, typeInfo, hi, asIntOf, hk0]
      rw [if_pos (by omega), add_off]
      simp
    · rw [add_off]
      have hlt : j < k * size := by have := (List.getElem?_eq_some_iff.1 hj).1; rw [List.length_take] at this; omega
      rw [List.getElem?_take_of_lt hlt] at hj
      have hlt2 : j < n * size := by have := (List.getElem?_eq_some_iff.1 hj).1; rw [h.1] at this; exact this
      rw [← hcur, List.getElem?_take_of_lt hlt2] at hj
      simp [World.cell?, hb]
      simpa using hj
theorem slice_suf {w : World} {e size n k t : Nat} {v : Value} {xs : List Value} (h : w.ownsRow 0 e size v n xs) (hk : k ≤ n) (ht : Try.prog.underlying t = some (.slice e)) (hs : (Try.prog.info? e).map (·.size) = some size) :
    ∃ x, (∀ W, (Instr.sliceAt t v (some (.int .i64 k)) none none).run Try.prog W = .ok x W) ∧ SrcAt w x (n - k) (xs.drop (k * size)) := by
  obtain ⟨i, hi⟩ : ∃ i, Try.prog.info? e = some i := by
    cases hq : Try.prog.info? e with
    | none => simp [hq] at hs
    | some i => exact ⟨i, rfl⟩
  have hsz : i.size = size := by simpa [hi] using hs
  have hk0 : (0 : Int) ≤ ↑k := by omega
  rcases h.2 with ⟨rfl, h0⟩ | ⟨g, cap, cur, rfl, _, hb, hnc, _, hz, hcur⟩
  · obtain rfl : k = 0 := by omega
    have hx : xs = [] := List.eq_nil_of_length_eq_zero (by rw [h.1, h0]; omega)
    refine ⟨.slice none 0 0, fun W => ?_, .inl ⟨rfl, by omega, by simp [hx]⟩⟩
    simp [Instr.sliceAt, Instr.slice, Instr.sliceBounds, Instr.sliceBound, run_underlying ht, sizeOf, typeInfo, hi, asIntOf]
  · refine ⟨.slice (some (if cap = k then ⟨g, 0, none⟩ else (⟨g, 0, none⟩ : Addr).add (k * size))) (n - k) (cap - k), fun W => ?_, .inr ⟨_, _, rfl, fun j u hj => ?_⟩⟩
    · simp [Instr.sliceAt, Instr.slice, Instr.sliceBounds, Instr.sliceBound, run_underlying ht, sizeOf, typeInfo, hi, hsz, asIntOf, hk0]
      rw [if_pos (by omega)]
      split <;> rfl
    · rw [List.getElem?_drop] at hj
      have hlt2 : k * size + j < n * size := by have := (List.getElem?_eq_some_iff.1 hj).1; rw [h.1] at this; exact this
      have hne : ¬ cap = k := by
        rintro rfl
        obtain rfl : n = cap := by omega
        omega
      rw [if_neg hne, add_off, add_off3]
      rw [← hcur, List.getElem?_take_of_lt hlt2] at hj
      simp [World.cell?, hb]
      simpa using hj

theorem size25 : (Try.prog.info? 25).map (·.size) = some 2 := by kernel_rfl
theorem size4 : (Try.prog.info? 4).map (·.size) = some 1 := by kernel_rfl
theorem flat2_one (l : List IdP) : ∀ u ∈ flat2 l, u.oneCell' = true := by
  intro u hu
  unfold flat2 at hu
  obtain ⟨e, _, he⟩ := List.mem_flatMap.1 hu
  simp only [List.mem_cons, List.not_mem_nil, or_false] at he
  rcases he with rfl | rfl <;> rfl
theorem bools_one (l : List Ent) : ∀ u ∈ boolsE l, u.oneCell' = true := by
  intro u hu
  unfold boolsE at hu
  obtain ⟨e, _, rfl⟩ := List.mem_map.1 hu
  rfl
theorem own_from {w : World} {base e k : Nat} {v : Value} {n : Nat} {xs : List Value} (h : w.ownsRow base e k v n xs) {g : Nat} (hg : v.ownBlock = some g) : base ≤ g := by
  rcases h.2 with ⟨rfl, _⟩ | ⟨g', cap, cur, rfl, hb, _⟩
  · cases hg
  · injection hg with hg; subst hg; exact hb
theorem own_base4 {w : World} {b b' : Nat} {v : Value} {n : Nat} {xs : List Value} (h : w.ownsRow b 4 1 v n xs) (hb : b' ≤ b) : w.ownsRow b' 4 1 v n xs := by
  refine ⟨h.1, ?_⟩
  rcases h.2 with h5 | ⟨g, cap, cur, hv, h0, h6⟩
  · exact .inl h5
  · exact .inr ⟨g, cap, cur, hv, Nat.le_trans hb h0, h6⟩
theorem grownBy_cell1 (w : World) (g : Nat) (v : Value) : w.grownBy (w.setCell ⟨g, 1, none⟩ v) (some g) :=
  ⟨rfl, rfl, rfl, by simp [World.setCell], fun k _ hk => Below.heap_setCell w _ v k (fun e => hk (by rw [e]))⟩
theorem flat2_take (l : List IdP) (k : Nat) : flat2 (l.take k) = (flat2 l).take (k * 2) := by
  induction l generalizing k with
  | nil => simp [flat2]
  | cons e l ih =>
    have hc : ∀ m : List IdP, flat2 (e :: m) = .int .i64 e.1 :: .int .i64 e.2 :: flat2 m := fun m => by simp [flat2]
    cases k with
    | zero => simp [flat2]
    | succ k =>
      rw [List.take_succ_cons, hc, hc, ih, show (k + 1) * 2 = k * 2 + 1 + 1 by omega]
      simp
theorem flat2_drop (l : List IdP) (k : Nat) : flat2 (l.drop k) = (flat2 l).drop (k * 2) := by
  induction l generalizing k with
  | nil => simp [flat2]
  | cons e l ih =>
    have hc : ∀ m : List IdP, flat2 (e :: m) = .int .i64 e.1 :: .int .i64 e.2 :: flat2 m := fun m => by simp [flat2]
    cases k with
    | zero => simp
    | succ k =>
      rw [List.drop_succ_cons, hc, ih, show (k + 1) * 2 = k * 2 + 1 + 1 by omega]
      simp
theorem ref_ins {w : World} {s : Nat} {S : Nat → Prop} {l : List Ent} {b : IdP} {x y : Int} {k : Nat} {u v : Value} (hok : insR l b (x, y) = 0) (hat : insAt l b = k) (hk : k ≤ l.length)
    (h : RawAt w s S u v (k + 1 + (l.length - k)) ((flat2 (l.map (·.1))).take (k * 2) ++ (#[.int .i64 x, .int .i64 y] : Array Value).toList ++ (flat2 (l.map (·.1))).drop (k * 2)) (k + 1 + (l.length - k)) ((boolsE l).take (k * 1) ++ (#[.bool true] : Array Value).toList ++ (boolsE l).drop (k * 1))) :
    RefAt w s S (insL l b (x, y)) := by
  unfold insL
  rw [if_pos hok, hat]
  refine ⟨u, v, ?_⟩
  have e1 : (insE l k ((x, y), true)).length = k + 1 + (l.length - k) := by rw [insE_len _ hk]; omega
  have e2 : flat2 ((insE l k ((x, y), true)).map (·.1)) = (flat2 (l.map (·.1))).take (k * 2) ++ (#[.int .i64 x, .int .i64 y] : Array Value).toList ++ (flat2 (l.map (·.1))).drop (k * 2) := by
    rw [insE_map, flat2_app, flat2_take, ← flat2_drop, List.append_assoc]
    congr 1
  have e3 : boolsE (insE l k ((x, y), true)) = (boolsE l).take (k * 1) ++ (#[.bool true] : Array Value).toList ++ (boolsE l).drop (k * 1) := by
    unfold insE boolsE
    rw [List.map_append, List.map_cons, List.map_take, List.map_drop, Nat.mul_one, List.append_assoc]
    rfl
  rw [e1, e2, e3]
  exact h
/-- what lies behind the document's Insert -/
def RInsOut (s : Nat) (S : Nat → Prop) (l : List Ent) (b p : IdP) (w : World) (e : Ending) (w' : World) : Prop :=
  e = .returned (.int .i64 (insR l b p)) ∧ RefAt w' s (fun k => S k ∨ w.heap.size ≤ k) (insL l b p) ∧ Only S w w'
structure RInsI (w : World) (s : Nat) (S : Nat → Prop) (l : List Ent) (b p : IdP) (W : World) : Prop where
  b : IdBox W w.heap.size b
  x : IdBox W (w.heap.size + 1) p
  ax : RefAt W s S l
  below : Below w.heap.size w W
theorem RInsI.later {w W W' : World} {s : Nat} {S : Nat → Prop} {l : List Ent} {b p : IdP} (h : RInsI w s S l b p W) (hb : Below W.heap.size W W') : RInsI w s S l b p W' :=
  ⟨h.b.below hb, h.x.below hb, h.ax.later hb, h.below.trans (hb.mono h.below.size)⟩
theorem RInsI.out {w W : World} {s : Nat} {S : Nat → Prop} {l : List Ent} {b p : IdP} {r : Int} (h : RInsI w s S l b p W) (hr : insR l b p = r) (h0 : r ≠ 0) : RInsOut s S l b p w (.returned (.int .i64 r)) W := by
  refine ⟨by rw [hr], ?_, (Only.of_below h.below).mono (fun b h1 h2 => by omega)⟩
  unfold insL
  rw [if_neg (by rw [hr]; exact h0)]
  exact h.ax.wider (fun b h1 _ => .inl h1)

set_option maxRecDepth 100000 in
set_option maxHeartbeats 12800000 in
theorem rinsert_any (s : Nat) (S : Nat → Prop) (l : List Ent) (b1 b2 x y : Int) (w : World) (h : RefAt w s S l) (hlen : l.length ≤ 100000) :
    Calls Try.prog 30 #[.pointer (some ⟨s, 0, none⟩), .agg #[.int .i64 b1, .int .i64 b2], .agg #[.int .i64 x, .int .i64 y]] w (RInsOut s S l (b1, b2) (x, y) w) := by
  obtain ⟨i0, hj, hj0, hj1, hj2⟩ := info_parts info25
  obtain ⟨i4, hk, hk0, hk1, hk2⟩ := info_parts info4
  obtain ⟨R, hR⟩ : ∃ R, RInsOut s S l (b1, b2) (x, y) w = R := ⟨_, rfl⟩
  rw [hR]
  have HR := Lib.hid hR
  obtain ⟨w0, hw0⟩ : ∃ w0, (w.alloc (.cells #[.int .i64 b1, .int .i64 b2] 25)).alloc (.cells #[.int .i64 x, .int .i64 y] 25) = w0 := ⟨_, rfl⟩
  have hsw : s < w.heap.size := h.r.lt
  have h1 : Below w.heap.size w (w.alloc (.cells #[.int .i64 b1, .int .i64 b2] 25)) := (Below.refl _ _).alloc (Nat.le_refl _) _
  have hI : RInsI w s S l (b1, b2) (x, y) w0 := by
    have z1 : (w.alloc (.cells #[.int .i64 b1, .int .i64 b2] 25)).heap.size = w.heap.size + 1 := by simp
    have h2 : Below (w.alloc (.cells #[.int .i64 b1, .int .i64 b2] 25)).heap.size (w.alloc (.cells #[.int .i64 b1, .int .i64 b2] 25)) w0 := by rw [← hw0]; exact (Below.refl _ _).alloc (Nat.le_refl _) _
    have i1 := IdBox.new w b1 b2
    have i2 := IdBox.new (w.alloc (.cells #[.int .i64 b1, .int .i64 b2] 25)) x y
    rw [z1, hw0] at i2
    exact ⟨i1.below h2, i2, (h.later h1).later h2, h1.trans (h2.mono (by omega))⟩
  have HI0 := Lib.hid hI
  obtain ⟨z1, hz1⟩ : ∃ z, ((x, y) == ((0 : Int), (0 : Int))) = z := ⟨_, rfl⟩
  obtain ⟨z2, hz2⟩ : ∃ z, ((b1, b2) == ((0 : Int), (0 : Int))) = z := ⟨_, rfl⟩
  have heq1 : ∀ w, (binOp .eql 25 (.agg #[.int .i64 x, .int .i64 y]) (.agg #[.int .i64 0, .int .i64 0])).run Try.prog w = .ok (.bool z1) w := fun w => by rw [← hz1]; exact id_eq x y 0 0 w
  have heq2 : ∀ w, (binOp .neq 25 (.agg #[.int .i64 b1, .int .i64 b2]) (.agg #[.int .i64 0, .int .i64 0])).run Try.prog w = .ok (.bool (!z2)) w := fun w => by rw [← hz2]; exact id_ne b1 b2 0 0 w
  have Z1 := Lib.hid hz1
  have Z2 := Lib.hid hz2
  have HW0 := Lib.hid hw0
  clear hR h h1 hI hz1 hz2 hw0
  cases z1
  · go_enter Try.func30, Try.ntmps30
    go_wp2_with fail
    rw [HW0.out]
    obtain ⟨f1, hf1⟩ : ∃ f, findE l (x, y) = f := ⟨_, rfl⟩
    have H1 := Lib.hid (show hasE l (x, y) = decide (0 ≤ f1) by rw [has_find, hf1])
    refine (rfind_any s l x y w0 HI0.out.ax.r hlen).mono ?_
    rw [hf1]
    rintro e w1 ⟨rfl, hB⟩
    have HI1 := Lib.hid (HI0.out.later hB)
    obtain ⟨x0, x9, _⟩ := HI1.out.x
    obtain ⟨y0, y9, _⟩ := HI1.out.b
    simp only at x0 x9 y0 y9
    clear hB hf1 HW0 HI0
    by_cases hf10 : 0 ≤ f1
    · have HA := Lib.hid (show hasE l (x, y) = true by rw [H1.out]; simpa using hf10)
      go_wp2
      rw [← HR.out]
      exact HI1.out.out (show insR l (b1, b2) (x, y) = 4 by unfold insR; rw [Z1.out, HA.out]; rfl) (by decide)
    · have HA := Lib.hid (show hasE l (x, y) = false by rw [H1.out]; simpa using hf10)
      clear H1
      cases z2
      · go_wp2_with fail
        obtain ⟨f2, hf2⟩ : ∃ f, findE l (b1, b2) = f := ⟨_, rfl⟩
        have HF2 := Lib.hid hf2
        refine (rfind_any s l b1 b2 w1 HI1.out.ax.r hlen).mono ?_
        rw [hf2]
        rintro e w2 ⟨rfl, hB⟩
        have HI2 := Lib.hid (HI1.out.later hB)
        clear hB hf2 HI1 x0 x9 y0 y9
        obtain ⟨x0, x9, _⟩ := HI2.out.x
        simp only at x0 x9
        cases hix : idxE l (b1, b2) with
        | none =>
          obtain rfl : f2 = -1 := by rw [← HF2.out]; unfold findE; rw [hix]
          have H2 := Lib.hid (show hasE l (b1, b2) = false by rw [has_find, HF2.out]; decide)
          go_wp2
          rw [← HR.out]
          exact HI2.out.out (show insR l (b1, b2) (x, y) = 3 by unfold insR; rw [Z1.out, HA.out, Z2.out, H2.out]; rfl) (by decide)
        | some i =>
          obtain rfl : f2 = ↑i := by rw [← HF2.out]; unfold findE; rw [hix]
          have H2 := Lib.hid (show hasE l (b1, b2) = true by rw [has_find, HF2.out]; simp)
          obtain ⟨_, hib⟩ := idxE_some hix
          have hil := (List.getElem?_eq_some_iff.1 hib).1
          have HAT := Lib.hid (show insAt l (b1, b2) = i + 1 by unfold insAt; rw [Z2.out, hix]; rfl)
          have hne : ¬ (↑i : Int) + 1 = 0 := by omega
          clear hix hib
          obtain ⟨u, v, hraw⟩ := HI2.out.ax
          obtain ⟨A, c, rfl⟩ := own_shape hraw.ids
          obtain ⟨B, d, rfl⟩ := own_shape hraw.live
          have HRAW := Lib.hid hraw
          have hcell : w2.cell? ⟨s, 0, none⟩ = some (.slice A l.length c) := by simp [World.cell?, hraw.box]
          clear hraw
          by_cases hfull : 1000 ≤ l.length
          · have hf1 : (1000 : Int) ≤ ↑l.length := by omega
            go_wp2
            rw [← HR.out]
            exact HI2.out.out (show insR l (b1, b2) (x, y) = 5 by unfold insR; rw [Z1.out, HA.out, Z2.out, H2.out]; simp [hfull]) (by decide)
          · have hf1 : ¬ (1000 : Int) ≤ ↑l.length := by omega
            have HOK := Lib.hid (show insR l (b1, b2) (x, y) = 0 by unfold insR; rw [Z1.out, HA.out, Z2.out, H2.out]; simp [hfull])
            have hraw := HRAW.out
            obtain ⟨x1, hs1, src1⟩ := slice_pre hraw.ids (k := (i + 1)) (by omega) Try.underlying22 size25
            obtain ⟨x2, hs2, src2⟩ := slice_suf hraw.ids (k := (i + 1)) (by omega) Try.underlying22 size25
            have hl1 : ((flat2 (l.map (·.1))).take ((i + 1) * 2)).length = (i + 1) * 2 := by rw [List.length_take, flat2_len, List.length_map]; omega
            have hl2 : ((flat2 (l.map (·.1))).drop ((i + 1) * 2)).length = (l.length - (i + 1)) * 2 := by rw [List.length_drop, flat2_len, List.length_map]; omega
            have one1 : ∀ u ∈ (flat2 (l.map (·.1))).take ((i + 1) * 2), u.oneCell' = true := fun u hu => flat2_one _ u (List.mem_of_mem_take hu)
            have one2 : ∀ u ∈ (flat2 (l.map (·.1))).drop ((i + 1) * 2), u.oneCell' = true := fun u hu => flat2_one _ u (List.mem_of_mem_drop hu)
            have onel : ∀ u ∈ (#[.int .i64 x, .int .i64 y] : Array Value).toList, u.oneCell' = true := fun u hu => by simp at hu; rcases hu with rfl | rfl <;> rfl
            have hki : ((i + 1 : Nat) : Int) = (i : Int) + 1 := by omega
            rw [hki] at hs1 hs2
            have hslt := (Array.getElem?_eq_some_iff.1 hraw.box).1
            have hgl := HI2.out.x.2.2
            have hRS : RgS w2 ⟨s, 0, none⟩ (.slice A l.length c) (w.heap.size + 1) x y w2.drew := ⟨⟨hcell, HI2.out.x.1, HI2.out.x.2.1⟩, (Below.refl _ _).drew, hslt, hgl⟩
            have HRS := Lib.hid hRS
            clear hRS hraw
            have hwz : w.heap.size ≤ w2.heap.size := HI2.out.below.size
            have HSS := Lib.hid HRAW.out.mem
            have hkl : (i + 1) ≤ l.length := by omega
            go_wp2_with fail
            refine wp_region_K 21 (S := RgS w2 ⟨s, 0, none⟩ (.slice A l.length c) (w.heap.size + 1) x y) (by kernel_rfl) HRS.out (fun hS => ?_)
            refine wpK_take (i := 0) (v := ?v0a) rfl (by kernel_rfl) (by kernel_rfl) (by kernel_rfl) (by kernel_rfl) (fun _ _ _ h => h) (Or.inl ⟨by kernel_rfl, ?h0a⟩) hS ?_
            case h0a => (rintro w2 ⟨⟨e0, e1, e2⟩, _⟩; go_simp; try with_reducible rfl)
            refine wpK_take (i := 2) (v := ?v2a) rfl (by kernel_rfl) (by kernel_rfl) (by kernel_rfl) (by kernel_rfl) (fun _ _ _ h => h) (Or.inl ⟨by kernel_rfl, ?h2a⟩) hS ?_
            case h2a => (rintro w2 ⟨⟨e0, e1, e2⟩, _⟩; go_simp; try with_reducible rfl)
            refine wpK_take (i := 3) (v := ?v3a) rfl (by kernel_rfl) (by kernel_rfl) (by kernel_rfl) (by kernel_rfl) (fun _ _ _ h => h) (Or.inl ⟨by kernel_rfl, ?h3a⟩) hS ?_
            case h3a => (rintro w2 ⟨⟨e0, e1, e2⟩, _⟩; go_simp; try with_reducible rfl)
            refine wpK_take (i := 4) (v := ?v4a) rfl (by kernel_rfl) (by kernel_rfl) (by kernel_rfl) (by kernel_rfl) (fun _ _ _ h => h) (Or.inl ⟨by kernel_rfl, ?h4a⟩) hS ?_
            case h4a => (rintro w2 ⟨⟨e0, e1, e2⟩, _⟩; go_simp; try with_reducible rfl)
            refine wpK_take (i := 5) (v := ?v5a) rfl (by kernel_rfl) (by kernel_rfl) (by kernel_rfl) (by kernel_rfl) (fun _ _ _ h => h) (Or.inl ⟨by kernel_rfl, ?h5a⟩) hS ?_
            case h5a => (rintro w2 ⟨⟨e0, e1, e2⟩, _⟩; go_simp; try with_reducible rfl)
            refine wpK_take (i := 6) (v := ?v6a) rfl (by kernel_rfl) (by kernel_rfl) (by kernel_rfl) (by kernel_rfl) (fun _ _ _ h => h) (Or.inl ⟨by kernel_rfl, ?h6a⟩) hS ?_
            case h6a => (rintro w2 ⟨⟨e0, e1, e2⟩, _⟩; go_simp; try with_reducible rfl)
            refine wpK_take (i := 7) (v := x1) rfl (by kernel_rfl) (by kernel_rfl) (by kernel_rfl) (by kernel_rfl) (fun _ _ _ h => h) (Or.inl ⟨by kernel_rfl, ?h7a⟩) hS ?_
            case h7a => (rintro w2 ⟨⟨e0, e1, e2⟩, _⟩; refine exec_slice (v := .slice A l.length c) (lv := none) (hv := (some (.int .i64 ((i : Int) + 1)))) _ _ 22 (.tmp 35) none (some (.tmp 36)) none rfl (by go_simp) rfl (by go_simp) rfl (hs1 _))
            refine wpK_take (i := 9) (v := ?v9a) rfl (by kernel_rfl) (by kernel_rfl) (by kernel_rfl) (by kernel_rfl) (fun _ _ _ h => h) (Or.inl ⟨by kernel_rfl, ?h9a⟩) hS ?_
            case h9a => (rintro w2 ⟨⟨e0, e1, e2⟩, _⟩; go_simp; try with_reducible rfl)
            refine wpK_take (i := 12) (v := ?v12a) rfl (by kernel_rfl) (by kernel_rfl) (by kernel_rfl) (by kernel_rfl) (fun _ _ _ h => h) (Or.inl ⟨by kernel_rfl, ?h12a⟩) hS ?_
            case h12a => (rintro w2 ⟨⟨e0, e1, e2⟩, _⟩; go_simp; try with_reducible rfl)
            refine wpK_take (i := 13) (v := ?v13a) rfl (by kernel_rfl) (by kernel_rfl) (by kernel_rfl) (by kernel_rfl) (fun _ _ _ h => h) (Or.inl ⟨by kernel_rfl, ?h13a⟩) hS ?_
            case h13a => (rintro w2 ⟨⟨e0, e1, e2⟩, _⟩; go_simp; try with_reducible rfl)
            refine wpK_take (i := 14) (v := ?v14a) rfl (by kernel_rfl) (by kernel_rfl) (by kernel_rfl) (by kernel_rfl) (fun _ _ _ h => h) (Or.inl ⟨by kernel_rfl, ?h14a⟩) hS ?_
            case h14a => (rintro w2 ⟨⟨e0, e1, e2⟩, _⟩; go_simp; try with_reducible rfl)
            refine wpK_take (i := 15) (v := ?v15a) rfl (by kernel_rfl) (by kernel_rfl) (by kernel_rfl) (by kernel_rfl) (fun _ _ _ h => h) (Or.inl ⟨by kernel_rfl, ?h15a⟩) hS ?_
            case h15a => (rintro w2 ⟨⟨e0, e1, e2⟩, _⟩; go_simp; try with_reducible rfl)
            refine wpK_take (i := 16) (v := ?v16a) rfl (by kernel_rfl) (by kernel_rfl) (by kernel_rfl) (by kernel_rfl) (fun _ _ _ h => h) (Or.inl ⟨by kernel_rfl, ?h16a⟩) hS ?_
            case h16a => (rintro w2 ⟨⟨e0, e1, e2⟩, _⟩; go_simp; try with_reducible rfl)
            refine wpK_take (i := 17) (v := x2) rfl (by kernel_rfl) (by kernel_rfl) (by kernel_rfl) (by kernel_rfl) (fun _ _ _ h => h) (Or.inl ⟨by kernel_rfl, ?h17a⟩) hS ?_
            case h17a => (rintro w2 ⟨⟨e0, e1, e2⟩, _⟩; refine exec_slice (v := .slice A l.length c) (lv := (some (.int .i64 ((i : Int) + 1)))) (hv := none) _ _ 22 (.tmp 45) (some (.tmp 46)) none none rfl (by go_simp) (by go_simp) rfl rfl (hs2 _))
            refine wpK_two (i := 1) (k := 10) (by kernel_rfl) rfl rfl (fun K hK => ?_) (fun K hK => ?_)
            · go_simp
              refine hK.out _ _ (hS.alloc _) (fun hS1 => ?_); clear hK K
              have own1 := own_empty w2.drew w2.heap.size w2.heap.size 25 2 rfl (Nat.le_refl _)
              refine wpK_two (i := 8) (k := 10) (by kernel_rfl) rfl rfl (fun K hK => ?_) (fun K hK => ?_)
              · refine step_app rfl (.tmp 31) (.tmp 37) 22 rfl 25 i0 _ 2 16 Try.underlying22 hj hj0 hj1 hj2 rfl (by decide) w2.heap.size _ _ _ (by go_simp) own1 hS1.2.1 hS1.2.1.size _ _ _ (by go_simp) (src1.below hS1.2.1 (Nat.le_refl _)) hl1 one1 (by unfold maxLen; omega) (by omega) ?_
                intro v8 X8 own8 hB8 hg8
                refine hK.out _ _ (hS1.next hB8) (fun hS8 => ?_); clear hK K
                refine wpK_one (i := 10) (by kernel_rfl) rfl (fun K hK => ?_)
                go_simp
                refine hK.out _ _ (hS8.alloc _) (fun hSc => ?_); clear hK K
                have lit8 := src_new X8 X8.heap.size rfl #[.int .i64 x, .int .i64 y] 25
                replace own8 := own8.alloc (.cells #[.int .i64 x, .int .i64 y] 25)
                refine wpK_one (i := 11) (by kernel_rfl) rfl (fun K hK => ?_)
                refine step_app rfl (.tmp 38) (.tmp 40) 22 rfl 25 i0 _ 2 16 Try.underlying22 hj hj0 hj1 hj2 rfl (by decide) w2.heap.size _ _ _ (by go_simp) own8 hSc.2.1 hSc.2.1.size _ 1 _ (by go_simp) lit8 rfl onel (by unfold maxLen; omega) (by omega) ?_
                intro v11 X11 own11 hB11 hg11
                refine hK.out _ _ (hSc.next hB11) (fun hSm => ?_); clear hK K
                refine wpK_one (i := 18) (by kernel_rfl) rfl (fun K hK => ?_)
                refine step_app rfl (.tmp 41) (.tmp 47) 22 rfl 25 i0 _ 2 16 Try.underlying22 hj hj0 hj1 hj2 rfl (by decide) w2.heap.size _ _ _ (by go_simp) own11 hSm.2.1 hSm.2.1.size _ _ _ (by go_simp) (src2.below hSm.2.1 (Nat.le_refl _)) hl2 one2 (by unfold maxLen; omega) (by omega) ?_
                intro v18 X18 own18 hB18 hg18
                refine hK.out _ _ (hSm.next hB18) (fun hSl => ?_); clear hK K
                refine wpK_one (i := 19) (by kernel_rfl) rfl (fun K hK => ?_)
                go_simp
                refine hK.out _ _ hSl (fun hSl => ?_); clear hK K
                refine wpK_one (i := 20) (by kernel_rfl) rfl (fun K hK => ?_)
                go_simp
                refine hK.out _ _ hSl (fun hSl => ?_); clear hK K
                rw [Nat.zero_add, List.nil_append] at own18
                obtain ⟨A18, c18, rfl⟩ := own_shape own18
                have hbx18 : X18.heap[s]? = some (.cells #[.slice A l.length c, .slice B l.length d] 60 (0, 0)) := (hSl.2.1.block s hslt).trans HRAW.out.box
                have hc18 : X18.cell? ⟨s, 0, none⟩ = some (.slice A l.length c) := by simp [World.cell?, hbx18]
                have hf18 : X18.frozen? ⟨s, 0, none⟩ = false := by simp [World.frozen?, hbx18]
                refine wpK_last (by kernel_rfl) rfl (by kernel_rfl) (fun K hK => ?_)
                go_simp
                refine hK.out _ _ ?_; clear hK K
                have hlv := row_block (w' := X18) HRAW.out.live (fun g hg => hSl.2.1.block g (row_lt HRAW.out.live hg))
                have hput := RawAt.put_ids (T := fun b => S b ∨ w.heap.size ≤ b) hbx18 hlv (own_base own18 (Nat.zero_le _)) (.inl HRAW.out.mem) (fun g hg => .inr (Nat.le_trans hwz (own_from own18 hg))) (fun g hg => .inl (HRAW.out.hv g hg))
                have hone := ((((Only.of_below HI2.out.below).mono (T := S) (fun b h1 h2 => by omega)).trans ((Only.of_below hSl.2.1).mono (T := S) (fun b h1 h2 => by omega)) (fun b h _ => h))).trans ((Only.of_grown (grownBy_setCell' X18 s (.slice A18 ((i + 1) + 1 + (l.length - (i + 1))) c18))).mono (T := S) (fun b h1 _ => by injection h1 with h1; rw [← h1]; exact HRAW.out.mem)) (fun b h _ => h)
                have g0 : (X18.setCell ⟨s, 0, none⟩ (.slice A18 ((i + 1) + 1 + (l.length - (i + 1))) c18)).cell? ⟨w.heap.size + 1, 0, none⟩ = some (.int .i64 x) := (World.cell?_of_block (Below.heap_setCell X18 _ _ _ (by show w.heap.size + 1 ≠ s; omega))).trans hSl.1.2.1
                have g1 : (X18.setCell ⟨s, 0, none⟩ (.slice A18 ((i + 1) + 1 + (l.length - (i + 1))) c18)).cell? ⟨w.heap.size + 1, 1, none⟩ = some (.int .i64 y) := (World.cell?_of_block (Below.heap_setCell X18 _ _ _ (by show w.heap.size + 1 ≠ s; omega))).trans hSl.1.2.2
                obtain ⟨X3, hX3⟩ : ∃ X3, X18.setCell ⟨s, 0, none⟩ (.slice A18 ((i + 1) + 1 + (l.length - (i + 1))) c18) = X3 := ⟨_, rfl⟩
                obtain ⟨A3, hA3⟩ : ∃ A3, A18 = A3 := ⟨_, rfl⟩
                obtain ⟨c3, hc3⟩ : ∃ c3, c18 = c3 := ⟨_, rfl⟩
                rw [hX3] at hput hone g0 g1 ⊢
                rw [hA3, hc3] at hput ⊢
                have HR3 := Lib.hid hput
                have HON := Lib.hid hone
                have hwz3 : w.heap.size ≤ X3.heap.size := hone.size
                obtain ⟨x3, hs3, src3⟩ := slice_pre hput.live (k := (i + 1)) (by omega) Try.underlying58 size4
                obtain ⟨x4, hs4, src4⟩ := slice_suf hput.live (k := (i + 1)) (by omega) Try.underlying58 size4
                rw [hki] at hs3 hs4
                have hl1 : ((boolsE l).take ((i + 1) * 1)).length = (i + 1) * 1 := by rw [List.length_take]; simp [boolsE]; omega
                have hl2 : ((boolsE l).drop ((i + 1) * 1)).length = (l.length - (i + 1)) * 1 := by rw [List.length_drop]; simp [boolsE]
                have one3 : ∀ u ∈ (boolsE l).take ((i + 1) * 1), u.oneCell' = true := fun u hu => bools_one _ u (List.mem_of_mem_take hu)
                have one4 : ∀ u ∈ (boolsE l).drop ((i + 1) * 1), u.oneCell' = true := fun u hu => bools_one _ u (List.mem_of_mem_drop hu)
                have onem : ∀ u ∈ (#[.bool true] : Array Value).toList, u.oneCell' = true := fun u hu => by simp at hu; rcases hu with rfl; rfl
                have hslt3 := (Array.getElem?_eq_some_iff.1 hput.box).1
                have hcell3 : X3.cell? ⟨s, 1, none⟩ = some (.slice B l.length d) := by simp [World.cell?, hput.box]
                have HRS3 : Hid (RgS X3 ⟨s, 1, none⟩ (.slice B l.length d) (w.heap.size + 1) x y X3.drew) := Lib.hid ⟨⟨hcell3, g0, g1⟩, (Below.refl _ _).drew, hslt3, cell_lt g0⟩
                clear hput hone g0 g1 hX3 hA3 hc3 hlv hbx18 hc18 hf18 own18 hB18 hg18 hSl hSm own11 hB11 hg11 hSc own8 hB8 hg8 lit8
                go_wp2_with fail
                refine wp_region_K 20 (S := RgS X3 ⟨s, 1, none⟩ (.slice B l.length d) (w.heap.size + 1) x y) (by kernel_rfl) HRS3.out (fun hS => ?_)
                refine wpK_take (i := 0) (v := ?v0b) rfl (by kernel_rfl) (by kernel_rfl) (by kernel_rfl) (by kernel_rfl) (fun _ _ _ h => h) (Or.inl ⟨by kernel_rfl, ?h0b⟩) hS ?_
                case h0b => (rintro w2 ⟨⟨e0, e1, e2⟩, _⟩; go_simp; try with_reducible rfl)
                refine wpK_take (i := 2) (v := ?v2b) rfl (by kernel_rfl) (by kernel_rfl) (by kernel_rfl) (by kernel_rfl) (fun _ _ _ h => h) (Or.inl ⟨by kernel_rfl, ?h2b⟩) hS ?_
                case h2b => (rintro w2 ⟨⟨e0, e1, e2⟩, _⟩; go_simp; try with_reducible rfl)
                refine wpK_take (i := 3) (v := ?v3b) rfl (by kernel_rfl) (by kernel_rfl) (by kernel_rfl) (by kernel_rfl) (fun _ _ _ h => h) (Or.inl ⟨by kernel_rfl, ?h3b⟩) hS ?_
                case h3b => (rintro w2 ⟨⟨e0, e1, e2⟩, _⟩; go_simp; try with_reducible rfl)
                refine wpK_take (i := 4) (v := ?v4b) rfl (by kernel_rfl) (by kernel_rfl) (by kernel_rfl) (by kernel_rfl) (fun _ _ _ h => h) (Or.inl ⟨by kernel_rfl, ?h4b⟩) hS ?_
                case h4b => (rintro w2 ⟨⟨e0, e1, e2⟩, _⟩; go_simp; try with_reducible rfl)
                refine wpK_take (i := 5) (v := ?v5b) rfl (by kernel_rfl) (by kernel_rfl) (by kernel_rfl) (by kernel_rfl) (fun _ _ _ h => h) (Or.inl ⟨by kernel_rfl, ?h5b⟩) hS ?_
                case h5b => (rintro w2 ⟨⟨e0, e1, e2⟩, _⟩; go_simp; try with_reducible rfl)
                refine wpK_take (i := 6) (v := ?v6b) rfl (by kernel_rfl) (by kernel_rfl) (by kernel_rfl) (by kernel_rfl) (fun _ _ _ h => h) (Or.inl ⟨by kernel_rfl, ?h6b⟩) hS ?_
                case h6b => (rintro w2 ⟨⟨e0, e1, e2⟩, _⟩; go_simp; try with_reducible rfl)
                refine wpK_take (i := 7) (v := x3) rfl (by kernel_rfl) (by kernel_rfl) (by kernel_rfl) (by kernel_rfl) (fun _ _ _ h => h) (Or.inl ⟨by kernel_rfl, ?h7b⟩) hS ?_
                case h7b => (rintro w2 ⟨⟨e0, e1, e2⟩, _⟩; refine exec_slice (v := .slice B l.length d) (lv := none) (hv := (some (.int .i64 ((i : Int) + 1)))) _ _ 58 (.tmp 56) none (some (.tmp 57)) none rfl (by go_simp) rfl (by go_simp) rfl (hs3 _))
                refine wpK_take (i := 11) (v := ?v11b) rfl (by kernel_rfl) (by kernel_rfl) (by kernel_rfl) (by kernel_rfl) (fun _ _ _ h => h) (Or.inl ⟨by kernel_rfl, ?h11b⟩) hS ?_
                case h11b => (rintro w2 ⟨⟨e0, e1, e2⟩, _⟩; go_simp; try with_reducible rfl)
                refine wpK_take (i := 12) (v := ?v12b) rfl (by kernel_rfl) (by kernel_rfl) (by kernel_rfl) (by kernel_rfl) (fun _ _ _ h => h) (Or.inl ⟨by kernel_rfl, ?h12b⟩) hS ?_
                case h12b => (rintro w2 ⟨⟨e0, e1, e2⟩, _⟩; go_simp; try with_reducible rfl)
                refine wpK_take (i := 13) (v := ?v13b) rfl (by kernel_rfl) (by kernel_rfl) (by kernel_rfl) (by kernel_rfl) (fun _ _ _ h => h) (Or.inl ⟨by kernel_rfl, ?h13b⟩) hS ?_
                case h13b => (rintro w2 ⟨⟨e0, e1, e2⟩, _⟩; go_simp; try with_reducible rfl)
                refine wpK_take (i := 14) (v := ?v14b) rfl (by kernel_rfl) (by kernel_rfl) (by kernel_rfl) (by kernel_rfl) (fun _ _ _ h => h) (Or.inl ⟨by kernel_rfl, ?h14b⟩) hS ?_
                case h14b => (rintro w2 ⟨⟨e0, e1, e2⟩, _⟩; go_simp; try with_reducible rfl)
                refine wpK_take (i := 15) (v := ?v15b) rfl (by kernel_rfl) (by kernel_rfl) (by kernel_rfl) (by kernel_rfl) (fun _ _ _ h => h) (Or.inl ⟨by kernel_rfl, ?h15b⟩) hS ?_
                case h15b => (rintro w2 ⟨⟨e0, e1, e2⟩, _⟩; go_simp; try with_reducible rfl)
                refine wpK_take (i := 16) (v := x4) rfl (by kernel_rfl) (by kernel_rfl) (by kernel_rfl) (by kernel_rfl) (fun _ _ _ h => h) (Or.inl ⟨by kernel_rfl, ?h16b⟩) hS ?_
                case h16b => (rintro w2 ⟨⟨e0, e1, e2⟩, _⟩; refine exec_slice (v := .slice B l.length d) (lv := (some (.int .i64 ((i : Int) + 1)))) (hv := none) _ _ 58 (.tmp 65) (some (.tmp 66)) none none rfl (by go_simp) (by go_simp) rfl rfl (hs4 _))
                refine wpK_two (i := 1) (k := 9) (by kernel_rfl) rfl rfl (fun K hK => ?_) (fun K hK => ?_)
                · go_simp
                  refine hK.out _ _ (hS.alloc _) (fun hS1 => ?_); clear hK K
                  have own1 := own_empty X3.drew X3.heap.size X3.heap.size 4 1 rfl (Nat.le_refl _)
                  refine wpK_two (i := 8) (k := 9) (by kernel_rfl) rfl rfl (fun K hK => ?_) (fun K hK => ?_)
                  · refine step_app rfl (.tmp 52) (.tmp 58) 58 rfl 4 i4 _ 1 1 Try.underlying58 hk hk0 hk1 hk2 rfl (by decide) X3.heap.size _ _ _ (by go_simp) own1 hS1.2.1 hS1.2.1.size _ _ _ (by go_simp) (src3.below hS1.2.1 (Nat.le_refl _)) hl1 one3 (by unfold maxLen; omega) (by omega) ?_
                    intro v8 X8 own8 hB8 hg8
                    refine hK.out _ _ (hS1.next hB8) (fun hS8 => ?_); clear hK K
                    refine wpK_one (i := 9) (by kernel_rfl) rfl (fun K hK => ?_)
                    go_simp
                    refine hK.out _ _ (hS8.alloc _) (fun hSc => ?_); clear hK K
                    have lit8 := src_new X8 X8.heap.size rfl #[.bool true] 4
                    replace own8 := own8.alloc (.cells #[.bool true] 4)
                    refine wpK_one (i := 10) (by kernel_rfl) rfl (fun K hK => ?_)
                    refine step_app rfl (.tmp 59) (.tmp 60) 58 rfl 4 i4 _ 1 1 Try.underlying58 hk hk0 hk1 hk2 rfl (by decide) X3.heap.size _ _ _ (by go_simp) own8 hSc.2.1 hSc.2.1.size _ 1 _ (by go_simp) lit8 rfl onem (by unfold maxLen; omega) (by omega) ?_
                    intro v11 X11 own11 hB11 hg11
                    refine hK.out _ _ (hSc.next hB11) (fun hSm => ?_); clear hK K
                    refine wpK_one (i := 17) (by kernel_rfl) rfl (fun K hK => ?_)
                    refine step_app rfl (.tmp 61) (.tmp 67) 58 rfl 4 i4 _ 1 1 Try.underlying58 hk hk0 hk1 hk2 rfl (by decide) X3.heap.size _ _ _ (by go_simp) own11 hSm.2.1 hSm.2.1.size _ _ _ (by go_simp) (src4.below hSm.2.1 (Nat.le_refl _)) hl2 one4 (by unfold maxLen; omega) (by omega) ?_
                    intro v18 X18 own18 hB18 hg18
                    refine hK.out _ _ (hSm.next hB18) (fun hSl => ?_); clear hK K
                    refine wpK_one (i := 18) (by kernel_rfl) rfl (fun K hK => ?_)
                    go_simp
                    refine hK.out _ _ hSl (fun hSl => ?_); clear hK K
                    refine wpK_one (i := 19) (by kernel_rfl) rfl (fun K hK => ?_)
                    go_simp
                    refine hK.out _ _ hSl (fun hSl => ?_); clear hK K
                    rw [Nat.zero_add, List.nil_append] at own18
                    obtain ⟨A18, c18, rfl⟩ := own_shape own18
                    have hbx18 : X18.heap[s]? = some (.cells #[.slice A3 ((i + 1) + 1 + (l.length - (i + 1))) c3, .slice B l.length d] 60 (0, 0)) := (hSl.2.1.block s hslt3).trans HR3.out.box
                    have hc18 : X18.cell? ⟨s, 1, none⟩ = some (.slice B l.length d) := by simp [World.cell?, hbx18]
                    have hf18 : X18.frozen? ⟨s, 1, none⟩ = false := by simp [World.frozen?, hbx18]
                    refine wpK_last (by kernel_rfl) rfl (by kernel_rfl) (fun K hK => ?_)
                    go_simp
                    refine hK.out _ _ ?_; clear hK K
                    have hlv := row_block (w' := X18) HR3.out.ids (fun g hg => hSl.2.1.block g (row_lt HR3.out.ids hg))
                    have hput := RawAt.put_live (T := fun b => S b ∨ w.heap.size ≤ b) hbx18 hlv (own_base4 own18 (Nat.zero_le _)) HR3.out.mem HR3.out.hu (fun g hg => .inr (Nat.le_trans hwz3 (own_from own18 hg)))
                    have HFIN := Lib.hid hput
                    have HON4 := Lib.hid ((HON.out.trans ((Only.of_below hSl.2.1).mono (T := S) (fun b h1 h2 => by omega)) (fun b h _ => h)).trans ((Only.of_grown (grownBy_cell1 X18 s (.slice A18 ((i + 1) + 1 + (l.length - (i + 1))) c18))).mono (T := S) (fun b h1 _ => by injection h1 with h1; rw [← h1]; exact HSS.out)) (fun b h _ => h))
                    clear hlv hput hbx18
                    go_wp2
                    rw [← HR.out]
                    exact ⟨by rw [HOK.out], ref_ins HOK.out HAT.out hkl HFIN.out, HON4.out⟩
                  · go_simp
                    refine hK.out _ _ (hS1.alloc _) (fun hS10 => ?_); clear hK K
                    have lit1 := src_new (X3.drew.alloc (.cells #[] 4)) (X3.heap.size + 1) (by simp) #[.bool true] 4
                    replace own1 := own1.alloc (.cells #[.bool true] 4)
                    refine wpK_one (i := 8) (by kernel_rfl) rfl (fun K hK => ?_)
                    refine step_app rfl (.tmp 52) (.tmp 58) 58 rfl 4 i4 _ 1 1 Try.underlying58 hk hk0 hk1 hk2 rfl (by decide) X3.heap.size _ _ _ (by go_simp) own1 hS10.2.1 hS10.2.1.size _ _ _ (by go_simp) (src3.below hS10.2.1 (Nat.le_refl _)) hl1 one3 (by unfold maxLen; omega) (by omega) ?_
                    intro v8 X8 own8 hB8 hg8
                    refine hK.out _ _ (hS10.next hB8) (fun hSc => ?_); clear hK K
                    have lit8 := lit1.grown hg8 (by simp [Value.ownBlock])
                    refine wpK_one (i := 10) (by kernel_rfl) rfl (fun K hK => ?_)
                    refine step_app rfl (.tmp 59) (.tmp 60) 58 rfl 4 i4 _ 1 1 Try.underlying58 hk hk0 hk1 hk2 rfl (by decide) X3.heap.size _ _ _ (by go_simp) own8 hSc.2.1 hSc.2.1.size _ 1 _ (by go_simp) lit8 rfl onem (by unfold maxLen; omega) (by omega) ?_
                    intro v11 X11 own11 hB11 hg11
                    refine hK.out _ _ (hSc.next hB11) (fun hSm => ?_); clear hK K
                    refine wpK_one (i := 17) (by kernel_rfl) rfl (fun K hK => ?_)
                    refine step_app rfl (.tmp 61) (.tmp 67) 58 rfl 4 i4 _ 1 1 Try.underlying58 hk hk0 hk1 hk2 rfl (by decide) X3.heap.size _ _ _ (by go_simp) own11 hSm.2.1 hSm.2.1.size _ _ _ (by go_simp) (src4.below hSm.2.1 (Nat.le_refl _)) hl2 one4 (by unfold maxLen; omega) (by omega) ?_
                    intro v18 X18 own18 hB18 hg18
                    refine hK.out _ _ (hSm.next hB18) (fun hSl => ?_); clear hK K
                    refine wpK_one (i := 18) (by kernel_rfl) rfl (fun K hK => ?_)
                    go_simp
                    refine hK.out _ _ hSl (fun hSl => ?_); clear hK K
                    refine wpK_one (i := 19) (by kernel_rfl) rfl (fun K hK => ?_)
                    go_simp
                    refine hK.out _ _ hSl (fun hSl => ?_); clear hK K
                    rw [Nat.zero_add, List.nil_append] at own18
                    obtain ⟨A18, c18, rfl⟩ := own_shape own18
                    have hbx18 : X18.heap[s]? = some (.cells #[.slice A3 ((i + 1) + 1 + (l.length - (i + 1))) c3, .slice B l.length d] 60 (0, 0)) := (hSl.2.1.block s hslt3).trans HR3.out.box
                    have hc18 : X18.cell? ⟨s, 1, none⟩ = some (.slice B l.length d) := by simp [World.cell?, hbx18]
                    have hf18 : X18.frozen? ⟨s, 1, none⟩ = false := by simp [World.frozen?, hbx18]
                    refine wpK_last (by kernel_rfl) rfl (by kernel_rfl) (fun K hK => ?_)
                    go_simp
                    refine hK.out _ _ ?_; clear hK K
                    have hlv := row_block (w' := X18) HR3.out.ids (fun g hg => hSl.2.1.block g (row_lt HR3.out.ids hg))
                    have hput := RawAt.put_live (T := fun b => S b ∨ w.heap.size ≤ b) hbx18 hlv (own_base4 own18 (Nat.zero_le _)) HR3.out.mem HR3.out.hu (fun g hg => .inr (Nat.le_trans hwz3 (own_from own18 hg)))
                    have HFIN := Lib.hid hput
                    have HON4 := Lib.hid ((HON.out.trans ((Only.of_below hSl.2.1).mono (T := S) (fun b h1 h2 => by omega)) (fun b h _ => h)).trans ((Only.of_grown (grownBy_cell1 X18 s (.slice A18 ((i + 1) + 1 + (l.length - (i + 1))) c18))).mono (T := S) (fun b h1 _ => by injection h1 with h1; rw [← h1]; exact HSS.out)) (fun b h _ => h))
                    clear hlv hput hbx18
                    go_wp2
                    rw [← HR.out]
                    exact ⟨by rw [HOK.out], ref_ins HOK.out HAT.out hkl HFIN.out, HON4.out⟩
                · go_simp
                  refine hK.out _ _ (hS.alloc _) (fun hS10 => ?_); clear hK K
                  have lit1 := src_new X3.drew X3.heap.size rfl #[.bool true] 4
                  refine wpK_one (i := 1) (by kernel_rfl) rfl (fun K hK => ?_)
                  go_simp
                  refine hK.out _ _ (hS10.alloc _) (fun hS1 => ?_); clear hK K
                  have own1 := own_empty (X3.drew.alloc (.cells #[.bool true] 4)) X3.heap.size (X3.heap.size + 1) 4 1 (by simp) (by omega)
                  refine wpK_one (i := 8) (by kernel_rfl) rfl (fun K hK => ?_)
                  refine step_app rfl (.tmp 52) (.tmp 58) 58 rfl 4 i4 _ 1 1 Try.underlying58 hk hk0 hk1 hk2 rfl (by decide) X3.heap.size _ _ _ (by go_simp) own1 hS1.2.1 hS1.2.1.size _ _ _ (by go_simp) (src3.below hS1.2.1 (Nat.le_refl _)) hl1 one3 (by unfold maxLen; omega) (by omega) ?_
                  intro v8 X8 own8 hB8 hg8
                  refine hK.out _ _ (hS1.next hB8) (fun hSc => ?_); clear hK K
                  have lit8 := (lit1.below ((Below.refl _ _).alloc (Nat.le_refl _) _) (Nat.le_refl _)).grown hg8 (by simp [Value.ownBlock])
                  refine wpK_one (i := 10) (by kernel_rfl) rfl (fun K hK => ?_)
                  refine step_app rfl (.tmp 59) (.tmp 60) 58 rfl 4 i4 _ 1 1 Try.underlying58 hk hk0 hk1 hk2 rfl (by decide) X3.heap.size _ _ _ (by go_simp) own8 hSc.2.1 hSc.2.1.size _ 1 _ (by go_simp) lit8 rfl onem (by unfold maxLen; omega) (by omega) ?_
                  intro v11 X11 own11 hB11 hg11
                  refine hK.out _ _ (hSc.next hB11) (fun hSm => ?_); clear hK K
                  refine wpK_one (i := 17) (by kernel_rfl) rfl (fun K hK => ?_)
                  refine step_app rfl (.tmp 61) (.tmp 67) 58 rfl 4 i4 _ 1 1 Try.underlying58 hk hk0 hk1 hk2 rfl (by decide) X3.heap.size _ _ _ (by go_simp) own11 hSm.2.1 hSm.2.1.size _ _ _ (by go_simp) (src4.below hSm.2.1 (Nat.le_refl _)) hl2 one4 (by unfold maxLen; omega) (by omega) ?_
                  intro v18 X18 own18 hB18 hg18
                  refine hK.out _ _ (hSm.next hB18) (fun hSl => ?_); clear hK K
                  refine wpK_one (i := 18) (by kernel_rfl) rfl (fun K hK => ?_)
                  go_simp
                  refine hK.out _ _ hSl (fun hSl => ?_); clear hK K
                  refine wpK_one (i := 19) (by kernel_rfl) rfl (fun K hK => ?_)
                  go_simp
                  refine hK.out _ _ hSl (fun hSl => ?_); clear hK K
                  rw [Nat.zero_add, List.nil_append] at own18
                  obtain ⟨A18, c18, rfl⟩ := own_shape own18
                  have hbx18 : X18.heap[s]? = some (.cells #[.slice A3 ((i + 1) + 1 + (l.length - (i + 1))) c3, .slice B l.length d] 60 (0, 0)) := (hSl.2.1.block s hslt3).trans HR3.out.box
                  have hc18 : X18.cell? ⟨s, 1, none⟩ = some (.slice B l.length d) := by simp [World.cell?, hbx18]
                  have hf18 : X18.frozen? ⟨s, 1, none⟩ = false := by simp [World.frozen?, hbx18]
                  refine wpK_last (by kernel_rfl) rfl (by kernel_rfl) (fun K hK => ?_)
                  go_simp
                  refine hK.out _ _ ?_; clear hK K
                  have hlv := row_block (w' := X18) HR3.out.ids (fun g hg => hSl.2.1.block g (row_lt HR3.out.ids hg))
                  have hput := RawAt.put_live (T := fun b => S b ∨ w.heap.size ≤ b) hbx18 hlv (own_base4 own18 (Nat.zero_le _)) HR3.out.mem HR3.out.hu (fun g hg => .inr (Nat.le_trans hwz3 (own_from own18 hg)))
                  have HFIN := Lib.hid hput
                  have HON4 := Lib.hid ((HON.out.trans ((Only.of_below hSl.2.1).mono (T := S) (fun b h1 h2 => by omega)) (fun b h _ => h)).trans ((Only.of_grown (grownBy_cell1 X18 s (.slice A18 ((i + 1) + 1 + (l.length - (i + 1))) c18))).mono (T := S) (fun b h1 _ => by injection h1 with h1; rw [← h1]; exact HSS.out)) (fun b h _ => h))
                  clear hlv hput hbx18
                  go_wp2
                  rw [← HR.out]
                  exact ⟨by rw [HOK.out], ref_ins HOK.out HAT.out hkl HFIN.out, HON4.out⟩
              · go_simp
                refine hK.out _ _ (hS1.alloc _) (fun hS10 => ?_); clear hK K
                have lit1 := src_new (w2.drew.alloc (.cells #[] 25)) (w2.heap.size + 1) (by simp) #[.int .i64 x, .int .i64 y] 25
                replace own1 := own1.alloc (.cells #[.int .i64 x, .int .i64 y] 25)
                refine wpK_one (i := 8) (by kernel_rfl) rfl (fun K hK => ?_)
                refine step_app rfl (.tmp 31) (.tmp 37) 22 rfl 25 i0 _ 2 16 Try.underlying22 hj hj0 hj1 hj2 rfl (by decide) w2.heap.size _ _ _ (by go_simp) own1 hS10.2.1 hS10.2.1.size _ _ _ (by go_simp) (src1.below hS10.2.1 (Nat.le_refl _)) hl1 one1 (by unfold maxLen; omega) (by omega) ?_
                intro v8 X8 own8 hB8 hg8
                refine hK.out _ _ (hS10.next hB8) (fun hSc => ?_); clear hK K
                have lit8 := lit1.grown hg8 (by simp [Value.ownBlock])
                refine wpK_one (i := 11) (by kernel_rfl) rfl (fun K hK => ?_)
                refine step_app rfl (.tmp 38) (.tmp 40) 22 rfl 25 i0 _ 2 16 Try.underlying22 hj hj0 hj1 hj2 rfl (by decide) w2.heap.size _ _ _ (by go_simp) own8 hSc.2.1 hSc.2.1.size _ 1 _ (by go_simp) lit8 rfl onel (by unfold maxLen; omega) (by omega) ?_
                intro v11 X11 own11 hB11 hg11
                refine hK.out _ _ (hSc.next hB11) (fun hSm => ?_); clear hK K
                refine wpK_one (i := 18) (by kernel_rfl) rfl (fun K hK => ?_)
                refine step_app rfl (.tmp 41) (.tmp 47) 22 rfl 25 i0 _ 2 16 Try.underlying22 hj hj0 hj1 hj2 rfl (by decide) w2.heap.size _ _ _ (by go_simp) own11 hSm.2.1 hSm.2.1.size _ _ _ (by go_simp) (src2.below hSm.2.1 (Nat.le_refl _)) hl2 one2 (by unfold maxLen; omega) (by omega) ?_
                intro v18 X18 own18 hB18 hg18
                refine hK.out _ _ (hSm.next hB18) (fun hSl => ?_); clear hK K
                refine wpK_one (i := 19) (by kernel_rfl) rfl (fun K hK => ?_)
                go_simp
                refine hK.out _ _ hSl (fun hSl => ?_); clear hK K
                refine wpK_one (i := 20) (by kernel_rfl) rfl (fun K hK => ?_)
                go_simp
                refine hK.out _ _ hSl (fun hSl => ?_); clear hK K
                rw [Nat.zero_add, List.nil_append] at own18
                obtain ⟨A18, c18, rfl⟩ := own_shape own18
                have hbx18 : X18.heap[s]? = some (.cells #[.slice A l.length c, .slice B l.length d] 60 (0, 0)) := (hSl.2.1.block s hslt).trans HRAW.out.box
                have hc18 : X18.cell? ⟨s, 0, none⟩ = some (.slice A l.length c) := by simp [World.cell?, hbx18]
                have hf18 : X18.frozen? ⟨s, 0, none⟩ = false := by simp [World.frozen?, hbx18]
                refine wpK_last (by kernel_rfl) rfl (by kernel_rfl) (fun K hK => ?_)
                go_simp
                refine hK.out _ _ ?_; clear hK K
                have hlv := row_block (w' := X18) HRAW.out.live (fun g hg => hSl.2.1.block g (row_lt HRAW.out.live hg))
                have hput := RawAt.put_ids (T := fun b => S b ∨ w.heap.size ≤ b) hbx18 hlv (own_base own18 (Nat.zero_le _)) (.inl HRAW.out.mem) (fun g hg => .inr (Nat.le_trans hwz (own_from own18 hg))) (fun g hg => .inl (HRAW.out.hv g hg))
                have hone := ((((Only.of_below HI2.out.below).mono (T := S) (fun b h1 h2 => by omega)).trans ((Only.of_below hSl.2.1).mono (T := S) (fun b h1 h2 => by omega)) (fun b h _ => h))).trans ((Only.of_grown (grownBy_setCell' X18 s (.slice A18 ((i + 1) + 1 + (l.length - (i + 1))) c18))).mono (T := S) (fun b h1 _ => by injection h1 with h1; rw [← h1]; exact HRAW.out.mem)) (fun b h _ => h)
                have g0 : (X18.setCell ⟨s, 0, none⟩ (.slice A18 ((i + 1) + 1 + (l.length - (i + 1))) c18)).cell? ⟨w.heap.size + 1, 0, none⟩ = some (.int .i64 x) := (World.cell?_of_block (Below.heap_setCell X18 _ _ _ (by show w.heap.size + 1 ≠ s; omega))).trans hSl.1.2.1
                have g1 : (X18.setCell ⟨s, 0, none⟩ (.slice A18 ((i + 1) + 1 + (l.length - (i + 1))) c18)).cell? ⟨w.heap.size + 1, 1, none⟩ = some (.int .i64 y) := (World.cell?_of_block (Below.heap_setCell X18 _ _ _ (by show w.heap.size + 1 ≠ s; omega))).trans hSl.1.2.2
                obtain ⟨X3, hX3⟩ : ∃ X3, X18.setCell ⟨s, 0, none⟩ (.slice A18 ((i + 1) + 1 + (l.length - (i + 1))) c18) = X3 := ⟨_, rfl⟩
                obtain ⟨A3, hA3⟩ : ∃ A3, A18 = A3 := ⟨_, rfl⟩
                obtain ⟨c3, hc3⟩ : ∃ c3, c18 = c3 := ⟨_, rfl⟩
                rw [hX3] at hput hone g0 g1 ⊢
                rw [hA3, hc3] at hput ⊢
                have HR3 := Lib.hid hput
                have HON := Lib.hid hone
                have hwz3 : w.heap.size ≤ X3.heap.size := hone.size
                obtain ⟨x3, hs3, src3⟩ := slice_pre hput.live (k := (i + 1)) (by omega) Try.underlying58 size4
                obtain ⟨x4, hs4, src4⟩ := slice_suf hput.live (k := (i + 1)) (by omega) Try.underlying58 size4
                rw [hki] at hs3 hs4
                have hl1 : ((boolsE l).take ((i + 1) * 1)).length = (i + 1) * 1 := by rw [List.length_take]; simp [boolsE]; omega
                have hl2 : ((boolsE l).drop ((i + 1) * 1)).length = (l.length - (i + 1)) * 1 := by rw [List.length_drop]; simp [boolsE]
                have one3 : ∀ u ∈ (boolsE l).take ((i + 1) * 1), u.oneCell' = true := fun u hu => bools_one _ u (List.mem_of_mem_take hu)
                have one4 : ∀ u ∈ (boolsE l).drop ((i + 1) * 1), u.oneCell' = true := fun u hu => bools_one _ u (List.mem_of_mem_drop hu)
                have onem : ∀ u ∈ (#[.bool true] : Array Value).toList, u.oneCell' = true := fun u hu => by simp at hu; rcases hu with rfl; rfl
                have hslt3 := (Array.getElem?_eq_some_iff.1 hput.box).1
                have hcell3 : X3.cell? ⟨s, 1, none⟩ = some (.slice B l.length d) := by simp [World.cell?, hput.box]
                have HRS3 : Hid (RgS X3 ⟨s, 1, none⟩ (.slice B l.length d) (w.heap.size + 1) x y X3.drew) := Lib.hid ⟨⟨hcell3, g0, g1⟩, (Below.refl _ _).drew, hslt3, cell_lt g0⟩
                clear hput hone g0 g1 hX3 hA3 hc3 hlv hbx18 hc18 hf18 own18 hB18 hg18 hSl hSm own11 hB11 hg11 hSc own8 hB8 hg8 lit8
                go_wp2_with fail
                refine wp_region_K 20 (S := RgS X3 ⟨s, 1, none⟩ (.slice B l.length d) (w.heap.size + 1) x y) (by kernel_rfl) HRS3.out (fun hS => ?_)
                refine wpK_take (i := 0) (v := ?v0b) rfl (by kernel_rfl) (by kernel_rfl) (by kernel_rfl) (by kernel_rfl) (fun _ _ _ h => h) (Or.inl ⟨by kernel_rfl, ?h0b⟩) hS ?_
                case h0b => (rintro w2 ⟨⟨e0, e1, e2⟩, _⟩; go_simp; try with_reducible rfl)
                refine wpK_take (i := 2) (v := ?v2b) rfl (by kernel_rfl) (by kernel_rfl) (by kernel_rfl) (by kernel_rfl) (fun _ _ _ h => h) (Or.inl ⟨by kernel_rfl, ?h2b⟩) hS ?_
                case h2b => (rintro w2 ⟨⟨e0, e1, e2⟩, _⟩; go_simp; try with_reducible rfl)
                refine wpK_take (i := 3) (v := ?v3b) rfl (by kernel_rfl) (by kernel_rfl) (by kernel_rfl) (by kernel_rfl) (fun _ _ _ h => h) (Or.inl ⟨by kernel_rfl, ?h3b⟩) hS ?_
                case h3b => (rintro w2 ⟨⟨e0, e1, e2⟩, _⟩; go_simp; try with_reducible rfl)
                refine wpK_take (i := 4) (v := ?v4b) rfl (by kernel_rfl) (by kernel_rfl) (by kernel_rfl) (by kernel_rfl) (fun _ _ _ h => h) (Or.inl ⟨by kernel_rfl, ?h4b⟩) hS ?_
                case h4b => (rintro w2 ⟨⟨e0, e1, e2⟩, _⟩; go_simp; try with_reducible rfl)
                refine wpK_take (i := 5) (v := ?v5b) rfl (by kernel_rfl) (by kernel_rfl) (by kernel_rfl) (by kernel_rfl) (fun _ _ _ h => h) (Or.inl ⟨by kernel_rfl, ?h5b⟩) hS ?_
                case h5b => (rintro w2 ⟨⟨e0, e1, e2⟩, _⟩; go_simp; try with_reducible rfl)
                refine wpK_take (i := 6) (v := ?v6b) rfl (by kernel_rfl) (by kernel_rfl) (by kernel_rfl) (by kernel_rfl) (fun _ _ _ h => h) (Or.inl ⟨by kernel_rfl, ?h6b⟩) hS ?_
                case h6b => (rintro w2 ⟨⟨e0, e1, e2⟩, _⟩; go_simp; try with_reducible rfl)
                refine wpK_take (i := 7) (v := x3) rfl (by kernel_rfl) (by kernel_rfl) (by kernel_rfl) (by kernel_rfl) (fun _ _ _ h => h) (Or.inl ⟨by kernel_rfl, ?h7b⟩) hS ?_
                case h7b => (rintro w2 ⟨⟨e0, e1, e2⟩, _⟩; refine exec_slice (v := .slice B l.length d) (lv := none) (hv := (some (.int .i64 ((i : Int) + 1)))) _ _ 58 (.tmp 56) none (some (.tmp 57)) none rfl (by go_simp) rfl (by go_simp) rfl (hs3 _))
                refine wpK_take (i := 11) (v := ?v11b) rfl (by kernel_rfl) (by kernel_rfl) (by kernel_rfl) (by kernel_rfl) (fun _ _ _ h => h) (Or.inl ⟨by kernel_rfl, ?h11b⟩) hS ?_
                case h11b => (rintro w2 ⟨⟨e0, e1, e2⟩, _⟩; go_simp; try with_reducible rfl)
                refine wpK_take (i := 12) (v := ?v12b) rfl (by kernel_rfl) (by kernel_rfl) (by kernel_rfl) (by kernel_rfl) (fun _ _ _ h => h) (Or.inl ⟨by kernel_rfl, ?h12b⟩) hS ?_
                case h12b => (rintro w2 ⟨⟨e0, e1, e2⟩, _⟩; go_simp; try with_reducible rfl)
                refine wpK_take (i := 13) (v := ?v13b) rfl (by kernel_rfl) (by kernel_rfl) (by kernel_rfl) (by kernel_rfl) (fun _ _ _ h => h) (Or.inl ⟨by kernel_rfl, ?h13b⟩) hS ?_
                case h13b => (rintro w2 ⟨⟨e0, e1, e2⟩, _⟩; go_simp; try with_reducible rfl)
                refine wpK_take (i := 14) (v := ?v14b) rfl (by kernel_rfl) (by kernel_rfl) (by kernel_rfl) (by kernel_rfl) (fun _ _ _ h => h) (Or.inl ⟨by kernel_rfl, ?h14b⟩) hS ?_
                case h14b => (rintro w2 ⟨⟨e0, e1, e2⟩, _⟩; go_simp; try with_reducible rfl)
                refine wpK_take (i := 15) (v := ?v15b) rfl (by kernel_rfl) (by kernel_rfl) (by kernel_rfl) (by kernel_rfl) (fun _ _ _ h => h) (Or.inl ⟨by kernel_rfl, ?h15b⟩) hS ?_
                case h15b => (rintro w2 ⟨⟨e0, e1, e2⟩, _⟩; go_simp; try with_reducible rfl)
                refine wpK_take (i := 16) (v := x4) rfl (by kernel_rfl) (by kernel_rfl) (by kernel_rfl) (by kernel_rfl) (fun _ _ _ h => h) (Or.inl ⟨by kernel_rfl, ?h16b⟩) hS ?_
                case h16b => (rintro w2 ⟨⟨e0, e1, e2⟩, _⟩; refine exec_slice (v := .slice B l.length d) (lv := (some (.int .i64 ((i : Int) + 1)))) (hv := none) _ _ 58 (.tmp 65) (some (.tmp 66)) none none rfl (by go_simp) (by go_simp) rfl rfl (hs4 _))
                refine wpK_two (i := 1) (k := 9) (by kernel_rfl) rfl rfl (fun K hK => ?_) (fun K hK => ?_)
                · go_simp
                  refine hK.out _ _ (hS.alloc _) (fun hS1 => ?_); clear hK K
                  have own1 := own_empty X3.drew X3.heap.size X3.heap.size 4 1 rfl (Nat.le_refl _)
                  refine wpK_two (i := 8) (k := 9) (by kernel_rfl) rfl rfl (fun K hK => ?_) (fun K hK => ?_)
                  · refine step_app rfl (.tmp 52) (.tmp 58) 58 rfl 4 i4 _ 1 1 Try.underlying58 hk hk0 hk1 hk2 rfl (by decide) X3.heap.size _ _ _ (by go_simp) own1 hS1.2.1 hS1.2.1.size _ _ _ (by go_simp) (src3.below hS1.2.1 (Nat.le_refl _)) hl1 one3 (by unfold maxLen; omega) (by omega) ?_
                    intro v8 X8 own8 hB8 hg8
                    refine hK.out _ _ (hS1.next hB8) (fun hS8 => ?_); clear hK K
                    refine wpK_one (i := 9) (by kernel_rfl) rfl (fun K hK => ?_)
                    go_simp
                    refine hK.out _ _ (hS8.alloc _) (fun hSc => ?_); clear hK K
                    have lit8 := src_new X8 X8.heap.size rfl #[.bool true] 4
                    replace own8 := own8.alloc (.cells #[.bool true] 4)
                    refine wpK_one (i := 10) (by kernel_rfl) rfl (fun K hK => ?_)
                    refine step_app rfl (.tmp 59) (.tmp 60) 58 rfl 4 i4 _ 1 1 Try.underlying58 hk hk0 hk1 hk2 rfl (by decide) X3.heap.size _ _ _ (by go_simp) own8 hSc.2.1 hSc.2.1.size _ 1 _ (by go_simp) lit8 rfl onem (by unfold maxLen; omega) (by omega) ?_
                    intro v11 X11 own11 hB11 hg11
                    refine hK.out _ _ (hSc.next hB11) (fun hSm => ?_); clear hK K
                    refine wpK_one (i := 17) (by kernel_rfl) rfl (fun K hK => ?_)
                    refine step_app rfl (.tmp 61) (.tmp 67) 58 rfl 4 i4 _ 1 1 Try.underlying58 hk hk0 hk1 hk2 rfl (by decide) X3.heap.size _ _ _ (by go_simp) own11 hSm.2.1 hSm.2.1.size _ _ _ (by go_simp) (src4.below hSm.2.1 (Nat.le_refl _)) hl2 one4 (by unfold maxLen; omega) (by omega) ?_
                    intro v18 X18 own18 hB18 hg18
                    refine hK.out _ _ (hSm.next hB18) (fun hSl => ?_); clear hK K
                    refine wpK_one (i := 18) (by kernel_rfl) rfl (fun K hK => ?_)
                    go_simp
                    refine hK.out _ _ hSl (fun hSl => ?_); clear hK K
                    refine wpK_one (i := 19) (by kernel_rfl) rfl (fun K hK => ?_)
                    go_simp
                    refine hK.out _ _ hSl (fun hSl => ?_); clear hK K
                    rw [Nat.zero_add, List.nil_append] at own18
                    obtain ⟨A18, c18, rfl⟩ := own_shape own18
                    have hbx18 : X18.heap[s]? = some (.cells #[.slice A3 ((i + 1) + 1 + (l.length - (i + 1))) c3, .slice B l.length d] 60 (0, 0)) := (hSl.2.1.block s hslt3).trans HR3.out.box
                    have hc18 : X18.cell? ⟨s, 1, none⟩ = some (.slice B l.length d) := by simp [World.cell?, hbx18]
                    have hf18 : X18.frozen? ⟨s, 1, none⟩ = false := by simp [World.frozen?, hbx18]
                    refine wpK_last (by kernel_rfl) rfl (by kernel_rfl) (fun K hK => ?_)
                    go_simp
                    refine hK.out _ _ ?_; clear hK K
                    have hlv := row_block (w' := X18) HR3.out.ids (fun g hg => hSl.2.1.block g (row_lt HR3.out.ids hg))
                    have hput := RawAt.put_live (T := fun b => S b ∨ w.heap.size ≤ b) hbx18 hlv (own_base4 own18 (Nat.zero_le _)) HR3.out.mem HR3.out.hu (fun g hg => .inr (Nat.le_trans hwz3 (own_from own18 hg)))
                    have HFIN := Lib.hid hput
                    have HON4 := Lib.hid ((HON.out.trans ((Only.of_below hSl.2.1).mono (T := S) (fun b h1 h2 => by omega)) (fun b h _ => h)).trans ((Only.of_grown (grownBy_cell1 X18 s (.slice A18 ((i + 1) + 1 + (l.length - (i + 1))) c18))).mono (T := S) (fun b h1 _ => by injection h1 with h1; rw [← h1]; exact HSS.out)) (fun b h _ => h))
                    clear hlv hput hbx18
                    go_wp2
                    rw [← HR.out]
                    exact ⟨by rw [HOK.out], ref_ins HOK.out HAT.out hkl HFIN.out, HON4.out⟩
                  · go_simp
                    refine hK.out _ _ (hS1.alloc _) (fun hS10 => ?_); clear hK K
                    have lit1 := src_new (X3.drew.alloc (.cells #[] 4)) (X3.heap.size + 1) (by simp) #[.bool true] 4
                    replace own1 := own1.alloc (.cells #[.bool true] 4)
                    refine wpK_one (i := 8) (by kernel_rfl) rfl (fun K hK => ?_)
                    refine step_app rfl (.tmp 52) (.tmp 58) 58 rfl 4 i4 _ 1 1 Try.underlying58 hk hk0 hk1 hk2 rfl (by decide) X3.heap.size _ _ _ (by go_simp) own1 hS10.2.1 hS10.2.1.size _ _ _ (by go_simp) (src3.below hS10.2.1 (Nat.le_refl _)) hl1 one3 (by unfold maxLen; omega) (by omega) ?_
                    intro v8 X8 own8 hB8 hg8
                    refine hK.out _ _ (hS10.next hB8) (fun hSc => ?_); clear hK K
                    have lit8 := lit1.grown hg8 (by simp [Value.ownBlock])
                    refine wpK_one (i := 10) (by kernel_rfl) rfl (fun K hK => ?_)
                    refine step_app rfl (.tmp 59) (.tmp 60) 58 rfl 4 i4 _ 1 1 Try.underlying58 hk hk0 hk1 hk2 rfl (by decide) X3.heap.size _ _ _ (by go_simp) own8 hSc.2.1 hSc.2.1.size _ 1 _ (by go_simp) lit8 rfl onem (by unfold maxLen; omega) (by omega) ?_
                    intro v11 X11 own11 hB11 hg11
                    refine hK.out _ _ (hSc.next hB11) (fun hSm => ?_); clear hK K
                    refine wpK_one (i := 17) (by kernel_rfl) rfl (fun K hK => ?_)
                    refine step_app rfl (.tmp 61) (.tmp 67) 58 rfl 4 i4 _ 1 1 Try.underlying58 hk hk0 hk1 hk2 rfl (by decide) X3.heap.size _ _ _ (by go_simp) own11 hSm.2.1 hSm.2.1.size _ _ _ (by go_simp) (src4.below hSm.2.1 (Nat.le_refl _)) hl2 one4 (by unfold maxLen; omega) (by omega) ?_
                    intro v18 X18 own18 hB18 hg18
                    refine hK.out _ _ (hSm.next hB18) (fun hSl => ?_); clear hK K
                    refine wpK_one (i := 18) (by kernel_rfl) rfl (fun K hK => ?_)
                    go_simp
                    refine hK.out _ _ hSl (fun hSl => ?_); clear hK K
                    refine wpK_one (i := 19) (by kernel_rfl) rfl (fun K hK => ?_)
                    go_simp
                    refine hK.out _ _ hSl (fun hSl => ?_); clear hK K
                    rw [Nat.zero_add, List.nil_append] at own18
                    obtain ⟨A18, c18, rfl⟩ := own_shape own18
                    have hbx18 : X18.heap[s]? = some (.cells #[.slice A3 ((i + 1) + 1 + (l.length - (i + 1))) c3, .slice B l.length d] 60 (0, 0)) := (hSl.2.1.block s hslt3).trans HR3.out.box
                    have hc18 : X18.cell? ⟨s, 1, none⟩ = some (.slice B l.length d) := by simp [World.cell?, hbx18]
                    have hf18 : X18.frozen? ⟨s, 1, none⟩ = false := by simp [World.frozen?, hbx18]
                    refine wpK_last (by kernel_rfl) rfl (by kernel_rfl) (fun K hK => ?_)
                    go_simp
                    refine hK.out _ _ ?_; clear hK K
                    have hlv := row_block (w' := X18) HR3.out.ids (fun g hg => hSl.2.1.block g (row_lt HR3.out.ids hg))
                    have hput := RawAt.put_live (T := fun b => S b ∨ w.heap.size ≤ b) hbx18 hlv (own_base4 own18 (Nat.zero_le _)) HR3.out.mem HR3.out.hu (fun g hg => .inr (Nat.le_trans hwz3 (own_from own18 hg)))
                    have HFIN := Lib.hid hput
                    have HON4 := Lib.hid ((HON.out.trans ((Only.of_below hSl.2.1).mono (T := S) (fun b h1 h2 => by omega)) (fun b h _ => h)).trans ((Only.of_grown (grownBy_cell1 X18 s (.slice A18 ((i + 1) + 1 + (l.length - (i + 1))) c18))).mono (T := S) (fun b h1 _ => by injection h1 with h1; rw [← h1]; exact HSS.out)) (fun b h _ => h))
                    clear hlv hput hbx18
                    go_wp2
                    rw [← HR.out]
                    exact ⟨by rw [HOK.out], ref_ins HOK.out HAT.out hkl HFIN.out, HON4.out⟩
                · go_simp
                  refine hK.out _ _ (hS.alloc _) (fun hS10 => ?_); clear hK K
                  have lit1 := src_new X3.drew X3.heap.size rfl #[.bool true] 4
                  refine wpK_one (i := 1) (by kernel_rfl) rfl (fun K hK => ?_)
                  go_simp
                  refine hK.out _ _ (hS10.alloc _) (fun hS1 => ?_); clear hK K
                  have own1 := own_empty (X3.drew.alloc (.cells #[.bool true] 4)) X3.heap.size (X3.heap.size + 1) 4 1 (by simp) (by omega)
                  refine wpK_one (i := 8) (by kernel_rfl) rfl (fun K hK => ?_)
                  refine step_app rfl (.tmp 52) (.tmp 58) 58 rfl 4 i4 _ 1 1 Try.underlying58 hk hk0 hk1 hk2 rfl (by decide) X3.heap.size _ _ _ (by go_simp) own1 hS1.2.1 hS1.2.1.size _ _ _ (by go_simp) (src3.below hS1.2.1 (Nat.le_refl _)) hl1 one3 (by unfold maxLen; omega) (by omega) ?_
                  intro v8 X8 own8 hB8 hg8
                  refine hK.out _ _ (hS1.next hB8) (fun hSc => ?_); clear hK K
                  have lit8 := (lit1.below ((Below.refl _ _).alloc (Nat.le_refl _) _) (Nat.le_refl _)).grown hg8 (by simp [Value.ownBlock])
                  refine wpK_one (i := 10) (by kernel_rfl) rfl (fun K hK => ?_)
                  refine step_app rfl (.tmp 59) (.tmp 60) 58 rfl 4 i4 _ 1 1 Try.underlying58 hk hk0 hk1 hk2 rfl (by decide) X3.heap.size _ _ _ (by go_simp) own8 hSc.2.1 hSc.2.1.size _ 1 _ (by go_simp) lit8 rfl onem (by unfold maxLen; omega) (by omega) ?_
                  intro v11 X11 own11 hB11 hg11
                  refine hK.out _ _ (hSc.next hB11) (fun hSm => ?_); clear hK K
                  refine wpK_one (i := 17) (by kernel_rfl) rfl (fun K hK => ?_)
                  refine step_app rfl (.tmp 61) (.tmp 67) 58 rfl 4 i4 _ 1 1 Try.underlying58 hk hk0 hk1 hk2 rfl (by decide) X3.heap.size _ _ _ (by go_simp) own11 hSm.2.1 hSm.2.1.size _ _ _ (by go_simp) (src4.below hSm.2.1 (Nat.le_refl _)) hl2 one4 (by unfold maxLen; omega) (by omega) ?_
                  intro v18 X18 own18 hB18 hg18
                  refine hK.out _ _ (hSm.next hB18) (fun hSl => ?_); clear hK K
                  refine wpK_one (i := 18) (by kernel_rfl) rfl (fun K hK => ?_)
                  go_simp
                  refine hK.out _ _ hSl (fun hSl => ?_); clear hK K
                  refine wpK_one (i := 19) (by kernel_rfl) rfl (fun K hK => ?_)
                  go_simp
                  refine hK.out _ _ hSl (fun hSl => ?_); clear hK K
                  rw [Nat.zero_add, List.nil_append] at own18
                  obtain ⟨A18, c18, rfl⟩ := own_shape own18
                  have hbx18 : X18.heap[s]? = some (.cells #[.slice A3 ((i + 1) + 1 + (l.length - (i + 1))) c3, .slice B l.length d] 60 (0, 0)) := (hSl.2.1.block s hslt3).trans HR3.out.box
                  have hc18 : X18.cell? ⟨s, 1, none⟩ = some (.slice B l.length d) := by simp [World.cell?, hbx18]
                  have hf18 : X18.frozen? ⟨s, 1, none⟩ = false := by simp [World.frozen?, hbx18]
                  refine wpK_last (by kernel_rfl) rfl (by kernel_rfl) (fun K hK => ?_)
                  go_simp
                  refine hK.out _ _ ?_; clear hK K
                  have hlv := row_block (w' := X18) HR3.out.ids (fun g hg => hSl.2.1.block g (row_lt HR3.out.ids hg))
                  have hput := RawAt.put_live (T := fun b => S b ∨ w.heap.size ≤ b) hbx18 hlv (own_base4 own18 (Nat.zero_le _)) HR3.out.mem HR3.out.hu (fun g hg => .inr (Nat.le_trans hwz3 (own_from own18 hg)))
                  have HFIN := Lib.hid hput
                  have HON4 := Lib.hid ((HON.out.trans ((Only.of_below hSl.2.1).mono (T := S) (fun b h1 h2 => by omega)) (fun b h _ => h)).trans ((Only.of_grown (grownBy_cell1 X18 s (.slice A18 ((i + 1) + 1 + (l.length - (i + 1))) c18))).mono (T := S) (fun b h1 _ => by injection h1 with h1; rw [← h1]; exact HSS.out)) (fun b h _ => h))
                  clear hlv hput hbx18
                  go_wp2
                  rw [← HR.out]
                  exact ⟨by rw [HOK.out], ref_ins HOK.out HAT.out hkl HFIN.out, HON4.out⟩
            · go_simp
              refine hK.out _ _ (hS.alloc _) (fun hS10 => ?_); clear hK K
              have lit1 := src_new w2.drew w2.heap.size rfl #[.int .i64 x, .int .i64 y] 25
              refine wpK_one (i := 1) (by kernel_rfl) rfl (fun K hK => ?_)
              go_simp
              refine hK.out _ _ (hS10.alloc _) (fun hS1 => ?_); clear hK K
              have own1 := own_empty (w2.drew.alloc (.cells #[.int .i64 x, .int .i64 y] 25)) w2.heap.size (w2.heap.size + 1) 25 2 (by simp) (by omega)
              refine wpK_one (i := 8) (by kernel_rfl) rfl (fun K hK => ?_)
              refine step_app rfl (.tmp 31) (.tmp 37) 22 rfl 25 i0 _ 2 16 Try.underlying22 hj hj0 hj1 hj2 rfl (by decide) w2.heap.size _ _ _ (by go_simp) own1 hS1.2.1 hS1.2.1.size _ _ _ (by go_simp) (src1.below hS1.2.1 (Nat.le_refl _)) hl1 one1 (by unfold maxLen; omega) (by omega) ?_
              intro v8 X8 own8 hB8 hg8
              refine hK.out _ _ (hS1.next hB8) (fun hSc => ?_); clear hK K
              have lit8 := (lit1.below ((Below.refl _ _).alloc (Nat.le_refl _) _) (Nat.le_refl _)).grown hg8 (by simp [Value.ownBlock])
              refine wpK_one (i := 11) (by kernel_rfl) rfl (fun K hK => ?_)
              refine step_app rfl (.tmp 38) (.tmp 40) 22 rfl 25 i0 _ 2 16 Try.underlying22 hj hj0 hj1 hj2 rfl (by decide) w2.heap.size _ _ _ (by go_simp) own8 hSc.2.1 hSc.2.1.size _ 1 _ (by go_simp) lit8 rfl onel (by unfold maxLen; omega) (by omega) ?_
              intro v11 X11 own11 hB11 hg11
              refine hK.out _ _ (hSc.next hB11) (fun hSm => ?_); clear hK K
              refine wpK_one (i := 18) (by kernel_rfl) rfl (fun K hK => ?_)
              refine step_app rfl (.tmp 41) (.tmp 47) 22 rfl 25 i0 _ 2 16 Try.underlying22 hj hj0 hj1 hj2 rfl (by decide) w2.heap.size _ _ _ (by go_simp) own11 hSm.2.1 hSm.2.1.size _ _ _ (by go_simp) (src2.below hSm.2.1 (Nat.le_refl _)) hl2 one2 (by unfold maxLen; omega) (by omega) ?_
              intro v18 X18 own18 hB18 hg18
              refine hK.out _ _ (hSm.next hB18) (fun hSl => ?_); clear hK K
              refine wpK_one (i := 19) (by kernel_rfl) rfl (fun K hK => ?_)
              go_simp
              refine hK.out _ _ hSl (fun hSl => ?_); clear hK K
              refine wpK_one (i := 20) (by kernel_rfl) rfl (fun K hK => ?_)
              go_simp
              refine hK.out _ _ hSl (fun hSl => ?_); clear hK K
              rw [Nat.zero_add, List.nil_append] at own18
              obtain ⟨A18, c18, rfl⟩ := own_shape own18
              have hbx18 : X18.heap[s]? = some (.cells #[.slice A l.length c, .slice B l.length d] 60 (0, 0)) := (hSl.2.1.block s hslt).trans HRAW.out.box
              have hc18 : X18.cell? ⟨s, 0, none⟩ = some (.slice A l.length c) := by simp [World.cell?, hbx18]
              have hf18 : X18.frozen? ⟨s, 0, none⟩ = false := by simp [World.frozen?, hbx18]
              refine wpK_last (by kernel_rfl) rfl (by kernel_rfl) (fun K hK => ?_)
              go_simp
              refine hK.out _ _ ?_; clear hK K
              have hlv := row_block (w' := X18) HRAW.out.live (fun g hg => hSl.2.1.block g (row_lt HRAW.out.live hg))
              have hput := RawAt.put_ids (T := fun b => S b ∨ w.heap.size ≤ b) hbx18 hlv (own_base own18 (Nat.zero_le _)) (.inl HRAW.out.mem) (fun g hg => .inr (Nat.le_trans hwz (own_from own18 hg))) (fun g hg => .inl (HRAW.out.hv g hg))
              have hone := ((((Only.of_below HI2.out.below).mono (T := S) (fun b h1 h2 => by omega)).trans ((Only.of_below hSl.2.1).mono (T := S) (fun b h1 h2 => by omega)) (fun b h _ => h))).trans ((Only.of_grown (grownBy_setCell' X18 s (.slice A18 ((i + 1) + 1 + (l.length - (i + 1))) c18))).mono (T := S) (fun b h1 _ => by injection h1 with h1; rw [← h1]; exact HRAW.out.mem)) (fun b h _ => h)
              have g0 : (X18.setCell ⟨s, 0, none⟩ (.slice A18 ((i + 1) + 1 + (l.length - (i + 1))) c18)).cell? ⟨w.heap.size + 1, 0, none⟩ = some (.int .i64 x) := (World.cell?_of_block (Below.heap_setCell X18 _ _ _ (by show w.heap.size + 1 ≠ s; omega))).trans hSl.1.2.1
              have g1 : (X18.setCell ⟨s, 0, none⟩ (.slice A18 ((i + 1) + 1 + (l.length - (i + 1))) c18)).cell? ⟨w.heap.size + 1, 1, none⟩ = some (.int .i64 y) := (World.cell?_of_block (Below.heap_setCell X18 _ _ _ (by show w.heap.size + 1 ≠ s; omega))).trans hSl.1.2.2
              obtain ⟨X3, hX3⟩ : ∃ X3, X18.setCell ⟨s, 0, none⟩ (.slice A18 ((i + 1) + 1 + (l.length - (i + 1))) c18) = X3 := ⟨_, rfl⟩
              obtain ⟨A3, hA3⟩ : ∃ A3, A18 = A3 := ⟨_, rfl⟩
              obtain ⟨c3, hc3⟩ : ∃ c3, c18 = c3 := ⟨_, rfl⟩
              rw [hX3] at hput hone g0 g1 ⊢
              rw [hA3, hc3] at hput ⊢
              have HR3 := Lib.hid hput
              have HON := Lib.hid hone
              have hwz3 : w.heap.size ≤ X3.heap.size := hone.size
              obtain ⟨x3, hs3, src3⟩ := slice_pre hput.live (k := (i + 1)) (by omega) Try.underlying58 size4
              obtain ⟨x4, hs4, src4⟩ := slice_suf hput.live (k := (i + 1)) (by omega) Try.underlying58 size4
              rw [hki] at hs3 hs4
              have hl1 : ((boolsE l).take ((i + 1) * 1)).length = (i + 1) * 1 := by rw [List.length_take]; simp [boolsE]; omega
              have hl2 : ((boolsE l).drop ((i + 1) * 1)).length = (l.length - (i + 1)) * 1 := by rw [List.length_drop]; simp [boolsE]
              have one3 : ∀ u ∈ (boolsE l).take ((i + 1) * 1), u.oneCell' = true := fun u hu => bools_one _ u (List.mem_of_mem_take hu)
              have one4 : ∀ u ∈ (boolsE l).drop ((i + 1) * 1), u.oneCell' = true := fun u hu => bools_one _ u (List.mem_of_mem_drop hu)
              have onem : ∀ u ∈ (#[.bool true] : Array Value).toList, u.oneCell' = true := fun u hu => by simp at hu; rcases hu with rfl; rfl
              have hslt3 := (Array.getElem?_eq_some_iff.1 hput.box).1
              have hcell3 : X3.cell? ⟨s, 1, none⟩ = some (.slice B l.length d) := by simp [World.cell?, hput.box]
              have HRS3 : Hid (RgS X3 ⟨s, 1, none⟩ (.slice B l.length d) (w.heap.size + 1) x y X3.drew) := Lib.hid ⟨⟨hcell3, g0, g1⟩, (Below.refl _ _).drew, hslt3, cell_lt g0⟩
              clear hput hone g0 g1 hX3 hA3 hc3 hlv hbx18 hc18 hf18 own18 hB18 hg18 hSl hSm own11 hB11 hg11 hSc own8 hB8 hg8 lit8
              go_wp2_with fail
              refine wp_region_K 20 (S := RgS X3 ⟨s, 1, none⟩ (.slice B l.length d) (w.heap.size + 1) x y) (by kernel_rfl) HRS3.out (fun hS => ?_)
              refine wpK_take (i := 0) (v := ?v0b) rfl (by kernel_rfl) (by kernel_rfl) (by kernel_rfl) (by kernel_rfl) (fun _ _ _ h => h) (Or.inl ⟨by kernel_rfl, ?h0b⟩) hS ?_
              case h0b => (rintro w2 ⟨⟨e0, e1, e2⟩, _⟩; go_simp; try with_reducible rfl)
              refine wpK_take (i := 2) (v := ?v2b) rfl (by kernel_rfl) (by kernel_rfl) (by kernel_rfl) (by kernel_rfl) (fun _ _ _ h => h) (Or.inl ⟨by kernel_rfl, ?h2b⟩) hS ?_
              case h2b => (rintro w2 ⟨⟨e0, e1, e2⟩, _⟩; go_simp; try with_reducible rfl)
              refine wpK_take (i := 3) (v := ?v3b) rfl (by kernel_rfl) (by kernel_rfl) (by kernel_rfl) (by kernel_rfl) (fun _ _ _ h => h) (Or.inl ⟨by kernel_rfl, ?h3b⟩) hS ?_
              case h3b => (rintro w2 ⟨⟨e0, e1, e2⟩, _⟩; go_simp; try with_reducible rfl)
              refine wpK_take (i := 4) (v := ?v4b) rfl (by kernel_rfl) (by kernel_rfl) (by kernel_rfl) (by kernel_rfl) (fun _ _ _ h => h) (Or.inl ⟨by kernel_rfl, ?h4b⟩) hS ?_
              case h4b => (rintro w2 ⟨⟨e0, e1, e2⟩, _⟩; go_simp; try with_reducible rfl)
              refine wpK_take (i := 5) (v := ?v5b) rfl (by kernel_rfl) (by kernel_rfl) (by kernel_rfl) (by kernel_rfl) (fun _ _ _ h => h) (Or.inl ⟨by kernel_rfl, ?h5b⟩) hS ?_
              case h5b => (rintro w2 ⟨⟨e0, e1, e2⟩, _⟩; go_simp; try with_reducible rfl)
              refine wpK_take (i := 6) (v := ?v6b) rfl (by kernel_rfl) (by kernel_rfl) (by kernel_rfl) (by kernel_rfl) (fun _ _ _ h => h) (Or.inl ⟨by kernel_rfl, ?h6b⟩) hS ?_
              case h6b => (rintro w2 ⟨⟨e0, e1, e2⟩, _⟩; go_simp; try with_reducible rfl)
              refine wpK_take (i := 7) (v := x3) rfl (by kernel_rfl) (by kernel_rfl) (by kernel_rfl) (by kernel_rfl) (fun _ _ _ h => h) (Or.inl ⟨by kernel_rfl, ?h7b⟩) hS ?_
              case h7b => (rintro w2 ⟨⟨e0, e1, e2⟩, _⟩; refine exec_slice (v := .slice B l.length d) (lv := none) (hv := (some (.int .i64 ((i : Int) + 1)))) _ _ 58 (.tmp 56) none (some (.tmp 57)) none rfl (by go_simp) rfl (by go_simp) rfl (hs3 _))
              refine wpK_take (i := 11) (v := ?v11b) rfl (by kernel_rfl) (by kernel_rfl) (by kernel_rfl) (by kernel_rfl) (fun _ _ _ h => h) (Or.inl ⟨by kernel_rfl, ?h11b⟩) hS ?_
              case h11b => (rintro w2 ⟨⟨e0, e1, e2⟩, _⟩; go_simp; try with_reducible rfl)
              refine wpK_take (i := 12) (v := ?v12b) rfl (by kernel_rfl) (by kernel_rfl) (by kernel_rfl) (by kernel_rfl) (fun _ _ _ h => h) (Or.inl ⟨by kernel_rfl, ?h12b⟩) hS ?_
              case h12b => (rintro w2 ⟨⟨e0, e1, e2⟩, _⟩; go_simp; try with_reducible rfl)
              refine wpK_take (i := 13) (v := ?v13b) rfl (by kernel_rfl) (by kernel_rfl) (by kernel_rfl) (by kernel_rfl) (fun _ _ _ h => h) (Or.inl ⟨by kernel_rfl, ?h13b⟩) hS ?_
              case h13b => (rintro w2 ⟨⟨e0, e1, e2⟩, _⟩; go_simp; try with_reducible rfl)
              refine wpK_take (i := 14) (v := ?v14b) rfl (by kernel_rfl) (by kernel_rfl) (by kernel_rfl) (by kernel_rfl) (fun _ _ _ h => h) (Or.inl ⟨by kernel_rfl, ?h14b⟩) hS ?_
              case h14b => (rintro w2 ⟨⟨e0, e1, e2⟩, _⟩; go_simp; try with_reducible rfl)
              refine wpK_take (i := 15) (v := ?v15b) rfl (by kernel_rfl) (by kernel_rfl) (by kernel_rfl) (by kernel_rfl) (fun _ _ _ h => h) (Or.inl ⟨by kernel_rfl, ?h15b⟩) hS ?_
              case h15b => (rintro w2 ⟨⟨e0, e1, e2⟩, _⟩; go_simp; try with_reducible rfl)
              refine wpK_take (i := 16) (v := x4) rfl (by kernel_rfl) (by kernel_rfl) (by kernel_rfl) (by kernel_rfl) (fun _ _ _ h => h) (Or.inl ⟨by kernel_rfl, ?h16b⟩) hS ?_
              case h16b => (rintro w2 ⟨⟨e0, e1, e2⟩, _⟩; refine exec_slice (v := .slice B l.length d) (lv := (some (.int .i64 ((i : Int) + 1)))) (hv := none) _ _ 58 (.tmp 65) (some (.tmp 66)) none none rfl (by go_simp) (by go_simp) rfl rfl (hs4 _))
              refine wpK_two (i := 1) (k := 9) (by kernel_rfl) rfl rfl (fun K hK => ?_) (fun K hK => ?_)
              · go_simp
                refine hK.out _ _ (hS.alloc _) (fun hS1 => ?_); clear hK K
                have own1 := own_empty X3.drew X3.heap.size X3.heap.size 4 1 rfl (Nat.le_refl _)
                refine wpK_two (i := 8) (k := 9) (by kernel_rfl) rfl rfl (fun K hK => ?_) (fun K hK => ?_)
                · refine step_app rfl (.tmp 52) (.tmp 58) 58 rfl 4 i4 _ 1 1 Try.underlying58 hk hk0 hk1 hk2 rfl (by decide) X3.heap.size _ _ _ (by go_simp) own1 hS1.2.1 hS1.2.1.size _ _ _ (by go_simp) (src3.below hS1.2.1 (Nat.le_refl _)) hl1 one3 (by unfold maxLen; omega) (by omega) ?_
                  intro v8 X8 own8 hB8 hg8
                  refine hK.out _ _ (hS1.next hB8) (fun hS8 => ?_); clear hK K
                  refine wpK_one (i := 9) (by kernel_rfl) rfl (fun K hK => ?_)
                  go_simp
                  refine hK.out _ _ (hS8.alloc _) (fun hSc => ?_); clear hK K
                  have lit8 := src_new X8 X8.heap.size rfl #[.bool true] 4
                  replace own8 := own8.alloc (.cells #[.bool true] 4)
                  refine wpK_one (i := 10) (by kernel_rfl) rfl (fun K hK => ?_)
                  refine step_app rfl (.tmp 59) (.tmp 60) 58 rfl 4 i4 _ 1 1 Try.underlying58 hk hk0 hk1 hk2 rfl (by decide) X3.heap.size _ _ _ (by go_simp) own8 hSc.2.1 hSc.2.1.size _ 1 _ (by go_simp) lit8 rfl onem (by unfold maxLen; omega) (by omega) ?_
                  intro v11 X11 own11 hB11 hg11
                  refine hK.out _ _ (hSc.next hB11) (fun hSm => ?_); clear hK K
                  refine wpK_one (i := 17) (by kernel_rfl) rfl (fun K hK => ?_)
                  refine step_app rfl (.tmp 61) (.tmp 67) 58 rfl 4 i4 _ 1 1 Try.underlying58 hk hk0 hk1 hk2 rfl (by decide) X3.heap.size _ _ _ (by go_simp) own11 hSm.2.1 hSm.2.1.size _ _ _ (by go_simp) (src4.below hSm.2.1 (Nat.le_refl _)) hl2 one4 (by unfold maxLen; omega) (by omega) ?_
                  intro v18 X18 own18 hB18 hg18
                  refine hK.out _ _ (hSm.next hB18) (fun hSl => ?_); clear hK K
                  refine wpK_one (i := 18) (by kernel_rfl) rfl (fun K hK => ?_)
                  go_simp
                  refine hK.out _ _ hSl (fun hSl => ?_); clear hK K
                  refine wpK_one (i := 19) (by kernel_rfl) rfl (fun K hK => ?_)
                  go_simp
                  refine hK.out _ _ hSl (fun hSl => ?_); clear hK K
                  rw [Nat.zero_add, List.nil_append] at own18
                  obtain ⟨A18, c18, rfl⟩ := own_shape own18
                  have hbx18 : X18.heap[s]? = some (.cells #[.slice A3 ((i + 1) + 1 + (l.length - (i + 1))) c3, .slice B l.length d] 60 (0, 0)) := (hSl.2.1.block s hslt3).trans HR3.out.box
                  have hc18 : X18.cell? ⟨s, 1, none⟩ = some (.slice B l.length d) := by simp [World.cell?, hbx18]
                  have hf18 : X18.frozen? ⟨s, 1, none⟩ = false := by simp [World.frozen?, hbx18]
                  refine wpK_last (by kernel_rfl) rfl (by kernel_rfl) (fun K hK => ?_)
                  go_simp
                  refine hK.out _ _ ?_; clear hK K
                  have hlv := row_block (w' := X18) HR3.out.ids (fun g hg => hSl.2.1.block g (row_lt HR3.out.ids hg))
                  have hput := RawAt.put_live (T := fun b => S b ∨ w.heap.size ≤ b) hbx18 hlv (own_base4 own18 (Nat.zero_le _)) HR3.out.mem HR3.out.hu (fun g hg => .inr (Nat.le_trans hwz3 (own_from own18 hg)))
                  have HFIN := Lib.hid hput
                  have HON4 := Lib.hid ((HON.out.trans ((Only.of_below hSl.2.1).mono (T := S) (fun b h1 h2 => by omega)) (fun b h _ => h)).trans ((Only.of_grown (grownBy_cell1 X18 s (.slice A18 ((i + 1) + 1 + (l.length - (i + 1))) c18))).mono (T := S) (fun b h1 _ => by injection h1 with h1; rw [← h1]; exact HSS.out)) (fun b h _ => h))
                  clear hlv hput hbx18
                  go_wp2
                  rw [← HR.out]
                  exact ⟨by rw [HOK.out], ref_ins HOK.out HAT.out hkl HFIN.out, HON4.out⟩
                · go_simp
                  refine hK.out _ _ (hS1.alloc _) (fun hS10 => ?_); clear hK K
                  have lit1 := src_new (X3.drew.alloc (.cells #[] 4)) (X3.heap.size + 1) (by simp) #[.bool true] 4
                  replace own1 := own1.alloc (.cells #[.bool true] 4)
                  refine wpK_one (i := 8) (by kernel_rfl) rfl (fun K hK => ?_)
                  refine step_app rfl (.tmp 52) (.tmp 58) 58 rfl 4 i4 _ 1 1 Try.underlying58 hk hk0 hk1 hk2 rfl (by decide) X3.heap.size _ _ _ (by go_simp) own1 hS10.2.1 hS10.2.1.size _ _ _ (by go_simp) (src3.below hS10.2.1 (Nat.le_refl _)) hl1 one3 (by unfold maxLen; omega) (by omega) ?_
                  intro v8 X8 own8 hB8 hg8
                  refine hK.out _ _ (hS10.next hB8) (fun hSc => ?_); clear hK K
                  have lit8 := lit1.grown hg8 (by simp [Value.ownBlock])
                  refine wpK_one (i := 10) (by kernel_rfl) rfl (fun K hK => ?_)
                  refine step_app rfl (.tmp 59) (.tmp 60) 58 rfl 4 i4 _ 1 1 Try.underlying58 hk hk0 hk1 hk2 rfl (by decide) X3.heap.size _ _ _ (by go_simp) own8 hSc.2.1 hSc.2.1.size _ 1 _ (by go_simp) lit8 rfl onem (by unfold maxLen; omega) (by omega) ?_
                  intro v11 X11 own11 hB11 hg11
                  refine hK.out _ _ (hSc.next hB11) (fun hSm => ?_); clear hK K
                  refine wpK_one (i := 17) (by kernel_rfl) rfl (fun K hK => ?_)
                  refine step_app rfl (.tmp 61) (.tmp 67) 58 rfl 4 i4 _ 1 1 Try.underlying58 hk hk0 hk1 hk2 rfl (by decide) X3.heap.size _ _ _ (by go_simp) own11 hSm.2.1 hSm.2.1.size _ _ _ (by go_simp) (src4.below hSm.2.1 (Nat.le_refl _)) hl2 one4 (by unfold maxLen; omega) (by omega) ?_
                  intro v18 X18 own18 hB18 hg18
                  refine hK.out _ _ (hSm.next hB18) (fun hSl => ?_); clear hK K
                  refine wpK_one (i := 18) (by kernel_rfl) rfl (fun K hK => ?_)
                  go_simp
                  refine hK.out _ _ hSl (fun hSl => ?_); clear hK K
                  refine wpK_one (i := 19) (by kernel_rfl) rfl (fun K hK => ?_)
                  go_simp
                  refine hK.out _ _ hSl (fun hSl => ?_); clear hK K
                  rw [Nat.zero_add, List.nil_append] at own18
                  obtain ⟨A18, c18, rfl⟩ := own_shape own18
                  have hbx18 : X18.heap[s]? = some (.cells #[.slice A3 ((i + 1) + 1 + (l.length - (i + 1))) c3, .slice B l.length d] 60 (0, 0)) := (hSl.2.1.block s hslt3).trans HR3.out.box
                  have hc18 : X18.cell? ⟨s, 1, none⟩ = some (.slice B l.length d) := by simp [World.cell?, hbx18]
                  have hf18 : X18.frozen? ⟨s, 1, none⟩ = false := by simp [World.frozen?, hbx18]
                  refine wpK_last (by kernel_rfl) rfl (by kernel_rfl) (fun K hK => ?_)
                  go_simp
                  refine hK.out _ _ ?_; clear hK K
                  have hlv := row_block (w' := X18) HR3.out.ids (fun g hg => hSl.2.1.block g (row_lt HR3.out.ids hg))
                  have hput := RawAt.put_live (T := fun b => S b ∨ w.heap.size ≤ b) hbx18 hlv (own_base4 own18 (Nat.zero_le _)) HR3.out.mem HR3.out.hu (fun g hg => .inr (Nat.le_trans hwz3 (own_from own18 hg)))
                  have HFIN := Lib.hid hput
                  have HON4 := Lib.hid ((HON.out.trans ((Only.of_below hSl.2.1).mono (T := S) (fun b h1 h2 => by omega)) (fun b h _ => h)).trans ((Only.of_grown (grownBy_cell1 X18 s (.slice A18 ((i + 1) + 1 + (l.length - (i + 1))) c18))).mono (T := S) (fun b h1 _ => by injection h1 with h1; rw [← h1]; exact HSS.out)) (fun b h _ => h))
                  clear hlv hput hbx18
                  go_wp2
                  rw [← HR.out]
                  exact ⟨by rw [HOK.out], ref_ins HOK.out HAT.out hkl HFIN.out, HON4.out⟩
              · go_simp
                refine hK.out _ _ (hS.alloc _) (fun hS10 => ?_); clear hK K
                have lit1 := src_new X3.drew X3.heap.size rfl #[.bool true] 4
                refine wpK_one (i := 1) (by kernel_rfl) rfl (fun K hK => ?_)
                go_simp
                refine hK.out _ _ (hS10.alloc _) (fun hS1 => ?_); clear hK K
                have own1 := own_empty (X3.drew.alloc (.cells #[.bool true] 4)) X3.heap.size (X3.heap.size + 1) 4 1 (by simp) (by omega)
                refine wpK_one (i := 8) (by kernel_rfl) rfl (fun K hK => ?_)
                refine step_app rfl (.tmp 52) (.tmp 58) 58 rfl 4 i4 _ 1 1 Try.underlying58 hk hk0 hk1 hk2 rfl (by decide) X3.heap.size _ _ _ (by go_simp) own1 hS1.2.1 hS1.2.1.size _ _ _ (by go_simp) (src3.below hS1.2.1 (Nat.le_refl _)) hl1 one3 (by unfold maxLen; omega) (by omega) ?_
                intro v8 X8 own8 hB8 hg8
                refine hK.out _ _ (hS1.next hB8) (fun hSc => ?_); clear hK K
                have lit8 := (lit1.below ((Below.refl _ _).alloc (Nat.le_refl _) _) (Nat.le_refl _)).grown hg8 (by simp [Value.ownBlock])
                refine wpK_one (i := 10) (by kernel_rfl) rfl (fun K hK => ?_)
                refine step_app rfl (.tmp 59) (.tmp 60) 58 rfl 4 i4 _ 1 1 Try.underlying58 hk hk0 hk1 hk2 rfl (by decide) X3.heap.size _ _ _ (by go_simp) own8 hSc.2.1 hSc.2.1.size _ 1 _ (by go_simp) lit8 rfl onem (by unfold maxLen; omega) (by omega) ?_
                intro v11 X11 own11 hB11 hg11
                refine hK.out _ _ (hSc.next hB11) (fun hSm => ?_); clear hK K
                refine wpK_one (i := 17) (by kernel_rfl) rfl (fun K hK => ?_)
                refine step_app rfl (.tmp 61) (.tmp 67) 58 rfl 4 i4 _ 1 1 Try.underlying58 hk hk0 hk1 hk2 rfl (by decide) X3.heap.size _ _ _ (by go_simp) own11 hSm.2.1 hSm.2.1.size _ _ _ (by go_simp) (src4.below hSm.2.1 (Nat.le_refl _)) hl2 one4 (by unfold maxLen; omega) (by omega) ?_
                intro v18 X18 own18 hB18 hg18
                refine hK.out _ _ (hSm.next hB18) (fun hSl => ?_); clear hK K
                refine wpK_one (i := 18) (by kernel_rfl) rfl (fun K hK => ?_)
                go_simp
                refine hK.out _ _ hSl (fun hSl => ?_); clear hK K
                refine wpK_one (i := 19) (by kernel_rfl) rfl (fun K hK => ?_)
                go_simp
                refine hK.out _ _ hSl (fun hSl => ?_); clear hK K
                rw [Nat.zero_add, List.nil_append] at own18
                obtain ⟨A18, c18, rfl⟩ := own_shape own18
                have hbx18 : X18.heap[s]? = some (.cells #[.slice A3 ((i + 1) + 1 + (l.length - (i + 1))) c3, .slice B l.length d] 60 (0, 0)) := (hSl.2.1.block s hslt3).trans HR3.out.box
                have hc18 : X18.cell? ⟨s, 1, none⟩ = some (.slice B l.length d) := by simp [World.cell?, hbx18]
                have hf18 : X18.frozen? ⟨s, 1, none⟩ = false := by simp [World.frozen?, hbx18]
                refine wpK_last (by kernel_rfl) rfl (by kernel_rfl) (fun K hK => ?_)
                go_simp
                refine hK.out _ _ ?_; clear hK K
                have hlv := row_block (w' := X18) HR3.out.ids (fun g hg => hSl.2.1.block g (row_lt HR3.out.ids hg))
                have hput := RawAt.put_live (T := fun b => S b ∨ w.heap.size ≤ b) hbx18 hlv (own_base4 own18 (Nat.zero_le _)) HR3.out.mem HR3.out.hu (fun g hg => .inr (Nat.le_trans hwz3 (own_from own18 hg)))
                have HFIN := Lib.hid hput
                have HON4 := Lib.hid ((HON.out.trans ((Only.of_below hSl.2.1).mono (T := S) (fun b h1 h2 => by omega)) (fun b h _ => h)).trans ((Only.of_grown (grownBy_cell1 X18 s (.slice A18 ((i + 1) + 1 + (l.length - (i + 1))) c18))).mono (T := S) (fun b h1 _ => by injection h1 with h1; rw [← h1]; exact HSS.out)) (fun b h _ => h))
                clear hlv hput hbx18
                go_wp2
                rw [← HR.out]
                exact ⟨by rw [HOK.out], ref_ins HOK.out HAT.out hkl HFIN.out, HON4.out⟩
      · obtain ⟨k0, hk0'⟩ : ∃ k0 : Nat, k0 = 0 := ⟨0, rfl⟩
        have HAT := Lib.hid (show insAt l (b1, b2) = k0 by unfold insAt; rw [Z2.out, hk0']; rfl)
        have HK0 := Lib.hid hk0'
        have hk0l : k0 ≤ l.length := by omega
        clear hk0'
        obtain ⟨u, v, hraw⟩ := HI1.out.ax
        obtain ⟨A, c, rfl⟩ := own_shape hraw.ids
        obtain ⟨B, d, rfl⟩ := own_shape hraw.live
        have HRAW := Lib.hid hraw
        have hcell : w1.cell? ⟨s, 0, none⟩ = some (.slice A l.length c) := by simp [World.cell?, hraw.box]
        clear hraw
        by_cases hfull : 1000 ≤ l.length
        · have hf1 : (1000 : Int) ≤ ↑l.length := by omega
          go_wp2
          rw [← HR.out]
          exact HI1.out.out (show insR l (b1, b2) (x, y) = 5 by unfold insR; rw [Z1.out, HA.out, Z2.out]; simp [hfull]) (by decide)
        · have hf1 : ¬ (1000 : Int) ≤ ↑l.length := by omega
          have HOK := Lib.hid (show insR l (b1, b2) (x, y) = 0 by unfold insR; rw [Z1.out, HA.out, Z2.out]; simp [hfull])
          have hraw := HRAW.out
          obtain ⟨x1, hs1, src1⟩ := slice_pre hraw.ids (k := k0) (by omega) Try.underlying22 size25
          obtain ⟨x2, hs2, src2⟩ := slice_suf hraw.ids (k := k0) (by omega) Try.underlying22 size25
          have hl1 : ((flat2 (l.map (·.1))).take (k0 * 2)).length = k0 * 2 := by rw [List.length_take, flat2_len, List.length_map]; omega
          have hl2 : ((flat2 (l.map (·.1))).drop (k0 * 2)).length = (l.length - k0) * 2 := by rw [List.length_drop, flat2_len, List.length_map]; omega
          have one1 : ∀ u ∈ (flat2 (l.map (·.1))).take (k0 * 2), u.oneCell' = true := fun u hu => flat2_one _ u (List.mem_of_mem_take hu)
          have one2 : ∀ u ∈ (flat2 (l.map (·.1))).drop (k0 * 2), u.oneCell' = true := fun u hu => flat2_one _ u (List.mem_of_mem_drop hu)
          have onel : ∀ u ∈ (#[.int .i64 x, .int .i64 y] : Array Value).toList, u.oneCell' = true := fun u hu => by simp at hu; rcases hu with rfl | rfl <;> rfl
          have hki : ((k0 : Nat) : Int) = 0 := (by rw [HK0.out]; rfl); rw [hki] at hs1 hs2; clear hki
          have hslt := (Array.getElem?_eq_some_iff.1 hraw.box).1
          have hgl := HI1.out.x.2.2
          have hRS : RgS w1 ⟨s, 0, none⟩ (.slice A l.length c) (w.heap.size + 1) x y w1.drew := ⟨⟨hcell, HI1.out.x.1, HI1.out.x.2.1⟩, (Below.refl _ _).drew, hslt, hgl⟩
          have HRS := Lib.hid hRS
          clear hRS hraw
          have hwz : w.heap.size ≤ w1.heap.size := HI1.out.below.size
          have HSS := Lib.hid HRAW.out.mem
          have hkl : k0 ≤ l.length := by omega
          go_wp2_with fail
          refine wp_region_K 21 (S := RgS w1 ⟨s, 0, none⟩ (.slice A l.length c) (w.heap.size + 1) x y) (by kernel_rfl) HRS.out (fun hS => ?_)
          refine wpK_take (i := 0) (v := ?v0c) rfl (by kernel_rfl) (by kernel_rfl) (by kernel_rfl) (by kernel_rfl) (fun _ _ _ h => h) (Or.inl ⟨by kernel_rfl, ?h0c⟩) hS ?_
          case h0c => (rintro w2 ⟨⟨e0, e1, e2⟩, _⟩; go_simp; try with_reducible rfl)
          refine wpK_take (i := 2) (v := ?v2c) rfl (by kernel_rfl) (by kernel_rfl) (by kernel_rfl) (by kernel_rfl) (fun _ _ _ h => h) (Or.inl ⟨by kernel_rfl, ?h2c⟩) hS ?_
          case h2c => (rintro w2 ⟨⟨e0, e1, e2⟩, _⟩; go_simp; try with_reducible rfl)
          refine wpK_take (i := 3) (v := ?v3c) rfl (by kernel_rfl) (by kernel_rfl) (by kernel_rfl) (by kernel_rfl) (fun _ _ _ h => h) (Or.inl ⟨by kernel_rfl, ?h3c⟩) hS ?_
          case h3c => (rintro w2 ⟨⟨e0, e1, e2⟩, _⟩; go_simp; try with_reducible rfl)
          refine wpK_take (i := 4) (v := ?v4c) rfl (by kernel_rfl) (by kernel_rfl) (by kernel_rfl) (by kernel_rfl) (fun _ _ _ h => h) (Or.inl ⟨by kernel_rfl, ?h4c⟩) hS ?_
          case h4c => (rintro w2 ⟨⟨e0, e1, e2⟩, _⟩; go_simp; try with_reducible rfl)
          refine wpK_take (i := 5) (v := ?v5c) rfl (by kernel_rfl) (by kernel_rfl) (by kernel_rfl) (by kernel_rfl) (fun _ _ _ h => h) (Or.inl ⟨by kernel_rfl, ?h5c⟩) hS ?_
          case h5c => (rintro w2 ⟨⟨e0, e1, e2⟩, _⟩; go_simp; try with_reducible rfl)
          refine wpK_take (i := 6) (v := ?v6c) rfl (by kernel_rfl) (by kernel_rfl) (by kernel_rfl) (by kernel_rfl) (fun _ _ _ h => h) (Or.inl ⟨by kernel_rfl, ?h6c⟩) hS ?_
          case h6c => (rintro w2 ⟨⟨e0, e1, e2⟩, _⟩; go_simp; try with_reducible rfl)
          refine wpK_take (i := 7) (v := x1) rfl (by kernel_rfl) (by kernel_rfl) (by kernel_rfl) (by kernel_rfl) (fun _ _ _ h => h) (Or.inl ⟨by kernel_rfl, ?h7c⟩) hS ?_
          case h7c => (rintro w2 ⟨⟨e0, e1, e2⟩, _⟩; refine exec_slice (v := .slice A l.length c) (lv := none) (hv := (some (.int .i64 (0)))) _ _ 22 (.tmp 35) none (some (.tmp 36)) none rfl (by go_simp) rfl (by go_simp) rfl (hs1 _))
          refine wpK_take (i := 9) (v := ?v9c) rfl (by kernel_rfl) (by kernel_rfl) (by kernel_rfl) (by kernel_rfl) (fun _ _ _ h => h) (Or.inl ⟨by kernel_rfl, ?h9c⟩) hS ?_
          case h9c => (rintro w2 ⟨⟨e0, e1, e2⟩, _⟩; go_simp; try with_reducible rfl)
          refine wpK_take (i := 12) (v := ?v12c) rfl (by kernel_rfl) (by kernel_rfl) (by kernel_rfl) (by kernel_rfl) (fun _ _ _ h => h) (Or.inl ⟨by kernel_rfl, ?h12c⟩) hS ?_
          case h12c => (rintro w2 ⟨⟨e0, e1, e2⟩, _⟩; go_simp; try with_reducible rfl)
          refine wpK_take (i := 13) (v := ?v13c) rfl (by kernel_rfl) (by kernel_rfl) (by kernel_rfl) (by kernel_rfl) (fun _ _ _ h => h) (Or.inl ⟨by kernel_rfl, ?h13c⟩) hS ?_
          case h13c => (rintro w2 ⟨⟨e0, e1, e2⟩, _⟩; go_simp; try with_reducible rfl)
          refine wpK_take (i := 14) (v := ?v14c) rfl (by kernel_rfl) (by kernel_rfl) (by kernel_rfl) (by kernel_rfl) (fun _ _ _ h => h) (Or.inl ⟨by kernel_rfl, ?h14c⟩) hS ?_
          case h14c => (rintro w2 ⟨⟨e0, e1, e2⟩, _⟩; go_simp; try with_reducible rfl)
          refine wpK_take (i := 15) (v := ?v15c) rfl (by kernel_rfl) (by kernel_rfl) (by kernel_rfl) (by kernel_rfl) (fun _ _ _ h => h) (Or.inl ⟨by kernel_rfl, ?h15c⟩) hS ?_
          case h15c => (rintro w2 ⟨⟨e0, e1, e2⟩, _⟩; go_simp; try with_reducible rfl)
          refine wpK_take (i := 16) (v := ?v16c) rfl (by kernel_rfl) (by kernel_rfl) (by kernel_rfl) (by kernel_rfl) (fun _ _ _ h => h) (Or.inl ⟨by kernel_rfl, ?h16c⟩) hS ?_
          case h16c => (rintro w2 ⟨⟨e0, e1, e2⟩, _⟩; go_simp; try with_reducible rfl)
          refine wpK_take (i := 17) (v := x2) rfl (by kernel_rfl) (by kernel_rfl) (by kernel_rfl) (by kernel_rfl) (fun _ _ _ h => h) (Or.inl ⟨by kernel_rfl, ?h17c⟩) hS ?_
          case h17c => (rintro w2 ⟨⟨e0, e1, e2⟩, _⟩; refine exec_slice (v := .slice A l.length c) (lv := (some (.int .i64 (0)))) (hv := none) _ _ 22 (.tmp 45) (some (.tmp 46)) none none rfl (by go_simp) (by go_simp) rfl rfl (hs2 _))
          refine wpK_two (i := 1) (k := 10) (by kernel_rfl) rfl rfl (fun K hK => ?_) (fun K hK => ?_)
          · go_simp
            refine hK.out _ _ (hS.alloc _) (fun hS1 => ?_); clear hK K
            have own1 := own_empty w1.drew w1.heap.size w1.heap.size 25 2 rfl (Nat.le_refl _)
            refine wpK_two (i := 8) (k := 10) (by kernel_rfl) rfl rfl (fun K hK => ?_) (fun K hK => ?_)
            · refine step_app rfl (.tmp 31) (.tmp 37) 22 rfl 25 i0 _ 2 16 Try.underlying22 hj hj0 hj1 hj2 rfl (by decide) w1.heap.size _ _ _ (by go_simp) own1 hS1.2.1 hS1.2.1.size _ _ _ (by go_simp) (src1.below hS1.2.1 (Nat.le_refl _)) hl1 one1 (by unfold maxLen; omega) (by omega) ?_
              intro v8 X8 own8 hB8 hg8
              refine hK.out _ _ (hS1.next hB8) (fun hS8 => ?_); clear hK K
              refine wpK_one (i := 10) (by kernel_rfl) rfl (fun K hK => ?_)
              go_simp
              refine hK.out _ _ (hS8.alloc _) (fun hSc => ?_); clear hK K
              have lit8 := src_new X8 X8.heap.size rfl #[.int .i64 x, .int .i64 y] 25
              replace own8 := own8.alloc (.cells #[.int .i64 x, .int .i64 y] 25)
              refine wpK_one (i := 11) (by kernel_rfl) rfl (fun K hK => ?_)
              refine step_app rfl (.tmp 38) (.tmp 40) 22 rfl 25 i0 _ 2 16 Try.underlying22 hj hj0 hj1 hj2 rfl (by decide) w1.heap.size _ _ _ (by go_simp) own8 hSc.2.1 hSc.2.1.size _ 1 _ (by go_simp) lit8 rfl onel (by unfold maxLen; omega) (by omega) ?_
              intro v11 X11 own11 hB11 hg11
              refine hK.out _ _ (hSc.next hB11) (fun hSm => ?_); clear hK K
              refine wpK_one (i := 18) (by kernel_rfl) rfl (fun K hK => ?_)
              refine step_app rfl (.tmp 41) (.tmp 47) 22 rfl 25 i0 _ 2 16 Try.underlying22 hj hj0 hj1 hj2 rfl (by decide) w1.heap.size _ _ _ (by go_simp) own11 hSm.2.1 hSm.2.1.size _ _ _ (by go_simp) (src2.below hSm.2.1 (Nat.le_refl _)) hl2 one2 (by unfold maxLen; omega) (by omega) ?_
              intro v18 X18 own18 hB18 hg18
              refine hK.out _ _ (hSm.next hB18) (fun hSl => ?_); clear hK K
              refine wpK_one (i := 19) (by kernel_rfl) rfl (fun K hK => ?_)
              go_simp
              refine hK.out _ _ hSl (fun hSl => ?_); clear hK K
              refine wpK_one (i := 20) (by kernel_rfl) rfl (fun K hK => ?_)
              go_simp
              refine hK.out _ _ hSl (fun hSl => ?_); clear hK K
              rw [Nat.zero_add, List.nil_append] at own18
              obtain ⟨A18, c18, rfl⟩ := own_shape own18
              have hbx18 : X18.heap[s]? = some (.cells #[.slice A l.length c, .slice B l.length d] 60 (0, 0)) := (hSl.2.1.block s hslt).trans HRAW.out.box
              have hc18 : X18.cell? ⟨s, 0, none⟩ = some (.slice A l.length c) := by simp [World.cell?, hbx18]
              have hf18 : X18.frozen? ⟨s, 0, none⟩ = false := by simp [World.frozen?, hbx18]
              refine wpK_last (by kernel_rfl) rfl (by kernel_rfl) (fun K hK => ?_)
              go_simp
              refine hK.out _ _ ?_; clear hK K
              have hlv := row_block (w' := X18) HRAW.out.live (fun g hg => hSl.2.1.block g (row_lt HRAW.out.live hg))
              have hput := RawAt.put_ids (T := fun b => S b ∨ w.heap.size ≤ b) hbx18 hlv (own_base own18 (Nat.zero_le _)) (.inl HRAW.out.mem) (fun g hg => .inr (Nat.le_trans hwz (own_from own18 hg))) (fun g hg => .inl (HRAW.out.hv g hg))
              have hone := ((((Only.of_below HI1.out.below).mono (T := S) (fun b h1 h2 => by omega)).trans ((Only.of_below hSl.2.1).mono (T := S) (fun b h1 h2 => by omega)) (fun b h _ => h))).trans ((Only.of_grown (grownBy_setCell' X18 s (.slice A18 (k0 + 1 + (l.length - k0)) c18))).mono (T := S) (fun b h1 _ => by injection h1 with h1; rw [← h1]; exact HRAW.out.mem)) (fun b h _ => h)
              have g0 : (X18.setCell ⟨s, 0, none⟩ (.slice A18 (k0 + 1 + (l.length - k0)) c18)).cell? ⟨w.heap.size + 1, 0, none⟩ = some (.int .i64 x) := (World.cell?_of_block (Below.heap_setCell X18 _ _ _ (by show w.heap.size + 1 ≠ s; omega))).trans hSl.1.2.1
              have g1 : (X18.setCell ⟨s, 0, none⟩ (.slice A18 (k0 + 1 + (l.length - k0)) c18)).cell? ⟨w.heap.size + 1, 1, none⟩ = some (.int .i64 y) := (World.cell?_of_block (Below.heap_setCell X18 _ _ _ (by show w.heap.size + 1 ≠ s; omega))).trans hSl.1.2.2
              obtain ⟨X3, hX3⟩ : ∃ X3, X18.setCell ⟨s, 0, none⟩ (.slice A18 (k0 + 1 + (l.length - k0)) c18) = X3 := ⟨_, rfl⟩
              obtain ⟨A3, hA3⟩ : ∃ A3, A18 = A3 := ⟨_, rfl⟩
              obtain ⟨c3, hc3⟩ : ∃ c3, c18 = c3 := ⟨_, rfl⟩
              rw [hX3] at hput hone g0 g1 ⊢
              rw [hA3, hc3] at hput ⊢
              have HR3 := Lib.hid hput
              have HON := Lib.hid hone
              have hwz3 : w.heap.size ≤ X3.heap.size := hone.size
              obtain ⟨x3, hs3, src3⟩ := slice_pre hput.live (k := k0) (by omega) Try.underlying58 size4
              obtain ⟨x4, hs4, src4⟩ := slice_suf hput.live (k := k0) (by omega) Try.underlying58 size4
              have hki : ((k0 : Nat) : Int) = 0 := (by rw [HK0.out]; rfl); rw [hki] at hs3 hs4; clear hki
              have hl1 : ((boolsE l).take (k0 * 1)).length = k0 * 1 := by rw [List.length_take]; simp [boolsE]; omega
              have hl2 : ((boolsE l).drop (k0 * 1)).length = (l.length - k0) * 1 := by rw [List.length_drop]; simp [boolsE]
              have one3 : ∀ u ∈ (boolsE l).take (k0 * 1), u.oneCell' = true := fun u hu => bools_one _ u (List.mem_of_mem_take hu)
              have one4 : ∀ u ∈ (boolsE l).drop (k0 * 1), u.oneCell' = true := fun u hu => bools_one _ u (List.mem_of_mem_drop hu)
              have onem : ∀ u ∈ (#[.bool true] : Array Value).toList, u.oneCell' = true := fun u hu => by simp at hu; rcases hu with rfl; rfl
              have hslt3 := (Array.getElem?_eq_some_iff.1 hput.box).1
              have hcell3 : X3.cell? ⟨s, 1, none⟩ = some (.slice B l.length d) := by simp [World.cell?, hput.box]
              have HRS3 : Hid (RgS X3 ⟨s, 1, none⟩ (.slice B l.length d) (w.heap.size + 1) x y X3.drew) := Lib.hid ⟨⟨hcell3, g0, g1⟩, (Below.refl _ _).drew, hslt3, cell_lt g0⟩
              clear hput hone g0 g1 hX3 hA3 hc3 hlv hbx18 hc18 hf18 own18 hB18 hg18 hSl hSm own11 hB11 hg11 hSc own8 hB8 hg8 lit8
              go_wp2_with fail
              refine wp_region_K 20 (S := RgS X3 ⟨s, 1, none⟩ (.slice B l.length d) (w.heap.size + 1) x y) (by kernel_rfl) HRS3.out (fun hS => ?_)
              refine wpK_take (i := 0) (v := ?v0d) rfl (by kernel_rfl) (by kernel_rfl) (by kernel_rfl) (by kernel_rfl) (fun _ _ _ h => h) (Or.inl ⟨by kernel_rfl, ?h0d⟩) hS ?_
              case h0d => (rintro w2 ⟨⟨e0, e1, e2⟩, _⟩; go_simp; try with_reducible rfl)
              refine wpK_take (i := 2) (v := ?v2d) rfl (by kernel_rfl) (by kernel_rfl) (by kernel_rfl) (by kernel_rfl) (fun _ _ _ h => h) (Or.inl ⟨by kernel_rfl, ?h2d⟩) hS ?_
              case h2d => (rintro w2 ⟨⟨e0, e1, e2⟩, _⟩; go_simp; try with_reducible rfl)
              refine wpK_take (i := 3) (v := ?v3d) rfl (by kernel_rfl) (by kernel_rfl) (by kernel_rfl) (by kernel_rfl) (fun _ _ _ h => h) (Or.inl ⟨by kernel_rfl, ?h3d⟩) hS ?_
              case h3d => (rintro w2 ⟨⟨e0, e1, e2⟩, _⟩; go_simp; try with_reducible rfl)
              refine wpK_take (i := 4) (v := ?v4d) rfl (by kernel_rfl) (by kernel_rfl) (by kernel_rfl) (by kernel_rfl) (fun _ _ _ h => h) (Or.inl ⟨by kernel_rfl, ?h4d⟩) hS ?_
              case h4d => (rintro w2 ⟨⟨e0, e1, e2⟩, _⟩; go_simp; try with_reducible rfl)
              refine wpK_take (i := 5) (v := ?v5d) rfl (by kernel_rfl) (by kernel_rfl) (by kernel_rfl) (by kernel_rfl) (fun _ _ _ h => h) (Or.inl ⟨by kernel_rfl, ?h5d⟩) hS ?_
              case h5d => (rintro w2 ⟨⟨e0, e1, e2⟩, _⟩; go_simp; try with_reducible rfl)
              refine wpK_take (i := 6) (v := ?v6d) rfl (by kernel_rfl) (by kernel_rfl) (by kernel_rfl) (by kernel_rfl) (fun _ _ _ h => h) (Or.inl ⟨by kernel_rfl, ?h6d⟩) hS ?_
              case h6d => (rintro w2 ⟨⟨e0, e1, e2⟩, _⟩; go_simp; try with_reducible rfl)
              refine wpK_take (i := 7) (v := x3) rfl (by kernel_rfl) (by kernel_rfl) (by kernel_rfl) (by kernel_rfl) (fun _ _ _ h => h) (Or.inl ⟨by kernel_rfl, ?h7d⟩) hS ?_
              case h7d => (rintro w2 ⟨⟨e0, e1, e2⟩, _⟩; refine exec_slice (v := .slice B l.length d) (lv := none) (hv := (some (.int .i64 (0)))) _ _ 58 (.tmp 56) none (some (.tmp 57)) none rfl (by go_simp) rfl (by go_simp) rfl (hs3 _))
              refine wpK_take (i := 11) (v := ?v11d) rfl (by kernel_rfl) (by kernel_rfl) (by kernel_rfl) (by kernel_rfl) (fun _ _ _ h => h) (Or.inl ⟨by kernel_rfl, ?h11d⟩) hS ?_
              case h11d => (rintro w2 ⟨⟨e0, e1, e2⟩, _⟩; go_simp; try with_reducible rfl)
              refine wpK_take (i := 12) (v := ?v12d) rfl (by kernel_rfl) (by kernel_rfl) (by kernel_rfl) (by kernel_rfl) (fun _ _ _ h => h) (Or.inl ⟨by kernel_rfl, ?h12d⟩) hS ?_
              case h12d => (rintro w2 ⟨⟨e0, e1, e2⟩, _⟩; go_simp; try with_reducible rfl)
              refine wpK_take (i := 13) (v := ?v13d) rfl (by kernel_rfl) (by kernel_rfl) (by kernel_rfl) (by kernel_rfl) (fun _ _ _ h => h) (Or.inl ⟨by kernel_rfl, ?h13d⟩) hS ?_
              case h13d => (rintro w2 ⟨⟨e0, e1, e2⟩, _⟩; go_simp; try with_reducible rfl)
              refine wpK_take (i := 14) (v := ?v14d) rfl (by kernel_rfl) (by kernel_rfl) (by kernel_rfl) (by kernel_rfl) (fun _ _ _ h => h) (Or.inl ⟨by kernel_rfl, ?h14d⟩) hS ?_
              case h14d => (rintro w2 ⟨⟨e0, e1, e2⟩, _⟩; go_simp; try with_reducible rfl)
              refine wpK_take (i := 15) (v := ?v15d) rfl (by kernel_rfl) (by kernel_rfl) (by kernel_rfl) (by kernel_rfl) (fun _ _ _ h => h) (Or.inl ⟨by kernel_rfl, ?h15d⟩) hS ?_
              case h15d => (rintro w2 ⟨⟨e0, e1, e2⟩, _⟩; go_simp; try with_reducible rfl)
              refine wpK_take (i := 16) (v := x4) rfl (by kernel_rfl) (by kernel_rfl) (by kernel_rfl) (by kernel_rfl) (fun _ _ _ h => h) (Or.inl ⟨by kernel_rfl, ?h16d⟩) hS ?_
              case h16d => (rintro w2 ⟨⟨e0, e1, e2⟩, _⟩; refine exec_slice (v := .slice B l.length d) (lv := (some (.int .i64 (0)))) (hv := none) _ _ 58 (.tmp 65) (some (.tmp 66)) none none rfl (by go_simp) (by go_simp) rfl rfl (hs4 _))
              refine wpK_two (i := 1) (k := 9) (by kernel_rfl) rfl rfl (fun K hK => ?_) (fun K hK => ?_)
              · go_simp
                refine hK.out _ _ (hS.alloc _) (fun hS1 => ?_); clear hK K
                have own1 := own_empty X3.drew X3.heap.size X3.heap.size 4 1 rfl (Nat.le_refl _)
                refine wpK_two (i := 8) (k := 9) (by kernel_rfl) rfl rfl (fun K hK => ?_) (fun K hK => ?_)
                · refine step_app rfl (.tmp 52) (.tmp 58) 58 rfl 4 i4 _ 1 1 Try.underlying58 hk hk0 hk1 hk2 rfl (by decide) X3.heap.size _ _ _ (by go_simp) own1 hS1.2.1 hS1.2.1.size _ _ _ (by go_simp) (src3.below hS1.2.1 (Nat.le_refl _)) hl1 one3 (by unfold maxLen; omega) (by omega) ?_
                  intro v8 X8 own8 hB8 hg8
                  refine hK.out _ _ (hS1.next hB8) (fun hS8 => ?_); clear hK K
                  refine wpK_one (i := 9) (by kernel_rfl) rfl (fun K hK => ?_)
                  go_simp
                  refine hK.out _ _ (hS8.alloc _) (fun hSc => ?_); clear hK K
                  have lit8 := src_new X8 X8.heap.size rfl #[.bool true] 4
                  replace own8 := own8.alloc (.cells #[.bool true] 4)
                  refine wpK_one (i := 10) (by kernel_rfl) rfl (fun K hK => ?_)
                  refine step_app rfl (.tmp 59) (.tmp 60) 58 rfl 4 i4 _ 1 1 Try.underlying58 hk hk0 hk1 hk2 rfl (by decide) X3.heap.size _ _ _ (by go_simp) own8 hSc.2.1 hSc.2.1.size _ 1 _ (by go_simp) lit8 rfl onem (by unfold maxLen; omega) (by omega) ?_
                  intro v11 X11 own11 hB11 hg11
                  refine hK.out _ _ (hSc.next hB11) (fun hSm => ?_); clear hK K
                  refine wpK_one (i := 17) (by kernel_rfl) rfl (fun K hK => ?_)
                  refine step_app rfl (.tmp 61) (.tmp 67) 58 rfl 4 i4 _ 1 1 Try.underlying58 hk hk0 hk1 hk2 rfl (by decide) X3.heap.size _ _ _ (by go_simp) own11 hSm.2.1 hSm.2.1.size _ _ _ (by go_simp) (src4.below hSm.2.1 (Nat.le_refl _)) hl2 one4 (by unfold maxLen; omega) (by omega) ?_
                  intro v18 X18 own18 hB18 hg18
                  refine hK.out _ _ (hSm.next hB18) (fun hSl => ?_); clear hK K
                  refine wpK_one (i := 18) (by kernel_rfl) rfl (fun K hK => ?_)
                  go_simp
                  refine hK.out _ _ hSl (fun hSl => ?_); clear hK K
                  refine wpK_one (i := 19) (by kernel_rfl) rfl (fun K hK => ?_)
                  go_simp
                  refine hK.out _ _ hSl (fun hSl => ?_); clear hK K
                  rw [Nat.zero_add, List.nil_append] at own18
                  obtain ⟨A18, c18, rfl⟩ := own_shape own18
                  have hbx18 : X18.heap[s]? = some (.cells #[.slice A3 (k0 + 1 + (l.length - k0)) c3, .slice B l.length d] 60 (0, 0)) := (hSl.2.1.block s hslt3).trans HR3.out.box
                  have hc18 : X18.cell? ⟨s, 1, none⟩ = some (.slice B l.length d) := by simp [World.cell?, hbx18]
                  have hf18 : X18.frozen? ⟨s, 1, none⟩ = false := by simp [World.frozen?, hbx18]
                  refine wpK_last (by kernel_rfl) rfl (by kernel_rfl) (fun K hK => ?_)
                  go_simp
                  refine hK.out _ _ ?_; clear hK K
                  have hlv := row_block (w' := X18) HR3.out.ids (fun g hg => hSl.2.1.block g (row_lt HR3.out.ids hg))
                  have hput := RawAt.put_live (T := fun b => S b ∨ w.heap.size ≤ b) hbx18 hlv (own_base4 own18 (Nat.zero_le _)) HR3.out.mem HR3.out.hu (fun g hg => .inr (Nat.le_trans hwz3 (own_from own18 hg)))
                  have HFIN := Lib.hid hput
                  have HON4 := Lib.hid ((HON.out.trans ((Only.of_below hSl.2.1).mono (T := S) (fun b h1 h2 => by omega)) (fun b h _ => h)).trans ((Only.of_grown (grownBy_cell1 X18 s (.slice A18 (k0 + 1 + (l.length - k0)) c18))).mono (T := S) (fun b h1 _ => by injection h1 with h1; rw [← h1]; exact HSS.out)) (fun b h _ => h))
                  clear hlv hput hbx18
                  go_wp2
                  rw [← HR.out]
                  exact ⟨by rw [HOK.out], ref_ins HOK.out HAT.out hkl HFIN.out, HON4.out⟩
                · go_simp
                  refine hK.out _ _ (hS1.alloc _) (fun hS10 => ?_); clear hK K
                  have lit1 := src_new (X3.drew.alloc (.cells #[] 4)) (X3.heap.size + 1) (by simp) #[.bool true] 4
                  replace own1 := own1.alloc (.cells #[.bool true] 4)
                  refine wpK_one (i := 8) (by kernel_rfl) rfl (fun K hK => ?_)
                  refine step_app rfl (.tmp 52) (.tmp 58) 58 rfl 4 i4 _ 1 1 Try.underlying58 hk hk0 hk1 hk2 rfl (by decide) X3.heap.size _ _ _ (by go_simp) own1 hS10.2.1 hS10.2.1.size _ _ _ (by go_simp) (src3.below hS10.2.1 (Nat.le_refl _)) hl1 one3 (by unfold maxLen; omega) (by omega) ?_
                  intro v8 X8 own8 hB8 hg8
                  refine hK.out _ _ (hS10.next hB8) (fun hSc => ?_); clear hK K
                  have lit8 := lit1.grown hg8 (by simp [Value.ownBlock])
                  refine wpK_one (i := 10) (by kernel_rfl) rfl (fun K hK => ?_)
                  refine step_app rfl (.tmp 59) (.tmp 60) 58 rfl 4 i4 _ 1 1 Try.underlying58 hk hk0 hk1 hk2 rfl (by decide) X3.heap.size _ _ _ (by go_simp) own8 hSc.2.1 hSc.2.1.size _ 1 _ (by go_simp) lit8 rfl onem (by unfold maxLen; omega) (by omega) ?_
                  intro v11 X11 own11 hB11 hg11
                  refine hK.out _ _ (hSc.next hB11) (fun hSm => ?_); clear hK K
                  refine wpK_one (i := 17) (by kernel_rfl) rfl (fun K hK => ?_)
                  refine step_app rfl (.tmp 61) (.tmp 67) 58 rfl 4 i4 _ 1 1 Try.underlying58 hk hk0 hk1 hk2 rfl (by decide) X3.heap.size _ _ _ (by go_simp) own11 hSm.2.1 hSm.2.1.size _ _ _ (by go_simp) (src4.below hSm.2.1 (Nat.le_refl _)) hl2 one4 (by unfold maxLen; omega) (by omega) ?_
                  intro v18 X18 own18 hB18 hg18
                  refine hK.out _ _ (hSm.next hB18) (fun hSl => ?_); clear hK K
                  refine wpK_one (i := 18) (by kernel_rfl) rfl (fun K hK => ?_)
                  go_simp
                  refine hK.out _ _ hSl (fun hSl => ?_); clear hK K
                  refine wpK_one (i := 19) (by kernel_rfl) rfl (fun K hK => ?_)
                  go_simp
                  refine hK.out _ _ hSl (fun hSl => ?_); clear hK K
                  rw [Nat.zero_add, List.nil_append] at own18
                  obtain ⟨A18, c18, rfl⟩ := own_shape own18
                  have hbx18 : X18.heap[s]? = some (.cells #[.slice A3 (k0 + 1 + (l.length - k0)) c3, .slice B l.length d] 60 (0, 0)) := (hSl.2.1.block s hslt3).trans HR3.out.box
                  have hc18 : X18.cell? ⟨s, 1, none⟩ = some (.slice B l.length d) := by simp [World.cell?, hbx18]
                  have hf18 : X18.frozen? ⟨s, 1, none⟩ = false := by simp [World.frozen?, hbx18]
                  refine wpK_last (by kernel_rfl) rfl (by kernel_rfl) (fun K hK => ?_)
                  go_simp
                  refine hK.out _ _ ?_; clear hK K
                  have hlv := row_block (w' := X18) HR3.out.ids (fun g hg => hSl.2.1.block g (row_lt HR3.out.ids hg))
                  have hput := RawAt.put_live (T := fun b => S b ∨ w.heap.size ≤ b) hbx18 hlv (own_base4 own18 (Nat.zero_le _)) HR3.out.mem HR3.out.hu (fun g hg => .inr (Nat.le_trans hwz3 (own_from own18 hg)))
                  have HFIN := Lib.hid hput
                  have HON4 := Lib.hid ((HON.out.trans ((Only.of_below hSl.2.1).mono (T := S) (fun b h1 h2 => by omega)) (fun b h _ => h)).trans ((Only.of_grown (grownBy_cell1 X18 s (.slice A18 (k0 + 1 + (l.length - k0)) c18))).mono (T := S) (fun b h1 _ => by injection h1 with h1; rw [← h1]; exact HSS.out)) (fun b h _ => h))
                  clear hlv hput hbx18
                  go_wp2
                  rw [← HR.out]
                  exact ⟨by rw [HOK.out], ref_ins HOK.out HAT.out hkl HFIN.out, HON4.out⟩
              · go_simp
                refine hK.out _ _ (hS.alloc _) (fun hS10 => ?_); clear hK K
                have lit1 := src_new X3.drew X3.heap.size rfl #[.bool true] 4
                refine wpK_one (i := 1) (by kernel_rfl) rfl (fun K hK => ?_)
                go_simp
                refine hK.out _ _ (hS10.alloc _) (fun hS1 => ?_); clear hK K
                have own1 := own_empty (X3.drew.alloc (.cells #[.bool true] 4)) X3.heap.size (X3.heap.size + 1) 4 1 (by simp) (by omega)
                refine wpK_one (i := 8) (by kernel_rfl) rfl (fun K hK => ?_)
                refine step_app rfl (.tmp 52) (.tmp 58) 58 rfl 4 i4 _ 1 1 Try.underlying58 hk hk0 hk1 hk2 rfl (by decide) X3.heap.size _ _ _ (by go_simp) own1 hS1.2.1 hS1.2.1.size _ _ _ (by go_simp) (src3.below hS1.2.1 (Nat.le_refl _)) hl1 one3 (by unfold maxLen; omega) (by omega) ?_
                intro v8 X8 own8 hB8 hg8
                refine hK.out _ _ (hS1.next hB8) (fun hSc => ?_); clear hK K
                have lit8 := (lit1.below ((Below.refl _ _).alloc (Nat.le_refl _) _) (Nat.le_refl _)).grown hg8 (by simp [Value.ownBlock])
                refine wpK_one (i := 10) (by kernel_rfl) rfl (fun K hK => ?_)
                refine step_app rfl (.tmp 59) (.tmp 60) 58 rfl 4 i4 _ 1 1 Try.underlying58 hk hk0 hk1 hk2 rfl (by decide) X3.heap.size _ _ _ (by go_simp) own8 hSc.2.1 hSc.2.1.size _ 1 _ (by go_simp) lit8 rfl onem (by unfold maxLen; omega) (by omega) ?_
                intro v11 X11 own11 hB11 hg11
                refine hK.out _ _ (hSc.next hB11) (fun hSm => ?_); clear hK K
                refine wpK_one (i := 17) (by kernel_rfl) rfl (fun K hK => ?_)
                refine step_app rfl (.tmp 61) (.tmp 67) 58 rfl 4 i4 _ 1 1 Try.underlying58 hk hk0 hk1 hk2 rfl (by decide) X3.heap.size _ _ _ (by go_simp) own11 hSm.2.1 hSm.2.1.size _ _ _ (by go_simp) (src4.below hSm.2.1 (Nat.le_refl _)) hl2 one4 (by unfold maxLen; omega) (by omega) ?_
                intro v18 X18 own18 hB18 hg18
                refine hK.out _ _ (hSm.next hB18) (fun hSl => ?_); clear hK K
                refine wpK_one (i := 18) (by kernel_rfl) rfl (fun K hK => ?_)
                go_simp
                refine hK.out _ _ hSl (fun hSl => ?_); clear hK K
                refine wpK_one (i := 19) (by kernel_rfl) rfl (fun K hK => ?_)
                go_simp
                refine hK.out _ _ hSl (fun hSl => ?_); clear hK K
                rw [Nat.zero_add, List.nil_append] at own18
                obtain ⟨A18, c18, rfl⟩ := own_shape own18
                have hbx18 : X18.heap[s]? = some (.cells #[.slice A3 (k0 + 1 + (l.length - k0)) c3, .slice B l.length d] 60 (0, 0)) := (hSl.2.1.block s hslt3).trans HR3.out.box
                have hc18 : X18.cell? ⟨s, 1, none⟩ = some (.slice B l.length d) := by simp [World.cell?, hbx18]
                have hf18 : X18.frozen? ⟨s, 1, none⟩ = false := by simp [World.frozen?, hbx18]
                refine wpK_last (by kernel_rfl) rfl (by kernel_rfl) (fun K hK => ?_)
                go_simp
                refine hK.out _ _ ?_; clear hK K
                have hlv := row_block (w' := X18) HR3.out.ids (fun g hg => hSl.2.1.block g (row_lt HR3.out.ids hg))
                have hput := RawAt.put_live (T := fun b => S b ∨ w.heap.size ≤ b) hbx18 hlv (own_base4 own18 (Nat.zero_le _)) HR3.out.mem HR3.out.hu (fun g hg => .inr (Nat.le_trans hwz3 (own_from own18 hg)))
                have HFIN := Lib.hid hput
                have HON4 := Lib.hid ((HON.out.trans ((Only.of_below hSl.2.1).mono (T := S) (fun b h1 h2 => by omega)) (fun b h _ => h)).trans ((Only.of_grown (grownBy_cell1 X18 s (.slice A18 (k0 + 1 + (l.length - k0)) c18))).mono (T := S) (fun b h1 _ => by injection h1 with h1; rw [← h1]; exact HSS.out)) (fun b h _ => h))
                clear hlv hput hbx18
                go_wp2
                rw [← HR.out]
                exact ⟨by rw [HOK.out], ref_ins HOK.out HAT.out hkl HFIN.out, HON4.out⟩
            · go_simp
              refine hK.out _ _ (hS1.alloc _) (fun hS10 => ?_); clear hK K
              have lit1 := src_new (w1.drew.alloc (.cells #[] 25)) (w1.heap.size + 1) (by simp) #[.int .i64 x, .int .i64 y] 25
              replace own1 := own1.alloc (.cells #[.int .i64 x, .int .i64 y] 25)
              refine wpK_one (i := 8) (by kernel_rfl) rfl (fun K hK => ?_)
              refine step_app rfl (.tmp 31) (.tmp 37) 22 rfl 25 i0 _ 2 16 Try.underlying22 hj hj0 hj1 hj2 rfl (by decide) w1.heap.size _ _ _ (by go_simp) own1 hS10.2.1 hS10.2.1.size _ _ _ (by go_simp) (src1.below hS10.2.1 (Nat.le_refl _)) hl1 one1 (by unfold maxLen; omega) (by omega) ?_
              intro v8 X8 own8 hB8 hg8
              refine hK.out _ _ (hS10.next hB8) (fun hSc => ?_); clear hK K
              have lit8 := lit1.grown hg8 (by simp [Value.ownBlock])
              refine wpK_one (i := 11) (by kernel_rfl) rfl (fun K hK => ?_)
              refine step_app rfl (.tmp 38) (.tmp 40) 22 rfl 25 i0 _ 2 16 Try.underlying22 hj hj0 hj1 hj2 rfl (by decide) w1.heap.size _ _ _ (by go_simp) own8 hSc.2.1 hSc.2.1.size _ 1 _ (by go_simp) lit8 rfl onel (by unfold maxLen; omega) (by omega) ?_
              intro v11 X11 own11 hB11 hg11
              refine hK.out _ _ (hSc.next hB11) (fun hSm => ?_); clear hK K
              refine wpK_one (i := 18) (by kernel_rfl) rfl (fun K hK => ?_)
              refine step_app rfl (.tmp 41) (.tmp 47) 22 rfl 25 i0 _ 2 16 Try.underlying22 hj hj0 hj1 hj2 rfl (by decide) w1.heap.size _ _ _ (by go_simp) own11 hSm.2.1 hSm.2.1.size _ _ _ (by go_simp) (src2.below hSm.2.1 (Nat.le_refl _)) hl2 one2 (by unfold maxLen; omega) (by omega) ?_
              intro v18 X18 own18 hB18 hg18
              refine hK.out _ _ (hSm.next hB18) (fun hSl => ?_); clear hK K
              refine wpK_one (i := 19) (by kernel_rfl) rfl (fun K hK => ?_)
              go_simp
              refine hK.out _ _ hSl (fun hSl => ?_); clear hK K
              refine wpK_one (i := 20) (by kernel_rfl) rfl (fun K hK => ?_)
              go_simp
              refine hK.out _ _ hSl (fun hSl => ?_); clear hK K
              rw [Nat.zero_add, List.nil_append] at own18
              obtain ⟨A18, c18, rfl⟩ := own_shape own18
              have hbx18 : X18.heap[s]? = some (.cells #[.slice A l.length c, .slice B l.length d] 60 (0, 0)) := (hSl.2.1.block s hslt).trans HRAW.out.box
              have hc18 : X18.cell? ⟨s, 0, none⟩ = some (.slice A l.length c) := by simp [World.cell?, hbx18]
              have hf18 : X18.frozen? ⟨s, 0, none⟩ = false := by simp [World.frozen?, hbx18]
              refine wpK_last (by kernel_rfl) rfl (by kernel_rfl) (fun K hK => ?_)
              go_simp
              refine hK.out _ _ ?_; clear hK K
              have hlv := row_block (w' := X18) HRAW.out.live (fun g hg => hSl.2.1.block g (row_lt HRAW.out.live hg))
              have hput := RawAt.put_ids (T := fun b => S b ∨ w.heap.size ≤ b) hbx18 hlv (own_base own18 (Nat.zero_le _)) (.inl HRAW.out.mem) (fun g hg => .inr (Nat.le_trans hwz (own_from own18 hg))) (fun g hg => .inl (HRAW.out.hv g hg))
              have hone := ((((Only.of_below HI1.out.below).mono (T := S) (fun b h1 h2 => by omega)).trans ((Only.of_below hSl.2.1).mono (T := S) (fun b h1 h2 => by omega)) (fun b h _ => h))).trans ((Only.of_grown (grownBy_setCell' X18 s (.slice A18 (k0 + 1 + (l.length - k0)) c18))).mono (T := S) (fun b h1 _ => by injection h1 with h1; rw [← h1]; exact HRAW.out.mem)) (fun b h _ => h)
              have g0 : (X18.setCell ⟨s, 0, none⟩ (.slice A18 (k0 + 1 + (l.length - k0)) c18)).cell? ⟨w.heap.size + 1, 0, none⟩ = some (.int .i64 x) := (World.cell?_of_block (Below.heap_setCell X18 _ _ _ (by show w.heap.size + 1 ≠ s; omega))).trans hSl.1.2.1
              have g1 : (X18.setCell ⟨s, 0, none⟩ (.slice A18 (k0 + 1 + (l.length - k0)) c18)).cell? ⟨w.heap.size + 1, 1, none⟩ = some (.int .i64 y) := (World.cell?_of_block (Below.heap_setCell X18 _ _ _ (by show w.heap.size + 1 ≠ s; omega))).trans hSl.1.2.2
              obtain ⟨X3, hX3⟩ : ∃ X3, X18.setCell ⟨s, 0, none⟩ (.slice A18 (k0 + 1 + (l.length - k0)) c18) = X3 := ⟨_, rfl⟩
              obtain ⟨A3, hA3⟩ : ∃ A3, A18 = A3 := ⟨_, rfl⟩
              obtain ⟨c3, hc3⟩ : ∃ c3, c18 = c3 := ⟨_, rfl⟩
              rw [hX3] at hput hone g0 g1 ⊢
              rw [hA3, hc3] at hput ⊢
              have HR3 := Lib.hid hput
              have HON := Lib.hid hone
              have hwz3 : w.heap.size ≤ X3.heap.size := hone.size
              obtain ⟨x3, hs3, src3⟩ := slice_pre hput.live (k := k0) (by omega) Try.underlying58 size4
              obtain ⟨x4, hs4, src4⟩ := slice_suf hput.live (k := k0) (by omega) Try.underlying58 size4
              have hki : ((k0 : Nat) : Int) = 0 := (by rw [HK0.out]; rfl); rw [hki] at hs3 hs4; clear hki
              have hl1 : ((boolsE l).take (k0 * 1)).length = k0 * 1 := by rw [List.length_take]; simp [boolsE]; omega
              have hl2 : ((boolsE l).drop (k0 * 1)).length = (l.length - k0) * 1 := by rw [List.length_drop]; simp [boolsE]
              have one3 : ∀ u ∈ (boolsE l).take (k0 * 1), u.oneCell' = true := fun u hu => bools_one _ u (List.mem_of_mem_take hu)
              have one4 : ∀ u ∈ (boolsE l).drop (k0 * 1), u.oneCell' = true := fun u hu => bools_one _ u (List.mem_of_mem_drop hu)
              have onem : ∀ u ∈ (#[.bool true] : Array Value).toList, u.oneCell' = true := fun u hu => by simp at hu; rcases hu with rfl; rfl
              have hslt3 := (Array.getElem?_eq_some_iff.1 hput.box).1
              have hcell3 : X3.cell? ⟨s, 1, none⟩ = some (.slice B l.length d) := by simp [World.cell?, hput.box]
              have HRS3 : Hid (RgS X3 ⟨s, 1, none⟩ (.slice B l.length d) (w.heap.size + 1) x y X3.drew) := Lib.hid ⟨⟨hcell3, g0, g1⟩, (Below.refl _ _).drew, hslt3, cell_lt g0⟩
              clear hput hone g0 g1 hX3 hA3 hc3 hlv hbx18 hc18 hf18 own18 hB18 hg18 hSl hSm own11 hB11 hg11 hSc own8 hB8 hg8 lit8
              go_wp2_with fail
              refine wp_region_K 20 (S := RgS X3 ⟨s, 1, none⟩ (.slice B l.length d) (w.heap.size + 1) x y) (by kernel_rfl) HRS3.out (fun hS => ?_)
              refine wpK_take (i := 0) (v := ?v0d) rfl (by kernel_rfl) (by kernel_rfl) (by kernel_rfl) (by kernel_rfl) (fun _ _ _ h => h) (Or.inl ⟨by kernel_rfl, ?h0d⟩) hS ?_
              case h0d => (rintro w2 ⟨⟨e0, e1, e2⟩, _⟩; go_simp; try with_reducible rfl)
              refine wpK_take (i := 2) (v := ?v2d) rfl (by kernel_rfl) (by kernel_rfl) (by kernel_rfl) (by kernel_rfl) (fun _ _ _ h => h) (Or.inl ⟨by kernel_rfl, ?h2d⟩) hS ?_
              case h2d => (rintro w2 ⟨⟨e0, e1, e2⟩, _⟩; go_simp; try with_reducible rfl)
              refine wpK_take (i := 3) (v := ?v3d) rfl (by kernel_rfl) (by kernel_rfl) (by kernel_rfl) (by kernel_rfl) (fun _ _ _ h => h) (Or.inl ⟨by kernel_rfl, ?h3d⟩) hS ?_
              case h3d => (rintro w2 ⟨⟨e0, e1, e2⟩, _⟩; go_simp; try with_reducible rfl)
              refine wpK_take (i := 4) (v := ?v4d) rfl (by kernel_rfl) (by kernel_rfl) (by kernel_rfl) (by kernel_rfl) (fun _ _ _ h => h) (Or.inl ⟨by kernel_rfl, ?h4d⟩) hS ?_
              case h4d => (rintro w2 ⟨⟨e0, e1, e2⟩, _⟩; go_simp; try with_reducible rfl)
              refine wpK_take (i := 5) (v := ?v5d) rfl (by kernel_rfl) (by kernel_rfl) (by kernel_rfl) (by kernel_rfl) (fun _ _ _ h => h) (Or.inl ⟨by kernel_rfl, ?h5d⟩) hS ?_
              case h5d => (rintro w2 ⟨⟨e0, e1, e2⟩, _⟩; go_simp; try with_reducible rfl)
              refine wpK_take (i := 6) (v := ?v6d) rfl (by kernel_rfl) (by kernel_rfl) (by kernel_rfl) (by kernel_rfl) (fun _ _ _ h => h) (Or.inl ⟨by kernel_rfl, ?h6d⟩) hS ?_
              case h6d => (rintro w2 ⟨⟨e0, e1, e2⟩, _⟩; go_simp; try with_reducible rfl)
              refine wpK_take (i := 7) (v := x3) rfl (by kernel_rfl) (by kernel_rfl) (by kernel_rfl) (by kernel_rfl) (fun _ _ _ h => h) (Or.inl ⟨by kernel_rfl, ?h7d⟩) hS ?_
              case h7d => (rintro w2 ⟨⟨e0, e1, e2⟩, _⟩; refine exec_slice (v := .slice B l.length d) (lv := none) (hv := (some (.int .i64 (0)))) _ _ 58 (.tmp 56) none (some (.tmp 57)) none rfl (by go_simp) rfl (by go_simp) rfl (hs3 _))
              refine wpK_take (i := 11) (v := ?v11d) rfl (by kernel_rfl) (by kernel_rfl) (by kernel_rfl) (by kernel_rfl) (fun _ _ _ h => h) (Or.inl ⟨by kernel_rfl, ?h11d⟩) hS ?_
              case h11d => (rintro w2 ⟨⟨e0, e1, e2⟩, _⟩; go_simp; try with_reducible rfl)
              refine wpK_take (i := 12) (v := ?v12d) rfl (by kernel_rfl) (by kernel_rfl) (by kernel_rfl) (by kernel_rfl) (fun _ _ _ h => h) (Or.inl ⟨by kernel_rfl, ?h12d⟩) hS ?_
              case h12d => (rintro w2 ⟨⟨e0, e1, e2⟩, _⟩; go_simp; try with_reducible rfl)
              refine wpK_take (i := 13) (v := ?v13d) rfl (by kernel_rfl) (by kernel_rfl) (by kernel_rfl) (by kernel_rfl) (fun _ _ _ h => h) (Or.inl ⟨by kernel_rfl, ?h13d⟩) hS ?_
              case h13d => (rintro w2 ⟨⟨e0, e1, e2⟩, _⟩; go_simp; try with_reducible rfl)
              refine wpK_take (i := 14) (v := ?v14d) rfl (by kernel_rfl) (by kernel_rfl) (by kernel_rfl) (by kernel_rfl) (fun _ _ _ h => h) (Or.inl ⟨by kernel_rfl, ?h14d⟩) hS ?_
              case h14d => (rintro w2 ⟨⟨e0, e1, e2⟩, _⟩; go_simp; try with_reducible rfl)
              refine wpK_take (i := 15) (v := ?v15d) rfl (by kernel_rfl) (by kernel_rfl) (by kernel_rfl) (by kernel_rfl) (fun _ _ _ h => h) (Or.inl ⟨by kernel_rfl, ?h15d⟩) hS ?_
              case h15d => (rintro w2 ⟨⟨e0, e1, e2⟩, _⟩; go_simp; try with_reducible rfl)
              refine wpK_take (i := 16) (v := x4) rfl (by kernel_rfl) (by kernel_rfl) (by kernel_rfl) (by kernel_rfl) (fun _ _ _ h => h) (Or.inl ⟨by kernel_rfl, ?h16d⟩) hS ?_
              case h16d => (rintro w2 ⟨⟨e0, e1, e2⟩, _⟩; refine exec_slice (v := .slice B l.length d) (lv := (some (.int .i64 (0)))) (hv := none) _ _ 58 (.tmp 65) (some (.tmp 66)) none none rfl (by go_simp) (by go_simp) rfl rfl (hs4 _))
              refine wpK_two (i := 1) (k := 9) (by kernel_rfl) rfl rfl (fun K hK => ?_) (fun K hK => ?_)
              · go_simp
                refine hK.out _ _ (hS.alloc _) (fun hS1 => ?_); clear hK K
                have own1 := own_empty X3.drew X3.heap.size X3.heap.size 4 1 rfl (Nat.le_refl _)
                refine wpK_two (i := 8) (k := 9) (by kernel_rfl) rfl rfl (fun K hK => ?_) (fun K hK => ?_)
                · refine step_app rfl (.tmp 52) (.tmp 58) 58 rfl 4 i4 _ 1 1 Try.underlying58 hk hk0 hk1 hk2 rfl (by decide) X3.heap.size _ _ _ (by go_simp) own1 hS1.2.1 hS1.2.1.size _ _ _ (by go_simp) (src3.below hS1.2.1 (Nat.le_refl _)) hl1 one3 (by unfold maxLen; omega) (by omega) ?_
                  intro v8 X8 own8 hB8 hg8
                  refine hK.out _ _ (hS1.next hB8) (fun hS8 => ?_); clear hK K
                  refine wpK_one (i := 9) (by kernel_rfl) rfl (fun K hK => ?_)
                  go_simp
                  refine hK.out _ _ (hS8.alloc _) (fun hSc => ?_); clear hK K
                  have lit8 := src_new X8 X8.heap.size rfl #[.bool true] 4
                  replace own8 := own8.alloc (.cells #[.bool true] 4)
                  refine wpK_one (i := 10) (by kernel_rfl) rfl (fun K hK => ?_)
                  refine step_app rfl (.tmp 59) (.tmp 60) 58 rfl 4 i4 _ 1 1 Try.underlying58 hk hk0 hk1 hk2 rfl (by decide) X3.heap.size _ _ _ (by go_simp) own8 hSc.2.1 hSc.2.1.size _ 1 _ (by go_simp) lit8 rfl onem (by unfold maxLen; omega) (by omega) ?_
                  intro v11 X11 own11 hB11 hg11
                  refine hK.out _ _ (hSc.next hB11) (fun hSm => ?_); clear hK K
                  refine wpK_one (i := 17) (by kernel_rfl) rfl (fun K hK => ?_)
                  refine step_app rfl (.tmp 61) (.tmp 67) 58 rfl 4 i4 _ 1 1 Try.underlying58 hk hk0 hk1 hk2 rfl (by decide) X3.heap.size _ _ _ (by go_simp) own11 hSm.2.1 hSm.2.1.size _ _ _ (by go_simp) (src4.below hSm.2.1 (Nat.le_refl _)) hl2 one4 (by unfold maxLen; omega) (by omega) ?_
                  intro v18 X18 own18 hB18 hg18
                  refine hK.out _ _ (hSm.next hB18) (fun hSl => ?_); clear hK K
                  refine wpK_one (i := 18) (by kernel_rfl) rfl (fun K hK => ?_)
                  go_simp
                  refine hK.out _ _ hSl (fun hSl => ?_); clear hK K
                  refine wpK_one (i := 19) (by kernel_rfl) rfl (fun K hK => ?_)
                  go_simp
                  refine hK.out _ _ hSl (fun hSl => ?_); clear hK K
                  rw [Nat.zero_add, List.nil_append] at own18
                  obtain ⟨A18, c18, rfl⟩ := own_shape own18
                  have hbx18 : X18.heap[s]? = some (.cells #[.slice A3 (k0 + 1 + (l.length - k0)) c3, .slice B l.length d] 60 (0, 0)) := (hSl.2.1.block s hslt3).trans HR3.out.box
                  have hc18 : X18.cell? ⟨s, 1, none⟩ = some (.slice B l.length d) := by simp [World.cell?, hbx18]
                  have hf18 : X18.frozen? ⟨s, 1, none⟩ = false := by simp [World.frozen?, hbx18]
                  refine wpK_last (by kernel_rfl) rfl (by kernel_rfl) (fun K hK => ?_)
                  go_simp
                  refine hK.out _ _ ?_; clear hK K
                  have hlv := row_block (w' := X18) HR3.out.ids (fun g hg => hSl.2.1.block g (row_lt HR3.out.ids hg))
                  have hput := RawAt.put_live (T := fun b => S b ∨ w.heap.size ≤ b) hbx18 hlv (own_base4 own18 (Nat.zero_le _)) HR3.out.mem HR3.out.hu (fun g hg => .inr (Nat.le_trans hwz3 (own_from own18 hg)))
                  have HFIN := Lib.hid hput
                  have HON4 := Lib.hid ((HON.out.trans ((Only.of_below hSl.2.1).mono (T := S) (fun b h1 h2 => by omega)) (fun b h _ => h)).trans ((Only.of_grown (grownBy_cell1 X18 s (.slice A18 (k0 + 1 + (l.length - k0)) c18))).mono (T := S) (fun b h1 _ => by injection h1 with h1; rw [← h1]; exact HSS.out)) (fun b h _ => h))
                  clear hlv hput hbx18
                  go_wp2
                  rw [← HR.out]
                  exact ⟨by rw [HOK.out], ref_ins HOK.out HAT.out hkl HFIN.out, HON4.out⟩
                · go_simp
                  refine hK.out _ _ (hS1.alloc _) (fun hS10 => ?_); clear hK K
                  have lit1 := src_new (X3.drew.alloc (.cells #[] 4)) (X3.heap.size + 1) (by simp) #[.bool true] 4
                  replace own1 := own1.alloc (.cells #[.bool true] 4)
                  refine wpK_one (i := 8) (by kernel_rfl) rfl (fun K hK => ?_)
                  refine step_app rfl (.tmp 52) (.tmp 58) 58 rfl 4 i4 _ 1 1 Try.underlying58 hk hk0 hk1 hk2 rfl (by decide) X3.heap.size _ _ _ (by go_simp) own1 hS10.2.1 hS10.2.1.size _ _ _ (by go_simp) (src3.below hS10.2.1 (Nat.le_refl _)) hl1 one3 (by unfold maxLen; omega) (by omega) ?_
                  intro v8 X8 own8 hB8 hg8
                  refine hK.out _ _ (hS10.next hB8) (fun hSc => ?_); clear hK K
                  have lit8 := lit1.grown hg8 (by simp [Value.ownBlock])
                  refine wpK_one (i := 10) (by kernel_rfl) rfl (fun K hK => ?_)
                  refine step_app rfl (.tmp 59) (.tmp 60) 58 rfl 4 i4 _ 1 1 Try.underlying58 hk hk0 hk1 hk2 rfl (by decide) X3.heap.size _ _ _ (by go_simp) own8 hSc.2.1 hSc.2.1.size _ 1 _ (by go_simp) lit8 rfl onem (by unfold maxLen; omega) (by omega) ?_
                  intro v11 X11 own11 hB11 hg11
                  refine hK.out _ _ (hSc.next hB11) (fun hSm => ?_); clear hK K
                  refine wpK_one (i := 17) (by kernel_rfl) rfl (fun K hK => ?_)
                  refine step_app rfl (.tmp 61) (.tmp 67) 58 rfl 4 i4 _ 1 1 Try.underlying58 hk hk0 hk1 hk2 rfl (by decide) X3.heap.size _ _ _ (by go_simp) own11 hSm.2.1 hSm.2.1.size _ _ _ (by go_simp) (src4.below hSm.2.1 (Nat.le_refl _)) hl2 one4 (by unfold maxLen; omega) (by omega) ?_
                  intro v18 X18 own18 hB18 hg18
                  refine hK.out _ _ (hSm.next hB18) (fun hSl => ?_); clear hK K
                  refine wpK_one (i := 18) (by kernel_rfl) rfl (fun K hK => ?_)
                  go_simp
                  refine hK.out _ _ hSl (fun hSl => ?_); clear hK K
                  refine wpK_one (i := 19) (by kernel_rfl) rfl (fun K hK => ?_)
                  go_simp
                  refine hK.out _ _ hSl (fun hSl => ?_); clear hK K
                  rw [Nat.zero_add, List.nil_append] at own18
                  obtain ⟨A18, c18, rfl⟩ := own_shape own18
                  have hbx18 : X18.heap[s]? = some (.cells #[.slice A3 (k0 + 1 + (l.length - k0)) c3, .slice B l.length d] 60 (0, 0)) := (hSl.2.1.block s hslt3).trans HR3.out.box
                  have hc18 : X18.cell? ⟨s, 1, none⟩ = some (.slice B l.length d) := by simp [World.cell?, hbx18]
                  have hf18 : X18.frozen? ⟨s, 1, none⟩ = false := by simp [World.frozen?, hbx18]
                  refine wpK_last (by kernel_rfl) rfl (by kernel_rfl) (fun K hK => ?_)
                  go_simp
                  refine hK.out _ _ ?_; clear hK K
                  have hlv := row_block (w' := X18) HR3.out.ids (fun g hg => hSl.2.1.block g (row_lt HR3.out.ids hg))
                  have hput := RawAt.put_live (T := fun b => S b ∨ w.heap.size ≤ b) hbx18 hlv (own_base4 own18 (Nat.zero_le _)) HR3.out.mem HR3.out.hu (fun g hg => .inr (Nat.le_trans hwz3 (own_from own18 hg)))
                  have HFIN := Lib.hid hput
                  have HON4 := Lib.hid ((HON.out.trans ((Only.of_below hSl.2.1).mono (T := S) (fun b h1 h2 => by omega)) (fun b h _ => h)).trans ((Only.of_grown (grownBy_cell1 X18 s (.slice A18 (k0 + 1 + (l.length - k0)) c18))).mono (T := S) (fun b h1 _ => by injection h1 with h1; rw [← h1]; exact HSS.out)) (fun b h _ => h))
                  clear hlv hput hbx18
                  go_wp2
                  rw [← HR.out]
                  exact ⟨by rw [HOK.out], ref_ins HOK.out HAT.out hkl HFIN.out, HON4.out⟩
              · go_simp
                refine hK.out _ _ (hS.alloc _) (fun hS10 => ?_); clear hK K
                have lit1 := src_new X3.drew X3.heap.size rfl #[.bool true] 4
                refine wpK_one (i := 1) (by kernel_rfl) rfl (fun K hK => ?_)
                go_simp
                refine hK.out _ _ (hS10.alloc _) (fun hS1 => ?_); clear hK K
                have own1 := own_empty (X3.drew.alloc (.cells #[.bool true] 4)) X3.heap.size (X3.heap.size + 1) 4 1 (by simp) (by omega)
                refine wpK_one (i := 8) (by kernel_rfl) rfl (fun K hK => ?_)
                refine step_app rfl (.tmp 52) (.tmp 58) 58 rfl 4 i4 _ 1 1 Try.underlying58 hk hk0 hk1 hk2 rfl (by decide) X3.heap.size _ _ _ (by go_simp) own1 hS1.2.1 hS1.2.1.size _ _ _ (by go_simp) (src3.below hS1.2.1 (Nat.le_refl _)) hl1 one3 (by unfold maxLen; omega) (by omega) ?_
                intro v8 X8 own8 hB8 hg8
                refine hK.out _ _ (hS1.next hB8) (fun hSc => ?_); clear hK K
                have lit8 := (lit1.below ((Below.refl _ _).alloc (Nat.le_refl _) _) (Nat.le_refl _)).grown hg8 (by simp [Value.ownBlock])
                refine wpK_one (i := 10) (by kernel_rfl) rfl (fun K hK => ?_)
                refine step_app rfl (.tmp 59) (.tmp 60) 58 rfl 4 i4 _ 1 1 Try.underlying58 hk hk0 hk1 hk2 rfl (by decide) X3.heap.size _ _ _ (by go_simp) own8 hSc.2.1 hSc.2.1.size _ 1 _ (by go_simp) lit8 rfl onem (by unfold maxLen; omega) (by omega) ?_
                intro v11 X11 own11 hB11 hg11
                refine hK.out _ _ (hSc.next hB11) (fun hSm => ?_); clear hK K
                refine wpK_one (i := 17) (by kernel_rfl) rfl (fun K hK => ?_)
                refine step_app rfl (.tmp 61) (.tmp 67) 58 rfl 4 i4 _ 1 1 Try.underlying58 hk hk0 hk1 hk2 rfl (by decide) X3.heap.size _ _ _ (by go_simp) own11 hSm.2.1 hSm.2.1.size _ _ _ (by go_simp) (src4.below hSm.2.1 (Nat.le_refl _)) hl2 one4 (by unfold maxLen; omega) (by omega) ?_
                intro v18 X18 own18 hB18 hg18
                refine hK.out _ _ (hSm.next hB18) (fun hSl => ?_); clear hK K
                refine wpK_one (i := 18) (by kernel_rfl) rfl (fun K hK => ?_)
                go_simp
                refine hK.out _ _ hSl (fun hSl => ?_); clear hK K
                refine wpK_one (i := 19) (by kernel_rfl) rfl (fun K hK => ?_)
                go_simp
                refine hK.out _ _ hSl (fun hSl => ?_); clear hK K
                rw [Nat.zero_add, List.nil_append] at own18
                obtain ⟨A18, c18, rfl⟩ := own_shape own18
                have hbx18 : X18.heap[s]? = some (.cells #[.slice A3 (k0 + 1 + (l.length - k0)) c3, .slice B l.length d] 60 (0, 0)) := (hSl.2.1.block s hslt3).trans HR3.out.box
                have hc18 : X18.cell? ⟨s, 1, none⟩ = some (.slice B l.length d) := by simp [World.cell?, hbx18]
                have hf18 : X18.frozen? ⟨s, 1, none⟩ = false := by simp [World.frozen?, hbx18]
                refine wpK_last (by kernel_rfl) rfl (by kernel_rfl) (fun K hK => ?_)
                go_simp
                refine hK.out _ _ ?_; clear hK K
                have hlv := row_block (w' := X18) HR3.out.ids (fun g hg => hSl.2.1.block g (row_lt HR3.out.ids hg))
                have hput := RawAt.put_live (T := fun b => S b ∨ w.heap.size ≤ b) hbx18 hlv (own_base4 own18 (Nat.zero_le _)) HR3.out.mem HR3.out.hu (fun g hg => .inr (Nat.le_trans hwz3 (own_from own18 hg)))
                have HFIN := Lib.hid hput
                have HON4 := Lib.hid ((HON.out.trans ((Only.of_below hSl.2.1).mono (T := S) (fun b h1 h2 => by omega)) (fun b h _ => h)).trans ((Only.of_grown (grownBy_cell1 X18 s (.slice A18 (k0 + 1 + (l.length - k0)) c18))).mono (T := S) (fun b h1 _ => by injection h1 with h1; rw [← h1]; exact HSS.out)) (fun b h _ => h))
                clear hlv hput hbx18
                go_wp2
                rw [← HR.out]
                exact ⟨by rw [HOK.out], ref_ins HOK.out HAT.out hkl HFIN.out, HON4.out⟩
          · go_simp
            refine hK.out _ _ (hS.alloc _) (fun hS10 => ?_); clear hK K
            have lit1 := src_new w1.drew w1.heap.size rfl #[.int .i64 x, .int .i64 y] 25
            refine wpK_one (i := 1) (by kernel_rfl) rfl (fun K hK => ?_)
            go_simp
            refine hK.out _ _ (hS10.alloc _) (fun hS1 => ?_); clear hK K
            have own1 := own_empty (w1.drew.alloc (.cells #[.int .i64 x, .int .i64 y] 25)) w1.heap.size (w1.heap.size + 1) 25 2 (by simp) (by omega)
            refine wpK_one (i := 8) (by kernel_rfl) rfl (fun K hK => ?_)
            refine step_app rfl (.tmp 31) (.tmp 37) 22 rfl 25 i0 _ 2 16 Try.underlying22 hj hj0 hj1 hj2 rfl (by decide) w1.heap.size _ _ _ (by go_simp) own1 hS1.2.1 hS1.2.1.size _ _ _ (by go_simp) (src1.below hS1.2.1 (Nat.le_refl _)) hl1 one1 (by unfold maxLen; omega) (by omega) ?_
            intro v8 X8 own8 hB8 hg8
            refine hK.out _ _ (hS1.next hB8) (fun hSc => ?_); clear hK K
            have lit8 := (lit1.below ((Below.refl _ _).alloc (Nat.le_refl _) _) (Nat.le_refl _)).grown hg8 (by simp [Value.ownBlock])
            refine wpK_one (i := 11) (by kernel_rfl) rfl (fun K hK => ?_)
            refine step_app rfl (.tmp 38) (.tmp 40) 22 rfl 25 i0 _ 2 16 Try.underlying22 hj hj0 hj1 hj2 rfl (by decide) w1.heap.size _ _ _ (by go_simp) own8 hSc.2.1 hSc.2.1.size _ 1 _ (by go_simp) lit8 rfl onel (by unfold maxLen; omega) (by omega) ?_
            intro v11 X11 own11 hB11 hg11
            refine hK.out _ _ (hSc.next hB11) (fun hSm => ?_); clear hK K
            refine wpK_one (i := 18) (by kernel_rfl) rfl (fun K hK => ?_)
            refine step_app rfl (.tmp 41) (.tmp 47) 22 rfl 25 i0 _ 2 16 Try.underlying22 hj hj0 hj1 hj2 rfl (by decide) w1.heap.size _ _ _ (by go_simp) own11 hSm.2.1 hSm.2.1.size _ _ _ (by go_simp) (src2.below hSm.2.1 (Nat.le_refl _)) hl2 one2 (by unfold maxLen; omega) (by omega) ?_
            intro v18 X18 own18 hB18 hg18
            refine hK.out _ _ (hSm.next hB18) (fun hSl => ?_); clear hK K
            refine wpK_one (i := 19) (by kernel_rfl) rfl (fun K hK => ?_)
            go_simp
            refine hK.out _ _ hSl (fun hSl => ?_); clear hK K
            refine wpK_one (i := 20) (by kernel_rfl) rfl (fun K hK => ?_)
            go_simp
            refine hK.out _ _ hSl (fun hSl => ?_); clear hK K
            rw [Nat.zero_add, List.nil_append] at own18
            obtain ⟨A18, c18, rfl⟩ := own_shape own18
            have hbx18 : X18.heap[s]? = some (.cells #[.slice A l.length c, .slice B l.length d] 60 (0, 0)) := (hSl.2.1.block s hslt).trans HRAW.out.box
            have hc18 : X18.cell? ⟨s, 0, none⟩ = some (.slice A l.length c) := by simp [World.cell?, hbx18]
            have hf18 : X18.frozen? ⟨s, 0, none⟩ = false := by simp [World.frozen?, hbx18]
            refine wpK_last (by kernel_rfl) rfl (by kernel_rfl) (fun K hK => ?_)
            go_simp
            refine hK.out _ _ ?_; clear hK K
            have hlv := row_block (w' := X18) HRAW.out.live (fun g hg => hSl.2.1.block g (row_lt HRAW.out.live hg))
            have hput := RawAt.put_ids (T := fun b => S b ∨ w.heap.size ≤ b) hbx18 hlv (own_base own18 (Nat.zero_le _)) (.inl HRAW.out.mem) (fun g hg => .inr (Nat.le_trans hwz (own_from own18 hg))) (fun g hg => .inl (HRAW.out.hv g hg))
            have hone := ((((Only.of_below HI1.out.below).mono (T := S) (fun b h1 h2 => by omega)).trans ((Only.of_below hSl.2.1).mono (T := S) (fun b h1 h2 => by omega)) (fun b h _ => h))).trans ((Only.of_grown (grownBy_setCell' X18 s (.slice A18 (k0 + 1 + (l.length - k0)) c18))).mono (T := S) (fun b h1 _ => by injection h1 with h1; rw [← h1]; exact HRAW.out.mem)) (fun b h _ => h)
            have g0 : (X18.setCell ⟨s, 0, none⟩ (.slice A18 (k0 + 1 + (l.length - k0)) c18)).cell? ⟨w.heap.size + 1, 0, none⟩ = some (.int .i64 x) := (World.cell?_of_block (Below.heap_setCell X18 _ _ _ (by show w.heap.size + 1 ≠ s; omega))).trans hSl.1.2.1
            have g1 : (X18.setCell ⟨s, 0, none⟩ (.slice A18 (k0 + 1 + (l.length - k0)) c18)).cell? ⟨w.heap.size + 1, 1, none⟩ = some (.int .i64 y) := (World.cell?_of_block (Below.heap_setCell X18 _ _ _ (by show w.heap.size + 1 ≠ s; omega))).trans hSl.1.2.2
            obtain ⟨X3, hX3⟩ : ∃ X3, X18.setCell ⟨s, 0, none⟩ (.slice A18 (k0 + 1 + (l.length - k0)) c18) = X3 := ⟨_, rfl⟩
            obtain ⟨A3, hA3⟩ : ∃ A3, A18 = A3 := ⟨_, rfl⟩
            obtain ⟨c3, hc3⟩ : ∃ c3, c18 = c3 := ⟨_, rfl⟩
            rw [hX3] at hput hone g0 g1 ⊢
            rw [hA3, hc3] at hput ⊢
            have HR3 := Lib.hid hput
            have HON := Lib.hid hone
            have hwz3 : w.heap.size ≤ X3.heap.size := hone.size
            obtain ⟨x3, hs3, src3⟩ := slice_pre hput.live (k := k0) (by omega) Try.underlying58 size4
            obtain ⟨x4, hs4, src4⟩ := slice_suf hput.live (k := k0) (by omega) Try.underlying58 size4
            have hki : ((k0 : Nat) : Int) = 0 := (by rw [HK0.out]; rfl); rw [hki] at hs3 hs4; clear hki
            have hl1 : ((boolsE l).take (k0 * 1)).length = k0 * 1 := by rw [List.length_take]; simp [boolsE]; omega
            have hl2 : ((boolsE l).drop (k0 * 1)).length = (l.length - k0) * 1 := by rw [List.length_drop]; simp [boolsE]
            have one3 : ∀ u ∈ (boolsE l).take (k0 * 1), u.oneCell' = true := fun u hu => bools_one _ u (List.mem_of_mem_take hu)
            have one4 : ∀ u ∈ (boolsE l).drop (k0 * 1), u.oneCell' = true := fun u hu => bools_one _ u (List.mem_of_mem_drop hu)
            have onem : ∀ u ∈ (#[.bool true] : Array Value).toList, u.oneCell' = true := fun u hu => by simp at hu; rcases hu with rfl; rfl
            have hslt3 := (Array.getElem?_eq_some_iff.1 hput.box).1
            have hcell3 : X3.cell? ⟨s, 1, none⟩ = some (.slice B l.length d) := by simp [World.cell?, hput.box]
            have HRS3 : Hid (RgS X3 ⟨s, 1, none⟩ (.slice B l.length d) (w.heap.size + 1) x y X3.drew) := Lib.hid ⟨⟨hcell3, g0, g1⟩, (Below.refl _ _).drew, hslt3, cell_lt g0⟩
            clear hput hone g0 g1 hX3 hA3 hc3 hlv hbx18 hc18 hf18 own18 hB18 hg18 hSl hSm own11 hB11 hg11 hSc own8 hB8 hg8 lit8
            go_wp2_with fail
            refine wp_region_K 20 (S := RgS X3 ⟨s, 1, none⟩ (.slice B l.length d) (w.heap.size + 1) x y) (by kernel_rfl) HRS3.out (fun hS => ?_)
            refine wpK_take (i := 0) (v := ?v0d) rfl (by kernel_rfl) (by kernel_rfl) (by kernel_rfl) (by kernel_rfl) (fun _ _ _ h => h) (Or.inl ⟨by kernel_rfl, ?h0d⟩) hS ?_
            case h0d => (rintro w2 ⟨⟨e0, e1, e2⟩, _⟩; go_simp; try with_reducible rfl)
            refine wpK_take (i := 2) (v := ?v2d) rfl (by kernel_rfl) (by kernel_rfl) (by kernel_rfl) (by kernel_rfl) (fun _ _ _ h => h) (Or.inl ⟨by kernel_rfl, ?h2d⟩) hS ?_
            case h2d => (rintro w2 ⟨⟨e0, e1, e2⟩, _⟩; go_simp; try with_reducible rfl)
            refine wpK_take (i := 3) (v := ?v3d) rfl (by kernel_rfl) (by kernel_rfl) (by kernel_rfl) (by kernel_rfl) (fun _ _ _ h => h) (Or.inl ⟨by kernel_rfl, ?h3d⟩) hS ?_
            case h3d => (rintro w2 ⟨⟨e0, e1, e2⟩, _⟩; go_simp; try with_reducible rfl)
            refine wpK_take (i := 4) (v := ?v4d) rfl (by kernel_rfl) (by kernel_rfl) (by kernel_rfl) (by kernel_rfl) (fun _ _ _ h => h) (Or.inl ⟨by kernel_rfl, ?h4d⟩) hS ?_
            case h4d => (rintro w2 ⟨⟨e0, e1, e2⟩, _⟩; go_simp; try with_reducible rfl)
            refine wpK_take (i := 5) (v := ?v5d) rfl (by kernel_rfl) (by kernel_rfl) (by kernel_rfl) (by kernel_rfl) (fun _ _ _ h => h) (Or.inl ⟨by kernel_rfl, ?h5d⟩) hS ?_
            case h5d => (rintro w2 ⟨⟨e0, e1, e2⟩, _⟩; go_simp; try with_reducible rfl)
            refine wpK_take (i := 6) (v := ?v6d) rfl (by kernel_rfl) (by kernel_rfl) (by kernel_rfl) (by kernel_rfl) (fun _ _ _ h => h) (Or.inl ⟨by kernel_rfl, ?h6d⟩) hS ?_
            case h6d => (rintro w2 ⟨⟨e0, e1, e2⟩, _⟩; go_simp; try with_reducible rfl)
            refine wpK_take (i := 7) (v := x3) rfl (by kernel_rfl) (by kernel_rfl) (by kernel_rfl) (by kernel_rfl) (fun _ _ _ h => h) (Or.inl ⟨by kernel_rfl, ?h7d⟩) hS ?_
            case h7d => (rintro w2 ⟨⟨e0, e1, e2⟩, _⟩; refine exec_slice (v := .slice B l.length d) (lv := none) (hv := (some (.int .i64 (0)))) _ _ 58 (.tmp 56) none (some (.tmp 57)) none rfl (by go_simp) rfl (by go_simp) rfl (hs3 _))
            refine wpK_take (i := 11) (v := ?v11d) rfl (by kernel_rfl) (by kernel_rfl) (by kernel_rfl) (by kernel_rfl) (fun _ _ _ h => h) (Or.inl ⟨by kernel_rfl, ?h11d⟩) hS ?_
            case h11d => (rintro w2 ⟨⟨e0, e1, e2⟩, _⟩; go_simp; try with_reducible rfl)
            refine wpK_take (i := 12) (v := ?v12d) rfl (by kernel_rfl) (by kernel_rfl) (by kernel_rfl) (by kernel_rfl) (fun _ _ _ h => h) (Or.inl ⟨by kernel_rfl, ?h12d⟩) hS ?_
            case h12d => (rintro w2 ⟨⟨e0, e1, e2⟩, _⟩; go_simp; try with_reducible rfl)
            refine wpK_take (i := 13) (v := ?v13d) rfl (by kernel_rfl) (by kernel_rfl) (by kernel_rfl) (by kernel_rfl) (fun _ _ _ h => h) (Or.inl ⟨by kernel_rfl, ?h13d⟩) hS ?_
            case h13d => (rintro w2 ⟨⟨e0, e1, e2⟩, _⟩; go_simp; try with_reducible rfl)
            refine wpK_take (i := 14) (v := ?v14d) rfl (by kernel_rfl) (by kernel_rfl) (by kernel_rfl) (by kernel_rfl) (fun _ _ _ h => h) (Or.inl ⟨by kernel_rfl, ?h14d⟩) hS ?_
            case h14d => (rintro w2 ⟨⟨e0, e1, e2⟩, _⟩; go_simp; try with_reducible rfl)
            refine wpK_take (i := 15) (v := ?v15d) rfl (by kernel_rfl) (by kernel_rfl) (by kernel_rfl) (by kernel_rfl) (fun _ _ _ h => h) (Or.inl ⟨by kernel_rfl, ?h15d⟩) hS ?_
            case h15d => (rintro w2 ⟨⟨e0, e1, e2⟩, _⟩; go_simp; try with_reducible rfl)
            refine wpK_take (i := 16) (v := x4) rfl (by kernel_rfl) (by kernel_rfl) (by kernel_rfl) (by kernel_rfl) (fun _ _ _ h => h) (Or.inl ⟨by kernel_rfl, ?h16d⟩) hS ?_
            case h16d => (rintro w2 ⟨⟨e0, e1, e2⟩, _⟩; refine exec_slice (v := .slice B l.length d) (lv := (some (.int .i64 (0)))) (hv := none) _ _ 58 (.tmp 65) (some (.tmp 66)) none none rfl (by go_simp) (by go_simp) rfl rfl (hs4 _))
            refine wpK_two (i := 1) (k := 9) (by kernel_rfl) rfl rfl (fun K hK => ?_) (fun K hK => ?_)
            · go_simp
              refine hK.out _ _ (hS.alloc _) (fun hS1 => ?_); clear hK K
              have own1 := own_empty X3.drew X3.heap.size X3.heap.size 4 1 rfl (Nat.le_refl _)
              refine wpK_two (i := 8) (k := 9) (by kernel_rfl) rfl rfl (fun K hK => ?_) (fun K hK => ?_)
              · refine step_app rfl (.tmp 52) (.tmp 58) 58 rfl 4 i4 _ 1 1 Try.underlying58 hk hk0 hk1 hk2 rfl (by decide) X3.heap.size _ _ _ (by go_simp) own1 hS1.2.1 hS1.2.1.size _ _ _ (by go_simp) (src3.below hS1.2.1 (Nat.le_refl _)) hl1 one3 (by unfold maxLen; omega) (by omega) ?_
                intro v8 X8 own8 hB8 hg8
                refine hK.out _ _ (hS1.next hB8) (fun hS8 => ?_); clear hK K
                refine wpK_one (i := 9) (by kernel_rfl) rfl (fun K hK => ?_)
                go_simp
                refine hK.out _ _ (hS8.alloc _) (fun hSc => ?_); clear hK K
                have lit8 := src_new X8 X8.heap.size rfl #[.bool true] 4
                replace own8 := own8.alloc (.cells #[.bool true] 4)
                refine wpK_one (i := 10) (by kernel_rfl) rfl (fun K hK => ?_)
                refine step_app rfl (.tmp 59) (.tmp 60) 58 rfl 4 i4 _ 1 1 Try.underlying58 hk hk0 hk1 hk2 rfl (by decide) X3.heap.size _ _ _ (by go_simp) own8 hSc.2.1 hSc.2.1.size _ 1 _ (by go_simp) lit8 rfl onem (by unfold maxLen; omega) (by omega) ?_
                intro v11 X11 own11 hB11 hg11
                refine hK.out _ _ (hSc.next hB11) (fun hSm => ?_); clear hK K
                refine wpK_one (i := 17) (by kernel_rfl) rfl (fun K hK => ?_)
                refine step_app rfl (.tmp 61) (.tmp 67) 58 rfl 4 i4 _ 1 1 Try.underlying58 hk hk0 hk1 hk2 rfl (by decide) X3.heap.size _ _ _ (by go_simp) own11 hSm.2.1 hSm.2.1.size _ _ _ (by go_simp) (src4.below hSm.2.1 (Nat.le_refl _)) hl2 one4 (by unfold maxLen; omega) (by omega) ?_
                intro v18 X18 own18 hB18 hg18
                refine hK.out _ _ (hSm.next hB18) (fun hSl => ?_); clear hK K
                refine wpK_one (i := 18) (by kernel_rfl) rfl (fun K hK => ?_)
                go_simp
                refine hK.out _ _ hSl (fun hSl => ?_); clear hK K
                refine wpK_one (i := 19) (by kernel_rfl) rfl (fun K hK => ?_)
                go_simp
                refine hK.out _ _ hSl (fun hSl => ?_); clear hK K
                rw [Nat.zero_add, List.nil_append] at own18
                obtain ⟨A18, c18, rfl⟩ := own_shape own18
                have hbx18 : X18.heap[s]? = some (.cells #[.slice A3 (k0 + 1 + (l.length - k0)) c3, .slice B l.length d] 60 (0, 0)) := (hSl.2.1.block s hslt3).trans HR3.out.box
                have hc18 : X18.cell? ⟨s, 1, none⟩ = some (.slice B l.length d) := by simp [World.cell?, hbx18]
                have hf18 : X18.frozen? ⟨s, 1, none⟩ = false := by simp [World.frozen?, hbx18]
                refine wpK_last (by kernel_rfl) rfl (by kernel_rfl) (fun K hK => ?_)
                go_simp
                refine hK.out _ _ ?_; clear hK K
                have hlv := row_block (w' := X18) HR3.out.ids (fun g hg => hSl.2.1.block g (row_lt HR3.out.ids hg))
                have hput := RawAt.put_live (T := fun b => S b ∨ w.heap.size ≤ b) hbx18 hlv (own_base4 own18 (Nat.zero_le _)) HR3.out.mem HR3.out.hu (fun g hg => .inr (Nat.le_trans hwz3 (own_from own18 hg)))
                have HFIN := Lib.hid hput
                have HON4 := Lib.hid ((HON.out.trans ((Only.of_below hSl.2.1).mono (T := S) (fun b h1 h2 => by omega)) (fun b h _ => h)).trans ((Only.of_grown (grownBy_cell1 X18 s (.slice A18 (k0 + 1 + (l.length - k0)) c18))).mono (T := S) (fun b h1 _ => by injection h1 with h1; rw [← h1]; exact HSS.out)) (fun b h _ => h))
                clear hlv hput hbx18
                go_wp2
                rw [← HR.out]
                exact ⟨by rw [HOK.out], ref_ins HOK.out HAT.out hkl HFIN.out, HON4.out⟩
              · go_simp
                refine hK.out _ _ (hS1.alloc _) (fun hS10 => ?_); clear hK K
                have lit1 := src_new (X3.drew.alloc (.cells #[] 4)) (X3.heap.size + 1) (by simp) #[.bool true] 4
                replace own1 := own1.alloc (.cells #[.bool true] 4)
                refine wpK_one (i := 8) (by kernel_rfl) rfl (fun K hK => ?_)
                refine step_app rfl (.tmp 52) (.tmp 58) 58 rfl 4 i4 _ 1 1 Try.underlying58 hk hk0 hk1 hk2 rfl (by decide) X3.heap.size _ _ _ (by go_simp) own1 hS10.2.1 hS10.2.1.size _ _ _ (by go_simp) (src3.below hS10.2.1 (Nat.le_refl _)) hl1 one3 (by unfold maxLen; omega) (by omega) ?_
                intro v8 X8 own8 hB8 hg8
                refine hK.out _ _ (hS10.next hB8) (fun hSc => ?_); clear hK K
                have lit8 := lit1.grown hg8 (by simp [Value.ownBlock])
                refine wpK_one (i := 10) (by kernel_rfl) rfl (fun K hK => ?_)
                refine step_app rfl (.tmp 59) (.tmp 60) 58 rfl 4 i4 _ 1 1 Try.underlying58 hk hk0 hk1 hk2 rfl (by decide) X3.heap.size _ _ _ (by go_simp) own8 hSc.2.1 hSc.2.1.size _ 1 _ (by go_simp) lit8 rfl onem (by unfold maxLen; omega) (by omega) ?_
                intro v11 X11 own11 hB11 hg11
                refine hK.out _ _ (hSc.next hB11) (fun hSm => ?_); clear hK K
                refine wpK_one (i := 17) (by kernel_rfl) rfl (fun K hK => ?_)
                refine step_app rfl (.tmp 61) (.tmp 67) 58 rfl 4 i4 _ 1 1 Try.underlying58 hk hk0 hk1 hk2 rfl (by decide) X3.heap.size _ _ _ (by go_simp) own11 hSm.2.1 hSm.2.1.size _ _ _ (by go_simp) (src4.below hSm.2.1 (Nat.le_refl _)) hl2 one4 (by unfold maxLen; omega) (by omega) ?_
                intro v18 X18 own18 hB18 hg18
                refine hK.out _ _ (hSm.next hB18) (fun hSl => ?_); clear hK K
                refine wpK_one (i := 18) (by kernel_rfl) rfl (fun K hK => ?_)
                go_simp
                refine hK.out _ _ hSl (fun hSl => ?_); clear hK K
                refine wpK_one (i := 19) (by kernel_rfl) rfl (fun K hK => ?_)
                go_simp
                refine hK.out _ _ hSl (fun hSl => ?_); clear hK K
                rw [Nat.zero_add, List.nil_append] at own18
                obtain ⟨A18, c18, rfl⟩ := own_shape own18
                have hbx18 : X18.heap[s]? = some (.cells #[.slice A3 (k0 + 1 + (l.length - k0)) c3, .slice B l.length d] 60 (0, 0)) := (hSl.2.1.block s hslt3).trans HR3.out.box
                have hc18 : X18.cell? ⟨s, 1, none⟩ = some (.slice B l.length d) := by simp [World.cell?, hbx18]
                have hf18 : X18.frozen? ⟨s, 1, none⟩ = false := by simp [World.frozen?, hbx18]
                refine wpK_last (by kernel_rfl) rfl (by kernel_rfl) (fun K hK => ?_)
                go_simp
                refine hK.out _ _ ?_; clear hK K
                have hlv := row_block (w' := X18) HR3.out.ids (fun g hg => hSl.2.1.block g (row_lt HR3.out.ids hg))
                have hput := RawAt.put_live (T := fun b => S b ∨ w.heap.size ≤ b) hbx18 hlv (own_base4 own18 (Nat.zero_le _)) HR3.out.mem HR3.out.hu (fun g hg => .inr (Nat.le_trans hwz3 (own_from own18 hg)))
                have HFIN := Lib.hid hput
                have HON4 := Lib.hid ((HON.out.trans ((Only.of_below hSl.2.1).mono (T := S) (fun b h1 h2 => by omega)) (fun b h _ => h)).trans ((Only.of_grown (grownBy_cell1 X18 s (.slice A18 (k0 + 1 + (l.length - k0)) c18))).mono (T := S) (fun b h1 _ => by injection h1 with h1; rw [← h1]; exact HSS.out)) (fun b h _ => h))
                clear hlv hput hbx18
                go_wp2
                rw [← HR.out]
                exact ⟨by rw [HOK.out], ref_ins HOK.out HAT.out hkl HFIN.out, HON4.out⟩
            · go_simp
              refine hK.out _ _ (hS.alloc _) (fun hS10 => ?_); clear hK K
              have lit1 := src_new X3.drew X3.heap.size rfl #[.bool true] 4
              refine wpK_one (i := 1) (by kernel_rfl) rfl (fun K hK => ?_)
              go_simp
              refine hK.out _ _ (hS10.alloc _) (fun hS1 => ?_); clear hK K
              have own1 := own_empty (X3.drew.alloc (.cells #[.bool true] 4)) X3.heap.size (X3.heap.size + 1) 4 1 (by simp) (by omega)
              refine wpK_one (i := 8) (by kernel_rfl) rfl (fun K hK => ?_)
              refine step_app rfl (.tmp 52) (.tmp 58) 58 rfl 4 i4 _ 1 1 Try.underlying58 hk hk0 hk1 hk2 rfl (by decide) X3.heap.size _ _ _ (by go_simp) own1 hS1.2.1 hS1.2.1.size _ _ _ (by go_simp) (src3.below hS1.2.1 (Nat.le_refl _)) hl1 one3 (by unfold maxLen; omega) (by omega) ?_
              intro v8 X8 own8 hB8 hg8
              refine hK.out _ _ (hS1.next hB8) (fun hSc => ?_); clear hK K
              have lit8 := (lit1.below ((Below.refl _ _).alloc (Nat.le_refl _) _) (Nat.le_refl _)).grown hg8 (by simp [Value.ownBlock])
              refine wpK_one (i := 10) (by kernel_rfl) rfl (fun K hK => ?_)
              refine step_app rfl (.tmp 59) (.tmp 60) 58 rfl 4 i4 _ 1 1 Try.underlying58 hk hk0 hk1 hk2 rfl (by decide) X3.heap.size _ _ _ (by go_simp) own8 hSc.2.1 hSc.2.1.size _ 1 _ (by go_simp) lit8 rfl onem (by unfold maxLen; omega) (by omega) ?_
              intro v11 X11 own11 hB11 hg11
              refine hK.out _ _ (hSc.next hB11) (fun hSm => ?_); clear hK K
              refine wpK_one (i := 17) (by kernel_rfl) rfl (fun K hK => ?_)
              refine step_app rfl (.tmp 61) (.tmp 67) 58 rfl 4 i4 _ 1 1 Try.underlying58 hk hk0 hk1 hk2 rfl (by decide) X3.heap.size _ _ _ (by go_simp) own11 hSm.2.1 hSm.2.1.size _ _ _ (by go_simp) (src4.below hSm.2.1 (Nat.le_refl _)) hl2 one4 (by unfold maxLen; omega) (by omega) ?_
              intro v18 X18 own18 hB18 hg18
              refine hK.out _ _ (hSm.next hB18) (fun hSl => ?_); clear hK K
              refine wpK_one (i := 18) (by kernel_rfl) rfl (fun K hK => ?_)
              go_simp
              refine hK.out _ _ hSl (fun hSl => ?_); clear hK K
              refine wpK_one (i := 19) (by kernel_rfl) rfl (fun K hK => ?_)
              go_simp
              refine hK.out _ _ hSl (fun hSl => ?_); clear hK K
              rw [Nat.zero_add, List.nil_append] at own18
              obtain ⟨A18, c18, rfl⟩ := own_shape own18
              have hbx18 : X18.heap[s]? = some (.cells #[.slice A3 (k0 + 1 + (l.length - k0)) c3, .slice B l.length d] 60 (0, 0)) := (hSl.2.1.block s hslt3).trans HR3.out.box
              have hc18 : X18.cell? ⟨s, 1, none⟩ = some (.slice B l.length d) := by simp [World.cell?, hbx18]
              have hf18 : X18.frozen? ⟨s, 1, none⟩ = false := by simp [World.frozen?, hbx18]
              refine wpK_last (by kernel_rfl) rfl (by kernel_rfl) (fun K hK => ?_)
              go_simp
              refine hK.out _ _ ?_; clear hK K
              have hlv := row_block (w' := X18) HR3.out.ids (fun g hg => hSl.2.1.block g (row_lt HR3.out.ids hg))
              have hput := RawAt.put_live (T := fun b => S b ∨ w.heap.size ≤ b) hbx18 hlv (own_base4 own18 (Nat.zero_le _)) HR3.out.mem HR3.out.hu (fun g hg => .inr (Nat.le_trans hwz3 (own_from own18 hg)))
              have HFIN := Lib.hid hput
              have HON4 := Lib.hid ((HON.out.trans ((Only.of_below hSl.2.1).mono (T := S) (fun b h1 h2 => by omega)) (fun b h _ => h)).trans ((Only.of_grown (grownBy_cell1 X18 s (.slice A18 (k0 + 1 + (l.length - k0)) c18))).mono (T := S) (fun b h1 _ => by injection h1 with h1; rw [← h1]; exact HSS.out)) (fun b h _ => h))
              clear hlv hput hbx18
              go_wp2
              rw [← HR.out]
              exact ⟨by rw [HOK.out], ref_ins HOK.out HAT.out hkl HFIN.out, HON4.out⟩
  · go_enter Try.func30, Try.ntmps30
    go_wp2_with fail
    rw [HW0.out, ← HR.out]
    exact HI0.out.out (show insR l (b1, b2) (x, y) = 1 by unfold insR; rw [Z1.out]; rfl) (by decide)
end Go.Proofs.Ytngomgjhakgehaa
