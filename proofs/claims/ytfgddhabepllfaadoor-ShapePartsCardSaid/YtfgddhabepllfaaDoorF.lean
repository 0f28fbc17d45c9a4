/- What is made place by place, by a function that is handed on and may have a state of its own. -/
import Derived.Test.YtfgddhabepllfaaDoorE
import Derived.Test.YtfgddhabepllfaaDoorKK
import Derived.OwnWalk
import Derived.Laws.AppendOwn
import Derived.Deep.AppendLies
import Derived.Shelf.Abstract
namespace Go.Proofs.YtfgddhabepllfaaDoor
open Go.RowKit

/-- of what was there, S aside, nothing has turned -/
structure Only (S : Nat → Prop) (w w' : World) : Prop where
  os : w'.os = w.os
  tape : w'.tape = w.tape
  output : w'.output = w.output
  size : w.heap.size ≤ w'.heap.size
  block : ∀ k, k < w.heap.size → ¬ S k → w'.heap[k]? = w.heap[k]?
section
variable {S T : Nat → Prop} {w w' w2 : World}
theorem Only.refl (S : Nat → Prop) (w : World) : Only S w w := ⟨rfl, rfl, rfl, Nat.le_refl _, fun _ _ _ => rfl⟩
theorem Only.trans (h : Only S w w') (k : Only T w' w2) (hT : ∀ b, T b → b < w.heap.size → S b) : Only S w w2 :=
  ⟨k.os.trans h.os, k.tape.trans h.tape, k.output.trans h.output, Nat.le_trans h.size k.size, fun b hb hs =>
    (k.block b (Nat.lt_of_lt_of_le hb h.size) (fun ht => hs (hT b ht hb))).trans (h.block b hb hs)⟩
theorem Only.mono (h : Only S w w') (hS : ∀ b, S b → b < w.heap.size → T b) : Only T w w' :=
  ⟨h.os, h.tape, h.output, h.size, fun b hb hs => h.block b hb (fun k => hs (hS b k hb))⟩
theorem Only.of_below {n : Nat} (h : Below n w w') : Only (fun b => n ≤ b) w w' := ⟨h.os, h.tape, h.output, h.size, fun b _ hs => h.block b (by omega)⟩
theorem Only.below {n : Nat} (h : Only S w w') (hn : n ≤ w.heap.size) (hS : ∀ b, S b → n ≤ b) : Below n w w' := ⟨h.os, h.tape, h.output, h.size, fun b hb => h.block b (by omega) (fun k => absurd (hS b k) (by omega))⟩
theorem Only.of_grown {row : Option Nat} (h : w.grownBy w' row) : Only (fun b => row = some b) w w' := ⟨h.os, h.tape, h.output, h.size, fun b hb hs => h.block b hb (fun k => hs k.symm)⟩
theorem Only.drew (h : Only S w w') : Only S w w'.drew := ⟨h.os, h.tape, h.output, h.size, h.block⟩
theorem Only.draw (S : Nat → Prop) (w : World) : Only S w w.drew := ⟨rfl, rfl, rfl, Nat.le_refl _, fun _ _ _ => rfl⟩
theorem Only.later (h : Only S w w') (k : Below w'.heap.size w' w2) : Only S w w2 := h.trans (Only.of_below k) (fun b hb hlt => by have := h.size; omega)
theorem Only.alloc (h : Only S w w') (o : Obj) : Only S w (w'.alloc o) := h.later (Nm.alloc_below _ _)
theorem Only.set {a : Addr} (v : Value) : Only (fun b => b = a.block) w (w.setCell a v) :=
  ⟨rfl, rfl, rfl, by simp [World.setCell], fun b hb hs => by
    unfold World.setCell
    simp only [Array.getElem?_modify]
    rw [if_neg (fun h => hs h.symm)]⟩
end
/-! ### rows of values that are one's own -/
theorem info34 : (Tryd.prog.info? 34).map (fun i => (i.zero, i.size, i.bytes)) = some (some (.agg #[.int .i64 0, .int .i64 0, .int .i64 0, .string ⟨#[]⟩, .bool false, .int .i64 0]), 6, 56) := by kernel_rfl
def flatV (l : List Vl) : List Value := l.flatMap vL
theorem flatV_len (l : List Vl) : (flatV l).length = l.length * 6 := by
  induction l with
  | nil => rfl
  | cons p l ih => simp [flatV, List.flatMap_cons, vL] at ih ⊢; omega
theorem flatV_app (l m : List Vl) : flatV (l ++ m) = flatV l ++ flatV m := by simp [flatV]
theorem flatV_cons (v : Vl) (l : List Vl) : flatV (v :: l) = .int .i64 v.k :: .int .i64 v.m :: .int .i64 v.e :: .string v.t :: .bool v.b :: .int .i64 v.f :: flatV l := by simp [flatV, vL]
theorem flatV_one (v : Vl) : flatV [v] = vL v := by simp [flatV]
theorem flatV_at {l : List Vl} {k : Nat} {v : Vl} (h : l[k]? = some v) : (flatV l)[k * 6]? = some (.int .i64 v.k) ∧ (flatV l)[k * 6 + 1]? = some (.int .i64 v.m) ∧ (flatV l)[k * 6 + 2]? = some (.int .i64 v.e) ∧ (flatV l)[k * 6 + 3]? = some (.string v.t) ∧ (flatV l)[k * 6 + 4]? = some (.bool v.b) ∧ (flatV l)[k * 6 + 5]? = some (.int .i64 v.f) := by
  induction l generalizing k with
  | nil => simp at h
  | cons q l ih =>
    rw [flatV_cons]
    cases k with
    | zero => simp at h; subst h; simp
    | succ k =>
      have := ih (k := k) (by simpa using h)
      rw [show (k + 1) * 6 = k * 6 + 1 + 1 + 1 + 1 + 1 + 1 by omega]
      simpa using this
theorem own_shape {w : World} {base e size n : Nat} {v : Value} {xs : List Value} (h : w.ownsRow base e size v n xs) : ∃ A c, v = .slice A n c := by
  rcases h.2 with ⟨h1, h2⟩ | ⟨g, cap, cur, h1, _⟩
  · exact ⟨none, 0, by rw [h1, h2]⟩
  · exact ⟨_, _, h1⟩
theorem row_lt {w : World} {v : Value} {n base e size : Nat} {xs : List Value} (h : w.ownsRow base e size v n xs) {g : Nat} (hg : v.ownBlock = some g) : g < w.heap.size ∧ base ≤ g := by
  rcases h.2 with ⟨rfl, _⟩ | ⟨g', cap, cur, rfl, hb, hc, _⟩
  · cases hg
  · injection hg with hg; subst hg; exact ⟨(Array.getElem?_eq_some_iff.1 hc).1, hb⟩
theorem row_kept {w w' : World} {v : Value} {n base e size : Nat} {xs : List Value} (h : w.ownsRow base e size v n xs) (hk : ∀ g, v.ownBlock = some g → w'.heap[g]? = w.heap[g]?) : w'.ownsRow base e size v n xs := by
  refine ⟨h.1, ?_⟩
  rcases h.2 with h5 | ⟨g, cap, cur, hv, h0, hg, h6⟩
  · exact .inl h5
  · exact .inr ⟨g, cap, cur, hv, h0, (hk g (by rw [hv]; rfl)).trans hg, h6⟩
theorem row_later {w w' : World} {v : Value} {n base e size : Nat} {xs : List Value} (h : w.ownsRow base e size v n xs) (hb : Below w.heap.size w w') : w'.ownsRow base e size v n xs := row_kept h (fun _ hg => hb.block _ (row_lt h hg).1)
theorem val_of_row {w : World} {base e m : Nat} {v : Value} {l : List Vl} (h : w.ownsRow base e 6 v l.length (flatV l)) (hm : m = w.heap.size) : ValAt m w v l := by
  subst hm
  rcases h.2 with ⟨rfl, h0⟩ | ⟨g, cap, cur, rfl, hbg, hb, hnc, _, hsz, hcur⟩
  · obtain rfl : l = [] := List.eq_nil_of_length_eq_zero h0
    exact .nil _ _
  · refine ⟨_, _, rfl, hnc, fun k t hk => ⟨g, 0, rfl, (Array.getElem?_eq_some_iff.1 hb).1, ?_⟩⟩
    obtain ⟨e1, e2, e3, e4, e5, e6⟩ := flatV_at hk
    have hat : ∀ j u, (flatV l)[j]? = some u → cur[j]? = some u := fun j u hu => by
      have hj : j < l.length * 6 := by have := (List.getElem?_eq_some_iff.1 hu).1; rw [flatV_len] at this; exact this
      rw [← hcur, List.getElem?_take_of_lt hj] at hu
      simpa using hu
    unfold CellV
    simp only [Nat.zero_add]
    refine ⟨?_, ?_, ?_, ?_, ?_, ?_⟩
    · simp [World.cell?, hb, hat _ _ e1]
    · simp [World.cell?, hb, hat _ _ e2]
    · simp [World.cell?, hb, hat _ _ e3]
    · simp [World.cell?, hb, hat _ _ e4]
    · simp [World.cell?, hb, hat _ _ e5]
    · simp [World.cell?, hb, hat _ _ e6]
theorem lit6 {w : World} {x : Vl} {k t : Nat} (hk : k = w.heap.size) : ∀ (j : Nat) (u : Value), (vL x)[j]? = some u → (w.alloc (.cells #[.int .i64 x.k, .int .i64 x.m, .int .i64 x.e, .string x.t, .bool x.b, .int .i64 x.f] t)).cell? ((⟨k, 0, none⟩ : Addr).add j) = some u := by
  subst hk
  intro j u hj
  have hadd : ∀ j, (⟨w.heap.size, 0, none⟩ : Addr).add j = ⟨w.heap.size, j, none⟩ := fun j => by unfold Addr.add; split <;> simp_all
  rw [hadd]
  obtain ⟨c0, c1, c2, c3, c4, c5, _⟩ := box6 (heap_alloc_new w (.cells #[.int .i64 x.k, .int .i64 x.m, .int .i64 x.e, .string x.t, .bool x.b, .int .i64 x.f] t))
  unfold vL at hj
  match j, hj with
  | 0, hj => simp at hj; subst hj; exact c0
  | 1, hj => simp at hj; subst hj; exact c1
  | 2, hj => simp at hj; subst hj; exact c2
  | 3, hj => simp at hj; subst hj; exact c3
  | 4, hj => simp at hj; subst hj; exact c4
  | 5, hj => simp at hj; subst hj; exact c5
  | j + 6, hj => simp at hj
theorem lit6d {w : World} {x : Vl} {k t : Nat} (hk : k = w.heap.size) : ∀ (j : Nat) (u : Value), (vL x)[j]? = some u → (w.alloc (.cells #[.int .i64 x.k, .int .i64 x.m, .int .i64 x.e, .string x.t, .bool x.b, .int .i64 x.f] t)).drew.cell? ((⟨k, 0, none⟩ : Addr).add j) = some u := lit6 hk
theorem one6 (x : Vl) : ∀ u ∈ vL x, u.oneCell' = true := by
  intro u hu
  simp only [vL, List.mem_cons, List.not_mem_nil, or_false] at hu
  rcases hu with rfl | rfl | rfl | rfl | rfl | rfl <;> rfl
section
variable {w : World} {g t n : Nat} {a b c : Value}
theorem box3 (h : w.heap[g]? = some (.cells #[a, b, c] t (0, 0))) : w.cell? ⟨g, 0, none⟩ = some a ∧ w.cell? ⟨g, 1, none⟩ = some b ∧ w.cell? ⟨g, 2, none⟩ = some c ∧ w.frozen? ⟨g, 0, none⟩ = false ∧ w.frozen? ⟨g, 1, none⟩ = false ∧ w.frozen? ⟨g, 2, none⟩ = false := by
  refine ⟨?_, ?_, ?_, ?_, ?_, ?_⟩ <;> simp [World.cell?, World.frozen?, h]
theorem set3 (a' b' c' : Value) (h : w.heap[g]? = some (.cells #[a, b, c] t (0, 0))) : (((w.setCell ⟨g, 0, none⟩ a').setCell ⟨g, 1, none⟩ b').setCell ⟨g, 2, none⟩ c').heap[g]? = some (.cells #[a', b', c'] t (0, 0)) := by
  simp [World.setCell, Array.getElem?_modify, h]
theorem set_last (c' : Value) (h : w.heap[g]? = some (.cells #[a, b, c] t (0, 0))) : (w.setCell ⟨g, 2, none⟩ c').heap[g]? = some (.cells #[a, b, c'] t (0, 0)) := by
  simp [World.setCell, Array.getElem?_modify, h]
theorem below3 {W : World} (a b c : Value) (h : Below n w W) (hg : n ≤ g) : Below n w (((W.setCell ⟨g, 0, none⟩ a).setCell ⟨g, 1, none⟩ b).setCell ⟨g, 2, none⟩ c) :=
  ((h.setCell (p := ⟨g, 0, none⟩) hg a).setCell (p := ⟨g, 1, none⟩) hg b).setCell (p := ⟨g, 2, none⟩) hg c
end
/-- a function of places with a state: I n S w: n places were asked, its state lies in the blocks S -/
structure Gen (I : Nat → (Nat → Prop) → World → Prop) (R C : Nat) (F : Nat → Nat → Vl) (N : Nat) (caps : Array Value) : Prop where
  ent : ∀ args w, (callFunc N args).run Tryd.prog w = .ok (.enter N args) w
  lt : ∀ n S w, I n S w → ∀ k, S k → k < w.heap.size
  stab : ∀ n S w w', I n S w → Only (fun k => ¬ S k) w w' → I n S w'
  step : ∀ i j S w, i < R → j < C → I (i * C + j) S w → Calls Tryd.prog N (#[.int .i64 (i : Int), .int .i64 (j : Int)] ++ caps) w fun e w' => e = .returned (vV (F i j)) ∧ ∃ S', I (i * C + j + 1) S' w' ∧ Only S w w' ∧ ∀ k, S' k → S k ∨ w.heap.size ≤ k
/-- what build has made so far -/
structure Bs (w : World) (R C : Nat) (S0 : Nat → Prop) (I : Nat → (Nat → Prop) → World → Prop) (F : Nat → Nat → Vl) (n : Nat) (l : List Vl) (S : Nat → Prop) (A : Option Addr) (cp : Nat) (wr : World) : Prop where
  inv : I n S wr
  res : wr.heap[w.heap.size]? = some (.cells #[.int .i64 0, .int .i64 0, .slice none 0 0] 25 (0, 0))
  arr : wr.heap[w.heap.size + 1]? = some (.cells #[.int .i64 (R : Int), .int .i64 (C : Int), .slice A n cp] 25 (0, 0))
  row : wr.ownsRow (w.heap.size + 2) 34 6 (.slice A n cp) n (flatV l)
  away : ∀ g, (Value.slice A n cp).ownBlock = some g → ¬ S g
  away1 : ¬ S w.heap.size
  away2 : ¬ S (w.heap.size + 1)
  only : Only S0 w wr
  grow : ∀ k, S k → S0 k ∨ w.heap.size ≤ k
theorem Bs.next {w : World} {R C : Nat} {S0 : Nat → Prop} {I : Nat → (Nat → Prop) → World → Prop} {F : Nat → Nat → Vl} {n : Nat} {l : List Vl} {S : Nat → Prop} {A : Option Addr} {cp : Nat} {wr : World} (h : Bs w R C S0 I F n l S A cp wr)
    (hst : ∀ n S w w', I n S w → Only (fun k => ¬ S k) w w' → I n S w') (hlt : ∀ n S w, I n S w → ∀ k, S k → k < w.heap.size)
    {x : Vl} {w1 w2 w4 : World} {S' : Nat → Prop} (hI : I (n + 1) S' w1) (hO : Only S wr.drew w1) (hS' : ∀ k, S' k → S k ∨ wr.drew.heap.size ≤ k) (hb : Below w1.heap.size w1 w2) {g0 : Nat} {cp' : Nat}
    (hown : w4.ownsRow (w.heap.size + 2) 34 6 (.slice (some ⟨g0, 0, none⟩) (n + 1) cp') (n + 1) (flatV l ++ vL x)) (hg : w2.grownBy w4 (Value.slice A n cp).ownBlock) (hat : (Value.slice A n cp).ownBlock = some g0 ∨ g0 = w2.heap.size) :
    Bs w R C S0 I F (n + 1) (l ++ [x]) S' (some ⟨g0, 0, none⟩) cp' (w4.setCell ⟨w.heap.size + 1, 2, none⟩ (.slice (some ⟨g0, 0, none⟩) (n + 1) cp')) := by
  have hz : wr.heap.size ≤ w1.heap.size := hO.size
  have hz2 : w1.heap.size ≤ w2.heap.size := hb.size
  have hlt1 : w.heap.size < wr.heap.size := (Array.getElem?_eq_some_iff.1 h.res).1
  have hlt2 : w.heap.size + 1 < wr.heap.size := (Array.getElem?_eq_some_iff.1 h.arr).1
  have keep : ∀ k, k < wr.heap.size → ¬ S k → ¬ (Value.slice A n cp).ownBlock = some k → w4.heap[k]? = wr.heap[k]? := fun k hk hs ho =>
    ((Only.of_grown hg).block k (by omega) ho).trans ((hb.block k (by omega)).trans (hO.block k hk hs))
  have no1 : ¬ (Value.slice A n cp).ownBlock = some w.heap.size := fun e => by have := (row_lt h.row e).2; omega
  have no2 : ¬ (Value.slice A n cp).ownBlock = some (w.heap.size + 1) := fun e => by have := (row_lt h.row e).2; omega
  have new : ∀ k, S' k → k < wr.heap.size → S k := fun k hk hlt => (hS' k hk).resolve_right (by show ¬ wr.heap.size ≤ k; omega)
  have hset := Only.set (w := w4) (a := ⟨w.heap.size + 1, 2, none⟩) (.slice (some ⟨g0, 0, none⟩) (n + 1) cp')
  have hown' : ∀ g, (Value.slice (some ⟨g0, 0, none⟩) (n + 1) cp').ownBlock = some g → g < w4.heap.size ∧ w.heap.size + 2 ≤ g := fun g e => row_lt hown e
  have hfresh : ∀ g, (Value.slice (some ⟨g0, 0, none⟩) (n + 1) cp').ownBlock = some g → (Value.slice A n cp).ownBlock = some g ∨ w2.heap.size ≤ g := fun g e => by
    have e' : g0 = g := by simpa [Value.ownBlock] using e
    subst e'
    rcases hat with h1 | h1
    · exact .inl h1
    · exact .inr (by omega)
  have hall : Only (fun k => (Value.slice A n cp).ownBlock = some k ∨ k = w.heap.size + 1) w1 (w4.setCell ⟨w.heap.size + 1, 2, none⟩ (.slice (some ⟨g0, 0, none⟩) (n + 1) cp')) :=
    ((Only.of_below hb).mono (T := fun k => (Value.slice A n cp).ownBlock = some k ∨ k = w.heap.size + 1) (fun b h1 h2 => by omega)).trans
      (((Only.of_grown hg).mono (T := fun k => (Value.slice A n cp).ownBlock = some k ∨ k = w.heap.size + 1) (fun b h1 _ => .inl h1)).trans (hset.mono (T := fun k => (Value.slice A n cp).ownBlock = some k ∨ k = w.heap.size + 1) (fun b h1 _ => .inr h1)) (fun b h1 _ => h1)) (fun b h1 _ => h1)
  have hno : ∀ k, (Value.slice A n cp).ownBlock = some k ∨ k = w.heap.size + 1 → ¬ S' k := by
    rintro k (h1 | rfl) hs
    · exact h.away k h1 (new k hs (row_lt h.row h1).1)
    · exact h.away2 (new _ hs hlt2)
  refine ⟨?_, ?_, ?_, ?_, ?_, ?_, ?_, ?_, ?_⟩
  · exact hst _ _ _ _ hI (hall.mono (fun b h1 _ => hno b h1))
  · exact (hset.block _ (by have := hg.size; omega) (by simp)).trans ((keep _ hlt1 h.away1 no1).trans h.res)
  · exact set_last _ ((keep _ hlt2 h.away2 no2).trans h.arr)
  · rw [flatV_app, flatV_one]
    exact row_kept hown (fun g e => hset.block g (hown' g e).1 (by have := (hown' g e).2; simp only; omega))
  · intro g e hs
    rcases hfresh g e with h1 | h1
    · exact h.away g h1 (new g hs (row_lt h.row h1).1)
    · have := hlt _ _ _ hI g hs; omega
  · exact fun hs => h.away1 (new _ hs hlt1)
  · exact fun hs => h.away2 (new _ hs hlt2)
  · refine h.only.trans ((Only.draw (fun k => S k ∨ (Value.slice A n cp).ownBlock = some k ∨ k = w.heap.size + 1) wr).trans ((hO.mono (T := fun k => S k ∨ (Value.slice A n cp).ownBlock = some k ∨ k = w.heap.size + 1) (fun b h1 _ => .inl h1)).trans (hall.mono (T := fun k => S k ∨ (Value.slice A n cp).ownBlock = some k ∨ k = w.heap.size + 1) (fun b h1 _ => .inr h1)) (fun b h1 _ => h1)) (fun b h1 _ => h1)) (fun b h1 hlt => ?_)
    rcases h1 with h1 | h1 | h1
    · exact (h.grow b h1).resolve_right (by omega)
    · have := (row_lt h.row h1).2; omega
    · omega
  · intro k hk
    rcases hS' k hk with h1 | h1
    · exact h.grow k h1
    · exact .inr (by have : wr.heap.size ≤ k := h1; omega)
end Go.Proofs.YtfgddhabepllfaaDoor
