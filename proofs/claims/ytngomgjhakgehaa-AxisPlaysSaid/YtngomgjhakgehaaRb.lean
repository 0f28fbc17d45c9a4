/- The document's axis with its own blocks; New. -/
import Derived.Test.YtngomgjhakgehaaRa
namespace Go.Proofs.Ytngomgjhakgehaa
open Go.RowKit Go.Maps

def boolsE (l : List Ent) : List Value := l.map fun e => .bool e.2
theorem boolsE_app (l m : List Ent) : boolsE (l ++ m) = boolsE l ++ boolsE m := by simp [boolsE]
/-- the document's axis at s, whose blocks are among S -/
structure RawAt (w : World) (s : Nat) (S : Nat → Prop) (u v : Value) (n : Nat) (xs : List Value) (m : Nat) (ys : List Value) : Prop where
  mem : S s
  box : w.heap[s]? = some (.cells #[u, v] 60 (0, 0))
  ids : w.ownsRow 0 25 2 u n xs
  live : w.ownsRow 0 4 1 v m ys
  hu : ∀ g, u.ownBlock = some g → S g
  hv : ∀ g, v.ownBlock = some g → S g
def RefAt (w : World) (s : Nat) (S : Nat → Prop) (l : List Ent) : Prop := ∃ u v, RawAt w s S u v l.length (flat2 (l.map (·.1))) l.length (boolsE l)

theorem row_lt {w : World} {b e k : Nat} {v : Value} {n : Nat} {xs : List Value} (h : w.ownsRow b e k v n xs) {g : Nat} (hg : v.ownBlock = some g) : g < w.heap.size := by
  rcases h.2 with ⟨rfl, _⟩ | ⟨g', cap, cur, rfl, _, hb, _⟩
  · cases hg
  · injection hg with hg; subst hg; exact (Array.getElem?_eq_some_iff.1 hb).1
theorem row_ne {w : World} {b e k : Nat} {v : Value} {n : Nat} {xs : List Value} (h : w.ownsRow b e k v n xs) {s t : Nat} {cs : Array Value} {fr : Nat × Nat} (hs : w.heap[s]? = some (.cells cs t fr)) (hne : t ≠ e) : v.ownBlock ≠ some s := by
  rcases h.2 with ⟨rfl, _⟩ | ⟨g', cap, cur, rfl, _, hb, _⟩
  · intro he; cases he
  · intro he
    injection he with he
    simp only at he
    subst he
    rw [hs] at hb
    injection hb with hb
    injection hb with _ hb
    exact hne hb
theorem row_row {w : World} {b e k b' e' k' : Nat} {v v' : Value} {n n' : Nat} {xs xs' : List Value} (h : w.ownsRow b e k v n xs) (h' : w.ownsRow b' e' k' v' n' xs') (hne : e ≠ e') {g : Nat} (hg : v.ownBlock = some g) : v'.ownBlock ≠ some g := by
  rcases h.2 with ⟨rfl, _⟩ | ⟨g', cap, cur, rfl, _, hb, _⟩
  · cases hg
  · injection hg with hg
    subst hg
    exact row_ne h' hb hne
theorem row_block {w w' : World} {b e k : Nat} {v : Value} {n : Nat} {xs : List Value} (h : w.ownsRow b e k v n xs) (hb : ∀ g, v.ownBlock = some g → w'.heap[g]? = w.heap[g]?) : w'.ownsRow b e k v n xs := by
  refine ⟨h.1, ?_⟩
  rcases h.2 with h5 | ⟨g, cap, cur, hv, h0, hg, h6⟩
  · exact .inl h5
  · exact .inr ⟨g, cap, cur, hv, h0, (hb g (by rw [hv]; rfl)).trans hg, h6⟩
theorem RawAt.kept {w w' : World} {s : Nat} {S T : Nat → Prop} {u v : Value} {n m : Nat} {xs ys : List Value} (h : RawAt w s S u v n xs m ys) (ho : Only T w w') (hd : ∀ b, S b → b < w.heap.size → ¬ T b) : RawAt w' s S u v n xs m ys :=
  have hs := (Array.getElem?_eq_some_iff.1 h.box).1
  ⟨h.mem, (ho.block s hs (hd s h.mem hs)).trans h.box, row_block h.ids (fun g hg => ho.block g (row_lt h.ids hg) (hd g (h.hu g hg) (row_lt h.ids hg))),
    row_block h.live (fun g hg => ho.block g (row_lt h.live hg) (hd g (h.hv g hg) (row_lt h.live hg))), h.hu, h.hv⟩
theorem RawAt.later {w w' : World} {s : Nat} {S : Nat → Prop} {u v : Value} {n m : Nat} {xs ys : List Value} (h : RawAt w s S u v n xs m ys) (hb : Below w.heap.size w w') : RawAt w' s S u v n xs m ys := h.kept (Only.of_below hb) (fun b _ h1 h2 => by omega)
theorem RawAt.wider {w : World} {s : Nat} {S T : Nat → Prop} {u v : Value} {n m : Nat} {xs ys : List Value} (h : RawAt w s S u v n xs m ys) (hS : ∀ b, S b → b < w.heap.size → T b) : RawAt w s T u v n xs m ys :=
  ⟨hS s h.mem (Array.getElem?_eq_some_iff.1 h.box).1, h.box, h.ids, h.live, fun g hg => hS g (h.hu g hg) (row_lt h.ids hg), fun g hg => hS g (h.hv g hg) (row_lt h.live hg)⟩
theorem RefAt.kept {w w' : World} {s : Nat} {S T : Nat → Prop} {l : List Ent} (h : RefAt w s S l) (ho : Only T w w') (hd : ∀ b, S b → b < w.heap.size → ¬ T b) : RefAt w' s S l := by
  obtain ⟨u, v, h⟩ := h
  exact ⟨u, v, h.kept ho hd⟩
theorem RefAt.later {w w' : World} {s : Nat} {S : Nat → Prop} {l : List Ent} (h : RefAt w s S l) (hb : Below w.heap.size w w') : RefAt w' s S l := h.kept (Only.of_below hb) (fun b _ h1 h2 => by omega)
theorem RefAt.wider {w : World} {s : Nat} {S T : Nat → Prop} {l : List Ent} (h : RefAt w s S l) (hS : ∀ b, S b → b < w.heap.size → T b) : RefAt w s T l := by
  obtain ⟨u, v, h⟩ := h
  exact ⟨u, v, h.wider hS⟩
theorem bools_of_own {w : World} {b : Nat} {v : Value} {l : List Ent} (h : w.ownsRow b 4 1 v l.length (boolsE l)) : ∃ B d, v = .slice B l.length d ∧ l.length ≤ d ∧ ∀ (k : Nat) e, l[k]? = some e → ∃ be, B = some be ∧ w.cell? (be.add k) = some (.bool e.2) := by
  rcases h.2 with ⟨rfl, h0⟩ | ⟨g, cap, cur, rfl, _, hb, hnc, _, hsz, hcur⟩
  · obtain rfl : l = [] := List.eq_nil_of_length_eq_zero h0
    exact ⟨none, 0, rfl, Nat.le_refl _, fun k p hk => by simp at hk⟩
  · refine ⟨_, _, rfl, hnc, fun k e hk => ⟨_, rfl, ?_⟩⟩
    have hu : (boolsE l)[k]? = some (.bool e.2) := by simp [boolsE, hk]
    have hj : k < l.length * 1 := by have := (List.getElem?_eq_some_iff.1 hk).1; omega
    rw [← hcur, List.getElem?_take_of_lt hj] at hu
    rw [add_off]
    simp [World.cell?, hb]
    simpa using hu
theorem RefAt.r {w : World} {s : Nat} {S : Nat → Prop} {l : List Ent} (h : RefAt w s S l) : RefR w s l := by
  obtain ⟨u, v, h⟩ := h
  refine ⟨(Array.getElem?_eq_some_iff.1 h.box).1, ⟨u, by simp [World.cell?, h.box], ids_of_own (by rw [List.length_map]; exact h.ids)⟩, ?_⟩
  obtain ⟨B, d, hv, h1, h2⟩ := bools_of_own h.live
  exact ⟨B, d, by simp [World.cell?, h.box, hv], h1, h2⟩
/-- a new row of ids is laid in -/
theorem RawAt.put_ids {w : World} {s : Nat} {T : Nat → Prop} {u v u' : Value} {m n' : Nat} {ys xs' : List Value} (hb : w.heap[s]? = some (.cells #[u, v] 60 (0, 0))) (hl : w.ownsRow 0 4 1 v m ys) (hi : w.ownsRow 0 25 2 u' n' xs') (hs : T s) (hu : ∀ g, u'.ownBlock = some g → T g) (hv : ∀ g, v.ownBlock = some g → T g) :
    RawAt (w.setCell ⟨s, 0, none⟩ u') s T u' v n' xs' m ys := by
  have hne : ∀ {e k : Nat} {x : Value} {j : Nat} {zs : List Value}, w.ownsRow 0 e k x j zs → e ≠ 60 → ∀ g, x.ownBlock = some g → (w.setCell ⟨s, 0, none⟩ u').heap[g]? = w.heap[g]? := fun h he g hg => Below.heap_setCell w _ _ g (fun hc => row_ne h hb (Ne.symm he) (by rw [hg, hc]))
  exact ⟨hs, by simp [World.setCell, Array.getElem?_modify, hb], row_block hi (hne hi (by decide)), row_block hl (hne hl (by decide)), hu, hv⟩
/-- a new row of marks is laid in -/
theorem RawAt.put_live {w : World} {s : Nat} {T : Nat → Prop} {u v v' : Value} {n m' : Nat} {xs ys' : List Value} (hb : w.heap[s]? = some (.cells #[u, v] 60 (0, 0))) (hi : w.ownsRow 0 25 2 u n xs) (hl : w.ownsRow 0 4 1 v' m' ys') (hs : T s) (hu : ∀ g, u.ownBlock = some g → T g) (hv : ∀ g, v'.ownBlock = some g → T g) :
    RawAt (w.setCell ⟨s, 1, none⟩ v') s T u v' n xs m' ys' := by
  have hne : ∀ {e k : Nat} {x : Value} {j : Nat} {zs : List Value}, w.ownsRow 0 e k x j zs → e ≠ 60 → ∀ g, x.ownBlock = some g → (w.setCell ⟨s, 1, none⟩ v').heap[g]? = w.heap[g]? := fun h he g hg => Below.heap_setCell w _ _ g (fun hc => row_ne h hb (Ne.symm he) (by rw [hg, hc]))
  exact ⟨hs, by simp [World.setCell, Array.getElem?_modify, hb], row_block hi (hne hi (by decide)), row_block hl (hne hl (by decide)), hu, hv⟩

theorem info4 : (Try.prog.info? 4).map (fun i => (i.zero, i.size, i.bytes)) = some (some (.bool false), 1, 1) := by kernel_rfl
theorem at_block {v : Value} {g H n c k : Nat} (hat : v.ownBlock = some g ∨ g = H) (hk : k ≤ H) : ∀ g', (Value.slice (some ⟨g, 0, none⟩) n c).ownBlock = some g' → v.ownBlock = some g' ∨ k ≤ g' := by
  intro g' hg'
  injection hg' with hg'
  simp only at hg'
  subst hg'
  rcases hat with h | h
  · exact .inl h
  · exact .inr (by omega)
theorem at_block2 {v v' : Value} {H k : Nat} (hat : v'.ownBlock = v.ownBlock ∨ v'.ownBlock = some H) (hk : k ≤ H) : ∀ g', v'.ownBlock = some g' → v.ownBlock = some g' ∨ k ≤ g' := by
  intro g' hg'
  rcases hat with h | h
  · exact .inl (h.symm.trans hg')
  · rw [h] at hg'
    injection hg' with hg'
    exact .inr (by omega)
theorem lit_mark (w : World) (b : Bool) (g : Nat) (hg : g = w.heap.size) : ∀ j u, [Value.bool b][j]? = some u → (w.alloc (.cells #[.bool b] 4)).cell? ((⟨g, 0, none⟩ : Addr).add j) = some u := by
  subst hg
  exact World.news_of_block (cs := #[.bool b]) (t := 4) (fr := (0, 0)) (World.alloc_heap_new w _)
theorem ref_snoc {w : World} {s : Nat} {S : Nat → Prop} {L : List Ent} {u v : Value} {x y : Int} {b : Bool} (h : RawAt w s S u v (L.length + 1) (flat2 (L.map (·.1)) ++ [.int .i64 x, .int .i64 y]) (L.length + 1) (boolsE L ++ [.bool b])) : RefAt w s S (L ++ [((x, y), b)]) := by
  refine ⟨u, v, ?_⟩
  rw [List.length_append, List.map_append, flat2_app, boolsE_app]
  exact h
/-- between two rounds -/
def RN (w : World) (L : List Ent) (wr : World) : Prop := RefAt wr w.heap.size (fun b => w.heap.size ≤ b) L ∧ Below w.heap.size w wr
/-- behind the append of an id -/
theorem rn_ids {w w2 w5 : World} {u v u' : Value} {n n' m : Nat} {xs xs' ys : List Value} {o : Obj} (h : RawAt w2 w.heap.size (fun b => w.heap.size ≤ b) u v n xs m ys) (hB : Below w.heap.size w w2) (hown : w5.ownsRow 0 25 2 u' n' xs') (hg : (w2.alloc o).grownBy w5 u.ownBlock) (hat : ∀ g, u'.ownBlock = some g → u.ownBlock = some g ∨ w2.heap.size ≤ g) :
    (w5.heap[w.heap.size]? = some (.cells #[u, v] 60 (0, 0))) ∧ RawAt (w5.setCell ⟨w.heap.size, 0, none⟩ u') w.heap.size (fun b => w.heap.size ≤ b) u' v n' xs' m ys ∧ Below w.heap.size w (w5.setCell ⟨w.heap.size, 0, none⟩ u') := by
  have h1 := h.later ((Below.refl w2.heap.size w2).alloc (Nat.le_refl _) o)
  have hbox : w5.heap[w.heap.size]? = some (.cells #[u, v] 60 (0, 0)) := (hg.block _ (Array.getElem?_eq_some_iff.1 h1.box).1 (fun e => row_ne h1.ids h1.box (by decide) e.symm)).trans h1.box
  have hl : w5.ownsRow 0 4 1 v m ys := row_block h1.live (fun g hg9 => hg.block g (row_lt h1.live hg9) (fun e => row_row h1.live h1.ids (by decide) hg9 e.symm))
  refine ⟨hbox, RawAt.put_ids hbox hl hown (Nat.le_refl _) (fun g hg9 => ?_) h.hv, ?_⟩
  · rcases hat g hg9 with h2 | h2
    · exact h.hu g h2
    · have := hB.size; show w.heap.size ≤ g; omega
  · refine ((hB.alloc hB.size o).grown hg (by have := hB.size; simp; omega) (fun j e => h.hu j e)).setCell (p := ⟨w.heap.size, 0, none⟩) (Nat.le_refl _) u'
/-- behind the append of a mark -/
theorem rn_live {w w2 w5 : World} {u v v' : Value} {n m' m : Nat} {xs ys' ys : List Value} {o : Obj} (h : RawAt w2 w.heap.size (fun b => w.heap.size ≤ b) u v n xs m ys) (hB : Below w.heap.size w w2) (hown : w5.ownsRow 0 4 1 v' m' ys') (hg : (w2.alloc o).grownBy w5 v.ownBlock) (hat : ∀ g, v'.ownBlock = some g → v.ownBlock = some g ∨ w2.heap.size ≤ g) :
    (w5.heap[w.heap.size]? = some (.cells #[u, v] 60 (0, 0))) ∧ RawAt (w5.setCell ⟨w.heap.size, 1, none⟩ v') w.heap.size (fun b => w.heap.size ≤ b) u v' n xs m' ys' ∧ Below w.heap.size w (w5.setCell ⟨w.heap.size, 1, none⟩ v') := by
  have h1 := h.later ((Below.refl w2.heap.size w2).alloc (Nat.le_refl _) o)
  have hbox : w5.heap[w.heap.size]? = some (.cells #[u, v] 60 (0, 0)) := (hg.block _ (Array.getElem?_eq_some_iff.1 h1.box).1 (fun e => row_ne h1.live h1.box (by decide) e.symm)).trans h1.box
  have hl : w5.ownsRow 0 25 2 u n xs := row_block h1.ids (fun g hg9 => hg.block g (row_lt h1.ids hg9) (fun e => row_row h1.ids h1.live (by decide) hg9 e.symm))
  refine ⟨hbox, RawAt.put_live hbox hl hown (Nat.le_refl _) h.hu (fun g hg9 => ?_), ?_⟩
  · rcases hat g hg9 with h2 | h2
    · exact h.hv g h2
    · have := hB.size; show w.heap.size ≤ g; omega
  · refine ((hB.alloc hB.size o).grown hg (by have := hB.size; simp; omega) (fun j e => h.hv j e)).setCell (p := ⟨w.heap.size, 1, none⟩) (Nat.le_refl _) v'

set_option maxRecDepth 100000 in
set_option maxHeartbeats 6400000 in
theorem rnew_any (u : Value) (ids : List IdP) (w : World) (h : IdsAt w u ids) (hlen : ids.length ≤ 2000) :
    Calls Try.prog 12 #[u] w fun e w' => e = .returned (.pointer (some ⟨w.heap.size, 0, none⟩)) ∧ RefAt w' w.heap.size (fun b => w.heap.size ≤ b) (newE ids) ∧ Below w.heap.size w w' := by
  obtain ⟨i0, hj, hj0, hj1, hj2⟩ := info_parts info25
  obtain ⟨i4, hk, hk0, hk1, hk2⟩ := info_parts info4
  have hr0 : RN w [] (w.alloc (.cells #[.slice none 0 0, .slice none 0 0] 60)) :=
    ⟨⟨.slice none 0 0, .slice none 0 0, Nat.le_refl _, World.alloc_heap_new w _, ⟨rfl, .inl ⟨rfl, rfl⟩⟩, ⟨rfl, .inl ⟨rfl, rfl⟩⟩, (fun g hg => by cases hg), (fun g hg => by cases hg)⟩, (Below.refl _ _).alloc (Nat.le_refl _) _⟩
  have HR0 := Lib.hid hr0
  have HU := Lib.hid h
  obtain ⟨A, c, rfl, hc, hI⟩ := h
  have HI := Lib.hid hI
  clear hr0 hI
  go_enter Try.func12, Try.ntmps12
  go_wp2_with fail
  obtain ⟨w0, hw0⟩ : ∃ w0, w.alloc (.cells #[.slice none 0 0, .slice none 0 0] 60) = w0 := ⟨_, rfl⟩
  rw [hw0] at HR0 ⊢
  clear hw0
  go_loopw [4] (fun i wr => ∃ k : Nat, k ≤ ids.length ∧ i = .int .i64 k ∧ RN w (newE (ids.take k)) wr) (fun i _ => ids.length - (intOf i).toNat)
  case atStart => exact ⟨0, Nat.zero_le _, rfl, HR0.out⟩
  case round =>
    obtain ⟨k, hk9, rfl, hr⟩ := hrel
    have HR := Lib.hid hr
    clear hr HR0
    by_cases hlt : k < ids.length
    · have hx : ids[k]? = some ids[k] := List.getElem?_eq_getElem hlt
      obtain ⟨p, hp⟩ : ∃ p, ids[k] = p := ⟨_, rfl⟩
      rw [hp] at hx
      have hsn : newE (ids.take (k + 1)) = newS (newE (ids.take k)) p := by rw [List.take_add_one, hx]; exact newE_snoc _ _
      have hln := newE_len (ids.take k)
      rw [List.length_take] at hln
      obtain ⟨L, hL⟩ : ∃ L, newE (ids.take k) = L := ⟨_, rfl⟩
      rw [hL] at hsn hln HR
      have HSN := Lib.hid hsn
      obtain ⟨ad, rfl, c2, c3⟩ := HI.out k p hx
      have hza := cell_lt c2
      rw [add_block] at hza
      have c2' := (HR.out.2.cell (by rw [add_block]; exact hza)).trans c2
      have c3' := (HR.out.2.cell (p := ⟨(ad.add (k * 2)).block, _, none⟩) (by simp only [add_block]; exact hza)).trans c3
      obtain ⟨x, y⟩ := p
      simp only at c2' c3'
      have hi0 : (0 : Int) ≤ ↑k := by omega
      have hi1 : (↑k : Int) < ↑ids.length := by omega
      have hi2 : (↑ids.length : Int) ≤ ↑c := by omega
      obtain ⟨z, hz⟩ : ∃ z, ((x, y) == ((0 : Int), (0 : Int))) = z := ⟨_, rfl⟩
      have heq : ∀ w, (binOp .neq 25 (.agg #[.int .i64 x, .int .i64 y]) (.agg #[.int .i64 0, .int .i64 0])).run Try.prog w = .ok (.bool (!z)) w := fun w => by rw [← hz]; exact id_ne x y 0 0 w
      have HZ := Lib.hid hz
      have HP := Lib.hid hx
      clear hp hx hsn c2 c3 hza hL hz
      cases z
      · go_wp2_with fail
        refine (rfind_any _ L x y _ HR.out.1.r (by omega)).mono ?_
        rintro e w1 ⟨rfl, hB⟩
        have hRN : RN w L w1 := ⟨HR.out.1.later hB, HR.out.2.trans (hB.mono HR.out.2.size)⟩
        have HR1 := Lib.hid hRN
        have hza := cell_lt c2'
        rw [add_block] at hza
        have d2 := (hB.cell (by rw [add_block]; exact hza)).trans c2'
        have d3 := (hB.cell (p := ⟨(ad.add (k * 2)).block, _, none⟩) (by simp only [add_block]; exact hza)).trans c3'
        obtain ⟨u1, v1, hraw⟩ := hRN.1
        have HRAW := Lib.hid hraw
        obtain ⟨A1, c1, rfl⟩ := own_shape hraw.ids
        obtain ⟨B1, b1, rfl⟩ := own_shape hraw.live
        have q0 : w1.cell? ⟨w.heap.size, 0, none⟩ = some (.slice A1 L.length c1) := by simp [World.cell?, hraw.box]
        clear hB hRN hraw c2' c3' hza
        obtain ⟨f, hf⟩ : ∃ f, findE L (x, y) = f := ⟨_, rfl⟩
        rw [hf]
        have HFE := Lib.hid (show hasE L (x, y) = decide (0 ≤ f) by rw [has_find, hf])
        clear hf
        by_cases hf0 : f < 0
        · have hHas : hasE L (x, y) = false := by rw [HFE.out]; simpa using hf0
          by_cases hln2 : L.length < 1000
          · have ht : takesE L (x, y) = true := by unfold takesE; rw [hHas, HZ.out]; simpa using hln2
            have hlni : (↑L.length : Int) < 1000 := by omega
            have HSN2 := Lib.hid (show newE (ids.take (k + 1)) = L ++ [((x, y), true)] by rw [HSN.out]; unfold newS; rw [ht]; rfl)
            clear ht hHas
            have hz1 := HR1.out.2.size
            have p0 : w1.drew.cell? ⟨w.heap.size, 0, none⟩ = some (.slice A1 L.length c1) := q0
            have p1 : w1.drew.cell? (ad.add (k * 2)) = some (.int .i64 x) := d2
            have p2 : w1.drew.cell? ⟨(ad.add (k * 2)).block, (ad.add (k * 2)).off + 1, none⟩ = some (.int .i64 y) := d3
            have p3 : (w1.alloc (.cells #[.int .i64 x, .int .i64 y] 25)).drew.cell? ⟨w.heap.size, 0, none⟩ = some (.slice A1 L.length c1) := (((Below.refl w1.heap.size w1).alloc (Nat.le_refl _) (.cells #[.int .i64 x, .int .i64 y] 25)).cell (p := ⟨w.heap.size, 0, none⟩) (Array.getElem?_eq_some_iff.1 HRAW.out.box).1).trans q0
            have hrow := HRAW.out.ids
            go_wp2_with fail
            go_region_law ((refine step_append_lies _ (by rfl) (.tmp 40) (.tmp 45) 22 (by rfl) 0 25 i0 _ 2 16 Try.underlying22 hj hj0 hj1 hj2 (by rfl) (by omega) (.slice A1 L.length c1) L.length (flat2 (L.map (·.1))) (by rfl) ((hrow.alloc _).drew) (Addr.mk w1.heap.size 0 none) 1 1 [.int .i64 x, .int .i64 y] (by rfl) (by rfl) (World.news_of_block (cs := #[.int .i64 x, .int .i64 y]) (t := 25) (fr := (0, 0)) (World.alloc_heap_new w1 _)) (by simp [Value.oneCell']) (by omega) (by unfold maxLen; omega) (by omega) (by omega) (w1.heap.size + 1) (by show (w1.alloc _).heap.size = _; simp) ?_; intro gg cap w5 hown3 hgrow hat hlt; have hg2 : (w1.alloc (.cells #[.int .i64 x, .int .i64 y] 25)).grownBy w5 (Value.slice A1 L.length c1).ownBlock := ⟨hgrow.os, hgrow.tape, hgrow.output, hgrow.size, hgrow.block⟩; have hend := rn_ids HRAW.out HR1.out.2 hown3 hg2 (at_block hat (by omega)); have HEND := Lib.hid hend.2; have hc5 : w5.cell? ⟨w.heap.size, 0, none⟩ = some (.slice A1 L.length c1) := (by simp [World.cell?, hend.1]); have hf5 : w5.frozen? ⟨w.heap.size, 0, none⟩ = false := (by simp [World.frozen?, hend.1]); clear hend hown3 hgrow hg2 hat hlt))
            all_goals (
              have r1 : (w5.setCell ⟨w.heap.size, 0, none⟩ (.slice (some ⟨gg, 0, none⟩) (L.length + 1) cap)).cell? ⟨w.heap.size, 1, none⟩ = some (.slice B1 L.length b1) := by simp [World.cell?, HEND.out.1.box]
              obtain ⟨w6, hw6⟩ : ∃ w6, w5.setCell ⟨w.heap.size, 0, none⟩ (.slice (some ⟨gg, 0, none⟩) (L.length + 1) cap) = w6 := ⟨_, rfl⟩
              rw [hw6] at HEND r1 ⊢
              have hz6 := HEND.out.2.size
              clear hw6 hc5 hf5 p0 p1 p2 p3 hrow
              go_wp2_with (at_builtin; refine wpList_append_own_at _ rfl _ _ 58 rfl 0 4 i4 (.bool false) 1 1 Try.underlying58 hk hk0 hk1 hk2 rfl (by decide) _ _ _ rfl (HEND.out.1.live.alloc _) ⟨w6.heap.size, 0, none⟩ 1 1 [.bool true] rfl rfl (lit_mark _ _ _ rfl) (by simp [Value.oneCell']) (by unfold maxLen; omega) (by omega) (by omega) ?_; intro v1 w7 hown7 hgrow7 hnil7 hat7; have hend7 := rn_live HEND.out.1 HEND.out.2 hown7 hgrow7 (at_block2 hat7 (by simp)); obtain ⟨A7, c7, rfl⟩ := own_shape hown7; have HEND7 := Lib.hid hend7.2; have hc7 : w7.cell? ⟨w.heap.size, 1, none⟩ = some (.slice B1 L.length b1) := (by simp [World.cell?, hend7.1]); have hf7 : w7.frozen? ⟨w.heap.size, 1, none⟩ = false := (by simp [World.frozen?, hend7.1]); clear hend7 hown7 hgrow7 hnil7 hat7)
              exact ⟨⟨k + 1, by omega, by simp, by rw [HSN2.out]; exact ⟨ref_snoc HEND7.out.1, HEND7.out.2⟩⟩, by simp [intOf]; omega⟩)
          · have ht : takesE L (x, y) = false := by unfold takesE; rw [HZ.out]; simp; omega
            have hlni : ¬ (↑L.length : Int) < 1000 := by omega
            have HSN2 := Lib.hid (show newE (ids.take (k + 1)) = L by rw [HSN.out]; unfold newS; rw [ht]; rfl)
            clear ht hHas
            go_wp2_with fail
            go_roundw
            case rel => exact ⟨k + 1, by omega, by simp, by rw [HSN2.out]; exact HR1.out⟩
            case measure => simp [intOf]; omega
        · have hHas : hasE L (x, y) = true := by rw [HFE.out]; simpa using hf0
          have ht : takesE L (x, y) = false := by unfold takesE; rw [hHas]; simp
          have HSN2 := Lib.hid (show newE (ids.take (k + 1)) = L by rw [HSN.out]; unfold newS; rw [ht]; rfl)
          clear ht hHas
          go_wp2_with fail
          go_roundw
          case rel => exact ⟨k + 1, by omega, by simp, by rw [HSN2.out]; exact HR1.out⟩
          case measure => simp [intOf]; omega
      · have ht : takesE L (x, y) = false := by unfold takesE; rw [HZ.out]; simp
        have HSN2 := Lib.hid (show newE (ids.take (k + 1)) = L by rw [HSN.out]; unfold newS; rw [ht]; rfl)
        clear ht
        go_wp2_with fail
        go_roundw
        case rel => exact ⟨k + 1, by omega, by simp, by rw [HSN2.out]; exact HR.out⟩
        case measure => simp [intOf]; omega
    · obtain rfl : k = ids.length := by omega
      have hlt2 : ¬ (↑ids.length : Int) < ↑ids.length := by omega
      have hr := HR.out
      rw [List.take_length] at hr
      have HR2 := Lib.hid hr
      clear hr HR
      go_wp2
      go_ret
      exact ⟨rfl, HR2.out.1, HR2.out.2⟩
end Go.Proofs.Ytngomgjhakgehaa
