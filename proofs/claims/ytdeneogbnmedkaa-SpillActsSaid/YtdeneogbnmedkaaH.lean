/- Decide. -/
import Derived.Test.YtdeneogbnmedkaaG
import Derived.Test.YtdeneogbnmedkaaK
import Derived.Deep.AppendLies
import Derived.Deep.RegionLaw
import Derived.Deep.RegionLawGrows
namespace Go.Proofs.Ytdeneogbnmedkaa
open Go.RowKit Go.Maps

/-- a board in the midst of a decision -/
structure BrdG (w : World) (s : Nat) (S : Nat → Prop) (rows cols : Int) (c o d : Nat) (v : Value) (nc no nd : Nat) (fc fo fd : Pl → Option Value) (la : List Pl) : Prop where
  blk : w.heap[s]? = some (.cells #[.int .i64 rows, .int .i64 cols, .map (some c), .map (some o), .map (some d), v] 69 (0, 0))
  mc : MapIs w c nc fc
  mo : MapIs w o no fo
  md : MapIs w d nd fd
  row : w.ownsRow 0 73 2 v la.length (flat2 la)
  ins : S s ∧ S c ∧ S o ∧ S d ∧ ∀ g, v.ownBlock = some g → S g
  ne : c ≠ o ∧ c ≠ d ∧ o ≠ d
theorem BrdW.g {w : World} {s : Nat} {S : Nat → Prop} {m : Nat} {B : Brd} {c o d : Nat} {v : Value} (h : BrdW w s S m B c o d v) : BrdG w s S B.rows B.cols c o d v m (m * 4096) m (conM B) (ownM B) (decM B) (ancs B) :=
  ⟨h.blk, h.mc, h.mo, h.md, by have := h.row; simpa [ancs] using this, h.ins, h.ne⟩
section
variable {w w' : World} {s : Nat} {S T : Nat → Prop} {rows cols : Int} {c o d : Nat} {v : Value} {nc no nd : Nat} {fc fo fd : Pl → Option Value} {la : List Pl}
theorem BrdG.kept (h : BrdG w s S rows cols c o d v nc no nd fc fo fd la) (ho : Only T w w') (hd : ∀ b, S b → b < w.heap.size → ¬ T b) : BrdG w' s S rows cols c o d v nc no nd fc fo fd la := by
  obtain ⟨i1, i2, i3, i4, i5⟩ := h.ins
  have hs : s < w.heap.size := (Array.getElem?_eq_some_iff.1 h.blk).1
  exact ⟨(ho.block s hs (hd s i1 hs)).trans h.blk, h.mc.kept (ho.block c h.mc.lt (hd c i2 h.mc.lt)), h.mo.kept (ho.block o h.mo.lt (hd o i3 h.mo.lt)), h.md.kept (ho.block d h.md.lt (hd d i4 h.md.lt)),
    own_kept h.row (fun g hg => ho.block g (own_lt h.row hg).1 (hd g (i5 g hg) (own_lt h.row hg).1)), h.ins, h.ne⟩
theorem BrdG.later (h : BrdG w s S rows cols c o d v nc no nd fc fo fd la) (hb : Below w.heap.size w w') : BrdG w' s S rows cols c o d v nc no nd fc fo fd la := h.kept (Only.of_below hb) (fun b _ h1 h2 => by omega)
theorem BrdG.cells (h : BrdG w s S rows cols c o d v nc no nd fc fo fd la) :
    w.cell? ⟨s, 0, none⟩ = some (.int .i64 rows) ∧ w.cell? ⟨s, 1, none⟩ = some (.int .i64 cols) ∧ w.cell? ⟨s, 2, none⟩ = some (.map (some c)) ∧ w.cell? ⟨s, 3, none⟩ = some (.map (some o)) ∧ w.cell? ⟨s, 4, none⟩ = some (.map (some d)) ∧ w.cell? ⟨s, 5, none⟩ = some v ∧ ∀ i, w.frozen? ⟨s, i, none⟩ = false := by
  have hb := h.blk
  refine ⟨?_, ?_, ?_, ?_, ?_, ?_, fun i => ?_⟩ <;> simp [World.cell?, World.frozen?, hb]
theorem BrdG.not_map (h : BrdG w s S rows cols c o d v nc no nd fc fo fd la) {b n : Nat} {f : Pl → Option Value} (hb : MapIs w b n f) : s ≠ b ∧ v.ownBlock ≠ some b := by
  obtain ⟨es, clock, hm⟩ := hb.is_map
  refine ⟨fun he => ?_, fun he => ?_⟩
  · have := h.blk
    rw [he, hm] at this
    cases this
  · obtain ⟨_, cur, hc⟩ := own_lt h.row he
    rw [hm] at hc
    cases hc
theorem BrdG.putC (h : BrdG w s S rows cols c o d v nc no nd fc fo fd la) (hg : w.grownBy w' (some c)) {n : Nat} {f : Pl → Option Value} (hm : MapIs w' c n f) : BrdG w' s S rows cols c o d v n no nd f fo fd la := by
  obtain ⟨n1, n2⟩ := h.not_map h.mc
  have hs : s < w.heap.size := (Array.getElem?_eq_some_iff.1 h.blk).1
  refine ⟨(hg.block s hs (fun e => n1 (by injection e))).trans h.blk, hm, h.mo.kept (hg.block o h.mo.lt (fun e => h.ne.1 (by injection e with e; exact e.symm))), h.md.kept (hg.block d h.md.lt (fun e => h.ne.2.1 (by injection e with e; exact e.symm))), own_kept h.row (fun g hg' => hg.block g (own_lt h.row hg').1 (fun e => n2 (by rw [hg', e]))), h.ins, h.ne⟩
theorem BrdG.putO (h : BrdG w s S rows cols c o d v nc no nd fc fo fd la) (hg : w.grownBy w' (some o)) {n : Nat} {f : Pl → Option Value} (hm : MapIs w' o n f) : BrdG w' s S rows cols c o d v nc n nd fc f fd la := by
  obtain ⟨n1, n2⟩ := h.not_map h.mo
  have hs : s < w.heap.size := (Array.getElem?_eq_some_iff.1 h.blk).1
  refine ⟨(hg.block s hs (fun e => n1 (by injection e))).trans h.blk, h.mc.kept (hg.block c h.mc.lt (fun e => h.ne.1 (by injection e))), hm, h.md.kept (hg.block d h.md.lt (fun e => h.ne.2.2 (by injection e with e; exact e.symm))), own_kept h.row (fun g hg' => hg.block g (own_lt h.row hg').1 (fun e => n2 (by rw [hg', e]))), h.ins, h.ne⟩
theorem BrdG.putD (h : BrdG w s S rows cols c o d v nc no nd fc fo fd la) (hg : w.grownBy w' (some d)) {n : Nat} {f : Pl → Option Value} (hm : MapIs w' d n f) : BrdG w' s S rows cols c o d v nc no n fc fo f la := by
  obtain ⟨n1, n2⟩ := h.not_map h.md
  have hs : s < w.heap.size := (Array.getElem?_eq_some_iff.1 h.blk).1
  refine ⟨(hg.block s hs (fun e => n1 (by injection e))).trans h.blk, h.mc.kept (hg.block c h.mc.lt (fun e => h.ne.2.1 (by injection e))), h.mo.kept (hg.block o h.mo.lt (fun e => h.ne.2.2 (by injection e))), hm, own_kept h.row (fun g hg' => hg.block g (own_lt h.row hg').1 (fun e => n2 (by rw [hg', e]))), h.ins, h.ne⟩
/-- one anchor more -/
theorem BrdG.putRow (h : BrdG w s S rows cols c o d v nc no nd fc fo fd la) {v' : Value} {g : Nat} {la' : List Pl} (ho : w'.ownsRow 0 73 2 v' la'.length (flat2 la')) (hg : w.grownBy w' v.ownBlock) (hv : v'.ownBlock = some g) (hat : v.ownBlock = some g ∨ T g) (hST : ∀ b, S b → T b) (hsg : s ≠ g) :
    (w'.cell? ⟨s, 5, none⟩ = some v ∧ w'.frozen? ⟨s, 5, none⟩ = false) ∧ BrdG (w'.setCell ⟨s, 5, none⟩ v') s T rows cols c o d v' nc no nd fc fo fd la' := by
  have hs : s < w.heap.size := (Array.getElem?_eq_some_iff.1 h.blk).1
  obtain ⟨i1, i2, i3, i4, i5⟩ := h.ins
  have hne : some s ≠ v.ownBlock := fun e => by
    obtain ⟨_, cur, hc⟩ := own_lt h.row e.symm
    rw [h.blk] at hc
    injection hc with hc
    injection hc with _ hc
    cases hc
  have hb : w'.heap[s]? = some (.cells #[.int .i64 rows, .int .i64 cols, .map (some c), .map (some o), .map (some d), v] 69 (0, 0)) := (hg.block s hs hne).trans h.blk
  have hmap : ∀ {b n f}, MapIs w b n f → MapIs (w'.setCell ⟨s, 5, none⟩ v') b n f := fun hm => hm.kept ((Below.heap_setCell _ _ _ _ (h.not_map hm).1.symm).trans (hg.block _ hm.lt (fun e => (h.not_map hm).2 e.symm)))
  refine ⟨⟨by simp [World.cell?, hb], by simp [World.frozen?, hb]⟩, ?_, hmap h.mc, hmap h.mo, hmap h.md, ?_, ⟨hST s i1, hST c i2, hST o i3, hST d i4, fun g' hg' => ?_⟩, h.ne⟩
  · simp [World.setCell, Array.getElem?_modify, hb]
  · exact own_kept ho (fun g' hg' => Below.heap_setCell _ _ _ _ (fun e => hsg (by rw [hv] at hg'; injection hg' with hg'; rw [hg', e])))
  · rw [hv] at hg'
    injection hg' with hg'
    subst hg'
    rcases hat with hat | hat
    · exact hST g (i5 g hat)
    · exact hat
end
theorem ownM_add {B : Brd} {r : R4} (hs : (judF B r).st = true) (p : Pl) : (if p ∈ cellsF r then some (rcV r) else ownM B p) = ownM (addD B r) p := by
  unfold ownM addD
  rw [ownF_snoc, judF_r, hs]
  by_cases hp : p ∈ cellsF r
  · have h1 := (judF_st hs).2.2 p (mem_cells.1 hp)
    unfold barF at h1
    simp only [Bool.or_eq_false_iff, Option.isSome_eq_false_iff, Option.isNone_iff_eq_none] at h1
    rw [if_pos hp, h1.2, mem_cells.1 hp]
    rfl
  · have h1 : inR r p = false := by
      cases h : inR r p with
      | false => rfl
      | true => exact (hp (mem_cells.2 h)).elim
    rw [if_neg hp, h1]
    simp
theorem ownM_same {B : Brd} {r : R4} (hs : (judF B r).st = false) (p : Pl) : ownM B p = ownM (addD B r) p := by
  unfold ownM addD
  rw [ownF_snoc, hs]
  simp
theorem decM_add {B : Brd} {r : R4} (hn : decF B.l (anc r) = none) (q : Pl) : (if q = anc r then some (dcV (judF B r)) else decM B q) = decM (addD B r) q := by
  unfold decM addD
  rw [decF_snoc, judF_r]
  by_cases hq : q = anc r
  · subst hq
    rw [if_pos rfl, hn]
    simp
  · have h1 : (anc r == q) = false := by simpa using fun h : anc r = q => hq h.symm
    rw [if_neg hq, h1]
    simp
theorem conM_add (B : Brd) (r : R4) : conM B = conM (addD B r) := rfl
theorem ancs_add (B : Brd) (r : R4) : ancs (addD B r) = ancs B ++ [anc r] := by simp [ancs, addD, judF_r]
theorem only_grown {S : Nat → Prop} {w w' : World} {b : Nat} (h : w.grownBy w' (some b)) (hb : S b) : Only S w w' := (Only.of_grown h).mono (fun k hk _ => by injection hk with hk; rw [← hk]; exact hb)
/-- the end of a decision -/
theorem dec_end {w : World} {s : Nat} {S : Nat → Prop} {m : Nat} {B : Brd} {r : R4} {c o d : Nat} {v : Value} {no : Nat} {fo : Pl → Option Value} {la : List Pl} (hi : Inv B) (he : decE B r = 0) (hl : B.l.length ≤ m) (hn : no ≤ (m + 1) * 4096) (hla : la = ancs B ++ [anc r])
    (hfo : ∀ p, fo p = ownM (addD B r) p) (h : BrdG w s S B.rows B.cols c o d v m no (m + 1) (conM B) fo (fun q => if q = anc r then some (dcV (judF B r)) else decM B q) la) : BrdAt w s S (m + 1) (decB B r) := by
  have hdb : decB B r = addD B r := by unfold decB; rw [if_pos he]
  have hlen : (addD B r).l.length = la.length := by rw [hla]; simp [addD, ancs]
  refine ⟨inv_dec hi r, c, o, d, v, ?_⟩
  rw [hdb]
  refine ⟨h.blk, h.mc.mono (by omega), (h.mo.ext hfo).mono hn, h.md.ext (decM_add (decE_zero he).2.2.2), ?_, h.ins, h.ne, by rw [hlen, hla]; simp [ancs]; omega⟩
  rw [hlen, ancs_add, ← hla]
  exact h.row
end Go.Proofs.Ytdeneogbnmedkaa
