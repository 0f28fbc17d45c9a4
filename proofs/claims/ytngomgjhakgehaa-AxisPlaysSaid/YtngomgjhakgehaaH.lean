/- New. -/
import Derived.Test.YtngomgjhakgehaaG
import Derived.Deep.AppendLies
import Derived.Deep.RegionLaw
import Derived.Deep.RegionLawGrows
import Derived.Deep.QuietTactic
import Derived.BigQuiet
namespace Go.Proofs.Ytngomgjhakgehaa
open Go.RowKit Go.Maps

/-- a row of ids in memory -/
def IdsAt (w : World) (v : Value) (l : List IdP) : Prop :=
  ∃ A c, v = .slice A l.length c ∧ l.length ≤ c ∧ ∀ (k : Nat) p, l[k]? = some p → ∃ ad, A = some ad ∧ w.cell? (ad.add (k * 2)) = some (.int .i64 p.1) ∧ w.cell? ⟨(ad.add (k * 2)).block, (ad.add (k * 2)).off + 1, none⟩ = some (.int .i64 p.2)
theorem IdsAt.below {w w' : World} {v : Value} {l : List IdP} (h : IdsAt w v l) (hb : Below w.heap.size w w') : IdsAt w' v l := by
  obtain ⟨A, c, hv, hc, h⟩ := h
  refine ⟨A, c, hv, hc, fun k p hk => ?_⟩
  obtain ⟨ad, hA, h1, h2⟩ := h k p hk
  exact ⟨ad, hA, (hb.cell (cell_lt h1)).trans h1, (hb.cell (cell_lt h2)).trans h2⟩
def SmallI (ids : List IdP) : Prop := ∀ p ∈ ids, Wf p

theorem info68 : (Try.prog.info? 68).map (fun i => (i.zero, i.size, i.bytes)) = some (some (.agg #[.int .i64 0, .int .i64 0, .bool false]), 3, 24) := by kernel_rfl

/-- between two rounds of New -/
structure NewRel (w : World) (l : List Ent) (k : Nat) (wr : World) : Prop where
  box : ∃ v, Boxed wr w.heap.size 54 v ∧ wr.ownsRow (w.heap.size + 2) 68 3 v l.length (flat3 l)
  map : ∃ D, wr.ownsMap Try.prog 25 (plainElem Try.prog 4) (w.heap.size + 1) k D ∧ RelM D l
  below : Below w.heap.size w wr
  size : w.heap.size + 2 ≤ wr.heap.size

/-- in the midst of a round that takes an id: the map knows it -/
structure NewMid (w : World) (L : List Ent) (k : Nat) (p : IdP) (v : Value) (g : Nat) (w2 : World) : Prop where
  box : Boxed w2 w.heap.size 54 v
  row : w2.ownsRow (w.heap.size + 2) 68 3 v L.length (flat3 L)
  map : ∃ D, w2.ownsMap Try.prog 25 (plainElem Try.prog 4) (w.heap.size + 1) (k + 1) D ∧ RelM D (L ++ [(p, true)])
  below : Below w.heap.size w w2
  idb : IdBox w2 g p
  size : w.heap.size + 2 ≤ w2.heap.size
theorem own_ge {w : World} {base : Nat} {v : Value} {n : Nat} {xs : List Value} (h : w.ownsRow base 68 3 v n xs) {b : Nat} (hb : b < base) : some b ≠ v.ownBlock := by
  rcases h.2 with ⟨rfl, _⟩ | ⟨g, cap, cur, rfl, hg, _⟩
  · intro he; cases he
  · intro he; injection he with he; simp only at he; omega
theorem new_mid {w wr w2 : World} {L : List Ent} {k : Nat} {p : IdP} {v : Value} {o : Obj} {D : DataW Unit} (hB : Below w.heap.size w wr) (hz : w.heap.size + 2 ≤ wr.heap.size) (hb : Boxed wr w.heap.size 54 v) (hr : wr.ownsRow (w.heap.size + 2) 68 3 v L.length (flat3 L)) (hi : IdBox (wr.alloc o) wr.heap.size p)
    (hm : w2.ownsMap Try.prog 25 (plainElem Try.prog 4) (w.heap.size + 1) (k + 1) D) (hg : (wr.alloc o).grownBy w2 (some (w.heap.size + 1))) (hrel : RelM D (L ++ [(p, true)])) : NewMid w L k p v wr.heap.size w2 := by
  have hblk : ∀ j, j < (wr.alloc o).heap.size → j ≠ w.heap.size + 1 → w2.heap[j]? = (wr.alloc o).heap[j]? := fun j hj hne => hg.block j hj (fun e => hne (by injection e))
  refine ⟨(hb.alloc o).kept hg (fun e => by injection e with e; omega), (hr.alloc o).kept hg (.inr (own_ge hr (by omega)).symm), ⟨D, hm, hrel⟩, ?_, ?_, ?_⟩
  · exact (hB.alloc (by omega) o).grown hg (by simp; omega) (fun j e => by injection e with e; omega)
  · refine ⟨(World.cell?_of_block (hblk _ hi.2.2 (by show wr.heap.size ≠ w.heap.size + 1; omega))).trans hi.1, (World.cell?_of_block (hblk _ hi.2.2 (by show wr.heap.size ≠ w.heap.size + 1; omega))).trans hi.2.1, Nat.lt_of_lt_of_le hi.2.2 hg.size⟩
  · have := hg.size; simp at this; omega
theorem new_end {w w2 w5 : World} {L : List Ent} {k g : Nat} {p : IdP} {v v' : Value} {o : Obj} (h : NewMid w L k p v g w2) (ho : w5.ownsRow (w.heap.size + 2) 68 3 v' (L.length + 1) (flat3 L ++ [.int .i64 p.1, .int .i64 p.2, .bool true])) (hg : (w2.alloc o).grownBy w5 v.ownBlock) :
    Boxed w5 w.heap.size 54 v ∧ NewRel w (L ++ [(p, true)]) (k + 1) (w5.setCell ⟨w.heap.size, 0, none⟩ v') := by
  have hbx : Boxed w5 w.heap.size 54 v := (h.box.alloc o).kept hg (h.box.not_row (by decide) h.row)
  obtain ⟨D, hm, hrel⟩ := h.map
  have hz := h.size
  refine ⟨hbx, ⟨v', hbx.set v', ?_⟩, ⟨D, ((hm.alloc o).kept hg (own_ge h.row (by omega))).setCell (by simp) _, hrel⟩, ?_, ?_⟩
  · have h1 : w5.ownsRow (w.heap.size + 2) 68 3 v' (L ++ [(p, true)]).length (flat3 (L ++ [(p, true)])) := by
      rw [flat3_app, List.length_append]
      exact ho
    exact h1.kept (grownBy_setCell' w5 w.heap.size v') (.inr (own_ge h1 (by omega)).symm)
  · refine ((h.below.alloc (by omega) o).grown hg (by simp; omega) (fun j e => ?_)).setCell (p := ⟨w.heap.size, 0, none⟩) (Nat.le_refl _) v'
    by_cases hj : w.heap.size ≤ j
    · exact hj
    · exact absurd e.symm (own_ge h.row (by omega))
  · have h1 := hg.size
    have h2 : (w5.setCell ⟨w.heap.size, 0, none⟩ v').heap.size = w5.heap.size := by simp [World.setCell]
    rw [h2]
    simp at h1
    omega

set_option maxHeartbeats 6400000 in
theorem new_any (u : Value) (ids : List IdP) (w : World) (h : IdsAt w u ids) (hs : SmallI ids) (hlen : ids.length ≤ 2000) :
    Calls Try.prog 11 #[u] w fun e w' => e = .returned (.pointer (some ⟨w.heap.size, 0, none⟩)) ∧ AxAt w' w.heap.size (fun b => w.heap.size ≤ b) (newE ids) ∧ Below w.heap.size w w' := by
  obtain ⟨i0, hj, hj0, hj1, hj2⟩ := info_parts info68
  have SA := Lib.hid hs
  obtain ⟨A, c, rfl, hc, hI⟩ := h
  have HI := Lib.hid hI
  clear hs hI
  have hW : NewRel w [] 0 ((w.alloc (.cells #[.slice none 0 0] 54)).alloc (.map #[] 0)) := by
    have hm := World.ownsMap_made (H := Unit) (w.alloc (.cells #[.slice none 0 0] 54)) Try.prog 25 (plainElem Try.prog 4)
    refine ⟨⟨_, (Boxed.new w 54 _).alloc _, rfl, .inl ⟨rfl, rfl⟩⟩, ⟨_, ?_, relM_nil⟩, ((Below.refl _ _).alloc (Nat.le_refl _) _).alloc (by simp) _, by simp⟩
    simpa using hm
  have HW := Lib.hid hW
  clear hW
  go_enter Try.func11, Try.ntmps11
  have hmm := @run_makeMap Try.prog
  go_wp2_with fail
  obtain ⟨w0, hw0⟩ : ∃ w0, ((w.alloc (.cells #[.slice none 0 0] 54)).alloc (.map #[] 0)) = w0 := ⟨_, rfl⟩
  rw [hw0] at HW ⊢
  clear hw0 hmm
  go_loopw [12] (fun i wr => ∃ k : Nat, k ≤ ids.length ∧ i = .int .i64 k ∧ NewRel w (newE (ids.take k)) k wr) (fun i _ => ids.length - (intOf i).toNat)
  case atStart => exact ⟨0, Nat.zero_le _, rfl, HW.out⟩
  case round =>
    obtain ⟨k, hk, rfl, hr⟩ := hrel
    have HR := Lib.hid hr
    clear hr HW
    by_cases hlt : k < ids.length
    · have hx : ids[k]? = some ids[k] := List.getElem?_eq_getElem hlt
      obtain ⟨p, hp⟩ : ∃ p, ids[k] = p := ⟨_, rfl⟩
      rw [hp] at hx
      have hsn : newE (ids.take (k + 1)) = newS (newE (ids.take k)) p := by rw [List.take_add_one, hx]; exact newE_snoc _ _
      have hln := newE_len (ids.take k)
      rw [List.length_take] at hln
      obtain ⟨L, hL⟩ : ∃ L, newE (ids.take k) = L := ⟨_, rfl⟩
      rw [hL] at hsn hln HR
      have HSN := Lib.hid hsn
      have hwf := SA.out p (List.mem_of_getElem? hx)
      have HWF := Lib.hid hwf
      obtain ⟨ad, rfl, c2, c3⟩ := HI.out k p hx
      have hza := cell_lt c2
      rw [add_block] at hza
      have c2' := (HR.out.below.cell (by rw [add_block]; exact hza)).trans c2
      have c3' := (HR.out.below.cell (p := ⟨(ad.add (k * 2)).block, _, none⟩) (by simp only [add_block]; exact hza)).trans c3
      obtain ⟨x, y⟩ := p
      simp only at c2' c3'
      have hi0 : (0 : Int) ≤ ↑k := by omega
      have hi1 : (↑k : Int) < ↑ids.length := by omega
      have hi2 : (↑ids.length : Int) ≤ ↑c := by omega
      have hwb : Below wr.heap.size wr (wr.alloc (.cells #[.int .i64 x, .int .i64 y] 25)) := (Below.refl _ _).alloc (Nat.le_refl _) _
      have hib := IdBox.new wr x y
      obtain ⟨v, hbx, hown⟩ := HR.out.box
      obtain ⟨D, hmp, hrm⟩ := HR.out.map
      have hsz := HR.out.size
      have hlk := map_look (hmp.alloc (.cells #[.int .i64 x, .int .i64 y] 25)) hrm hwf
      obtain ⟨r, hr⟩ : ∃ r, hasE L (x, y) = r := ⟨_, rfl⟩
      rw [hr] at hlk
      simp only at hlk
      have hc1 := (hbx.alloc (.cells #[.int .i64 x, .int .i64 y] 25)).cell
      obtain ⟨d0, d1, _⟩ := id hib
      simp only at d0 d1
      obtain ⟨w1, hw1⟩ : ∃ w1, w1 = wr.alloc (.cells #[.int .i64 x, .int .i64 y] 25) := ⟨_, rfl⟩
      clear hp hx hsn c2 c3 hza hwf hL
      have hv : ∃ A2 c2, v = .slice A2 L.length c2 := by
        rcases hown.2 with ⟨h1, h2⟩ | ⟨g, cap, cur, h1, _⟩
        · exact ⟨none, 0, by rw [h1, h2]⟩
        · exact ⟨_, _, h1⟩
      obtain ⟨A2, cc, rfl⟩ := hv
      have HB1 := Lib.hid hwb
      have HBX := Lib.hid hbx
      have HOW := Lib.hid hown
      have HMP := Lib.hid hmp
      have HRM := Lib.hid hrm
      have HHA := Lib.hid hr
      have HIB := Lib.hid hib
      have hstay : takesE L (x, y) = false → NewRel w (newE (ids.take (k + 1))) (k + 1) (wr.alloc (.cells #[.int .i64 x, .int .i64 y] 25)) := fun ht => by
        rw [HSN.out, show newS L (x, y) = L by unfold newS; rw [ht]; rfl]
        exact ⟨⟨_, HBX.out.alloc _, HOW.out.alloc _⟩, ⟨D, (HMP.out.alloc _).mono (by omega), HRM.out⟩, HR.out.below.trans (HB1.out.mono (by omega)), by simp; omega⟩
      have HST := Lib.hid hstay
      clear hbx hown hmp hrm hr hib hwb hstay hw1 w1
      by_cases h00 : x = 0 ∧ y = 0
      · obtain ⟨rfl, rfl⟩ := h00
        have ht : takesE L (0, 0) = false := by unfold takesE; simp
        have HN := Lib.hid (HST.out ht)
        clear ht HST hlk
        go_wp2_with fail
        go_roundw
        case rel => exact ⟨k + 1, by omega, by simp, HN.out⟩
        case measure => simp [intOf]; omega
      · have hne : ((x, y) == ((0 : Int), (0 : Int))) = false := by simpa using h00
        by_cases hcase : x = 0
        · have hy0 : (y == 0) = false := by subst hcase; simpa using h00
          have hx0 : (x == 0) = true := by simpa using hcase
          clear h00 hcase
          cases r
          · by_cases hln : L.length < 1000
            · have ht : takesE L (x, y) = true := by unfold takesE; rw [HHA.out, hne]; simpa using hln
              have hlni : (↑L.length : Int) < 1000 := by omega
              obtain ⟨w2, hrun, hown2, hgrow⟩ := (HMP.out.alloc (.cells #[.int .i64 x, .int .i64 y] 25)).update keyed25 Try.underlying66 (by unfold maxLen; omega) (key_of HWF.out) (show plainElem (H := Unit) Try.prog 4 (.bool true) = some (.lit (.bool true), []) by simp [plainElem, Try.underlying4])
              simp only at hrun
              have MID := Lib.hid (new_mid HR.out.below hsz HBX.out HOW.out HIB.out hown2 hgrow (relM_put HMP.out.isMap HRM.out HWF.out true))
              have HSN2 := Lib.hid (show newE (ids.take (k + 1)) = L ++ [((x, y), true)] by rw [HSN.out]; unfold newS; rw [ht]; rfl)
              clear ht HST hown2 hgrow hne
              have hb2 := MID.out.box
              have q0 : w2.drew.cell? ⟨w.heap.size, 0, none⟩ = some (.slice A2 L.length cc) := hb2.cell
              have q1 : w2.drew.cell? ⟨wr.heap.size, 0, none⟩ = some (.int .i64 x) := MID.out.idb.1
              have q2 : w2.drew.cell? ⟨wr.heap.size, 1, none⟩ = some (.int .i64 y) := MID.out.idb.2.1
              have q3 : (w2.alloc (.cells #[.int .i64 x, .int .i64 y, .bool true] 68)).drew.cell? ⟨w.heap.size, 0, none⟩ = some (.slice A2 L.length cc) := (hb2.alloc (.cells #[.int .i64 x, .int .i64 y, .bool true] 68)).cell
              have hrow := MID.out.row
              have hz2 := MID.out.size
              clear hb2
              go_wp2_with fail
              go_region_law ((refine step_append_lies _ (by rfl) (.tmp 39) (.tmp 42) 52 (by rfl) (w.heap.size + 2) 68 i0 _ 3 24 Try.underlying52 hj hj0 hj1 hj2 (by rfl) (by omega) (.slice A2 L.length cc) L.length (flat3 L) (by rfl) ((hrow.alloc _).drew) (Addr.mk w2.heap.size 0 none) 1 1 [.int .i64 x, .int .i64 y, .bool true] (by rfl) (by rfl) (World.news_of_block (cs := #[.int .i64 x, .int .i64 y, .bool true]) (t := 68) (fr := (0, 0)) (World.alloc_heap_new w2 _)) (by simp [Value.oneCell']) (by omega) (by unfold maxLen; omega) (by omega) (by show _ ≤ (w2.alloc _).heap.size; simp; omega) (w2.heap.size + 1) (by show (w2.alloc _).heap.size = _; simp) ?_; intro gg cap w5 hown3 hgrow hat hlt; have hg2 : (w2.alloc (.cells #[.int .i64 x, .int .i64 y, .bool true] 68)).grownBy w5 (Value.slice A2 L.length cc).ownBlock := ⟨hgrow.os, hgrow.tape, hgrow.output, hgrow.size, hgrow.block⟩; have hend := new_end MID.out hown3 hg2; have HEND := Lib.hid hend.2; have hc5 := hend.1.cell; have hf5 := hend.1.frozen; clear hend hown3 hgrow hg2 hat hlt))
              all_goals (
                go_wp2
                go_roundw
                case rel => exact ⟨k + 1, by omega, by simp, by rw [HSN2.out]; exact HEND.out⟩
                case measure => simp [intOf]; omega)
            · have ht : takesE L (x, y) = false := by unfold takesE; rw [HHA.out, hne]; simpa using hln
              have HN := Lib.hid (HST.out ht)
              have hlni : ¬ (↑L.length : Int) < 1000 := by omega
              clear ht HST hln hne
              go_wp2_with fail
              go_roundw
              case rel => exact ⟨k + 1, by omega, by simp, HN.out⟩
              case measure => simp [intOf]; omega
          · have ht : takesE L (x, y) = false := by unfold takesE; rw [HHA.out]; simp
            have HN := Lib.hid (HST.out ht)
            clear ht HST hne
            go_wp2_with fail
            go_roundw
            case rel => exact ⟨k + 1, by omega, by simp, HN.out⟩
            case measure => simp [intOf]; omega
        · have hx0 : (x == 0) = false := by simpa using hcase
          clear h00 hcase
          cases r
          · by_cases hln : L.length < 1000
            · have ht : takesE L (x, y) = true := by unfold takesE; rw [HHA.out, hne]; simpa using hln
              have hlni : (↑L.length : Int) < 1000 := by omega
              obtain ⟨w2, hrun, hown2, hgrow⟩ := (HMP.out.alloc (.cells #[.int .i64 x, .int .i64 y] 25)).update keyed25 Try.underlying66 (by unfold maxLen; omega) (key_of HWF.out) (show plainElem (H := Unit) Try.prog 4 (.bool true) = some (.lit (.bool true), []) by simp [plainElem, Try.underlying4])
              simp only at hrun
              have MID := Lib.hid (new_mid HR.out.below hsz HBX.out HOW.out HIB.out hown2 hgrow (relM_put HMP.out.isMap HRM.out HWF.out true))
              have HSN2 := Lib.hid (show newE (ids.take (k + 1)) = L ++ [((x, y), true)] by rw [HSN.out]; unfold newS; rw [ht]; rfl)
              clear ht HST hown2 hgrow hne
              have hb2 := MID.out.box
              have q0 : w2.drew.cell? ⟨w.heap.size, 0, none⟩ = some (.slice A2 L.length cc) := hb2.cell
              have q1 : w2.drew.cell? ⟨wr.heap.size, 0, none⟩ = some (.int .i64 x) := MID.out.idb.1
              have q2 : w2.drew.cell? ⟨wr.heap.size, 1, none⟩ = some (.int .i64 y) := MID.out.idb.2.1
              have q3 : (w2.alloc (.cells #[.int .i64 x, .int .i64 y, .bool true] 68)).drew.cell? ⟨w.heap.size, 0, none⟩ = some (.slice A2 L.length cc) := (hb2.alloc (.cells #[.int .i64 x, .int .i64 y, .bool true] 68)).cell
              have hrow := MID.out.row
              have hz2 := MID.out.size
              clear hb2
              go_wp2_with fail
              go_region_law ((refine step_append_lies _ (by rfl) (.tmp 39) (.tmp 42) 52 (by rfl) (w.heap.size + 2) 68 i0 _ 3 24 Try.underlying52 hj hj0 hj1 hj2 (by rfl) (by omega) (.slice A2 L.length cc) L.length (flat3 L) (by rfl) ((hrow.alloc _).drew) (Addr.mk w2.heap.size 0 none) 1 1 [.int .i64 x, .int .i64 y, .bool true] (by rfl) (by rfl) (World.news_of_block (cs := #[.int .i64 x, .int .i64 y, .bool true]) (t := 68) (fr := (0, 0)) (World.alloc_heap_new w2 _)) (by simp [Value.oneCell']) (by omega) (by unfold maxLen; omega) (by omega) (by show _ ≤ (w2.alloc _).heap.size; simp; omega) (w2.heap.size + 1) (by show (w2.alloc _).heap.size = _; simp) ?_; intro gg cap w5 hown3 hgrow hat hlt; have hg2 : (w2.alloc (.cells #[.int .i64 x, .int .i64 y, .bool true] 68)).grownBy w5 (Value.slice A2 L.length cc).ownBlock := ⟨hgrow.os, hgrow.tape, hgrow.output, hgrow.size, hgrow.block⟩; have hend := new_end MID.out hown3 hg2; have HEND := Lib.hid hend.2; have hc5 := hend.1.cell; have hf5 := hend.1.frozen; clear hend hown3 hgrow hg2 hat hlt))
              all_goals (
                go_wp2
                go_roundw
                case rel => exact ⟨k + 1, by omega, by simp, by rw [HSN2.out]; exact HEND.out⟩
                case measure => simp [intOf]; omega)
            · have ht : takesE L (x, y) = false := by unfold takesE; rw [HHA.out, hne]; simpa using hln
              have HN := Lib.hid (HST.out ht)
              have hlni : ¬ (↑L.length : Int) < 1000 := by omega
              clear ht HST hln hne
              go_wp2_with fail
              go_roundw
              case rel => exact ⟨k + 1, by omega, by simp, HN.out⟩
              case measure => simp [intOf]; omega
          · have ht : takesE L (x, y) = false := by unfold takesE; rw [HHA.out]; simp
            have HN := Lib.hid (HST.out ht)
            clear ht HST hne
            go_wp2_with fail
            go_roundw
            case rel => exact ⟨k + 1, by omega, by simp, HN.out⟩
            case measure => simp [intOf]; omega
    · obtain rfl : k = ids.length := by omega
      have hlt2 : ¬ (↑ids.length : Int) < ↑ids.length := by omega
      have hr := HR.out
      rw [List.take_length] at hr
      have HR2 := Lib.hid hr
      clear hr HR
      go_wp2
      go_ret
      obtain ⟨v, hbx, hown⟩ := HR2.out.box
      refine ⟨rfl, ⟨Nat.le_refl _, v, hbx, ⟨hown.1, ?_⟩, fun g hg => ?_⟩, HR2.out.below⟩
      · rcases hown.2 with h5 | ⟨g, cap, cur, hv, h0, h6⟩
        · exact .inl h5
        · exact .inr ⟨g, cap, cur, hv, Nat.zero_le _, h6⟩
      · rcases hown.2 with ⟨rfl, _⟩ | ⟨g', cap, cur, rfl, h0, _⟩
        · cases hg
        · injection hg with hg
          show w.heap.size ≤ g
          simp only at hg
          omega
end Go.Proofs.Ytngomgjhakgehaa
