/- Of: what is seen of some ids, the program's and the document's. -/
import Derived.Test.YtggcnglnclpaeaaE
import Derived.Test.YtggcnglnclpaeaaL
namespace Go.Proofs.Ytggcnglnclpaeaa
open Go.RowKit Go.Maps

/-- what an Add may turn holds no int -/
theorem foot_int {w : World} {s K : Nat} {S : Nat → Prop} {l : Row} (h : SeenAt w s S K l) {b : Nat} (hb : Foot w s S b) (a : Addr) (n : Int) (ha : a.block = b) : w.cell? a ≠ some (.int .i64 n) := by
  obtain ⟨ab, ao, asp⟩ := a
  simp only at ha
  subst ha
  rcases hb with rfl | ⟨_, es, c, hm⟩
  · have hm : ∃ m, w.heap[ab]? = some (.cells #[.map m] 47 (0, 0)) := by
      rcases h.2.2 with ⟨h6, _⟩ | ⟨_, _, _, _, h6, _⟩
      · exact ⟨_, h6⟩
      · exact ⟨_, h6⟩
    obtain ⟨m, hm⟩ := hm
    unfold World.cell?
    rw [hm]
    simp only
    split
    · simp
    · rcases Nat.eq_zero_or_pos ao with rfl | hpos
      · simp
      · rw [Array.getElem?_eq_none (by simp; omega)]; simp
  · unfold World.cell?
    rw [hm]
    simp
theorem IdsAt.foot {w w' : World} {s K : Nat} {S : Nat → Prop} {l m : Row} {v : Value} (h : IdsAt w v m) (hs : SeenAt w s S K l) (ho : Only (Foot w s S) w w') : IdsAt w' v m :=
  h.kept ho (fun _ hb _ a n ha => foot_int hs hb a n ha)
theorem int_foot {w w' : World} {s K : Nat} {S : Nat → Prop} {l : Row} (hs : SeenAt w s S K l) (ho : Only (Foot w s S) w w') {a : Addr} {n : Int} (hc : w.cell? a = some (.int .i64 n)) : w'.cell? a = some (.int .i64 n) :=
  (World.cell?_of_block (ho.block _ (cell_lt hc) (fun hb => foot_int hs hb a n rfl hc))).trans hc

/-- all that came is small -/
def Small (ids : Row) : Prop := ∀ p ∈ ids, (-9223372036854775808 ≤ p.1 ∧ p.1 ≤ 9223372036854775807) ∧ -9223372036854775808 ≤ p.2 ∧ p.2 ≤ 9223372036854775807
theorem Small.take {ids : Row} (h : Small ids) (k : Nat) : ∀ p ∈ ids.take k, p.2 ≤ 9223372036854775807 := fun p hp => (h p (List.mem_of_mem_take hp)).2.2
/-- what lies behind Of -/
def OfOut (w : World) (ids : Row) (e : Ending) (w' : World) : Prop :=
  ∃ v, e = .returned (.tuple #[.pointer (some ⟨w.heap.size, 0, none⟩), v]) ∧ SeenAt w' w.heap.size (fun b => w.heap.size ≤ b) ids.length (addsL [] ids) ∧ IdsAt w' v (addsL [] ids) ∧ Below w.heap.size w w'

set_option maxHeartbeats 3200000 in
theorem of_any (v : Value) (ids : Row) (w : World) (h : IdsAt w v ids) (hs : Small ids) (hlen : ids.length ≤ 1000) :
    Calls Try.prog 19 #[v] w (OfOut w ids) := by
  obtain ⟨A, c, rfl, hc, hI⟩ := h
  have HI := Lib.hid hI
  have HS := Lib.hid hs
  have hs0 : SeenAt (w.alloc (.cells #[.map none] 47)) w.heap.size (fun b => w.heap.size ≤ b) 0 [] := ⟨Nat.le_refl _, OkR.nil, .inl ⟨Boxed.new w 47 (.map none), rfl⟩⟩
  have HS0 := Lib.hid hs0
  have hb0 : Below w.heap.size w (w.alloc (.cells #[.map none] 47)) := (Below.refl _ _).alloc (Nat.le_refl _) _
  have HB0 := Lib.hid hb0
  clear hI hs hs0 hb0
  go_enter Try.func19, Try.ntmps19
  go_wp2_with (go_at_call 11; refine (new_any _).mono ?_; rintro e w1 ⟨rfl, rfl⟩)
  go_loopw [5, 11] (fun o i wr => ∃ k : Nat, k ≤ ids.length ∧ i = .int .i64 k ∧ IdsAt wr o (addsL [] (ids.take k)) ∧ SeenAt wr w.heap.size (fun b => w.heap.size ≤ b) k (addsL [] (ids.take k)) ∧ Below w.heap.size w wr) (fun _ i _ => ids.length - (intOf i).toNat)
  case atStart => exact ⟨0, Nat.zero_le _, rfl, IdsAt.nil _, HS0.out, HB0.out⟩
  case round =>
    obtain ⟨k, hk, rfl, hi, hsn, hB⟩ := hrel
    have HID := Lib.hid hi
    have HSN := Lib.hid hsn
    have HB := Lib.hid hB
    clear hi hsn hB
    by_cases hlt : k < ids.length
    · have hx : ids[k]? = some ids[k] := List.getElem?_eq_getElem hlt
      obtain ⟨p, hp⟩ : ∃ p, ids[k] = p := ⟨_, rfl⟩
      rw [hp] at hx
      obtain ⟨ad, rfl, c2, c3⟩ := HI.out k p hx
      have hza := cell_lt c2
      rw [add_block] at hza
      have c2' := (HB.out.cell (by rw [add_block]; exact hza)).trans c2
      have c3' := (HB.out.cell (p := ⟨(ad.add (k * 2)).block, _, none⟩) (by simp only [add_block]; exact hza)).trans c3
      have hps := HS.out p (List.mem_of_getElem? hx)
      have hsn : addsL [] (ids.take (k + 1)) = addL (addsL [] (ids.take k)) p.1 p.2 := by rw [List.take_add_one, hx]; exact addsL_snoc _ _ _
      have HNX := Lib.hid hsn
      have hll := addsL_len [] (ids.take k)
      rw [List.length_take] at hll
      obtain ⟨x, y⟩ := p
      obtain ⟨⟨p1, p2⟩, p3, p4⟩ := hps
      have hi0 : (0 : Int) ≤ ↑k := by omega
      have hi1 : (↑k : Int) < ↑ids.length := by omega
      have hi2 : (↑ids.length : Int) ≤ ↑c := by omega
      have hz := HB.out.size
      obtain ⟨lk, hlk⟩ : ∃ lk, addsL [] (ids.take k) = lk := ⟨_, rfl⟩
      rw [hlk] at HID HSN HNX hll
      clear hp hx hsn c2 c3 hlk
      go_wp2_with fail
      have hbA : Below wr.heap.size wr (wr.alloc (.cells #[.int .i64 x, .int .i64 y] 24)) := (Below.refl _ _).alloc (Nat.le_refl _) _
      have hsA := (HSN.out.kept (Only.of_below hbA) (fun b _ h1 h2 => by omega))
      have hiA := HID.out.below hbA
      have cA0 : (wr.alloc (.cells #[.int .i64 x, .int .i64 y] 24)).cell? ⟨wr.heap.size, 0, none⟩ = some (.int .i64 x) := (World.cell?_alloc_new _ _ _ _).trans rfl
      have cA1 : (wr.alloc (.cells #[.int .i64 x, .int .i64 y] 24)).cell? ⟨wr.heap.size, 1, none⟩ = some (.int .i64 y) := (World.cell?_alloc_new _ _ _ _).trans rfl
      have hbB : Below w.heap.size w (wr.alloc (.cells #[.int .i64 x, .int .i64 y] 24)) := HB.out.trans (hbA.mono hz)
      refine (add_any w.heap.size (fun b => w.heap.size ≤ b) k lk x y _ hsA p1 p2 p4 (by unfold maxLen; omega)).mono ?_
      rintro e w3 ⟨rfl, hs3, hO3⟩
      have hi3 := hiA.foot hsA hO3
      have d0 := int_foot hsA hO3 cA0
      have d1 := int_foot hsA hO3 cA1
      have hb3 : Below w.heap.size w w3 := hbB.trans (hO3.below hbB.size (fun b hb => by rcases hb with hb | ⟨hb, _⟩; omega; exact hb))
      have hok := HSN.out.ok
      have HS3 := Lib.hid (hs3.wider (T := fun b => w.heap.size ≤ b) (fun b hb _ => by rcases hb with hb | hb; exact hb; have := hbB.size; omega) (Nat.le_refl _))
      have HB3 := Lib.hid hb3
      have HI3 := Lib.hid hi3
      have HOK := Lib.hid hok
      clear hbA hsA hiA cA0 cA1 hbB hs3 hO3 hi3 hb3 hok c2' c3'
      go_wp2_with fail
      refine (radd_any _ lk x y w3 HI3.out HOK.out (by simp at hll; omega)).mono ?_
      rintro e w4 ⟨v', rfl, hi4, hb4⟩
      have HI4 := Lib.hid hi4
      have HB4 := Lib.hid (HB3.out.trans (hb4.mono HB3.out.size))
      have HS4 := Lib.hid (HS3.out.kept (Only.of_below hb4) (fun b _ h1 h2 => by omega))
      clear hi4 hb4 d0 d1
      go_wp2
      go_roundw
      case rel => exact ⟨k + 1, by omega, by simp, by rw [HNX.out]; exact HI4.out, by rw [HNX.out]; exact HS4.out, HB4.out⟩
      case measure => simp [intOf]; omega
    · obtain rfl : k = ids.length := by omega
      rw [List.take_length] at HID HSN
      go_wp2
      exact bodyPost_ret (v := .tuple #[.pointer (some ⟨w.heap.size, 0, none⟩), _]) (by simp [results, Try.results19, go_sem]) rfl ⟨_, rfl, HSN.out, HID.out, HB.out⟩
end Go.Proofs.Ytggcnglnclpaeaa
