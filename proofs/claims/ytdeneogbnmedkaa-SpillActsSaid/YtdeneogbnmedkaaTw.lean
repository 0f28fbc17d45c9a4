/- Two boards side by side. -/
import Derived.Test.YtdeneogbnmedkaaP
namespace Go.Proofs.Ytdeneogbnmedkaa
open Go.RowKit Go.Maps

/-- two boards apart from one another, all of whose blocks were made behind w -/
def Two (w : World) (s1 s2 m1 m2 : Nat) (B1 B2 : Brd) (W : World) : Prop :=
  ∃ S T : Nat → Prop, BrdAt W s1 S m1 B1 ∧ BrdAt W s2 T m2 B2 ∧ (∀ b, S b → T b → False) ∧ (∀ b, S b ∨ T b → w.heap.size ≤ b) ∧ Below w.heap.size w W
section
variable {w W W' : World} {s1 s2 m1 m2 : Nat} {B1 B2 : Brd}
theorem Two.symm (h : Two w s1 s2 m1 m2 B1 B2 W) : Two w s2 s1 m2 m1 B2 B1 W := by
  obtain ⟨S, T, h1, h2, h3, h4, h5⟩ := h
  exact ⟨T, S, h2, h1, fun b ht hs => h3 b hs ht, fun b hb => h4 b hb.symm, h5⟩
theorem Two.below (h : Two w s1 s2 m1 m2 B1 B2 W) : Below w.heap.size w W := by
  obtain ⟨_, _, _, _, _, _, h⟩ := h
  exact h
theorem Two.later (h : Two w s1 s2 m1 m2 B1 B2 W) (hb : Below W.heap.size W W') : Two w s1 s2 m1 m2 B1 B2 W' := by
  obtain ⟨S, T, h1, h2, h3, h4, h5⟩ := h
  exact ⟨S, T, h1.later hb, h2.later hb, h3, h4, h5.trans (hb.mono h5.size)⟩
theorem two_after {S T : Nat → Prop} {B' : Brd} {m' : Nat} (h2 : BrdAt W s2 T m2 B2) (h3 : ∀ b, S b → T b → False) (h4 : ∀ b, S b ∨ T b → w.heap.size ≤ b) (h5 : Below w.heap.size w W)
    (hb : BrdAt W' s1 (fun b => S b ∨ W.heap.size ≤ b) m' B') (ho : Only S W W') : Two w s1 s2 m' m2 B' B2 W' := by
  refine ⟨fun b => S b ∨ W.heap.size ≤ b, fun b => T b ∧ b < W.heap.size, hb, ?_, fun b hs ht => ?_, fun b hb => ?_, h5.trans (ho.below h5.size (fun b hb => h4 b (.inl hb)))⟩
  · exact (h2.wider (T := fun b => T b ∧ b < W.heap.size) (fun b hb hl => ⟨hb, hl⟩)).kept ho (fun b hb _ hs => h3 b hs hb.1)
  · rcases hs with hs | hs
    · exact h3 b hs ht.1
    · have := ht.2; omega
  · rcases hb with (hb | hb) | hb
    · exact h4 b (.inl hb)
    · exact Nat.le_trans h5.size hb
    · exact h4 b (.inr hb.1)
theorem fill_two (h : Two w s1 s2 m1 m2 B1 B2 W) (hm : m1 ≤ 100000) {x y : Int} (hwf : Wf (x, y)) {r : Bool} {B' : Brd} (hr : fillR B1 (x, y) = r) (hB : fillB B1 (x, y) = B') :
    Calls Try.prog 13 #[.pointer (some ⟨s1, 0, none⟩), .int .i64 x, .int .i64 y] W fun e W' => e = .returned (.bool r) ∧ Two w s1 s2 (m1 + 1) m2 B' B2 W' := by
  obtain ⟨S, T, h1, h2, h3, h4, h5⟩ := h
  refine (fill_any x y hwf hm h1).mono ?_
  rintro e W' ⟨rfl, k1, k2⟩
  rw [hr]
  rw [hB] at k1
  exact ⟨rfl, two_after h2 h3 h4 h5 k1 k2⟩
theorem decide_two (h : Two w s1 s2 m1 m2 B1 B2 W) (hm : m1 ≤ 100000) {x y a b : Int} (hwf : Wf (x, y)) {r : Bool} {e : Int} {B' : Brd} (hr : decR B1 (x, y, a, b) = r) (he : decE B1 (x, y, a, b) = e) (hB : decB B1 (x, y, a, b) = B') :
    Calls Try.prog 15 #[.pointer (some ⟨s1, 0, none⟩), .int .i64 x, .int .i64 y, .int .i64 a, .int .i64 b] W fun e' W' => e' = .returned (.tuple #[.bool r, .int .i64 e]) ∧ Two w s1 s2 (m1 + 1) m2 B' B2 W' := by
  obtain ⟨S, T, h1, h2, h3, h4, h5⟩ := h
  refine (decide_any x y a b hwf hm h1).mono ?_
  rintro e W' ⟨rfl, k1, k2⟩
  rw [hr, he]
  rw [hB] at k1
  exact ⟨rfl, two_after h2 h3 h4 h5 k1 k2⟩
end
def fillsB (B : Brd) (l : List Pl) : Brd := l.foldl fillB B
theorem fillsB_snoc (B : Brd) (l : List Pl) (p : Pl) : fillsB B (l ++ [p]) = fillB (fillsB B l) p := by simp [fillsB]
theorem byte_wf {p : Pl} (h : Byte2 p) : Wf (p.1, p.2) := wf_of (by have := h.1; omega) (by have := h.2; omega)
theorem pairs_in {w : World} {A : Option Addr} {c : Nat} {l : List Pl} (h : PairsAt w (.slice A l.length c) l) {k : Nat} {d : Pl} (hk : l[k]? = some d) :
    ∃ ad, A = some ad ∧ ∀ W, Below w.heap.size w W → W.cell? (ad.add (k * 2)) = some (.int .u8 d.1) ∧ W.cell? ⟨(ad.add (k * 2)).block, (ad.add (k * 2)).off + 1, none⟩ = some (.int .u8 d.2) := by
  obtain ⟨A', c', hv, hc, hI⟩ := h
  simp only [Value.slice.injEq, true_and] at hv
  obtain ⟨rfl, rfl⟩ := hv
  obtain ⟨ad, rfl, h1, h2⟩ := hI k d hk
  exact ⟨ad, rfl, fun W hb => ⟨(hb.cell (cell_lt h1)).trans h1, (hb.cell (cell_lt h2)).trans h2⟩⟩
theorem box5 {w : World} {g t : Nat} {a b c d e : Value} (h : w.heap[g]? = some (.cells #[a, b, c, d, e] t (0, 0))) : w.cell? ⟨g, 0, none⟩ = some a ∧ w.cell? ⟨g, 1, none⟩ = some b ∧ w.cell? ⟨g, 2, none⟩ = some c ∧ w.cell? ⟨g, 3, none⟩ = some d ∧ w.cell? ⟨g, 4, none⟩ = some e := by
  refine ⟨?_, ?_, ?_, ?_, ?_⟩ <;> simp [World.cell?, h]

end Go.Proofs.Ytdeneogbnmedkaa
