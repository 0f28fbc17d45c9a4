/- One board from a base world; the document's example. -/
import Derived.Test.YtdeneogbnmedkaaL
namespace Go.Proofs.Ytdeneogbnmedkaa
open Go.RowKit Go.Maps

/-- a board all of whose blocks were made behind w -/
def Up (w : World) (s m : Nat) (B : Brd) (W : World) : Prop := BrdAt W s (fun b => w.heap.size ≤ b) m B ∧ Below w.heap.size w W
section
variable {w W W' : World} {s m : Nat} {B : Brd}
theorem Up.later (h : Up w s m B W) (hb : Below W.heap.size W W') : Up w s m B W' := ⟨h.1.later hb, h.2.trans (hb.mono h.2.size)⟩
theorem Up.after {S : Nat → Prop} {B' : Brd} {m' : Nat} (h : Up w s m B W) (hb : BrdAt W' s (fun b => S b ∨ W.heap.size ≤ b) m' B') (ho : Only S W W') (hS : ∀ b, S b → w.heap.size ≤ b) : Up w s m' B' W' :=
  ⟨hb.wider (fun b hb _ => by rcases hb with hb | hb; exact hS b hb; exact Nat.le_trans h.2.size hb), h.2.trans (ho.below h.2.size hS)⟩
theorem fill_up (h : Up w s m B W) (hm : m ≤ 100000) {x y : Int} (hwf : Wf (x, y)) {r : Bool} {B' : Brd} (hr : fillR B (x, y) = r) (hB : fillB B (x, y) = B') :
    Calls Try.prog 13 #[.pointer (some ⟨s, 0, none⟩), .int .i64 x, .int .i64 y] W fun e W' => e = .returned (.bool r) ∧ Up w s (m + 1) B' W' := by
  refine (fill_any x y hwf hm h.1).mono ?_
  rintro e W' ⟨rfl, h1, h2⟩
  rw [hr]
  rw [hB] at h1
  exact ⟨rfl, h.after h1 h2 (fun _ hb => hb)⟩
theorem decide_up (h : Up w s m B W) (hm : m ≤ 100000) {x y a b : Int} (hwf : Wf (x, y)) {r : Bool} {e : Int} {B' : Brd} (hr : decR B (x, y, a, b) = r) (he : decE B (x, y, a, b) = e) (hB : decB B (x, y, a, b) = B') :
    Calls Try.prog 15 #[.pointer (some ⟨s, 0, none⟩), .int .i64 x, .int .i64 y, .int .i64 a, .int .i64 b] W fun e' W' => e' = .returned (.tuple #[.bool r, .int .i64 e]) ∧ Up w s (m + 1) B' W' := by
  refine (decide_any x y a b hwf hm h.1).mono ?_
  rintro e W' ⟨rfl, h1, h2⟩
  rw [hr, he]
  rw [hB] at h1
  exact ⟨rfl, h.after h1 h2 (fun _ hb => hb)⟩
theorem owner_up (h : Up w s m B W) {x y : Int} (hwf : Wf (x, y)) {v : Value} (hv : ownA B (x, y) = v) :
    Calls Try.prog 20 #[.pointer (some ⟨s, 0, none⟩), .int .i64 x, .int .i64 y] W fun e W' => e = .returned v ∧ Up w s m B W' := by
  refine (owner_any x y hwf h.1).mono ?_
  rintro e W' ⟨rfl, hb⟩
  rw [hv]
  exact ⟨rfl, h.later hb⟩
theorem blocker_up (h : Up w s m B W) {x y : Int} (hwf : Wf (x, y)) {v : Value} (hv : barA B (x, y) = v) :
    Calls Try.prog 21 #[.pointer (some ⟨s, 0, none⟩), .int .i64 x, .int .i64 y] W fun e W' => e = .returned v ∧ Up w s m B W' := by
  refine (blocker_any x y hwf h.1).mono ?_
  rintro e W' ⟨rfl, hb⟩
  rw [hv]
  exact ⟨rfl, h.later hb⟩
theorem new_up {x y : Int} {B' : Brd} (hW : Below w.heap.size w W) (hB : newF x y = B') :
    Calls Try.prog 10 #[.int .i64 x, .int .i64 y] W fun e W' => e = .returned (.pointer (some ⟨W.heap.size + 3, 0, none⟩)) ∧ Up w (W.heap.size + 3) 0 B' W' := by
  refine (new_any x y W).mono ?_
  rintro e W' ⟨rfl, h1, h2, _⟩
  rw [hB] at h1
  exact ⟨rfl, h1.wider (fun b hb _ => Nat.le_trans hW.size hb.1), hW.trans (h2.mono hW.size)⟩
end
def X1 : Brd := newF 3 3
def X2 : Brd := fillB X1 (0, 0)
def X3 : Brd := fillB X2 (2, 1)
def X4 : Brd := decB X3 (0, 0, 3, 2)
def X5 : Brd := decB X4 (2, 1, 1, 2)
theorem wf00 : Wf (0, 0) := by constructor <;> rfl
theorem wf21 : Wf (2, 1) := by constructor <;> rfl
set_option maxHeartbeats 2000000 in
theorem awake_any (w : World) : Calls Try.prog 9 #[] w fun e w' => e = .returned (.bool true) ∧ Below w.heap.size w w' := by
  have b1 : fillR X1 (0, 0) = true := by decide
  have b2 : fillR X2 (2, 1) = true := by decide
  have b3 : decR X3 (0, 0, 3, 2) = false := by decide
  have b4 : decE X3 (0, 0, 3, 2) = 0 := by decide
  have b5 : decR X4 (2, 1, 1, 2) = true := by decide
  have b6 : decE X4 (2, 1, 1, 2) = 0 := by decide
  have b7 : barA X5 (0, 0) = .tuple #[.int .i64 2, .int .i64 1, .bool true] := by rfl
  have B1 := Lib.hid b1
  have B2 := Lib.hid b2
  have B3 := Lib.hid (And.intro b3 b4)
  have B5 := Lib.hid (And.intro b5 b6)
  have B7 := Lib.hid b7
  clear b1 b2 b3 b4 b5 b6 b7
  go_enter Try.func9, Try.ntmps9
  go_wp2_with fail
  refine (new_up (B' := X1) (Below.refl _ _) rfl).mono ?_
  rintro e w1 ⟨rfl, h1⟩
  have H1 := Lib.hid h1
  clear h1
  go_wp2_with fail
  refine (fill_up H1.out (by omega) wf00 B1.out (B' := X2) rfl).mono ?_
  rintro e w2 ⟨rfl, h1⟩
  have H2 := Lib.hid h1
  clear h1
  go_wp2_with fail
  refine (fill_up H2.out (by omega) wf21 B2.out (B' := X3) rfl).mono ?_
  rintro e w3 ⟨rfl, h1⟩
  have H3 := Lib.hid h1
  clear h1
  go_wp2_with fail
  refine (decide_up H3.out (by omega) wf00 B3.out.1 B3.out.2 (B' := X4) rfl).mono ?_
  rintro e w4 ⟨rfl, h1⟩
  have H4 := Lib.hid h1
  clear h1
  go_wp2_with fail
  refine (decide_up H4.out (by omega) wf21 B5.out.1 B5.out.2 (B' := X5) rfl).mono ?_
  rintro e w5 ⟨rfl, h1⟩
  have H5 := Lib.hid h1
  clear h1
  go_wp2_with fail
  refine (blocker_up H5.out wf00 B7.out).mono ?_
  rintro e w6 ⟨rfl, h1⟩
  have H6 := Lib.hid h1.2
  clear h1
  go_wp2
  go_ret
  exact ⟨rfl, H6.out⟩
end Go.Proofs.Ytdeneogbnmedkaa
