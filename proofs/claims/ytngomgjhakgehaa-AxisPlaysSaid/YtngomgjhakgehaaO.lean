/- Len; the ids of a row between two of a list. -/
import Derived.Test.YtngomgjhakgehaaM
namespace Go.Proofs.Ytngomgjhakgehaa
open Go.RowKit Go.Maps

theorem len_any (p : Option Addr) (l : List Ent) (w : World) (h : AxO w p l) (hlen : l.length ≤ 100000) :
    Calls Try.prog 19 #[.pointer p] w fun e w' => e = .returned (.int .i64 (liveE l).length) ∧ Below w.heap.size w w' := by
  have H := Lib.hid h
  clear h
  go_enter Try.func19, Try.ntmps19
  go_wp2_with fail
  refine (live_any p l w H.out hlen).mono ?_
  rintro e w1 ⟨⟨A, c, rfl⟩, hb⟩
  have HB := Lib.hid hb
  clear hb
  go_wp2
  go_ret
  exact ⟨rfl, HB.out⟩
end Go.Proofs.Ytngomgjhakgehaa
