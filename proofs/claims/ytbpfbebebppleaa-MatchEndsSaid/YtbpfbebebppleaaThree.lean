/- Three blocks made one behind the other; an item that is none. -/
import Derived.Test.YtbpfbebebppleaaTRow2
import Derived.Test.YtbpfbebebppleaaItemPure
namespace Go.Proofs.Ytbpfbebebppleaa
open Go.RowKit
def itm0 : Itm := ⟨0, 0, 0, 0, 0, 0, 0, 0⟩
structure Three (w W : World) (A B C : Array Value) (tA tB tC : TypeId) : Prop where
  b0 : Blk W w.heap.size A tA
  b1 : Blk W (w.heap.size + 1) B tB
  b2 : Blk W (w.heap.size + 1 + 1) C tC
  low : Below w.heap.size w W
theorem three_new (w : World) (A B C : Array Value) (tA tB tC : TypeId) : Three w (((w.alloc (.cells A tA)).alloc (.cells B tB)).alloc (.cells C tC)) A B C tA tB tC :=
  ⟨((Blk.new w A tA).alloc _).alloc _, (Blk.new' (w.alloc (.cells A tA)) B tB (by simp)).alloc _, Blk.new' ((w.alloc (.cells A tA)).alloc (.cells B tB)) C tC (by simp), ((oneB w _).trans ((oneB _ _).mono (by simp))).trans ((oneB _ _).mono (by simp; omega))⟩
end Go.Proofs.Ytbpfbebebppleaa
