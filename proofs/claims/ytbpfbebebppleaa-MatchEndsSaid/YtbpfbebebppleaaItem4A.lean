/- item.turn by contract; a whole item stored. -/
import Derived.Test.YtbpfbebebppleaaItem4B
namespace Go.Proofs.Ytbpfbebebppleaa
open Go.RowKit
theorem turn_any (x : Itm) (f t : Int) (w : World) : Calls Try.prog 65 #[x.v, .int .i64 f, .int .i64 t] w fun e w' => e = ansI (turnI x f t) ∧ Below w.heap.size w w' := by
  have HB2 : Hid (∀ a b, Below w.heap.size w ((w.alloc a).alloc b)) := fun a b => (oneB w a).alloc (by simp) b
  by_cases h : x.t = f
  · have HC : Hid (turnI x f t = ({ x with t := t }, 0)) := if_pos h
    have e4 : (x.t != f) = false := by simpa using h
    unfold Itm.v at *
    clear h
    go_enter Try.func65, Try.ntmps65
    go_wp2
    refine bodyPost_ret (v := .tuple #[Itm.v { x with t := t }, .int .i64 0]) (by simp [results, Try.results65, go_sem, Itm.v]) rfl ⟨retA HC.out.symm, HB2.out _ _⟩
  · have HC : Hid (turnI x f t = (x, 90)) := if_neg h
    have e4 : (x.t != f) = true := by simpa using h
    unfold Itm.v at *
    clear h
    go_enter Try.func65, Try.ntmps65
    go_wp2
    refine bodyPost_ret (v := .tuple #[Itm.v x, .int .i64 90]) (by simp [results, Try.results65, go_sem, Itm.v]) rfl ⟨retA HC.out.symm, HB2.out _ _⟩
end Go.Proofs.Ytbpfbebebppleaa
