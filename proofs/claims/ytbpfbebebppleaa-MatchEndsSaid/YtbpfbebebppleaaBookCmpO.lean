/- Orders: the closure that searches them by their names. -/
import Derived.Test.YtbpfbebebppleaaAround
namespace Go.Proofs.Ytbpfbebebppleaa
open Go.RowKit
/-- What is expected to be paid. -/
structure Ord where
  s : Int
  n : Int
  a : Int
deriving DecidableEq
def Ord.v (x : Ord) : Value := .agg #[.int .i64 x.s, .int .i64 x.n, .int .i64 x.a]
def Ord.cells (x : Ord) : List Value := [.int .i64 x.s, .int .i64 x.n, .int .i64 x.a]
@[reducible] def encO : Enc Ord := ⟨3, Ord.cells, by decide, fun _ => rfl, fun x u hu => by simp only [Ord.cells, List.mem_cons, List.not_mem_nil, or_false] at hu; rcases hu with rfl | rfl | rfl <;> rfl⟩
def posO (x : Ord) : Pos := ⟨x.s, x.n, 0⟩
set_option linter.unusedSimpArgs false in
set_option maxHeartbeats 1000000 in
set_option maxRecDepth 100000 in
theorem cmpO_any (x : Ord) (s n : Int) (w : World) : Calls Try.prog 60 #[x.v, idV s n] w fun e w' => e = .returned (.int .i64 (ord2 x.s x.n s n)) ∧ Below w.heap.size w w' := by
  have HC := Lib.hid (fun (W : World) => bcompare_any x.s x.n s n W)
  unfold idV at *
  unfold Ord.v
  go_enter Try.func60, Try.ntmps60
  go_wp2_with fail
  refine (HC.out _).mono ?_
  rintro y w1 ⟨rfl, hb⟩
  have HB := Lib.hid (((oneB w _).alloc (by simp) _).trans (hb.mono (by simp; omega)))
  clear hb
  go_wp2_with fail
  go_ret
  exact ⟨rfl, HB.out⟩
end Go.Proofs.Ytbpfbebebppleaa
