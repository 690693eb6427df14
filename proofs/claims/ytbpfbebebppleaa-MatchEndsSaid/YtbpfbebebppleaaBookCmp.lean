/- The closures that search items and orders by their names. -/
import Derived.Test.YtbpfbebebppleaaBCmp
import Derived.Test.YtbpfbebebppleaaItemPure
import Derived.Test.YtbpfbebebppleaaTRow
namespace Go.Proofs.Ytbpfbebebppleaa
open Go.RowKit
def Itm.cells (x : Itm) : List Value := [.int .i64 x.s, .int .i64 x.n, .int .i64 x.b, .int .i64 x.c, .int .i64 x.a, .int .i64 x.r, .int .i64 x.t, .int .i64 x.y]
@[reducible] def encI : Enc Itm := ⟨8, Itm.cells, by decide, fun _ => rfl, fun x u hu => by simp only [Itm.cells, List.mem_cons, List.not_mem_nil, or_false] at hu; rcases hu with rfl | rfl | rfl | rfl | rfl | rfl | rfl | rfl <;> rfl⟩
set_option linter.unusedSimpArgs false in
set_option maxHeartbeats 1000000 in
set_option maxRecDepth 100000 in
theorem cmpI_any (x : Itm) (s n : Int) (w : World) : Calls Try.prog 43 #[x.v, idV s n] w fun e w' => e = .returned (.int .i64 (ord2 x.s x.n s n)) ∧ Below w.heap.size w w' := by
  have HC := Lib.hid (fun (W : World) => bcompare_any x.s x.n s n W)
  unfold idV at *
  unfold Itm.v
  go_enter Try.func43, Try.ntmps43
  go_wp2_with fail
  refine (HC.out _).mono ?_
  rintro y w1 ⟨rfl, hb⟩
  have HB := Lib.hid (((oneB w _).alloc (by simp) _).trans (hb.mono (by simp; omega)))
  clear hb
  go_wp2_with fail
  go_ret
  exact ⟨rfl, HB.out⟩
end Go.Proofs.Ytbpfbebebppleaa
