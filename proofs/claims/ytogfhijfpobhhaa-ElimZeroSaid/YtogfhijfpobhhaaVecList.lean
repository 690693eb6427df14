/- Vector.List by contract. -/
import Derived.Test.YtogfhijfpobhhaaVecAdd
namespace Go.Proofs.Ytogfhijfpobhhaa
open Go.RowKit
set_option maxRecDepth 100000 in
set_option maxHeartbeats 4000000 in
theorem list_any (w : World) (v : Value) (ps : List Pos) (hr : PRow w v ps) (hn : ps.length ≤ 1000) :
    Calls Try.prog 18 #[vecV v] w fun x w' => ∃ v', x = .returned v' ∧ OwnP w' w.heap.size 81 v' ps ∧ Below w.heap.size w w' := by
  obtain ⟨pv, cv, rfl⟩ := hr.shape
  have HC := Lib.hid (clone_vec (w.alloc (.cells #[.slice pv ps.length cv] 50)) _ ps (hr.kept (oneB w _)) hn)
  have HB0 := Lib.hid (oneB w (.cells #[.slice pv ps.length cv] 50))
  unfold vecV at *
  clear hr
  go_enter Try.func18, Try.ntmps18
  go_wp2_with fail
  refine HC.out.mono ?_
  rintro y w1 ⟨v1, rfl, ho1, hb1⟩
  have HO := Lib.hid ho1
  have HB := Lib.hid (HB0.out.trans (hb1.mono HB0.out.size))
  clear ho1 hb1
  obtain ⟨p1, c1, hv1⟩ := HO.out.form
  subst hv1
  have hfld : (Instr.field 50 (.agg #[.slice p1 ps.length c1]) 0).run Try.prog w1 = .ok (.slice p1 ps.length c1) w1 := by rfl
  go_wp2_with fail
  go_ret
  exact ⟨_, rfl, HO.out.less (by simp), HB.out⟩
end Go.Proofs.Ytogfhijfpobhhaa
