/- What is handed in as packets, in blocks that were there. -/
import Derived.Test.YtfdehnfcoojljaaNetCarries
import Derived.Test.YtfdehnfcoojljaaNetSame
import Derived.Test.YtfdehnfcoojljaaLiftPk
namespace Go.Proofs.Ytfdehnfcoojljaa
open Go.RowKit
set_option linter.unusedSimpArgs false
theorem PkX.In.inP {w : World} {y : PkX} (h : y.In w) : y.x.InP (fun b => b < w.heap.size) w :=
  ⟨h.1.ls, h.1.ns, fun b o n c e hn => by have h2 := h.1.ls; rw [e] at h2; exact h2.lt_ hn, fun b o n c e hn => by have h2 := h.1.ns; rw [e] at h2; exact h2.lt_ hn, h.2⟩
theorem PkRow.of_in {w : World} {v : Value} {ys : List PkX} (h : TRow encK w v ys) (hf : ∀ y ∈ ys, y.In w) : PkRow (fun b => b < w.heap.size) w v (ys.map PkX.pk) :=
  ⟨ys, h, fun b o n c e hn => by rw [e] at h; exact h.lt_ hn, fun y hy => (hf y hy).inP, rfl⟩
theorem ksame_in {P Q : Nat → Prop} (y z : PkX) (w : World) (hpk : y.pk = z.pk) (hy : y.x.InP P w) (hz : z.x.InP Q w) : Calls Try.prog 11 #[y.v, z.v] w fun e w' => e = .returned (.bool true) ∧ Below w.heap.size w w' := ksame_any y z w hpk hy.ls hy.ns hz.ls hz.ns hy.sz
end Go.Proofs.Ytfdehnfcoojljaa
