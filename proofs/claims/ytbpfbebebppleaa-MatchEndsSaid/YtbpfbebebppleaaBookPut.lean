/- Put over items in the order of their names: it is in, and where the row lies. -/
import Derived.Test.YtbpfbebebppleaaBookGet
import Derived.Test.YtbpfbebebppleaaPutOk
import Derived.Test.YtbpfbebebppleaaApTg
namespace Go.Proofs.Ytbpfbebebppleaa
open Go.RowKit
theorem insX_len {X : List Itm} {x : Itm} (hs : SortX X) : (insX X x).length ≤ X.length + 1 := by
  obtain ⟨A, mid, B, hA⟩ := aroundF_of_sorted posI (posI x) X hs
  exact (ins_around hA).2
theorem dput_any (w : World) (me : Int) (pi po : Option Addr) (ni ci no co : Nat) (x : Itm) (xs : List Itm) (P : Nat → Prop) (hr : TRow encI w (.slice pi ni ci) xs) (hl : xs.length = ni) (hs : SortX xs) (hn : ni < 1024) (h : chkI x = 0) (h1 : x.s = me ∨ x.b = me) (hat : At P (.slice pi ni ci) xs.length) :
    Calls Try.prog 66 #[bookV me (.slice pi ni ci) (.slice po no co), x.v] w fun e w' => ∃ pi' ci', e = .returned (.tuple #[bookV me (.slice pi' (insX xs x).length ci') (.slice po no co), .int .i64 0]) ∧ TRow encI w' (.slice pi' (insX xs x).length ci') (insX xs x) ∧ At (fun b => P b ∨ w.heap.size ≤ b) (.slice pi' (insX xs x).length ci') (insX xs x).length ∧ Below w.heap.size w w' := by
  obtain ⟨A, mid, B, hA⟩ := aroundF_of_sorted posI (posI x) xs hs
  have hins := (ins_around hA).1
  have own : ∀ e w', (∃ pi' ni' ci', e = Ending.returned (.tuple #[.agg #[.int .i64 me, .slice pi' ni' ci', .slice po no co], .int .i64 0]) ∧ OwnT encI w' w.heap.size 64 (.slice pi' ni' ci') (A ++ [x] ++ B) ∧ Below w.heap.size w w') → ∃ pi' ci', e = .returned (.tuple #[bookV me (.slice pi' (insX xs x).length ci') (.slice po no co), .int .i64 0]) ∧ TRow encI w' (.slice pi' (insX xs x).length ci') (insX xs x) ∧ At (fun b => P b ∨ w.heap.size ≤ b) (.slice pi' (insX xs x).length ci') (insX xs x).length ∧ Below w.heap.size w w' := by
    rintro e w' ⟨pi', ni', ci', rfl, ho, hb⟩
    rw [hins] at ho
    obtain ⟨p, c, e1⟩ := ho.form
    cases e1
    exact ⟨_, _, rfl, ho.row, ho.at_P (fun b hb => .inr hb), hb⟩
  rcases hA.mid1 with rfl | ⟨q, rfl, _⟩
  · exact (put_new w me pi po ni ci no co x xs A B hr hl hA (by omega) h h1 hn).mono own
  · by_cases hq : q = x
    · refine (put_same w me pi po ni ci no co x xs A B q hr hl hA (by omega) h h1 hq).mono ?_
      rintro e w' ⟨rfl, hb⟩
      have hx : xs = insX xs x := by rw [← hins, ← hq]; exact hA.all
      have hlen : (insX xs x).length = ni := by rw [← hx]; exact hl
      refine ⟨pi, ci, by rw [hlen]; rfl, ?_, ?_, hb⟩
      · rw [hlen, ← hx]; exact hr.kept hb
      · rw [hlen]
        rw [hl] at hat
        exact hat.imp (fun b hb => .inl hb)
    · exact (put_other2 w me pi po ni ci no co x xs A B q hr hl hA (by omega) h h1 hq).mono own
end Go.Proofs.Ytbpfbebebppleaa
