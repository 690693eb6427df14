/- (book.Book).Put of an item that it takes. -/
import Derived.Test.YtbpfbebebppleaaPut
namespace Go.Proofs.Ytbpfbebebppleaa
open Go.RowKit
theorem put_ok (w : World) (me : Int) (pi po : Option Addr) (ni ci no co : Nat) (x : Itm) (xs A mid B : List Itm) (hr : TRow encI w (.slice pi ni ci) xs) (hl : xs.length = ni) (hA : AroundF posI ⟨x.s, x.n, 0⟩ xs A mid B) (hn : ni < 1024) (h : chkI x = 0) (h1 : x.s = me ∨ x.b = me) :
    Calls Try.prog 66 #[bookV me (.slice pi ni ci) (.slice po no co), x.v] w fun e w' => ∃ pi' ni' ci', e = .returned (.tuple #[bookV me (.slice pi' ni' ci') (.slice po no co), .int .i64 0]) ∧ TRow encI w' (.slice pi' ni' ci') (A ++ [x] ++ B) ∧ ni' = (A ++ [x] ++ B).length ∧ Below w.heap.size w w' ∧ (∀ k, (Value.slice pi' ni' ci').ownBlock = some k → (Value.slice pi ni ci).ownBlock = some k ∨ w.heap.size ≤ k) := by
  rcases hA.mid1 with rfl | ⟨q, rfl, _⟩
  · refine (put_new w me pi po ni ci no co x xs A B hr hl hA (by omega) h h1 hn).mono ?_
    rintro e w' ⟨p', n', c', rfl, ho, hb⟩
    refine ⟨p', n', c', rfl, ho.row, ?_, hb, fun k hk => .inr (ho.block_ge k hk)⟩
    obtain ⟨p2, c2, e1⟩ := ho.form
    exact (Value.slice.inj e1).2.1
  · by_cases hq : q = x
    · refine (put_same w me pi po ni ci no co x xs A B q hr hl hA (by omega) h h1 hq).mono ?_
      rintro e w' ⟨rfl, hb⟩
      have hx : xs = A ++ [x] ++ B := by rw [hA.all, hq]
      exact ⟨pi, ni, ci, rfl, by rw [← hx]; exact hr.kept hb, by rw [← hx]; exact hl.symm, hb, fun k hk => .inl hk⟩
    · refine (put_other2 w me pi po ni ci no co x xs A B q hr hl hA (by omega) h h1 hq).mono ?_
      rintro e w' ⟨p', n', c', rfl, ho, hb⟩
      refine ⟨p', n', c', rfl, ho.row, ?_, hb, fun k hk => .inr (ho.block_ge k hk)⟩
      obtain ⟨p2, c2, e1⟩ := ho.form
      exact (Value.slice.inj e1).2.1
end Go.Proofs.Ytbpfbebebppleaa
