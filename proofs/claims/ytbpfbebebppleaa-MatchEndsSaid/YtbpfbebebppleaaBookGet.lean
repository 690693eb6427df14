/- Get over items in the order of their names. -/
import Derived.Test.YtbpfbebebppleaaGetI
import Derived.Test.YtbpfbebebppleaaInsX
import Derived.Test.YtbpfbebebppleaaThree
namespace Go.Proofs.Ytbpfbebebppleaa
open Go.RowKit
/-- The item, the order of a name. -/
def findX (xs : List Itm) (s n : Int) : Option Itm := xs.find? (fun x => decide (x.s = s ∧ x.n = n))
theorem find_around {α : Type} {f : α → Pos} {xs A mid B : List α} {s n : Int} (h : AroundF f ⟨s, n, 0⟩ xs A mid B) : xs.find? (fun x => decide ((f x).e = s ∧ (f x).c = n)) = mid.head? := by
  have hA : A.find? (fun x => decide ((f x).e = s ∧ (f x).c = n)) = none := by
    rw [List.find?_eq_none]
    intro x hx
    have := h.pos.ahead (f x) (List.mem_map.2 ⟨x, hx, rfl⟩)
    rw [ordP_lt] at this
    simp only [decide_eq_true_eq, not_and]
    dsimp only at this
    omega
  have hB : B.find? (fun x => decide ((f x).e = s ∧ (f x).c = n)) = none := by
    rw [List.find?_eq_none]
    intro x hx
    have := h.pos.behind (f x) (List.mem_map.2 ⟨x, hx, rfl⟩)
    rw [ordP_gt] at this
    simp only [decide_eq_true_eq, not_and]
    dsimp only at this
    omega
  rw [h.all, List.append_assoc, List.find?_append, hA, List.find?_append, hB]
  rcases h.mid1 with rfl | ⟨q, rfl, hq⟩
  · rfl
  · rw [ordP_eq] at hq
    dsimp only at hq
    simp [hq]
theorem findX_around {xs A mid B : List Itm} {s n : Int} (h : AroundF posI ⟨s, n, 0⟩ xs A mid B) : findX xs s n = mid.head? := find_around h
def SortX (xs : List Itm) : Prop := SortedP (xs.map posI)
theorem dget_any (w : World) (me : Int) (pi po : Option Addr) (ni ci no co : Nat) (s n : Int) (xs : List Itm) (hr : TRow encI w (.slice pi ni ci) xs) (hl : xs.length = ni) (hs : SortX xs) (hn : ni ≤ 2000) :
    Calls Try.prog 16 #[bookV me (.slice pi ni ci) (.slice po no co), idV s n] w fun e w' => e = .returned (.tuple #[((findX xs s n).getD itm0).v, .bool (findX xs s n).isSome]) ∧ Below w.heap.size w w' := by
  obtain ⟨A, mid, B, hA⟩ := aroundF_of_sorted posI ⟨s, n, 0⟩ xs hs
  rw [findX_around hA]
  rcases hA.mid1 with rfl | ⟨q, rfl, _⟩
  · exact get_none w me pi po ni ci no co s n xs A B hr hl hA hn
  · exact get_found w me pi po ni ci no co s n xs A B q hr hl hA hn
end Go.Proofs.Ytbpfbebebppleaa
