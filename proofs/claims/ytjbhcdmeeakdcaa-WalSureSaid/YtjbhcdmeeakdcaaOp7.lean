/- A slice of a log law's operations; what fits says of them. -/
import Derived.Test.YtjbhcdmeeakdcaaWalState
namespace Go.Proofs.Ytjbhcdmeeakdcaa
open Go.RowKit
structure OpW where
  kind : Int
  n : Int
  data : List Int
  list : List (List Int)
  turn : Int
def OpW.Fit (o : OpW) : Prop := (-9223372036854775808 ≤ o.kind ∧ o.kind ≤ 9223372036854775807) ∧ (-9223372036854775808 ≤ o.n ∧ o.n ≤ 9223372036854775807) ∧ Oct o.data ∧ (∀ d ∈ o.list, Oct d) ∧ 0 ≤ o.turn ∧ o.turn < 256
/-- A slice of operations: kind, number, bytes, list and turn of each. -/
def OpRowW (w : World) (v : Value) (n : Nat) (f : Nat → OpW) : Prop :=
  ∃ p c, v = .slice p n c ∧ n ≤ c ∧ (n = 0 ∨ ∃ b o, p = some ⟨b, o, none⟩ ∧ ∀ i, i < n → (f i).Fit ∧ w.cell? ⟨b, o + i * 5, none⟩ = some (.int .i64 (f i).kind) ∧ w.cell? ⟨b, o + i * 5 + 1, none⟩ = some (.int .i64 (f i).n) ∧
    (∃ dv, w.cell? ⟨b, o + i * 5 + 2, none⟩ = some dv ∧ Row .u8 w dv (f i).data) ∧ (∃ lv, w.cell? ⟨b, o + i * 5 + 3, none⟩ = some lv ∧ RowSS w lv (f i).list) ∧ w.cell? ⟨b, o + i * 5 + 4, none⟩ = some (.int .u8 (f i).turn))
theorem OpRowW.shape {w : World} {v : Value} {n : Nat} {f : Nat → OpW} (h : OpRowW w v n f) : ∃ p c, v = .slice p n c := by obtain ⟨p, c, e, _⟩ := h; exact ⟨p, c, e⟩
theorem OpRowW.at_ {w : World} {p : Option Addr} {n c : Nat} {f : Nat → OpW} (h : OpRowW w (.slice p n c) n f) (i : Nat) (hi : i < n) : ∃ b o q e r m, p = some ⟨b, o, none⟩ ∧ b < w.heap.size ∧ (f i).Fit ∧ w.cell? ⟨b, o + i * 5, none⟩ = some (.int .i64 (f i).kind) ∧ w.cell? ⟨b, o + i * 5 + 1, none⟩ = some (.int .i64 (f i).n) ∧
    w.cell? ⟨b, o + i * 5 + 2, none⟩ = some (.slice q (f i).data.length e) ∧ Row .u8 w (.slice q (f i).data.length e) (f i).data ∧ w.cell? ⟨b, o + i * 5 + 3, none⟩ = some (.slice r (f i).list.length m) ∧ RowSS w (.slice r (f i).list.length m) (f i).list ∧ w.cell? ⟨b, o + i * 5 + 4, none⟩ = some (.int .u8 (f i).turn) := by
  obtain ⟨p', c', e, _, h⟩ := h
  cases e
  rcases h with h | ⟨b, o, hp, h⟩
  · omega
  · obtain ⟨h1, h2, h3, ⟨dv, h4, h5⟩, ⟨lv, h7, h8⟩, h6⟩ := h i hi
    obtain ⟨q, e, rfl⟩ := h5.shape
    obtain ⟨r, m, rfl⟩ := h8.shape
    exact ⟨b, o, q, e, r, m, hp, World.block_lt_of_cell? w _ h2, h1, h2, h3, h4, h5, h7, h8, h6⟩
/-- The lengths of a list's members, on top of n; none if one is too long. -/
def inE (n : Nat) : List (List Int) → Option Nat
  | [] => some n
  | x :: xs => if 500 < x.length then none else inE (n + x.length) xs
def fitE (n : Nat) : List OpW → Bool
  | [] => true
  | o :: os => if 17000 < o.data.length ∨ 10 < o.list.length then false else match inE (n + o.data.length) o.list with | none => false | some m => if 40000 < m then false else fitE m os
def fitsB (n : Nat) (f : Nat → OpW) : Bool := if 40 < n then false else fitE 0 ((List.range n).map f)
theorem inE_cons (n : Nat) (x : List Int) (xs : List (List Int)) : inE n (x :: xs) = if 500 < x.length then none else inE (n + x.length) xs := rfl
theorem inE_short {n m : Nat} {l : List (List Int)} (h : inE n l = some m) : (∀ d ∈ l, d.length ≤ 500) ∧ m = n + (l.map List.length).sum := by
  induction l generalizing n with
  | nil => simp only [inE, Option.some.injEq] at h; subst h; simp
  | cons x xs ih =>
    by_cases hx : 500 < x.length
    · simp [inE, hx] at h
    · simp only [inE, hx, if_false] at h
      obtain ⟨h1, h2⟩ := ih h
      constructor
      · intro d hd
        rcases List.mem_cons.1 hd with e | e
        · subst e; omega
        · exact h1 d e
      · rw [h2, List.map_cons, List.sum_cons]; omega
theorem range_drop (n k : Nat) (hk : k < n) (f : Nat → OpW) : ((List.range n).map f).drop k = f k :: ((List.range n).map f).drop (k + 1) := by
  rw [List.drop_eq_getElem_cons (by simpa using hk)]
  simp
end Go.Proofs.Ytjbhcdmeeakdcaa
