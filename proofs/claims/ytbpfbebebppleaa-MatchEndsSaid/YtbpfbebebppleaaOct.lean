/- Bytes in a slice: between 0 and 255; as natural numbers. -/
import Derived.Test.YtbpfbebebppleaaRow
namespace Go.Proofs.Ytbpfbebebppleaa
open Go.RowKit
/-- Bytes in a slice. -/
def Oct (zs : List Int) : Prop := ∀ a ∈ zs, 0 ≤ a ∧ a < 256
theorem Oct.getD {zs : List Int} (h : Oct zs) (i : Nat) : 0 ≤ zs.getD i 0 ∧ zs.getD i 0 < 256 := by
  rw [List.getD_eq_getElem?_getD]
  by_cases hi : i < zs.length
  · rw [List.getElem?_eq_getElem hi]; exact h _ (List.getElem_mem hi)
  · rw [List.getElem?_eq_none (by omega)]; simp
def natsOf (zs : List Int) : List Nat := zs.map Int.toNat
theorem natsOf_length (zs : List Int) : (natsOf zs).length = zs.length := by simp [natsOf]
theorem natsOf_append (a b : List Int) : natsOf (a ++ b) = natsOf a ++ natsOf b := List.map_append
theorem natsOf_take (zs : List Int) (k : Nat) : natsOf (zs.take k) = (natsOf zs).take k := List.map_take
theorem natsOf_drop (zs : List Int) (k : Nat) : natsOf (zs.drop k) = (natsOf zs).drop k := List.map_drop
theorem natsOf_getD (zs : List Int) (i : Nat) : (natsOf zs).getD i 0 = (zs.getD i 0).toNat := by
  unfold natsOf
  rw [List.getD_eq_getElem?_getD, List.getD_eq_getElem?_getD, List.getElem?_map]
  cases zs[i]? <;> simp
theorem Oct.take {zs : List Int} (h : Oct zs) (k : Nat) : Oct (zs.take k) := fun a ha => h a (List.mem_of_mem_take ha)
theorem Oct.drop {zs : List Int} (h : Oct zs) (k : Nat) : Oct (zs.drop k) := fun a ha => h a (List.mem_of_mem_drop ha)
theorem Oct.append {a b : List Int} (ha : Oct a) (hb : Oct b) : Oct (a ++ b) := by
  intro x hx
  rcases List.mem_append.1 hx with h | h
  · exact ha x h
  · exact hb x h
theorem Oct.back {a b : List Int} (ha : Oct a) (hb : Oct b) (h : natsOf a = natsOf b) : a = b := by
  induction a generalizing b with
  | nil => cases b with
    | nil => rfl
    | cons => cases h
  | cons x a ih =>
    cases b with
    | nil => cases h
    | cons y b =>
      simp only [natsOf, List.map_cons, List.cons.injEq] at h
      have h1 := ha x (by simp)
      have h2 := hb y (by simp)
      rw [ih (fun z hz => ha z (by simp [hz])) (fun z hz => hb z (by simp [hz])) h.2, show x = y by omega]
end Go.Proofs.Ytbpfbebebppleaa
