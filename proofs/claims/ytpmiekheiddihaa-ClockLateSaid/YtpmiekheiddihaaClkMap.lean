/- A clock's names. -/
import Derived.Test.YtpmiekheiddihaaClkHeap
import Derived.Maps.OwnSet
namespace Go.Proofs.Ytpmiekheiddihaa
open Go.RowKit Go.Maps
set_option linter.unusedSimpArgs false
theorem lawS : Keyed Try.prog 9 := string_keyed Try.underlying9
def kS (s : ByteArray) : Lit := .string s.data.toList
theorem keyS {s : ByteArray} (h : s.size ≤ maxLen) : keyOf Try.prog 9 (.string s) = some (kS s) := Go.WideMaps.keyOf_string_mk Try.underlying9 h
theorem kS_ne {s t : ByteArray} (h : s ≠ t) : kS s ≠ kS t := by
  intro e
  unfold kS at e
  simp only [Lit.string.injEq] at e
  exact h (ByteArray.ext (Array.toList_inj.1 e))
/-- How a pointer to what is due reads. -/
def rdP (v : Value) : Option (DataW Unit × List MemPlace) :=
  match v with
  | .pointer none => some (.lit (.int .i64 (-1)), [])
  | .pointer (some ⟨b, 0, none⟩) => some (.lit (.int .i64 (b : Int)), [])
  | _ => none
def ptrU : Option Nat → Value
  | none => .pointer none
  | some b => .pointer (some ⟨b, 0, none⟩)
def datP : Option Nat → DataW Unit
  | none => .lit (.int .i64 (-1))
  | some b => .lit (.int .i64 (b : Int))
theorem rdP_v (o : Option Nat) : rdP (ptrU o) = some (datP o, []) := by cases o <;> rfl
theorem rdP_inv {v : Value} {ps : List MemPlace} (o : Option Nat) (h : rdP v = some (datP o, ps)) : v = ptrU o := by
  unfold rdP at h
  split at h
  · cases o with
    | none => rfl
    | some b =>
      simp only [datP, Option.some.injEq, Prod.mk.injEq, DataW.lit.injEq, Lit.int.injEq, true_and] at h
      omega
  · next b =>
    cases o with
    | none =>
      simp only [datP, Option.some.injEq, Prod.mk.injEq, DataW.lit.injEq, Lit.int.injEq, true_and] at h
      omega
    | some b' =>
      simp only [datP, Option.some.injEq, Prod.mk.injEq, DataW.lit.injEq, Lit.int.injEq, true_and] at h
      obtain rfl : b = b' := by omega
      rfl
  · cases h
theorem zeroP (w : World) : (zeroValue 61).run Try.prog w = .ok (.pointer none) w := by kernel_rfl
/-- Block b is a map of at most n names, that leads to d s from each. -/
def MpN (b n : Nat) (d : ByteArray → Option Nat) (w : World) : Prop := ∃ D : DataW Unit, w.ownsMap Try.prog 9 rdP b n D ∧ Maps.IsMap D ∧ ∀ s : ByteArray, s.size ≤ maxLen → D.atKey (kS s) (datP none) = datP (d s)
theorem MpN.block {b n : Nat} {d : ByteArray → Option Nat} {w w' : World} (h : MpN b n d w) (hb : w'.heap[b]? = w.heap[b]?) : MpN b n d w' := by
  obtain ⟨D, ⟨es, clock, h1, h2⟩, h3⟩ := h
  exact ⟨D, ⟨es, clock, hb.trans h1, h2⟩, h3⟩
theorem MpN.lt {b n : Nat} {d : ByteArray → Option Nat} {w : World} (h : MpN b n d w) : b < w.heap.size := by
  obtain ⟨D, h1, _⟩ := h
  exact h1.lt
theorem MpN.mono {b n n' : Nat} {d : ByteArray → Option Nat} {w : World} (h : MpN b n d w) (hn : n ≤ n') : MpN b n' d w := by
  obtain ⟨D, h1, h3⟩ := h
  exact ⟨D, h1.mono hn, h3⟩
theorem MpN.congr {b n : Nat} {d d' : ByteArray → Option Nat} {w : World} (h : MpN b n d w) (he : ∀ s, s.size ≤ maxLen → d s = d' s) : MpN b n d' w := by
  obtain ⟨D, h1, h2, h3⟩ := h
  exact ⟨D, h1, h2, fun s hs => by rw [h3 s hs, he s hs]⟩
theorem MpN.made (w : World) : MpN w.heap.size 0 (fun _ => none) (w.alloc (.map #[] 0)) := ⟨.map [], World.ownsMap_made _ _ _ _, (World.ownsMap_made (H := Unit) w Try.prog 9 rdP).isMap, fun _ _ => rfl⟩
theorem MpN.look {b n : Nat} {d : ByteArray → Option Nat} {w : World} (h : MpN b n d w) {s : ByteArray} (hs : s.size ≤ maxLen) : (Instr.lookup 55 (.map (some b)) (.string s) false).run Try.prog w = .ok (ptrU (d s)) w := by
  obtain ⟨D, h1, _, h2⟩ := h
  obtain ⟨v, ps, hrun, hv⟩ := h1.lookup lawS Try.underlying55 (zeroP w) (rdP_v none) (keyS hs)
  rw [h2 s hs] at hv
  rw [rdP_inv _ hv] at hrun
  exact hrun
/-- A name is put in. -/
theorem MpN.put {b n : Nat} {d : ByteArray → Option Nat} {w : World} (h : MpN b n d w) {s : ByteArray} (hs : s.size ≤ maxLen) (hn : n < maxLen) (x : Nat) : ∃ w', (Instr.mapUpdate 55 (.map (some b)) (.string s) (.pointer (some ⟨x, 0, none⟩))).run Try.prog w = .ok () w' ∧ MpN b (n + 1) (fun s' => if s' = s then some x else d s') w' ∧ Chg b w w' := by
  obtain ⟨D, h1, h0, h2⟩ := h
  obtain ⟨w', hrun, h3, hg⟩ := h1.update lawS Try.underlying55 hn (keyS hs) (rdP_v (some x))
  refine ⟨w', hrun, ⟨_, h3, h3.isMap, fun s' hs' => ?_⟩, ⟨Below.grown (Below.refl _ _) hg (Nat.zero_le _) (fun _ _ => Nat.zero_le _), fun i hi hne => hg.block i hi (by intro e; cases e; exact hne rfl)⟩⟩
  by_cases e : s' = s
  · subst e
    rw [Maps.atKey_put_same h0 (by constructor)]
    simp
  · rw [Maps.atKey_put_other (kS_ne e)]
    simp only [if_neg e]
    exact h2 s' hs'
/-- A name is struck. -/
theorem MpN.drop {b n : Nat} {d : ByteArray → Option Nat} {w : World} (h : MpN b n d w) {s : ByteArray} (hs : s.size ≤ maxLen) (ty : TypeId) : ∃ w', (Builtin.delete_ #[55, 9] ty #[.map (some b), .string s]).run Try.prog w = .ok (.tuple #[]) w' ∧ MpN b n (fun s' => if s' = s then none else d s') w' ∧ Chg b w w' := by
  obtain ⟨D, h1, h0, h2⟩ := h
  obtain ⟨w', hrun, h3, ht⟩ := h1.drop lawS Try.underlying55 (keyS hs) ty
  have hg := ht.grown
  refine ⟨w', hrun, ⟨_, h3, h3.isMap, fun s' hs' => ?_⟩, ⟨Below.grown (Below.refl _ _) hg (Nat.zero_le _) (fun _ _ => Nat.zero_le _), fun i hi hne => hg.block i hi (by intro e; cases e; exact hne rfl)⟩⟩
  by_cases e : s' = s
  · subst e
    rw [Maps.atKey_del_same]
    simp [datP]
  · rw [Maps.atKey_del_other (kS_ne e)]
    simp only [if_neg e]
    exact h2 s' hs'
end Go.Proofs.Ytpmiekheiddihaa
