/- Slices of integers that are only read: what they hold; and that they hold it behind any call that writes only to memory of its own. Blocks of the call's own: what they hold behind each step. An append onto a row of integers of the call's own, of any row: nil, empty or not; in a plain region and where the order is open. What a method that writes one block of its own leaves; a row that lies in a known block. Operations of a region that draws its order, taken in few words. An item as numbers: whether it can be, what each act does to it, how far it has come. An item has eight cells. vector.compare: the order of positions. book.Compare by contract. Slices of structs of one kind: each element some cells, as an encoding tells; the call's own slices of them; append. The closures that search items and orders by their names. Vectors as plain lists of positions. A list of whatever around a name. A list of items around a name. slices.BinarySearchFunc over items by their names, by contract. Grow and Concat of slices of contra/api.Item, by contract. A book by value. Items of a book: findItem, with, by contract. (book.Book).Get by contract. Orders: the closure that searches them by their names. slices.BinarySearchFunc over orders by their names, by contract. Grow and Concat of slices of contra/book.Order, by contract. Orders of a book: findOrder, with, by contract. book.New, (book.Book).Expect, Get, Expected by contract. A list of items with one put in. Slices of structs: an element stored, the end cleared. Three blocks made one behind the other; an item that is none. Get over items in the order of their names. The package item's small functions by contract. item.Check, turn, locked by contract. -/
import Derived.Test.YtbpfbebebppleaaProg
import Derived.WalkKit
import Derived.WalkSpells
import Derived.WalkLawsBesides
import Derived.Laws.Externs
import Derived.Lib.Hide
import Derived.OneCell
import Derived.Deep.RegionLaw
import Derived.Deep.AppendLies
import Derived.Laws.AppendOwnNone
import Derived.Deep.RegionHeld
import Derived.Deep.Light
import Derived.RowKit
import Derived.Deep.RegionWith
import Derived.Deep.RegionHeld3
import Derived.Lib.AppendZeros
import Derived.IntWalk
import Derived.Deep.MidRow
import Derived.Lib.SliceRun
namespace Go.Proofs.Ytbpfbebebppleaa
open Go.RowKit

/-- The slice v holds the numbers zs, each of kind k. -/
def Row (k : IntKind) (w : World) (v : Value) (zs : List Int) : Prop :=
 ∃ p c, v = .slice p zs.length c ∧ zs.length ≤ c ∧ (zs = [] ∨ ∃ b o, p = some ⟨b, o, none⟩ ∧ ∀ i, i < zs.length → w.cell? ⟨b, o + i, none⟩ = some (.int k (zs.getD i 0)))

theorem Row.kept {k : IntKind} {w w' : World} {v : Value} {zs : List Int} (h : Row k w v zs) (hb : Below w.heap.size w w') : Row k w' v zs := by
 obtain ⟨p, c, rfl, hc, h⟩ := h
 refine ⟨p, c, rfl, hc, ?_⟩
 rcases h with h | ⟨b, o, rfl, h⟩
 ·exact .inl h
 ·refine .inr ⟨b, o, rfl, fun i hi => ?_⟩
  have := h i hi
  rw [hb.cell (p := ⟨b, o + i, none⟩) (World.block_lt_of_cell? w _ this)]; exact this

/-- All numbers of the list are of 64 bits. -/
def All64 (zs : List Int) : Prop := ∀ a ∈ zs, -9223372036854775808 ≤ a ∧ a ≤ 9223372036854775807
theorem All64.getD {zs : List Int} (h : All64 zs) (i : Nat) : -9223372036854775808 ≤ zs.getD i 0 ∧ zs.getD i 0 ≤ 9223372036854775807 := by
 rw [List.getD_eq_getElem?_getD]
 by_cases hi : i < zs.length
 ·rw [List.getElem?_eq_getElem hi]; exact h _ (List.getElem_mem hi)
 ·rw [List.getElem?_eq_none (by omega)]; simp
end Go.Proofs.Ytbpfbebebppleaa
namespace Go.Proofs.Ytbpfbebebppleaa
open Go.RowKit

theorem drewN_below (B : Nat) (w : World) (n : Nat) : Below B w (w.drewN n) := ⟨rfl, rfl, rfl, Nat.le_refl _, fun _ _ => rfl⟩

theorem seqB {w a b : World} (h : Below w.heap.size w a) (k : Below a.heap.size a b) : Below w.heap.size w b := h.trans (k.mono h.size)
theorem oneB (w : World) (o : Obj) : Below w.heap.size w (w.alloc o) := (Below.refl _ _).alloc (Nat.le_refl _) _

/-- Block b holds the cells cs. -/
def Blk (w : World) (b : Nat) (cs : Array Value) (t : TypeId) : Prop := w.heap[b]? = some (.cells cs t (0, 0))
theorem Blk.lt {w : World} {b : Nat} {cs : Array Value} {t : TypeId} (h : Blk w b cs t) : b < w.heap.size := lt_of_block h
theorem Blk.cell {w : World} {b : Nat} {cs : Array Value} {t : TypeId} (h : Blk w b cs t) (i : Nat) : w.cell? ⟨b, i, none⟩ = cs[i]? := cell_of_row w b i cs t (0, 0) h
theorem Blk.free {w : World} {b : Nat} {cs : Array Value} {t : TypeId} (h : Blk w b cs t) (i : Nat) : w.frozen? ⟨b, i, none⟩ = false := by
 unfold Blk at h; simp [World.frozen?, h]
theorem Blk.new (w : World) (cs : Array Value) (t : TypeId) : Blk (w.alloc (.cells cs t)) w.heap.size cs t := heap_alloc_new w _
theorem Blk.new' (w : World) (cs : Array Value) (t : TypeId) {b : Nat} (hb : b = w.heap.size) : Blk (w.alloc (.cells cs t)) b cs t := by rw [hb]; exact heap_alloc_new w _
theorem Blk.alloc {w : World} {b : Nat} {cs : Array Value} {t : TypeId} (h : Blk w b cs t) (o : Obj) : Blk (w.alloc o) b cs t := (Below.heap_alloc w o b h.lt).trans h
theorem Blk.drew {w : World} {b : Nat} {cs : Array Value} {t : TypeId} (h : Blk w b cs t) : Blk w.drew b cs t := h
theorem Blk.set {w : World} {b : Nat} {cs : Array Value} {t : TypeId} (h : Blk w b cs t) (i : Nat) (u : Value) : Blk (w.setCell ⟨b, i, none⟩ u) b (cs.setIfInBounds i u) t := by
 have hlt := h.lt
 have h' : w.heap[b] = .cells cs t (0, 0) := by unfold Blk at h; simpa [Array.getElem?_eq_getElem hlt] using h
 show (w.heap.modify b _)[b]? = _
 rw [Array.getElem?_eq_getElem (by simpa using hlt), Array.getElem_modify_self, h']
 rfl
theorem Blk.setOther {w : World} {b : Nat} {cs : Array Value} {t : TypeId} (h : Blk w b cs t) {a : Addr} (ha : a.block ≠ b) (u : Value) : Blk (w.setCell a u) b cs t := (Below.heap_setCell w a u b (Ne.symm ha)).trans h
theorem Blk.grown {w w' : World} {b : Nat} {cs : Array Value} {t : TypeId} {row : Option Nat} (h : Blk w b cs t) (hg : w.grownBy w' row) (hr : some b ≠ row) : Blk w' b cs t := (hg.block b h.lt hr).trans h
theorem Blk.below {w w' : World} {B b : Nat} {cs : Array Value} {t : TypeId} (h : Blk w b cs t) (hb : Below B w w') (hlt : b < B) : Blk w' b cs t := (hb.block b hlt).trans h
theorem ownBlock_ne {w : World} {base b : Nat} {e : TypeId} {size : Nat} {v : Value} {n : Nat} {xs : List Value} (h : w.ownsRow base e size v n xs) (hb : b < base) : some b ≠ v.ownBlock := by
 intro e
 have := (h.lt b e.symm).1
 omega
theorem one_new (w : World) (v : Value) (t : TypeId) : ∀ (j : Nat) (u : Value), [v][j]? = some u → (w.alloc (.cells #[v] t)).cell? ((⟨w.heap.size, 0, none⟩ : Addr).add j) = some u := by
 intro j u hj
 match j, hj with
 | 0, hj =>
  simp at hj; subst hj
  show (w.alloc (.cells #[v] t)).cell? ⟨w.heap.size, 0 + 0, none⟩ = _
  rw [World.cell?_alloc_at _ _ _ _ rfl]; rfl
theorem one_cells (k : IntKind) (x : Int) : ∀ u ∈ [Value.int k x], u.oneCell' = true := by intro u hu; simp at hu; subst hu; rfl
/-- What is owned is a slice. -/
theorem owned_slice {w : World} {base : Nat} {e : TypeId} {size : Nat} {v : Value} {n : Nat} {xs : List Value} (h : w.ownsRow base e size v n xs) : ∃ p c, v = .slice p n c := by
 rcases h.2 with ⟨rfl, rfl⟩ | ⟨g, cap, cur, rfl, _⟩
 ·exact ⟨_, _, rfl⟩
 ·exact ⟨_, _, rfl⟩
end Go.Proofs.Ytbpfbebebppleaa
namespace Go.Proofs.Ytbpfbebebppleaa
open Go.RowKit

/-- A row that is laid out in a block of its own. -/
theorem Row.laid (k : IntKind) (w : World) (T : TypeId) (zs : List Int) (cs : Array Value) (hcs : cs = (zs.map (Value.int k)).toArray) (fz : Nat × Nat) (n c : Nat) (hn : n = zs.length) (hc : zs.length ≤ c) : Row k (w.alloc (.cells cs T fz)) (.slice (some ⟨w.heap.size, 0, none⟩) n c) zs := by
 subst hn
 refine ⟨_, c, rfl, hc, .inr ⟨_, _, rfl, fun i hi => ?_⟩⟩
 rw [Nat.zero_add, cell_of_row _ w.heap.size i cs T fz (heap_alloc_new w _), hcs]
 simp [List.getD_eq_getElem?_getD, hi]
theorem Row.nil_ (k : IntKind) (w : World) (c : Nat) : Row k w (.slice none 0 c) [] := ⟨none, c, rfl, Nat.zero_le _, .inl rfl⟩
/-- The call's own row v holds the integers zs. -/
def Own (k : IntKind) (w : World) (base : Nat) (e : TypeId) (v : Value) (zs : List Int) : Prop := w.ownsRow base e 1 v zs.length (zs.map (Value.int k))
theorem Own.row {k : IntKind} {w : World} {base : Nat} {e : TypeId} {v : Value} {zs : List Int} (h : Own k w base e v zs) : Row k w v zs := by
 obtain ⟨hl, h⟩ := h
 rcases h with ⟨rfl, h0⟩ | ⟨g, cap, cur, rfl, _, hg, hn, _, _, ht⟩
 ·have : zs = [] := List.length_eq_zero_iff.mp h0
  subst this
  exact ⟨none, 0, rfl, Nat.zero_le _, .inl rfl⟩
 ·refine ⟨_, cap, rfl, hn, .inr ⟨g, 0, rfl, fun i hi => ?_⟩⟩
  rw [Nat.zero_add, cell_of_row w g i cur e (0, 0) hg]
  have := congrArg (fun l => l[i]?) ht
  simp only [List.getElem?_take, Nat.mul_one, if_pos hi, List.getElem?_map] at this
  rw [List.getElem?_eq_getElem hi] at this
  rw [List.getD_eq_getElem?_getD, List.getElem?_eq_getElem hi]
  simpa using this
theorem Row.shape {k : IntKind} {w : World} {v : Value} {zs : List Int} (h : Row k w v zs) : ∃ p c, v = .slice p zs.length c := by obtain ⟨p, c, e, _⟩ := h; exact ⟨p, c, e⟩
theorem Row.under {k : IntKind} {w w' : World} {v : Value} {zs : List Int} {B : Nat} (h : Row k w v zs) (hb : Below B w w') (hB : w.heap.size ≤ B) : Row k w' v zs := h.kept (hb.mono hB)
theorem Own.form {k : IntKind} {w : World} {base : Nat} {e : TypeId} {v : Value} {zs : List Int} (h : Own k w base e v zs) : ∃ p c, v = .slice p zs.length c := owned_slice h
theorem Own.nil_ (k : IntKind) (w : World) (base : Nat) (e : TypeId) : Own k w base e (.slice none 0 0) [] := ⟨by simp, .inl ⟨rfl, rfl⟩⟩
theorem Own.made (k : IntKind) (w : World) (base : Nat) (e : TypeId) (hb : base ≤ w.heap.size) : Own k (w.alloc (.cells #[] e)) base e (.slice (some ⟨w.heap.size, 0, none⟩) 0 0) [] :=
 ⟨by simp, .inr ⟨w.heap.size, 0, #[], rfl, hb, heap_alloc_new w _, Nat.le_refl _, by decide, by simp, by simp⟩⟩
theorem Own.made_at (k : IntKind) (w : World) (b base : Nat) (e : TypeId) (hb : base ≤ b) (h : b = w.heap.size) : Own k (w.alloc (.cells #[] e)) base e (.slice (some ⟨b, 0, none⟩) 0 0) [] := by
 subst h; exact Own.made k w base e hb
theorem Own.block_ge {k : IntKind} {w : World} {base : Nat} {e : TypeId} {v : Value} {zs : List Int} (h : Own k w base e v zs) : ∀ g, v.ownBlock = some g → base ≤ g := by
 intro g hg
 rcases h.2 with ⟨rfl, _⟩ | ⟨g', cap, cur, rfl, hb, _⟩
 ·cases hg
 ·cases hg; exact hb
/-- It stays behind what leaves all of its block as it is. -/
theorem Own.below {k : IntKind} {w w' : World} {base B : Nat} {e : TypeId} {v : Value} {zs : List Int} (h : Own k w base e v zs) (hb : Below B w w') (hB : ∀ g, v.ownBlock = some g → g < B) : Own k w' base e v zs := by
 refine ⟨h.1, ?_⟩
 rcases h.2 with h | ⟨g, cap, cur, rfl, hbg, hg, hr⟩
 ·exact .inl h
 ·exact .inr ⟨g, cap, cur, rfl, hbg, (hb.block g (hB g rfl)).trans hg, hr⟩
theorem Own.lt {k : IntKind} {w : World} {base : Nat} {e : TypeId} {v : Value} {zs : List Int} (h : Own k w base e v zs) : ∀ g, v.ownBlock = some g → g < w.heap.size := fun g hg => (World.ownsRow.lt h g hg).2
theorem Own.later {k : IntKind} {w w' : World} {base : Nat} {e : TypeId} {v : Value} {zs : List Int} (h : Own k w base e v zs) (hb : Below w.heap.size w w') : Own k w' base e v zs := h.below hb h.lt
theorem Own.alloc {k : IntKind} {w : World} {base : Nat} {e : TypeId} {v : Value} {zs : List Int} (h : Own k w base e v zs) (o : Obj) : Own k (w.alloc o) base e v zs := h.later (oneB w o)
theorem Own.drew {k : IntKind} {w : World} {base : Nat} {e : TypeId} {v : Value} {zs : List Int} (h : Own k w base e v zs) : Own k w.drew base e v zs := h

theorem addAt (b o j : Nat) : (⟨b, o, none⟩ : Addr).add j = ⟨b, o + j, none⟩ := by
 unfold Addr.add; split <;> simp_all
/-- Where it lies; what a store into it leaves. -/
theorem Own.at_ {k : IntKind} {w : World} {base n c : Nat} {e : TypeId} {p : Option Addr} {zs : List Int} (h : Own k w base e (.slice p n c) zs) (hn : 0 < n) :
  ∃ g, p = some ⟨g, 0, none⟩ ∧ base ≤ g ∧ g < w.heap.size ∧ zs.length = n := by
 obtain ⟨hl, h⟩ := h
 rcases h with ⟨e, h0⟩ | ⟨g, cap, cur, e, hb, hg, _⟩
 ·cases e; omega
 ·cases e; exact ⟨g, rfl, hb, lt_of_block hg, rfl⟩
theorem Own.cell {k : IntKind} {w : World} {base n c g : Nat} {e : TypeId} {zs : List Int} (h : Own k w base e (.slice (some ⟨g, 0, none⟩) n c) zs) (i : Nat) (hi : i < n) :
  w.cell? ⟨g, i, none⟩ = some (.int k (zs.getD i 0)) ∧ w.frozen? ⟨g, i, none⟩ = false := by
 obtain ⟨hl, h⟩ := h
 rcases h with ⟨e, h0⟩ | ⟨g, cap, cur, e, hb, hg, hn, _, _, ht⟩
 ·cases e
 ·cases e
  refine ⟨?_, by simp [World.frozen?, hg]⟩
  rw [cell_of_row w g i cur _ (0, 0) hg]
  have := congrArg (fun l => l[i]?) ht
  simp only [List.getElem?_take, Nat.mul_one, if_pos hi, List.getElem?_map] at this
  rw [List.getElem?_eq_getElem hi] at this
  rw [List.getD_eq_getElem?_getD, List.getElem?_eq_getElem hi]
  simpa using this
theorem Own.set {k : IntKind} {w : World} {base n c g : Nat} {e : TypeId} {zs : List Int} (h : Own k w base e (.slice (some ⟨g, 0, none⟩) n c) zs) (i : Nat) (u : Int) :
  Own k (w.setCell ⟨g, i, none⟩ (.int k u)) base e (.slice (some ⟨g, 0, none⟩) n c) (zs.set i u) := by
 obtain ⟨hl, h⟩ := h
 rcases h with ⟨e2, h0⟩ | ⟨g, cap, cur, e2, hb, hg, hn, hm, hs, ht⟩
 ·cases e2
 ·cases e2
  have hb2 : Blk w g cur e := hg
  refine ⟨by simp, .inr ⟨g, c, cur.setIfInBounds i (.int k u), by rw [List.length_set], hb, hb2.set i (.int k u), by simpa using hn, hm, by simpa using hs, ?_⟩⟩
  rw [List.length_set, Array.toList_setIfInBounds, List.take_set, ht, List.map_set]
/-- The facts of an element's type. -/
def Elt (P : Program) (t e : TypeId) (k : IntKind) (bytes : Nat) : Prop := ∃ i, P.underlying t = some (.slice e) ∧ P.info? e = some i ∧ i.zero = some (.int k 0) ∧ i.size = 1 ∧ i.bytes = bytes
theorem Row.news {k : IntKind} {w : World} {b o n c : Nat} {zs : List Int} (h : Row k w (.slice (some ⟨b, o, none⟩) n c) zs) : ∀ (j : Nat) (u : Value), (zs.map (Value.int k))[j]? = some u → w.cell? ((⟨b, o, none⟩ : Addr).add j) = some u := by
 intro j u hj
 obtain ⟨p, c', e, _, h⟩ := h
 cases e
 rcases h with rfl | ⟨b', o', e, h⟩
 ·simp at hj
 ·cases e
  have hjl : j < zs.length := by
   rcases Nat.lt_or_ge j zs.length with h | h
   ·exact h
   ·rw [List.getElem?_eq_none (by simp; omega)] at hj; cases hj
  have hc := h j hjl
  rw [List.getElem?_map, List.getElem?_eq_getElem hjl] at hj
  rw [List.getD_eq_getElem?_getD, List.getElem?_eq_getElem hjl] at hc
  rw [addAt, hc]
  simpa using hj
theorem Row.newsAt {k : IntKind} {w : World} {a : Addr} {n c : Nat} {zs : List Int} (h : Row k w (.slice (some a) n c) zs) : ∀ (j : Nat) (u : Value), (zs.map (Value.int k))[j]? = some u → w.cell? (a.add j) = some u := by
 by_cases h0 : zs = []
 ·subst h0; intro j u hj; simp at hj
 ·obtain ⟨p, c', e, _, h1⟩ := id h
  cases e
  rcases h1 with h1 | ⟨b', o', e, _⟩
  ·exact absurd h1 h0
  ·cases e
   exact h.news
theorem ints_onecell (k : IntKind) (zs : List Int) : ∀ u ∈ zs.map (Value.int k), u.oneCell' = true := by
 intro u hu
 obtain ⟨x, _, rfl⟩ := List.mem_map.1 hu
 rfl
/-- The append itself, as a run. -/
theorem run_append_row {P : Program} (w : World) (t ty e : TypeId) (k : IntKind) (bytes base : Nat) (he : Elt P t e k bytes) (v y : Value) (zs ys : List Int) (hown : Own k w base e v zs) (hrow : Row k w y ys)
  (h63 : zs.length + ys.length ≤ 140737488355000) (hbytes : (zs.length + ys.length) * bytes ≤ 140737488355328) (hbase : base ≤ w.heap.size) :
  ∃ v' w', (Builtin.append_ #[t, t] ty #[v, y]).run P w = .ok v' w' ∧ Own k w' base e v' (zs ++ ys) ∧ Below base w w' := by
 obtain ⟨i, ht, hi, hz, hs, hby⟩ := he
 obtain ⟨p, c, rfl, hc, hr⟩ := id hrow
 have h63' : zs.length + ys.length ≤ maxLen := by unfold maxLen; omega
 cases p with
 | some ad =>
  obtain ⟨v', w', hrun, hown', hg, _⟩ := run_append_own_at (P := P) w base t ty e i (.int k 0) 1 bytes ht hi hz hs hby rfl (by decide) v zs.length (zs.map (.int k)) hown ad ys.length c (ys.map (.int k)) (by simp) hrow.newsAt (ints_onecell k ys) h63' hbytes hbase
  refine ⟨v', w', hrun, ?_, (Below.refl _ _).grown hg hbase (fun g hg' => hown.block_ge g hg')⟩
  unfold Own
  rw [List.map_append, List.length_append]
  exact hown'
 | none =>
  have hy : ys = [] := by
   rcases hr with h | ⟨b, o, h, _⟩
   ·exact h
   ·cases h
  subst hy
  refine ⟨v, w, ?_, by simpa using hown, Below.refl _ _⟩
  rcases hown.2 with ⟨rfl, h0⟩ | ⟨g, cap, cur, rfl, _, _, hnc, _⟩
  ·simp [Builtin.append_, run_underlying ht, sizeOf, typeInfo, hi, Builtin.lenOf, Builtin.firstCells]
  ·simp [Builtin.append_, run_underlying ht, sizeOf, typeInfo, hi, Builtin.lenOf, Builtin.firstCells, hnc, storeCells]
/-- In a plain region. -/
theorem wpList_append_row {P : Program} {w : World} {ops : Array Oper} {rest : List Oper} {o : Oper} {a : Act} {Q : Exit → Act → World → Prop} (hgd : o.guard = none) (s x : Operand) (t : TypeId)
  (ho : o.op = .call { callee := .builtin .append, args := #[s, x], argTypes := #[t, t] })
  (e : TypeId) (k : IntKind) (bytes base : Nat) (he : Elt P t e k bytes) (v y : Value) (zs ys : List Int) (hs : a.eval s = v) (hx : a.eval x = y) (hown : Own k w base e v zs) (hrow : Row k w y ys)
  (h63 : zs.length + ys.length ≤ 140737488355000) (hbytes : (zs.length + ys.length) * bytes ≤ 140737488355328) (hbase : base ≤ w.heap.size)
  (L : List Int) (N : Nat) (hL : zs ++ ys = L) (hN : L.length = N)
  (h : ∀ p' c' w', Own k w' base e (.slice p' N c') L → Below base w w' → wpList P ops Q rest (a.put o.dst (.slice p' N c')) w') : wpList P ops Q (o :: rest) a w := by
 subst hL
 subst hN
 refine wpList_plain hgd fun K hK => ?_
 obtain ⟨v', w', hrun, h1, h2⟩ := run_append_row w t o.type e k bytes base he v y zs ys hown hrow h63 hbytes hbase
 unfold Oper.wp
 obtain ⟨p', c', rfl⟩ := h1.form
 simp [execOp, ho, resolve, invoke, builtin, hs, hx, hrun, Result.andThen]
 exact hK _ _ (by simpa using h p' c' w' h1 h2)
/-- Where the order is open. -/
theorem step_append_row {P : Program} {w : World} {ops : Array Oper} {o : Oper} {a : Act} {K : Act → World → Prop} {Q : Exit → Act → World → Prop} {E : Prop} (hgd : o.guard = none) (s x : Operand) (t : TypeId)
  (ho : o.op = .call { callee := .builtin .append, args := #[s, x], argTypes := #[t, t] })
  (e : TypeId) (k : IntKind) (bytes base : Nat) (he : Elt P t e k bytes) (v y : Value) (zs ys : List Int) (hs : a.eval s = v) (hx : a.eval x = y) (hown : Own k w base e v zs) (hrow : Row k w y ys)
  (h63 : zs.length + ys.length ≤ 140737488355000) (hbytes : (zs.length + ys.length) * bytes ≤ 140737488355328) (hbase : base ≤ w.heap.size)
  (L : List Int) (N : Nat) (hL : zs ++ ys = L) (hN : L.length = N)
  (h : ∀ p' c' w', Own k w' base e (.slice p' N c') L → Below base w w' → K (a.put o.dst (.slice p' N c')) w') :
  if Region.wanted o (yielded ops a.tmps) = true then Oper.wp P o a w K Q else E := by
 have hw : Region.wanted o (yielded ops a.tmps) = true := by simp [Region.wanted, hgd]
 rw [if_pos hw]
 subst hL
 subst hN
 obtain ⟨v', w', hrun, h1, h2⟩ := run_append_row w t o.type e k bytes base he v y zs ys hown hrow h63 hbytes hbase
 unfold Oper.wp
 obtain ⟨p', c', rfl⟩ := h1.form
 simp [execOp, ho, resolve, invoke, builtin, hs, hx, hrun, Result.andThen]
 have h3 := h p' c' w' h1 h2
 simp only [List.length_append] at h3
 exact h3
end Go.Proofs.Ytbpfbebebppleaa
namespace Go.Proofs.Ytbpfbebebppleaa
open Go.RowKit
/-- Of what was there block g alone may be another one. -/
def Chg (g : Nat) (w w' : World) : Prop := Below 0 w w' ∧ ∀ k, k < w.heap.size → k ≠ g → w'.heap[k]? = w.heap[k]?
theorem Chg.refl (g : Nat) (w : World) : Chg g w w := ⟨Below.refl _ _, fun _ _ _ => rfl⟩
theorem Chg.of_below {g : Nat} {w w' : World} (h : Below w.heap.size w w') : Chg g w w' := ⟨h.mono (Nat.zero_le _), fun k hk _ => h.block k hk⟩
theorem Chg.size {g : Nat} {w w' : World} (h : Chg g w w') : w.heap.size ≤ w'.heap.size := h.1.size
theorem Chg.trans {g : Nat} {w a b : World} (h : Chg g w a) (k : Chg g a b) : Chg g w b := ⟨h.1.trans k.1, fun j hj hg => (k.2 j (Nat.lt_of_lt_of_le hj h.size) hg).trans (h.2 j hj hg)⟩
theorem Chg.set {g : Nat} {w w' : World} (h : Chg g w w') (i : Nat) (v : Value) : Chg g w (w'.setCell ⟨g, i, none⟩ v) :=
 ⟨h.1.setCell (p := ⟨g, i, none⟩) (Nat.zero_le _) v, fun k hk hg => (Below.heap_setCell w' ⟨g, i, none⟩ v k hg).trans (h.2 k hk hg)⟩
theorem Chg.alloc {g : Nat} {w w' : World} (h : Chg g w w') (o : Obj) : Chg g w (w'.alloc o) := h.trans (Chg.of_below (oneB w' o))
theorem Chg.drew {g : Nat} {w w' : World} (h : Chg g w w') : Chg g w w'.drew := ⟨h.1.drew, fun k hk hg => h.2 k hk hg⟩
theorem Chg.below {g B : Nat} {w w' : World} (h : Chg g w w') (hg : B ≤ g) (hB : B ≤ w.heap.size) : Below B w w' :=
 ⟨h.1.1, h.1.2, h.1.3, h.1.4, fun k hk => h.2 k (by omega) (by omega)⟩
theorem Chg.cell {g : Nat} {w w' : World} (h : Chg g w w') {a : Addr} (ha : a.block < w.heap.size) (hg : a.block ≠ g) : w'.cell? a = w.cell? a := World.cell?_of_block (h.2 a.block ha hg)
theorem Blk.chg {w w' : World} {b g : Nat} {cs : Array Value} {t : TypeId} (h : Blk w b cs t) (hc : Chg g w w') (hb : b ≠ g) : Blk w' b cs t := (hc.2 b h.lt hb).trans h
/-- A row that lies in block g0. -/
def RowAt (k : IntKind) (w : World) (g0 : Nat) (v : Value) (zs : List Int) : Prop :=
 ∃ p c, v = .slice p zs.length c ∧ zs.length ≤ c ∧ (zs = [] ∨ ∃ o, p = some ⟨g0, o, none⟩ ∧ ∀ i, i < zs.length → w.cell? ⟨g0, o + i, none⟩ = some (.int k (zs.getD i 0)))
theorem RowAt.row {k : IntKind} {w : World} {g0 : Nat} {v : Value} {zs : List Int} (h : RowAt k w g0 v zs) : Row k w v zs := by
 obtain ⟨p, c, hv, hc, h⟩ := h
 refine ⟨p, c, hv, hc, ?_⟩
 rcases h with h | ⟨o, hp, h⟩
 ·exact .inl h
 ·exact .inr ⟨g0, o, hp, h⟩
theorem RowAt.shape {k : IntKind} {w : World} {g0 : Nat} {v : Value} {zs : List Int} (h : RowAt k w g0 v zs) : ∃ p c, v = .slice p zs.length c := by obtain ⟨p, c, e, _⟩ := h; exact ⟨p, c, e⟩
theorem RowAt.keep {k : IntKind} {w w' : World} {g0 : Nat} {v : Value} {zs : List Int} (h : RowAt k w g0 v zs) (hk : g0 < w.heap.size → w'.heap[g0]? = w.heap[g0]?) : RowAt k w' g0 v zs := by
 obtain ⟨p, c, hv, hc, h⟩ := h
 refine ⟨p, c, hv, hc, ?_⟩
 rcases h with h | ⟨o, hp, h⟩
 ·exact .inl h
 ·refine .inr ⟨o, hp, fun i hi => ?_⟩
  have h1 := h i hi
  rw [World.cell?_of_block (hk (World.block_lt_of_cell? w _ h1))]; exact h1
theorem RowAt.chg {k : IntKind} {w w' : World} {g0 g : Nat} {v : Value} {zs : List Int} (h : RowAt k w g0 v zs) (hc : Chg g w w') (hg : g0 ≠ g) : RowAt k w' g0 v zs := h.keep fun hl => hc.2 g0 hl hg
theorem RowAt.below {k : IntKind} {w w' : World} {g0 B : Nat} {v : Value} {zs : List Int} (h : RowAt k w g0 v zs) (hb : Below B w w') (hB : g0 < w.heap.size → g0 < B) : RowAt k w' g0 v zs := h.keep fun hl => hb.block g0 (hB hl)
theorem RowAt.nil_ (k : IntKind) (w : World) (g0 c : Nat) : RowAt k w g0 (.slice none 0 c) [] := ⟨none, c, rfl, Nat.zero_le _, .inl rfl⟩
/-- What is the call's own lies in a block of its own. -/
theorem Own.rowAt {k : IntKind} {w : World} {base : Nat} {e : TypeId} {v : Value} {zs : List Int} (h : Own k w base e v zs) : ∃ g0, base ≤ g0 ∧ (g0 < w.heap.size ∨ zs = [] ∧ g0 = base) ∧ RowAt k w g0 v zs := by
 obtain ⟨p, c, rfl⟩ := h.form
 by_cases hz : zs.length = 0
 ·have : zs = [] := List.length_eq_zero_iff.mp hz
  subst this
  exact ⟨base, Nat.le_refl _, .inr ⟨rfl, rfl⟩, p, c, rfl, Nat.zero_le _, .inl rfl⟩
 ·obtain ⟨g, rfl, hb, hl, _⟩ := h.at_ (by omega)
  obtain ⟨p', c', e', hc, _⟩ := h.row
  cases e'
  exact ⟨g, hb, .inl hl, _, c, rfl, hc, .inr ⟨0, rfl, fun i hi => by rw [Nat.zero_add]; exact (h.cell i hi).1⟩⟩
/-- A part of a row. -/
theorem RowAt.take {k : IntKind} {w : World} {g0 n c : Nat} {p : Option Addr} {zs : List Int} (h : RowAt k w g0 (.slice p n c) zs) (m : Nat) (hm : m ≤ zs.length) : RowAt k w g0 (.slice p m c) (zs.take m) := by
 obtain ⟨p', c', e, hc, h⟩ := h
 cases e
 refine ⟨p, c, by rw [List.length_take, Nat.min_eq_left hm], by rw [List.length_take]; omega, ?_⟩
 rcases h with h | ⟨o, hp, h⟩
 ·left; rw [h]; simp
 ·refine .inr ⟨o, hp, fun i hi => ?_⟩
  rw [List.length_take] at hi
  rw [h i (by omega), List.getD_eq_getElem?_getD, List.getD_eq_getElem?_getD, List.getElem?_take, if_pos (by omega)]
/-- What lies behind its first so many. -/
def dropP (p : Option Addr) (c m : Nat) : Option Addr := if c = m then p else p.map (·.add m)
theorem RowAt.drop {k : IntKind} {w : World} {g0 n c : Nat} {p : Option Addr} {zs : List Int} (h : RowAt k w g0 (.slice p n c) zs) (m : Nat) (hm : m ≤ zs.length) : RowAt k w g0 (.slice (dropP p c m) (n - m) (c - m)) (zs.drop m) := by
 obtain ⟨p', c', e, hc, h⟩ := h
 cases e
 refine ⟨_, _, by rw [List.length_drop], by rw [List.length_drop]; omega, ?_⟩
 by_cases hz : zs.length = m
 ·left; rw [List.drop_eq_nil_of_le (by omega)]
 ·rcases h with h | ⟨o, hp, h⟩
  ·left; rw [h]; simp
  ·refine .inr ⟨o + m, ?_, fun i hi => ?_⟩
   ·unfold dropP
    rw [if_neg (by omega), hp]
    simp [addAt]
   ·rw [List.length_drop] at hi
    rw [Nat.add_assoc, h (m + i) (by omega), List.getD_eq_getElem?_getD, List.getD_eq_getElem?_getD, List.getElem?_drop]
end Go.Proofs.Ytbpfbebebppleaa
namespace Go.Proofs.Ytbpfbebebppleaa
open Go Go.RowKit
section
variable {P : Program} {md : Region.Mode} {ops : Array Oper} {Q : Exit → Act → World → Prop} {S : World → Prop}
/-- What reads only may be taken first. -/
theorem tkq {fuel : Nat} {listed : Array Bool} {a a' : Act} {w : World} {v : Value} {oi : Oper} (i : Nat) (h : wpAnyH P md ops Q S fuel (listed.setIfInBounds i true) a' w)
  (hi : ops[i]? = some oi := by rfl)
  (hb : (Region.noSelect ops && (Region.free md ops listed i && ((Region.ready md ops listed).contains i && Region.wanted oi (yielded ops a.tmps)))) = true := by kernel_rfl)
  (hv : ∀ w, S w → (execOp a.eval oi).run P w = .ok (.value v) w := by
   intro w hSw
   try dsimp only at hSw
   first | (go_simp; done) | (go_simp; with_reducible rfl))
  (ha : a.put oi.dst v = a' := by
   try simp only [Act.put, List.getElem_toArray, List.getElem_cons_succ, List.getElem_cons_zero, List.setIfInBounds_toArray, List.set_cons_zero, List.set_cons_succ]
   try rfl)
  (hQ : ∀ c a w, Q (.panic c) (a.put oi.dst v) w → Q (.panic c) a w := by exact fun _ _ _ h => h)
  (hS : S w := by first | assumption | trivial) : wpAnyH P md ops Q S (fuel + 1) listed a w := by
 simp only [Bool.and_eq_true] at hb
 obtain ⟨h1, h2, h3, h4⟩ := hb
 exact wpAnyH_take hi h1 h2 h3 hQ (Or.inl ⟨h4, hv⟩) hS (by rw [ha]; exact h)
/-- What is not wanted may be passed. -/
theorem tnq {fuel : Nat} {listed : Array Bool} {a a' : Act} {w : World} {oi : Oper} (i : Nat) (h : wpAnyH P md ops Q S fuel (listed.setIfInBounds i true) a' w)
  (hi : ops[i]? = some oi := by rfl)
  (hb : (Region.noSelect ops && (Region.free md ops listed i && ((Region.ready md ops listed).contains i && !Region.wanted oi (yielded ops a.tmps)))) = true := by kernel_rfl)
  (ha : a.put oi.dst undef = a' := by
   try simp only [Act.put, List.getElem_toArray, List.getElem_cons_succ, List.getElem_cons_zero, List.setIfInBounds_toArray, List.set_cons_zero, List.set_cons_succ]
   try rfl)
  (hQ : ∀ c a w, Q (.panic c) (a.put oi.dst undef) w → Q (.panic c) a w := by exact fun _ _ _ h => h)
  (hS : S w := by first | assumption | trivial) : wpAnyH P md ops Q S (fuel + 1) listed a w := by
 simp only [Bool.and_eq_true, Bool.not_eq_true'] at hb
 obtain ⟨h1, h2, h3, h4⟩ := hb
 exact wpAnyH_take hi h1 h2 h3 hQ (Or.inr ⟨h4, rfl⟩) hS (by rw [ha]; exact h)
/-- One operation is ready. -/
theorem rdq {fuel : Nat} {listed : Array Bool} {a : Act} {w : World} {o : Oper} (i : Nat)
  (h : ∀ K' : Act → World → Prop, Shut (∀ a w, S w → (S w → wpAnyH P md ops Q S fuel (listed.setIfInBounds i true) a w) → K' a w) → if Region.wanted o (yielded ops a.tmps) = true then Oper.wp P o a w K' Q else K' (a.put o.dst undef) w)
  (hr : Region.ready md ops listed = [i] := by kernel_rfl) (ho : ops[i]? = some o := by rfl) : wpAnyH P md ops Q S (fuel + 1) listed a w :=
 wpAnyH_ready hr (by simp) (AllReadyH.cons ho h AllReadyH.nil)
end
theorem kbq {w w' : World} {b : Nat} {cs : Array Value} {t : TypeId} (h : Hid (Blk w b cs t)) (hb : Below w.heap.size w w') : Hid (Blk w' b cs t) := Lib.hid (h.out.below hb h.out.lt)
theorem kcq {w w' : World} {b g : Nat} {cs : Array Value} {t : TypeId} (h : Hid (Blk w b cs t)) (hc : Hid (Chg g w w')) (hn : b ≠ g) : Hid (Blk w' b cs t) := Lib.hid (h.out.chg hc.out hn)
theorem ktq {w a c : World} (h : Hid (Below w.heap.size w a)) (hb : Below a.heap.size a c) : Hid (Below w.heap.size w c) := Lib.hid (h.out.trans (hb.mono h.out.size))
theorem ksq {g : Nat} {w a c : World} (h : Hid (Below w.heap.size w a)) (hc : Hid (Chg g a c)) (hg : w.heap.size ≤ g) : Hid (Below w.heap.size w c) := Lib.hid (h.out.trans (hc.out.below hg h.out.size))
theorem kzq {B : Nat} {w a : World} (h : Hid (B ≤ w.heap.size)) (hb : w.heap.size ≤ a.heap.size) : Hid (B ≤ a.heap.size) := Lib.hid (Nat.le_trans h.out hb)
end Go.Proofs.Ytbpfbebebppleaa
namespace Go.Proofs.Ytbpfbebebppleaa
open Go.RowKit
def F64 (z : Int) : Prop := -9223372036854775808 ≤ z ∧ z ≤ 9223372036854775807
structure Itm where
 s : Int
 n : Int
 b : Int
 c : Int
 a : Int
 r : Int
 t : Int
 y : Int
deriving DecidableEq
def Itm.v (x : Itm) : Value := .agg #[.int .i64 x.s, .int .i64 x.n, .int .i64 x.b, .int .i64 x.c, .int .i64 x.a, .int .i64 x.r, .int .i64 x.t, .int .i64 x.y]
def Itm.Fit (x : Itm) : Prop := F64 x.s ∧ F64 x.n ∧ F64 x.b ∧ F64 x.c ∧ F64 x.a ∧ F64 x.r ∧ F64 x.t ∧ F64 x.y
def partsOk (x : Itm) : Prop := (0 ≤ x.s ∧ x.s ≤ 7) ∧ (0 ≤ x.b ∧ x.b ≤ 7) ∧ x.s ≠ x.b
def numsOk (x : Itm) : Prop := (1 ≤ x.n ∧ x.n ≤ 1048576) ∧ (0 ≤ x.c ∧ x.c ≤ 7) ∧ (1 ≤ x.a ∧ x.a ≤ 1125899906842624) ∧ (0 ≤ x.r ∧ x.r ≤ 3) ∧ (1 ≤ x.t ∧ x.t ≤ 5) ∧ (0 ≤ x.y ∧ x.y ≤ 1048576)
def cycBad (x : Itm) : Prop := (x.y ≠ 0 ∧ x.t ≠ 3 ∧ x.t ≠ 5) ∨ (x.y = 0 ∧ x.t = 5)
instance (x : Itm) : Decidable (partsOk x) := by unfold partsOk; infer_instance
instance (x : Itm) : Decidable (numsOk x) := by unfold numsOk; infer_instance
instance (x : Itm) : Decidable (cycBad x) := by unfold cycBad; infer_instance
def chkI (x : Itm) : Int := if partsOk x ∧ numsOk x then (if cycBad x then 90 else 0) else 1
def turnI (x : Itm) (f t : Int) : Itm × Int := if x.t = f then ({ x with t := t }, 0) else (x, 90)
def adjI (x : Itm) (n : Int) : Itm × Int :=
 if x.t = 2 then (if 1 ≤ n ∧ n ≤ 1125899906842624 then (if x.r = 3 then (x, 91) else ({ x with t := 1, r := x.r + 1, a := n }, 0)) else (x, 1)) else (x, 90)
def lockI (x : Itm) (n : Int) : Itm × Int :=
 if x.t = 3 ∧ x.y = 0 then (if 1 ≤ n ∧ n ≤ 1048576 then ({ x with y := n }, 0) else (x, 1)) else (x, 90)
def freeI (x : Itm) : Itm × Int := if x.t = 3 ∧ x.y ≠ 0 then ({ x with y := 0 }, 0) else (x, 90)
def settleI (x : Itm) : Itm × Int := if x.t = 3 ∧ x.y ≠ 0 then ({ x with t := 5 }, 0) else (x, 90)
def actI (x : Itm) (k n : Int) : Itm × Int :=
 if k = 1 then turnI x 1 2 else if k = 2 then turnI x 1 3 else if k = 3 then turnI x 2 4 else if k = 4 then adjI x n
 else if k = 5 then lockI x n else if k = 6 then freeI x else if k = 7 then settleI x else (x, 0)
def rankI (x : Itm) : Int :=
 if x.t = 1 then 2 * x.r else if x.t = 2 then 2 * x.r + 1 else if x.t = 3 ∨ x.t = 4 then 8 else if x.t = 5 then 9 else -1
theorem chk_ok {x : Itm} (h : chkI x = 0) : partsOk x ∧ numsOk x ∧ ¬ cycBad x := by
 unfold chkI at h
 split at h
 ·rename_i h1
  split at h
  ·cases h
  ·exact ⟨h1.1, h1.2, ‹_›⟩
 ·cases h
theorem ok_chk {x : Itm} (h1 : partsOk x) (h2 : numsOk x) (h3 : ¬ cycBad x) : chkI x = 0 := by
 unfold chkI
 rw [if_pos ⟨h1, h2⟩, if_neg h3]
theorem act_ok {x : Itm} (k n : Int) (h : chkI x = 0) : chkI (actI x k n).1 = 0 := by
 have h' := h
 obtain ⟨h1, h2, h3⟩ := chk_ok h
 unfold actI turnI adjI lockI freeI settleI
 repeat' split
 all_goals first | exact h' | (refine ok_chk ?_ ?_ ?_ <;> (unfold partsOk numsOk cycBad at *; dsimp only at *; omega))
theorem act_fit {x : Itm} (k n : Int) (h : chkI x = 0) : (actI x k n).1.Fit := by
 obtain ⟨h1, h2, _⟩ := chk_ok (act_ok k n h)
 unfold partsOk at h1
 unfold numsOk at h2
 unfold Itm.Fit F64
 omega
end Go.Proofs.Ytbpfbebebppleaa
namespace Go.Proofs.Ytbpfbebebppleaa
open Go.RowKit
theorem infoI8 {cs : Array Value} (h : cs.size = 8) : (Try.prog.info? 64).map (·.size) = some cs.size := by
 rw [h]
 kernel_rfl
end Go.Proofs.Ytbpfbebebppleaa
namespace Go.Proofs.Ytbpfbebebppleaa
open Go.RowKit Go.Lib

/-- Below, the same, above. -/
def ord (a b : Int) : Int := if a < b then -1 else if b < a then 1 else 0
/-- The order of positions: by entity, then by currency. -/
def ord2 (e c e' c' : Int) : Int := if ord e e' = 0 then ord c c' else ord e e'
/-- A position. -/
def posV (e c a : Int) : Value := .agg #[.int .i64 e, .int .i64 c, .int .i64 a]

theorem ret_i64 {a b : Int} (h : a = b) : Ending.returned (.int .i64 a) = .returned (.int .i64 b) := by rw [h]
theorem nan_any (a : Int) (w : World) : Calls Try.prog 71 #[.int .i64 a] w fun x w' => x = .returned (.bool false) ∧ w = w' := by
 go_enter Try.func71, Try.ntmps71
 go_wp2
 go_ret
 exact ⟨by simp, rfl⟩
set_option maxHeartbeats 1000000 in
set_option maxRecDepth 100000 in
theorem cmp_any (a b : Int) (w : World) :
  Calls Try.prog 62 #[.int .i64 a, .int .i64 b] w fun x w' => x = .returned (.int .i64 (ord a b)) ∧ w = w' := by
 go_enter Try.func62, Try.ntmps62
 go_wp2_with fail
 refine (nan_any a w).mono ?_
 rintro e w1 ⟨rfl, rfl⟩
 go_wp2_with fail
 refine (nan_any b w).mono ?_
 rintro e w1 ⟨rfl, rfl⟩
 by_cases h1 : a < b
 ·have e : Hid (ord a b = -1) := if_pos h1
  go_wp2
  go_ret
  exact ⟨ret_i64 e.out.symm, rfl⟩
 ·by_cases h2 : b < a
  ·have e : Hid (ord a b = 1) := by show ord a b = 1; rw [ord, if_neg h1, if_pos h2]
   go_wp2
   go_ret
   exact ⟨ret_i64 e.out.symm, rfl⟩
  ·have e : Hid (ord a b = 0) := by show ord a b = 0; rw [ord, if_neg h1, if_neg h2]
   go_wp2
   go_ret
   exact ⟨ret_i64 e.out.symm, rfl⟩
set_option maxHeartbeats 1000000 in
set_option maxRecDepth 100000 in
theorem or_any (a b : Int) (w : World) (b0 : Nat) (hB : Blk w b0 #[.int .i64 a, .int .i64 b] 3) :
  Calls Try.prog 61 #[.slice (some ⟨b0, 0, none⟩) 2 2] w fun x w' => x = .returned (.int .i64 (if a = 0 then b else a)) ∧ w = w' := by
 have hc0 : w.cell? ⟨b0, 0, none⟩ = some (.int .i64 a) := hB.cell 0
 have hc1 : w.cell? ⟨b0, 1, none⟩ = some (.int .i64 b) := hB.cell 1
 clear hB
 go_enter Try.func61, Try.ntmps61
 go_wp2
 go_loop [8] (fun v8 => ∃ i : Nat, i ≤ 2 ∧ v8 = .int .i64 i ∧ (1 ≤ i → a = 0) ∧ (2 ≤ i → b = 0)) (fun v8 => (2 - RowKit.intOf v8).toNat)
 case atStart => exact ⟨0, by omega, rfl, (fun h => by omega), (fun h => by omega)⟩
 case round =>
  obtain ⟨i, hi, rfl, ha, hb⟩ := hrel
  match i, hi with
  | 0, _ =>
   by_cases h : a = 0
   ·have h' : (a != 0) = false := by simpa using h
    have HH := Lib.hid h
    clear h
    go_wp2
    go_round
    case rel => exact ⟨1, by omega, rfl, (fun _ => HH.out), (fun h => by omega)⟩
    case measure => simp [RowKit.intOf]
   ·have h' : (a != 0) = true := by simpa using h
    have HH := Lib.hid h
    clear h
    go_wp2
    go_ret
    exact ⟨ret_i64 (by first | rfl | rw [if_neg HH.out]), rfl⟩
  | 1, _ =>
   have HA := Lib.hid (ha (by omega))
   by_cases h : b = 0
   ·have h' : (b != 0) = false := by simpa using h
    have HH := Lib.hid h
    clear h ha hb
    go_wp2
    go_round
    case rel => exact ⟨2, by omega, rfl, (fun _ => HA.out), (fun _ => HH.out)⟩
    case measure => simp [RowKit.intOf]
   ·have h' : (b != 0) = true := by simpa using h
    clear h ha hb
    go_wp2
    go_ret
    exact ⟨ret_i64 (by first | rfl | rw [if_pos HA.out]), rfl⟩
  | 2, _ =>
   have HA := Lib.hid (ha (by omega))
   have HB := Lib.hid (hb (by omega))
   clear ha hb
   go_wp2
   go_ret
   exact ⟨ret_i64 (by have h2 := HB.out; first | exact h2.symm | simp [h2]), rfl⟩
end Go.Proofs.Ytbpfbebebppleaa
namespace Go.Proofs.Ytbpfbebebppleaa
open Go.RowKit
/-- A name. -/
def idV (s n : Int) : Value := .agg #[.int .i64 s, .int .i64 n]
set_option linter.unusedSimpArgs false in
set_option maxHeartbeats 4000000 in
set_option maxRecDepth 100000 in
theorem bcompare_any (e c e' c' : Int) (w : World) :
  Calls Try.prog 44 #[idV e c, idV e' c'] w fun x w' => x = .returned (.int .i64 (ord2 e c e' c')) ∧ Below w.heap.size w w' := by
 unfold idV
 go_enter Try.func44, Try.ntmps44
 go_wp2_with fail
 generalize hWB : (w.alloc (.cells #[.int .i64 e, .int .i64 c] 36)).alloc (.cells #[.int .i64 e', .int .i64 c'] 36) = WB
 have hB : Below w.heap.size w WB := by rw [← hWB]; exact (oneB w _).alloc (by simp) _
 have hA0 : Blk WB w.heap.size #[.int .i64 e, .int .i64 c] 36 := by rw [← hWB]; exact (Blk.new w _ _).alloc _
 have hA1 : Blk WB (w.heap.size + 1) #[.int .i64 e', .int .i64 c'] 36 := by rw [← hWB]; exact Blk.new' _ _ _ (by simp)
 have HS : Hid (∀ w', Below WB.heap.size WB w' → (w'.cell? ⟨w.heap.size, 0, none⟩ = some (.int .i64 e) ∧ w'.cell? ⟨w.heap.size, 1, none⟩ = some (.int .i64 c)) ∧ w'.cell? ⟨w.heap.size + 1, 0, none⟩ = some (.int .i64 e') ∧ w'.cell? ⟨w.heap.size + 1, 1, none⟩ = some (.int .i64 c')) :=
  fun w' h => ⟨⟨(hA0.below h hA0.lt).cell 0, (hA0.below h hA0.lt).cell 1⟩, (hA1.below h hA1.lt).cell 0, (hA1.below h hA1.lt).cell 1⟩
 have HB := Lib.hid hB
 clear hWB hB hA0 hA1
 have hS1 := HS.out WB.drew (Below.refl _ WB).drew
 refine wp_region_held_drew (S := fun w' => (w'.cell? ⟨w.heap.size, 0, none⟩ = some (.int .i64 e) ∧ w'.cell? ⟨w.heap.size, 1, none⟩ = some (.int .i64 c)) ∧ w'.cell? ⟨w.heap.size + 1, 0, none⟩ = some (.int .i64 e') ∧ w'.cell? ⟨w.heap.size + 1, 1, none⟩ = some (.int .i64 c')) (by kernel_rfl) hS1 (fun hS0 => ?_)
 refine wpAnyH_take (i := 0) (v := ?_) rfl (by kernel_rfl) (by kernel_rfl) (by kernel_rfl) (fun _ _ _ h => h) (Or.inl ⟨by kernel_rfl, ?_⟩) (by first | trivial | assumption) ?_
 rotate_left
 ·intro w hSw
  try dsimp only at hSw
  first | (go_simp; done) | (go_simp; with_reducible rfl)
 try simp only [Act.put, List.getElem_toArray, List.getElem_cons_succ, List.getElem_cons_zero, List.setIfInBounds_toArray, List.set_cons_zero, List.set_cons_succ]
 refine wpAnyH_take (i := 2) (v := ?_) rfl (by kernel_rfl) (by kernel_rfl) (by kernel_rfl) (fun _ _ _ h => h) (Or.inl ⟨by kernel_rfl, ?_⟩) (by first | trivial | assumption) ?_
 rotate_left
 ·intro w hSw
  try dsimp only at hSw
  first | (go_simp; done) | (go_simp; with_reducible rfl)
 try simp only [Act.put, List.getElem_toArray, List.getElem_cons_succ, List.getElem_cons_zero, List.setIfInBounds_toArray, List.set_cons_zero, List.set_cons_succ]
 refine wpAnyH_take (i := 5) (v := ?_) rfl (by kernel_rfl) (by kernel_rfl) (by kernel_rfl) (fun _ _ _ h => h) (Or.inl ⟨by kernel_rfl, ?_⟩) (by first | trivial | assumption) ?_
 rotate_left
 ·intro w hSw
  try dsimp only at hSw
  first | (go_simp; done) | (go_simp; with_reducible rfl)
 try simp only [Act.put, List.getElem_toArray, List.getElem_cons_succ, List.getElem_cons_zero, List.setIfInBounds_toArray, List.set_cons_zero, List.set_cons_succ]
 refine wpAnyH_take (i := 7) (v := ?_) rfl (by kernel_rfl) (by kernel_rfl) (by kernel_rfl) (fun _ _ _ h => h) (Or.inl ⟨by kernel_rfl, ?_⟩) (by first | trivial | assumption) ?_
 rotate_left
 ·intro w hSw
  try dsimp only at hSw
  first | (go_simp; done) | (go_simp; with_reducible rfl)
 try simp only [Act.put, List.getElem_toArray, List.getElem_cons_succ, List.getElem_cons_zero, List.setIfInBounds_toArray, List.set_cons_zero, List.set_cons_succ]
 refine wpAnyH_take (i := 1) (v := ?_) rfl (by kernel_rfl) (by kernel_rfl) (by kernel_rfl) (fun _ _ _ h => h) (Or.inl ⟨by kernel_rfl, ?_⟩) (by first | trivial | assumption) ?_
 rotate_left
 ·intro w hSw
  try dsimp only at hSw
  first | (go_simp; done) | (go_simp; with_reducible rfl)
 try simp only [Act.put, List.getElem_toArray, List.getElem_cons_succ, List.getElem_cons_zero, List.setIfInBounds_toArray, List.set_cons_zero, List.set_cons_succ]
 refine wpAnyH_take (i := 3) (v := ?_) rfl (by kernel_rfl) (by kernel_rfl) (by kernel_rfl) (fun _ _ _ h => h) (Or.inl ⟨by kernel_rfl, ?_⟩) (by first | trivial | assumption) ?_
 rotate_left
 ·intro w hSw
  try dsimp only at hSw
  first | (go_simp; done) | (go_simp; with_reducible rfl)
 try simp only [Act.put, List.getElem_toArray, List.getElem_cons_succ, List.getElem_cons_zero, List.setIfInBounds_toArray, List.set_cons_zero, List.set_cons_succ]
 refine wpAnyH_take (i := 6) (v := ?_) rfl (by kernel_rfl) (by kernel_rfl) (by kernel_rfl) (fun _ _ _ h => h) (Or.inl ⟨by kernel_rfl, ?_⟩) (by first | trivial | assumption) ?_
 rotate_left
 ·intro w hSw
  try dsimp only at hSw
  first | (go_simp; done) | (go_simp; with_reducible rfl)
 try simp only [Act.put, List.getElem_toArray, List.getElem_cons_succ, List.getElem_cons_zero, List.setIfInBounds_toArray, List.set_cons_zero, List.set_cons_succ]
 refine wpAnyH_take (i := 8) (v := ?_) rfl (by kernel_rfl) (by kernel_rfl) (by kernel_rfl) (fun _ _ _ h => h) (Or.inl ⟨by kernel_rfl, ?_⟩) (by first | trivial | assumption) ?_
 rotate_left
 ·intro w hSw
  try dsimp only at hSw
  first | (go_simp; done) | (go_simp; with_reducible rfl)
 try simp only [Act.put, List.getElem_toArray, List.getElem_cons_succ, List.getElem_cons_zero, List.setIfInBounds_toArray, List.set_cons_zero, List.set_cons_succ]
 refine rdq 4 (fun K hK => ?_)
 go_simp
 go_at_call 62
 refine (cmp_any e e' WB.drew).mono ?_
 rintro y w1 ⟨rfl, rfl⟩
 try go_wp2_with fail
 refine hK.out _ _ hS1 (fun hS => ?_)
 clear hK K
 try simp only [Act.put, List.getElem_toArray, List.getElem_cons_succ, List.getElem_cons_zero, List.setIfInBounds_toArray, List.set_cons_zero, List.set_cons_succ]
 refine rdq 9 (fun K hK => ?_)
 go_simp
 go_at_call 62
 refine (cmp_any c c' WB.drew).mono ?_
 rintro y w1 ⟨rfl, rfl⟩
 try go_wp2_with fail
 refine hK.out _ _ hS1 (fun hS => ?_)
 clear hK K
 try simp only [Act.put, List.getElem_toArray, List.getElem_cons_succ, List.getElem_cons_zero, List.setIfInBounds_toArray, List.set_cons_zero, List.set_cons_succ]
 refine rdq 10 (fun K hK => ?_)
 go_simp
 have hS2 := HS.out (WB.drew.alloc (.cells #[.int .i64 (ord e e'), .int .i64 (ord c c')] 3)) ((Below.refl _ WB).drew.alloc (Nat.le_refl _) _)
 refine hK.out _ _ hS2 (fun hS => ?_)
 clear hK K
 try simp only [Act.put, List.getElem_toArray, List.getElem_cons_succ, List.getElem_cons_zero, List.setIfInBounds_toArray, List.set_cons_zero, List.set_cons_succ]
 refine rdq 11 (fun K hK => ?_)
 go_simp
 go_at_call 61
 refine (or_any (ord e e') (ord c c') _ _ (Blk.new' WB.drew _ _ rfl)).mono ?_
 rintro y w1 ⟨rfl, rfl⟩
 rw [show (if ord e e' = 0 then ord c c' else ord e e') = ord2 e c e' c' from rfl]
 try go_wp2_with fail
 refine hK.out _ _ hS2 (fun hS => ?_)
 clear hK K
 try simp only [Act.put, List.getElem_toArray, List.getElem_cons_succ, List.getElem_cons_zero, List.setIfInBounds_toArray, List.set_cons_zero, List.set_cons_succ]
 refine wpAnyH_take (i := 12) (v := ?_) rfl (by kernel_rfl) (by kernel_rfl) (by kernel_rfl) (fun _ _ _ h => h) (Or.inl ⟨by kernel_rfl, ?_⟩) (by first | trivial | assumption) ?_
 rotate_left
 ·intro w hSw
  try dsimp only at hSw
  first | (go_simp; done) | (go_simp; with_reducible rfl)
 try simp only [Act.put, List.getElem_toArray, List.getElem_cons_succ, List.getElem_cons_zero, List.setIfInBounds_toArray, List.set_cons_zero, List.set_cons_succ]
 refine wpAnyH_done (by kernel_rfl) ?_ _
 go_wp2_with fail
 go_ret
 exact ⟨rfl, HB.out.drew.alloc HB.out.size _⟩
end Go.Proofs.Ytbpfbebebppleaa
namespace Go.Proofs.Ytbpfbebebppleaa
open Go.RowKit
/-- How an element lies in cells. -/
structure Enc (α : Type) where
 k : Nat
 E : α → List Value
 pos : 0 < k
 len : ∀ x, (E x).length = k
 one : ∀ x, ∀ u ∈ E x, u.oneCell' = true
def TRow {α : Type} (e : Enc α) (w : World) (v : Value) (xs : List α) : Prop :=
 ∃ p c, v = .slice p xs.length c ∧ xs.length ≤ c ∧ (xs = [] ∨ ∃ b o, p = some ⟨b, o, none⟩ ∧ b < w.heap.size ∧ ∀ i (h : i < xs.length) t, t < e.k → w.cell? ⟨b, o + i * e.k + t, none⟩ = (e.E xs[i])[t]?)
section
variable {α : Type} {e : Enc α}
theorem TRow.shape {w : World} {v : Value} {xs : List α} (h : TRow e w v xs) : ∃ p c, v = .slice p xs.length c := by obtain ⟨p, c, e, _⟩ := h; exact ⟨p, c, e⟩
theorem TRow.kept {w w' : World} {v : Value} {xs : List α} (h : TRow e w v xs) (hb : Below w.heap.size w w') : TRow e w' v xs := by
 obtain ⟨p, c, rfl, hc, h⟩ := h
 refine ⟨p, c, rfl, hc, ?_⟩
 rcases h with h | ⟨b, o, rfl, hlt, h⟩
 ·exact .inl h
 ·exact .inr ⟨b, o, rfl, Nat.lt_of_lt_of_le hlt hb.size, fun i hi t ht => (hb.cell (p := ⟨b, _, none⟩) hlt).trans (h i hi t ht)⟩
theorem TRow.nil_ (e : Enc α) (w : World) : TRow e w (.slice none 0 0) [] := ⟨none, 0, rfl, Nat.le_refl _, .inl rfl⟩
theorem TRow.cap {w : World} {p : Option Addr} {n c : Nat} {xs : List α} (h : TRow e w (.slice p n c) xs) : xs.length ≤ c := by
 obtain ⟨p', c', e1, hc, _⟩ := h
 cases e1
 exact hc
theorem TRow.at_ {w : World} {p : Option Addr} {n c : Nat} {xs : List α} (h : TRow e w (.slice p n c) xs) (i : Nat) (hi : i < xs.length) : ∃ b o, p = some ⟨b, o, none⟩ ∧ b < w.heap.size ∧ ∀ t, t < e.k → w.cell? ⟨b, o + i * e.k + t, none⟩ = (e.E xs[i])[t]? := by
 obtain ⟨p', c', e1, _, h⟩ := h
 cases e1
 rcases h with h | ⟨b, o, hp, hlt, h⟩
 ·subst h; simp at hi
 ·exact ⟨b, o, hp, hlt, h i hi⟩
/-- A part of it. -/
theorem TRow.take {w : World} {p : Option Addr} {n c : Nat} {xs : List α} (h : TRow e w (.slice p n c) xs) (m : Nat) (hm : m ≤ xs.length) : TRow e w (.slice p m c) (xs.take m) := by
 obtain ⟨p', c', e1, hc, h⟩ := h
 cases e1
 have hl : (xs.take m).length = m := by rw [List.length_take]; omega
 refine ⟨p, c, by rw [hl], by omega, ?_⟩
 rcases h with h | ⟨b, o, hp, hlt, h⟩
 ·left; rw [h]; simp
 ·refine .inr ⟨b, o, hp, hlt, fun i hi t ht => ?_⟩
  rw [List.getElem_take]
  exact h i (by omega) t ht
theorem TRow.tail {w : World} {p P : Option Addr} {n c c' N : Nat} {xs : List α} (h : TRow e w (.slice p n c) xs) (m : Nat) (hm : m ≤ xs.length) (hN : N = xs.length - m) (hc : N ≤ c') (hP : ∀ b o, p = some ⟨b, o, none⟩ → m < xs.length → P = some ⟨b, o + m * e.k, none⟩) : TRow e w (.slice P N c') (xs.drop m) := by
 have hl : (xs.drop m).length = xs.length - m := List.length_drop
 subst hN
 refine ⟨P, c', by rw [hl], by omega, ?_⟩
 by_cases hlt : m < xs.length
 ·right
  obtain ⟨b, o, rfl, hb, _⟩ := h.at_ m hlt
  refine ⟨b, _, hP b o rfl hlt, hb, fun i hi t ht => ?_⟩
  obtain ⟨b2, o2, e2, _, hx⟩ := h.at_ (m + i) (by omega)
  cases e2
  rw [List.getElem_drop, show o + m * e.k + i * e.k + t = o + (m + i) * e.k + t by rw [Nat.add_mul]; omega]
  exact hx t ht
 ·left
  exact List.drop_of_length_le (by omega)
def OwnT (e : Enc α) (w : World) (base : Nat) (ty : TypeId) (v : Value) (xs : List α) : Prop := w.ownsRow base ty e.k v xs.length (xs.flatMap e.E)
theorem flat_length (e : Enc α) (xs : List α) : (xs.flatMap e.E).length = xs.length * e.k := by
 induction xs with
 | nil => simp
 | cons x xs ih => rw [List.flatMap_cons, List.length_append, ih, e.len, List.length_cons, Nat.add_mul]; omega
theorem flat_get (e : Enc α) : ∀ (xs : List α) (i t : Nat) (hi : i < xs.length), t < e.k → (xs.flatMap e.E)[i * e.k + t]? = (e.E xs[i])[t]?
 | x :: xs, 0, t, _, ht => by
  rw [List.flatMap_cons, Nat.zero_mul, Nat.zero_add, List.getElem?_append_left (by rw [e.len]; exact ht)]
  rfl
 | x :: xs, i + 1, t, hi, ht => by
  have := flat_get e xs i t (by simpa using hi) ht
  rw [List.flatMap_cons, List.getElem?_append_right (by rw [e.len, Nat.add_mul]; omega), e.len, show (i + 1) * e.k + t - e.k = i * e.k + t by rw [Nat.add_mul]; omega, this]
  rfl
theorem flat_one (e : Enc α) (xs : List α) : ∀ u ∈ xs.flatMap e.E, u.oneCell' = true := by
 intro u hu
 obtain ⟨x, _, hx⟩ := List.mem_flatMap.1 hu
 exact e.one x u hx
theorem OwnT.form {w : World} {base : Nat} {ty : TypeId} {v : Value} {xs : List α} (h : OwnT e w base ty v xs) : ∃ p c, v = .slice p xs.length c := by
 obtain ⟨_, h⟩ := h
 rcases h with ⟨rfl, h0⟩ | ⟨g, cap, cur, rfl, _⟩
 ·exact ⟨none, 0, by rw [h0]⟩
 ·exact ⟨_, _, rfl⟩
theorem OwnT.nil_ (e : Enc α) (w : World) (base : Nat) (ty : TypeId) : OwnT e w base ty (.slice none 0 0) [] := ⟨by simp, .inl ⟨rfl, rfl⟩⟩
theorem OwnT.block_ge {w : World} {base : Nat} {ty : TypeId} {v : Value} {xs : List α} (h : OwnT e w base ty v xs) : ∀ g, v.ownBlock = some g → base ≤ g := by
 intro g hg
 rcases h.2 with ⟨rfl, _⟩ | ⟨g', cap, cur, rfl, hb, _⟩
 ·cases hg
 ·cases hg; exact hb
theorem OwnT.lt {w : World} {base : Nat} {ty : TypeId} {v : Value} {xs : List α} (h : OwnT e w base ty v xs) : ∀ g, v.ownBlock = some g → g < w.heap.size := fun g hg => (World.ownsRow.lt h g hg).2
theorem OwnT.stay {w w' : World} {base : Nat} {ty : TypeId} {v : Value} {xs : List α} (h : OwnT e w base ty v xs) (hk : ∀ g, v.ownBlock = some g → w'.heap[g]? = w.heap[g]?) : OwnT e w' base ty v xs := by
 refine ⟨h.1, ?_⟩
 rcases h.2 with h | ⟨g, cap, cur, rfl, hbg, hg, hr⟩
 ·exact .inl h
 ·exact .inr ⟨g, cap, cur, rfl, hbg, (hk g rfl).trans hg, hr⟩
theorem OwnT.later {w w' : World} {base : Nat} {ty : TypeId} {v : Value} {xs : List α} (h : OwnT e w base ty v xs) (hb : Below w.heap.size w w') : OwnT e w' base ty v xs := h.stay (fun g hg => hb.block g (h.lt g hg))
theorem OwnT.less {w : World} {base base' : Nat} {ty : TypeId} {v : Value} {xs : List α} (h : OwnT e w base ty v xs) (hb : base' ≤ base) : OwnT e w base' ty v xs := by
 refine ⟨h.1, ?_⟩
 rcases h.2 with h | ⟨g, cap, cur, rfl, hbg, hg, hr⟩
 ·exact .inl h
 ·exact .inr ⟨g, cap, cur, rfl, Nat.le_trans hb hbg, hg, hr⟩
theorem OwnT.row {w : World} {base : Nat} {ty : TypeId} {v : Value} {xs : List α} (h : OwnT e w base ty v xs) : TRow e w v xs := by
 obtain ⟨hl, h⟩ := h
 rcases h with ⟨rfl, h0⟩ | ⟨g, cap, cur, rfl, _, hg, hn, _, _, ht⟩
 ·have : xs = [] := List.length_eq_zero_iff.mp h0
  subst this
  exact TRow.nil_ e w
 ·refine ⟨_, cap, rfl, hn, .inr ⟨g, 0, rfl, lt_of_block hg, fun i hi t ht3 => ?_⟩⟩
  have hlt : i * e.k + t < xs.length * e.k := Nat.lt_of_lt_of_le (show i * e.k + t < (i + 1) * e.k by rw [Nat.add_mul]; omega) (Nat.mul_le_mul_right _ hi)
  rw [Nat.zero_add, cell_of_row w g _ cur ty (0, 0) hg]
  have h1 := congrArg (fun l => l[i * e.k + t]?) ht
  simp only [List.getElem?_take] at h1
  rw [if_pos hlt, flat_get e xs i t hi ht3] at h1
  simpa using h1
theorem TRow.newsAt {w : World} {a : Addr} {n c : Nat} {xs : List α} (h : TRow e w (.slice (some a) n c) xs) : ∀ (j : Nat) (u : Value), (xs.flatMap e.E)[j]? = some u → w.cell? (a.add j) = some u := by
 intro j u hj
 have hk := e.pos
 have hjl : j < xs.length * e.k := by
  rcases Nat.lt_or_ge j (xs.length * e.k) with h | h
  ·exact h
  ·rw [List.getElem?_eq_none (by rw [flat_length]; exact h)] at hj; cases hj
 have hi : j / e.k < xs.length := (Nat.div_lt_iff_lt_mul hk).2 hjl
 have hm : j % e.k < e.k := Nat.mod_lt _ hk
 obtain ⟨b, o, e1, _, hx⟩ := h.at_ (j / e.k) hi
 cases e1
 have e3 : j / e.k * e.k + j % e.k = j := by rw [Nat.mul_comm]; exact Nat.div_add_mod j e.k
 have hj2 := flat_get e xs (j / e.k) (j % e.k) hi hm
 rw [e3, hj] at hj2
 rw [addAt, hj2, ← hx _ hm, Nat.add_assoc, e3]
/-- The cells of one element, in a block. -/
theorem TRow.one_ (e : Enc α) {w : World} {b c : Nat} {cs : Array Value} {ty : TypeId} (x : α) (hB : Blk w b cs ty) (hcs : cs.toList = e.E x) (hc : 1 ≤ c) : TRow e w (.slice (some ⟨b, 0, none⟩) 1 c) [x] := by
 refine ⟨_, c, rfl, hc, .inr ⟨b, 0, rfl, hB.lt, fun i hi t ht => ?_⟩⟩
 have h0 : i = 0 := by simp at hi; exact hi
 subst h0
 rw [Nat.zero_mul, Nat.zero_add, hB.cell, ← Array.getElem?_toList, hcs]
 rfl
def EltT (e : Enc α) (P : Program) (t ty : TypeId) (z : Value) (bytes : Nat) : Prop := ∃ i, P.underlying t = some (.slice ty) ∧ P.info? ty = some i ∧ i.zero = some z ∧ i.size = e.k ∧ i.bytes = bytes
theorem eltT_mk {e : Enc α} {P : Program} {t ty : TypeId} {z : Value} {bytes : Nat} (ht : P.underlying t = some (.slice ty)) (h : (P.info? ty).map (fun i => (i.zero, i.size, i.bytes)) = some (some z, e.k, bytes)) : EltT e P t ty z bytes := by
 cases hi : P.info? ty with
 | none => rw [hi] at h; cases h
 | some i =>
  rw [hi] at h
  simp only [Option.map_some, Option.some.injEq, Prod.mk.injEq] at h
  exact ⟨i, ht, hi, h.1, h.2.1, h.2.2⟩
theorem run_append_t {P : Program} (w : World) (t r ty : TypeId) (z : Value) (bytes base : Nat) (he : EltT e P t ty z bytes) (hzs : z.cells.size = e.k) (hb8 : bytes ≤ 1000) (v y : Value) (xs ys : List α) (hown : OwnT e w base ty v xs) (hrow : TRow e w y ys)
  (h63 : xs.length + ys.length ≤ 1000000) (hbase : base ≤ w.heap.size) :
  ∃ v' w', (Builtin.append_ #[t, t] r #[v, y]).run P w = .ok v' w' ∧ OwnT e w' base ty v' (xs ++ ys) ∧ w.grownBy w' v.ownBlock ∧ (v'.ownBlock = v.ownBlock ∨ v'.ownBlock = some w.heap.size) := by
 obtain ⟨i, ht, hi, hz, hs, hby⟩ := he
 obtain ⟨p, c, rfl, hc, hr⟩ := id hrow
 have hbytes : (xs.length + ys.length) * bytes ≤ 140737488355328 := by
  have : (xs.length + ys.length) * bytes ≤ 1000000 * 1000 := Nat.mul_le_mul h63 hb8
  omega
 cases p with
 | some ad =>
  obtain ⟨v', w', hrun, hown', hg, _, hor⟩ := run_append_own_at (P := P) w base t r ty i z e.k bytes ht hi hz hs hby hzs e.pos v xs.length (xs.flatMap e.E) hown ad ys.length c (ys.flatMap e.E) (flat_length e ys) hrow.newsAt (flat_one e ys) (by unfold maxLen; omega) hbytes hbase
  refine ⟨v', w', hrun, ?_, hg, hor⟩
  unfold OwnT
  rw [List.flatMap_append, List.length_append]
  exact hown'
 | none =>
  have hy : ys = [] := by
   rcases hr with h | ⟨b, o, h, _⟩
   ·exact h
   ·cases h
  subst hy
  refine ⟨v, w, ?_, by simpa using hown, World.grownBy.refl _ _, .inl rfl⟩
  rcases hown.2 with ⟨rfl, h0⟩ | ⟨g, cap, cur, rfl, _, _, hnc, _⟩
  ·simp [Builtin.append_, run_underlying ht, sizeOf, typeInfo, hi, Builtin.lenOf, Builtin.firstCells]
  ·simp [Builtin.append_, run_underlying ht, sizeOf, typeInfo, hi, Builtin.lenOf, Builtin.firstCells, hnc, storeCells]
/-- In a plain region. -/
theorem wpList_append_t {P : Program} {w : World} {ops : Array Oper} {rest : List Oper} {o : Oper} {a : Act} {Q : Exit → Act → World → Prop} (hgd : o.guard = none) (s x : Operand) (t : TypeId)
  (ho : o.op = .call { callee := .builtin .append, args := #[s, x], argTypes := #[t, t] })
  (ty : TypeId) (z : Value) (bytes base : Nat) (he : EltT e P t ty z bytes) (hzs : z.cells.size = e.k) (hb8 : bytes ≤ 1000) (v y : Value) (xs ys : List α) (hs : a.eval s = v) (hx : a.eval x = y) (hown : OwnT e w base ty v xs) (hrow : TRow e w y ys)
  (h63 : xs.length + ys.length ≤ 1000000) (hbase : base ≤ w.heap.size) (L : List α) (N : Nat) (hL : xs ++ ys = L) (hN : L.length = N)
  (h : ∀ p' c' w', OwnT e w' base ty (.slice p' N c') L → w.grownBy w' v.ownBlock → Below base w w' → wpList P ops Q rest (a.put o.dst (.slice p' N c')) w') : wpList P ops Q (o :: rest) a w := by
 subst hL
 subst hN
 refine wpList_plain hgd fun K hK => ?_
 obtain ⟨v', w', hrun, h1, h2, _⟩ := run_append_t w t o.type ty z bytes base he hzs hb8 v y xs ys hown hrow h63 hbase
 unfold Oper.wp
 obtain ⟨p', c', rfl⟩ := h1.form
 simp [execOp, ho, resolve, invoke, builtin, hs, hx, hrun, Result.andThen]
 exact hK _ _ (by simpa using h p' c' w' h1 h2 ((Below.refl _ _).grown h2 hbase (fun g hg' => hown.block_ge g hg')))
/-- Slices in a slice: each the address of a row. -/
def RowsT (e : Enc α) (w : World) (b o : Nat) (vs : List Value) (xss : List (List α)) : Prop :=
 vs.length = xss.length ∧ ∀ i, i < xss.length → w.cell? ⟨b, o + i, none⟩ = some (vs.getD i undef) ∧ TRow e w (vs.getD i undef) (xss.getD i [])
theorem RowsT.two {w : World} {b : Nat} {cs : Array Value} {ty : TypeId} {v1 v2 : Value} {x1 x2 : List α} (hB : Blk w b cs ty) (hcs : cs = #[v1, v2]) (h1 : TRow e w v1 x1) (h2 : TRow e w v2 x2) : RowsT e w b 0 [v1, v2] [x1, x2] := by
 subst hcs
 refine ⟨rfl, fun i hi => ?_⟩
 match i, hi with
 | 0, _ => exact ⟨hB.cell 0, h1⟩
 | 1, _ => exact ⟨hB.cell 1, h2⟩
theorem RowsT.three {w : World} {b : Nat} {cs : Array Value} {ty : TypeId} {v1 v2 v3 : Value} {x1 x2 x3 : List α} (hB : Blk w b cs ty) (hcs : cs = #[v1, v2, v3]) (h1 : TRow e w v1 x1) (h2 : TRow e w v2 x2) (h3 : TRow e w v3 x3) : RowsT e w b 0 [v1, v2, v3] [x1, x2, x3] := by
 subst hcs
 refine ⟨rfl, fun i hi => ?_⟩
 match i, hi with
 | 0, _ => exact ⟨hB.cell 0, h1⟩
 | 1, _ => exact ⟨hB.cell 1, h2⟩
 | 2, _ => exact ⟨hB.cell 2, h3⟩
def catT (xss : List (List α)) (k : Nat) : List α := (xss.take k).flatten
theorem catT_succ (xss : List (List α)) (k : Nat) (h : k < xss.length) : catT xss k ++ xss.getD k [] = catT xss (k + 1) := by
 unfold catT
 rw [List.take_succ_eq_append_getElem h, List.flatten_append, List.getD_eq_getElem?_getD, List.getElem?_eq_getElem h]; simp
theorem catT_len (xss : List (List α)) (k : Nat) (h : k < xss.length) : (catT xss (k + 1)).length = (catT xss k).length + (xss.getD k []).length := by rw [← catT_succ xss k h, List.length_append]
theorem catT_le (xss : List (List α)) (k : Nat) : (catT xss k).length ≤ xss.flatten.length := by
 unfold catT
 have : xss.flatten = (xss.take k).flatten ++ (xss.drop k).flatten := by rw [← List.flatten_append, List.take_append_drop]
 rw [this, List.length_append]; omega
def CatRelT (e : Enc α) (ty : TypeId) (w : World) (xss : List (List α)) (k : Nat) (v : Value) (wr : World) : Prop := OwnT e wr w.heap.size ty v (catT xss k) ∧ Below w.heap.size w wr
end
end Go.Proofs.Ytbpfbebebppleaa
namespace Go.Proofs.Ytbpfbebebppleaa
open Go.RowKit
def Itm.cells (x : Itm) : List Value := [.int .i64 x.s, .int .i64 x.n, .int .i64 x.b, .int .i64 x.c, .int .i64 x.a, .int .i64 x.r, .int .i64 x.t, .int .i64 x.y]
@[reducible] def encI : Enc Itm := ⟨8, Itm.cells, by decide, fun _ => rfl, fun x u hu => by simp only [Itm.cells, List.mem_cons, List.not_mem_nil, or_false] at hu; rcases hu with rfl | rfl | rfl | rfl | rfl | rfl | rfl | rfl <;> rfl⟩
set_option linter.unusedSimpArgs false in
set_option maxHeartbeats 1000000 in
set_option maxRecDepth 100000 in
theorem cmpI_any (x : Itm) (s n : Int) (w : World) : Calls Try.prog 43 #[x.v, idV s n] w fun e w' => e = .returned (.int .i64 (ord2 x.s x.n s n)) ∧ Below w.heap.size w w' := by
 have HC := Lib.hid (fun (W : World) => bcompare_any x.s x.n s n W)
 unfold idV at *
 unfold Itm.v
 go_enter Try.func43, Try.ntmps43
 go_wp2_with fail
 refine (HC.out _).mono ?_
 rintro y w1 ⟨rfl, hb⟩
 have HB := Lib.hid (((oneB w _).alloc (by simp) _).trans (hb.mono (by simp; omega)))
 clear hb
 go_wp2_with fail
 go_ret
 exact ⟨rfl, HB.out⟩
end Go.Proofs.Ytbpfbebebppleaa
namespace Go.Proofs.Ytbpfbebebppleaa
structure Pos where
 e : Int
 c : Int
 a : Int
def Pos.cells (p : Pos) : List Value := [.int .i64 p.e, .int .i64 p.c, .int .i64 p.a]
def ordP (p q : Pos) : Int := ord2 p.e p.c q.e q.c
def cellsOf (ps : List Pos) : List Value := ps.flatMap Pos.cells
theorem cellsOf_length (ps : List Pos) : (cellsOf ps).length = ps.length * 3 := by
 induction ps with
 | nil => rfl
 | cons p ps ih => simp [cellsOf, Pos.cells] at ih ⊢; omega
theorem cellsOf_app (ps qs : List Pos) : cellsOf (ps ++ qs) = cellsOf ps ++ cellsOf qs := by simp [cellsOf]
theorem ord_cases (a b : Int) : (a < b ∧ ord a b = -1) ∨ (b < a ∧ ord a b = 1) ∨ (a = b ∧ ord a b = 0) := by
 unfold ord
 by_cases h : a < b
 ·exact .inl ⟨h, if_pos h⟩
 ·by_cases g : b < a
  ·exact .inr (.inl ⟨g, by rw [if_neg h, if_pos g]⟩)
  ·exact .inr (.inr ⟨by omega, by rw [if_neg h, if_neg g]⟩)
theorem ord2_cases (e c e' c' : Int) : ((e < e' ∨ (e = e' ∧ c < c')) ∧ ord2 e c e' c' = -1) ∨ ((e' < e ∨ (e = e' ∧ c' < c)) ∧ ord2 e c e' c' = 1) ∨ ((e = e' ∧ c = c') ∧ ord2 e c e' c' = 0) := by
 unfold ord2
 rcases ord_cases e e' with ⟨h, g⟩ | ⟨h, g⟩ | ⟨h, g⟩ <;> rcases ord_cases c c' with ⟨h', g'⟩ | ⟨h', g'⟩ | ⟨h', g'⟩ <;> rw [g, g'] <;> split <;> omega
theorem ordP_lt {p q : Pos} : ordP p q < 0 ↔ (p.e < q.e ∨ (p.e = q.e ∧ p.c < q.c)) := by
 unfold ordP; have := ord2_cases p.e p.c q.e q.c; omega
theorem ordP_gt {p q : Pos} : 0 < ordP p q ↔ (q.e < p.e ∨ (p.e = q.e ∧ q.c < p.c)) := by
 unfold ordP; have := ord2_cases p.e p.c q.e q.c; omega
theorem ordP_eq {p q : Pos} : ordP p q = 0 ↔ (p.e = q.e ∧ p.c = q.c) := by
 unfold ordP; have := ord2_cases p.e p.c q.e q.c; omega
/-- A list around a place: what is ahead, what is there, what is behind. -/
structure Around (t : Pos) (ps A mid B : List Pos) : Prop where
 all : ps = A ++ mid ++ B
 ahead : ∀ p ∈ A, ordP p t < 0
 behind : ∀ p ∈ B, 0 < ordP p t
 there : mid = [] ∨ ∃ q, mid = [q] ∧ ordP q t = 0
def SortedP (ps : List Pos) : Prop := ps.Pairwise (fun p q => ordP p q < 0)
theorem around_of_sorted (t : Pos) : ∀ ps, SortedP ps → ∃ A mid B, Around t ps A mid B
 | [], _ => ⟨[], [], [], rfl, (fun _ h => by cases h), (fun _ h => by cases h), .inl rfl⟩
 | p :: ps, h => by
  have h2 := List.pairwise_cons.1 h
  rcases Int.lt_trichotomy (ordP p t) 0 with g | g | g
  ·obtain ⟨A, mid, B, ha⟩ := around_of_sorted t ps h2.2
   refine ⟨p :: A, mid, B, by rw [ha.all]; rfl, ?_, ha.behind, ha.there⟩
   intro q hq
   rcases List.mem_cons.1 hq with rfl | hq
   ·exact g
   ·exact ha.ahead q hq
  ·refine ⟨[], [p], ps, rfl, (fun _ h => by cases h), ?_, .inr ⟨p, rfl, g⟩⟩
   intro q hq
   have := h2.1 q hq
   rw [ordP_lt] at this; rw [ordP_eq] at g; rw [ordP_gt]; omega
  ·refine ⟨[], [], p :: ps, rfl, (fun _ h => by cases h), ?_, .inl rfl⟩
   intro q hq
   rcases List.mem_cons.1 hq with rfl | hq
   ·exact g
   ·have := h2.1 q hq
    rw [ordP_lt] at this; rw [ordP_gt] at g ⊢; omega
theorem Around.lt_iff {t : Pos} {ps A mid B : List Pos} (h : Around t ps A mid B) (i : Nat) (hi : i < ps.length) : ordP (ps[i]) t < 0 ↔ i < A.length := by
 obtain ⟨rfl, h1, h2, h3⟩ := h
 constructor
 ·intro g
  by_cases hlt : i < A.length
  ·exact hlt
  ·exfalso
   have hm : (A ++ mid ++ B)[i] ∈ mid ++ B := by
    rw [List.getElem_of_eq (List.append_assoc A mid B) hi, List.getElem_append_right (by omega)]; exact List.getElem_mem _
   rcases List.mem_append.1 hm with hm | hm
   ·rcases h3 with rfl | ⟨q, rfl, hq⟩
    ·cases hm
    ·rw [List.mem_singleton.1 hm, hq] at g; omega
   ·have := h2 _ hm; omega
 ·intro g
  have : (A ++ mid ++ B)[i] = A[i] := by rw [List.getElem_of_eq (List.append_assoc A mid B) hi, List.getElem_append_left g]
  rw [this]; exact h1 _ (List.getElem_mem _)
theorem Around.le {t : Pos} {ps A mid B : List Pos} (h : Around t ps A mid B) : A.length ≤ ps.length := by rw [h.all]; simp only [List.length_append]; omega
theorem Around.found {t : Pos} {ps A mid B : List Pos} (h : Around t ps A mid B) (hi : A.length < ps.length) : ordP (ps[A.length]) t = 0 ↔ mid ≠ [] := by
 obtain ⟨rfl, h1, h2, h3⟩ := h
 rcases h3 with rfl | ⟨q, rfl, hq⟩
 ·simp only [ne_eq, not_true_eq_false, iff_false]
  have hm : (A ++ [] ++ B)[A.length] ∈ B := by
   rw [List.getElem_of_eq (List.append_assoc A [] B) hi, List.getElem_append_right (by omega)]; exact List.getElem_mem _
  have := h2 _ hm; omega
 ·simp only [ne_eq, List.cons_ne_self, not_false_eq_true, iff_true]
  have : (A ++ [q] ++ B)[A.length] = q := by
   rw [List.getElem_of_eq (List.append_assoc A [q] B) hi, List.getElem_append_right (by omega)]; simp
  rw [this]; exact hq
theorem Around.notFound {t : Pos} {ps A mid B : List Pos} (h : Around t ps A mid B) (hi : ¬ A.length < ps.length) : mid = [] := by
 rcases h.there with h' | ⟨q, rfl, _⟩
 ·exact h'
 ·rw [h.all] at hi; simp only [List.length_append, List.length_cons] at hi; omega
/-- What an entity has of a currency, place 8 * entity + currency. -/
def atM (M : List Int) (k : Nat) : Int := M.getD k 0
def pM (M : List Int) (k : Nat) : Option Pos := if atM M k = 0 then none else some ⟨(k / 8 : Nat), (k % 8 : Nat), atM M k⟩
def posOf (M : List Int) : List Pos := (List.range 64).filterMap (pM M)
def preP (M : List Int) (k : Nat) : List Pos := (List.range k).filterMap (pM M)
def midP (M : List Int) (k : Nat) : List Pos := (pM M k).toList
def postP (M : List Int) (k : Nat) : List Pos := (List.range' (k + 1) (63 - k)).filterMap (pM M)
theorem filterMap_same {f g : Nat → Option Pos} : ∀ {l : List Nat}, (∀ j ∈ l, f j = g j) → l.filterMap f = l.filterMap g
 | [], _ => rfl
 | a :: l, h => by rw [List.filterMap_cons, List.filterMap_cons, h a (by simp), filterMap_same (l := l) fun j hj => h j (by simp [hj])]
theorem posOf_split (M : List Int) (k : Nat) (h : k < 64) : posOf M = preP M k ++ midP M k ++ postP M k := by
 have hr : List.range 64 = List.range k ++ [k] ++ List.range' (k + 1) (63 - k) := by
  rw [List.range_eq_range', List.range_eq_range', show (64 : Nat) = k + (1 + (63 - k)) by omega, ← List.range'_append_1, ← List.range'_append_1]
  simp
 unfold posOf preP midP postP
 rw [hr, List.filterMap_append, List.filterMap_append]
 have hp : [k].filterMap (pM M) = (pM M k).toList := by cases hp : pM M k <;> simp [hp]
 rw [hp]
theorem pM_set_other (M : List Int) (k j : Nat) (a : Int) (h : j ≠ k) : pM (M.set k a) j = pM M j := by
 unfold pM atM; rw [List.getD_eq_getElem?_getD, List.getD_eq_getElem?_getD, List.getElem?_set_ne (by omega)]
theorem pre_set (M : List Int) (k : Nat) (a : Int) : preP (M.set k a) k = preP M k := by
 unfold preP
 exact filterMap_same fun j hj => pM_set_other M k j a (by rw [List.mem_range] at hj; omega)
theorem post_set (M : List Int) (k : Nat) (a : Int) : postP (M.set k a) k = postP M k := by
 unfold postP
 exact filterMap_same fun j hj => pM_set_other M k j a (by rw [List.mem_range'_1] at hj; omega)
theorem mid_set (M : List Int) (k : Nat) (a : Int) (h : k < M.length) : midP (M.set k a) k = if a = 0 then [] else [⟨(k / 8 : Nat), (k % 8 : Nat), a⟩] := by
 have e : atM (M.set k a) k = a := by unfold atM; rw [List.getD_eq_getElem?_getD, List.getElem?_set_self h]; rfl
 unfold midP pM
 rw [e]
 split <;> rfl
theorem posOf_set (M : List Int) (k : Nat) (a : Int) (h : k < 64) (hM : M.length = 64) : posOf (M.set k a) = preP M k ++ (if a = 0 then [] else [⟨(k / 8 : Nat), (k % 8 : Nat), a⟩]) ++ postP M k := by
 rw [posOf_split _ k h, pre_set, post_set, mid_set M k a (by omega)]
theorem around_posOf (M : List Int) (k : Nat) (h : k < 64) (a : Int) : Around ⟨(k / 8 : Nat), (k % 8 : Nat), a⟩ (posOf M) (preP M k) (midP M k) (postP M k) := by
 refine ⟨posOf_split M k h, ?_, ?_, ?_⟩
 ·intro p hp
  unfold preP at hp
  obtain ⟨j, hj, hp⟩ := List.mem_filterMap.1 hp
  rw [List.mem_range] at hj
  unfold pM at hp
  split at hp
  ·cases hp
  ·cases hp
   rw [ordP_lt]; dsimp only; omega
 ·intro p hp
  unfold postP at hp
  obtain ⟨j, hj, hp⟩ := List.mem_filterMap.1 hp
  rw [List.mem_range'_1] at hj
  unfold pM at hp
  split at hp
  ·cases hp
  ·cases hp
   rw [ordP_gt]; dsimp only; omega
 ·unfold midP pM
  split
  ·exact .inl rfl
  ·exact .inr ⟨_, rfl, by rw [ordP_eq]; exact ⟨rfl, rfl⟩⟩
theorem posOf_mem {M : List Int} {p : Pos} (h : p ∈ posOf M) : (0 ≤ p.e ∧ p.e < 8) ∧ (0 ≤ p.c ∧ p.c < 8) ∧ p.a = atM M (8 * p.e + p.c).toNat ∧ p.a ≠ 0 := by
 unfold posOf at h
 obtain ⟨j, hj, hp⟩ := List.mem_filterMap.1 h
 rw [List.mem_range] at hj
 unfold pM at hp
 split at hp
 ·cases hp
 ·rename_i h0
  cases hp
  dsimp only
  refine ⟨by omega, by omega, ?_, h0⟩
  congr 1; omega
theorem posOf_sorted (M : List Int) : SortedP (posOf M) := by
 unfold SortedP posOf
 rw [List.pairwise_filterMap]
 refine List.Pairwise.imp ?_ (List.pairwise_lt_range (n := 64))
 intro i j hij p hp q hq
 unfold pM at hp hq
 split at hp
 ·cases hp
 ·split at hq
  ·cases hq
  ·cases hp; cases hq
   rw [ordP_lt]; dsimp only; omega
theorem posOf_length (M : List Int) : (posOf M).length ≤ 64 := by
 unfold posOf
 exact Nat.le_trans (List.length_filterMap_le _ _) (by simp)
theorem mid_val (M : List Int) (k : Nat) : (midP M k = [] ∧ atM M k = 0) ∨ (midP M k = [⟨(k / 8 : Nat), (k % 8 : Nat), atM M k⟩] ∧ atM M k ≠ 0) := by
 unfold midP pM
 split
 ·exact .inl ⟨rfl, by assumption⟩
 ·exact .inr ⟨rfl, by assumption⟩
end Go.Proofs.Ytbpfbebebppleaa
namespace Go.Proofs.Ytbpfbebebppleaa
structure AroundF {α : Type} (f : α → Pos) (t : Pos) (xs A mid B : List α) : Prop where
 all : xs = A ++ mid ++ B
 pos : Around t (xs.map f) (A.map f) (mid.map f) (B.map f)
section
variable {α : Type} {f : α → Pos} {t : Pos} {xs A mid B : List α}
theorem AroundF.le (h : AroundF f t xs A mid B) : A.length ≤ xs.length := by rw [h.all]; simp only [List.length_append]; omega
theorem AroundF.lt_iff (h : AroundF f t xs A mid B) (i : Nat) (hi : i < xs.length) : ordP (f xs[i]) t < 0 ↔ i < A.length := by
 have h2 := h.pos.lt_iff i (by rw [List.length_map]; exact hi)
 have e : (A.map f).length = A.length := List.length_map _
 rw [List.getElem_map, e] at h2
 exact h2
theorem AroundF.found (h : AroundF f t xs A mid B) (hi : A.length < xs.length) : ordP (f xs[A.length]) t = 0 ↔ mid ≠ [] := by
 have h2 := h.pos.found (by rw [List.length_map, List.length_map]; exact hi)
 have h3 : (xs.map f)[(A.map f).length]'(by rw [List.length_map, List.length_map]; exact hi) = f xs[A.length] := by
  rw [List.getElem_map]; simp
 rw [h3] at h2
 rw [h2]
 simp
theorem AroundF.notFound (h : AroundF f t xs A mid B) (hi : ¬ A.length < xs.length) : mid = [] := by
 have h2 := h.pos.notFound (by rw [List.length_map, List.length_map]; exact hi)
 simpa using h2
theorem aroundF_of_sorted (f : α → Pos) (t : Pos) (xs : List α) (h : SortedP (xs.map f)) : ∃ A mid B, AroundF f t xs A mid B := by
 obtain ⟨A, mid, B, ha⟩ := around_of_sorted t _ h
 have e := ha.all
 rw [List.append_assoc] at e
 obtain ⟨A', R, rfl, rfl, e2⟩ := List.map_eq_append_iff.1 e
 obtain ⟨M', B', rfl, rfl, rfl⟩ := List.map_eq_append_iff.1 e2
 exact ⟨A', M', B', by rw [List.append_assoc], ha⟩
theorem AroundF.mid1 (h : AroundF f t xs A mid B) : mid = [] ∨ ∃ q, mid = [q] ∧ ordP (f q) t = 0 := by
 rcases h.pos.there with h | ⟨q, h1, h2⟩
 ·left; simpa using h
 ·right
  match mid, h1 with
  | [x], h1 =>
   have e : f x = q := by simpa using h1
   exact ⟨x, rfl, by rw [e]; exact h2⟩
end
end Go.Proofs.Ytbpfbebebppleaa
namespace Go.Proofs.Ytbpfbebebppleaa
def posI (x : Itm) : Pos := ⟨x.s, x.n, 0⟩
end Go.Proofs.Ytbpfbebebppleaa
namespace Go.Proofs.Ytbpfbebebppleaa
open Go.RowKit
set_option linter.unusedSimpArgs false in
set_option maxHeartbeats 4000000 in
set_option maxRecDepth 100000 in
theorem searchI_any (w : World) (v : Value) (xs A mid B : List Itm) (s n : Int) (hr : TRow encI w v xs) (hA : AroundF posI ⟨s, n, 0⟩ xs A mid B) (hn : xs.length ≤ 2000) :
  Calls Try.prog 42 #[v, idV s n, .func (.func 43) #[] #[]] w fun x w' => x = .returned (.tuple #[.int .i64 A.length, .bool (decide (mid ≠ []))]) ∧ Below w.heap.size w w' := by
 have HC := Lib.hid (fun (y : Itm) (W : World) => cmpI_any y s n W)
 unfold idV Itm.v at HC
 obtain ⟨p, c, rfl⟩ := hr.shape
 have HR := Lib.hid hr
 have HA := Lib.hid hA
 have hAl := hA.le
 clear hr hA
 unfold idV
 go_enter Try.func42, Try.ntmps42
 go_wp2_with fail
 generalize hW1 : w.alloc (.cells #[.int .i64 s, .int .i64 n] 36) = W1
 have hB1 : Below w.heap.size w W1 := by rw [← hW1]; exact oneB w _
 have hT1 : Blk W1 w.heap.size #[.int .i64 s, .int .i64 n] 36 := by rw [← hW1]; exact Blk.new w _ _
 have HB1 := Lib.hid hB1
 have HT1 := Lib.hid hT1
 have HR1 := Lib.hid (HR.out.kept hB1)
 clear hW1 hB1 hT1
 go_loopw [9, 10] (fun vi vj wr => ∃ i j : Nat, vi = .int .i64 i ∧ vj = .int .i64 j ∧ i ≤ A.length ∧ A.length ≤ j ∧ j ≤ xs.length ∧ Hid (Below W1.heap.size W1 wr)) (fun vi vj _ => (intOf vj).toNat - (intOf vi).toNat)
 case atStart => exact ⟨0, xs.length, rfl, rfl, Nat.zero_le _, hAl, Nat.le_refl _, Lib.hid (Below.refl W1.heap.size W1)⟩
 case round =>
  obtain ⟨i, j, rfl, rfl, hi, hj, hjn, HB⟩ := hrel
  by_cases hlt : (i : Int) < (j : Int)
  ·have hm : (i + j) / 2 < xs.length := by omega
   obtain ⟨b, o, rfl, hbl, hcs⟩ := (HR1.out.kept HB.out).at_ ((i + j) / 2) hm
   have c0 : wr.cell? ⟨b, o + ((i + j) / 2) * 8, none⟩ = some (.int .i64 xs[((i + j) / 2)].s) := hcs 0 (by decide)
   have c1 : wr.cell? ⟨b, o + ((i + j) / 2) * 8 + 1, none⟩ = some (.int .i64 xs[((i + j) / 2)].n) := hcs 1 (by decide)
   have c2 : wr.cell? ⟨b, o + ((i + j) / 2) * 8 + 2, none⟩ = some (.int .i64 xs[((i + j) / 2)].b) := hcs 2 (by decide)
   have c3 : wr.cell? ⟨b, o + ((i + j) / 2) * 8 + 3, none⟩ = some (.int .i64 xs[((i + j) / 2)].c) := hcs 3 (by decide)
   have c4 : wr.cell? ⟨b, o + ((i + j) / 2) * 8 + 4, none⟩ = some (.int .i64 xs[((i + j) / 2)].a) := hcs 4 (by decide)
   have c5 : wr.cell? ⟨b, o + ((i + j) / 2) * 8 + 5, none⟩ = some (.int .i64 xs[((i + j) / 2)].r) := hcs 5 (by decide)
   have c6 : wr.cell? ⟨b, o + ((i + j) / 2) * 8 + 6, none⟩ = some (.int .i64 xs[((i + j) / 2)].t) := hcs 6 (by decide)
   have c7 : wr.cell? ⟨b, o + ((i + j) / 2) * 8 + 7, none⟩ = some (.int .i64 xs[((i + j) / 2)].y) := hcs 7 (by decide)
   have hT := HT1.out.below HB.out HT1.out.lt
   have hTl := hT.lt
   have t0 : wr.cell? ⟨w.heap.size, 0, none⟩ = some (.int .i64 s) := hT.cell 0
   have t1 : wr.cell? ⟨w.heap.size, 1, none⟩ = some (.int .i64 n) := hT.cell 1
   have hiff := HA.out.lt_iff ((i + j) / 2) hm
   have hM : ((i : Int) + (j : Int)) / 2 = (((i + j) / 2 : Nat) : Int) := by omega
   have him : i ≤ (i + j) / 2 := by omega
   have hmj : (i + j) / 2 < j := by omega
   generalize xs[((i + j) / 2)] = y at c0 c1 c2 c3 c4 c5 c6 c7 hiff
   have hiff : ord2 y.s y.n s n < 0 ↔ (i + j) / 2 < A.length := hiff
   clear hT hcs
   have HM := Lib.hid hM
   clear hM
   generalize (i + j) / 2 = m at *
   have hS1 : wr.drew.cell? ⟨b, o + m * 8, none⟩ = some (.int .i64 y.s) ∧ wr.drew.cell? ⟨b, o + m * 8 + 1, none⟩ = some (.int .i64 y.n) ∧ wr.drew.cell? ⟨b, o + m * 8 + 2, none⟩ = some (.int .i64 y.b) ∧ wr.drew.cell? ⟨b, o + m * 8 + 3, none⟩ = some (.int .i64 y.c) ∧ wr.drew.cell? ⟨b, o + m * 8 + 4, none⟩ = some (.int .i64 y.a) ∧ wr.drew.cell? ⟨b, o + m * 8 + 5, none⟩ = some (.int .i64 y.r) ∧ wr.drew.cell? ⟨b, o + m * 8 + 6, none⟩ = some (.int .i64 y.t) ∧ wr.drew.cell? ⟨b, o + m * 8 + 7, none⟩ = some (.int .i64 y.y) ∧ wr.drew.cell? ⟨w.heap.size, 0, none⟩ = some (.int .i64 s) ∧ wr.drew.cell? ⟨w.heap.size, 1, none⟩ = some (.int .i64 n) := ⟨c0, c1, c2, c3, c4, c5, c6, c7, t0, t1⟩
   have HS : Hid (∀ w', Below wr.heap.size wr w' → w'.cell? ⟨b, o + m * 8, none⟩ = some (.int .i64 y.s) ∧ w'.cell? ⟨b, o + m * 8 + 1, none⟩ = some (.int .i64 y.n) ∧ w'.cell? ⟨b, o + m * 8 + 2, none⟩ = some (.int .i64 y.b) ∧ w'.cell? ⟨b, o + m * 8 + 3, none⟩ = some (.int .i64 y.c) ∧ w'.cell? ⟨b, o + m * 8 + 4, none⟩ = some (.int .i64 y.a) ∧ w'.cell? ⟨b, o + m * 8 + 5, none⟩ = some (.int .i64 y.r) ∧ w'.cell? ⟨b, o + m * 8 + 6, none⟩ = some (.int .i64 y.t) ∧ w'.cell? ⟨b, o + m * 8 + 7, none⟩ = some (.int .i64 y.y) ∧ w'.cell? ⟨w.heap.size, 0, none⟩ = some (.int .i64 s) ∧ w'.cell? ⟨w.heap.size, 1, none⟩ = some (.int .i64 n)) :=
    fun w' h => ⟨(h.cell (p := ⟨b, _, none⟩) hbl).trans c0, (h.cell (p := ⟨b, _, none⟩) hbl).trans c1, (h.cell (p := ⟨b, _, none⟩) hbl).trans c2, (h.cell (p := ⟨b, _, none⟩) hbl).trans c3, (h.cell (p := ⟨b, _, none⟩) hbl).trans c4, (h.cell (p := ⟨b, _, none⟩) hbl).trans c5, (h.cell (p := ⟨b, _, none⟩) hbl).trans c6, (h.cell (p := ⟨b, _, none⟩) hbl).trans c7, (h.cell (p := ⟨w.heap.size, 0, none⟩) hTl).trans t0, (h.cell (p := ⟨w.heap.size, 1, none⟩) hTl).trans t1⟩
   have HBW := Lib.hid HB.out.size
   have HIFF := Lib.hid hiff
   clear hiff
   go_wp2_with fail
   rw [HM.out]
   refine wp_region_held_drew (S := fun w' => w'.cell? ⟨b, o + m * 8, none⟩ = some (.int .i64 y.s) ∧ w'.cell? ⟨b, o + m * 8 + 1, none⟩ = some (.int .i64 y.n) ∧ w'.cell? ⟨b, o + m * 8 + 2, none⟩ = some (.int .i64 y.b) ∧ w'.cell? ⟨b, o + m * 8 + 3, none⟩ = some (.int .i64 y.c) ∧ w'.cell? ⟨b, o + m * 8 + 4, none⟩ = some (.int .i64 y.a) ∧ w'.cell? ⟨b, o + m * 8 + 5, none⟩ = some (.int .i64 y.r) ∧ w'.cell? ⟨b, o + m * 8 + 6, none⟩ = some (.int .i64 y.t) ∧ w'.cell? ⟨b, o + m * 8 + 7, none⟩ = some (.int .i64 y.y) ∧ w'.cell? ⟨w.heap.size, 0, none⟩ = some (.int .i64 s) ∧ w'.cell? ⟨w.heap.size, 1, none⟩ = some (.int .i64 n)) (by kernel_rfl) hS1 (fun hS0 => ?_)
   refine tkq 0 ?_
   refine tkq 1 ?_
   refine tkq 2 ?_
   refine tkq 3 ?_
   refine tkq 4 ?_
   refine tkq 5 ?_
   refine rdq 6 (fun K hK => ?_)
   go_simp
   go_at_call 43
   refine (HC.out y wr.drew).mono ?_
   rintro y w2 ⟨rfl, hb2⟩
   have HB2 := Lib.hid ((Below.refl wr.heap.size wr).drew.trans (hb2.mono (Nat.le_refl _)))
   clear hb2
   try go_wp2_with fail
   refine hK.out _ _ (HS.out w2 HB2.out) (fun hS => ?_)
   clear hK K
   try simp only [Act.put, List.getElem_toArray, List.getElem_cons_succ, List.getElem_cons_zero, List.setIfInBounds_toArray, List.set_cons_zero, List.set_cons_succ]
   refine tkq 7 ?_
   refine wpAnyH_done (by kernel_rfl) ?_ _
   by_cases hc : ord2 y.s y.n s n < 0
   ·have hmA := HIFF.out.1 hc
    have HBN := Lib.hid (HB.out.trans (HB2.out.mono HBW.out))
    go_wp2_with fail
    go_roundw
    case rel => exact ⟨m + 1, j, by go_num, rfl, by omega, hj, hjn, HBN⟩
    case measure => simp [intOf]; omega
   ·have hmA : ¬ m < A.length := fun h => hc (HIFF.out.2 h)
    have HBN := Lib.hid (HB.out.trans (HB2.out.mono HBW.out))
    go_wp2_with fail
    go_roundw
    case rel => exact ⟨i, m, rfl, rfl, hi, by omega, by omega, HBN⟩
    case measure => simp [intOf]; omega
  ·obtain rfl : i = A.length := by omega
   by_cases hm : A.length < xs.length
   ·have hnm : ((A.length : Nat) : Int) < (xs.length : Int) := by omega
    obtain ⟨b, o, rfl, hbl, hcs⟩ := (HR1.out.kept HB.out).at_ A.length hm
    have c0 : wr.cell? ⟨b, o + A.length * 8, none⟩ = some (.int .i64 xs[A.length].s) := hcs 0 (by decide)
    have c1 : wr.cell? ⟨b, o + A.length * 8 + 1, none⟩ = some (.int .i64 xs[A.length].n) := hcs 1 (by decide)
    have c2 : wr.cell? ⟨b, o + A.length * 8 + 2, none⟩ = some (.int .i64 xs[A.length].b) := hcs 2 (by decide)
    have c3 : wr.cell? ⟨b, o + A.length * 8 + 3, none⟩ = some (.int .i64 xs[A.length].c) := hcs 3 (by decide)
    have c4 : wr.cell? ⟨b, o + A.length * 8 + 4, none⟩ = some (.int .i64 xs[A.length].a) := hcs 4 (by decide)
    have c5 : wr.cell? ⟨b, o + A.length * 8 + 5, none⟩ = some (.int .i64 xs[A.length].r) := hcs 5 (by decide)
    have c6 : wr.cell? ⟨b, o + A.length * 8 + 6, none⟩ = some (.int .i64 xs[A.length].t) := hcs 6 (by decide)
    have c7 : wr.cell? ⟨b, o + A.length * 8 + 7, none⟩ = some (.int .i64 xs[A.length].y) := hcs 7 (by decide)
    have hT := HT1.out.below HB.out HT1.out.lt
    have hTl := hT.lt
    have t0 : wr.cell? ⟨w.heap.size, 0, none⟩ = some (.int .i64 s) := hT.cell 0
    have t1 : wr.cell? ⟨w.heap.size, 1, none⟩ = some (.int .i64 n) := hT.cell 1
    have hiff := HA.out.found hm
    generalize xs[A.length] = y at c0 c1 c2 c3 c4 c5 c6 c7 hiff
    have hiff : ord2 y.s y.n s n = 0 ↔ mid ≠ [] := hiff
    clear hT hcs
    have HFD : Hid ((ord2 y.s y.n s n == 0) = decide (mid ≠ [])) := by show _ = _; rw [Bool.eq_iff_iff]; simp [hiff]
    clear hiff
    have hS1 : wr.drew.cell? ⟨b, o + A.length * 8, none⟩ = some (.int .i64 y.s) ∧ wr.drew.cell? ⟨b, o + A.length * 8 + 1, none⟩ = some (.int .i64 y.n) ∧ wr.drew.cell? ⟨b, o + A.length * 8 + 2, none⟩ = some (.int .i64 y.b) ∧ wr.drew.cell? ⟨b, o + A.length * 8 + 3, none⟩ = some (.int .i64 y.c) ∧ wr.drew.cell? ⟨b, o + A.length * 8 + 4, none⟩ = some (.int .i64 y.a) ∧ wr.drew.cell? ⟨b, o + A.length * 8 + 5, none⟩ = some (.int .i64 y.r) ∧ wr.drew.cell? ⟨b, o + A.length * 8 + 6, none⟩ = some (.int .i64 y.t) ∧ wr.drew.cell? ⟨b, o + A.length * 8 + 7, none⟩ = some (.int .i64 y.y) ∧ wr.drew.cell? ⟨w.heap.size, 0, none⟩ = some (.int .i64 s) ∧ wr.drew.cell? ⟨w.heap.size, 1, none⟩ = some (.int .i64 n) := ⟨c0, c1, c2, c3, c4, c5, c6, c7, t0, t1⟩
    have HS : Hid (∀ w', Below wr.heap.size wr w' → w'.cell? ⟨b, o + A.length * 8, none⟩ = some (.int .i64 y.s) ∧ w'.cell? ⟨b, o + A.length * 8 + 1, none⟩ = some (.int .i64 y.n) ∧ w'.cell? ⟨b, o + A.length * 8 + 2, none⟩ = some (.int .i64 y.b) ∧ w'.cell? ⟨b, o + A.length * 8 + 3, none⟩ = some (.int .i64 y.c) ∧ w'.cell? ⟨b, o + A.length * 8 + 4, none⟩ = some (.int .i64 y.a) ∧ w'.cell? ⟨b, o + A.length * 8 + 5, none⟩ = some (.int .i64 y.r) ∧ w'.cell? ⟨b, o + A.length * 8 + 6, none⟩ = some (.int .i64 y.t) ∧ w'.cell? ⟨b, o + A.length * 8 + 7, none⟩ = some (.int .i64 y.y) ∧ w'.cell? ⟨w.heap.size, 0, none⟩ = some (.int .i64 s) ∧ w'.cell? ⟨w.heap.size, 1, none⟩ = some (.int .i64 n)) :=
     fun w' h => ⟨(h.cell (p := ⟨b, _, none⟩) hbl).trans c0, (h.cell (p := ⟨b, _, none⟩) hbl).trans c1, (h.cell (p := ⟨b, _, none⟩) hbl).trans c2, (h.cell (p := ⟨b, _, none⟩) hbl).trans c3, (h.cell (p := ⟨b, _, none⟩) hbl).trans c4, (h.cell (p := ⟨b, _, none⟩) hbl).trans c5, (h.cell (p := ⟨b, _, none⟩) hbl).trans c6, (h.cell (p := ⟨b, _, none⟩) hbl).trans c7, (h.cell (p := ⟨w.heap.size, 0, none⟩) hTl).trans t0, (h.cell (p := ⟨w.heap.size, 1, none⟩) hTl).trans t1⟩
    have HBW := Lib.hid HB.out.size
    go_wp2_with fail
    refine wp_region_held_drew (S := fun w' => w'.cell? ⟨b, o + A.length * 8, none⟩ = some (.int .i64 y.s) ∧ w'.cell? ⟨b, o + A.length * 8 + 1, none⟩ = some (.int .i64 y.n) ∧ w'.cell? ⟨b, o + A.length * 8 + 2, none⟩ = some (.int .i64 y.b) ∧ w'.cell? ⟨b, o + A.length * 8 + 3, none⟩ = some (.int .i64 y.c) ∧ w'.cell? ⟨b, o + A.length * 8 + 4, none⟩ = some (.int .i64 y.a) ∧ w'.cell? ⟨b, o + A.length * 8 + 5, none⟩ = some (.int .i64 y.r) ∧ w'.cell? ⟨b, o + A.length * 8 + 6, none⟩ = some (.int .i64 y.t) ∧ w'.cell? ⟨b, o + A.length * 8 + 7, none⟩ = some (.int .i64 y.y) ∧ w'.cell? ⟨w.heap.size, 0, none⟩ = some (.int .i64 s) ∧ w'.cell? ⟨w.heap.size, 1, none⟩ = some (.int .i64 n)) (by kernel_rfl) hS1 (fun hS0 => ?_)
    refine tkq 0 ?_
    refine tkq 1 ?_
    refine tkq 2 ?_
    refine tkq 3 ?_
    refine tkq 4 ?_
    refine tkq 5 ?_
    refine tkq 6 ?_
    refine tkq 7 ?_
    refine tkq 8 ?_
    refine tkq 9 ?_
    refine tkq 10 ?_
    refine rdq 11 (fun K hK => ?_)
    go_simp
    go_at_call 43
    refine (HC.out y wr.drew).mono ?_
    rintro y w2 ⟨rfl, hb2⟩
    have HB2 := Lib.hid ((Below.refl wr.heap.size wr).drew.trans (hb2.mono (Nat.le_refl _)))
    clear hb2
    try go_wp2_with fail
    refine hK.out _ _ (HS.out w2 HB2.out) (fun hS => ?_)
    clear hK K
    try simp only [Act.put, List.getElem_toArray, List.getElem_cons_succ, List.getElem_cons_zero, List.setIfInBounds_toArray, List.set_cons_zero, List.set_cons_succ]
    refine tkq 12 ?_
    refine tkq 13 ?_
    refine tkq 14 ?_
    refine tkq 15 ?_
    refine wpAnyH_done (by kernel_rfl) ?_ _
    rw [HFD.out]
    go_wp2_with fail
    go_ret2
    exact ⟨rfl, HB1.out.trans ((HB.out.trans (HB2.out.mono HBW.out)).mono HB1.out.size)⟩
   ·have hnm : ¬ ((A.length : Nat) : Int) < (xs.length : Int) := by omega
    have hmid := HA.out.notFound hm
    have HFD : Hid (decide (mid ≠ []) = false) := by show _ = _; rw [hmid]; simp
    clear hmid
    go_wp2_with fail
    refine wp_region_held_drew (S := fun w' => True) (by kernel_rfl) trivial (fun hS0 => ?_)
    refine tkq 0 ?_
    refine tkq 1 ?_
    refine tkq 2 ?_
    refine tkq 3 ?_
    refine tkq 4 ?_
    refine tnq 5 ?_
    refine tnq 6 ?_
    refine tnq 7 ?_
    refine tnq 8 ?_
    refine tnq 9 ?_
    refine tnq 10 ?_
    refine tnq 11 ?_
    refine tnq 12 ?_
    refine tkq 13 ?_
    refine tkq 14 ?_
    refine tkq 15 ?_
    refine wpAnyH_done (by kernel_rfl) ?_ _
    go_wp2_with fail
    go_ret2
    exact ⟨by rw [HFD.out]; rfl, HB1.out.trans (HB.out.drew.mono HB1.out.size)⟩
end Go.Proofs.Ytbpfbebebppleaa
namespace Go.Proofs.Ytbpfbebebppleaa
open Go.RowKit
def zeroVI : Value := .agg #[.int .i64 0, .int .i64 0, .int .i64 0, .int .i64 0, .int .i64 0, .int .i64 0, .int .i64 0, .int .i64 0]
theorem eltI : EltT encI Try.prog 24 64 zeroVI 64 := eltT_mk Try.underlying24 (by kernel_rfl)
set_option maxHeartbeats 1000000 in
set_option maxRecDepth 100000 in
theorem growI_nil (n : Nat) (w : World) (hn : n ≤ 1000000) :
  Calls Try.prog 79 #[.slice none 0 0, .int .i64 n] w fun e w' => ∃ v, e = .returned v ∧ OwnT encI w' w.heap.size 64 v [] ∧ Below w.heap.size w w' := by
 obtain ⟨i0, _, hi, hz, hs, hby⟩ := eltI
 by_cases h0 : n = 0
 ·subst h0
  go_enter Try.func79, Try.ntmps79
  go_wp2
  go_ret
  exact ⟨_, rfl, OwnT.nil_ encI _ _ _, Below.refl _ _⟩
 ·have hpos : (0 : Int) < (n : Int) := by omega
  have happ := Lib.run_append_nil_zeros (P := Try.prog) w 24 3 24 64 i0 zeroVI .i64 .i64 Try.underlying24 Try.underlying3 hi hz n (by omega) (by rw [hs]; decide) (by omega) (by rw [hby]; omega)
  generalize hcap : grownCap w n 0 64 = cap2 at happ
  have hcapge : n ≤ cap2 := by rw [← hcap]; exact grownCap_ge w _ 0 64
  have hcaple : cap2 ≤ maxLen := by rw [← hcap]; exact grownCap_le_maxLen w _ 0 64 (by unfold maxLen; omega)
  generalize hZ : (Builtin.zeroCells zeroVI.cells n ++ Builtin.zeroCells zeroVI.cells (cap2 - n)) = Z at happ
  have hZs : Z.size = cap2 * 8 := by rw [← hZ]; simp [Builtin.zeroCells, Value.cells, zeroVI]; omega
  clear hcap hZ h0
  have HG := Lib.hid hcapge
  have HL := Lib.hid hcaple
  have HS := Lib.hid hZs
  clear hcapge hcaple hZs
  go_enter Try.func79, Try.ntmps79
  go_wp2_with (at_builtin; refine Lib.wpList_append_run _ rfl _ _ _ _ rfl _ _ rfl rfl _ _ happ ?_)
  go_ret
  exact ⟨_, rfl, ⟨by simp, .inr ⟨w.heap.size, cap2, Z, rfl, Nat.le_refl _, heap_alloc_new w.drew _, Nat.zero_le _, HL.out, HS.out, by simp⟩⟩, (Below.refl _ _).drew.alloc (Nat.le_refl _) _⟩
set_option maxHeartbeats 2000000 in
set_option maxRecDepth 100000 in
theorem concatI_any (b o m c : Nat) (vs : List Value) (pss : List (List Itm)) (w : World) (hR : RowsT encI w b o vs pss) (hm : m = pss.length) (hmc : m ≤ 1000) (hbig : pss.flatten.length ≤ 100000) :
  Calls Try.prog 77 #[.slice (some ⟨b, o, none⟩) m c] w fun e w' => ∃ v, e = .returned v ∧ OwnT encI w' w.heap.size 64 v pss.flatten ∧ Below w.heap.size w w' := by
 have HR := Lib.hid hR.2
 have HM := Lib.hid hm
 have HSB : Hid (∀ k, (catT pss k).length ≤ 100000) := fun k => Nat.le_trans (catT_le pss k) hbig
 clear hR hm
 go_enter Try.func77, Try.ntmps77
 go_wp2
 go_loop [3, 11] (fun s i => ∃ (k : Nat), k ≤ m ∧ i = .int .i64 k ∧ s = .int .i64 ((catT pss k).length : Nat)) (fun _ i => m - (intOf i).toNat)
 case atStart => exact ⟨0, by omega, rfl, rfl⟩
 case round =>
  obtain ⟨k, hk, rfl, rfl⟩ := hrel
  by_cases hlt : k < m
  ·obtain ⟨hc, hrow⟩ := HR.out k (by rw [← HM.out]; exact hlt)
   obtain ⟨p1, c1, hv⟩ := hrow.shape
   rw [hv] at hc
   have hs := Lib.hid (catT_len pss k (by rw [← HM.out]; exact hlt))
   have hsb := HSB.out (k + 1)
   rw [hs.out] at hsb
   clear hv hrow
   generalize (pss.getD k []).length = L at *
   go_wp2
   go_round
   case rel => exact ⟨k + 1, by omega, by go_num, by rw [hs.out]; go_num⟩
   case measure => simp [intOf]; omega
  ·have hkm : (m : Int) ≤ (k : Int) := by omega
   have hsb := HSB.out k
   go_wp2_with fail
   refine (growI_nil _ _ (by omega)).mono ?_
   rintro e w1 ⟨v1, rfl, ho1, hb1⟩
   have hstart : CatRelT encI 64 w pss 0 v1 w1 := ⟨by simpa [catT] using ho1, hb1⟩
   have HST := Lib.hid hstart
   clear hstart ho1 hb1
   go_wp2_with fail
   go_loopw [6, 27] (fun v i wr => ∃ (j : Nat), j ≤ m ∧ i = .int .i64 j ∧ Hid (CatRelT encI 64 w pss j v wr)) (fun _ i _ => m - (intOf i).toNat)
   case atStart => exact ⟨0, by omega, rfl, HST⟩
   case round =>
    obtain ⟨j, hj, rfl, HJ⟩ := hrel
    by_cases hlt : j < m
    ·have hlz : j < pss.length := by rw [← HM.out]; exact hlt
     obtain ⟨hc, hrow⟩ := HR.out j hlz
     obtain ⟨p1, c1, hv⟩ := hrow.shape
     have hbl := World.block_lt_of_cell? w _ hc
     have HRW := Lib.hid hrow
     rw [hv] at hc HRW
     have hcw := (HJ.out.2.cell (p := ⟨b, o + j, none⟩) hbl).trans hc
     have HLEN : Hid ((catT pss j).length + (pss.getD j []).length ≤ 100000) := by have h := HSB.out (j + 1); rw [catT_len pss j hlz] at h; exact h
     have HLZ := Lib.hid hlz
     clear hv hrow hc hbl hlz
     obtain ⟨p0, c0, hv0⟩ := HJ.out.1.form
     have HJ2 := HJ.out
     rw [hv0] at HJ2
     have HJ3 := Lib.hid HJ2
     subst hv0
     clear HJ2
     go_wp2_with (at_builtin; go_loud (refine wpList_append_t rfl _ _ 24 rfl 64 zeroVI 64 w.heap.size eltI rfl (by decide) _ _ (catT pss j) (pss.getD j []) rfl rfl HJ3.out.1 (HRW.out.kept (HJ3.out.2)) (by have h : _ ≤ _ := HLEN.out; omega) HJ3.out.2.size (catT pss (j + 1)) ((catT pss (j + 1)).length) (catT_succ pss j HLZ.out) rfl ?_; intro p2 c2 w2 ho2 _ hb2; have HN := Lib.hid (show CatRelT encI 64 w pss (j + 1) _ w2 from ⟨ho2, HJ3.out.2.trans hb2⟩); clear ho2 hb2))
     go_roundw
     case rel => exact ⟨j + 1, by omega, by go_num, HN⟩
     case measure => simp [intOf]; omega
    ·have hjm : (m : Int) ≤ (j : Int) := by omega
     have hjz : j = pss.length := by rw [← HM.out]; omega
     have hE := HJ.out
     rw [hjz] at hE
     have HE := Lib.hid hE
     clear hjz hE
     go_wp2
     go_ret
     exact ⟨_, rfl, by have := HE.out.1; unfold catT at this; rwa [List.take_length] at this, HE.out.2⟩
end Go.Proofs.Ytbpfbebebppleaa
namespace Go.Proofs.Ytbpfbebebppleaa
open Go.RowKit
def bookV (me : Int) (vi vo : Value) : Value := .agg #[.int .i64 me, vi, vo]
end Go.Proofs.Ytbpfbebebppleaa
namespace Go.Proofs.Ytbpfbebebppleaa
open Go.RowKit
set_option maxHeartbeats 1000000 in
theorem findI_any (w : World) (me : Int) (vi vo : Value) (xs A mid B : List Itm) (s n : Int) (hr : TRow encI w vi xs) (hA : AroundF posI ⟨s, n, 0⟩ xs A mid B) (hn : xs.length ≤ 2000) :
  Calls Try.prog 25 #[bookV me vi vo, idV s n] w fun x w' => x = .returned (.tuple #[.int .i64 A.length, .bool (decide (mid ≠ []))]) ∧ Below w.heap.size w w' := by
 have HS := Lib.hid (fun (w' : World) (hb : Below w.heap.size w w') => searchI_any w' vi xs A mid B s n (hr.kept hb) hA hn)
 clear hr hA hn
 generalize decide (mid ≠ []) = fnd at HS ⊢
 unfold bookV idV at *
 have h2 : Below w.heap.size w ((w.alloc (.cells #[.int .i64 me, vi, vo] 27)).alloc (.cells #[.int .i64 s, .int .i64 n] 36)) := (oneB w _).alloc (by simp) _
 have H2 := Lib.hid h2
 clear h2
 go_enter Try.func25, Try.ntmps25
 go_wp2_with fail
 refine (HS.out _ H2.out).mono ?_
 rintro y w1 ⟨rfl, hb1⟩
 have HB := ktq H2 hb1
 clear hb1
 go_wp2_with fail
 go_ret2
 exact ⟨rfl, HB.out⟩
theorem concat3I (W : World) (b : Nat) (va vb vc : Value) (A C : List Itm) (x : Itm) (t : TypeId) (hB : Blk W b #[va, vb, vc] t) (hA : TRow encI W va A) (hX : TRow encI W vb [x]) (hC : TRow encI W vc C) (hn : A.length + C.length ≤ 5000) :
  Calls Try.prog 77 #[.slice (some ⟨b, 0, none⟩) 3 3] W fun e w' => ∃ v, e = .returned v ∧ OwnT encI w' W.heap.size 64 v (A ++ [x] ++ C) ∧ Below W.heap.size W w' := by
 have h := concatI_any b 0 3 3 [va, vb, vc] [A, [x], C] W (RowsT.three hB rfl hA hX hC) rfl (by omega) (by simp; omega)
 rwa [show [A, [x], C].flatten = A ++ [x] ++ C by simp] at h
set_option linter.unusedSimpArgs false in
set_option maxHeartbeats 4000000 in
set_option maxRecDepth 100000 in
theorem withI_fc (w : World) (pv : Option Addr) (cv : Nat) (xs A B : List Itm) (q x : Itm) (hr : TRow encI w (.slice pv xs.length cv) xs) (hall : xs = A ++ [q] ++ B) (hn : xs.length ≤ 2000) (hcv : cv - A.length = 1) :
  Calls Try.prog 74 #[.slice pv xs.length cv, .int .i64 A.length, .bool true, x.v] w fun e w' => ∃ v', e = .returned v' ∧ OwnT encI w' w.heap.size 64 v' (A ++ [x] ++ B) ∧ Below w.heap.size w w' := by
 have hlen : xs.length = A.length + 1 + B.length := by rw [hall]; simp; omega
 have hAt : xs.take A.length = A := by rw [hall, List.append_assoc, List.take_left]
 have hBd : xs.drop (A.length + 1) = B := by rw [hall, List.drop_left' (by simp)]
 have hpc : xs.length ≤ cv := hr.cap
 have HLEN := Lib.hid hlen
 have HR := Lib.hid hr
 have HAT := Lib.hid hAt
 have HBD := Lib.hid hBd
 obtain ⟨b, o, hpv⟩ : ∃ b o, pv = some ⟨b, o, none⟩ := by obtain ⟨b, o, h, _⟩ := hr.at_ A.length (by omega); exact ⟨b, o, h⟩
 subst hpv
 clear hr hall hAt hBd
 unfold Itm.v
 have hcap1 : ((A.length : Nat) : Int) ≤ (xs.length : Int) := by omega
 have hcap2 : (xs.length : Int) ≤ (cv : Int) := by omega
 have hcap3 : ((A.length : Nat) : Int) ≤ (cv : Int) := by omega
 have hcn : A.length ≤ cv := by omega
 have hcap4 : ((A.length : Nat) : Int) < (xs.length : Int) := by omega
 have hcap5 : 1 ≤ xs.length - A.length := by omega
 have hcap6 : 1 ≤ cv - A.length := by omega
 have hcap7 : ¬ cv - A.length = 0 := by omega
 have hbl : A.length + B.length ≤ 5000 := by omega
 clear hlen
 go_enter Try.func74, Try.ntmps74
 go_wp2_with fail
 generalize hW1 : w.alloc (.cells #[.int .i64 x.s, .int .i64 x.n, .int .i64 x.b, .int .i64 x.c, .int .i64 x.a, .int .i64 x.r, .int .i64 x.t, .int .i64 x.y] 64) = W1
 have hB1 : Below w.heap.size w W1 := by rw [← hW1]; exact oneB w _
 have hT1 : Blk W1 w.heap.size #[.int .i64 x.s, .int .i64 x.n, .int .i64 x.b, .int .i64 x.c, .int .i64 x.a, .int .i64 x.r, .int .i64 x.t, .int .i64 x.y] 64 := by rw [← hW1]; exact Blk.new w _ _
 have HB1 := Lib.hid hB1
 have HT1 := Lib.hid hT1
 have HRW := Lib.hid (HR.out.kept hB1)
 have ha2 := HRW.out.take A.length (by omega)
 rw [HAT.out] at ha2
 have HA2 := Lib.hid ha2
 clear hW1 hB1 hT1 ha2 HR
 refine wp_region_held_drew (S := fun w' => w'.cell? ⟨w.heap.size, 0, none⟩ = some (.int .i64 x.s) ∧ w'.cell? ⟨w.heap.size, 1, none⟩ = some (.int .i64 x.n) ∧ w'.cell? ⟨w.heap.size, 2, none⟩ = some (.int .i64 x.b) ∧ w'.cell? ⟨w.heap.size, 3, none⟩ = some (.int .i64 x.c) ∧ w'.cell? ⟨w.heap.size, 4, none⟩ = some (.int .i64 x.a) ∧ w'.cell? ⟨w.heap.size, 5, none⟩ = some (.int .i64 x.r) ∧ w'.cell? ⟨w.heap.size, 6, none⟩ = some (.int .i64 x.t) ∧ w'.cell? ⟨w.heap.size, 7, none⟩ = some (.int .i64 x.y)) (by kernel_rfl) ⟨HT1.out.cell 0, HT1.out.cell 1, HT1.out.cell 2, HT1.out.cell 3, HT1.out.cell 4, HT1.out.cell 5, HT1.out.cell 6, HT1.out.cell 7⟩ (fun hS0 => ?_)
 refine tkq 0 ?_
 refine tkq 1 ?_
 refine tkq 2 ?_
 refine tkq 3 ?_
 refine tkq 5 ?_
 refine rdq 4 (fun K hK => ?_)
 go_simp
 have HT2 := Lib.hid (HT1.out.alloc (.cells #[.int .i64 x.s, .int .i64 x.n, .int .i64 x.b, .int .i64 x.c, .int .i64 x.a, .int .i64 x.r, .int .i64 x.t, .int .i64 x.y] 64)).drew
 have HB2 := Lib.hid (oneB W1 (.cells #[.int .i64 x.s, .int .i64 x.n, .int .i64 x.b, .int .i64 x.c, .int .i64 x.a, .int .i64 x.r, .int .i64 x.t, .int .i64 x.y] 64)).drew
 have HX2 := Lib.hid (TRow.one_ encI x (Blk.new W1 #[.int .i64 x.s, .int .i64 x.n, .int .i64 x.b, .int .i64 x.c, .int .i64 x.a, .int .i64 x.r, .int .i64 x.t, .int .i64 x.y] 64).drew rfl (Nat.le_refl 1))
 generalize hW2 : (W1.alloc (.cells #[.int .i64 x.s, .int .i64 x.n, .int .i64 x.b, .int .i64 x.c, .int .i64 x.a, .int .i64 x.r, .int .i64 x.t, .int .i64 x.y] 64)).drew = W2 at *
 refine hK.out _ _ ⟨HT2.out.cell 0, HT2.out.cell 1, HT2.out.cell 2, HT2.out.cell 3, HT2.out.cell 4, HT2.out.cell 5, HT2.out.cell 6, HT2.out.cell 7⟩ (fun hS => ?_)
 clear hK K
 try simp only [Act.put, List.getElem_toArray, List.getElem_cons_succ, List.getElem_cons_zero, List.setIfInBounds_toArray, List.set_cons_zero, List.set_cons_succ]
 have HS2 : Hid (W2.heap.size = W1.heap.size + 1) := by show _ = _; rw [← hW2]; simp
 clear hW2
 refine rdq 6 (fun K hK => ?_)
 go_simp
 refine hK.out _ _ (by first | exact ⟨(HT2.out.alloc _).cell 0, (HT2.out.alloc _).cell 1, (HT2.out.alloc _).cell 2, (HT2.out.alloc _).cell 3, (HT2.out.alloc _).cell 4, (HT2.out.alloc _).cell 5, (HT2.out.alloc _).cell 6, (HT2.out.alloc _).cell 7⟩ | exact ⟨(HT2.out.alloc _).drew.cell 0, (HT2.out.alloc _).drew.cell 1, (HT2.out.alloc _).drew.cell 2, (HT2.out.alloc _).drew.cell 3, (HT2.out.alloc _).drew.cell 4, (HT2.out.alloc _).drew.cell 5, (HT2.out.alloc _).drew.cell 6, (HT2.out.alloc _).drew.cell 7⟩) (fun hS => ?_)
 clear hK K
 try simp only [Act.put, List.getElem_toArray, List.getElem_cons_succ, List.getElem_cons_zero, List.setIfInBounds_toArray, List.set_cons_zero, List.set_cons_succ]
 refine rdq 7 (fun K hK => ?_)
 go_simp
 go_at_call 77
 refine (concat3I _ _ _ _ _ A B x _ (Blk.new' W2 _ _ rfl) ((HA2.out.kept HB2.out).kept (oneB W2 _)) (HX2.out.kept (oneB W2 _)) ?hC hbl).mono ?_
 case hC =>
  refine TRow.kept ?_ (oneB W2 _)
  rw [← HBD.out]
  have hlen : _ = _ := HLEN.out
  exact (HRW.out.kept HB2.out).tail (A.length + 1) (by omega) (by omega) (by omega) (fun b' o' e h => by first | (cases e; simp; done) | (cases e; simp; rw [addAt]; done) | (cases e; simp; omega) | (subst e; simp; omega) | (subst e; simp; rw [addAt]; done) | omega)
 rintro y w3 ⟨v3, rfl, ho3, hb3⟩
 have HO3 := Lib.hid ho3
 have HB3 := Lib.hid ((HB2.out.trans ((oneB W2 _).mono HB2.out.size)).trans (hb3.mono (by have := HS2.out; simp; omega)))
 clear ho3 hb3
 try go_wp2_with fail
 refine hK.out _ _ (⟨(HT1.out.below HB3.out HT1.out.lt).cell 0, (HT1.out.below HB3.out HT1.out.lt).cell 1, (HT1.out.below HB3.out HT1.out.lt).cell 2, (HT1.out.below HB3.out HT1.out.lt).cell 3, (HT1.out.below HB3.out HT1.out.lt).cell 4, (HT1.out.below HB3.out HT1.out.lt).cell 5, (HT1.out.below HB3.out HT1.out.lt).cell 6, (HT1.out.below HB3.out HT1.out.lt).cell 7⟩) (fun hS => ?_)
 clear hK K
 try simp only [Act.put, List.getElem_toArray, List.getElem_cons_succ, List.getElem_cons_zero, List.setIfInBounds_toArray, List.set_cons_zero, List.set_cons_succ]
 refine tkq 8 ?_
 refine wpAnyH_done (by kernel_rfl) ?_ _
 obtain ⟨p3, c3, hv3⟩ := HO3.out.form
 generalize (A ++ [x] ++ B).length = n3 at hv3
 subst hv3
 go_wp2_with fail
 go_ret
 exact ⟨_, rfl, HO3.out.less (by have := HS2.out; have := HB1.out.size; simp; omega), HB1.out.trans (HB3.out.mono HB1.out.size)⟩
set_option linter.unusedSimpArgs false in
set_option maxHeartbeats 4000000 in
set_option maxRecDepth 100000 in
theorem withI_fo (w : World) (pv : Option Addr) (cv : Nat) (xs A B : List Itm) (q x : Itm) (hr : TRow encI w (.slice pv xs.length cv) xs) (hall : xs = A ++ [q] ++ B) (hn : xs.length ≤ 2000) (hcv : ¬ cv - A.length = 1) :
  Calls Try.prog 74 #[.slice pv xs.length cv, .int .i64 A.length, .bool true, x.v] w fun e w' => ∃ v', e = .returned v' ∧ OwnT encI w' w.heap.size 64 v' (A ++ [x] ++ B) ∧ Below w.heap.size w w' := by
 have hlen : xs.length = A.length + 1 + B.length := by rw [hall]; simp; omega
 have hAt : xs.take A.length = A := by rw [hall, List.append_assoc, List.take_left]
 have hBd : xs.drop (A.length + 1) = B := by rw [hall, List.drop_left' (by simp)]
 have hpc : xs.length ≤ cv := hr.cap
 have HLEN := Lib.hid hlen
 have HR := Lib.hid hr
 have HAT := Lib.hid hAt
 have HBD := Lib.hid hBd
 obtain ⟨b, o, hpv⟩ : ∃ b o, pv = some ⟨b, o, none⟩ := by obtain ⟨b, o, h, _⟩ := hr.at_ A.length (by omega); exact ⟨b, o, h⟩
 subst hpv
 clear hr hall hAt hBd
 unfold Itm.v
 have hcap1 : ((A.length : Nat) : Int) ≤ (xs.length : Int) := by omega
 have hcap2 : (xs.length : Int) ≤ (cv : Int) := by omega
 have hcap3 : ((A.length : Nat) : Int) ≤ (cv : Int) := by omega
 have hcn : A.length ≤ cv := by omega
 have hcap4 : ((A.length : Nat) : Int) < (xs.length : Int) := by omega
 have hcap5 : 1 ≤ xs.length - A.length := by omega
 have hcap6 : 1 ≤ cv - A.length := by omega
 have hcap7 : ¬ cv - A.length = 0 := by omega
 have hbl : A.length + B.length ≤ 5000 := by omega
 clear hlen
 go_enter Try.func74, Try.ntmps74
 go_wp2_with fail
 generalize hW1 : w.alloc (.cells #[.int .i64 x.s, .int .i64 x.n, .int .i64 x.b, .int .i64 x.c, .int .i64 x.a, .int .i64 x.r, .int .i64 x.t, .int .i64 x.y] 64) = W1
 have hB1 : Below w.heap.size w W1 := by rw [← hW1]; exact oneB w _
 have hT1 : Blk W1 w.heap.size #[.int .i64 x.s, .int .i64 x.n, .int .i64 x.b, .int .i64 x.c, .int .i64 x.a, .int .i64 x.r, .int .i64 x.t, .int .i64 x.y] 64 := by rw [← hW1]; exact Blk.new w _ _
 have HB1 := Lib.hid hB1
 have HT1 := Lib.hid hT1
 have HRW := Lib.hid (HR.out.kept hB1)
 have ha2 := HRW.out.take A.length (by omega)
 rw [HAT.out] at ha2
 have HA2 := Lib.hid ha2
 clear hW1 hB1 hT1 ha2 HR
 refine wp_region_held_drew (S := fun w' => w'.cell? ⟨w.heap.size, 0, none⟩ = some (.int .i64 x.s) ∧ w'.cell? ⟨w.heap.size, 1, none⟩ = some (.int .i64 x.n) ∧ w'.cell? ⟨w.heap.size, 2, none⟩ = some (.int .i64 x.b) ∧ w'.cell? ⟨w.heap.size, 3, none⟩ = some (.int .i64 x.c) ∧ w'.cell? ⟨w.heap.size, 4, none⟩ = some (.int .i64 x.a) ∧ w'.cell? ⟨w.heap.size, 5, none⟩ = some (.int .i64 x.r) ∧ w'.cell? ⟨w.heap.size, 6, none⟩ = some (.int .i64 x.t) ∧ w'.cell? ⟨w.heap.size, 7, none⟩ = some (.int .i64 x.y)) (by kernel_rfl) ⟨HT1.out.cell 0, HT1.out.cell 1, HT1.out.cell 2, HT1.out.cell 3, HT1.out.cell 4, HT1.out.cell 5, HT1.out.cell 6, HT1.out.cell 7⟩ (fun hS0 => ?_)
 refine tkq 0 ?_
 refine tkq 1 ?_
 refine tkq 2 ?_
 refine tkq 3 ?_
 refine tkq 5 ?_
 refine rdq 4 (fun K hK => ?_)
 go_simp
 have HT2 := Lib.hid (HT1.out.alloc (.cells #[.int .i64 x.s, .int .i64 x.n, .int .i64 x.b, .int .i64 x.c, .int .i64 x.a, .int .i64 x.r, .int .i64 x.t, .int .i64 x.y] 64)).drew
 have HB2 := Lib.hid (oneB W1 (.cells #[.int .i64 x.s, .int .i64 x.n, .int .i64 x.b, .int .i64 x.c, .int .i64 x.a, .int .i64 x.r, .int .i64 x.t, .int .i64 x.y] 64)).drew
 have HX2 := Lib.hid (TRow.one_ encI x (Blk.new W1 #[.int .i64 x.s, .int .i64 x.n, .int .i64 x.b, .int .i64 x.c, .int .i64 x.a, .int .i64 x.r, .int .i64 x.t, .int .i64 x.y] 64).drew rfl (Nat.le_refl 1))
 generalize hW2 : (W1.alloc (.cells #[.int .i64 x.s, .int .i64 x.n, .int .i64 x.b, .int .i64 x.c, .int .i64 x.a, .int .i64 x.r, .int .i64 x.t, .int .i64 x.y] 64)).drew = W2 at *
 refine hK.out _ _ ⟨HT2.out.cell 0, HT2.out.cell 1, HT2.out.cell 2, HT2.out.cell 3, HT2.out.cell 4, HT2.out.cell 5, HT2.out.cell 6, HT2.out.cell 7⟩ (fun hS => ?_)
 clear hK K
 try simp only [Act.put, List.getElem_toArray, List.getElem_cons_succ, List.getElem_cons_zero, List.setIfInBounds_toArray, List.set_cons_zero, List.set_cons_succ]
 have HS2 : Hid (W2.heap.size = W1.heap.size + 1) := by show _ = _; rw [← hW2]; simp
 clear hW2
 refine rdq 6 (fun K hK => ?_)
 go_simp
 refine hK.out _ _ (by first | exact ⟨(HT2.out.alloc _).cell 0, (HT2.out.alloc _).cell 1, (HT2.out.alloc _).cell 2, (HT2.out.alloc _).cell 3, (HT2.out.alloc _).cell 4, (HT2.out.alloc _).cell 5, (HT2.out.alloc _).cell 6, (HT2.out.alloc _).cell 7⟩ | exact ⟨(HT2.out.alloc _).drew.cell 0, (HT2.out.alloc _).drew.cell 1, (HT2.out.alloc _).drew.cell 2, (HT2.out.alloc _).drew.cell 3, (HT2.out.alloc _).drew.cell 4, (HT2.out.alloc _).drew.cell 5, (HT2.out.alloc _).drew.cell 6, (HT2.out.alloc _).drew.cell 7⟩) (fun hS => ?_)
 clear hK K
 try simp only [Act.put, List.getElem_toArray, List.getElem_cons_succ, List.getElem_cons_zero, List.setIfInBounds_toArray, List.set_cons_zero, List.set_cons_succ]
 refine rdq 7 (fun K hK => ?_)
 go_simp
 go_at_call 77
 refine (concat3I _ _ _ _ _ A B x _ (Blk.new' W2 _ _ rfl) ((HA2.out.kept HB2.out).kept (oneB W2 _)) (HX2.out.kept (oneB W2 _)) ?hC hbl).mono ?_
 case hC =>
  refine TRow.kept ?_ (oneB W2 _)
  rw [← HBD.out]
  have hlen : _ = _ := HLEN.out
  exact (HRW.out.kept HB2.out).tail (A.length + 1) (by omega) (by omega) (by omega) (fun b' o' e h => by first | (cases e; simp; done) | (cases e; simp; rw [addAt]; done) | (cases e; simp; omega) | (subst e; simp; omega) | (subst e; simp; rw [addAt]; done) | omega)
 rintro y w3 ⟨v3, rfl, ho3, hb3⟩
 have HO3 := Lib.hid ho3
 have HB3 := Lib.hid ((HB2.out.trans ((oneB W2 _).mono HB2.out.size)).trans (hb3.mono (by have := HS2.out; simp; omega)))
 clear ho3 hb3
 try go_wp2_with fail
 refine hK.out _ _ (⟨(HT1.out.below HB3.out HT1.out.lt).cell 0, (HT1.out.below HB3.out HT1.out.lt).cell 1, (HT1.out.below HB3.out HT1.out.lt).cell 2, (HT1.out.below HB3.out HT1.out.lt).cell 3, (HT1.out.below HB3.out HT1.out.lt).cell 4, (HT1.out.below HB3.out HT1.out.lt).cell 5, (HT1.out.below HB3.out HT1.out.lt).cell 6, (HT1.out.below HB3.out HT1.out.lt).cell 7⟩) (fun hS => ?_)
 clear hK K
 try simp only [Act.put, List.getElem_toArray, List.getElem_cons_succ, List.getElem_cons_zero, List.setIfInBounds_toArray, List.set_cons_zero, List.set_cons_succ]
 refine tkq 8 ?_
 refine wpAnyH_done (by kernel_rfl) ?_ _
 obtain ⟨p3, c3, hv3⟩ := HO3.out.form
 generalize (A ++ [x] ++ B).length = n3 at hv3
 subst hv3
 go_wp2_with fail
 go_ret
 exact ⟨_, rfl, HO3.out.less (by have := HS2.out; have := HB1.out.size; simp; omega), HB1.out.trans (HB3.out.mono HB1.out.size)⟩
set_option linter.unusedSimpArgs false in
set_option maxHeartbeats 4000000 in
set_option maxRecDepth 100000 in
theorem withI_nc (w : World) (pv : Option Addr) (cv : Nat) (xs A B : List Itm) (x : Itm) (hr : TRow encI w (.slice pv xs.length cv) xs) (hall : xs = A ++ [] ++ B) (hn : xs.length ≤ 2000) (hcv : cv - A.length = 0) :
  Calls Try.prog 74 #[.slice pv xs.length cv, .int .i64 A.length, .bool false, x.v] w fun e w' => ∃ v', e = .returned v' ∧ OwnT encI w' w.heap.size 64 v' (A ++ [x] ++ B) ∧ Below w.heap.size w w' := by
 have hlen : xs.length = A.length + 0 + B.length := by rw [hall]; simp
 have hAt : xs.take A.length = A := by rw [hall, List.append_assoc, List.take_left]
 have hBd : xs.drop (A.length + 0) = B := by rw [hall, List.drop_left' (by simp)]
 have hpc : xs.length ≤ cv := hr.cap
 have HLEN := Lib.hid hlen
 have HR := Lib.hid hr
 have HAT := Lib.hid hAt
 have HBD := Lib.hid hBd
 clear hr hall hAt hBd
 unfold Itm.v
 have hcap1 : ((A.length : Nat) : Int) ≤ (xs.length : Int) := by omega
 have hcap2 : (xs.length : Int) ≤ (cv : Int) := by omega
 have hcap3 : ((A.length : Nat) : Int) ≤ (cv : Int) := by omega
 have hcn : A.length ≤ cv := by omega
 have hbl : A.length + B.length ≤ 5000 := by omega
 clear hlen
 go_enter Try.func74, Try.ntmps74
 go_wp2_with fail
 generalize hW1 : w.alloc (.cells #[.int .i64 x.s, .int .i64 x.n, .int .i64 x.b, .int .i64 x.c, .int .i64 x.a, .int .i64 x.r, .int .i64 x.t, .int .i64 x.y] 64) = W1
 have hB1 : Below w.heap.size w W1 := by rw [← hW1]; exact oneB w _
 have hT1 : Blk W1 w.heap.size #[.int .i64 x.s, .int .i64 x.n, .int .i64 x.b, .int .i64 x.c, .int .i64 x.a, .int .i64 x.r, .int .i64 x.t, .int .i64 x.y] 64 := by rw [← hW1]; exact Blk.new w _ _
 have HB1 := Lib.hid hB1
 have HT1 := Lib.hid hT1
 have HRW := Lib.hid (HR.out.kept hB1)
 have ha2 := HRW.out.take A.length (by omega)
 rw [HAT.out] at ha2
 have HA2 := Lib.hid ha2
 clear hW1 hB1 hT1 ha2 HR
 refine wp_region_held_drew (S := fun w' => w'.cell? ⟨w.heap.size, 0, none⟩ = some (.int .i64 x.s) ∧ w'.cell? ⟨w.heap.size, 1, none⟩ = some (.int .i64 x.n) ∧ w'.cell? ⟨w.heap.size, 2, none⟩ = some (.int .i64 x.b) ∧ w'.cell? ⟨w.heap.size, 3, none⟩ = some (.int .i64 x.c) ∧ w'.cell? ⟨w.heap.size, 4, none⟩ = some (.int .i64 x.a) ∧ w'.cell? ⟨w.heap.size, 5, none⟩ = some (.int .i64 x.r) ∧ w'.cell? ⟨w.heap.size, 6, none⟩ = some (.int .i64 x.t) ∧ w'.cell? ⟨w.heap.size, 7, none⟩ = some (.int .i64 x.y)) (by kernel_rfl) ⟨HT1.out.cell 0, HT1.out.cell 1, HT1.out.cell 2, HT1.out.cell 3, HT1.out.cell 4, HT1.out.cell 5, HT1.out.cell 6, HT1.out.cell 7⟩ (fun hS0 => ?_)
 refine tkq 0 ?_
 refine tkq 1 ?_
 refine tkq 2 ?_
 refine tkq 3 ?_
 refine tkq 5 ?_
 refine rdq 4 (fun K hK => ?_)
 go_simp
 have HT2 := Lib.hid (HT1.out.alloc (.cells #[.int .i64 x.s, .int .i64 x.n, .int .i64 x.b, .int .i64 x.c, .int .i64 x.a, .int .i64 x.r, .int .i64 x.t, .int .i64 x.y] 64)).drew
 have HB2 := Lib.hid (oneB W1 (.cells #[.int .i64 x.s, .int .i64 x.n, .int .i64 x.b, .int .i64 x.c, .int .i64 x.a, .int .i64 x.r, .int .i64 x.t, .int .i64 x.y] 64)).drew
 have HX2 := Lib.hid (TRow.one_ encI x (Blk.new W1 #[.int .i64 x.s, .int .i64 x.n, .int .i64 x.b, .int .i64 x.c, .int .i64 x.a, .int .i64 x.r, .int .i64 x.t, .int .i64 x.y] 64).drew rfl (Nat.le_refl 1))
 generalize hW2 : (W1.alloc (.cells #[.int .i64 x.s, .int .i64 x.n, .int .i64 x.b, .int .i64 x.c, .int .i64 x.a, .int .i64 x.r, .int .i64 x.t, .int .i64 x.y] 64)).drew = W2 at *
 refine hK.out _ _ ⟨HT2.out.cell 0, HT2.out.cell 1, HT2.out.cell 2, HT2.out.cell 3, HT2.out.cell 4, HT2.out.cell 5, HT2.out.cell 6, HT2.out.cell 7⟩ (fun hS => ?_)
 clear hK K
 try simp only [Act.put, List.getElem_toArray, List.getElem_cons_succ, List.getElem_cons_zero, List.setIfInBounds_toArray, List.set_cons_zero, List.set_cons_succ]
 have HS2 : Hid (W2.heap.size = W1.heap.size + 1) := by show _ = _; rw [← hW2]; simp
 clear hW2
 refine rdq 6 (fun K hK => ?_)
 go_simp
 refine hK.out _ _ (by first | exact ⟨(HT2.out.alloc _).cell 0, (HT2.out.alloc _).cell 1, (HT2.out.alloc _).cell 2, (HT2.out.alloc _).cell 3, (HT2.out.alloc _).cell 4, (HT2.out.alloc _).cell 5, (HT2.out.alloc _).cell 6, (HT2.out.alloc _).cell 7⟩ | exact ⟨(HT2.out.alloc _).drew.cell 0, (HT2.out.alloc _).drew.cell 1, (HT2.out.alloc _).drew.cell 2, (HT2.out.alloc _).drew.cell 3, (HT2.out.alloc _).drew.cell 4, (HT2.out.alloc _).drew.cell 5, (HT2.out.alloc _).drew.cell 6, (HT2.out.alloc _).drew.cell 7⟩) (fun hS => ?_)
 clear hK K
 try simp only [Act.put, List.getElem_toArray, List.getElem_cons_succ, List.getElem_cons_zero, List.setIfInBounds_toArray, List.set_cons_zero, List.set_cons_succ]
 refine rdq 7 (fun K hK => ?_)
 go_simp
 go_at_call 77
 refine (concat3I _ _ _ _ _ A B x _ (Blk.new' W2 _ _ rfl) ((HA2.out.kept HB2.out).kept (oneB W2 _)) (HX2.out.kept (oneB W2 _)) ?hC hbl).mono ?_
 case hC =>
  refine TRow.kept ?_ (oneB W2 _)
  rw [← HBD.out]
  have hlen : _ = _ := HLEN.out
  exact (HRW.out.kept HB2.out).tail (A.length + 0) (by omega) (by omega) (by omega) (fun b' o' e h => by first | (cases e; simp; done) | (cases e; simp; rw [addAt]; done) | (cases e; simp; omega) | (subst e; simp; omega) | (subst e; simp; rw [addAt]; done) | omega)
 rintro y w3 ⟨v3, rfl, ho3, hb3⟩
 have HO3 := Lib.hid ho3
 have HB3 := Lib.hid ((HB2.out.trans ((oneB W2 _).mono HB2.out.size)).trans (hb3.mono (by have := HS2.out; simp; omega)))
 clear ho3 hb3
 try go_wp2_with fail
 refine hK.out _ _ (⟨(HT1.out.below HB3.out HT1.out.lt).cell 0, (HT1.out.below HB3.out HT1.out.lt).cell 1, (HT1.out.below HB3.out HT1.out.lt).cell 2, (HT1.out.below HB3.out HT1.out.lt).cell 3, (HT1.out.below HB3.out HT1.out.lt).cell 4, (HT1.out.below HB3.out HT1.out.lt).cell 5, (HT1.out.below HB3.out HT1.out.lt).cell 6, (HT1.out.below HB3.out HT1.out.lt).cell 7⟩) (fun hS => ?_)
 clear hK K
 try simp only [Act.put, List.getElem_toArray, List.getElem_cons_succ, List.getElem_cons_zero, List.setIfInBounds_toArray, List.set_cons_zero, List.set_cons_succ]
 refine tkq 8 ?_
 refine wpAnyH_done (by kernel_rfl) ?_ _
 obtain ⟨p3, c3, hv3⟩ := HO3.out.form
 generalize (A ++ [x] ++ B).length = n3 at hv3
 subst hv3
 go_wp2_with fail
 go_ret
 exact ⟨_, rfl, HO3.out.less (by have := HS2.out; have := HB1.out.size; simp; omega), HB1.out.trans (HB3.out.mono HB1.out.size)⟩
set_option linter.unusedSimpArgs false in
set_option maxHeartbeats 4000000 in
set_option maxRecDepth 100000 in
theorem withI_no (w : World) (pv : Option Addr) (cv : Nat) (xs A B : List Itm) (x : Itm) (hr : TRow encI w (.slice pv xs.length cv) xs) (hall : xs = A ++ [] ++ B) (hn : xs.length ≤ 2000) (hcv : ¬ cv - A.length = 0) :
  Calls Try.prog 74 #[.slice pv xs.length cv, .int .i64 A.length, .bool false, x.v] w fun e w' => ∃ v', e = .returned v' ∧ OwnT encI w' w.heap.size 64 v' (A ++ [x] ++ B) ∧ Below w.heap.size w w' := by
 have hlen : xs.length = A.length + 0 + B.length := by rw [hall]; simp
 have hAt : xs.take A.length = A := by rw [hall, List.append_assoc, List.take_left]
 have hBd : xs.drop (A.length + 0) = B := by rw [hall, List.drop_left' (by simp)]
 have hpc : xs.length ≤ cv := hr.cap
 have HLEN := Lib.hid hlen
 have HR := Lib.hid hr
 have HAT := Lib.hid hAt
 have HBD := Lib.hid hBd
 clear hr hall hAt hBd
 unfold Itm.v
 have hcap1 : ((A.length : Nat) : Int) ≤ (xs.length : Int) := by omega
 have hcap2 : (xs.length : Int) ≤ (cv : Int) := by omega
 have hcap3 : ((A.length : Nat) : Int) ≤ (cv : Int) := by omega
 have hcn : A.length ≤ cv := by omega
 have hbl : A.length + B.length ≤ 5000 := by omega
 clear hlen
 go_enter Try.func74, Try.ntmps74
 go_wp2_with fail
 generalize hW1 : w.alloc (.cells #[.int .i64 x.s, .int .i64 x.n, .int .i64 x.b, .int .i64 x.c, .int .i64 x.a, .int .i64 x.r, .int .i64 x.t, .int .i64 x.y] 64) = W1
 have hB1 : Below w.heap.size w W1 := by rw [← hW1]; exact oneB w _
 have hT1 : Blk W1 w.heap.size #[.int .i64 x.s, .int .i64 x.n, .int .i64 x.b, .int .i64 x.c, .int .i64 x.a, .int .i64 x.r, .int .i64 x.t, .int .i64 x.y] 64 := by rw [← hW1]; exact Blk.new w _ _
 have HB1 := Lib.hid hB1
 have HT1 := Lib.hid hT1
 have HRW := Lib.hid (HR.out.kept hB1)
 have ha2 := HRW.out.take A.length (by omega)
 rw [HAT.out] at ha2
 have HA2 := Lib.hid ha2
 clear hW1 hB1 hT1 ha2 HR
 refine wp_region_held_drew (S := fun w' => w'.cell? ⟨w.heap.size, 0, none⟩ = some (.int .i64 x.s) ∧ w'.cell? ⟨w.heap.size, 1, none⟩ = some (.int .i64 x.n) ∧ w'.cell? ⟨w.heap.size, 2, none⟩ = some (.int .i64 x.b) ∧ w'.cell? ⟨w.heap.size, 3, none⟩ = some (.int .i64 x.c) ∧ w'.cell? ⟨w.heap.size, 4, none⟩ = some (.int .i64 x.a) ∧ w'.cell? ⟨w.heap.size, 5, none⟩ = some (.int .i64 x.r) ∧ w'.cell? ⟨w.heap.size, 6, none⟩ = some (.int .i64 x.t) ∧ w'.cell? ⟨w.heap.size, 7, none⟩ = some (.int .i64 x.y)) (by kernel_rfl) ⟨HT1.out.cell 0, HT1.out.cell 1, HT1.out.cell 2, HT1.out.cell 3, HT1.out.cell 4, HT1.out.cell 5, HT1.out.cell 6, HT1.out.cell 7⟩ (fun hS0 => ?_)
 refine tkq 0 ?_
 refine tkq 1 ?_
 refine tkq 2 ?_
 refine tkq 3 ?_
 refine tkq 5 ?_
 refine rdq 4 (fun K hK => ?_)
 go_simp
 have HT2 := Lib.hid (HT1.out.alloc (.cells #[.int .i64 x.s, .int .i64 x.n, .int .i64 x.b, .int .i64 x.c, .int .i64 x.a, .int .i64 x.r, .int .i64 x.t, .int .i64 x.y] 64)).drew
 have HB2 := Lib.hid (oneB W1 (.cells #[.int .i64 x.s, .int .i64 x.n, .int .i64 x.b, .int .i64 x.c, .int .i64 x.a, .int .i64 x.r, .int .i64 x.t, .int .i64 x.y] 64)).drew
 have HX2 := Lib.hid (TRow.one_ encI x (Blk.new W1 #[.int .i64 x.s, .int .i64 x.n, .int .i64 x.b, .int .i64 x.c, .int .i64 x.a, .int .i64 x.r, .int .i64 x.t, .int .i64 x.y] 64).drew rfl (Nat.le_refl 1))
 generalize hW2 : (W1.alloc (.cells #[.int .i64 x.s, .int .i64 x.n, .int .i64 x.b, .int .i64 x.c, .int .i64 x.a, .int .i64 x.r, .int .i64 x.t, .int .i64 x.y] 64)).drew = W2 at *
 refine hK.out _ _ ⟨HT2.out.cell 0, HT2.out.cell 1, HT2.out.cell 2, HT2.out.cell 3, HT2.out.cell 4, HT2.out.cell 5, HT2.out.cell 6, HT2.out.cell 7⟩ (fun hS => ?_)
 clear hK K
 try simp only [Act.put, List.getElem_toArray, List.getElem_cons_succ, List.getElem_cons_zero, List.setIfInBounds_toArray, List.set_cons_zero, List.set_cons_succ]
 have HS2 : Hid (W2.heap.size = W1.heap.size + 1) := by show _ = _; rw [← hW2]; simp
 clear hW2
 refine rdq 6 (fun K hK => ?_)
 go_simp
 refine hK.out _ _ (by first | exact ⟨(HT2.out.alloc _).cell 0, (HT2.out.alloc _).cell 1, (HT2.out.alloc _).cell 2, (HT2.out.alloc _).cell 3, (HT2.out.alloc _).cell 4, (HT2.out.alloc _).cell 5, (HT2.out.alloc _).cell 6, (HT2.out.alloc _).cell 7⟩ | exact ⟨(HT2.out.alloc _).drew.cell 0, (HT2.out.alloc _).drew.cell 1, (HT2.out.alloc _).drew.cell 2, (HT2.out.alloc _).drew.cell 3, (HT2.out.alloc _).drew.cell 4, (HT2.out.alloc _).drew.cell 5, (HT2.out.alloc _).drew.cell 6, (HT2.out.alloc _).drew.cell 7⟩) (fun hS => ?_)
 clear hK K
 try simp only [Act.put, List.getElem_toArray, List.getElem_cons_succ, List.getElem_cons_zero, List.setIfInBounds_toArray, List.set_cons_zero, List.set_cons_succ]
 refine rdq 7 (fun K hK => ?_)
 go_simp
 go_at_call 77
 refine (concat3I _ _ _ _ _ A B x _ (Blk.new' W2 _ _ rfl) ((HA2.out.kept HB2.out).kept (oneB W2 _)) (HX2.out.kept (oneB W2 _)) ?hC hbl).mono ?_
 case hC =>
  refine TRow.kept ?_ (oneB W2 _)
  rw [← HBD.out]
  have hlen : _ = _ := HLEN.out
  exact (HRW.out.kept HB2.out).tail (A.length + 0) (by omega) (by omega) (by omega) (fun b' o' e h => by first | (cases e; simp; done) | (cases e; simp; rw [addAt]; done) | (cases e; simp; omega) | (subst e; simp; omega) | (subst e; simp; rw [addAt]; done) | omega)
 rintro y w3 ⟨v3, rfl, ho3, hb3⟩
 have HO3 := Lib.hid ho3
 have HB3 := Lib.hid ((HB2.out.trans ((oneB W2 _).mono HB2.out.size)).trans (hb3.mono (by have := HS2.out; simp; omega)))
 clear ho3 hb3
 try go_wp2_with fail
 refine hK.out _ _ (⟨(HT1.out.below HB3.out HT1.out.lt).cell 0, (HT1.out.below HB3.out HT1.out.lt).cell 1, (HT1.out.below HB3.out HT1.out.lt).cell 2, (HT1.out.below HB3.out HT1.out.lt).cell 3, (HT1.out.below HB3.out HT1.out.lt).cell 4, (HT1.out.below HB3.out HT1.out.lt).cell 5, (HT1.out.below HB3.out HT1.out.lt).cell 6, (HT1.out.below HB3.out HT1.out.lt).cell 7⟩) (fun hS => ?_)
 clear hK K
 try simp only [Act.put, List.getElem_toArray, List.getElem_cons_succ, List.getElem_cons_zero, List.setIfInBounds_toArray, List.set_cons_zero, List.set_cons_succ]
 refine tkq 8 ?_
 refine wpAnyH_done (by kernel_rfl) ?_ _
 obtain ⟨p3, c3, hv3⟩ := HO3.out.form
 generalize (A ++ [x] ++ B).length = n3 at hv3
 subst hv3
 go_wp2_with fail
 go_ret
 exact ⟨_, rfl, HO3.out.less (by have := HS2.out; have := HB1.out.size; simp; omega), HB1.out.trans (HB3.out.mono HB1.out.size)⟩
/-- Put in, in the place of what was there. -/
theorem withI_any (w : World) (v : Value) (xs A mid B : List Itm) (t : Pos) (x : Itm) (hr : TRow encI w v xs) (hA : AroundF posI t xs A mid B) (hn : xs.length ≤ 2000) :
  Calls Try.prog 74 #[v, .int .i64 A.length, .bool (decide (mid ≠ [])), x.v] w fun e w' => ∃ v', e = .returned v' ∧ OwnT encI w' w.heap.size 64 v' (A ++ [x] ++ B) ∧ Below w.heap.size w w' := by
 obtain ⟨pv, cv, rfl⟩ := hr.shape
 rcases hA.mid1 with rfl | ⟨q, rfl, _⟩
 ·rw [show decide (([] : List Itm) ≠ []) = false by simp]
  by_cases hc : cv - A.length = 0
  ·exact withI_nc w pv cv xs A B x hr hA.all hn hc
  ·exact withI_no w pv cv xs A B x hr hA.all hn hc
 ·rw [show decide (([q] : List Itm) ≠ []) = true by simp]
  by_cases hc : cv - A.length = 1
  ·exact withI_fc w pv cv xs A B q x hr hA.all hn hc
  ·exact withI_fo w pv cv xs A B q x hr hA.all hn hc
end Go.Proofs.Ytbpfbebebppleaa
namespace Go.Proofs.Ytbpfbebebppleaa
open Go.RowKit
set_option linter.unusedSimpArgs false in
set_option maxHeartbeats 4000000 in
set_option maxRecDepth 100000 in
theorem get_found (w : World) (me : Int) (pi po : Option Addr) (ni ci no co : Nat) (s n : Int) (xs A B : List Itm) (q : Itm) (hr : TRow encI w (.slice pi ni ci) xs) (hl : xs.length = ni) (hA : AroundF posI ⟨s, n, 0⟩ xs A [q] B) (hn : ni ≤ 2000) :
  Calls Try.prog 16 #[bookV me (.slice pi ni ci) (.slice po no co), idV s n] w fun e w' => e = .returned (.tuple #[q.v, .bool true]) ∧ Below w.heap.size w w' := by
 have hal : A.length < xs.length := by rw [hA.all]; simp <;> omega
 obtain ⟨b, o, hpv, hbl, hcs⟩ := hr.at_ A.length hal
 subst hpv
 have hq : xs[A.length] = q := by have e := hA.all; subst e; simp
 rw [hq] at hcs
 have hcap4 : ((A.length : Nat) : Int) < ((ni : Nat) : Int) := by omega
 have HQB := Lib.hid hbl
 have HQC := Lib.hid hcs
 clear hal hq hbl hcs
 have HF := Lib.hid (fun (W : World) (hb : Below w.heap.size w W) => findI_any W me (.slice (some ⟨b, o, none⟩) ni ci) (.slice po no co) xs A [q] B s n (hr.kept hb) hA (by omega))
 rw [show decide (([q] : List Itm) ≠ []) = true by simp] at HF
 unfold idV bookV at *
 unfold Itm.v
 clear hr hl hA hn
 go_enter Try.func16, Try.ntmps16
 go_wp2_with fail
 generalize hW1 : ((w.alloc (.cells #[.int .i64 me, .slice (some ⟨b, o, none⟩) ni ci, .slice po no co] 27)).alloc (.cells #[.int .i64 s, .int .i64 n] 36)).alloc (.cells #[.int .i64 0, .int .i64 0, .int .i64 0, .int .i64 0, .int .i64 0, .int .i64 0, .int .i64 0, .int .i64 0] 64) = W1
 have HB1 : Hid (Below w.heap.size w W1) := by show Below _ _ _; rw [← hW1]; exact ((oneB w _).alloc (by simp) _).alloc (by simp <;> omega) _
 have HK1 : Hid (Blk W1 w.heap.size #[.int .i64 me, .slice (some ⟨b, o, none⟩) ni ci, .slice po no co] 27) := by show Blk _ _ _ _; rw [← hW1]; exact ((Blk.new w _ _).alloc _).alloc _
 have HX1 : Hid (Blk W1 (w.heap.size + 1) #[.int .i64 s, .int .i64 n] 36) := by show Blk _ _ _ _; rw [← hW1]; exact (Blk.new' _ _ _ (by simp)).alloc _
 have HR1 : Hid (Blk W1 (w.heap.size + 1 + 1) #[.int .i64 0, .int .i64 0, .int .i64 0, .int .i64 0, .int .i64 0, .int .i64 0, .int .i64 0, .int .i64 0] 64) := by show Blk _ _ _ _; rw [← hW1]; exact Blk.new' _ _ _ (by simp)
 clear hW1
 refine (HF.out _ HB1.out).mono ?_
 rintro y w2 ⟨rfl, hb2⟩
 have HK2 := kbq HK1 hb2
 have HX2 := kbq HX1 hb2
 have HR2 := kbq HR1 hb2
 have HB2 := ktq HB1 hb2
 clear HF hb2 HK1 HX1 HR1
 have b0 : w2.cell? ⟨w.heap.size, 0, none⟩ = some (.int .i64 me) := HK2.out.cell 0
 have b1 : w2.cell? ⟨w.heap.size, 1, none⟩ = some (.slice (some ⟨b, o, none⟩) ni ci) := HK2.out.cell 1
 have b2 : w2.cell? ⟨w.heap.size, 2, none⟩ = some (.slice po no co) := HK2.out.cell 2
 have r0 : w2.cell? ⟨w.heap.size + 1 + 1, 0, none⟩ = some (.int .i64 0) := HR2.out.cell 0
 have fr0 := HR2.out.free 0
 have r1 : w2.cell? ⟨w.heap.size + 1 + 1, 1, none⟩ = some (.int .i64 0) := HR2.out.cell 1
 have fr1 := HR2.out.free 1
 have r2 : w2.cell? ⟨w.heap.size + 1 + 1, 2, none⟩ = some (.int .i64 0) := HR2.out.cell 2
 have fr2 := HR2.out.free 2
 have r3 : w2.cell? ⟨w.heap.size + 1 + 1, 3, none⟩ = some (.int .i64 0) := HR2.out.cell 3
 have fr3 := HR2.out.free 3
 have r4 : w2.cell? ⟨w.heap.size + 1 + 1, 4, none⟩ = some (.int .i64 0) := HR2.out.cell 4
 have fr4 := HR2.out.free 4
 have r5 : w2.cell? ⟨w.heap.size + 1 + 1, 5, none⟩ = some (.int .i64 0) := HR2.out.cell 5
 have fr5 := HR2.out.free 5
 have r6 : w2.cell? ⟨w.heap.size + 1 + 1, 6, none⟩ = some (.int .i64 0) := HR2.out.cell 6
 have fr6 := HR2.out.free 6
 have r7 : w2.cell? ⟨w.heap.size + 1 + 1, 7, none⟩ = some (.int .i64 0) := HR2.out.cell 7
 have fr7 := HR2.out.free 7
 have q0 : w2.cell? ⟨b, o + A.length * 8, none⟩ = some (.int .i64 q.s) := (HB2.out.cell (p := ⟨b, _, none⟩) HQB.out).trans (HQC.out 0 (by decide))
 have q1 : w2.cell? ⟨b, o + A.length * 8 + 1, none⟩ = some (.int .i64 q.n) := (HB2.out.cell (p := ⟨b, _, none⟩) HQB.out).trans (HQC.out 1 (by decide))
 have q2 : w2.cell? ⟨b, o + A.length * 8 + 2, none⟩ = some (.int .i64 q.b) := (HB2.out.cell (p := ⟨b, _, none⟩) HQB.out).trans (HQC.out 2 (by decide))
 have q3 : w2.cell? ⟨b, o + A.length * 8 + 3, none⟩ = some (.int .i64 q.c) := (HB2.out.cell (p := ⟨b, _, none⟩) HQB.out).trans (HQC.out 3 (by decide))
 have q4 : w2.cell? ⟨b, o + A.length * 8 + 4, none⟩ = some (.int .i64 q.a) := (HB2.out.cell (p := ⟨b, _, none⟩) HQB.out).trans (HQC.out 4 (by decide))
 have q5 : w2.cell? ⟨b, o + A.length * 8 + 5, none⟩ = some (.int .i64 q.r) := (HB2.out.cell (p := ⟨b, _, none⟩) HQB.out).trans (HQC.out 5 (by decide))
 have q6 : w2.cell? ⟨b, o + A.length * 8 + 6, none⟩ = some (.int .i64 q.t) := (HB2.out.cell (p := ⟨b, _, none⟩) HQB.out).trans (HQC.out 6 (by decide))
 have q7 : w2.cell? ⟨b, o + A.length * 8 + 7, none⟩ = some (.int .i64 q.y) := (HB2.out.cell (p := ⟨b, _, none⟩) HQB.out).trans (HQC.out 7 (by decide))
 go_wp2_with fail
 have hf1 := HR2.out.set 0 (.int .i64 q.s)
 have hb1 := HB2.out.setCell (p := ⟨w.heap.size + 1 + 1, 0, none⟩) (by show w.heap.size ≤ w.heap.size + 1 + 1; omega) (.int .i64 q.s)
 have hf2 := hf1.set 1 (.int .i64 q.n)
 have hb2 := hb1.setCell (p := ⟨w.heap.size + 1 + 1, 1, none⟩) (by show w.heap.size ≤ w.heap.size + 1 + 1; omega) (.int .i64 q.n)
 have hf3 := hf2.set 2 (.int .i64 q.b)
 have hb3 := hb2.setCell (p := ⟨w.heap.size + 1 + 1, 2, none⟩) (by show w.heap.size ≤ w.heap.size + 1 + 1; omega) (.int .i64 q.b)
 have hf4 := hf3.set 3 (.int .i64 q.c)
 have hb4 := hb3.setCell (p := ⟨w.heap.size + 1 + 1, 3, none⟩) (by show w.heap.size ≤ w.heap.size + 1 + 1; omega) (.int .i64 q.c)
 have hf5 := hf4.set 4 (.int .i64 q.a)
 have hb5 := hb4.setCell (p := ⟨w.heap.size + 1 + 1, 4, none⟩) (by show w.heap.size ≤ w.heap.size + 1 + 1; omega) (.int .i64 q.a)
 have hf6 := hf5.set 5 (.int .i64 q.r)
 have hb6 := hb5.setCell (p := ⟨w.heap.size + 1 + 1, 5, none⟩) (by show w.heap.size ≤ w.heap.size + 1 + 1; omega) (.int .i64 q.r)
 have hf7 := hf6.set 6 (.int .i64 q.t)
 have hb7 := hb6.setCell (p := ⟨w.heap.size + 1 + 1, 6, none⟩) (by show w.heap.size ≤ w.heap.size + 1 + 1; omega) (.int .i64 q.t)
 have hf8 := hf7.set 7 (.int .i64 q.y)
 have hb8 := hb7.setCell (p := ⟨w.heap.size + 1 + 1, 7, none⟩) (by show w.heap.size ≤ w.heap.size + 1 + 1; omega) (.int .i64 q.y)
 refine bodyPost_ret (v := .tuple #[.agg #[.int .i64 q.s, .int .i64 q.n, .int .i64 q.b, .int .i64 q.c, .int .i64 q.a, .int .i64 q.r, .int .i64 q.t, .int .i64 q.y], .bool true]) (by simp [results, Try.results16, go_sem, hf8.cell 0, hf8.cell 1, hf8.cell 2, hf8.cell 3, hf8.cell 4, hf8.cell 5, hf8.cell 6, hf8.cell 7]) rfl ⟨rfl, hb8⟩
set_option linter.unusedSimpArgs false in
set_option maxHeartbeats 4000000 in
set_option maxRecDepth 100000 in
theorem get_none (w : World) (me : Int) (pi po : Option Addr) (ni ci no co : Nat) (s n : Int) (xs A B : List Itm) (hr : TRow encI w (.slice pi ni ci) xs) (hl : xs.length = ni) (hA : AroundF posI ⟨s, n, 0⟩ xs A [] B) (hn : ni ≤ 2000) :
  Calls Try.prog 16 #[bookV me (.slice pi ni ci) (.slice po no co), idV s n] w fun e w' => e = .returned (.tuple #[.agg #[.int .i64 0, .int .i64 0, .int .i64 0, .int .i64 0, .int .i64 0, .int .i64 0, .int .i64 0, .int .i64 0], .bool false]) ∧ Below w.heap.size w w' := by
 have HF := Lib.hid (fun (W : World) (hb : Below w.heap.size w W) => findI_any W me (.slice pi ni ci) (.slice po no co) xs A [] B s n (hr.kept hb) hA (by omega))
 rw [show decide (([] : List Itm) ≠ []) = false by simp] at HF
 unfold idV bookV at *
 clear hr hl hA hn
 go_enter Try.func16, Try.ntmps16
 go_wp2_with fail
 generalize hW1 : ((w.alloc (.cells #[.int .i64 me, .slice pi ni ci, .slice po no co] 27)).alloc (.cells #[.int .i64 s, .int .i64 n] 36)).alloc (.cells #[.int .i64 0, .int .i64 0, .int .i64 0, .int .i64 0, .int .i64 0, .int .i64 0, .int .i64 0, .int .i64 0] 64) = W1
 have HB1 : Hid (Below w.heap.size w W1) := by show Below _ _ _; rw [← hW1]; exact ((oneB w _).alloc (by simp) _).alloc (by simp <;> omega) _
 have HK1 : Hid (Blk W1 w.heap.size #[.int .i64 me, .slice pi ni ci, .slice po no co] 27) := by show Blk _ _ _ _; rw [← hW1]; exact ((Blk.new w _ _).alloc _).alloc _
 have HX1 : Hid (Blk W1 (w.heap.size + 1) #[.int .i64 s, .int .i64 n] 36) := by show Blk _ _ _ _; rw [← hW1]; exact (Blk.new' _ _ _ (by simp)).alloc _
 have HR1 : Hid (Blk W1 (w.heap.size + 1 + 1) #[.int .i64 0, .int .i64 0, .int .i64 0, .int .i64 0, .int .i64 0, .int .i64 0, .int .i64 0, .int .i64 0] 64) := by show Blk _ _ _ _; rw [← hW1]; exact Blk.new' _ _ _ (by simp)
 clear hW1
 refine (HF.out _ HB1.out).mono ?_
 rintro y w2 ⟨rfl, hb2⟩
 have HK2 := kbq HK1 hb2
 have HX2 := kbq HX1 hb2
 have HR2 := kbq HR1 hb2
 have HB2 := ktq HB1 hb2
 clear HF hb2 HK1 HX1 HR1
 have b0 : w2.cell? ⟨w.heap.size, 0, none⟩ = some (.int .i64 me) := HK2.out.cell 0
 have b1 : w2.cell? ⟨w.heap.size, 1, none⟩ = some (.slice pi ni ci) := HK2.out.cell 1
 have b2 : w2.cell? ⟨w.heap.size, 2, none⟩ = some (.slice po no co) := HK2.out.cell 2
 have r0 : w2.cell? ⟨w.heap.size + 1 + 1, 0, none⟩ = some (.int .i64 0) := HR2.out.cell 0
 have fr0 := HR2.out.free 0
 have r1 : w2.cell? ⟨w.heap.size + 1 + 1, 1, none⟩ = some (.int .i64 0) := HR2.out.cell 1
 have fr1 := HR2.out.free 1
 have r2 : w2.cell? ⟨w.heap.size + 1 + 1, 2, none⟩ = some (.int .i64 0) := HR2.out.cell 2
 have fr2 := HR2.out.free 2
 have r3 : w2.cell? ⟨w.heap.size + 1 + 1, 3, none⟩ = some (.int .i64 0) := HR2.out.cell 3
 have fr3 := HR2.out.free 3
 have r4 : w2.cell? ⟨w.heap.size + 1 + 1, 4, none⟩ = some (.int .i64 0) := HR2.out.cell 4
 have fr4 := HR2.out.free 4
 have r5 : w2.cell? ⟨w.heap.size + 1 + 1, 5, none⟩ = some (.int .i64 0) := HR2.out.cell 5
 have fr5 := HR2.out.free 5
 have r6 : w2.cell? ⟨w.heap.size + 1 + 1, 6, none⟩ = some (.int .i64 0) := HR2.out.cell 6
 have fr6 := HR2.out.free 6
 have r7 : w2.cell? ⟨w.heap.size + 1 + 1, 7, none⟩ = some (.int .i64 0) := HR2.out.cell 7
 have fr7 := HR2.out.free 7
 go_wp2_with fail
 have hf1 := HR2.out.set 0 (.int .i64 0)
 have hb1 := HB2.out.setCell (p := ⟨w.heap.size + 1 + 1, 0, none⟩) (by show w.heap.size ≤ w.heap.size + 1 + 1; omega) (.int .i64 0)
 have hf2 := hf1.set 1 (.int .i64 0)
 have hb2 := hb1.setCell (p := ⟨w.heap.size + 1 + 1, 1, none⟩) (by show w.heap.size ≤ w.heap.size + 1 + 1; omega) (.int .i64 0)
 have hf3 := hf2.set 2 (.int .i64 0)
 have hb3 := hb2.setCell (p := ⟨w.heap.size + 1 + 1, 2, none⟩) (by show w.heap.size ≤ w.heap.size + 1 + 1; omega) (.int .i64 0)
 have hf4 := hf3.set 3 (.int .i64 0)
 have hb4 := hb3.setCell (p := ⟨w.heap.size + 1 + 1, 3, none⟩) (by show w.heap.size ≤ w.heap.size + 1 + 1; omega) (.int .i64 0)
 have hf5 := hf4.set 4 (.int .i64 0)
 have hb5 := hb4.setCell (p := ⟨w.heap.size + 1 + 1, 4, none⟩) (by show w.heap.size ≤ w.heap.size + 1 + 1; omega) (.int .i64 0)
 have hf6 := hf5.set 5 (.int .i64 0)
 have hb6 := hb5.setCell (p := ⟨w.heap.size + 1 + 1, 5, none⟩) (by show w.heap.size ≤ w.heap.size + 1 + 1; omega) (.int .i64 0)
 have hf7 := hf6.set 6 (.int .i64 0)
 have hb7 := hb6.setCell (p := ⟨w.heap.size + 1 + 1, 6, none⟩) (by show w.heap.size ≤ w.heap.size + 1 + 1; omega) (.int .i64 0)
 have hf8 := hf7.set 7 (.int .i64 0)
 have hb8 := hb7.setCell (p := ⟨w.heap.size + 1 + 1, 7, none⟩) (by show w.heap.size ≤ w.heap.size + 1 + 1; omega) (.int .i64 0)
 refine bodyPost_ret (v := .tuple #[.agg #[.int .i64 0, .int .i64 0, .int .i64 0, .int .i64 0, .int .i64 0, .int .i64 0, .int .i64 0, .int .i64 0], .bool false]) (by simp [results, Try.results16, go_sem, hf8.cell 0, hf8.cell 1, hf8.cell 2, hf8.cell 3, hf8.cell 4, hf8.cell 5, hf8.cell 6, hf8.cell 7]) rfl ⟨rfl, hb8⟩
end Go.Proofs.Ytbpfbebebppleaa
namespace Go.Proofs.Ytbpfbebebppleaa
open Go.RowKit
/-- What is expected to be paid. -/
structure Ord where
 s : Int
 n : Int
 a : Int
deriving DecidableEq
def Ord.v (x : Ord) : Value := .agg #[.int .i64 x.s, .int .i64 x.n, .int .i64 x.a]
def Ord.cells (x : Ord) : List Value := [.int .i64 x.s, .int .i64 x.n, .int .i64 x.a]
@[reducible] def encO : Enc Ord := ⟨3, Ord.cells, by decide, fun _ => rfl, fun x u hu => by simp only [Ord.cells, List.mem_cons, List.not_mem_nil, or_false] at hu; rcases hu with rfl | rfl | rfl <;> rfl⟩
def posO (x : Ord) : Pos := ⟨x.s, x.n, 0⟩
set_option linter.unusedSimpArgs false in
set_option maxHeartbeats 1000000 in
set_option maxRecDepth 100000 in
theorem cmpO_any (x : Ord) (s n : Int) (w : World) : Calls Try.prog 60 #[x.v, idV s n] w fun e w' => e = .returned (.int .i64 (ord2 x.s x.n s n)) ∧ Below w.heap.size w w' := by
 have HC := Lib.hid (fun (W : World) => bcompare_any x.s x.n s n W)
 unfold idV at *
 unfold Ord.v
 go_enter Try.func60, Try.ntmps60
 go_wp2_with fail
 refine (HC.out _).mono ?_
 rintro y w1 ⟨rfl, hb⟩
 have HB := Lib.hid (((oneB w _).alloc (by simp) _).trans (hb.mono (by simp; omega)))
 clear hb
 go_wp2_with fail
 go_ret
 exact ⟨rfl, HB.out⟩
end Go.Proofs.Ytbpfbebebppleaa
namespace Go.Proofs.Ytbpfbebebppleaa
open Go.RowKit
set_option linter.unusedSimpArgs false in
set_option maxHeartbeats 4000000 in
set_option maxRecDepth 100000 in
theorem searchO_any (w : World) (v : Value) (xs A mid B : List Ord) (s n : Int) (hr : TRow encO w v xs) (hA : AroundF posO ⟨s, n, 0⟩ xs A mid B) (hn : xs.length ≤ 2000) :
  Calls Try.prog 59 #[v, idV s n, .func (.func 60) #[] #[]] w fun x w' => x = .returned (.tuple #[.int .i64 A.length, .bool (decide (mid ≠ []))]) ∧ Below w.heap.size w w' := by
 have HC := Lib.hid (fun (y : Ord) (W : World) => cmpO_any y s n W)
 unfold idV Ord.v at HC
 obtain ⟨p, c, rfl⟩ := hr.shape
 have HR := Lib.hid hr
 have HA := Lib.hid hA
 have hAl := hA.le
 clear hr hA
 unfold idV
 go_enter Try.func59, Try.ntmps59
 go_wp2_with fail
 generalize hW1 : w.alloc (.cells #[.int .i64 s, .int .i64 n] 36) = W1
 have hB1 : Below w.heap.size w W1 := by rw [← hW1]; exact oneB w _
 have hT1 : Blk W1 w.heap.size #[.int .i64 s, .int .i64 n] 36 := by rw [← hW1]; exact Blk.new w _ _
 have HB1 := Lib.hid hB1
 have HT1 := Lib.hid hT1
 have HR1 := Lib.hid (HR.out.kept hB1)
 clear hW1 hB1 hT1
 go_loopw [9, 10] (fun vi vj wr => ∃ i j : Nat, vi = .int .i64 i ∧ vj = .int .i64 j ∧ i ≤ A.length ∧ A.length ≤ j ∧ j ≤ xs.length ∧ Hid (Below W1.heap.size W1 wr)) (fun vi vj _ => (intOf vj).toNat - (intOf vi).toNat)
 case atStart => exact ⟨0, xs.length, rfl, rfl, Nat.zero_le _, hAl, Nat.le_refl _, Lib.hid (Below.refl W1.heap.size W1)⟩
 case round =>
  obtain ⟨i, j, rfl, rfl, hi, hj, hjn, HB⟩ := hrel
  by_cases hlt : (i : Int) < (j : Int)
  ·have hm : (i + j) / 2 < xs.length := by omega
   obtain ⟨b, o, rfl, hbl, hcs⟩ := (HR1.out.kept HB.out).at_ ((i + j) / 2) hm
   have c0 : wr.cell? ⟨b, o + ((i + j) / 2) * 3, none⟩ = some (.int .i64 xs[((i + j) / 2)].s) := hcs 0 (by decide)
   have c1 : wr.cell? ⟨b, o + ((i + j) / 2) * 3 + 1, none⟩ = some (.int .i64 xs[((i + j) / 2)].n) := hcs 1 (by decide)
   have c2 : wr.cell? ⟨b, o + ((i + j) / 2) * 3 + 2, none⟩ = some (.int .i64 xs[((i + j) / 2)].a) := hcs 2 (by decide)
   have hT := HT1.out.below HB.out HT1.out.lt
   have hTl := hT.lt
   have t0 : wr.cell? ⟨w.heap.size, 0, none⟩ = some (.int .i64 s) := hT.cell 0
   have t1 : wr.cell? ⟨w.heap.size, 1, none⟩ = some (.int .i64 n) := hT.cell 1
   have hiff := HA.out.lt_iff ((i + j) / 2) hm
   have hM : ((i : Int) + (j : Int)) / 2 = (((i + j) / 2 : Nat) : Int) := by omega
   have him : i ≤ (i + j) / 2 := by omega
   have hmj : (i + j) / 2 < j := by omega
   generalize xs[((i + j) / 2)] = y at c0 c1 c2 hiff
   have hiff : ord2 y.s y.n s n < 0 ↔ (i + j) / 2 < A.length := hiff
   clear hT hcs
   have HM := Lib.hid hM
   clear hM
   generalize (i + j) / 2 = m at *
   have hS1 : wr.drew.cell? ⟨b, o + m * 3, none⟩ = some (.int .i64 y.s) ∧ wr.drew.cell? ⟨b, o + m * 3 + 1, none⟩ = some (.int .i64 y.n) ∧ wr.drew.cell? ⟨b, o + m * 3 + 2, none⟩ = some (.int .i64 y.a) ∧ wr.drew.cell? ⟨w.heap.size, 0, none⟩ = some (.int .i64 s) ∧ wr.drew.cell? ⟨w.heap.size, 1, none⟩ = some (.int .i64 n) := ⟨c0, c1, c2, t0, t1⟩
   have HS : Hid (∀ w', Below wr.heap.size wr w' → w'.cell? ⟨b, o + m * 3, none⟩ = some (.int .i64 y.s) ∧ w'.cell? ⟨b, o + m * 3 + 1, none⟩ = some (.int .i64 y.n) ∧ w'.cell? ⟨b, o + m * 3 + 2, none⟩ = some (.int .i64 y.a) ∧ w'.cell? ⟨w.heap.size, 0, none⟩ = some (.int .i64 s) ∧ w'.cell? ⟨w.heap.size, 1, none⟩ = some (.int .i64 n)) :=
    fun w' h => ⟨(h.cell (p := ⟨b, _, none⟩) hbl).trans c0, (h.cell (p := ⟨b, _, none⟩) hbl).trans c1, (h.cell (p := ⟨b, _, none⟩) hbl).trans c2, (h.cell (p := ⟨w.heap.size, 0, none⟩) hTl).trans t0, (h.cell (p := ⟨w.heap.size, 1, none⟩) hTl).trans t1⟩
   have HBW := Lib.hid HB.out.size
   have HIFF := Lib.hid hiff
   clear hiff
   go_wp2_with fail
   rw [HM.out]
   refine wp_region_held_drew (S := fun w' => w'.cell? ⟨b, o + m * 3, none⟩ = some (.int .i64 y.s) ∧ w'.cell? ⟨b, o + m * 3 + 1, none⟩ = some (.int .i64 y.n) ∧ w'.cell? ⟨b, o + m * 3 + 2, none⟩ = some (.int .i64 y.a) ∧ w'.cell? ⟨w.heap.size, 0, none⟩ = some (.int .i64 s) ∧ w'.cell? ⟨w.heap.size, 1, none⟩ = some (.int .i64 n)) (by kernel_rfl) hS1 (fun hS0 => ?_)
   refine tkq 0 ?_
   refine tkq 1 ?_
   refine tkq 2 ?_
   refine tkq 3 ?_
   refine tkq 4 ?_
   refine tkq 5 ?_
   refine rdq 6 (fun K hK => ?_)
   go_simp
   go_at_call 60
   refine (HC.out y wr.drew).mono ?_
   rintro y w2 ⟨rfl, hb2⟩
   have HB2 := Lib.hid ((Below.refl wr.heap.size wr).drew.trans (hb2.mono (Nat.le_refl _)))
   clear hb2
   try go_wp2_with fail
   refine hK.out _ _ (HS.out w2 HB2.out) (fun hS => ?_)
   clear hK K
   try simp only [Act.put, List.getElem_toArray, List.getElem_cons_succ, List.getElem_cons_zero, List.setIfInBounds_toArray, List.set_cons_zero, List.set_cons_succ]
   refine tkq 7 ?_
   refine wpAnyH_done (by kernel_rfl) ?_ _
   by_cases hc : ord2 y.s y.n s n < 0
   ·have hmA := HIFF.out.1 hc
    have HBN := Lib.hid (HB.out.trans (HB2.out.mono HBW.out))
    go_wp2_with fail
    go_roundw
    case rel => exact ⟨m + 1, j, by go_num, rfl, by omega, hj, hjn, HBN⟩
    case measure => simp [intOf]; omega
   ·have hmA : ¬ m < A.length := fun h => hc (HIFF.out.2 h)
    have HBN := Lib.hid (HB.out.trans (HB2.out.mono HBW.out))
    go_wp2_with fail
    go_roundw
    case rel => exact ⟨i, m, rfl, rfl, hi, by omega, by omega, HBN⟩
    case measure => simp [intOf]; omega
  ·obtain rfl : i = A.length := by omega
   by_cases hm : A.length < xs.length
   ·have hnm : ((A.length : Nat) : Int) < (xs.length : Int) := by omega
    obtain ⟨b, o, rfl, hbl, hcs⟩ := (HR1.out.kept HB.out).at_ A.length hm
    have c0 : wr.cell? ⟨b, o + A.length * 3, none⟩ = some (.int .i64 xs[A.length].s) := hcs 0 (by decide)
    have c1 : wr.cell? ⟨b, o + A.length * 3 + 1, none⟩ = some (.int .i64 xs[A.length].n) := hcs 1 (by decide)
    have c2 : wr.cell? ⟨b, o + A.length * 3 + 2, none⟩ = some (.int .i64 xs[A.length].a) := hcs 2 (by decide)
    have hT := HT1.out.below HB.out HT1.out.lt
    have hTl := hT.lt
    have t0 : wr.cell? ⟨w.heap.size, 0, none⟩ = some (.int .i64 s) := hT.cell 0
    have t1 : wr.cell? ⟨w.heap.size, 1, none⟩ = some (.int .i64 n) := hT.cell 1
    have hiff := HA.out.found hm
    generalize xs[A.length] = y at c0 c1 c2 hiff
    have hiff : ord2 y.s y.n s n = 0 ↔ mid ≠ [] := hiff
    clear hT hcs
    have HFD : Hid ((ord2 y.s y.n s n == 0) = decide (mid ≠ [])) := by show _ = _; rw [Bool.eq_iff_iff]; simp [hiff]
    clear hiff
    have hS1 : wr.drew.cell? ⟨b, o + A.length * 3, none⟩ = some (.int .i64 y.s) ∧ wr.drew.cell? ⟨b, o + A.length * 3 + 1, none⟩ = some (.int .i64 y.n) ∧ wr.drew.cell? ⟨b, o + A.length * 3 + 2, none⟩ = some (.int .i64 y.a) ∧ wr.drew.cell? ⟨w.heap.size, 0, none⟩ = some (.int .i64 s) ∧ wr.drew.cell? ⟨w.heap.size, 1, none⟩ = some (.int .i64 n) := ⟨c0, c1, c2, t0, t1⟩
    have HS : Hid (∀ w', Below wr.heap.size wr w' → w'.cell? ⟨b, o + A.length * 3, none⟩ = some (.int .i64 y.s) ∧ w'.cell? ⟨b, o + A.length * 3 + 1, none⟩ = some (.int .i64 y.n) ∧ w'.cell? ⟨b, o + A.length * 3 + 2, none⟩ = some (.int .i64 y.a) ∧ w'.cell? ⟨w.heap.size, 0, none⟩ = some (.int .i64 s) ∧ w'.cell? ⟨w.heap.size, 1, none⟩ = some (.int .i64 n)) :=
     fun w' h => ⟨(h.cell (p := ⟨b, _, none⟩) hbl).trans c0, (h.cell (p := ⟨b, _, none⟩) hbl).trans c1, (h.cell (p := ⟨b, _, none⟩) hbl).trans c2, (h.cell (p := ⟨w.heap.size, 0, none⟩) hTl).trans t0, (h.cell (p := ⟨w.heap.size, 1, none⟩) hTl).trans t1⟩
    have HBW := Lib.hid HB.out.size
    go_wp2_with fail
    refine wp_region_held_drew (S := fun w' => w'.cell? ⟨b, o + A.length * 3, none⟩ = some (.int .i64 y.s) ∧ w'.cell? ⟨b, o + A.length * 3 + 1, none⟩ = some (.int .i64 y.n) ∧ w'.cell? ⟨b, o + A.length * 3 + 2, none⟩ = some (.int .i64 y.a) ∧ w'.cell? ⟨w.heap.size, 0, none⟩ = some (.int .i64 s) ∧ w'.cell? ⟨w.heap.size, 1, none⟩ = some (.int .i64 n)) (by kernel_rfl) hS1 (fun hS0 => ?_)
    refine tkq 0 ?_
    refine tkq 1 ?_
    refine tkq 2 ?_
    refine tkq 3 ?_
    refine tkq 4 ?_
    refine tkq 5 ?_
    refine tkq 6 ?_
    refine tkq 7 ?_
    refine tkq 8 ?_
    refine tkq 9 ?_
    refine tkq 10 ?_
    refine rdq 11 (fun K hK => ?_)
    go_simp
    go_at_call 60
    refine (HC.out y wr.drew).mono ?_
    rintro y w2 ⟨rfl, hb2⟩
    have HB2 := Lib.hid ((Below.refl wr.heap.size wr).drew.trans (hb2.mono (Nat.le_refl _)))
    clear hb2
    try go_wp2_with fail
    refine hK.out _ _ (HS.out w2 HB2.out) (fun hS => ?_)
    clear hK K
    try simp only [Act.put, List.getElem_toArray, List.getElem_cons_succ, List.getElem_cons_zero, List.setIfInBounds_toArray, List.set_cons_zero, List.set_cons_succ]
    refine tkq 12 ?_
    refine tkq 13 ?_
    refine tkq 14 ?_
    refine tkq 15 ?_
    refine wpAnyH_done (by kernel_rfl) ?_ _
    rw [HFD.out]
    go_wp2_with fail
    go_ret2
    exact ⟨rfl, HB1.out.trans ((HB.out.trans (HB2.out.mono HBW.out)).mono HB1.out.size)⟩
   ·have hnm : ¬ ((A.length : Nat) : Int) < (xs.length : Int) := by omega
    have hmid := HA.out.notFound hm
    have HFD : Hid (decide (mid ≠ []) = false) := by show _ = _; rw [hmid]; simp
    clear hmid
    go_wp2_with fail
    refine wp_region_held_drew (S := fun w' => True) (by kernel_rfl) trivial (fun hS0 => ?_)
    refine tkq 0 ?_
    refine tkq 1 ?_
    refine tkq 2 ?_
    refine tkq 3 ?_
    refine tkq 4 ?_
    refine tnq 5 ?_
    refine tnq 6 ?_
    refine tnq 7 ?_
    refine tnq 8 ?_
    refine tnq 9 ?_
    refine tnq 10 ?_
    refine tnq 11 ?_
    refine tnq 12 ?_
    refine tkq 13 ?_
    refine tkq 14 ?_
    refine tkq 15 ?_
    refine wpAnyH_done (by kernel_rfl) ?_ _
    go_wp2_with fail
    go_ret2
    exact ⟨by rw [HFD.out]; rfl, HB1.out.trans (HB.out.drew.mono HB1.out.size)⟩
end Go.Proofs.Ytbpfbebebppleaa
namespace Go.Proofs.Ytbpfbebebppleaa
open Go.RowKit
def zeroVO : Value := .agg #[.int .i64 0, .int .i64 0, .int .i64 0]
theorem eltO : EltT encO Try.prog 25 92 zeroVO 24 := eltT_mk Try.underlying25 (by kernel_rfl)
set_option maxHeartbeats 1000000 in
set_option maxRecDepth 100000 in
theorem growO_nil (n : Nat) (w : World) (hn : n ≤ 1000000) :
  Calls Try.prog 78 #[.slice none 0 0, .int .i64 n] w fun e w' => ∃ v, e = .returned v ∧ OwnT encO w' w.heap.size 92 v [] ∧ Below w.heap.size w w' := by
 obtain ⟨i0, _, hi, hz, hs, hby⟩ := eltO
 by_cases h0 : n = 0
 ·subst h0
  go_enter Try.func78, Try.ntmps78
  go_wp2
  go_ret
  exact ⟨_, rfl, OwnT.nil_ encO _ _ _, Below.refl _ _⟩
 ·have hpos : (0 : Int) < (n : Int) := by omega
  have happ := Lib.run_append_nil_zeros (P := Try.prog) w 25 3 25 92 i0 zeroVO .i64 .i64 Try.underlying25 Try.underlying3 hi hz n (by omega) (by rw [hs]; decide) (by omega) (by rw [hby]; omega)
  generalize hcap : grownCap w n 0 92 = cap2 at happ
  have hcapge : n ≤ cap2 := by rw [← hcap]; exact grownCap_ge w _ 0 92
  have hcaple : cap2 ≤ maxLen := by rw [← hcap]; exact grownCap_le_maxLen w _ 0 92 (by unfold maxLen; omega)
  generalize hZ : (Builtin.zeroCells zeroVO.cells n ++ Builtin.zeroCells zeroVO.cells (cap2 - n)) = Z at happ
  have hZs : Z.size = cap2 * 3 := by rw [← hZ]; simp [Builtin.zeroCells, Value.cells, zeroVO]; omega
  clear hcap hZ h0
  have HG := Lib.hid hcapge
  have HL := Lib.hid hcaple
  have HS := Lib.hid hZs
  clear hcapge hcaple hZs
  go_enter Try.func78, Try.ntmps78
  go_wp2_with (at_builtin; refine Lib.wpList_append_run _ rfl _ _ _ _ rfl _ _ rfl rfl _ _ happ ?_)
  go_ret
  exact ⟨_, rfl, ⟨by simp, .inr ⟨w.heap.size, cap2, Z, rfl, Nat.le_refl _, heap_alloc_new w.drew _, Nat.zero_le _, HL.out, HS.out, by simp⟩⟩, (Below.refl _ _).drew.alloc (Nat.le_refl _) _⟩
set_option maxHeartbeats 2000000 in
set_option maxRecDepth 100000 in
theorem concatO_any (b o m c : Nat) (vs : List Value) (pss : List (List Ord)) (w : World) (hR : RowsT encO w b o vs pss) (hm : m = pss.length) (hmc : m ≤ 1000) (hbig : pss.flatten.length ≤ 100000) :
  Calls Try.prog 75 #[.slice (some ⟨b, o, none⟩) m c] w fun e w' => ∃ v, e = .returned v ∧ OwnT encO w' w.heap.size 92 v pss.flatten ∧ Below w.heap.size w w' := by
 have HR := Lib.hid hR.2
 have HM := Lib.hid hm
 have HSB : Hid (∀ k, (catT pss k).length ≤ 100000) := fun k => Nat.le_trans (catT_le pss k) hbig
 clear hR hm
 go_enter Try.func75, Try.ntmps75
 go_wp2
 go_loop [3, 11] (fun s i => ∃ (k : Nat), k ≤ m ∧ i = .int .i64 k ∧ s = .int .i64 ((catT pss k).length : Nat)) (fun _ i => m - (intOf i).toNat)
 case atStart => exact ⟨0, by omega, rfl, rfl⟩
 case round =>
  obtain ⟨k, hk, rfl, rfl⟩ := hrel
  by_cases hlt : k < m
  ·obtain ⟨hc, hrow⟩ := HR.out k (by rw [← HM.out]; exact hlt)
   obtain ⟨p1, c1, hv⟩ := hrow.shape
   rw [hv] at hc
   have hs := Lib.hid (catT_len pss k (by rw [← HM.out]; exact hlt))
   have hsb := HSB.out (k + 1)
   rw [hs.out] at hsb
   clear hv hrow
   generalize (pss.getD k []).length = L at *
   go_wp2
   go_round
   case rel => exact ⟨k + 1, by omega, by go_num, by rw [hs.out]; go_num⟩
   case measure => simp [intOf]; omega
  ·have hkm : (m : Int) ≤ (k : Int) := by omega
   have hsb := HSB.out k
   go_wp2_with fail
   refine (growO_nil _ _ (by omega)).mono ?_
   rintro e w1 ⟨v1, rfl, ho1, hb1⟩
   have hstart : CatRelT encO 92 w pss 0 v1 w1 := ⟨by simpa [catT] using ho1, hb1⟩
   have HST := Lib.hid hstart
   clear hstart ho1 hb1
   go_wp2_with fail
   go_loopw [6, 27] (fun v i wr => ∃ (j : Nat), j ≤ m ∧ i = .int .i64 j ∧ Hid (CatRelT encO 92 w pss j v wr)) (fun _ i _ => m - (intOf i).toNat)
   case atStart => exact ⟨0, by omega, rfl, HST⟩
   case round =>
    obtain ⟨j, hj, rfl, HJ⟩ := hrel
    by_cases hlt : j < m
    ·have hlz : j < pss.length := by rw [← HM.out]; exact hlt
     obtain ⟨hc, hrow⟩ := HR.out j hlz
     obtain ⟨p1, c1, hv⟩ := hrow.shape
     have hbl := World.block_lt_of_cell? w _ hc
     have HRW := Lib.hid hrow
     rw [hv] at hc HRW
     have hcw := (HJ.out.2.cell (p := ⟨b, o + j, none⟩) hbl).trans hc
     have HLEN : Hid ((catT pss j).length + (pss.getD j []).length ≤ 100000) := by have h := HSB.out (j + 1); rw [catT_len pss j hlz] at h; exact h
     have HLZ := Lib.hid hlz
     clear hv hrow hc hbl hlz
     obtain ⟨p0, c0, hv0⟩ := HJ.out.1.form
     have HJ2 := HJ.out
     rw [hv0] at HJ2
     have HJ3 := Lib.hid HJ2
     subst hv0
     clear HJ2
     go_wp2_with (at_builtin; go_loud (refine wpList_append_t rfl _ _ 25 rfl 92 zeroVO 24 w.heap.size eltO rfl (by decide) _ _ (catT pss j) (pss.getD j []) rfl rfl HJ3.out.1 (HRW.out.kept (HJ3.out.2)) (by have h : _ ≤ _ := HLEN.out; omega) HJ3.out.2.size (catT pss (j + 1)) ((catT pss (j + 1)).length) (catT_succ pss j HLZ.out) rfl ?_; intro p2 c2 w2 ho2 _ hb2; have HN := Lib.hid (show CatRelT encO 92 w pss (j + 1) _ w2 from ⟨ho2, HJ3.out.2.trans hb2⟩); clear ho2 hb2))
     go_roundw
     case rel => exact ⟨j + 1, by omega, by go_num, HN⟩
     case measure => simp [intOf]; omega
    ·have hjm : (m : Int) ≤ (j : Int) := by omega
     have hjz : j = pss.length := by rw [← HM.out]; omega
     have hE := HJ.out
     rw [hjz] at hE
     have HE := Lib.hid hE
     clear hjz hE
     go_wp2
     go_ret
     exact ⟨_, rfl, by have := HE.out.1; unfold catT at this; rwa [List.take_length] at this, HE.out.2⟩
end Go.Proofs.Ytbpfbebebppleaa
namespace Go.Proofs.Ytbpfbebebppleaa
open Go.RowKit
set_option maxHeartbeats 1000000 in
theorem findO_any (w : World) (me : Int) (vi vo : Value) (xs A mid B : List Ord) (s n : Int) (hr : TRow encO w vo xs) (hA : AroundF posO ⟨s, n, 0⟩ xs A mid B) (hn : xs.length ≤ 2000) :
  Calls Try.prog 41 #[bookV me vi vo, idV s n] w fun x w' => x = .returned (.tuple #[.int .i64 A.length, .bool (decide (mid ≠ []))]) ∧ Below w.heap.size w w' := by
 have HS := Lib.hid (fun (w' : World) (hb : Below w.heap.size w w') => searchO_any w' vo xs A mid B s n (hr.kept hb) hA hn)
 clear hr hA hn
 generalize decide (mid ≠ []) = fnd at HS ⊢
 unfold bookV idV at *
 have h2 : Below w.heap.size w ((w.alloc (.cells #[.int .i64 me, vi, vo] 27)).alloc (.cells #[.int .i64 s, .int .i64 n] 36)) := (oneB w _).alloc (by simp) _
 have H2 := Lib.hid h2
 clear h2
 go_enter Try.func41, Try.ntmps41
 go_wp2_with fail
 refine (HS.out _ H2.out).mono ?_
 rintro y w1 ⟨rfl, hb1⟩
 have HB := ktq H2 hb1
 clear hb1
 go_wp2_with fail
 go_ret2
 exact ⟨rfl, HB.out⟩
theorem concat3O (W : World) (b : Nat) (va vb vc : Value) (A C : List Ord) (x : Ord) (t : TypeId) (hB : Blk W b #[va, vb, vc] t) (hA : TRow encO W va A) (hX : TRow encO W vb [x]) (hC : TRow encO W vc C) (hn : A.length + C.length ≤ 5000) :
  Calls Try.prog 75 #[.slice (some ⟨b, 0, none⟩) 3 3] W fun e w' => ∃ v, e = .returned v ∧ OwnT encO w' W.heap.size 92 v (A ++ [x] ++ C) ∧ Below W.heap.size W w' := by
 have h := concatO_any b 0 3 3 [va, vb, vc] [A, [x], C] W (RowsT.three hB rfl hA hX hC) rfl (by omega) (by simp; omega)
 rwa [show [A, [x], C].flatten = A ++ [x] ++ C by simp] at h
set_option linter.unusedSimpArgs false in
set_option maxHeartbeats 4000000 in
set_option maxRecDepth 100000 in
theorem withO_fc (w : World) (pv : Option Addr) (cv : Nat) (xs A B : List Ord) (q x : Ord) (hr : TRow encO w (.slice pv xs.length cv) xs) (hall : xs = A ++ [q] ++ B) (hn : xs.length ≤ 2000) (hcv : cv - A.length = 1) :
  Calls Try.prog 69 #[.slice pv xs.length cv, .int .i64 A.length, .bool true, x.v] w fun e w' => ∃ v', e = .returned v' ∧ OwnT encO w' w.heap.size 92 v' (A ++ [x] ++ B) ∧ Below w.heap.size w w' := by
 have hlen : xs.length = A.length + 1 + B.length := by rw [hall]; simp; omega
 have hAt : xs.take A.length = A := by rw [hall, List.append_assoc, List.take_left]
 have hBd : xs.drop (A.length + 1) = B := by rw [hall, List.drop_left' (by simp)]
 have hpc : xs.length ≤ cv := hr.cap
 have HLEN := Lib.hid hlen
 have HR := Lib.hid hr
 have HAT := Lib.hid hAt
 have HBD := Lib.hid hBd
 obtain ⟨b, o, hpv⟩ : ∃ b o, pv = some ⟨b, o, none⟩ := by obtain ⟨b, o, h, _⟩ := hr.at_ A.length (by omega); exact ⟨b, o, h⟩
 subst hpv
 clear hr hall hAt hBd
 unfold Ord.v
 have hcap1 : ((A.length : Nat) : Int) ≤ (xs.length : Int) := by omega
 have hcap2 : (xs.length : Int) ≤ (cv : Int) := by omega
 have hcap3 : ((A.length : Nat) : Int) ≤ (cv : Int) := by omega
 have hcn : A.length ≤ cv := by omega
 have hcap4 : ((A.length : Nat) : Int) < (xs.length : Int) := by omega
 have hcap5 : 1 ≤ xs.length - A.length := by omega
 have hcap6 : 1 ≤ cv - A.length := by omega
 have hcap7 : ¬ cv - A.length = 0 := by omega
 have hbl : A.length + B.length ≤ 5000 := by omega
 clear hlen
 go_enter Try.func69, Try.ntmps69
 go_wp2_with fail
 generalize hW1 : w.alloc (.cells #[.int .i64 x.s, .int .i64 x.n, .int .i64 x.a] 92) = W1
 have hB1 : Below w.heap.size w W1 := by rw [← hW1]; exact oneB w _
 have hT1 : Blk W1 w.heap.size #[.int .i64 x.s, .int .i64 x.n, .int .i64 x.a] 92 := by rw [← hW1]; exact Blk.new w _ _
 have HB1 := Lib.hid hB1
 have HT1 := Lib.hid hT1
 have HRW := Lib.hid (HR.out.kept hB1)
 have ha2 := HRW.out.take A.length (by omega)
 rw [HAT.out] at ha2
 have HA2 := Lib.hid ha2
 clear hW1 hB1 hT1 ha2 HR
 refine wp_region_held_drew (S := fun w' => w'.cell? ⟨w.heap.size, 0, none⟩ = some (.int .i64 x.s) ∧ w'.cell? ⟨w.heap.size, 1, none⟩ = some (.int .i64 x.n) ∧ w'.cell? ⟨w.heap.size, 2, none⟩ = some (.int .i64 x.a)) (by kernel_rfl) ⟨HT1.out.cell 0, HT1.out.cell 1, HT1.out.cell 2⟩ (fun hS0 => ?_)
 refine tkq 0 ?_
 refine tkq 1 ?_
 refine tkq 2 ?_
 refine tkq 3 ?_
 refine tkq 5 ?_
 refine rdq 4 (fun K hK => ?_)
 go_simp
 have HT2 := Lib.hid (HT1.out.alloc (.cells #[.int .i64 x.s, .int .i64 x.n, .int .i64 x.a] 92)).drew
 have HB2 := Lib.hid (oneB W1 (.cells #[.int .i64 x.s, .int .i64 x.n, .int .i64 x.a] 92)).drew
 have HX2 := Lib.hid (TRow.one_ encO x (Blk.new W1 #[.int .i64 x.s, .int .i64 x.n, .int .i64 x.a] 92).drew rfl (Nat.le_refl 1))
 generalize hW2 : (W1.alloc (.cells #[.int .i64 x.s, .int .i64 x.n, .int .i64 x.a] 92)).drew = W2 at *
 refine hK.out _ _ ⟨HT2.out.cell 0, HT2.out.cell 1, HT2.out.cell 2⟩ (fun hS => ?_)
 clear hK K
 try simp only [Act.put, List.getElem_toArray, List.getElem_cons_succ, List.getElem_cons_zero, List.setIfInBounds_toArray, List.set_cons_zero, List.set_cons_succ]
 have HS2 : Hid (W2.heap.size = W1.heap.size + 1) := by show _ = _; rw [← hW2]; simp
 clear hW2
 refine rdq 6 (fun K hK => ?_)
 go_simp
 refine hK.out _ _ (by first | exact ⟨(HT2.out.alloc _).cell 0, (HT2.out.alloc _).cell 1, (HT2.out.alloc _).cell 2⟩ | exact ⟨(HT2.out.alloc _).drew.cell 0, (HT2.out.alloc _).drew.cell 1, (HT2.out.alloc _).drew.cell 2⟩) (fun hS => ?_)
 clear hK K
 try simp only [Act.put, List.getElem_toArray, List.getElem_cons_succ, List.getElem_cons_zero, List.setIfInBounds_toArray, List.set_cons_zero, List.set_cons_succ]
 refine rdq 7 (fun K hK => ?_)
 go_simp
 go_at_call 75
 refine (concat3O _ _ _ _ _ A B x _ (Blk.new' W2 _ _ rfl) ((HA2.out.kept HB2.out).kept (oneB W2 _)) (HX2.out.kept (oneB W2 _)) ?hC hbl).mono ?_
 case hC =>
  refine TRow.kept ?_ (oneB W2 _)
  rw [← HBD.out]
  have hlen : _ = _ := HLEN.out
  exact (HRW.out.kept HB2.out).tail (A.length + 1) (by omega) (by omega) (by omega) (fun b' o' e h => by first | (cases e; simp; done) | (cases e; simp; rw [addAt]; done) | (cases e; simp; omega) | (subst e; simp; omega) | (subst e; simp; rw [addAt]; done) | omega)
 rintro y w3 ⟨v3, rfl, ho3, hb3⟩
 have HO3 := Lib.hid ho3
 have HB3 := Lib.hid ((HB2.out.trans ((oneB W2 _).mono HB2.out.size)).trans (hb3.mono (by have := HS2.out; simp; omega)))
 clear ho3 hb3
 try go_wp2_with fail
 refine hK.out _ _ (⟨(HT1.out.below HB3.out HT1.out.lt).cell 0, (HT1.out.below HB3.out HT1.out.lt).cell 1, (HT1.out.below HB3.out HT1.out.lt).cell 2⟩) (fun hS => ?_)
 clear hK K
 try simp only [Act.put, List.getElem_toArray, List.getElem_cons_succ, List.getElem_cons_zero, List.setIfInBounds_toArray, List.set_cons_zero, List.set_cons_succ]
 refine tkq 8 ?_
 refine wpAnyH_done (by kernel_rfl) ?_ _
 obtain ⟨p3, c3, hv3⟩ := HO3.out.form
 generalize (A ++ [x] ++ B).length = n3 at hv3
 subst hv3
 go_wp2_with fail
 go_ret
 exact ⟨_, rfl, HO3.out.less (by have := HS2.out; have := HB1.out.size; simp; omega), HB1.out.trans (HB3.out.mono HB1.out.size)⟩
set_option linter.unusedSimpArgs false in
set_option maxHeartbeats 4000000 in
set_option maxRecDepth 100000 in
theorem withO_fo (w : World) (pv : Option Addr) (cv : Nat) (xs A B : List Ord) (q x : Ord) (hr : TRow encO w (.slice pv xs.length cv) xs) (hall : xs = A ++ [q] ++ B) (hn : xs.length ≤ 2000) (hcv : ¬ cv - A.length = 1) :
  Calls Try.prog 69 #[.slice pv xs.length cv, .int .i64 A.length, .bool true, x.v] w fun e w' => ∃ v', e = .returned v' ∧ OwnT encO w' w.heap.size 92 v' (A ++ [x] ++ B) ∧ Below w.heap.size w w' := by
 have hlen : xs.length = A.length + 1 + B.length := by rw [hall]; simp; omega
 have hAt : xs.take A.length = A := by rw [hall, List.append_assoc, List.take_left]
 have hBd : xs.drop (A.length + 1) = B := by rw [hall, List.drop_left' (by simp)]
 have hpc : xs.length ≤ cv := hr.cap
 have HLEN := Lib.hid hlen
 have HR := Lib.hid hr
 have HAT := Lib.hid hAt
 have HBD := Lib.hid hBd
 obtain ⟨b, o, hpv⟩ : ∃ b o, pv = some ⟨b, o, none⟩ := by obtain ⟨b, o, h, _⟩ := hr.at_ A.length (by omega); exact ⟨b, o, h⟩
 subst hpv
 clear hr hall hAt hBd
 unfold Ord.v
 have hcap1 : ((A.length : Nat) : Int) ≤ (xs.length : Int) := by omega
 have hcap2 : (xs.length : Int) ≤ (cv : Int) := by omega
 have hcap3 : ((A.length : Nat) : Int) ≤ (cv : Int) := by omega
 have hcn : A.length ≤ cv := by omega
 have hcap4 : ((A.length : Nat) : Int) < (xs.length : Int) := by omega
 have hcap5 : 1 ≤ xs.length - A.length := by omega
 have hcap6 : 1 ≤ cv - A.length := by omega
 have hcap7 : ¬ cv - A.length = 0 := by omega
 have hbl : A.length + B.length ≤ 5000 := by omega
 clear hlen
 go_enter Try.func69, Try.ntmps69
 go_wp2_with fail
 generalize hW1 : w.alloc (.cells #[.int .i64 x.s, .int .i64 x.n, .int .i64 x.a] 92) = W1
 have hB1 : Below w.heap.size w W1 := by rw [← hW1]; exact oneB w _
 have hT1 : Blk W1 w.heap.size #[.int .i64 x.s, .int .i64 x.n, .int .i64 x.a] 92 := by rw [← hW1]; exact Blk.new w _ _
 have HB1 := Lib.hid hB1
 have HT1 := Lib.hid hT1
 have HRW := Lib.hid (HR.out.kept hB1)
 have ha2 := HRW.out.take A.length (by omega)
 rw [HAT.out] at ha2
 have HA2 := Lib.hid ha2
 clear hW1 hB1 hT1 ha2 HR
 refine wp_region_held_drew (S := fun w' => w'.cell? ⟨w.heap.size, 0, none⟩ = some (.int .i64 x.s) ∧ w'.cell? ⟨w.heap.size, 1, none⟩ = some (.int .i64 x.n) ∧ w'.cell? ⟨w.heap.size, 2, none⟩ = some (.int .i64 x.a)) (by kernel_rfl) ⟨HT1.out.cell 0, HT1.out.cell 1, HT1.out.cell 2⟩ (fun hS0 => ?_)
 refine tkq 0 ?_
 refine tkq 1 ?_
 refine tkq 2 ?_
 refine tkq 3 ?_
 refine tkq 5 ?_
 refine rdq 4 (fun K hK => ?_)
 go_simp
 have HT2 := Lib.hid (HT1.out.alloc (.cells #[.int .i64 x.s, .int .i64 x.n, .int .i64 x.a] 92)).drew
 have HB2 := Lib.hid (oneB W1 (.cells #[.int .i64 x.s, .int .i64 x.n, .int .i64 x.a] 92)).drew
 have HX2 := Lib.hid (TRow.one_ encO x (Blk.new W1 #[.int .i64 x.s, .int .i64 x.n, .int .i64 x.a] 92).drew rfl (Nat.le_refl 1))
 generalize hW2 : (W1.alloc (.cells #[.int .i64 x.s, .int .i64 x.n, .int .i64 x.a] 92)).drew = W2 at *
 refine hK.out _ _ ⟨HT2.out.cell 0, HT2.out.cell 1, HT2.out.cell 2⟩ (fun hS => ?_)
 clear hK K
 try simp only [Act.put, List.getElem_toArray, List.getElem_cons_succ, List.getElem_cons_zero, List.setIfInBounds_toArray, List.set_cons_zero, List.set_cons_succ]
 have HS2 : Hid (W2.heap.size = W1.heap.size + 1) := by show _ = _; rw [← hW2]; simp
 clear hW2
 refine rdq 6 (fun K hK => ?_)
 go_simp
 refine hK.out _ _ (by first | exact ⟨(HT2.out.alloc _).cell 0, (HT2.out.alloc _).cell 1, (HT2.out.alloc _).cell 2⟩ | exact ⟨(HT2.out.alloc _).drew.cell 0, (HT2.out.alloc _).drew.cell 1, (HT2.out.alloc _).drew.cell 2⟩) (fun hS => ?_)
 clear hK K
 try simp only [Act.put, List.getElem_toArray, List.getElem_cons_succ, List.getElem_cons_zero, List.setIfInBounds_toArray, List.set_cons_zero, List.set_cons_succ]
 refine rdq 7 (fun K hK => ?_)
 go_simp
 go_at_call 75
 refine (concat3O _ _ _ _ _ A B x _ (Blk.new' W2 _ _ rfl) ((HA2.out.kept HB2.out).kept (oneB W2 _)) (HX2.out.kept (oneB W2 _)) ?hC hbl).mono ?_
 case hC =>
  refine TRow.kept ?_ (oneB W2 _)
  rw [← HBD.out]
  have hlen : _ = _ := HLEN.out
  exact (HRW.out.kept HB2.out).tail (A.length + 1) (by omega) (by omega) (by omega) (fun b' o' e h => by first | (cases e; simp; done) | (cases e; simp; rw [addAt]; done) | (cases e; simp; omega) | (subst e; simp; omega) | (subst e; simp; rw [addAt]; done) | omega)
 rintro y w3 ⟨v3, rfl, ho3, hb3⟩
 have HO3 := Lib.hid ho3
 have HB3 := Lib.hid ((HB2.out.trans ((oneB W2 _).mono HB2.out.size)).trans (hb3.mono (by have := HS2.out; simp; omega)))
 clear ho3 hb3
 try go_wp2_with fail
 refine hK.out _ _ (⟨(HT1.out.below HB3.out HT1.out.lt).cell 0, (HT1.out.below HB3.out HT1.out.lt).cell 1, (HT1.out.below HB3.out HT1.out.lt).cell 2⟩) (fun hS => ?_)
 clear hK K
 try simp only [Act.put, List.getElem_toArray, List.getElem_cons_succ, List.getElem_cons_zero, List.setIfInBounds_toArray, List.set_cons_zero, List.set_cons_succ]
 refine tkq 8 ?_
 refine wpAnyH_done (by kernel_rfl) ?_ _
 obtain ⟨p3, c3, hv3⟩ := HO3.out.form
 generalize (A ++ [x] ++ B).length = n3 at hv3
 subst hv3
 go_wp2_with fail
 go_ret
 exact ⟨_, rfl, HO3.out.less (by have := HS2.out; have := HB1.out.size; simp; omega), HB1.out.trans (HB3.out.mono HB1.out.size)⟩
set_option linter.unusedSimpArgs false in
set_option maxHeartbeats 4000000 in
set_option maxRecDepth 100000 in
theorem withO_nc (w : World) (pv : Option Addr) (cv : Nat) (xs A B : List Ord) (x : Ord) (hr : TRow encO w (.slice pv xs.length cv) xs) (hall : xs = A ++ [] ++ B) (hn : xs.length ≤ 2000) (hcv : cv - A.length = 0) :
  Calls Try.prog 69 #[.slice pv xs.length cv, .int .i64 A.length, .bool false, x.v] w fun e w' => ∃ v', e = .returned v' ∧ OwnT encO w' w.heap.size 92 v' (A ++ [x] ++ B) ∧ Below w.heap.size w w' := by
 have hlen : xs.length = A.length + 0 + B.length := by rw [hall]; simp
 have hAt : xs.take A.length = A := by rw [hall, List.append_assoc, List.take_left]
 have hBd : xs.drop (A.length + 0) = B := by rw [hall, List.drop_left' (by simp)]
 have hpc : xs.length ≤ cv := hr.cap
 have HLEN := Lib.hid hlen
 have HR := Lib.hid hr
 have HAT := Lib.hid hAt
 have HBD := Lib.hid hBd
 clear hr hall hAt hBd
 unfold Ord.v
 have hcap1 : ((A.length : Nat) : Int) ≤ (xs.length : Int) := by omega
 have hcap2 : (xs.length : Int) ≤ (cv : Int) := by omega
 have hcap3 : ((A.length : Nat) : Int) ≤ (cv : Int) := by omega
 have hcn : A.length ≤ cv := by omega
 have hbl : A.length + B.length ≤ 5000 := by omega
 clear hlen
 go_enter Try.func69, Try.ntmps69
 go_wp2_with fail
 generalize hW1 : w.alloc (.cells #[.int .i64 x.s, .int .i64 x.n, .int .i64 x.a] 92) = W1
 have hB1 : Below w.heap.size w W1 := by rw [← hW1]; exact oneB w _
 have hT1 : Blk W1 w.heap.size #[.int .i64 x.s, .int .i64 x.n, .int .i64 x.a] 92 := by rw [← hW1]; exact Blk.new w _ _
 have HB1 := Lib.hid hB1
 have HT1 := Lib.hid hT1
 have HRW := Lib.hid (HR.out.kept hB1)
 have ha2 := HRW.out.take A.length (by omega)
 rw [HAT.out] at ha2
 have HA2 := Lib.hid ha2
 clear hW1 hB1 hT1 ha2 HR
 refine wp_region_held_drew (S := fun w' => w'.cell? ⟨w.heap.size, 0, none⟩ = some (.int .i64 x.s) ∧ w'.cell? ⟨w.heap.size, 1, none⟩ = some (.int .i64 x.n) ∧ w'.cell? ⟨w.heap.size, 2, none⟩ = some (.int .i64 x.a)) (by kernel_rfl) ⟨HT1.out.cell 0, HT1.out.cell 1, HT1.out.cell 2⟩ (fun hS0 => ?_)
 refine tkq 0 ?_
 refine tkq 1 ?_
 refine tkq 2 ?_
 refine tkq 3 ?_
 refine tkq 5 ?_
 refine rdq 4 (fun K hK => ?_)
 go_simp
 have HT2 := Lib.hid (HT1.out.alloc (.cells #[.int .i64 x.s, .int .i64 x.n, .int .i64 x.a] 92)).drew
 have HB2 := Lib.hid (oneB W1 (.cells #[.int .i64 x.s, .int .i64 x.n, .int .i64 x.a] 92)).drew
 have HX2 := Lib.hid (TRow.one_ encO x (Blk.new W1 #[.int .i64 x.s, .int .i64 x.n, .int .i64 x.a] 92).drew rfl (Nat.le_refl 1))
 generalize hW2 : (W1.alloc (.cells #[.int .i64 x.s, .int .i64 x.n, .int .i64 x.a] 92)).drew = W2 at *
 refine hK.out _ _ ⟨HT2.out.cell 0, HT2.out.cell 1, HT2.out.cell 2⟩ (fun hS => ?_)
 clear hK K
 try simp only [Act.put, List.getElem_toArray, List.getElem_cons_succ, List.getElem_cons_zero, List.setIfInBounds_toArray, List.set_cons_zero, List.set_cons_succ]
 have HS2 : Hid (W2.heap.size = W1.heap.size + 1) := by show _ = _; rw [← hW2]; simp
 clear hW2
 refine rdq 6 (fun K hK => ?_)
 go_simp
 refine hK.out _ _ (by first | exact ⟨(HT2.out.alloc _).cell 0, (HT2.out.alloc _).cell 1, (HT2.out.alloc _).cell 2⟩ | exact ⟨(HT2.out.alloc _).drew.cell 0, (HT2.out.alloc _).drew.cell 1, (HT2.out.alloc _).drew.cell 2⟩) (fun hS => ?_)
 clear hK K
 try simp only [Act.put, List.getElem_toArray, List.getElem_cons_succ, List.getElem_cons_zero, List.setIfInBounds_toArray, List.set_cons_zero, List.set_cons_succ]
 refine rdq 7 (fun K hK => ?_)
 go_simp
 go_at_call 75
 refine (concat3O _ _ _ _ _ A B x _ (Blk.new' W2 _ _ rfl) ((HA2.out.kept HB2.out).kept (oneB W2 _)) (HX2.out.kept (oneB W2 _)) ?hC hbl).mono ?_
 case hC =>
  refine TRow.kept ?_ (oneB W2 _)
  rw [← HBD.out]
  have hlen : _ = _ := HLEN.out
  exact (HRW.out.kept HB2.out).tail (A.length + 0) (by omega) (by omega) (by omega) (fun b' o' e h => by first | (cases e; simp; done) | (cases e; simp; rw [addAt]; done) | (cases e; simp; omega) | (subst e; simp; omega) | (subst e; simp; rw [addAt]; done) | omega)
 rintro y w3 ⟨v3, rfl, ho3, hb3⟩
 have HO3 := Lib.hid ho3
 have HB3 := Lib.hid ((HB2.out.trans ((oneB W2 _).mono HB2.out.size)).trans (hb3.mono (by have := HS2.out; simp; omega)))
 clear ho3 hb3
 try go_wp2_with fail
 refine hK.out _ _ (⟨(HT1.out.below HB3.out HT1.out.lt).cell 0, (HT1.out.below HB3.out HT1.out.lt).cell 1, (HT1.out.below HB3.out HT1.out.lt).cell 2⟩) (fun hS => ?_)
 clear hK K
 try simp only [Act.put, List.getElem_toArray, List.getElem_cons_succ, List.getElem_cons_zero, List.setIfInBounds_toArray, List.set_cons_zero, List.set_cons_succ]
 refine tkq 8 ?_
 refine wpAnyH_done (by kernel_rfl) ?_ _
 obtain ⟨p3, c3, hv3⟩ := HO3.out.form
 generalize (A ++ [x] ++ B).length = n3 at hv3
 subst hv3
 go_wp2_with fail
 go_ret
 exact ⟨_, rfl, HO3.out.less (by have := HS2.out; have := HB1.out.size; simp; omega), HB1.out.trans (HB3.out.mono HB1.out.size)⟩
set_option linter.unusedSimpArgs false in
set_option maxHeartbeats 4000000 in
set_option maxRecDepth 100000 in
theorem withO_no (w : World) (pv : Option Addr) (cv : Nat) (xs A B : List Ord) (x : Ord) (hr : TRow encO w (.slice pv xs.length cv) xs) (hall : xs = A ++ [] ++ B) (hn : xs.length ≤ 2000) (hcv : ¬ cv - A.length = 0) :
  Calls Try.prog 69 #[.slice pv xs.length cv, .int .i64 A.length, .bool false, x.v] w fun e w' => ∃ v', e = .returned v' ∧ OwnT encO w' w.heap.size 92 v' (A ++ [x] ++ B) ∧ Below w.heap.size w w' := by
 have hlen : xs.length = A.length + 0 + B.length := by rw [hall]; simp
 have hAt : xs.take A.length = A := by rw [hall, List.append_assoc, List.take_left]
 have hBd : xs.drop (A.length + 0) = B := by rw [hall, List.drop_left' (by simp)]
 have hpc : xs.length ≤ cv := hr.cap
 have HLEN := Lib.hid hlen
 have HR := Lib.hid hr
 have HAT := Lib.hid hAt
 have HBD := Lib.hid hBd
 clear hr hall hAt hBd
 unfold Ord.v
 have hcap1 : ((A.length : Nat) : Int) ≤ (xs.length : Int) := by omega
 have hcap2 : (xs.length : Int) ≤ (cv : Int) := by omega
 have hcap3 : ((A.length : Nat) : Int) ≤ (cv : Int) := by omega
 have hcn : A.length ≤ cv := by omega
 have hbl : A.length + B.length ≤ 5000 := by omega
 clear hlen
 go_enter Try.func69, Try.ntmps69
 go_wp2_with fail
 generalize hW1 : w.alloc (.cells #[.int .i64 x.s, .int .i64 x.n, .int .i64 x.a] 92) = W1
 have hB1 : Below w.heap.size w W1 := by rw [← hW1]; exact oneB w _
 have hT1 : Blk W1 w.heap.size #[.int .i64 x.s, .int .i64 x.n, .int .i64 x.a] 92 := by rw [← hW1]; exact Blk.new w _ _
 have HB1 := Lib.hid hB1
 have HT1 := Lib.hid hT1
 have HRW := Lib.hid (HR.out.kept hB1)
 have ha2 := HRW.out.take A.length (by omega)
 rw [HAT.out] at ha2
 have HA2 := Lib.hid ha2
 clear hW1 hB1 hT1 ha2 HR
 refine wp_region_held_drew (S := fun w' => w'.cell? ⟨w.heap.size, 0, none⟩ = some (.int .i64 x.s) ∧ w'.cell? ⟨w.heap.size, 1, none⟩ = some (.int .i64 x.n) ∧ w'.cell? ⟨w.heap.size, 2, none⟩ = some (.int .i64 x.a)) (by kernel_rfl) ⟨HT1.out.cell 0, HT1.out.cell 1, HT1.out.cell 2⟩ (fun hS0 => ?_)
 refine tkq 0 ?_
 refine tkq 1 ?_
 refine tkq 2 ?_
 refine tkq 3 ?_
 refine tkq 5 ?_
 refine rdq 4 (fun K hK => ?_)
 go_simp
 have HT2 := Lib.hid (HT1.out.alloc (.cells #[.int .i64 x.s, .int .i64 x.n, .int .i64 x.a] 92)).drew
 have HB2 := Lib.hid (oneB W1 (.cells #[.int .i64 x.s, .int .i64 x.n, .int .i64 x.a] 92)).drew
 have HX2 := Lib.hid (TRow.one_ encO x (Blk.new W1 #[.int .i64 x.s, .int .i64 x.n, .int .i64 x.a] 92).drew rfl (Nat.le_refl 1))
 generalize hW2 : (W1.alloc (.cells #[.int .i64 x.s, .int .i64 x.n, .int .i64 x.a] 92)).drew = W2 at *
 refine hK.out _ _ ⟨HT2.out.cell 0, HT2.out.cell 1, HT2.out.cell 2⟩ (fun hS => ?_)
 clear hK K
 try simp only [Act.put, List.getElem_toArray, List.getElem_cons_succ, List.getElem_cons_zero, List.setIfInBounds_toArray, List.set_cons_zero, List.set_cons_succ]
 have HS2 : Hid (W2.heap.size = W1.heap.size + 1) := by show _ = _; rw [← hW2]; simp
 clear hW2
 refine rdq 6 (fun K hK => ?_)
 go_simp
 refine hK.out _ _ (by first | exact ⟨(HT2.out.alloc _).cell 0, (HT2.out.alloc _).cell 1, (HT2.out.alloc _).cell 2⟩ | exact ⟨(HT2.out.alloc _).drew.cell 0, (HT2.out.alloc _).drew.cell 1, (HT2.out.alloc _).drew.cell 2⟩) (fun hS => ?_)
 clear hK K
 try simp only [Act.put, List.getElem_toArray, List.getElem_cons_succ, List.getElem_cons_zero, List.setIfInBounds_toArray, List.set_cons_zero, List.set_cons_succ]
 refine rdq 7 (fun K hK => ?_)
 go_simp
 go_at_call 75
 refine (concat3O _ _ _ _ _ A B x _ (Blk.new' W2 _ _ rfl) ((HA2.out.kept HB2.out).kept (oneB W2 _)) (HX2.out.kept (oneB W2 _)) ?hC hbl).mono ?_
 case hC =>
  refine TRow.kept ?_ (oneB W2 _)
  rw [← HBD.out]
  have hlen : _ = _ := HLEN.out
  exact (HRW.out.kept HB2.out).tail (A.length + 0) (by omega) (by omega) (by omega) (fun b' o' e h => by first | (cases e; simp; done) | (cases e; simp; rw [addAt]; done) | (cases e; simp; omega) | (subst e; simp; omega) | (subst e; simp; rw [addAt]; done) | omega)
 rintro y w3 ⟨v3, rfl, ho3, hb3⟩
 have HO3 := Lib.hid ho3
 have HB3 := Lib.hid ((HB2.out.trans ((oneB W2 _).mono HB2.out.size)).trans (hb3.mono (by have := HS2.out; simp; omega)))
 clear ho3 hb3
 try go_wp2_with fail
 refine hK.out _ _ (⟨(HT1.out.below HB3.out HT1.out.lt).cell 0, (HT1.out.below HB3.out HT1.out.lt).cell 1, (HT1.out.below HB3.out HT1.out.lt).cell 2⟩) (fun hS => ?_)
 clear hK K
 try simp only [Act.put, List.getElem_toArray, List.getElem_cons_succ, List.getElem_cons_zero, List.setIfInBounds_toArray, List.set_cons_zero, List.set_cons_succ]
 refine tkq 8 ?_
 refine wpAnyH_done (by kernel_rfl) ?_ _
 obtain ⟨p3, c3, hv3⟩ := HO3.out.form
 generalize (A ++ [x] ++ B).length = n3 at hv3
 subst hv3
 go_wp2_with fail
 go_ret
 exact ⟨_, rfl, HO3.out.less (by have := HS2.out; have := HB1.out.size; simp; omega), HB1.out.trans (HB3.out.mono HB1.out.size)⟩
/-- Put in, in the place of what was there. -/
theorem withO_any (w : World) (v : Value) (xs A mid B : List Ord) (t : Pos) (x : Ord) (hr : TRow encO w v xs) (hA : AroundF posO t xs A mid B) (hn : xs.length ≤ 2000) :
  Calls Try.prog 69 #[v, .int .i64 A.length, .bool (decide (mid ≠ [])), x.v] w fun e w' => ∃ v', e = .returned v' ∧ OwnT encO w' w.heap.size 92 v' (A ++ [x] ++ B) ∧ Below w.heap.size w w' := by
 obtain ⟨pv, cv, rfl⟩ := hr.shape
 rcases hA.mid1 with rfl | ⟨q, rfl, _⟩
 ·rw [show decide (([] : List Ord) ≠ []) = false by simp]
  by_cases hc : cv - A.length = 0
  ·exact withO_nc w pv cv xs A B x hr hA.all hn hc
  ·exact withO_no w pv cv xs A B x hr hA.all hn hc
 ·rw [show decide (([q] : List Ord) ≠ []) = true by simp]
  by_cases hc : cv - A.length = 1
  ·exact withO_fc w pv cv xs A B q x hr hA.all hn hc
  ·exact withO_fo w pv cv xs A B q x hr hA.all hn hc
end Go.Proofs.Ytbpfbebebppleaa
namespace Go.Proofs.Ytbpfbebebppleaa
open Go.RowKit
set_option linter.unusedSimpArgs false in
set_option maxHeartbeats 4000000 in
set_option maxRecDepth 100000 in
theorem buys_any (w : World) (me : Int) (pi po : Option Addr) (ni ci no co : Nat) (s n : Int) (h : 0 ≤ s ∧ s < 8 ∧ s ≠ me ∧ 1 ≤ n ∧ n ≤ 1048576) : Calls Try.prog 68 #[bookV me (.slice pi ni ci) (.slice po no co), idV s n] w fun e w' => e = .returned (.bool true) ∧ Below w.heap.size w w' := by
 have h1 : (0 : Int) ≤ s := h.1
 have h2 : s < 8 := h.2.1
 have h3 : (s != me) = true := by simpa using h.2.2.1
 have h4 : (1 : Int) ≤ n := h.2.2.2.1
 have h5 : n ≤ 1048576 := h.2.2.2.2
 unfold bookV idV
 clear h
 go_enter Try.func68, Try.ntmps68
 go_wp2
 go_ret
 exact ⟨rfl, (oneB w _).alloc (by simp) _⟩
set_option linter.unusedSimpArgs false in
set_option maxHeartbeats 4000000 in
set_option maxRecDepth 100000 in
theorem expected_found (w : World) (me : Int) (pi po : Option Addr) (ni ci no co : Nat) (s n : Int) (xs A B : List Ord) (q : Ord) (hr : TRow encO w (.slice po no co) xs) (hl : xs.length = no) (hA : AroundF posO ⟨s, n, 0⟩ xs A [q] B) (hn : no ≤ 2000) :
  Calls Try.prog 24 #[bookV me (.slice pi ni ci) (.slice po no co), idV s n] w fun e w' => e = .returned (.tuple #[.int .i64 q.a, .bool true]) ∧ Below w.heap.size w w' := by
 have hal : A.length < xs.length := by rw [hA.all]; simp <;> omega
 obtain ⟨b, o, hpv, hbl, hcs⟩ := hr.at_ A.length hal
 subst hpv
 have hq : xs[A.length] = q := by have e := hA.all; subst e; simp
 rw [hq] at hcs
 have hcap4 : ((A.length : Nat) : Int) < ((no : Nat) : Int) := by omega
 have HQB := Lib.hid hbl
 have HQC := Lib.hid hcs
 clear hal hq hbl hcs
 have HF := Lib.hid (fun (W : World) (hb : Below w.heap.size w W) => findO_any W me (.slice pi ni ci) (.slice (some ⟨b, o, none⟩) no co) xs A [q] B s n (hr.kept hb) hA (by omega))
 rw [show decide (([q] : List Ord) ≠ []) = true by simp] at HF
 unfold idV bookV at *
 clear hr hl hA hn
 go_enter Try.func24, Try.ntmps24
 go_wp2_with fail
 generalize hW1 : (w.alloc (.cells #[.int .i64 me, .slice pi ni ci, .slice (some ⟨b, o, none⟩) no co] 27)).alloc (.cells #[.int .i64 s, .int .i64 n] 36) = W1
 have HB1 : Hid (Below w.heap.size w W1) := by show Below _ _ _; rw [← hW1]; exact (oneB w _).alloc (by simp) _
 have HK1 : Hid (Blk W1 w.heap.size #[.int .i64 me, .slice pi ni ci, .slice (some ⟨b, o, none⟩) no co] 27) := by show Blk _ _ _ _; rw [← hW1]; exact (Blk.new w _ _).alloc _
 have HX1 : Hid (Blk W1 (w.heap.size + 1) #[.int .i64 s, .int .i64 n] 36) := by show Blk _ _ _ _; rw [← hW1]; exact Blk.new' _ _ _ (by simp)
 clear hW1
 refine (HF.out _ HB1.out).mono ?_
 rintro y w2 ⟨rfl, hb2⟩
 have HK2 := kbq HK1 hb2
 have HX2 := kbq HX1 hb2
 have HB2 := ktq HB1 hb2
 clear HF hb2 HK1 HX1
 have b0 : w2.cell? ⟨w.heap.size, 0, none⟩ = some (.int .i64 me) := HK2.out.cell 0
 have b1 : w2.cell? ⟨w.heap.size, 1, none⟩ = some (.slice pi ni ci) := HK2.out.cell 1
 have b2 : w2.cell? ⟨w.heap.size, 2, none⟩ = some (.slice (some ⟨b, o, none⟩) no co) := HK2.out.cell 2
 have q0 : w2.cell? ⟨b, o + A.length * 3, none⟩ = some (.int .i64 q.s) := (HB2.out.cell (p := ⟨b, _, none⟩) HQB.out).trans (HQC.out 0 (by decide))
 have q1 : w2.cell? ⟨b, o + A.length * 3 + 1, none⟩ = some (.int .i64 q.n) := (HB2.out.cell (p := ⟨b, _, none⟩) HQB.out).trans (HQC.out 1 (by decide))
 have q2 : w2.cell? ⟨b, o + A.length * 3 + 2, none⟩ = some (.int .i64 q.a) := (HB2.out.cell (p := ⟨b, _, none⟩) HQB.out).trans (HQC.out 2 (by decide))
 go_wp2_with fail
 go_ret2
 exact ⟨rfl, HB2.out⟩
set_option linter.unusedSimpArgs false in
set_option maxHeartbeats 4000000 in
set_option maxRecDepth 100000 in
theorem expected_none (w : World) (me : Int) (pi po : Option Addr) (ni ci no co : Nat) (s n : Int) (xs A B : List Ord) (hr : TRow encO w (.slice po no co) xs) (hl : xs.length = no) (hA : AroundF posO ⟨s, n, 0⟩ xs A [] B) (hn : no ≤ 2000) :
  Calls Try.prog 24 #[bookV me (.slice pi ni ci) (.slice po no co), idV s n] w fun e w' => e = .returned (.tuple #[.int .i64 0, .bool false]) ∧ Below w.heap.size w w' := by
 have HF := Lib.hid (fun (W : World) (hb : Below w.heap.size w W) => findO_any W me (.slice pi ni ci) (.slice po no co) xs A [] B s n (hr.kept hb) hA (by omega))
 rw [show decide (([] : List Ord) ≠ []) = false by simp] at HF
 unfold idV bookV at *
 clear hr hl hA hn
 go_enter Try.func24, Try.ntmps24
 go_wp2_with fail
 generalize hW1 : (w.alloc (.cells #[.int .i64 me, .slice pi ni ci, .slice po no co] 27)).alloc (.cells #[.int .i64 s, .int .i64 n] 36) = W1
 have HB1 : Hid (Below w.heap.size w W1) := by show Below _ _ _; rw [← hW1]; exact (oneB w _).alloc (by simp) _
 have HK1 : Hid (Blk W1 w.heap.size #[.int .i64 me, .slice pi ni ci, .slice po no co] 27) := by show Blk _ _ _ _; rw [← hW1]; exact (Blk.new w _ _).alloc _
 have HX1 : Hid (Blk W1 (w.heap.size + 1) #[.int .i64 s, .int .i64 n] 36) := by show Blk _ _ _ _; rw [← hW1]; exact Blk.new' _ _ _ (by simp)
 clear hW1
 refine (HF.out _ HB1.out).mono ?_
 rintro y w2 ⟨rfl, hb2⟩
 have HK2 := kbq HK1 hb2
 have HX2 := kbq HX1 hb2
 have HB2 := ktq HB1 hb2
 clear HF hb2 HK1 HX1
 have b0 : w2.cell? ⟨w.heap.size, 0, none⟩ = some (.int .i64 me) := HK2.out.cell 0
 have b1 : w2.cell? ⟨w.heap.size, 1, none⟩ = some (.slice pi ni ci) := HK2.out.cell 1
 have b2 : w2.cell? ⟨w.heap.size, 2, none⟩ = some (.slice po no co) := HK2.out.cell 2
 go_wp2_with fail
 go_ret2
 exact ⟨rfl, HB2.out⟩
set_option linter.unusedSimpArgs false in
set_option maxHeartbeats 4000000 in
set_option maxRecDepth 100000 in
theorem expect_new (w : World) (me : Int) (pi po : Option Addr) (ni ci no co : Nat) (s n a : Int) (xs A B : List Ord) (hr : TRow encO w (.slice po no co) xs) (hl : xs.length = no) (hA : AroundF posO ⟨s, n, 0⟩ xs A [] B) (hn : no ≤ 1024) (h : 0 ≤ s ∧ s < 8 ∧ s ≠ me ∧ 1 ≤ n ∧ n ≤ 1048576) (h1 : 1 ≤ a ∧ a ≤ 1125899906842624) (h3 : no < 1024) :
  Calls Try.prog 54 #[bookV me (.slice pi ni ci) (.slice po no co), idV s n, .int .i64 a] w fun e w' => ∃ po' no' co', e = .returned (.tuple #[.agg #[.int .i64 me, .slice pi ni ci, .slice po' no' co'], .int .i64 0]) ∧ OwnT encO w' w.heap.size 92 (.slice po' no' co') (A ++ [⟨s, n, a⟩] ++ B) ∧ Below w.heap.size w w' := by
 have HBY := Lib.hid (fun (W : World) => buys_any W me pi po ni ci no co s n h)
 have HF := Lib.hid (fun (W : World) (hb : Below w.heap.size w W) => findO_any W me (.slice pi ni ci) (.slice po no co) xs A [] B s n (hr.kept hb) hA (by omega))
 have HW := Lib.hid (fun (W : World) (hb : Below w.heap.size w W) => withO_any W (.slice po no co) xs A [] B _ ⟨s, n, a⟩ (hr.kept hb) hA (by omega))
 rw [show decide (([] : List Ord) ≠ []) = false by simp] at HF HW
 unfold idV bookV at *
 unfold Ord.v at HW
 have a1 : ¬ a < 1 := by omega
 have a2 : ¬ (1125899906842624 : Int) < a := by omega
 have a3 : ¬ ((1024 : Int) ≤ (no : Int)) := by omega
 clear h3
 clear hr hl hA hn h h1
 go_enter Try.func54, Try.ntmps54
 go_wp2_with fail
 generalize hW1 : ((w.alloc (.cells #[.int .i64 me, .slice pi ni ci, .slice po no co] 27)).alloc (.cells #[.int .i64 s, .int .i64 n] 36)).alloc (.cells #[.int .i64 0, .slice none 0 0, .slice none 0 0] 27) = W1
 have HB1 : Hid (Below w.heap.size w W1) := by show Below _ _ _; rw [← hW1]; exact ((oneB w _).alloc (by simp) _).alloc (by simp <;> omega) _
 have HK1 : Hid (Blk W1 w.heap.size #[.int .i64 me, .slice pi ni ci, .slice po no co] 27) := by show Blk _ _ _ _; rw [← hW1]; exact ((Blk.new w _ _).alloc _).alloc _
 have HX1 : Hid (Blk W1 (w.heap.size + 1) #[.int .i64 s, .int .i64 n] 36) := by show Blk _ _ _ _; rw [← hW1]; exact (Blk.new' _ _ _ (by simp)).alloc _
 have HR1 : Hid (Blk W1 (w.heap.size + 1 + 1) #[.int .i64 0, .slice none 0 0, .slice none 0 0] 27) := by show Blk _ _ _ _; rw [← hW1]; exact Blk.new' _ _ _ (by simp)
 clear hW1
 refine (HBY.out _).mono ?_
 rintro y w2 ⟨rfl, hb2⟩
 have HK2 := kbq HK1 hb2
 have HX2 := kbq HX1 hb2
 have HR2 := kbq HR1 hb2
 have HB2 := ktq HB1 hb2
 clear HBY hb2 HK1 HX1 HR1
 have b0 : w2.cell? ⟨w.heap.size, 0, none⟩ = some (.int .i64 me) := HK2.out.cell 0
 have b1 : w2.cell? ⟨w.heap.size, 1, none⟩ = some (.slice pi ni ci) := HK2.out.cell 1
 have b2 : w2.cell? ⟨w.heap.size, 2, none⟩ = some (.slice po no co) := HK2.out.cell 2
 have i0 : w2.cell? ⟨w.heap.size + 1, 0, none⟩ = some (.int .i64 s) := HX2.out.cell 0
 have i1 : w2.cell? ⟨w.heap.size + 1, 1, none⟩ = some (.int .i64 n) := HX2.out.cell 1
 go_wp2_with fail
 refine (HF.out _ HB2.out).mono ?_
 rintro y w3 ⟨rfl, hb3⟩
 have HK3 := kbq HK2 hb3
 have HX3 := kbq HX2 hb3
 have HR3 := kbq HR2 hb3
 have HB3 := ktq HB2 hb3
 clear HF hb3 HK2 HX2 HR2 b0 b1 b2 i0 i1
 have b0 : w3.cell? ⟨w.heap.size, 0, none⟩ = some (.int .i64 me) := HK3.out.cell 0
 have b1 : w3.cell? ⟨w.heap.size, 1, none⟩ = some (.slice pi ni ci) := HK3.out.cell 1
 have b2 : w3.cell? ⟨w.heap.size, 2, none⟩ = some (.slice po no co) := HK3.out.cell 2
 have i0 : w3.cell? ⟨w.heap.size + 1, 0, none⟩ = some (.int .i64 s) := HX3.out.cell 0
 have i1 : w3.cell? ⟨w.heap.size + 1, 1, none⟩ = some (.int .i64 n) := HX3.out.cell 1
 go_wp2_with fail
 refine (HW.out _ HB3.out).mono ?_
 rintro y w4 ⟨v4, rfl, ho4, hb4⟩
 obtain ⟨p4, c4, hv4⟩ := ho4.form
 generalize hn4 : (A ++ [(⟨s, n, a⟩ : Ord)] ++ B).length = n4 at hv4
 subst hv4
 have HK4 := kbq HK3 hb4
 have HX4 := kbq HX3 hb4
 have HR4 := kbq HR3 hb4
 have HB4 := ktq HB3 hb4
 have HO4 := Lib.hid (ho4.less (show w.heap.size ≤ w3.heap.size from HB3.out.size))
 have HLT := Lib.hid ho4.block_ge
 have HSZ := Lib.hid (show w.heap.size + 1 + 1 < w3.heap.size from HR3.out.lt)
 clear HW hb4 ho4 HK3 HX3 HR3 hn4 b0 b1 b2 i0 i1
 have b0 : w4.cell? ⟨w.heap.size, 0, none⟩ = some (.int .i64 me) := HK4.out.cell 0
 have b1 : w4.cell? ⟨w.heap.size, 1, none⟩ = some (.slice pi ni ci) := HK4.out.cell 1
 have b2 : w4.cell? ⟨w.heap.size, 2, none⟩ = some (.slice po no co) := HK4.out.cell 2
 have r0 : w4.cell? ⟨w.heap.size + 1 + 1, 0, none⟩ = some (.int .i64 0) := HR4.out.cell 0
 have r1 : w4.cell? ⟨w.heap.size + 1 + 1, 1, none⟩ = some (.slice none 0 0) := HR4.out.cell 1
 have r2 : w4.cell? ⟨w.heap.size + 1 + 1, 2, none⟩ = some (.slice none 0 0) := HR4.out.cell 2
 have fr0 := HR4.out.free 0
 have fr1 := HR4.out.free 1
 have fr2 := HR4.out.free 2
 have fb2 := HK4.out.free 2
 go_wp2_with fail
 have hR5 := HR4.out.setOther (a := ⟨w.heap.size, 2, none⟩) (by show w.heap.size ≠ w.heap.size + 1 + 1; omega) (.slice p4 n4 c4)
 have hf := ((hR5.set 0 (.int .i64 me)).set 1 (.slice pi ni ci)).set 2 (.slice p4 n4 c4)
 have hB := HB4.out.setCell (p := ⟨w.heap.size, 2, none⟩) (Nat.le_refl _) (.slice p4 n4 c4) |>.setCell (p := ⟨w.heap.size + 1 + 1, 0, none⟩) (by show w.heap.size ≤ w.heap.size + 1 + 1; omega) (.int .i64 me) |>.setCell (p := ⟨w.heap.size + 1 + 1, 1, none⟩) (by show w.heap.size ≤ w.heap.size + 1 + 1; omega) (.slice pi ni ci) |>.setCell (p := ⟨w.heap.size + 1 + 1, 2, none⟩) (by show w.heap.size ≤ w.heap.size + 1 + 1; omega) (.slice p4 n4 c4)
 have hO : OwnT encO (World.setCell (World.setCell (World.setCell (World.setCell w4 ⟨w.heap.size, 2, none⟩ (.slice p4 n4 c4)) ⟨w.heap.size + 1 + 1, 0, none⟩ (.int .i64 me)) ⟨w.heap.size + 1 + 1, 1, none⟩ (.slice pi ni ci)) ⟨w.heap.size + 1 + 1, 2, none⟩ (.slice p4 n4 c4)) w.heap.size 92 (.slice p4 n4 c4) (A ++ [⟨s, n, a⟩] ++ B) := by
  refine HO4.out.stay (fun g hg => ?_)
  have hge := HLT.out g hg
  have hsz : w.heap.size + 1 + 1 < w3.heap.size := HSZ.out
  rw [Below.heap_setCell _ _ _ g (by show g ≠ w.heap.size + 1 + 1; omega), Below.heap_setCell _ _ _ g (by show g ≠ w.heap.size + 1 + 1; omega), Below.heap_setCell _ _ _ g (by show g ≠ w.heap.size + 1 + 1; omega), Below.heap_setCell _ _ _ g (by show g ≠ w.heap.size; omega)]
 refine bodyPost_ret (v := .tuple #[.agg #[.int .i64 me, .slice pi ni ci, .slice p4 n4 c4], .int .i64 0]) (by simp [results, Try.results54, go_sem, hf.cell 0, hf.cell 1, hf.cell 2]) rfl ⟨_, _, _, rfl, hO, hB⟩
set_option linter.unusedSimpArgs false in
set_option maxHeartbeats 4000000 in
set_option maxRecDepth 100000 in
theorem expect_found (w : World) (me : Int) (pi po : Option Addr) (ni ci no co : Nat) (s n a : Int) (xs A B : List Ord) (q : Ord) (hr : TRow encO w (.slice po no co) xs) (hl : xs.length = no) (hA : AroundF posO ⟨s, n, 0⟩ xs A [q] B) (hn : no ≤ 1024) (h : 0 ≤ s ∧ s < 8 ∧ s ≠ me ∧ 1 ≤ n ∧ n ≤ 1048576) (h1 : 1 ≤ a ∧ a ≤ 1125899906842624) :
  Calls Try.prog 54 #[bookV me (.slice pi ni ci) (.slice po no co), idV s n, .int .i64 a] w fun e w' => ∃ po' no' co', e = .returned (.tuple #[.agg #[.int .i64 me, .slice pi ni ci, .slice po' no' co'], .int .i64 0]) ∧ OwnT encO w' w.heap.size 92 (.slice po' no' co') (A ++ [⟨s, n, a⟩] ++ B) ∧ Below w.heap.size w w' := by
 have HBY := Lib.hid (fun (W : World) => buys_any W me pi po ni ci no co s n h)
 have HF := Lib.hid (fun (W : World) (hb : Below w.heap.size w W) => findO_any W me (.slice pi ni ci) (.slice po no co) xs A [q] B s n (hr.kept hb) hA (by omega))
 have HW := Lib.hid (fun (W : World) (hb : Below w.heap.size w W) => withO_any W (.slice po no co) xs A [q] B _ ⟨s, n, a⟩ (hr.kept hb) hA (by omega))
 rw [show decide (([q] : List Ord) ≠ []) = true by simp] at HF HW
 unfold idV bookV at *
 unfold Ord.v at HW
 have a1 : ¬ a < 1 := by omega
 have a2 : ¬ (1125899906842624 : Int) < a := by omega
 clear hr hl hA hn h h1
 go_enter Try.func54, Try.ntmps54
 go_wp2_with fail
 generalize hW1 : ((w.alloc (.cells #[.int .i64 me, .slice pi ni ci, .slice po no co] 27)).alloc (.cells #[.int .i64 s, .int .i64 n] 36)).alloc (.cells #[.int .i64 0, .slice none 0 0, .slice none 0 0] 27) = W1
 have HB1 : Hid (Below w.heap.size w W1) := by show Below _ _ _; rw [← hW1]; exact ((oneB w _).alloc (by simp) _).alloc (by simp <;> omega) _
 have HK1 : Hid (Blk W1 w.heap.size #[.int .i64 me, .slice pi ni ci, .slice po no co] 27) := by show Blk _ _ _ _; rw [← hW1]; exact ((Blk.new w _ _).alloc _).alloc _
 have HX1 : Hid (Blk W1 (w.heap.size + 1) #[.int .i64 s, .int .i64 n] 36) := by show Blk _ _ _ _; rw [← hW1]; exact (Blk.new' _ _ _ (by simp)).alloc _
 have HR1 : Hid (Blk W1 (w.heap.size + 1 + 1) #[.int .i64 0, .slice none 0 0, .slice none 0 0] 27) := by show Blk _ _ _ _; rw [← hW1]; exact Blk.new' _ _ _ (by simp)
 clear hW1
 refine (HBY.out _).mono ?_
 rintro y w2 ⟨rfl, hb2⟩
 have HK2 := kbq HK1 hb2
 have HX2 := kbq HX1 hb2
 have HR2 := kbq HR1 hb2
 have HB2 := ktq HB1 hb2
 clear HBY hb2 HK1 HX1 HR1
 have b0 : w2.cell? ⟨w.heap.size, 0, none⟩ = some (.int .i64 me) := HK2.out.cell 0
 have b1 : w2.cell? ⟨w.heap.size, 1, none⟩ = some (.slice pi ni ci) := HK2.out.cell 1
 have b2 : w2.cell? ⟨w.heap.size, 2, none⟩ = some (.slice po no co) := HK2.out.cell 2
 have i0 : w2.cell? ⟨w.heap.size + 1, 0, none⟩ = some (.int .i64 s) := HX2.out.cell 0
 have i1 : w2.cell? ⟨w.heap.size + 1, 1, none⟩ = some (.int .i64 n) := HX2.out.cell 1
 go_wp2_with fail
 refine (HF.out _ HB2.out).mono ?_
 rintro y w3 ⟨rfl, hb3⟩
 have HK3 := kbq HK2 hb3
 have HX3 := kbq HX2 hb3
 have HR3 := kbq HR2 hb3
 have HB3 := ktq HB2 hb3
 clear HF hb3 HK2 HX2 HR2 b0 b1 b2 i0 i1
 have b0 : w3.cell? ⟨w.heap.size, 0, none⟩ = some (.int .i64 me) := HK3.out.cell 0
 have b1 : w3.cell? ⟨w.heap.size, 1, none⟩ = some (.slice pi ni ci) := HK3.out.cell 1
 have b2 : w3.cell? ⟨w.heap.size, 2, none⟩ = some (.slice po no co) := HK3.out.cell 2
 have i0 : w3.cell? ⟨w.heap.size + 1, 0, none⟩ = some (.int .i64 s) := HX3.out.cell 0
 have i1 : w3.cell? ⟨w.heap.size + 1, 1, none⟩ = some (.int .i64 n) := HX3.out.cell 1
 go_wp2_with fail
 refine (HW.out _ HB3.out).mono ?_
 rintro y w4 ⟨v4, rfl, ho4, hb4⟩
 obtain ⟨p4, c4, hv4⟩ := ho4.form
 generalize hn4 : (A ++ [(⟨s, n, a⟩ : Ord)] ++ B).length = n4 at hv4
 subst hv4
 have HK4 := kbq HK3 hb4
 have HX4 := kbq HX3 hb4
 have HR4 := kbq HR3 hb4
 have HB4 := ktq HB3 hb4
 have HO4 := Lib.hid (ho4.less (show w.heap.size ≤ w3.heap.size from HB3.out.size))
 have HLT := Lib.hid ho4.block_ge
 have HSZ := Lib.hid (show w.heap.size + 1 + 1 < w3.heap.size from HR3.out.lt)
 clear HW hb4 ho4 HK3 HX3 HR3 hn4 b0 b1 b2 i0 i1
 have b0 : w4.cell? ⟨w.heap.size, 0, none⟩ = some (.int .i64 me) := HK4.out.cell 0
 have b1 : w4.cell? ⟨w.heap.size, 1, none⟩ = some (.slice pi ni ci) := HK4.out.cell 1
 have b2 : w4.cell? ⟨w.heap.size, 2, none⟩ = some (.slice po no co) := HK4.out.cell 2
 have r0 : w4.cell? ⟨w.heap.size + 1 + 1, 0, none⟩ = some (.int .i64 0) := HR4.out.cell 0
 have r1 : w4.cell? ⟨w.heap.size + 1 + 1, 1, none⟩ = some (.slice none 0 0) := HR4.out.cell 1
 have r2 : w4.cell? ⟨w.heap.size + 1 + 1, 2, none⟩ = some (.slice none 0 0) := HR4.out.cell 2
 have fr0 := HR4.out.free 0
 have fr1 := HR4.out.free 1
 have fr2 := HR4.out.free 2
 have fb2 := HK4.out.free 2
 go_wp2_with fail
 have hR5 := HR4.out.setOther (a := ⟨w.heap.size, 2, none⟩) (by show w.heap.size ≠ w.heap.size + 1 + 1; omega) (.slice p4 n4 c4)
 have hf := ((hR5.set 0 (.int .i64 me)).set 1 (.slice pi ni ci)).set 2 (.slice p4 n4 c4)
 have hB := HB4.out.setCell (p := ⟨w.heap.size, 2, none⟩) (Nat.le_refl _) (.slice p4 n4 c4) |>.setCell (p := ⟨w.heap.size + 1 + 1, 0, none⟩) (by show w.heap.size ≤ w.heap.size + 1 + 1; omega) (.int .i64 me) |>.setCell (p := ⟨w.heap.size + 1 + 1, 1, none⟩) (by show w.heap.size ≤ w.heap.size + 1 + 1; omega) (.slice pi ni ci) |>.setCell (p := ⟨w.heap.size + 1 + 1, 2, none⟩) (by show w.heap.size ≤ w.heap.size + 1 + 1; omega) (.slice p4 n4 c4)
 have hO : OwnT encO (World.setCell (World.setCell (World.setCell (World.setCell w4 ⟨w.heap.size, 2, none⟩ (.slice p4 n4 c4)) ⟨w.heap.size + 1 + 1, 0, none⟩ (.int .i64 me)) ⟨w.heap.size + 1 + 1, 1, none⟩ (.slice pi ni ci)) ⟨w.heap.size + 1 + 1, 2, none⟩ (.slice p4 n4 c4)) w.heap.size 92 (.slice p4 n4 c4) (A ++ [⟨s, n, a⟩] ++ B) := by
  refine HO4.out.stay (fun g hg => ?_)
  have hge := HLT.out g hg
  have hsz : w.heap.size + 1 + 1 < w3.heap.size := HSZ.out
  rw [Below.heap_setCell _ _ _ g (by show g ≠ w.heap.size + 1 + 1; omega), Below.heap_setCell _ _ _ g (by show g ≠ w.heap.size + 1 + 1; omega), Below.heap_setCell _ _ _ g (by show g ≠ w.heap.size + 1 + 1; omega), Below.heap_setCell _ _ _ g (by show g ≠ w.heap.size; omega)]
 refine bodyPost_ret (v := .tuple #[.agg #[.int .i64 me, .slice pi ni ci, .slice p4 n4 c4], .int .i64 0]) (by simp [results, Try.results54, go_sem, hf.cell 0, hf.cell 1, hf.cell 2]) rfl ⟨_, _, _, rfl, hO, hB⟩
end Go.Proofs.Ytbpfbebebppleaa
namespace Go.Proofs.Ytbpfbebebppleaa
open Go.RowKit
/-- A book with an item put in. -/
def insX (X : List Itm) (x : Itm) : List Itm := X.filter (fun z => decide (ordP (posI z) (posI x) < 0)) ++ [x] ++ X.filter (fun z => decide (0 < ordP (posI z) (posI x)))
theorem ins_around {X A mid B : List Itm} {x : Itm} (h : AroundF posI (posI x) X A mid B) : A ++ [x] ++ B = insX X x ∧ (insX X x).length ≤ X.length + 1 := by
 have hA : ∀ z ∈ A, ordP (posI z) (posI x) < 0 := fun z hz => h.pos.ahead _ (List.mem_map_of_mem hz)
 have hB : ∀ z ∈ B, 0 < ordP (posI z) (posI x) := fun z hz => h.pos.behind _ (List.mem_map_of_mem hz)
 have hM : ∀ z ∈ mid, ordP (posI z) (posI x) = 0 := fun z hz => by
  rcases h.mid1 with e | ⟨q, e, hq⟩
  ·rw [e] at hz; cases hz
  ·rw [e] at hz; rw [List.mem_singleton.1 hz]; exact hq
 have f1 : X.filter (fun z => decide (ordP (posI z) (posI x) < 0)) = A := by
  rw [h.all, List.filter_append, List.filter_append, List.filter_eq_self.2 (fun z hz => decide_eq_true (hA z hz)), List.filter_eq_nil_iff.2 (fun z hz => by have := hM z hz; simp; omega), List.filter_eq_nil_iff.2 (fun z hz => by have := hB z hz; simp; omega)]
  simp
 have f2 : X.filter (fun z => decide (0 < ordP (posI z) (posI x))) = B := by
  rw [h.all, List.filter_append, List.filter_append, List.filter_eq_nil_iff.2 (fun z hz => by have := hA z hz; simp; omega), List.filter_eq_nil_iff.2 (fun z hz => by have := hM z hz; simp; omega), List.filter_eq_self.2 (fun z hz => decide_eq_true (hB z hz))]
  simp
 have e : A ++ [x] ++ B = insX X x := by unfold insX; rw [f1, f2]
 refine ⟨e, ?_⟩
 rw [← e, h.all]
 simp
 omega
theorem ins_sorted {X : List Itm} {x : Itm} (hs : SortedP (X.map posI)) : SortedP ((insX X x).map posI) := by
 have hsub : ∀ p : Itm → Bool, SortedP ((X.filter p).map posI) := fun p => List.Pairwise.sublist ((List.filter_sublist).map posI) hs
 unfold SortedP insX
 rw [List.map_append, List.map_append, List.pairwise_append, List.pairwise_append]
 refine ⟨⟨hsub _, by simp, ?_⟩, hsub _, ?_⟩
 ·intro a ha b hb
  obtain ⟨z, hz, rfl⟩ := List.mem_map.1 ha
  have hb2 : b = posI x := by simpa using hb
  subst hb2
  exact of_decide_eq_true (List.mem_filter.1 hz).2
 ·intro a ha b hb
  obtain ⟨y, hy, rfl⟩ := List.mem_map.1 hb
  have hyx : 0 < ordP (posI y) (posI x) := of_decide_eq_true (List.mem_filter.1 hy).2
  rcases List.mem_append.1 ha with ha | ha
  ·obtain ⟨z, hz, rfl⟩ := List.mem_map.1 ha
   have hzx : ordP (posI z) (posI x) < 0 := of_decide_eq_true (List.mem_filter.1 hz).2
   rw [ordP_lt] at hzx ⊢
   rw [ordP_gt] at hyx
   omega
  ·have ha2 : a = posI x := by simpa using ha
   subst ha2
   rw [ordP_gt] at hyx
   rw [ordP_lt]
   omega
end Go.Proofs.Ytbpfbebebppleaa
namespace Go.Proofs.Ytbpfbebebppleaa
open Go.RowKit
theorem blk_put {b : Nat} {t : TypeId} : ∀ (vs : List Value) (o : Nat) (Z : Array Value) (w : World), Blk w b Z t → ∃ Z' : Array Value, Blk (w.setCells b o vs) b Z' t ∧ Z'.size = Z.size ∧ ∀ j, (j < o ∨ o + vs.length ≤ j → Z'[j]? = Z[j]?) ∧ (∀ (_ : o ≤ j), j < o + vs.length → j < Z.size → Z'[j]? = vs[j - o]?)
 | [], o, Z, w, h => ⟨Z, h, rfl, fun j => ⟨fun _ => rfl, fun h1 h2 _ => by simp at h2; omega⟩⟩
 | v :: r, o, Z, w, h => by
  obtain ⟨Z', h1, h2, h3⟩ := blk_put r (o + 1) (Z.setIfInBounds o v) (w.setCell ⟨b, o, none⟩ v) (h.set o v)
  refine ⟨Z', by rw [World.setCells]; exact h1, by rw [h2, Array.size_setIfInBounds], fun j => ⟨fun hj => ?_, fun ho hj hz => ?_⟩⟩
  ·rw [(h3 j).1 (by simp at hj; omega), Array.getElem?_setIfInBounds_ne (by simp at hj; omega)]
  ·by_cases he : j = o
   ·subst he
    rw [(h3 j).1 (.inl (by omega)), Array.getElem?_setIfInBounds_self_of_lt hz]
    simp
   ·rw [(h3 j).2 (by omega) (by simp at hj; omega) (by rw [Array.size_setIfInBounds]; exact hz), show j - o = (j - (o + 1)) + 1 by omega, List.getElem?_cons_succ]
theorem blk_put_all {w : World} {b : Nat} {t : TypeId} {Z : Array Value} (h : Blk w b Z t) (cs : Array Value) (hs : Z.size = cs.size) : Blk (w.setCells b 0 cs.toList) b cs t := by
 obtain ⟨Z', h1, h2, h3⟩ := blk_put cs.toList 0 Z w h
 have e : Z' = cs := by
  apply Array.ext_getElem?
  intro j
  by_cases hj : j < cs.size
  ·rw [(h3 j).2 (Nat.zero_le _) (by simpa using hj) (by omega)]; simp
  ·rw [Array.getElem?_eq_none (by omega), Array.getElem?_eq_none (by omega)]
 rw [← e] at h1 ⊢
 exact h1
theorem Blk.thereAt {w : World} {b : Nat} {cs : Array Value} {t : TypeId} (h : Blk w b cs t) : w.there b 0 cs.size := fun j hj => by
 refine ⟨?_, h.free _⟩
 rw [Nat.zero_add, h.cell j, Array.getElem?_eq_getElem hj]
 rfl
theorem below_put {B b : Nat} (hB : B ≤ b) : ∀ (vs : List Value) (o : Nat) (a w : World), Below B a w → Below B a (w.setCells b o vs)
 | [], _, _, _, h => h
 | v :: r, o, a, w, h => by
  rw [World.setCells]
  exact below_put hB r (o + 1) a _ (h.setCell (p := ⟨b, o, none⟩) hB v)
theorem blk_putOther {b g : Nat} {t : TypeId} {cs : Array Value} (hne : b ≠ g) : ∀ (vs : List Value) (o : Nat) (w : World), Blk w g cs t → Blk (w.setCells b o vs) g cs t
 | [], _, _, h => h
 | v :: r, o, w, h => by
  rw [World.setCells]
  exact blk_putOther hne r (o + 1) _ (h.setOther (a := ⟨b, o, none⟩) hne v)
section
variable {α : Type} {e : Enc α}
theorem mul_lt_of {i n k t : Nat} (hi : i < n) (ht : t < k) : i * k + t < n * k :=
 Nat.lt_of_lt_of_le (show i * k + t < (i + 1) * k by rw [Nat.add_mul]; omega) (Nat.mul_le_mul_right _ hi)
/-- Where an own slice lies. -/
theorem OwnT.lies {w : World} {base n c : Nat} {ty : TypeId} {p : Option Addr} {xs : List α} (h : OwnT e w base ty (.slice p n c) xs) (hn : 0 < n) : ∃ g cur, p = some ⟨g, 0, none⟩ ∧ base ≤ g ∧ Blk w g cur ty ∧ n ≤ c ∧ c ≤ maxLen ∧ cur.size = c * e.k ∧ cur.toList.take (n * e.k) = xs.flatMap e.E ∧ n = xs.length := by
 have hl : n = xs.length := by
  obtain ⟨p', c', e1⟩ := h.form
  exact (Value.slice.inj e1).2.1
 rcases h.2 with ⟨e1, h0⟩ | ⟨g, cap, cur, e1, hb, hg, hn2, hm, hs, ht⟩
 ·omega
 ·cases e1
  exact ⟨g, cur, rfl, hb, hg, hn2, hm, hs, ht, rfl⟩
theorem OwnT.mk' {w : World} {base n c g : Nat} {ty : TypeId} {cur : Array Value} {xs : List α} (hl : n = xs.length) (hb : base ≤ g) (hg : Blk w g cur ty) (hn : n ≤ c) (hm : c ≤ maxLen) (hs : cur.size = c * e.k) (ht : cur.toList.take (n * e.k) = xs.flatMap e.E) : OwnT e w base ty (.slice (some ⟨g, 0, none⟩) n c) xs := by
 subst hl
 exact ⟨flat_length e xs, .inr ⟨g, c, cur, rfl, hb, hg, hn, hm, hs, ht⟩⟩
/-- An element is stored. -/
theorem OwnT.put {w : World} {base n c g : Nat} {ty : TypeId} {xs : List α} (h : OwnT e w base ty (.slice (some ⟨g, 0, none⟩) n c) xs) (i : Nat) (hi : i < n) (x : α) : OwnT e (w.setCells g (i * e.k) (e.E x)) base ty (.slice (some ⟨g, 0, none⟩) n c) (xs.set i x) := by
 obtain ⟨g', cur, e1, hb, hg, hn, hm, hs, ht, hl⟩ := h.lies (by omega)
 cases e1
 obtain ⟨Z', z1, z2, z3⟩ := blk_put (e.E x) (i * e.k) cur w hg
 refine OwnT.mk' (by rw [List.length_set]; exact hl) hb z1 hn hm (by rw [z2, hs]) ?_
 apply List.ext_getElem?
 intro j
 have hk := e.pos
 by_cases hj : j < n * e.k
 ·have hq : j / e.k < n := (Nat.div_lt_iff_lt_mul hk).2 hj
  have hr : j % e.k < e.k := Nat.mod_lt _ hk
  have e3 : j / e.k * e.k + j % e.k = j := by rw [Nat.mul_comm]; exact Nat.div_add_mod j e.k
  have hjc : j < cur.size := by rw [hs]; exact Nat.lt_of_lt_of_le hj (Nat.mul_le_mul_right _ hn)
  have hset := flat_get e (xs.set i x) (j / e.k) (j % e.k) (by rw [List.length_set]; omega) hr
  rw [e3] at hset
  rw [hset, List.getElem?_take, if_pos hj, Array.getElem?_toList, List.getElem_set]
  by_cases hqi : i = j / e.k
  ·rw [if_pos hqi]
   have h1 : i * e.k ≤ j := by rw [hqi]; omega
   have h2 : j < i * e.k + e.k := by rw [hqi]; omega
   rw [(z3 j).2 h1 (by rw [e.len]; exact h2) hjc]
   congr 1
   rw [hqi]; omega
  ·rw [if_neg hqi]
   have hout : j < i * e.k ∨ i * e.k + (e.E x).length ≤ j := by
    rw [e.len]
    rcases Nat.lt_or_gt_of_ne hqi with hh | hh
    ·right
     have := Nat.mul_le_mul_right e.k (show i + 1 ≤ j / e.k by omega)
     rw [Nat.add_mul] at this; omega
    ·left
     have := Nat.mul_le_mul_right e.k (show j / e.k + 1 ≤ i by omega)
     rw [Nat.add_mul] at this; omega
   rw [(z3 j).1 hout]
   have h4 := congrArg (fun l => l[j]?) ht
   simp only [List.getElem?_take] at h4
   rw [if_pos hj, Array.getElem?_toList] at h4
   rw [h4]
   have h5 := flat_get e xs (j / e.k) (j % e.k) (by omega) hr
   rw [e3] at h5
   exact h5
 ·rw [List.getElem?_eq_none (by rw [List.length_take]; omega), List.getElem?_eq_none (by rw [flat_length, List.length_set, ← hl]; omega)]
theorem OwnT.there {w : World} {base n c g : Nat} {ty : TypeId} {xs : List α} (h : OwnT e w base ty (.slice (some ⟨g, 0, none⟩) n c) xs) (i m : Nat) (hi : i * e.k + m ≤ c * e.k) (hn : 0 < n) : w.there g (i * e.k) m := by
 obtain ⟨g', cur, e1, hb, hg, _, hm, hs, ht, hl⟩ := h.lies hn
 cases e1
 intro j hj
 refine ⟨?_, hg.free _⟩
 rw [hg.cell, Array.getElem?_eq_getElem (by rw [hs]; omega)]
 rfl
/-- What stands ahead of a place stays when all behind it is written. -/
theorem OwnT.cutAt {w : World} {base n c g : Nat} {ty : TypeId} {xs : List α} (h : OwnT e w base ty (.slice (some ⟨g, 0, none⟩) n c) xs) (i : Nat) (hi : i ≤ n) (hn : 0 < n) (vs : List Value) : OwnT e (w.setCells g (i * e.k) vs) base ty (.slice (some ⟨g, 0, none⟩) i c) (xs.take i) := by
 obtain ⟨g', cur, e1, hb, hg, hnc, hm, hs, ht, hl⟩ := h.lies hn
 cases e1
 obtain ⟨Z', z1, z2, z3⟩ := blk_put vs (i * e.k) cur w hg
 refine OwnT.mk' (by rw [List.length_take]; omega) hb z1 (by omega) hm (by rw [z2, hs]) ?_
 apply List.ext_getElem?
 intro j
 have hk := e.pos
 have hmul : i * e.k ≤ n * e.k := Nat.mul_le_mul_right _ hi
 by_cases hj : j < i * e.k
 ·have hr : j % e.k < e.k := Nat.mod_lt _ hk
  have hq : j / e.k < i := (Nat.div_lt_iff_lt_mul hk).2 hj
  have e3 : j / e.k * e.k + j % e.k = j := by rw [Nat.mul_comm]; exact Nat.div_add_mod j e.k
  rw [List.getElem?_take, if_pos hj, Array.getElem?_toList, (z3 j).1 (.inl hj)]
  have h4 := congrArg (fun l => l[j]?) ht
  simp only [List.getElem?_take] at h4
  rw [if_pos (by omega), Array.getElem?_toList] at h4
  rw [h4]
  have h5 := flat_get e xs (j / e.k) (j % e.k) (by omega) hr
  have h6 := flat_get e (xs.take i) (j / e.k) (j % e.k) (by rw [List.length_take]; omega) hr
  rw [e3] at h5 h6
  rw [h5, h6, List.getElem_take]
 ·rw [List.getElem?_eq_none (by rw [List.length_take]; omega), List.getElem?_eq_none (by rw [flat_length, List.length_take]; have := Nat.mul_le_mul_right e.k (Nat.min_le_left i xs.length); omega)]
theorem OwnT.putOther {w : World} {base b o : Nat} {ty : TypeId} {v : Value} {xs : List α} (h : OwnT e w base ty v xs) (hb : b < base) (vs : List Value) : OwnT e (w.setCells b o vs) base ty v xs := by
 refine h.stay (fun g hg => ?_)
 have h1 := h.block_ge g hg
 have h2 := h.lt g hg
 obtain ⟨_, hr⟩ := h
 rcases hr with ⟨e1, _⟩ | ⟨g', cap, cur, e1, _, hg', _⟩
 ·subst e1; cases hg
 ·subst e1
  cases hg
  exact (blk_putOther (by omega) vs o w hg').trans hg'.symm
end
/-- 'clear(s)', s a slice of structs. -/
theorem run_clear_t {P : Program} (w : World) (t ty r : TypeId) (z : Value) (ht : P.underlying t = some (.slice ty)) (hv : ∀ w, (zeroValue ty).run P w = .ok z w) (h1 : ∀ v ∈ z.cells, v.oneCell' = true) (b o n c : Nat) (hn : 0 < n)
  (hc : w.there b o (n * z.cells.size)) : ∃ vs : List Value, (Builtin.clear_ #[t] r #[.slice (some ⟨b, o, none⟩) n c]).run P w = .ok (.tuple #[]) (w.setCells b o vs) := by
 have hl : (Builtin.zeroCells z.cells n).toList.length = n * z.cells.size := by simp [Builtin.zeroCells]
 have hall : ∀ v ∈ (Builtin.zeroCells z.cells n).toList, v.oneCell' = true := by
  intro v hv'
  simp only [Builtin.zeroCells, Array.toList_map, List.mem_map] at hv'
  obtain ⟨i, hi, rfl⟩ := hv'
  have hi2 : i < n * z.cells.size := by simpa using hi
  rcases Nat.eq_zero_or_pos z.cells.size with h0 | h0
  ·rw [h0] at hi2; omega
  ·have hi3 : i % z.cells.size < z.cells.size := Nat.mod_lt _ h0
   rw [getElem!_pos z.cells _ hi3]
   exact h1 _ (Array.getElem_mem hi3)
 have hst := run_storeCells_cells (P := P) b o (Builtin.zeroCells z.cells n).toList 0 w (by rw [hl]; intro j hj; rw [Nat.add_zero]; exact (hc j hj).1) (by rw [hl]; intro j hj; rw [Nat.add_zero]; exact (hc j hj).2) hall
 simp only [Nat.add_zero] at hst
 refine ⟨(Builtin.zeroCells z.cells n).toList, ?_⟩
 obtain ⟨m, rfl⟩ : ∃ m, n = m + 1 := ⟨n - 1, by omega⟩
 simp [Builtin.clear_, run_underlying ht, hv, hst]
theorem stop_clear {P : Program} {ops : Array Oper} {rest : List Oper} {o : Oper} {a : Act} {w : World} {Q : Exit → Act → World → Prop} (s : Operand) (t : TypeId)
  (_ : o.op = .call { callee := .builtin .clear, args := #[s], argTypes := #[t] }) (h : Hid (wpList P ops Q (o :: rest) a w)) : wpList P ops Q (o :: rest) a w := h
theorem stop_storeT {P : Program} {ops : Array Oper} {rest : List Oper} {o : Oper} {a : Act} {w : World} {Q : Exit → Act → World → Prop} (ty : TypeId) (x y : Operand) (_ : o.op = .store ty x y) (h : Hid (wpList P ops Q (o :: rest) a w)) : wpList P ops Q (o :: rest) a w := h
theorem wpList_clear_t {P : Program} {w : World} {ops : Array Oper} {rest : List Oper} {o : Oper} {a : Act} {Q : Exit → Act → World → Prop} (hgd : o.guard = none) (s : Operand) (t : TypeId)
  (ho : o.op = .call { callee := .builtin .clear, args := #[s], argTypes := #[t] }) (ty : TypeId) (z : Value) (ht : P.underlying t = some (.slice ty)) (hv : ∀ w, (zeroValue ty).run P w = .ok z w) (h1 : ∀ v ∈ z.cells, v.oneCell' = true) (b p n c : Nat) (hn : 0 < n)
  (hs : a.eval s = .slice (some ⟨b, p, none⟩) n c) (hc : w.there b p (n * z.cells.size)) (h : ∀ vs : List Value, wpList P ops Q rest (a.put o.dst (.tuple #[])) (w.setCells b p vs)) : wpList P ops Q (o :: rest) a w := by
 refine wpList_plain hgd fun K hK => ?_
 obtain ⟨vs, hrun⟩ := run_clear_t w t ty o.type z ht hv h1 b p n c hn hc
 unfold Oper.wp
 simp [execOp, ho, resolve, invoke, builtin, hs, hrun, Result.andThen]
 exact hK _ _ (h vs)
end Go.Proofs.Ytbpfbebebppleaa
namespace Go.Proofs.Ytbpfbebebppleaa
open Go.RowKit
def itm0 : Itm := ⟨0, 0, 0, 0, 0, 0, 0, 0⟩
structure Three (w W : World) (A B C : Array Value) (tA tB tC : TypeId) : Prop where
 b0 : Blk W w.heap.size A tA
 b1 : Blk W (w.heap.size + 1) B tB
 b2 : Blk W (w.heap.size + 1 + 1) C tC
 low : Below w.heap.size w W
theorem three_new (w : World) (A B C : Array Value) (tA tB tC : TypeId) : Three w (((w.alloc (.cells A tA)).alloc (.cells B tB)).alloc (.cells C tC)) A B C tA tB tC :=
 ⟨((Blk.new w A tA).alloc _).alloc _, (Blk.new' (w.alloc (.cells A tA)) B tB (by simp)).alloc _, Blk.new' ((w.alloc (.cells A tA)).alloc (.cells B tB)) C tC (by simp), ((oneB w _).trans ((oneB _ _).mono (by simp))).trans ((oneB _ _).mono (by simp; omega))⟩
end Go.Proofs.Ytbpfbebebppleaa
namespace Go.Proofs.Ytbpfbebebppleaa
open Go.RowKit
/-- The item, the order of a name. -/
def findX (xs : List Itm) (s n : Int) : Option Itm := xs.find? (fun x => decide (x.s = s ∧ x.n = n))
theorem find_around {α : Type} {f : α → Pos} {xs A mid B : List α} {s n : Int} (h : AroundF f ⟨s, n, 0⟩ xs A mid B) : xs.find? (fun x => decide ((f x).e = s ∧ (f x).c = n)) = mid.head? := by
 have hA : A.find? (fun x => decide ((f x).e = s ∧ (f x).c = n)) = none := by
  rw [List.find?_eq_none]
  intro x hx
  have := h.pos.ahead (f x) (List.mem_map.2 ⟨x, hx, rfl⟩)
  rw [ordP_lt] at this
  simp only [decide_eq_true_eq, not_and]
  dsimp only at this
  omega
 have hB : B.find? (fun x => decide ((f x).e = s ∧ (f x).c = n)) = none := by
  rw [List.find?_eq_none]
  intro x hx
  have := h.pos.behind (f x) (List.mem_map.2 ⟨x, hx, rfl⟩)
  rw [ordP_gt] at this
  simp only [decide_eq_true_eq, not_and]
  dsimp only at this
  omega
 rw [h.all, List.append_assoc, List.find?_append, hA, List.find?_append, hB]
 rcases h.mid1 with rfl | ⟨q, rfl, hq⟩
 ·rfl
 ·rw [ordP_eq] at hq
  dsimp only at hq
  simp [hq]
theorem findX_around {xs A mid B : List Itm} {s n : Int} (h : AroundF posI ⟨s, n, 0⟩ xs A mid B) : findX xs s n = mid.head? := find_around h
def SortX (xs : List Itm) : Prop := SortedP (xs.map posI)
theorem dget_any (w : World) (me : Int) (pi po : Option Addr) (ni ci no co : Nat) (s n : Int) (xs : List Itm) (hr : TRow encI w (.slice pi ni ci) xs) (hl : xs.length = ni) (hs : SortX xs) (hn : ni ≤ 2000) :
  Calls Try.prog 16 #[bookV me (.slice pi ni ci) (.slice po no co), idV s n] w fun e w' => e = .returned (.tuple #[((findX xs s n).getD itm0).v, .bool (findX xs s n).isSome]) ∧ Below w.heap.size w w' := by
 obtain ⟨A, mid, B, hA⟩ := aroundF_of_sorted posI ⟨s, n, 0⟩ xs hs
 rw [findX_around hA]
 rcases hA.mid1 with rfl | ⟨q, rfl, _⟩
 ·exact get_none w me pi po ni ci no co s n xs A B hr hl hA hn
 ·exact get_found w me pi po ni ci no co s n xs A B q hr hl hA hn
end Go.Proofs.Ytbpfbebebppleaa
namespace Go.Proofs.Ytbpfbebebppleaa
open Go.RowKit
def inB (n a b : Int) : Bool := decide (a ≤ n ∧ n ≤ b)
theorem inB_no {n a b : Int} (h : inB n a b = false) : ¬ (a ≤ n ∧ n ≤ b) := decide_eq_false_iff_not.1 h
theorem inB_yes {n a b : Int} (h : inB n a b = true) : a ≤ n ∧ n ≤ b := of_decide_eq_true h
theorem retB {a b : Bool} (h : a = b) : Ending.returned (.bool a) = .returned (.bool b) := by rw [h]
theorem retD {p : Prop} [Decidable p] (h : p) : Ending.returned (.bool true) = .returned (.bool (decide p)) := retB (decide_eq_true h).symm
theorem retN {p : Prop} [Decidable p] (h : ¬ p) : Ending.returned (.bool false) = .returned (.bool (decide p)) := retB (decide_eq_false h).symm
theorem within_any (n a b : Int) (w : World) : Calls Try.prog 76 #[.int .i64 n, .int .i64 a, .int .i64 b] w fun e w' => e = .returned (.bool (inB n a b)) ∧ w = w' := by
 go_enter Try.func76, Try.ntmps76
 go_wp2
 all_goals
  go_ret
  exact ⟨retB (by unfold inB; simp; omega), rfl⟩
theorem payable_any (n : Int) (w : World) : Calls Try.prog 70 #[.int .i64 n] w fun e w' => e = .returned (.bool (inB n 1 1125899906842624)) ∧ w = w' := by
 go_enter Try.func70, Try.ntmps70
 go_wp2
 all_goals
  go_ret
  exact ⟨retB (by unfold inB; simp; omega), rfl⟩
theorem parties_any (x : Itm) (w : World) : Calls Try.prog 72 #[x.v] w fun e w' => e = .returned (.bool (decide (partsOk x))) ∧ Below w.heap.size w w' := by
 have HB := Lib.hid (oneB w (.cells x.v.cells 64))
 unfold Itm.v at *
 simp only [Value.cells] at HB
 go_enter Try.func72, Try.ntmps72
 go_wp2_with fail
 refine (within_any _ _ _ _).mono ?_
 rintro y w1 ⟨rfl, rfl⟩
 cases h0 : inB x.s 0 7
 ·go_wp2_with fail
  go_ret
  exact ⟨retN (by have g := inB_no h0; unfold partsOk; omega), HB.out⟩
 ·skip
  go_wp2_with fail
  refine (within_any _ _ _ _).mono ?_
  rintro y w1 ⟨rfl, rfl⟩
  cases h1 : inB x.b 0 7
  ·go_wp2_with fail
   go_ret
   exact ⟨retN (by have g := inB_no h1; unfold partsOk; omega), HB.out⟩
  ·skip
   have g0 := inB_yes h0; have g1 := inB_yes h1
   clear h0 h1
   go_wp2_with fail
   go_ret
   exact ⟨retB (a := x.s != x.b) (b := decide (partsOk x)) (by rw [Bool.eq_iff_iff, bne_iff_ne, decide_eq_true_iff]; exact ⟨fun h => ⟨g0, g1, h⟩, fun h => h.2.2⟩), HB.out⟩
theorem numbers_any (x : Itm) (w : World) : Calls Try.prog 73 #[x.v] w fun e w' => e = .returned (.bool (decide (numsOk x))) ∧ Below w.heap.size w w' := by
 have HB := Lib.hid (oneB w (.cells x.v.cells 64))
 unfold Itm.v at *
 simp only [Value.cells] at HB
 go_enter Try.func73, Try.ntmps73
 go_wp2_with fail
 refine (within_any _ _ _ _).mono ?_
 rintro y w1 ⟨rfl, rfl⟩
 cases h0 : inB x.n 1 1048576
 ·go_wp2_with fail
  go_ret
  exact ⟨retN (by have g := inB_no h0; unfold numsOk; omega), HB.out⟩
 ·skip
  go_wp2_with fail
  refine (within_any _ _ _ _).mono ?_
  rintro y w1 ⟨rfl, rfl⟩
  cases h1 : inB x.c 0 7
  ·go_wp2_with fail
   go_ret
   exact ⟨retN (by have g := inB_no h1; unfold numsOk; omega), HB.out⟩
  ·skip
   go_wp2_with fail
   refine (payable_any _ _).mono ?_
   rintro y w1 ⟨rfl, rfl⟩
   cases h2 : inB x.a 1 1125899906842624
   ·go_wp2_with fail
    go_ret
    exact ⟨retN (by have g := inB_no h2; unfold numsOk; omega), HB.out⟩
   ·skip
    go_wp2_with fail
    refine (within_any _ _ _ _).mono ?_
    rintro y w1 ⟨rfl, rfl⟩
    cases h3 : inB x.r 0 3
    ·go_wp2_with fail
     go_ret
     exact ⟨retN (by have g := inB_no h3; unfold numsOk; omega), HB.out⟩
    ·skip
     go_wp2_with fail
     refine (within_any _ _ _ _).mono ?_
     rintro y w1 ⟨rfl, rfl⟩
     cases h4 : inB x.t 1 5
     ·go_wp2_with fail
      go_ret
      exact ⟨retN (by have g := inB_no h4; unfold numsOk; omega), HB.out⟩
     ·skip
      go_wp2_with fail
      refine (within_any _ _ _ _).mono ?_
      rintro y w1 ⟨rfl, rfl⟩
      cases h5 : inB x.y 0 1048576
      ·go_wp2_with fail
       go_ret
       exact ⟨retN (by have g := inB_no h5; unfold numsOk; omega), HB.out⟩
      ·skip
       have g0 := inB_yes h0; have g1 := inB_yes h1; have g2 := inB_yes h2; have g3 := inB_yes h3; have g4 := inB_yes h4; have g5 := inB_yes h5
       go_wp2_with fail
       go_ret
       exact ⟨retD (by unfold numsOk; omega), HB.out⟩
end Go.Proofs.Ytbpfbebebppleaa
namespace Go.Proofs.Ytbpfbebebppleaa
open Go.RowKit
theorem retI {a b : Int} (h : a = b) : Ending.returned (.int .i64 a) = .returned (.int .i64 b) := by rw [h]
theorem itemB (x : Itm) (w : World) : Below w.heap.size w (w.alloc (.cells #[.int .i64 x.s, .int .i64 x.n, .int .i64 x.b, .int .i64 x.c, .int .i64 x.a, .int .i64 x.r, .int .i64 x.t, .int .i64 x.y] 64)) := oneB w _
theorem itemK (x : Itm) (w : World) : Blk (w.alloc (.cells #[.int .i64 x.s, .int .i64 x.n, .int .i64 x.b, .int .i64 x.c, .int .i64 x.a, .int .i64 x.r, .int .i64 x.t, .int .i64 x.y] 64)) w.heap.size #[.int .i64 x.s, .int .i64 x.n, .int .i64 x.b, .int .i64 x.c, .int .i64 x.a, .int .i64 x.r, .int .i64 x.t, .int .i64 x.y] 64 := Blk.new w _ _
set_option linter.unusedSimpArgs false in
set_option maxHeartbeats 1000000 in
theorem check_any (x : Itm) (w : World) : Calls Try.prog 63 #[x.v] w fun e w' => e = .returned (.int .i64 (chkI x)) ∧ Below w.heap.size w w' := by
 have HP := Lib.hid (fun w => parties_any x w)
 have HN := Lib.hid (fun w => numbers_any x w)
 have HB := Lib.hid (itemB x w)
 have HK := Lib.hid (itemK x w)
 unfold Itm.v at *
 by_cases hp : partsOk x
 ·rw [decide_eq_true hp] at HP
  by_cases hn : numsOk x
  ·rw [decide_eq_true hn] at HN
   have HC : Hid (chkI x = if cycBad x then 90 else 0) := by show _ = _; unfold chkI; rw [if_pos ⟨hp, hn⟩]
   clear hp hn
   go_enter Try.func63, Try.ntmps63
   go_wp2_with fail
   refine (HP.out _).mono ?_
   rintro y w1 ⟨rfl, hb1⟩
   have hk1 := HK.out.below hb1 HK.out.lt
   have HB1 := ktq HB hb1
   have HK1 := Lib.hid hk1
   have c0 : w1.cell? ⟨w.heap.size, 0, none⟩ = some (.int .i64 x.s) := hk1.cell 0
   have c1 : w1.cell? ⟨w.heap.size, 1, none⟩ = some (.int .i64 x.n) := hk1.cell 1
   have c2 : w1.cell? ⟨w.heap.size, 2, none⟩ = some (.int .i64 x.b) := hk1.cell 2
   have c3 : w1.cell? ⟨w.heap.size, 3, none⟩ = some (.int .i64 x.c) := hk1.cell 3
   have c4 : w1.cell? ⟨w.heap.size, 4, none⟩ = some (.int .i64 x.a) := hk1.cell 4
   have c5 : w1.cell? ⟨w.heap.size, 5, none⟩ = some (.int .i64 x.r) := hk1.cell 5
   have c6 : w1.cell? ⟨w.heap.size, 6, none⟩ = some (.int .i64 x.t) := hk1.cell 6
   have c7 : w1.cell? ⟨w.heap.size, 7, none⟩ = some (.int .i64 x.y) := hk1.cell 7
   clear hb1 hk1
   go_wp2_with fail
   refine (HN.out _).mono ?_
   rintro y w2 ⟨rfl, hb2⟩
   have hk2 := HK1.out.below hb2 HK1.out.lt
   have HB2 := ktq HB1 hb2
   have d6 : w2.cell? ⟨w.heap.size, 6, none⟩ = some (.int .i64 x.t) := hk2.cell 6
   have d7 : w2.cell? ⟨w.heap.size, 7, none⟩ = some (.int .i64 x.y) := hk2.cell 7
   clear hb2 hk2 c0 c1 c2 c3 c4 c5 c6 c7
   go_wp2
   all_goals
    go_ret
    refine ⟨retI ?_, HB2.out⟩
    rw [HC.out]
    clear HP HN HB HK HK1 d6 d7
    try simp only [beq_iff_eq, beq_eq_false_iff_ne, bne_iff_ne, bne_eq_false_iff_eq, ne_eq] at *
    by_cases hc : cycBad x
    ·rw [if_pos hc]; all_goals (exfalso; unfold cycBad at hc; omega)
    ·rw [if_neg hc]; all_goals (exfalso; unfold cycBad at hc; omega)
  ·rw [decide_eq_false hn] at HN
   have HC : Hid (chkI x = 1) := by show _ = _; unfold chkI; rw [if_neg (fun h => hn h.2)]
   clear hp hn
   go_enter Try.func63, Try.ntmps63
   go_wp2_with fail
   refine (HP.out _).mono ?_
   rintro y w1 ⟨rfl, hb1⟩
   have hk1 := HK.out.below hb1 HK.out.lt
   have HB1 := ktq HB hb1
   have c0 : w1.cell? ⟨w.heap.size, 0, none⟩ = some (.int .i64 x.s) := hk1.cell 0
   have c1 : w1.cell? ⟨w.heap.size, 1, none⟩ = some (.int .i64 x.n) := hk1.cell 1
   have c2 : w1.cell? ⟨w.heap.size, 2, none⟩ = some (.int .i64 x.b) := hk1.cell 2
   have c3 : w1.cell? ⟨w.heap.size, 3, none⟩ = some (.int .i64 x.c) := hk1.cell 3
   have c4 : w1.cell? ⟨w.heap.size, 4, none⟩ = some (.int .i64 x.a) := hk1.cell 4
   have c5 : w1.cell? ⟨w.heap.size, 5, none⟩ = some (.int .i64 x.r) := hk1.cell 5
   have c6 : w1.cell? ⟨w.heap.size, 6, none⟩ = some (.int .i64 x.t) := hk1.cell 6
   have c7 : w1.cell? ⟨w.heap.size, 7, none⟩ = some (.int .i64 x.y) := hk1.cell 7
   clear hb1 hk1
   go_wp2_with fail
   refine (HN.out _).mono ?_
   rintro y w2 ⟨rfl, hb2⟩
   have HB2 := ktq HB1 hb2
   clear hb2 c0 c1 c2 c3 c4 c5 c6 c7
   go_wp2
   go_ret
   exact ⟨retI HC.out.symm, HB2.out⟩
 ·rw [decide_eq_false hp] at HP
  have HC : Hid (chkI x = 1) := by show _ = _; unfold chkI; rw [if_neg (fun h => hp h.1)]
  clear hp
  go_enter Try.func63, Try.ntmps63
  go_wp2_with fail
  refine (HP.out _).mono ?_
  rintro y w1 ⟨rfl, hb1⟩
  have HB1 := ktq HB hb1
  clear hb1
  go_wp2
  go_ret
  exact ⟨retI HC.out.symm, HB1.out⟩
end Go.Proofs.Ytbpfbebebppleaa
