/- Slices of integers that are only read: what they hold; and that they hold it behind any call that writes only to memory of its own. Blocks of the call's own: what they hold behind each step. An append onto a row of integers of the call's own, of any row: nil, empty or not; in a plain region and where the order is open. What a method that writes one block of its own leaves; a row that lies in a known block. Operations of a region that draws its order, taken in few words. Slices of structs of one kind: each element some cells, as an encoding tells; the call's own slices of them; append. A message as a value. From what a reading tells of a slice of 64-bit numbers to a row. From what a reading tells of a slice of structs or arrays to a row of them. From what a reading tells of a line, of a slice of lines, to rows. Bytes in a slice: between 0 and 255; as natural numbers. From what a reading tells of a slice of integers to a row, whatever their kind. From what a reading tells of a message by value, of its lists, and of a slice of messages, to models and rows. Slices of structs: an element stored, the end cleared. Slices of structs: append, whatever the length. Values that are handed on: which blocks their rows lie in, and what leaves these alone; messages so. Append that tells which block is the new one. Something that is said to a node, as it lies. What fits into a number of 64 bits. money.Sum: what it answers, as a number of any size. vector.compare: the order of positions. Lines: when they fit, which an entity is part of, what it has to have. book.Compare by contract. Vectors as plain lists of positions. cycle.within, compare, Fits by contract. A list of whatever around a name. slices.BinarySearchFunc over lines, by contract. '==' of two lines. slices.IndexFunc, DeleteFunc, Clone over lines by contract; cycle.Mine. Offers: rows of rows of lines; what both have offered. A coordinator's cycles, as they lie: what each has said (HdX), a cycle (RunX), and lists of both in blocks of P. chief's entities, has, open, decision; the closures of offer and vote by contract. slices.Clone of cycles and of what was said by contract; (Chief).with. copy of a whole slice of structs into a row that the call has made. (Chief).run by contract: a cycle with a list of its own of what all have said. slices.Clone of lines and of numbers by contract. (Chief).toAll by contract: to each with lists of its own. What an act of the coordinator answers; (Chief).end by contract. -/
import Derived.Test.YteogdfpkcoodlaaProg
import Derived.WalkKit
import Derived.WalkSpells
import Derived.WalkLawsBesides
import Derived.Laws.Externs
import Derived.Lib.Hide
import Derived.OneCell
import Derived.Deep.RegionLaw
import Derived.Deep.AppendLies
import Derived.Laws.AppendOwnNone
import Derived.Deep.RegionHeld
import Derived.Deep.Light
import Derived.RowKit
import Derived.Lib.AppendZeros
import Derived.ProofKit
import Derived.OpenShut
import Derived.Deep.SlicePairs
import Derived.ChangeSlices
import Derived.ChangeArms
import Derived.Deep.MidRow
import Derived.Lib.SliceRun
import Derived.Deep.RegionWith
import Derived.Deep.RegionHeld3
import Derived.IntWalk
import Derived.Laws.StructEq
import Derived.Deep.CutRange
import Derived.Deep.CutBlock
import Derived.Laws.CopyOwn
namespace Go.Proofs.Yteogdfpkcoodlaa
open Go.RowKit

/-- The slice v holds the numbers zs, each of kind k. -/
def Row (k : IntKind) (w : World) (v : Value) (zs : List Int) : Prop :=
 ∃ p c, v = .slice p zs.length c ∧ zs.length ≤ c ∧ (zs = [] ∨ ∃ b o, p = some ⟨b, o, none⟩ ∧ ∀ i, i < zs.length → w.cell? ⟨b, o + i, none⟩ = some (.int k (zs.getD i 0)))

theorem Row.kept {k : IntKind} {w w' : World} {v : Value} {zs : List Int} (h : Row k w v zs) (hb : Below w.heap.size w w') : Row k w' v zs := by
 obtain ⟨p, c, rfl, hc, h⟩ := h
 refine ⟨p, c, rfl, hc, ?_⟩
 rcases h with h | ⟨b, o, rfl, h⟩
 ·exact .inl h
 ·refine .inr ⟨b, o, rfl, fun i hi => ?_⟩
  have := h i hi
  rw [hb.cell (p := ⟨b, o + i, none⟩) (World.block_lt_of_cell? w _ this)]; exact this

/-- All numbers of the list are of 64 bits. -/
def All64 (zs : List Int) : Prop := ∀ a ∈ zs, -9223372036854775808 ≤ a ∧ a ≤ 9223372036854775807
theorem All64.getD {zs : List Int} (h : All64 zs) (i : Nat) : -9223372036854775808 ≤ zs.getD i 0 ∧ zs.getD i 0 ≤ 9223372036854775807 := by
 rw [List.getD_eq_getElem?_getD]
 by_cases hi : i < zs.length
 ·rw [List.getElem?_eq_getElem hi]; exact h _ (List.getElem_mem hi)
 ·rw [List.getElem?_eq_none (by omega)]; simp
end Go.Proofs.Yteogdfpkcoodlaa
namespace Go.Proofs.Yteogdfpkcoodlaa
open Go.RowKit

theorem drewN_below (B : Nat) (w : World) (n : Nat) : Below B w (w.drewN n) := ⟨rfl, rfl, rfl, Nat.le_refl _, fun _ _ => rfl⟩

theorem seqB {w a b : World} (h : Below w.heap.size w a) (k : Below a.heap.size a b) : Below w.heap.size w b := h.trans (k.mono h.size)
theorem oneB (w : World) (o : Obj) : Below w.heap.size w (w.alloc o) := (Below.refl _ _).alloc (Nat.le_refl _) _

/-- Block b holds the cells cs. -/
def Blk (w : World) (b : Nat) (cs : Array Value) (t : TypeId) : Prop := w.heap[b]? = some (.cells cs t (0, 0))
theorem Blk.lt {w : World} {b : Nat} {cs : Array Value} {t : TypeId} (h : Blk w b cs t) : b < w.heap.size := lt_of_block h
theorem Blk.cell {w : World} {b : Nat} {cs : Array Value} {t : TypeId} (h : Blk w b cs t) (i : Nat) : w.cell? ⟨b, i, none⟩ = cs[i]? := cell_of_row w b i cs t (0, 0) h
theorem Blk.free {w : World} {b : Nat} {cs : Array Value} {t : TypeId} (h : Blk w b cs t) (i : Nat) : w.frozen? ⟨b, i, none⟩ = false := by
 unfold Blk at h; simp [World.frozen?, h]
theorem Blk.new (w : World) (cs : Array Value) (t : TypeId) : Blk (w.alloc (.cells cs t)) w.heap.size cs t := heap_alloc_new w _
theorem Blk.new' (w : World) (cs : Array Value) (t : TypeId) {b : Nat} (hb : b = w.heap.size) : Blk (w.alloc (.cells cs t)) b cs t := by rw [hb]; exact heap_alloc_new w _
theorem Blk.alloc {w : World} {b : Nat} {cs : Array Value} {t : TypeId} (h : Blk w b cs t) (o : Obj) : Blk (w.alloc o) b cs t := (Below.heap_alloc w o b h.lt).trans h
theorem Blk.drew {w : World} {b : Nat} {cs : Array Value} {t : TypeId} (h : Blk w b cs t) : Blk w.drew b cs t := h
theorem Blk.set {w : World} {b : Nat} {cs : Array Value} {t : TypeId} (h : Blk w b cs t) (i : Nat) (u : Value) : Blk (w.setCell ⟨b, i, none⟩ u) b (cs.setIfInBounds i u) t := by
 have hlt := h.lt
 have h' : w.heap[b] = .cells cs t (0, 0) := by unfold Blk at h; simpa [Array.getElem?_eq_getElem hlt] using h
 show (w.heap.modify b _)[b]? = _
 rw [Array.getElem?_eq_getElem (by simpa using hlt), Array.getElem_modify_self, h']
 rfl
theorem Blk.setOther {w : World} {b : Nat} {cs : Array Value} {t : TypeId} (h : Blk w b cs t) {a : Addr} (ha : a.block ≠ b) (u : Value) : Blk (w.setCell a u) b cs t := (Below.heap_setCell w a u b (Ne.symm ha)).trans h
theorem Blk.grown {w w' : World} {b : Nat} {cs : Array Value} {t : TypeId} {row : Option Nat} (h : Blk w b cs t) (hg : w.grownBy w' row) (hr : some b ≠ row) : Blk w' b cs t := (hg.block b h.lt hr).trans h
theorem Blk.below {w w' : World} {B b : Nat} {cs : Array Value} {t : TypeId} (h : Blk w b cs t) (hb : Below B w w') (hlt : b < B) : Blk w' b cs t := (hb.block b hlt).trans h
theorem ownBlock_ne {w : World} {base b : Nat} {e : TypeId} {size : Nat} {v : Value} {n : Nat} {xs : List Value} (h : w.ownsRow base e size v n xs) (hb : b < base) : some b ≠ v.ownBlock := by
 intro e
 have := (h.lt b e.symm).1
 omega
theorem one_new (w : World) (v : Value) (t : TypeId) : ∀ (j : Nat) (u : Value), [v][j]? = some u → (w.alloc (.cells #[v] t)).cell? ((⟨w.heap.size, 0, none⟩ : Addr).add j) = some u := by
 intro j u hj
 match j, hj with
 | 0, hj =>
  simp at hj; subst hj
  show (w.alloc (.cells #[v] t)).cell? ⟨w.heap.size, 0 + 0, none⟩ = _
  rw [World.cell?_alloc_at _ _ _ _ rfl]; rfl
theorem one_cells (k : IntKind) (x : Int) : ∀ u ∈ [Value.int k x], u.oneCell' = true := by intro u hu; simp at hu; subst hu; rfl
/-- What is owned is a slice. -/
theorem owned_slice {w : World} {base : Nat} {e : TypeId} {size : Nat} {v : Value} {n : Nat} {xs : List Value} (h : w.ownsRow base e size v n xs) : ∃ p c, v = .slice p n c := by
 rcases h.2 with ⟨rfl, rfl⟩ | ⟨g, cap, cur, rfl, _⟩
 ·exact ⟨_, _, rfl⟩
 ·exact ⟨_, _, rfl⟩
end Go.Proofs.Yteogdfpkcoodlaa
namespace Go.Proofs.Yteogdfpkcoodlaa
open Go.RowKit

/-- A row that is laid out in a block of its own. -/
theorem Row.laid (k : IntKind) (w : World) (T : TypeId) (zs : List Int) (cs : Array Value) (hcs : cs = (zs.map (Value.int k)).toArray) (fz : Nat × Nat) (n c : Nat) (hn : n = zs.length) (hc : zs.length ≤ c) : Row k (w.alloc (.cells cs T fz)) (.slice (some ⟨w.heap.size, 0, none⟩) n c) zs := by
 subst hn
 refine ⟨_, c, rfl, hc, .inr ⟨_, _, rfl, fun i hi => ?_⟩⟩
 rw [Nat.zero_add, cell_of_row _ w.heap.size i cs T fz (heap_alloc_new w _), hcs]
 simp [List.getD_eq_getElem?_getD, hi]
theorem Row.nil_ (k : IntKind) (w : World) (c : Nat) : Row k w (.slice none 0 c) [] := ⟨none, c, rfl, Nat.zero_le _, .inl rfl⟩
/-- The call's own row v holds the integers zs. -/
def Own (k : IntKind) (w : World) (base : Nat) (e : TypeId) (v : Value) (zs : List Int) : Prop := w.ownsRow base e 1 v zs.length (zs.map (Value.int k))
theorem Own.row {k : IntKind} {w : World} {base : Nat} {e : TypeId} {v : Value} {zs : List Int} (h : Own k w base e v zs) : Row k w v zs := by
 obtain ⟨hl, h⟩ := h
 rcases h with ⟨rfl, h0⟩ | ⟨g, cap, cur, rfl, _, hg, hn, _, _, ht⟩
 ·have : zs = [] := List.length_eq_zero_iff.mp h0
  subst this
  exact ⟨none, 0, rfl, Nat.zero_le _, .inl rfl⟩
 ·refine ⟨_, cap, rfl, hn, .inr ⟨g, 0, rfl, fun i hi => ?_⟩⟩
  rw [Nat.zero_add, cell_of_row w g i cur e (0, 0) hg]
  have := congrArg (fun l => l[i]?) ht
  simp only [List.getElem?_take, Nat.mul_one, if_pos hi, List.getElem?_map] at this
  rw [List.getElem?_eq_getElem hi] at this
  rw [List.getD_eq_getElem?_getD, List.getElem?_eq_getElem hi]
  simpa using this
theorem Row.shape {k : IntKind} {w : World} {v : Value} {zs : List Int} (h : Row k w v zs) : ∃ p c, v = .slice p zs.length c := by obtain ⟨p, c, e, _⟩ := h; exact ⟨p, c, e⟩
theorem Row.under {k : IntKind} {w w' : World} {v : Value} {zs : List Int} {B : Nat} (h : Row k w v zs) (hb : Below B w w') (hB : w.heap.size ≤ B) : Row k w' v zs := h.kept (hb.mono hB)
theorem Own.form {k : IntKind} {w : World} {base : Nat} {e : TypeId} {v : Value} {zs : List Int} (h : Own k w base e v zs) : ∃ p c, v = .slice p zs.length c := owned_slice h
theorem Own.nil_ (k : IntKind) (w : World) (base : Nat) (e : TypeId) : Own k w base e (.slice none 0 0) [] := ⟨by simp, .inl ⟨rfl, rfl⟩⟩
theorem Own.made (k : IntKind) (w : World) (base : Nat) (e : TypeId) (hb : base ≤ w.heap.size) : Own k (w.alloc (.cells #[] e)) base e (.slice (some ⟨w.heap.size, 0, none⟩) 0 0) [] :=
 ⟨by simp, .inr ⟨w.heap.size, 0, #[], rfl, hb, heap_alloc_new w _, Nat.le_refl _, by decide, by simp, by simp⟩⟩
theorem Own.made_at (k : IntKind) (w : World) (b base : Nat) (e : TypeId) (hb : base ≤ b) (h : b = w.heap.size) : Own k (w.alloc (.cells #[] e)) base e (.slice (some ⟨b, 0, none⟩) 0 0) [] := by
 subst h; exact Own.made k w base e hb
theorem Own.block_ge {k : IntKind} {w : World} {base : Nat} {e : TypeId} {v : Value} {zs : List Int} (h : Own k w base e v zs) : ∀ g, v.ownBlock = some g → base ≤ g := by
 intro g hg
 rcases h.2 with ⟨rfl, _⟩ | ⟨g', cap, cur, rfl, hb, _⟩
 ·cases hg
 ·cases hg; exact hb
/-- It stays behind what leaves all of its block as it is. -/
theorem Own.below {k : IntKind} {w w' : World} {base B : Nat} {e : TypeId} {v : Value} {zs : List Int} (h : Own k w base e v zs) (hb : Below B w w') (hB : ∀ g, v.ownBlock = some g → g < B) : Own k w' base e v zs := by
 refine ⟨h.1, ?_⟩
 rcases h.2 with h | ⟨g, cap, cur, rfl, hbg, hg, hr⟩
 ·exact .inl h
 ·exact .inr ⟨g, cap, cur, rfl, hbg, (hb.block g (hB g rfl)).trans hg, hr⟩
theorem Own.lt {k : IntKind} {w : World} {base : Nat} {e : TypeId} {v : Value} {zs : List Int} (h : Own k w base e v zs) : ∀ g, v.ownBlock = some g → g < w.heap.size := fun g hg => (World.ownsRow.lt h g hg).2
theorem Own.later {k : IntKind} {w w' : World} {base : Nat} {e : TypeId} {v : Value} {zs : List Int} (h : Own k w base e v zs) (hb : Below w.heap.size w w') : Own k w' base e v zs := h.below hb h.lt
theorem Own.alloc {k : IntKind} {w : World} {base : Nat} {e : TypeId} {v : Value} {zs : List Int} (h : Own k w base e v zs) (o : Obj) : Own k (w.alloc o) base e v zs := h.later (oneB w o)
theorem Own.drew {k : IntKind} {w : World} {base : Nat} {e : TypeId} {v : Value} {zs : List Int} (h : Own k w base e v zs) : Own k w.drew base e v zs := h

theorem addAt (b o j : Nat) : (⟨b, o, none⟩ : Addr).add j = ⟨b, o + j, none⟩ := by
 unfold Addr.add; split <;> simp_all
/-- Where it lies; what a store into it leaves. -/
theorem Own.at_ {k : IntKind} {w : World} {base n c : Nat} {e : TypeId} {p : Option Addr} {zs : List Int} (h : Own k w base e (.slice p n c) zs) (hn : 0 < n) :
  ∃ g, p = some ⟨g, 0, none⟩ ∧ base ≤ g ∧ g < w.heap.size ∧ zs.length = n := by
 obtain ⟨hl, h⟩ := h
 rcases h with ⟨e, h0⟩ | ⟨g, cap, cur, e, hb, hg, _⟩
 ·cases e; omega
 ·cases e; exact ⟨g, rfl, hb, lt_of_block hg, rfl⟩
theorem Own.cell {k : IntKind} {w : World} {base n c g : Nat} {e : TypeId} {zs : List Int} (h : Own k w base e (.slice (some ⟨g, 0, none⟩) n c) zs) (i : Nat) (hi : i < n) :
  w.cell? ⟨g, i, none⟩ = some (.int k (zs.getD i 0)) ∧ w.frozen? ⟨g, i, none⟩ = false := by
 obtain ⟨hl, h⟩ := h
 rcases h with ⟨e, h0⟩ | ⟨g, cap, cur, e, hb, hg, hn, _, _, ht⟩
 ·cases e
 ·cases e
  refine ⟨?_, by simp [World.frozen?, hg]⟩
  rw [cell_of_row w g i cur _ (0, 0) hg]
  have := congrArg (fun l => l[i]?) ht
  simp only [List.getElem?_take, Nat.mul_one, if_pos hi, List.getElem?_map] at this
  rw [List.getElem?_eq_getElem hi] at this
  rw [List.getD_eq_getElem?_getD, List.getElem?_eq_getElem hi]
  simpa using this
theorem Own.set {k : IntKind} {w : World} {base n c g : Nat} {e : TypeId} {zs : List Int} (h : Own k w base e (.slice (some ⟨g, 0, none⟩) n c) zs) (i : Nat) (u : Int) :
  Own k (w.setCell ⟨g, i, none⟩ (.int k u)) base e (.slice (some ⟨g, 0, none⟩) n c) (zs.set i u) := by
 obtain ⟨hl, h⟩ := h
 rcases h with ⟨e2, h0⟩ | ⟨g, cap, cur, e2, hb, hg, hn, hm, hs, ht⟩
 ·cases e2
 ·cases e2
  have hb2 : Blk w g cur e := hg
  refine ⟨by simp, .inr ⟨g, c, cur.setIfInBounds i (.int k u), by rw [List.length_set], hb, hb2.set i (.int k u), by simpa using hn, hm, by simpa using hs, ?_⟩⟩
  rw [List.length_set, Array.toList_setIfInBounds, List.take_set, ht, List.map_set]
/-- The facts of an element's type. -/
def Elt (P : Program) (t e : TypeId) (k : IntKind) (bytes : Nat) : Prop := ∃ i, P.underlying t = some (.slice e) ∧ P.info? e = some i ∧ i.zero = some (.int k 0) ∧ i.size = 1 ∧ i.bytes = bytes
theorem Row.news {k : IntKind} {w : World} {b o n c : Nat} {zs : List Int} (h : Row k w (.slice (some ⟨b, o, none⟩) n c) zs) : ∀ (j : Nat) (u : Value), (zs.map (Value.int k))[j]? = some u → w.cell? ((⟨b, o, none⟩ : Addr).add j) = some u := by
 intro j u hj
 obtain ⟨p, c', e, _, h⟩ := h
 cases e
 rcases h with rfl | ⟨b', o', e, h⟩
 ·simp at hj
 ·cases e
  have hjl : j < zs.length := by
   rcases Nat.lt_or_ge j zs.length with h | h
   ·exact h
   ·rw [List.getElem?_eq_none (by simp; omega)] at hj; cases hj
  have hc := h j hjl
  rw [List.getElem?_map, List.getElem?_eq_getElem hjl] at hj
  rw [List.getD_eq_getElem?_getD, List.getElem?_eq_getElem hjl] at hc
  rw [addAt, hc]
  simpa using hj
theorem Row.newsAt {k : IntKind} {w : World} {a : Addr} {n c : Nat} {zs : List Int} (h : Row k w (.slice (some a) n c) zs) : ∀ (j : Nat) (u : Value), (zs.map (Value.int k))[j]? = some u → w.cell? (a.add j) = some u := by
 by_cases h0 : zs = []
 ·subst h0; intro j u hj; simp at hj
 ·obtain ⟨p, c', e, _, h1⟩ := id h
  cases e
  rcases h1 with h1 | ⟨b', o', e, _⟩
  ·exact absurd h1 h0
  ·cases e
   exact h.news
theorem ints_onecell (k : IntKind) (zs : List Int) : ∀ u ∈ zs.map (Value.int k), u.oneCell' = true := by
 intro u hu
 obtain ⟨x, _, rfl⟩ := List.mem_map.1 hu
 rfl
/-- The append itself, as a run. -/
theorem run_append_row {P : Program} (w : World) (t ty e : TypeId) (k : IntKind) (bytes base : Nat) (he : Elt P t e k bytes) (v y : Value) (zs ys : List Int) (hown : Own k w base e v zs) (hrow : Row k w y ys)
  (h63 : zs.length + ys.length ≤ 140737488355000) (hbytes : (zs.length + ys.length) * bytes ≤ 140737488355328) (hbase : base ≤ w.heap.size) :
  ∃ v' w', (Builtin.append_ #[t, t] ty #[v, y]).run P w = .ok v' w' ∧ Own k w' base e v' (zs ++ ys) ∧ Below base w w' := by
 obtain ⟨i, ht, hi, hz, hs, hby⟩ := he
 obtain ⟨p, c, rfl, hc, hr⟩ := id hrow
 have h63' : zs.length + ys.length ≤ maxLen := by unfold maxLen; omega
 cases p with
 | some ad =>
  obtain ⟨v', w', hrun, hown', hg, _⟩ := run_append_own_at (P := P) w base t ty e i (.int k 0) 1 bytes ht hi hz hs hby rfl (by decide) v zs.length (zs.map (.int k)) hown ad ys.length c (ys.map (.int k)) (by simp) hrow.newsAt (ints_onecell k ys) h63' hbytes hbase
  refine ⟨v', w', hrun, ?_, (Below.refl _ _).grown hg hbase (fun g hg' => hown.block_ge g hg')⟩
  unfold Own
  rw [List.map_append, List.length_append]
  exact hown'
 | none =>
  have hy : ys = [] := by
   rcases hr with h | ⟨b, o, h, _⟩
   ·exact h
   ·cases h
  subst hy
  refine ⟨v, w, ?_, by simpa using hown, Below.refl _ _⟩
  rcases hown.2 with ⟨rfl, h0⟩ | ⟨g, cap, cur, rfl, _, _, hnc, _⟩
  ·simp [Builtin.append_, run_underlying ht, sizeOf, typeInfo, hi, Builtin.lenOf, Builtin.firstCells]
  ·simp [Builtin.append_, run_underlying ht, sizeOf, typeInfo, hi, Builtin.lenOf, Builtin.firstCells, hnc, storeCells]
/-- In a plain region. -/
theorem wpList_append_row {P : Program} {w : World} {ops : Array Oper} {rest : List Oper} {o : Oper} {a : Act} {Q : Exit → Act → World → Prop} (hgd : o.guard = none) (s x : Operand) (t : TypeId)
  (ho : o.op = .call { callee := .builtin .append, args := #[s, x], argTypes := #[t, t] })
  (e : TypeId) (k : IntKind) (bytes base : Nat) (he : Elt P t e k bytes) (v y : Value) (zs ys : List Int) (hs : a.eval s = v) (hx : a.eval x = y) (hown : Own k w base e v zs) (hrow : Row k w y ys)
  (h63 : zs.length + ys.length ≤ 140737488355000) (hbytes : (zs.length + ys.length) * bytes ≤ 140737488355328) (hbase : base ≤ w.heap.size)
  (L : List Int) (N : Nat) (hL : zs ++ ys = L) (hN : L.length = N)
  (h : ∀ p' c' w', Own k w' base e (.slice p' N c') L → Below base w w' → wpList P ops Q rest (a.put o.dst (.slice p' N c')) w') : wpList P ops Q (o :: rest) a w := by
 subst hL
 subst hN
 refine wpList_plain hgd fun K hK => ?_
 obtain ⟨v', w', hrun, h1, h2⟩ := run_append_row w t o.type e k bytes base he v y zs ys hown hrow h63 hbytes hbase
 unfold Oper.wp
 obtain ⟨p', c', rfl⟩ := h1.form
 simp [execOp, ho, resolve, invoke, builtin, hs, hx, hrun, Result.andThen]
 exact hK _ _ (by simpa using h p' c' w' h1 h2)
/-- Where the order is open. -/
theorem step_append_row {P : Program} {w : World} {ops : Array Oper} {o : Oper} {a : Act} {K : Act → World → Prop} {Q : Exit → Act → World → Prop} {E : Prop} (hgd : o.guard = none) (s x : Operand) (t : TypeId)
  (ho : o.op = .call { callee := .builtin .append, args := #[s, x], argTypes := #[t, t] })
  (e : TypeId) (k : IntKind) (bytes base : Nat) (he : Elt P t e k bytes) (v y : Value) (zs ys : List Int) (hs : a.eval s = v) (hx : a.eval x = y) (hown : Own k w base e v zs) (hrow : Row k w y ys)
  (h63 : zs.length + ys.length ≤ 140737488355000) (hbytes : (zs.length + ys.length) * bytes ≤ 140737488355328) (hbase : base ≤ w.heap.size)
  (L : List Int) (N : Nat) (hL : zs ++ ys = L) (hN : L.length = N)
  (h : ∀ p' c' w', Own k w' base e (.slice p' N c') L → Below base w w' → K (a.put o.dst (.slice p' N c')) w') :
  if Region.wanted o (yielded ops a.tmps) = true then Oper.wp P o a w K Q else E := by
 have hw : Region.wanted o (yielded ops a.tmps) = true := by simp [Region.wanted, hgd]
 rw [if_pos hw]
 subst hL
 subst hN
 obtain ⟨v', w', hrun, h1, h2⟩ := run_append_row w t o.type e k bytes base he v y zs ys hown hrow h63 hbytes hbase
 unfold Oper.wp
 obtain ⟨p', c', rfl⟩ := h1.form
 simp [execOp, ho, resolve, invoke, builtin, hs, hx, hrun, Result.andThen]
 have h3 := h p' c' w' h1 h2
 simp only [List.length_append] at h3
 exact h3
end Go.Proofs.Yteogdfpkcoodlaa
namespace Go.Proofs.Yteogdfpkcoodlaa
open Go.RowKit
/-- Of what was there block g alone may be another one. -/
def Chg (g : Nat) (w w' : World) : Prop := Below 0 w w' ∧ ∀ k, k < w.heap.size → k ≠ g → w'.heap[k]? = w.heap[k]?
theorem Chg.refl (g : Nat) (w : World) : Chg g w w := ⟨Below.refl _ _, fun _ _ _ => rfl⟩
theorem Chg.of_below {g : Nat} {w w' : World} (h : Below w.heap.size w w') : Chg g w w' := ⟨h.mono (Nat.zero_le _), fun k hk _ => h.block k hk⟩
theorem Chg.size {g : Nat} {w w' : World} (h : Chg g w w') : w.heap.size ≤ w'.heap.size := h.1.size
theorem Chg.trans {g : Nat} {w a b : World} (h : Chg g w a) (k : Chg g a b) : Chg g w b := ⟨h.1.trans k.1, fun j hj hg => (k.2 j (Nat.lt_of_lt_of_le hj h.size) hg).trans (h.2 j hj hg)⟩
theorem Chg.set {g : Nat} {w w' : World} (h : Chg g w w') (i : Nat) (v : Value) : Chg g w (w'.setCell ⟨g, i, none⟩ v) :=
 ⟨h.1.setCell (p := ⟨g, i, none⟩) (Nat.zero_le _) v, fun k hk hg => (Below.heap_setCell w' ⟨g, i, none⟩ v k hg).trans (h.2 k hk hg)⟩
theorem Chg.alloc {g : Nat} {w w' : World} (h : Chg g w w') (o : Obj) : Chg g w (w'.alloc o) := h.trans (Chg.of_below (oneB w' o))
theorem Chg.drew {g : Nat} {w w' : World} (h : Chg g w w') : Chg g w w'.drew := ⟨h.1.drew, fun k hk hg => h.2 k hk hg⟩
theorem Chg.below {g B : Nat} {w w' : World} (h : Chg g w w') (hg : B ≤ g) (hB : B ≤ w.heap.size) : Below B w w' :=
 ⟨h.1.1, h.1.2, h.1.3, h.1.4, fun k hk => h.2 k (by omega) (by omega)⟩
theorem Chg.cell {g : Nat} {w w' : World} (h : Chg g w w') {a : Addr} (ha : a.block < w.heap.size) (hg : a.block ≠ g) : w'.cell? a = w.cell? a := World.cell?_of_block (h.2 a.block ha hg)
theorem Blk.chg {w w' : World} {b g : Nat} {cs : Array Value} {t : TypeId} (h : Blk w b cs t) (hc : Chg g w w') (hb : b ≠ g) : Blk w' b cs t := (hc.2 b h.lt hb).trans h
/-- A row that lies in block g0. -/
def RowAt (k : IntKind) (w : World) (g0 : Nat) (v : Value) (zs : List Int) : Prop :=
 ∃ p c, v = .slice p zs.length c ∧ zs.length ≤ c ∧ (zs = [] ∨ ∃ o, p = some ⟨g0, o, none⟩ ∧ ∀ i, i < zs.length → w.cell? ⟨g0, o + i, none⟩ = some (.int k (zs.getD i 0)))
theorem RowAt.row {k : IntKind} {w : World} {g0 : Nat} {v : Value} {zs : List Int} (h : RowAt k w g0 v zs) : Row k w v zs := by
 obtain ⟨p, c, hv, hc, h⟩ := h
 refine ⟨p, c, hv, hc, ?_⟩
 rcases h with h | ⟨o, hp, h⟩
 ·exact .inl h
 ·exact .inr ⟨g0, o, hp, h⟩
theorem RowAt.shape {k : IntKind} {w : World} {g0 : Nat} {v : Value} {zs : List Int} (h : RowAt k w g0 v zs) : ∃ p c, v = .slice p zs.length c := by obtain ⟨p, c, e, _⟩ := h; exact ⟨p, c, e⟩
theorem RowAt.keep {k : IntKind} {w w' : World} {g0 : Nat} {v : Value} {zs : List Int} (h : RowAt k w g0 v zs) (hk : g0 < w.heap.size → w'.heap[g0]? = w.heap[g0]?) : RowAt k w' g0 v zs := by
 obtain ⟨p, c, hv, hc, h⟩ := h
 refine ⟨p, c, hv, hc, ?_⟩
 rcases h with h | ⟨o, hp, h⟩
 ·exact .inl h
 ·refine .inr ⟨o, hp, fun i hi => ?_⟩
  have h1 := h i hi
  rw [World.cell?_of_block (hk (World.block_lt_of_cell? w _ h1))]; exact h1
theorem RowAt.chg {k : IntKind} {w w' : World} {g0 g : Nat} {v : Value} {zs : List Int} (h : RowAt k w g0 v zs) (hc : Chg g w w') (hg : g0 ≠ g) : RowAt k w' g0 v zs := h.keep fun hl => hc.2 g0 hl hg
theorem RowAt.below {k : IntKind} {w w' : World} {g0 B : Nat} {v : Value} {zs : List Int} (h : RowAt k w g0 v zs) (hb : Below B w w') (hB : g0 < w.heap.size → g0 < B) : RowAt k w' g0 v zs := h.keep fun hl => hb.block g0 (hB hl)
theorem RowAt.nil_ (k : IntKind) (w : World) (g0 c : Nat) : RowAt k w g0 (.slice none 0 c) [] := ⟨none, c, rfl, Nat.zero_le _, .inl rfl⟩
/-- What is the call's own lies in a block of its own. -/
theorem Own.rowAt {k : IntKind} {w : World} {base : Nat} {e : TypeId} {v : Value} {zs : List Int} (h : Own k w base e v zs) : ∃ g0, base ≤ g0 ∧ (g0 < w.heap.size ∨ zs = [] ∧ g0 = base) ∧ RowAt k w g0 v zs := by
 obtain ⟨p, c, rfl⟩ := h.form
 by_cases hz : zs.length = 0
 ·have : zs = [] := List.length_eq_zero_iff.mp hz
  subst this
  exact ⟨base, Nat.le_refl _, .inr ⟨rfl, rfl⟩, p, c, rfl, Nat.zero_le _, .inl rfl⟩
 ·obtain ⟨g, rfl, hb, hl, _⟩ := h.at_ (by omega)
  obtain ⟨p', c', e', hc, _⟩ := h.row
  cases e'
  exact ⟨g, hb, .inl hl, _, c, rfl, hc, .inr ⟨0, rfl, fun i hi => by rw [Nat.zero_add]; exact (h.cell i hi).1⟩⟩
/-- A part of a row. -/
theorem RowAt.take {k : IntKind} {w : World} {g0 n c : Nat} {p : Option Addr} {zs : List Int} (h : RowAt k w g0 (.slice p n c) zs) (m : Nat) (hm : m ≤ zs.length) : RowAt k w g0 (.slice p m c) (zs.take m) := by
 obtain ⟨p', c', e, hc, h⟩ := h
 cases e
 refine ⟨p, c, by rw [List.length_take, Nat.min_eq_left hm], by rw [List.length_take]; omega, ?_⟩
 rcases h with h | ⟨o, hp, h⟩
 ·left; rw [h]; simp
 ·refine .inr ⟨o, hp, fun i hi => ?_⟩
  rw [List.length_take] at hi
  rw [h i (by omega), List.getD_eq_getElem?_getD, List.getD_eq_getElem?_getD, List.getElem?_take, if_pos (by omega)]
/-- What lies behind its first so many. -/
def dropP (p : Option Addr) (c m : Nat) : Option Addr := if c = m then p else p.map (·.add m)
theorem RowAt.drop {k : IntKind} {w : World} {g0 n c : Nat} {p : Option Addr} {zs : List Int} (h : RowAt k w g0 (.slice p n c) zs) (m : Nat) (hm : m ≤ zs.length) : RowAt k w g0 (.slice (dropP p c m) (n - m) (c - m)) (zs.drop m) := by
 obtain ⟨p', c', e, hc, h⟩ := h
 cases e
 refine ⟨_, _, by rw [List.length_drop], by rw [List.length_drop]; omega, ?_⟩
 by_cases hz : zs.length = m
 ·left; rw [List.drop_eq_nil_of_le (by omega)]
 ·rcases h with h | ⟨o, hp, h⟩
  ·left; rw [h]; simp
  ·refine .inr ⟨o + m, ?_, fun i hi => ?_⟩
   ·unfold dropP
    rw [if_neg (by omega), hp]
    simp [addAt]
   ·rw [List.length_drop] at hi
    rw [Nat.add_assoc, h (m + i) (by omega), List.getD_eq_getElem?_getD, List.getD_eq_getElem?_getD, List.getElem?_drop]
end Go.Proofs.Yteogdfpkcoodlaa
namespace Go.Proofs.Yteogdfpkcoodlaa
open Go Go.RowKit
section
variable {P : Program} {md : Region.Mode} {ops : Array Oper} {Q : Exit → Act → World → Prop} {S : World → Prop}
/-- What reads only may be taken first. -/
theorem tkq {fuel : Nat} {listed : Array Bool} {a a' : Act} {w : World} {v : Value} {oi : Oper} (i : Nat) (h : wpAnyH P md ops Q S fuel (listed.setIfInBounds i true) a' w)
  (hi : ops[i]? = some oi := by rfl)
  (hb : (Region.noSelect ops && (Region.free md ops listed i && ((Region.ready md ops listed).contains i && Region.wanted oi (yielded ops a.tmps)))) = true := by kernel_rfl)
  (hv : ∀ w, S w → (execOp a.eval oi).run P w = .ok (.value v) w := by
   intro w hSw
   try dsimp only at hSw
   first | (go_simp; done) | (go_simp; with_reducible rfl))
  (ha : a.put oi.dst v = a' := by
   try simp only [Act.put, List.getElem_toArray, List.getElem_cons_succ, List.getElem_cons_zero, List.setIfInBounds_toArray, List.set_cons_zero, List.set_cons_succ]
   try rfl)
  (hQ : ∀ c a w, Q (.panic c) (a.put oi.dst v) w → Q (.panic c) a w := by exact fun _ _ _ h => h)
  (hS : S w := by first | assumption | trivial) : wpAnyH P md ops Q S (fuel + 1) listed a w := by
 simp only [Bool.and_eq_true] at hb
 obtain ⟨h1, h2, h3, h4⟩ := hb
 exact wpAnyH_take hi h1 h2 h3 hQ (Or.inl ⟨h4, hv⟩) hS (by rw [ha]; exact h)
/-- What is not wanted may be passed. -/
theorem tnq {fuel : Nat} {listed : Array Bool} {a a' : Act} {w : World} {oi : Oper} (i : Nat) (h : wpAnyH P md ops Q S fuel (listed.setIfInBounds i true) a' w)
  (hi : ops[i]? = some oi := by rfl)
  (hb : (Region.noSelect ops && (Region.free md ops listed i && ((Region.ready md ops listed).contains i && !Region.wanted oi (yielded ops a.tmps)))) = true := by kernel_rfl)
  (ha : a.put oi.dst undef = a' := by
   try simp only [Act.put, List.getElem_toArray, List.getElem_cons_succ, List.getElem_cons_zero, List.setIfInBounds_toArray, List.set_cons_zero, List.set_cons_succ]
   try rfl)
  (hQ : ∀ c a w, Q (.panic c) (a.put oi.dst undef) w → Q (.panic c) a w := by exact fun _ _ _ h => h)
  (hS : S w := by first | assumption | trivial) : wpAnyH P md ops Q S (fuel + 1) listed a w := by
 simp only [Bool.and_eq_true, Bool.not_eq_true'] at hb
 obtain ⟨h1, h2, h3, h4⟩ := hb
 exact wpAnyH_take hi h1 h2 h3 hQ (Or.inr ⟨h4, rfl⟩) hS (by rw [ha]; exact h)
/-- One operation is ready. -/
theorem rdq {fuel : Nat} {listed : Array Bool} {a : Act} {w : World} {o : Oper} (i : Nat)
  (h : ∀ K' : Act → World → Prop, Shut (∀ a w, S w → (S w → wpAnyH P md ops Q S fuel (listed.setIfInBounds i true) a w) → K' a w) → if Region.wanted o (yielded ops a.tmps) = true then Oper.wp P o a w K' Q else K' (a.put o.dst undef) w)
  (hr : Region.ready md ops listed = [i] := by kernel_rfl) (ho : ops[i]? = some o := by rfl) : wpAnyH P md ops Q S (fuel + 1) listed a w :=
 wpAnyH_ready hr (by simp) (AllReadyH.cons ho h AllReadyH.nil)
end
theorem kbq {w w' : World} {b : Nat} {cs : Array Value} {t : TypeId} (h : Hid (Blk w b cs t)) (hb : Below w.heap.size w w') : Hid (Blk w' b cs t) := Lib.hid (h.out.below hb h.out.lt)
theorem kcq {w w' : World} {b g : Nat} {cs : Array Value} {t : TypeId} (h : Hid (Blk w b cs t)) (hc : Hid (Chg g w w')) (hn : b ≠ g) : Hid (Blk w' b cs t) := Lib.hid (h.out.chg hc.out hn)
theorem ktq {w a c : World} (h : Hid (Below w.heap.size w a)) (hb : Below a.heap.size a c) : Hid (Below w.heap.size w c) := Lib.hid (h.out.trans (hb.mono h.out.size))
theorem ksq {g : Nat} {w a c : World} (h : Hid (Below w.heap.size w a)) (hc : Hid (Chg g a c)) (hg : w.heap.size ≤ g) : Hid (Below w.heap.size w c) := Lib.hid (h.out.trans (hc.out.below hg h.out.size))
theorem kzq {B : Nat} {w a : World} (h : Hid (B ≤ w.heap.size)) (hb : w.heap.size ≤ a.heap.size) : Hid (B ≤ a.heap.size) := Lib.hid (Nat.le_trans h.out hb)
end Go.Proofs.Yteogdfpkcoodlaa
namespace Go.Proofs.Yteogdfpkcoodlaa
open Go.RowKit
/-- How an element lies in cells. -/
structure Enc (α : Type) where
 k : Nat
 E : α → List Value
 pos : 0 < k
 len : ∀ x, (E x).length = k
 one : ∀ x, ∀ u ∈ E x, u.oneCell' = true
def TRow {α : Type} (e : Enc α) (w : World) (v : Value) (xs : List α) : Prop :=
 ∃ p c, v = .slice p xs.length c ∧ xs.length ≤ c ∧ (xs = [] ∨ ∃ b o, p = some ⟨b, o, none⟩ ∧ b < w.heap.size ∧ ∀ i (h : i < xs.length) t, t < e.k → w.cell? ⟨b, o + i * e.k + t, none⟩ = (e.E xs[i])[t]?)
section
variable {α : Type} {e : Enc α}
theorem TRow.shape {w : World} {v : Value} {xs : List α} (h : TRow e w v xs) : ∃ p c, v = .slice p xs.length c := by obtain ⟨p, c, e, _⟩ := h; exact ⟨p, c, e⟩
theorem TRow.kept {w w' : World} {v : Value} {xs : List α} (h : TRow e w v xs) (hb : Below w.heap.size w w') : TRow e w' v xs := by
 obtain ⟨p, c, rfl, hc, h⟩ := h
 refine ⟨p, c, rfl, hc, ?_⟩
 rcases h with h | ⟨b, o, rfl, hlt, h⟩
 ·exact .inl h
 ·exact .inr ⟨b, o, rfl, Nat.lt_of_lt_of_le hlt hb.size, fun i hi t ht => (hb.cell (p := ⟨b, _, none⟩) hlt).trans (h i hi t ht)⟩
theorem TRow.nil_ (e : Enc α) (w : World) : TRow e w (.slice none 0 0) [] := ⟨none, 0, rfl, Nat.le_refl _, .inl rfl⟩
theorem TRow.cap {w : World} {p : Option Addr} {n c : Nat} {xs : List α} (h : TRow e w (.slice p n c) xs) : xs.length ≤ c := by
 obtain ⟨p', c', e1, hc, _⟩ := h
 cases e1
 exact hc
theorem TRow.at_ {w : World} {p : Option Addr} {n c : Nat} {xs : List α} (h : TRow e w (.slice p n c) xs) (i : Nat) (hi : i < xs.length) : ∃ b o, p = some ⟨b, o, none⟩ ∧ b < w.heap.size ∧ ∀ t, t < e.k → w.cell? ⟨b, o + i * e.k + t, none⟩ = (e.E xs[i])[t]? := by
 obtain ⟨p', c', e1, _, h⟩ := h
 cases e1
 rcases h with h | ⟨b, o, hp, hlt, h⟩
 ·subst h; simp at hi
 ·exact ⟨b, o, hp, hlt, h i hi⟩
/-- A part of it. -/
theorem TRow.take {w : World} {p : Option Addr} {n c : Nat} {xs : List α} (h : TRow e w (.slice p n c) xs) (m : Nat) (hm : m ≤ xs.length) : TRow e w (.slice p m c) (xs.take m) := by
 obtain ⟨p', c', e1, hc, h⟩ := h
 cases e1
 have hl : (xs.take m).length = m := by rw [List.length_take]; omega
 refine ⟨p, c, by rw [hl], by omega, ?_⟩
 rcases h with h | ⟨b, o, hp, hlt, h⟩
 ·left; rw [h]; simp
 ·refine .inr ⟨b, o, hp, hlt, fun i hi t ht => ?_⟩
  rw [List.getElem_take]
  exact h i (by omega) t ht
theorem TRow.tail {w : World} {p P : Option Addr} {n c c' N : Nat} {xs : List α} (h : TRow e w (.slice p n c) xs) (m : Nat) (hm : m ≤ xs.length) (hN : N = xs.length - m) (hc : N ≤ c') (hP : ∀ b o, p = some ⟨b, o, none⟩ → m < xs.length → P = some ⟨b, o + m * e.k, none⟩) : TRow e w (.slice P N c') (xs.drop m) := by
 have hl : (xs.drop m).length = xs.length - m := List.length_drop
 subst hN
 refine ⟨P, c', by rw [hl], by omega, ?_⟩
 by_cases hlt : m < xs.length
 ·right
  obtain ⟨b, o, rfl, hb, _⟩ := h.at_ m hlt
  refine ⟨b, _, hP b o rfl hlt, hb, fun i hi t ht => ?_⟩
  obtain ⟨b2, o2, e2, _, hx⟩ := h.at_ (m + i) (by omega)
  cases e2
  rw [List.getElem_drop, show o + m * e.k + i * e.k + t = o + (m + i) * e.k + t by rw [Nat.add_mul]; omega]
  exact hx t ht
 ·left
  exact List.drop_of_length_le (by omega)
def OwnT (e : Enc α) (w : World) (base : Nat) (ty : TypeId) (v : Value) (xs : List α) : Prop := w.ownsRow base ty e.k v xs.length (xs.flatMap e.E)
theorem flat_length (e : Enc α) (xs : List α) : (xs.flatMap e.E).length = xs.length * e.k := by
 induction xs with
 | nil => simp
 | cons x xs ih => rw [List.flatMap_cons, List.length_append, ih, e.len, List.length_cons, Nat.add_mul]; omega
theorem flat_get (e : Enc α) : ∀ (xs : List α) (i t : Nat) (hi : i < xs.length), t < e.k → (xs.flatMap e.E)[i * e.k + t]? = (e.E xs[i])[t]?
 | x :: xs, 0, t, _, ht => by
  rw [List.flatMap_cons, Nat.zero_mul, Nat.zero_add, List.getElem?_append_left (by rw [e.len]; exact ht)]
  rfl
 | x :: xs, i + 1, t, hi, ht => by
  have := flat_get e xs i t (by simpa using hi) ht
  rw [List.flatMap_cons, List.getElem?_append_right (by rw [e.len, Nat.add_mul]; omega), e.len, show (i + 1) * e.k + t - e.k = i * e.k + t by rw [Nat.add_mul]; omega, this]
  rfl
theorem flat_one (e : Enc α) (xs : List α) : ∀ u ∈ xs.flatMap e.E, u.oneCell' = true := by
 intro u hu
 obtain ⟨x, _, hx⟩ := List.mem_flatMap.1 hu
 exact e.one x u hx
theorem OwnT.form {w : World} {base : Nat} {ty : TypeId} {v : Value} {xs : List α} (h : OwnT e w base ty v xs) : ∃ p c, v = .slice p xs.length c := by
 obtain ⟨_, h⟩ := h
 rcases h with ⟨rfl, h0⟩ | ⟨g, cap, cur, rfl, _⟩
 ·exact ⟨none, 0, by rw [h0]⟩
 ·exact ⟨_, _, rfl⟩
theorem OwnT.nil_ (e : Enc α) (w : World) (base : Nat) (ty : TypeId) : OwnT e w base ty (.slice none 0 0) [] := ⟨by simp, .inl ⟨rfl, rfl⟩⟩
theorem OwnT.block_ge {w : World} {base : Nat} {ty : TypeId} {v : Value} {xs : List α} (h : OwnT e w base ty v xs) : ∀ g, v.ownBlock = some g → base ≤ g := by
 intro g hg
 rcases h.2 with ⟨rfl, _⟩ | ⟨g', cap, cur, rfl, hb, _⟩
 ·cases hg
 ·cases hg; exact hb
theorem OwnT.lt {w : World} {base : Nat} {ty : TypeId} {v : Value} {xs : List α} (h : OwnT e w base ty v xs) : ∀ g, v.ownBlock = some g → g < w.heap.size := fun g hg => (World.ownsRow.lt h g hg).2
theorem OwnT.stay {w w' : World} {base : Nat} {ty : TypeId} {v : Value} {xs : List α} (h : OwnT e w base ty v xs) (hk : ∀ g, v.ownBlock = some g → w'.heap[g]? = w.heap[g]?) : OwnT e w' base ty v xs := by
 refine ⟨h.1, ?_⟩
 rcases h.2 with h | ⟨g, cap, cur, rfl, hbg, hg, hr⟩
 ·exact .inl h
 ·exact .inr ⟨g, cap, cur, rfl, hbg, (hk g rfl).trans hg, hr⟩
theorem OwnT.later {w w' : World} {base : Nat} {ty : TypeId} {v : Value} {xs : List α} (h : OwnT e w base ty v xs) (hb : Below w.heap.size w w') : OwnT e w' base ty v xs := h.stay (fun g hg => hb.block g (h.lt g hg))
theorem OwnT.less {w : World} {base base' : Nat} {ty : TypeId} {v : Value} {xs : List α} (h : OwnT e w base ty v xs) (hb : base' ≤ base) : OwnT e w base' ty v xs := by
 refine ⟨h.1, ?_⟩
 rcases h.2 with h | ⟨g, cap, cur, rfl, hbg, hg, hr⟩
 ·exact .inl h
 ·exact .inr ⟨g, cap, cur, rfl, Nat.le_trans hb hbg, hg, hr⟩
theorem OwnT.row {w : World} {base : Nat} {ty : TypeId} {v : Value} {xs : List α} (h : OwnT e w base ty v xs) : TRow e w v xs := by
 obtain ⟨hl, h⟩ := h
 rcases h with ⟨rfl, h0⟩ | ⟨g, cap, cur, rfl, _, hg, hn, _, _, ht⟩
 ·have : xs = [] := List.length_eq_zero_iff.mp h0
  subst this
  exact TRow.nil_ e w
 ·refine ⟨_, cap, rfl, hn, .inr ⟨g, 0, rfl, lt_of_block hg, fun i hi t ht3 => ?_⟩⟩
  have hlt : i * e.k + t < xs.length * e.k := Nat.lt_of_lt_of_le (show i * e.k + t < (i + 1) * e.k by rw [Nat.add_mul]; omega) (Nat.mul_le_mul_right _ hi)
  rw [Nat.zero_add, cell_of_row w g _ cur ty (0, 0) hg]
  have h1 := congrArg (fun l => l[i * e.k + t]?) ht
  simp only [List.getElem?_take] at h1
  rw [if_pos hlt, flat_get e xs i t hi ht3] at h1
  simpa using h1
theorem TRow.newsAt {w : World} {a : Addr} {n c : Nat} {xs : List α} (h : TRow e w (.slice (some a) n c) xs) : ∀ (j : Nat) (u : Value), (xs.flatMap e.E)[j]? = some u → w.cell? (a.add j) = some u := by
 intro j u hj
 have hk := e.pos
 have hjl : j < xs.length * e.k := by
  rcases Nat.lt_or_ge j (xs.length * e.k) with h | h
  ·exact h
  ·rw [List.getElem?_eq_none (by rw [flat_length]; exact h)] at hj; cases hj
 have hi : j / e.k < xs.length := (Nat.div_lt_iff_lt_mul hk).2 hjl
 have hm : j % e.k < e.k := Nat.mod_lt _ hk
 obtain ⟨b, o, e1, _, hx⟩ := h.at_ (j / e.k) hi
 cases e1
 have e3 : j / e.k * e.k + j % e.k = j := by rw [Nat.mul_comm]; exact Nat.div_add_mod j e.k
 have hj2 := flat_get e xs (j / e.k) (j % e.k) hi hm
 rw [e3, hj] at hj2
 rw [addAt, hj2, ← hx _ hm, Nat.add_assoc, e3]
/-- The cells of one element, in a block. -/
theorem TRow.one_ (e : Enc α) {w : World} {b c : Nat} {cs : Array Value} {ty : TypeId} (x : α) (hB : Blk w b cs ty) (hcs : cs.toList = e.E x) (hc : 1 ≤ c) : TRow e w (.slice (some ⟨b, 0, none⟩) 1 c) [x] := by
 refine ⟨_, c, rfl, hc, .inr ⟨b, 0, rfl, hB.lt, fun i hi t ht => ?_⟩⟩
 have h0 : i = 0 := by simp at hi; exact hi
 subst h0
 rw [Nat.zero_mul, Nat.zero_add, hB.cell, ← Array.getElem?_toList, hcs]
 rfl
def EltT (e : Enc α) (P : Program) (t ty : TypeId) (z : Value) (bytes : Nat) : Prop := ∃ i, P.underlying t = some (.slice ty) ∧ P.info? ty = some i ∧ i.zero = some z ∧ i.size = e.k ∧ i.bytes = bytes
theorem eltT_mk {e : Enc α} {P : Program} {t ty : TypeId} {z : Value} {bytes : Nat} (ht : P.underlying t = some (.slice ty)) (h : (P.info? ty).map (fun i => (i.zero, i.size, i.bytes)) = some (some z, e.k, bytes)) : EltT e P t ty z bytes := by
 cases hi : P.info? ty with
 | none => rw [hi] at h; cases h
 | some i =>
  rw [hi] at h
  simp only [Option.map_some, Option.some.injEq, Prod.mk.injEq] at h
  exact ⟨i, ht, hi, h.1, h.2.1, h.2.2⟩
theorem run_append_t {P : Program} (w : World) (t r ty : TypeId) (z : Value) (bytes base : Nat) (he : EltT e P t ty z bytes) (hzs : z.cells.size = e.k) (hb8 : bytes ≤ 1000) (v y : Value) (xs ys : List α) (hown : OwnT e w base ty v xs) (hrow : TRow e w y ys)
  (h63 : xs.length + ys.length ≤ 1000000) (hbase : base ≤ w.heap.size) :
  ∃ v' w', (Builtin.append_ #[t, t] r #[v, y]).run P w = .ok v' w' ∧ OwnT e w' base ty v' (xs ++ ys) ∧ w.grownBy w' v.ownBlock ∧ (v'.ownBlock = v.ownBlock ∨ v'.ownBlock = some w.heap.size) := by
 obtain ⟨i, ht, hi, hz, hs, hby⟩ := he
 obtain ⟨p, c, rfl, hc, hr⟩ := id hrow
 have hbytes : (xs.length + ys.length) * bytes ≤ 140737488355328 := by
  have : (xs.length + ys.length) * bytes ≤ 1000000 * 1000 := Nat.mul_le_mul h63 hb8
  omega
 cases p with
 | some ad =>
  obtain ⟨v', w', hrun, hown', hg, _, hor⟩ := run_append_own_at (P := P) w base t r ty i z e.k bytes ht hi hz hs hby hzs e.pos v xs.length (xs.flatMap e.E) hown ad ys.length c (ys.flatMap e.E) (flat_length e ys) hrow.newsAt (flat_one e ys) (by unfold maxLen; omega) hbytes hbase
  refine ⟨v', w', hrun, ?_, hg, hor⟩
  unfold OwnT
  rw [List.flatMap_append, List.length_append]
  exact hown'
 | none =>
  have hy : ys = [] := by
   rcases hr with h | ⟨b, o, h, _⟩
   ·exact h
   ·cases h
  subst hy
  refine ⟨v, w, ?_, by simpa using hown, World.grownBy.refl _ _, .inl rfl⟩
  rcases hown.2 with ⟨rfl, h0⟩ | ⟨g, cap, cur, rfl, _, _, hnc, _⟩
  ·simp [Builtin.append_, run_underlying ht, sizeOf, typeInfo, hi, Builtin.lenOf, Builtin.firstCells]
  ·simp [Builtin.append_, run_underlying ht, sizeOf, typeInfo, hi, Builtin.lenOf, Builtin.firstCells, hnc, storeCells]
/-- In a plain region. -/
theorem wpList_append_t {P : Program} {w : World} {ops : Array Oper} {rest : List Oper} {o : Oper} {a : Act} {Q : Exit → Act → World → Prop} (hgd : o.guard = none) (s x : Operand) (t : TypeId)
  (ho : o.op = .call { callee := .builtin .append, args := #[s, x], argTypes := #[t, t] })
  (ty : TypeId) (z : Value) (bytes base : Nat) (he : EltT e P t ty z bytes) (hzs : z.cells.size = e.k) (hb8 : bytes ≤ 1000) (v y : Value) (xs ys : List α) (hs : a.eval s = v) (hx : a.eval x = y) (hown : OwnT e w base ty v xs) (hrow : TRow e w y ys)
  (h63 : xs.length + ys.length ≤ 1000000) (hbase : base ≤ w.heap.size) (L : List α) (N : Nat) (hL : xs ++ ys = L) (hN : L.length = N)
  (h : ∀ p' c' w', OwnT e w' base ty (.slice p' N c') L → w.grownBy w' v.ownBlock → Below base w w' → wpList P ops Q rest (a.put o.dst (.slice p' N c')) w') : wpList P ops Q (o :: rest) a w := by
 subst hL
 subst hN
 refine wpList_plain hgd fun K hK => ?_
 obtain ⟨v', w', hrun, h1, h2, _⟩ := run_append_t w t o.type ty z bytes base he hzs hb8 v y xs ys hown hrow h63 hbase
 unfold Oper.wp
 obtain ⟨p', c', rfl⟩ := h1.form
 simp [execOp, ho, resolve, invoke, builtin, hs, hx, hrun, Result.andThen]
 exact hK _ _ (by simpa using h p' c' w' h1 h2 ((Below.refl _ _).grown h2 hbase (fun g hg' => hown.block_ge g hg')))
/-- Slices in a slice: each the address of a row. -/
def RowsT (e : Enc α) (w : World) (b o : Nat) (vs : List Value) (xss : List (List α)) : Prop :=
 vs.length = xss.length ∧ ∀ i, i < xss.length → w.cell? ⟨b, o + i, none⟩ = some (vs.getD i undef) ∧ TRow e w (vs.getD i undef) (xss.getD i [])
theorem RowsT.two {w : World} {b : Nat} {cs : Array Value} {ty : TypeId} {v1 v2 : Value} {x1 x2 : List α} (hB : Blk w b cs ty) (hcs : cs = #[v1, v2]) (h1 : TRow e w v1 x1) (h2 : TRow e w v2 x2) : RowsT e w b 0 [v1, v2] [x1, x2] := by
 subst hcs
 refine ⟨rfl, fun i hi => ?_⟩
 match i, hi with
 | 0, _ => exact ⟨hB.cell 0, h1⟩
 | 1, _ => exact ⟨hB.cell 1, h2⟩
theorem RowsT.three {w : World} {b : Nat} {cs : Array Value} {ty : TypeId} {v1 v2 v3 : Value} {x1 x2 x3 : List α} (hB : Blk w b cs ty) (hcs : cs = #[v1, v2, v3]) (h1 : TRow e w v1 x1) (h2 : TRow e w v2 x2) (h3 : TRow e w v3 x3) : RowsT e w b 0 [v1, v2, v3] [x1, x2, x3] := by
 subst hcs
 refine ⟨rfl, fun i hi => ?_⟩
 match i, hi with
 | 0, _ => exact ⟨hB.cell 0, h1⟩
 | 1, _ => exact ⟨hB.cell 1, h2⟩
 | 2, _ => exact ⟨hB.cell 2, h3⟩
def catT (xss : List (List α)) (k : Nat) : List α := (xss.take k).flatten
theorem catT_succ (xss : List (List α)) (k : Nat) (h : k < xss.length) : catT xss k ++ xss.getD k [] = catT xss (k + 1) := by
 unfold catT
 rw [List.take_succ_eq_append_getElem h, List.flatten_append, List.getD_eq_getElem?_getD, List.getElem?_eq_getElem h]; simp
theorem catT_len (xss : List (List α)) (k : Nat) (h : k < xss.length) : (catT xss (k + 1)).length = (catT xss k).length + (xss.getD k []).length := by rw [← catT_succ xss k h, List.length_append]
theorem catT_le (xss : List (List α)) (k : Nat) : (catT xss k).length ≤ xss.flatten.length := by
 unfold catT
 have : xss.flatten = (xss.take k).flatten ++ (xss.drop k).flatten := by rw [← List.flatten_append, List.take_append_drop]
 rw [this, List.length_append]; omega
def CatRelT (e : Enc α) (ty : TypeId) (w : World) (xss : List (List α)) (k : Nat) (v : Value) (wr : World) : Prop := OwnT e wr w.heap.size ty v (catT xss k) ∧ Below w.heap.size w wr
end
end Go.Proofs.Yteogdfpkcoodlaa
namespace Go.Proofs.Yteogdfpkcoodlaa
open Go.RowKit
/-- A line: seller, number, buyer, amount. -/
structure Lin where
 s : Int
 n : Int
 b : Int
 a : Int
def Lin.cells (x : Lin) : List Value := [.int .i64 x.s, .int .i64 x.n, .int .i64 x.b, .int .i64 x.a]
def encN : Enc Lin := ⟨4, Lin.cells, by decide, fun _ => rfl, by intro x u hu; simp [Lin.cells] at hu; rcases hu with rfl | rfl | rfl | rfl <;> rfl⟩
def I64 (z : Int) : Prop := -9223372036854775808 ≤ z ∧ z ≤ 9223372036854775807
def Lin.Fit (x : Lin) : Prop := I64 x.s ∧ I64 x.n ∧ I64 x.b ∧ I64 x.a
structure Msg where
 k : Int
 s : Int
 n : Int
 b : Int
 c : Int
 r : Int
 y : Int
 a : Int
 t : Bool
 ls : List Lin
 ns : List Int
def Msg.cells (m : Msg) (vl vn : Value) : List Value := [.int .i64 m.k, .int .i64 m.s, .int .i64 m.n, .int .i64 m.b, .int .i64 m.c, .int .i64 m.r, .int .i64 m.y, .int .i64 m.a, .bool m.t, vl, vn]
def Msg.v (m : Msg) (vl vn : Value) : Value := .agg #[.int .i64 m.k, .int .i64 m.s, .int .i64 m.n, .int .i64 m.b, .int .i64 m.c, .int .i64 m.r, .int .i64 m.y, .int .i64 m.a, .bool m.t, vl, vn]
def Msg.Fit (m : Msg) : Prop := (I64 m.k ∧ I64 m.s ∧ I64 m.n ∧ I64 m.b ∧ I64 m.c ∧ I64 m.r ∧ I64 m.y ∧ I64 m.a) ∧ (∀ x ∈ m.ls, x.Fit) ∧ (∀ z ∈ m.ns, I64 z)
end Go.Proofs.Yteogdfpkcoodlaa
namespace Go.Proofs.Yteogdfpkcoodlaa
open Go.ChangeShapes Go.WideShapes Go.ChangeAt Go.RowKit
theorem row_of_open {W : World} (x : Addr) (zs : List Int) {len cap : Nat} (hz : zs.length = cap) (hl : len ≤ cap) (hcell : ∀ i, i < zs.length → W.cell? (x.add i) = some (.int .i64 (zs.getD i 0))) (hwz : ∀ n ∈ zs, (Lit.int .i64 n).wf = true) :
  ∃ ys, Row .i64 W (.slice (some x) len cap) ys ∧ All64 ys := by
 have hlen : (zs.take len).length = len := by rw [List.length_take]; omega
 refine ⟨zs.take len, ⟨some x, cap, by rw [hlen], by omega, ?_⟩, fun a ha => bounds_i64 (hwz a (List.mem_of_mem_take ha))⟩
 by_cases h0 : len = 0
 ·left; subst h0; simp
 ·obtain ⟨b, off, rfl, hc⟩ := ints_at hcell (by omega)
  refine .inr ⟨b, off, rfl, fun i hi => ?_⟩
  rw [hlen] at hi
  rw [hc i (by omega), List.getD_eq_getElem?_getD, List.getD_eq_getElem?_getD, List.getElem?_take, if_pos hi]
end Go.Proofs.Yteogdfpkcoodlaa
namespace Go.Proofs.Yteogdfpkcoodlaa
open Go.ChangeShapes Go.WideShapes Go.ChangeAt Go.RowKit
theorem trow_of_open {α : Type} {H : Type} {enc : TypeId × Value → H} {P : Program} {w : World} {base : Nat} {held : Bool} {t e : TypeId} {fuel : Nat} {a : Option Addr} {len cap : Nat} {x : DataW H × List MemPlace} (E : Enc α) (F : α → Prop)
  (ht : P.underlying t = some (.slice e)) (ce : P.cellsOf e = E.k)
  (rd : ∀ (fuel : Nat) (cs : List Value) (y : DataW H × List MemPlace), cs.length = E.k → DataW.trod enc P w base (fun _ => true) held fuel e cs = some y → ∃ a, cs = E.E a ∧ F a)
  (h : DataW.trod enc P w base (fun _ => true) held fuel t (Value.slice a len cap).cells.toList = some x) : ∃ xs, TRow E w (.slice a len cap) xs ∧ ∀ x ∈ xs, F x := by
 have h' : DataW.trod enc P w base (fun _ => true) held fuel t [.slice a len cap] = some x := by simpa [Value.cells] using h
 rcases Go.Deep.open_slice ht h' with ⟨hcs, _⟩ | ⟨a', len', cap', m, n, D, Pl, hcs, hb, hl, hm, hmm, rfl, hx⟩
 ·simp at hcs
  obtain ⟨rfl, rfl, rfl⟩ := hcs
  exact ⟨[], TRow.nil_ E w, (fun _ h => by cases h)⟩
 ·simp at hcs
  obtain ⟨rfl, rfl, rfl⟩ := hcs
  have hlm : len ≤ m := by rw [hmm]; split <;> omega
  have each : ∀ i, i < m → ∃ y : α, F y ∧ ∀ t, t < E.k → w.cell? (a'.add (i * E.k + t)) = (E.E y)[t]? := by
   intro i hi
   obtain ⟨cs', h1, h2⟩ := hx i hi
   rw [ce] at h1
   obtain ⟨_, hlen, hcell⟩ := World.cells?_some h1
   obtain ⟨y, rfl, hF⟩ := rd _ _ _ hlen h2
   refine ⟨y, hF, fun t ht => ?_⟩
   have e0 := hcell t (by omega)
   rw [Go.Deep.add_add] at e0
   rw [e0, List.getElem?_eq_getElem (by rw [E.len]; exact ht)]
  by_cases h0 : len = 0
  ·subst h0
   exact ⟨[], ⟨_, _, rfl, Nat.zero_le _, .inl rfl⟩, (fun _ h => by cases h)⟩
  ·obtain ⟨q0, _⟩ := each 0 (by omega)
   have each' : ∀ i, ∃ y : α, i < m → F y ∧ ∀ t, t < E.k → w.cell? (a'.add (i * E.k + t)) = (E.E y)[t]? := by
    intro i
    by_cases hi : i < m
    ·obtain ⟨y, hy⟩ := each i hi
     exact ⟨y, fun _ => hy⟩
    ·exact ⟨q0, fun h => absurd h hi⟩
   let q : Nat → α := fun i => Classical.choose (each' i)
   have hq : ∀ i, i < m → F (q i) ∧ ∀ t, t < E.k → w.cell? (a'.add (i * E.k + t)) = (E.E (q i))[t]? := fun i => Classical.choose_spec (each' i)
   have hL : ((List.range len).map q).length = len := by simp
   refine ⟨(List.range len).map q, ⟨some a', cap, by rw [hL], by rw [hL]; exact hl, .inr ?_⟩, fun z hz => ?_⟩
   ·obtain ⟨b, off, spot⟩ := a'
    have hk := E.pos
    have h00 := (hq 0 (by omega)).2 0 hk
    rw [List.getElem?_eq_getElem (by rw [E.len]; exact hk)] at h00
    have hspot : spot = none := by simpa [Addr.add] using World.cell?_spot h00
    subst hspot
    refine ⟨b, off, rfl, ?_, fun i hi t ht => ?_⟩
    ·rw [addAt] at h00
     exact World.block_lt_of_cell? w _ h00
    ·rw [hL] at hi
     have := (hq i (by omega)).2 t ht
     rw [addAt] at this
     rw [Nat.add_assoc, this]
     simp
   ·obtain ⟨i, hi, rfl⟩ := List.mem_map.1 hz
    exact (hq i (by have := List.mem_range.1 hi; omega)).1
end Go.Proofs.Yteogdfpkcoodlaa
namespace Go.Proofs.Yteogdfpkcoodlaa
open Go.ChangeShapes Go.WideShapes Go.ChangeAt Go.RowKit
section
variable {H : Type} {enc : TypeId × Value → H} {P : Program} {w : World} {base : Nat} {held : Bool}
theorem lin_read {t : TypeId} {g f0 f1 f2 f3 : Field}
  (ht : P.underlying t = some (.struct #[g, f2, f3])) (hg : P.underlying g.type = some (.struct #[f0, f1]))
  (og : g.offset = 0) (o0 : f0.offset = 0) (o1 : f1.offset = 1) (o2 : f2.offset = 2) (o3 : f3.offset = 3)
  (u0 : P.underlying f0.type = some (.int .i64)) (u1 : P.underlying f1.type = some (.int .i64)) (u2 : P.underlying f2.type = some (.int .i64)) (u3 : P.underlying f3.type = some (.int .i64))
  (cc : P.cellsOf g.type = 2 ∧ P.cellsOf f0.type = 1 ∧ P.cellsOf f1.type = 1 ∧ P.cellsOf f2.type = 1 ∧ P.cellsOf f3.type = 1)
  (fuel : Nat) (cs : List Value) (y : DataW H × List MemPlace) (hl : cs.length = 4) (hf : DataW.trod enc P w base (fun _ => true) held fuel t cs = some y) : ∃ x : Lin, cs = x.cells ∧ x.Fit := by
 obtain ⟨cg, c0, c1, c2, c3⟩ := cc
 match cs, hl with
 | [v0, v1, v2, v3], _ =>
  obtain ⟨xs, k, hk, hxy, _, hxl, hf⟩ := DataW.trod_struct ht hf
  match xs, hxl with
  | [yg, y2, y3], _ =>
   have gg := hf 0 g rfl
   have g2 := hf 1 f2 rfl
   have g3 := hf 2 f3 rfl
   simp [og, o2, o3, cg, c2, c3] at gg g2 g3
   obtain ⟨xs', k', hk', hxy', _, hxl', hf'⟩ := DataW.trod_struct hg gg
   match xs', hxl' with
   | [y0, y1], _ =>
    have g0 := hf' 0 f0 rfl
    have g1 := hf' 1 f1 rfl
    simp [o0, o1, c0, c1] at g0 g1
    obtain ⟨z0, q0, _, w0⟩ := DataW.trod_int u0 g0
    obtain ⟨z1, q1, _, w1⟩ := DataW.trod_int u1 g1
    obtain ⟨z2, q2, _, w2⟩ := DataW.trod_int u2 g2
    obtain ⟨z3, q3, _, w3⟩ := DataW.trod_int u3 g3
    simp at q0 q1 q2 q3
    subst q0 q1 q2 q3
    exact ⟨⟨z0, z1, z2, z3⟩, rfl, bounds_i64 w0, bounds_i64 w1, bounds_i64 w2, bounds_i64 w3⟩
theorem lines_of_read {s t : TypeId} {fuel : Nat} {c : Value} {y : DataW H × List MemPlace}
  (hs : P.underlying s = some (.slice t)) (ct : P.cellsOf t = 4)
  (rd : ∀ (fuel : Nat) (cs : List Value) (y : DataW H × List MemPlace), cs.length = 4 → DataW.trod enc P w base (fun _ => true) held fuel t cs = some y → ∃ x : Lin, cs = x.cells ∧ x.Fit)
  (h : DataW.trod enc P w base (fun _ => true) held fuel s [c] = some y) : ∃ xs, TRow encN w c xs ∧ ∀ x ∈ xs, x.Fit := by
 have hc : ∃ a l cap, c = .slice a l cap := by
  rcases Go.Deep.open_slice hs h with ⟨hcs, _⟩ | ⟨a', len', cap', m, n, D, Pl, hcs, _⟩
  ·simp at hcs; exact ⟨_, _, _, hcs⟩
  ·simp at hcs; exact ⟨_, _, _, hcs⟩
 obtain ⟨a, l, cap, rfl⟩ := hc
 exact trow_of_open encN Lin.Fit hs ct rd (by simpa [Value.cells] using h)
end
end Go.Proofs.Yteogdfpkcoodlaa
namespace Go.Proofs.Yteogdfpkcoodlaa
open Go.RowKit
/-- Bytes in a slice. -/
def Oct (zs : List Int) : Prop := ∀ a ∈ zs, 0 ≤ a ∧ a < 256
theorem Oct.getD {zs : List Int} (h : Oct zs) (i : Nat) : 0 ≤ zs.getD i 0 ∧ zs.getD i 0 < 256 := by
 rw [List.getD_eq_getElem?_getD]
 by_cases hi : i < zs.length
 ·rw [List.getElem?_eq_getElem hi]; exact h _ (List.getElem_mem hi)
 ·rw [List.getElem?_eq_none (by omega)]; simp
def natsOf (zs : List Int) : List Nat := zs.map Int.toNat
theorem natsOf_length (zs : List Int) : (natsOf zs).length = zs.length := by simp [natsOf]
theorem natsOf_append (a b : List Int) : natsOf (a ++ b) = natsOf a ++ natsOf b := List.map_append
theorem natsOf_take (zs : List Int) (k : Nat) : natsOf (zs.take k) = (natsOf zs).take k := List.map_take
theorem natsOf_drop (zs : List Int) (k : Nat) : natsOf (zs.drop k) = (natsOf zs).drop k := List.map_drop
theorem natsOf_getD (zs : List Int) (i : Nat) : (natsOf zs).getD i 0 = (zs.getD i 0).toNat := by
 unfold natsOf
 rw [List.getD_eq_getElem?_getD, List.getD_eq_getElem?_getD, List.getElem?_map]
 cases zs[i]? <;> simp
theorem Oct.take {zs : List Int} (h : Oct zs) (k : Nat) : Oct (zs.take k) := fun a ha => h a (List.mem_of_mem_take ha)
theorem Oct.drop {zs : List Int} (h : Oct zs) (k : Nat) : Oct (zs.drop k) := fun a ha => h a (List.mem_of_mem_drop ha)
theorem Oct.append {a b : List Int} (ha : Oct a) (hb : Oct b) : Oct (a ++ b) := by
 intro x hx
 rcases List.mem_append.1 hx with h | h
 ·exact ha x h
 ·exact hb x h
theorem Oct.back {a b : List Int} (ha : Oct a) (hb : Oct b) (h : natsOf a = natsOf b) : a = b := by
 induction a generalizing b with
 | nil => cases b with
  | nil => rfl
  | cons => cases h
 | cons x a ih =>
  cases b with
  | nil => cases h
  | cons y b =>
   simp only [natsOf, List.map_cons, List.cons.injEq] at h
   have h1 := ha x (by simp)
   have h2 := hb y (by simp)
   rw [ih (fun z hz => ha z (by simp [hz])) (fun z hz => hb z (by simp [hz])) h.2, show x = y by omega]
end Go.Proofs.Yteogdfpkcoodlaa
namespace Go.Proofs.Yteogdfpkcoodlaa
open Go.ChangeShapes Go.WideShapes Go.ChangeAt Go.RowKit
theorem rowK_of_open {W : World} (k : IntKind) (x : Addr) (zs : List Int) {len cap : Nat} (hz : zs.length = cap) (hl : len ≤ cap) (hm : cap ≤ 140737488355328) (hcell : ∀ i, i < zs.length → W.cell? (x.add i) = some (.int k (zs.getD i 0))) (hwz : ∀ n ∈ zs, (Lit.int k n).wf = true) :
  ∃ ys, (∀ n ∈ ys, (Lit.int k n).wf = true) ∧ Row k W (.slice (some x) len cap) ys ∧ ys.length ≤ 140737488355328 := by
 have hlen : (zs.take len).length = len := by rw [List.length_take]; omega
 refine ⟨zs.take len, fun a ha => hwz a (List.mem_of_mem_take ha), ⟨some x, cap, by rw [hlen], by omega, ?_⟩, by omega⟩
 by_cases h0 : len = 0
 ·left; subst h0; simp
 ·obtain ⟨b, off, rfl, hc⟩ := ints_at hcell (by omega)
  refine .inr ⟨b, off, rfl, fun i hi => ?_⟩
  rw [hlen] at hi
  rw [hc i (by omega), List.getD_eq_getElem?_getD, List.getD_eq_getElem?_getD, List.getElem?_take, if_pos hi]
theorem oct_of_wf {zs : List Int} (h : ∀ n ∈ zs, (Lit.int .u8 n).wf = true) : Oct zs := fun a ha => by have := bounds_u8 (h a ha); omega
end Go.Proofs.Yteogdfpkcoodlaa
namespace Go.Proofs.Yteogdfpkcoodlaa
open Go.ChangeShapes Go.WideShapes Go.ChangeAt Go.RowKit
section
variable {H : Type} {enc : TypeId × Value → H} {P : Program} {w : World} {base : Nat} {held : Bool}
theorem nets_of_read {e q : TypeId} {fuel : Nat} {c : Value} {y : DataW H × List MemPlace}
  (he : P.underlying e = some (.slice q)) (hq : P.underlying q = some (.int .i64)) (cq : P.cellsOf q = 1) (h : DataW.trod enc P w base (fun _ => true) held fuel e [c] = some y) : ∃ zs, All64 zs ∧ Row .i64 w c zs := by
 rcases open_ints he hq cq h with ⟨hcs, _⟩ | ⟨x, l, cap, zs, hcs, _, hl, _, hz, _, hcell, hwz⟩
 ·simp at hcs
  subst hcs
  exact ⟨[], (fun _ h => by cases h), none, 0, rfl, Nat.le_refl _, .inl rfl⟩
 ·simp at hcs
  subst hcs
  obtain ⟨ys, h1, h2⟩ := row_of_open x zs (by simpa using hz) hl hcell hwz
  exact ⟨ys, h2, h1⟩
/-- A message as it lies in cells, with where its lists lie. -/
structure MsgX where
 m : Msg
 pl : Option Addr
 cl : Nat
 pn : Option Addr
 cn : Nat
def MsgX.vl (x : MsgX) : Value := .slice x.pl x.m.ls.length x.cl
def MsgX.vn (x : MsgX) : Value := .slice x.pn x.m.ns.length x.cn
def MsgX.cells (x : MsgX) : List Value := x.m.cells x.vl x.vn
def encM : Enc MsgX := ⟨11, MsgX.cells, by decide, fun _ => rfl, by intro x u hu; simp [MsgX.cells, Msg.cells, MsgX.vl, MsgX.vn] at hu; rcases hu with rfl | rfl | rfl | rfl | rfl | rfl | rfl | rfl | rfl | rfl | rfl <;> rfl⟩
structure MsgX.In (w : World) (x : MsgX) : Prop where
 ls : TRow encN w x.vl x.m.ls
 ns : Row .i64 w x.vn x.m.ns
 fit : x.m.Fit
theorem MsgX.In.kept {w w' : World} {x : MsgX} (h : x.In w) (hb : Below w.heap.size w w') : x.In w' := ⟨h.ls.kept hb, h.ns.kept hb, h.fit⟩
theorem msg_read {t sl tl sn q : TypeId} {fk g f0 f1 f2 f3 f4 f5 f6 f7 f8 f9 : Field}
  (ht : P.underlying t = some (.struct #[fk, g, f2, f3, f4, f5, f6, f7, f8, f9])) (hg : P.underlying g.type = some (.struct #[f0, f1]))
  (ok : fk.offset = 0) (og : g.offset = 1) (o0 : f0.offset = 0) (o1 : f1.offset = 1) (o2 : f2.offset = 3) (o3 : f3.offset = 4) (o4 : f4.offset = 5) (o5 : f5.offset = 6) (o6 : f6.offset = 7) (o7 : f7.offset = 8) (o8 : f8.offset = 9) (o9 : f9.offset = 10)
  (uk : P.underlying fk.type = some (.int .i64)) (u0 : P.underlying f0.type = some (.int .i64)) (u1 : P.underlying f1.type = some (.int .i64)) (u2 : P.underlying f2.type = some (.int .i64)) (u3 : P.underlying f3.type = some (.int .i64)) (u4 : P.underlying f4.type = some (.int .i64)) (u5 : P.underlying f5.type = some (.int .i64)) (u6 : P.underlying f6.type = some (.int .i64)) (u7 : P.underlying f7.type = some .bool)
  (t8 : f8.type = sl) (t9 : f9.type = sn) (hs : P.underlying sl = some (.slice tl)) (ct : P.cellsOf tl = 4)
  (rd : ∀ (fuel : Nat) (cs : List Value) (y : DataW H × List MemPlace), cs.length = 4 → DataW.trod enc P w base (fun _ => true) held fuel tl cs = some y → ∃ x : Lin, cs = x.cells ∧ x.Fit)
  (hn : P.underlying sn = some (.slice q)) (hq : P.underlying q = some (.int .i64)) (cq : P.cellsOf q = 1)
  (cc : P.cellsOf fk.type = 1 ∧ P.cellsOf g.type = 2 ∧ P.cellsOf f0.type = 1 ∧ P.cellsOf f1.type = 1 ∧ P.cellsOf f2.type = 1 ∧ P.cellsOf f3.type = 1 ∧ P.cellsOf f4.type = 1 ∧ P.cellsOf f5.type = 1 ∧ P.cellsOf f6.type = 1 ∧ P.cellsOf f7.type = 1 ∧ P.cellsOf sl = 1 ∧ P.cellsOf sn = 1)
  (fuel : Nat) (cs : List Value) (y : DataW H × List MemPlace) (hl : cs.length = 11) (hf : DataW.trod enc P w base (fun _ => true) held fuel t cs = some y) : ∃ x : MsgX, cs = x.cells ∧ x.In w := by
 obtain ⟨ck, cg, c0, c1, c2, c3, c4, c5, c6, c7, c8, c9⟩ := cc
 match cs, hl with
 | [vk, v0, v1, v2, v3, v4, v5, v6, v7, v8, v9], _ =>
  obtain ⟨xs, k, hk, hxy, _, hxl, hf⟩ := DataW.trod_struct ht hf
  match xs, hxl with
  | [yk, yg, y2, y3, y4, y5, y6, y7, y8, y9], _ =>
   have gk := hf 0 fk rfl
   have gg := hf 1 g rfl
   have g2 := hf 2 f2 rfl
   have g3 := hf 3 f3 rfl
   have g4 := hf 4 f4 rfl
   have g5 := hf 5 f5 rfl
   have g6 := hf 6 f6 rfl
   have g7 := hf 7 f7 rfl
   have g8 := hf 8 f8 rfl
   have g9 := hf 9 f9 rfl
   subst t8 t9
   simp [ok, og, o2, o3, o4, o5, o6, o7, o8, o9, ck, cg, c2, c3, c4, c5, c6, c7, c8, c9] at gk gg g2 g3 g4 g5 g6 g7 g8 g9
   obtain ⟨xs', k', hk', hxy', _, hxl', hf'⟩ := DataW.trod_struct hg gg
   match xs', hxl' with
   | [y0, y1], _ =>
    have g0 := hf' 0 f0 rfl
    have g1 := hf' 1 f1 rfl
    simp [o0, o1, c0, c1] at g0 g1
    obtain ⟨zk, qk, _, wk⟩ := DataW.trod_int uk gk
    obtain ⟨z0, q0, _, w0⟩ := DataW.trod_int u0 g0
    obtain ⟨z1, q1, _, w1⟩ := DataW.trod_int u1 g1
    obtain ⟨z2, q2, _, w2⟩ := DataW.trod_int u2 g2
    obtain ⟨z3, q3, _, w3⟩ := DataW.trod_int u3 g3
    obtain ⟨z4, q4, _, w4⟩ := DataW.trod_int u4 g4
    obtain ⟨z5, q5, _, w5⟩ := DataW.trod_int u5 g5
    obtain ⟨z6, q6, _, w6⟩ := DataW.trod_int u6 g6
    obtain ⟨z7, q7, _⟩ := DataW.trod_bool u7 g7
    obtain ⟨L, rL, fL⟩ := lines_of_read hs ct rd g8
    obtain ⟨N, fN, rN⟩ := nets_of_read hn hq cq g9
    simp at qk q0 q1 q2 q3 q4 q5 q6 q7
    subst qk q0 q1 q2 q3 q4 q5 q6 q7
    obtain ⟨pl, cl, rfl⟩ := rL.shape
    obtain ⟨pn, cn, rfl⟩ := rN.shape
    exact ⟨⟨⟨zk, z0, z1, z2, z3, z4, z5, z6, z7, L, N⟩, pl, cl, pn, cn⟩, rfl, rL, rN, ⟨bounds_i64 wk, bounds_i64 w0, bounds_i64 w1, bounds_i64 w2, bounds_i64 w3, bounds_i64 w4, bounds_i64 w5, bounds_i64 w6⟩, fL, fN⟩
theorem msg_of_open {t : TypeId} {fs : Array Field} {r : Reach} {b0 : Nat} {v : Value} {d : DataW H} {pl : List MemPlace}
  (ht : P.underlying t = some (.struct fs)) (ct : P.cellsOf t = 11)
  (rd : ∀ (fuel : Nat) (cs : List Value) (y : DataW H × List MemPlace), cs.length = 11 → DataW.trod enc P w base (fun _ => true) held fuel t cs = some y → ∃ x : MsgX, cs = x.cells ∧ x.In w)
  (hv : Value.okWide P w r b0 t v) (h : DataW.Trod enc P w base (fun _ => true) held t v d pl) : ∃ x : MsgX, v = x.m.v x.vl x.vn ∧ x.In w := by
 obtain ⟨cs, rfl, hsz⟩ := okWide_struct ht hv
 obtain ⟨fuel, hf⟩ := h
 obtain ⟨l⟩ := cs
 have hf' : DataW.trod enc P w base (fun _ => true) held fuel t l = some (d, pl) := by simpa [Value.cells] using hf
 obtain ⟨x, hx, hin⟩ := rd fuel l _ (by simpa using hsz.trans ct) hf'
 subst hx
 exact ⟨x, rfl, hin⟩
end
end Go.Proofs.Yteogdfpkcoodlaa
namespace Go.Proofs.Yteogdfpkcoodlaa
open Go.RowKit
theorem blk_put {b : Nat} {t : TypeId} : ∀ (vs : List Value) (o : Nat) (Z : Array Value) (w : World), Blk w b Z t → ∃ Z' : Array Value, Blk (w.setCells b o vs) b Z' t ∧ Z'.size = Z.size ∧ ∀ j, (j < o ∨ o + vs.length ≤ j → Z'[j]? = Z[j]?) ∧ (∀ (_ : o ≤ j), j < o + vs.length → j < Z.size → Z'[j]? = vs[j - o]?)
 | [], o, Z, w, h => ⟨Z, h, rfl, fun j => ⟨fun _ => rfl, fun h1 h2 _ => by simp at h2; omega⟩⟩
 | v :: r, o, Z, w, h => by
  obtain ⟨Z', h1, h2, h3⟩ := blk_put r (o + 1) (Z.setIfInBounds o v) (w.setCell ⟨b, o, none⟩ v) (h.set o v)
  refine ⟨Z', by rw [World.setCells]; exact h1, by rw [h2, Array.size_setIfInBounds], fun j => ⟨fun hj => ?_, fun ho hj hz => ?_⟩⟩
  ·rw [(h3 j).1 (by simp at hj; omega), Array.getElem?_setIfInBounds_ne (by simp at hj; omega)]
  ·by_cases he : j = o
   ·subst he
    rw [(h3 j).1 (.inl (by omega)), Array.getElem?_setIfInBounds_self_of_lt hz]
    simp
   ·rw [(h3 j).2 (by omega) (by simp at hj; omega) (by rw [Array.size_setIfInBounds]; exact hz), show j - o = (j - (o + 1)) + 1 by omega, List.getElem?_cons_succ]
theorem blk_put_all {w : World} {b : Nat} {t : TypeId} {Z : Array Value} (h : Blk w b Z t) (cs : Array Value) (hs : Z.size = cs.size) : Blk (w.setCells b 0 cs.toList) b cs t := by
 obtain ⟨Z', h1, h2, h3⟩ := blk_put cs.toList 0 Z w h
 have e : Z' = cs := by
  apply Array.ext_getElem?
  intro j
  by_cases hj : j < cs.size
  ·rw [(h3 j).2 (Nat.zero_le _) (by simpa using hj) (by omega)]; simp
  ·rw [Array.getElem?_eq_none (by omega), Array.getElem?_eq_none (by omega)]
 rw [← e] at h1 ⊢
 exact h1
theorem Blk.thereAt {w : World} {b : Nat} {cs : Array Value} {t : TypeId} (h : Blk w b cs t) : w.there b 0 cs.size := fun j hj => by
 refine ⟨?_, h.free _⟩
 rw [Nat.zero_add, h.cell j, Array.getElem?_eq_getElem hj]
 rfl
theorem below_put {B b : Nat} (hB : B ≤ b) : ∀ (vs : List Value) (o : Nat) (a w : World), Below B a w → Below B a (w.setCells b o vs)
 | [], _, _, _, h => h
 | v :: r, o, a, w, h => by
  rw [World.setCells]
  exact below_put hB r (o + 1) a _ (h.setCell (p := ⟨b, o, none⟩) hB v)
theorem blk_putOther {b g : Nat} {t : TypeId} {cs : Array Value} (hne : b ≠ g) : ∀ (vs : List Value) (o : Nat) (w : World), Blk w g cs t → Blk (w.setCells b o vs) g cs t
 | [], _, _, h => h
 | v :: r, o, w, h => by
  rw [World.setCells]
  exact blk_putOther hne r (o + 1) _ (h.setOther (a := ⟨b, o, none⟩) hne v)
section
variable {α : Type} {e : Enc α}
theorem mul_lt_of {i n k t : Nat} (hi : i < n) (ht : t < k) : i * k + t < n * k :=
 Nat.lt_of_lt_of_le (show i * k + t < (i + 1) * k by rw [Nat.add_mul]; omega) (Nat.mul_le_mul_right _ hi)
/-- Where an own slice lies. -/
theorem OwnT.lies {w : World} {base n c : Nat} {ty : TypeId} {p : Option Addr} {xs : List α} (h : OwnT e w base ty (.slice p n c) xs) (hn : 0 < n) : ∃ g cur, p = some ⟨g, 0, none⟩ ∧ base ≤ g ∧ Blk w g cur ty ∧ n ≤ c ∧ c ≤ maxLen ∧ cur.size = c * e.k ∧ cur.toList.take (n * e.k) = xs.flatMap e.E ∧ n = xs.length := by
 have hl : n = xs.length := by
  obtain ⟨p', c', e1⟩ := h.form
  exact (Value.slice.inj e1).2.1
 rcases h.2 with ⟨e1, h0⟩ | ⟨g, cap, cur, e1, hb, hg, hn2, hm, hs, ht⟩
 ·omega
 ·cases e1
  exact ⟨g, cur, rfl, hb, hg, hn2, hm, hs, ht, rfl⟩
theorem OwnT.mk' {w : World} {base n c g : Nat} {ty : TypeId} {cur : Array Value} {xs : List α} (hl : n = xs.length) (hb : base ≤ g) (hg : Blk w g cur ty) (hn : n ≤ c) (hm : c ≤ maxLen) (hs : cur.size = c * e.k) (ht : cur.toList.take (n * e.k) = xs.flatMap e.E) : OwnT e w base ty (.slice (some ⟨g, 0, none⟩) n c) xs := by
 subst hl
 exact ⟨flat_length e xs, .inr ⟨g, c, cur, rfl, hb, hg, hn, hm, hs, ht⟩⟩
/-- An element is stored. -/
theorem OwnT.put {w : World} {base n c g : Nat} {ty : TypeId} {xs : List α} (h : OwnT e w base ty (.slice (some ⟨g, 0, none⟩) n c) xs) (i : Nat) (hi : i < n) (x : α) : OwnT e (w.setCells g (i * e.k) (e.E x)) base ty (.slice (some ⟨g, 0, none⟩) n c) (xs.set i x) := by
 obtain ⟨g', cur, e1, hb, hg, hn, hm, hs, ht, hl⟩ := h.lies (by omega)
 cases e1
 obtain ⟨Z', z1, z2, z3⟩ := blk_put (e.E x) (i * e.k) cur w hg
 refine OwnT.mk' (by rw [List.length_set]; exact hl) hb z1 hn hm (by rw [z2, hs]) ?_
 apply List.ext_getElem?
 intro j
 have hk := e.pos
 by_cases hj : j < n * e.k
 ·have hq : j / e.k < n := (Nat.div_lt_iff_lt_mul hk).2 hj
  have hr : j % e.k < e.k := Nat.mod_lt _ hk
  have e3 : j / e.k * e.k + j % e.k = j := by rw [Nat.mul_comm]; exact Nat.div_add_mod j e.k
  have hjc : j < cur.size := by rw [hs]; exact Nat.lt_of_lt_of_le hj (Nat.mul_le_mul_right _ hn)
  have hset := flat_get e (xs.set i x) (j / e.k) (j % e.k) (by rw [List.length_set]; omega) hr
  rw [e3] at hset
  rw [hset, List.getElem?_take, if_pos hj, Array.getElem?_toList, List.getElem_set]
  by_cases hqi : i = j / e.k
  ·rw [if_pos hqi]
   have h1 : i * e.k ≤ j := by rw [hqi]; omega
   have h2 : j < i * e.k + e.k := by rw [hqi]; omega
   rw [(z3 j).2 h1 (by rw [e.len]; exact h2) hjc]
   congr 1
   rw [hqi]; omega
  ·rw [if_neg hqi]
   have hout : j < i * e.k ∨ i * e.k + (e.E x).length ≤ j := by
    rw [e.len]
    rcases Nat.lt_or_gt_of_ne hqi with hh | hh
    ·right
     have := Nat.mul_le_mul_right e.k (show i + 1 ≤ j / e.k by omega)
     rw [Nat.add_mul] at this; omega
    ·left
     have := Nat.mul_le_mul_right e.k (show j / e.k + 1 ≤ i by omega)
     rw [Nat.add_mul] at this; omega
   rw [(z3 j).1 hout]
   have h4 := congrArg (fun l => l[j]?) ht
   simp only [List.getElem?_take] at h4
   rw [if_pos hj, Array.getElem?_toList] at h4
   rw [h4]
   have h5 := flat_get e xs (j / e.k) (j % e.k) (by omega) hr
   rw [e3] at h5
   exact h5
 ·rw [List.getElem?_eq_none (by rw [List.length_take]; omega), List.getElem?_eq_none (by rw [flat_length, List.length_set, ← hl]; omega)]
theorem OwnT.there {w : World} {base n c g : Nat} {ty : TypeId} {xs : List α} (h : OwnT e w base ty (.slice (some ⟨g, 0, none⟩) n c) xs) (i m : Nat) (hi : i * e.k + m ≤ c * e.k) (hn : 0 < n) : w.there g (i * e.k) m := by
 obtain ⟨g', cur, e1, hb, hg, _, hm, hs, ht, hl⟩ := h.lies hn
 cases e1
 intro j hj
 refine ⟨?_, hg.free _⟩
 rw [hg.cell, Array.getElem?_eq_getElem (by rw [hs]; omega)]
 rfl
/-- What stands ahead of a place stays when all behind it is written. -/
theorem OwnT.cutAt {w : World} {base n c g : Nat} {ty : TypeId} {xs : List α} (h : OwnT e w base ty (.slice (some ⟨g, 0, none⟩) n c) xs) (i : Nat) (hi : i ≤ n) (hn : 0 < n) (vs : List Value) : OwnT e (w.setCells g (i * e.k) vs) base ty (.slice (some ⟨g, 0, none⟩) i c) (xs.take i) := by
 obtain ⟨g', cur, e1, hb, hg, hnc, hm, hs, ht, hl⟩ := h.lies hn
 cases e1
 obtain ⟨Z', z1, z2, z3⟩ := blk_put vs (i * e.k) cur w hg
 refine OwnT.mk' (by rw [List.length_take]; omega) hb z1 (by omega) hm (by rw [z2, hs]) ?_
 apply List.ext_getElem?
 intro j
 have hk := e.pos
 have hmul : i * e.k ≤ n * e.k := Nat.mul_le_mul_right _ hi
 by_cases hj : j < i * e.k
 ·have hr : j % e.k < e.k := Nat.mod_lt _ hk
  have hq : j / e.k < i := (Nat.div_lt_iff_lt_mul hk).2 hj
  have e3 : j / e.k * e.k + j % e.k = j := by rw [Nat.mul_comm]; exact Nat.div_add_mod j e.k
  rw [List.getElem?_take, if_pos hj, Array.getElem?_toList, (z3 j).1 (.inl hj)]
  have h4 := congrArg (fun l => l[j]?) ht
  simp only [List.getElem?_take] at h4
  rw [if_pos (by omega), Array.getElem?_toList] at h4
  rw [h4]
  have h5 := flat_get e xs (j / e.k) (j % e.k) (by omega) hr
  have h6 := flat_get e (xs.take i) (j / e.k) (j % e.k) (by rw [List.length_take]; omega) hr
  rw [e3] at h5 h6
  rw [h5, h6, List.getElem_take]
 ·rw [List.getElem?_eq_none (by rw [List.length_take]; omega), List.getElem?_eq_none (by rw [flat_length, List.length_take]; have := Nat.mul_le_mul_right e.k (Nat.min_le_left i xs.length); omega)]
theorem OwnT.putOther {w : World} {base b o : Nat} {ty : TypeId} {v : Value} {xs : List α} (h : OwnT e w base ty v xs) (hb : b < base) (vs : List Value) : OwnT e (w.setCells b o vs) base ty v xs := by
 refine h.stay (fun g hg => ?_)
 have h1 := h.block_ge g hg
 have h2 := h.lt g hg
 obtain ⟨_, hr⟩ := h
 rcases hr with ⟨e1, _⟩ | ⟨g', cap, cur, e1, _, hg', _⟩
 ·subst e1; cases hg
 ·subst e1
  cases hg
  exact (blk_putOther (by omega) vs o w hg').trans hg'.symm
end
/-- 'clear(s)', s a slice of structs. -/
theorem run_clear_t {P : Program} (w : World) (t ty r : TypeId) (z : Value) (ht : P.underlying t = some (.slice ty)) (hv : ∀ w, (zeroValue ty).run P w = .ok z w) (h1 : ∀ v ∈ z.cells, v.oneCell' = true) (b o n c : Nat) (hn : 0 < n)
  (hc : w.there b o (n * z.cells.size)) : ∃ vs : List Value, (Builtin.clear_ #[t] r #[.slice (some ⟨b, o, none⟩) n c]).run P w = .ok (.tuple #[]) (w.setCells b o vs) := by
 have hl : (Builtin.zeroCells z.cells n).toList.length = n * z.cells.size := by simp [Builtin.zeroCells]
 have hall : ∀ v ∈ (Builtin.zeroCells z.cells n).toList, v.oneCell' = true := by
  intro v hv'
  simp only [Builtin.zeroCells, Array.toList_map, List.mem_map] at hv'
  obtain ⟨i, hi, rfl⟩ := hv'
  have hi2 : i < n * z.cells.size := by simpa using hi
  rcases Nat.eq_zero_or_pos z.cells.size with h0 | h0
  ·rw [h0] at hi2; omega
  ·have hi3 : i % z.cells.size < z.cells.size := Nat.mod_lt _ h0
   rw [getElem!_pos z.cells _ hi3]
   exact h1 _ (Array.getElem_mem hi3)
 have hst := run_storeCells_cells (P := P) b o (Builtin.zeroCells z.cells n).toList 0 w (by rw [hl]; intro j hj; rw [Nat.add_zero]; exact (hc j hj).1) (by rw [hl]; intro j hj; rw [Nat.add_zero]; exact (hc j hj).2) hall
 simp only [Nat.add_zero] at hst
 refine ⟨(Builtin.zeroCells z.cells n).toList, ?_⟩
 obtain ⟨m, rfl⟩ : ∃ m, n = m + 1 := ⟨n - 1, by omega⟩
 simp [Builtin.clear_, run_underlying ht, hv, hst]
theorem stop_clear {P : Program} {ops : Array Oper} {rest : List Oper} {o : Oper} {a : Act} {w : World} {Q : Exit → Act → World → Prop} (s : Operand) (t : TypeId)
  (_ : o.op = .call { callee := .builtin .clear, args := #[s], argTypes := #[t] }) (h : Hid (wpList P ops Q (o :: rest) a w)) : wpList P ops Q (o :: rest) a w := h
theorem stop_storeT {P : Program} {ops : Array Oper} {rest : List Oper} {o : Oper} {a : Act} {w : World} {Q : Exit → Act → World → Prop} (ty : TypeId) (x y : Operand) (_ : o.op = .store ty x y) (h : Hid (wpList P ops Q (o :: rest) a w)) : wpList P ops Q (o :: rest) a w := h
theorem wpList_clear_t {P : Program} {w : World} {ops : Array Oper} {rest : List Oper} {o : Oper} {a : Act} {Q : Exit → Act → World → Prop} (hgd : o.guard = none) (s : Operand) (t : TypeId)
  (ho : o.op = .call { callee := .builtin .clear, args := #[s], argTypes := #[t] }) (ty : TypeId) (z : Value) (ht : P.underlying t = some (.slice ty)) (hv : ∀ w, (zeroValue ty).run P w = .ok z w) (h1 : ∀ v ∈ z.cells, v.oneCell' = true) (b p n c : Nat) (hn : 0 < n)
  (hs : a.eval s = .slice (some ⟨b, p, none⟩) n c) (hc : w.there b p (n * z.cells.size)) (h : ∀ vs : List Value, wpList P ops Q rest (a.put o.dst (.tuple #[])) (w.setCells b p vs)) : wpList P ops Q (o :: rest) a w := by
 refine wpList_plain hgd fun K hK => ?_
 obtain ⟨vs, hrun⟩ := run_clear_t w t ty o.type z ht hv h1 b p n c hn hc
 unfold Oper.wp
 simp [execOp, ho, resolve, invoke, builtin, hs, hrun, Result.andThen]
 exact hK _ _ (h vs)
end Go.Proofs.Yteogdfpkcoodlaa
namespace Go.Proofs.Yteogdfpkcoodlaa
open Go.RowKit
section
variable {α : Type} {e : Enc α}
theorem run_append_tb {P : Program} (w : World) (t r ty : TypeId) (z : Value) (bytes base : Nat) (he : EltT e P t ty z bytes) (hzs : z.cells.size = e.k) (v y : Value) (xs ys : List α) (hown : OwnT e w base ty v xs) (hrow : TRow e w y ys)
  (h63 : xs.length + ys.length ≤ 140737488355328) (hbytes : (xs.length + ys.length) * bytes ≤ 140737488355328) (hbase : base ≤ w.heap.size) :
  ∃ v' w', (Builtin.append_ #[t, t] r #[v, y]).run P w = .ok v' w' ∧ OwnT e w' base ty v' (xs ++ ys) ∧ w.grownBy w' v.ownBlock ∧ (v'.ownBlock = v.ownBlock ∨ v'.ownBlock = some w.heap.size) := by
 obtain ⟨i, ht, hi, hz, hs, hby⟩ := he
 obtain ⟨p, c, rfl, hc, hr⟩ := id hrow
 cases p with
 | some ad =>
  obtain ⟨v', w', hrun, hown', hg, _, hor⟩ := run_append_own_at (P := P) w base t r ty i z e.k bytes ht hi hz hs hby hzs e.pos v xs.length (xs.flatMap e.E) hown ad ys.length c (ys.flatMap e.E) (flat_length e ys) hrow.newsAt (flat_one e ys) (by unfold maxLen; omega) hbytes hbase
  refine ⟨v', w', hrun, ?_, hg, hor⟩
  unfold OwnT
  rw [List.flatMap_append, List.length_append]
  exact hown'
 | none =>
  have hy : ys = [] := by
   rcases hr with h | ⟨b, o, h, _⟩
   ·exact h
   ·cases h
  subst hy
  refine ⟨v, w, ?_, by simpa using hown, World.grownBy.refl _ _, .inl rfl⟩
  rcases hown.2 with ⟨rfl, h0⟩ | ⟨g, cap, cur, rfl, _, _, hnc, _⟩
  ·simp [Builtin.append_, run_underlying ht, sizeOf, typeInfo, hi, Builtin.lenOf, Builtin.firstCells]
  ·simp [Builtin.append_, run_underlying ht, sizeOf, typeInfo, hi, Builtin.lenOf, Builtin.firstCells, hnc, storeCells]
theorem wpList_append_tb {P : Program} {w : World} {ops : Array Oper} {rest : List Oper} {o : Oper} {a : Act} {Q : Exit → Act → World → Prop} (hgd : o.guard = none) (s x : Operand) (t : TypeId)
  (ho : o.op = .call { callee := .builtin .append, args := #[s, x], argTypes := #[t, t] })
  (ty : TypeId) (z : Value) (bytes base : Nat) (he : EltT e P t ty z bytes) (hzs : z.cells.size = e.k) (v y : Value) (xs ys : List α) (hs : a.eval s = v) (hx : a.eval x = y) (hown : OwnT e w base ty v xs) (hrow : TRow e w y ys)
  (h63 : xs.length + ys.length ≤ 140737488355328) (hbytes : (xs.length + ys.length) * bytes ≤ 140737488355328) (hbase : base ≤ w.heap.size) (L : List α) (N : Nat) (hL : xs ++ ys = L) (hN : L.length = N)
  (h : ∀ p' c' w', OwnT e w' base ty (.slice p' N c') L → w.grownBy w' v.ownBlock → Below base w w' → wpList P ops Q rest (a.put o.dst (.slice p' N c')) w') : wpList P ops Q (o :: rest) a w := by
 subst hL
 subst hN
 refine wpList_plain hgd fun K hK => ?_
 obtain ⟨v', w', hrun, h1, h2, _⟩ := run_append_tb w t o.type ty z bytes base he hzs v y xs ys hown hrow h63 hbytes hbase
 unfold Oper.wp
 obtain ⟨p', c', rfl⟩ := h1.form
 simp [execOp, ho, resolve, invoke, builtin, hs, hx, hrun, Result.andThen]
 exact hK _ _ (by simpa using h p' c' w' h1 h2 ((Below.refl _ _).grown h2 hbase (fun g hg' => hown.block_ge g hg')))
theorem OwnT.madeE (e : Enc α) (w : World) (base : Nat) (ty : TypeId) (hb : base ≤ w.heap.size) : OwnT e (w.alloc (.cells #[] ty)) base ty (.slice (some ⟨w.heap.size, 0, none⟩) 0 0) [] := ⟨by simp, .inr ⟨w.heap.size, 0, #[], rfl, hb, heap_alloc_new w _, Nat.le_refl _, Nat.zero_le _, by simp, by simp⟩⟩
theorem stop_appendT {P : Program} {ops : Array Oper} {rest : List Oper} {o : Oper} {a : Act} {w : World} {Q : Exit → Act → World → Prop} (s x : Operand) (t : TypeId)
  (_ : o.op = .call { callee := .builtin .append, args := #[s, x], argTypes := #[t, t] }) (h : Hid (wpList P ops Q (o :: rest) a w)) : wpList P ops Q (o :: rest) a w := h
end
end Go.Proofs.Yteogdfpkcoodlaa
namespace Go.Proofs.Yteogdfpkcoodlaa
open Go.RowKit
/-- A message's lists fit into the reach of memory. -/
def Msg.Sz (m : Msg) : Prop := m.ls.length * 32 ≤ 140737488351232 ∧ m.ns.length * 8 ≤ 140737488351232
/-- The block in which a slice lies is one of P, unless it is empty. -/
def At (P : Nat → Prop) (v : Value) (len : Nat) : Prop := ∀ b o n c, v = .slice (some ⟨b, o, none⟩) n c → 0 < len → P b
theorem At.nil_ (P : Nat → Prop) (v : Value) : At P v 0 := fun _ _ _ _ _ h => absurd h (Nat.lt_irrefl 0)
/-- Of P's blocks none is another one. -/
def KeepP (P : Nat → Prop) (w w' : World) : Prop := w.heap.size ≤ w'.heap.size ∧ ∀ b, b < w.heap.size → P b → w'.heap[b]? = w.heap[b]?
theorem KeepP.refl (P : Nat → Prop) (w : World) : KeepP P w w := ⟨Nat.le_refl _, fun _ _ _ => rfl⟩
theorem KeepP.of_below {P : Nat → Prop} {w w' : World} (h : Below w.heap.size w w') : KeepP P w w' := ⟨h.size, fun b hb _ => h.block b hb⟩
theorem KeepP.of_chg {P : Nat → Prop} {g : Nat} {w w' : World} (h : Chg g w w') (hg : ¬ P g) : KeepP P w w' := ⟨h.size, fun b hb hp => h.2 b hb (fun e => hg (e ▸ hp))⟩
theorem KeepP.trans {P : Nat → Prop} {w a b : World} (h : KeepP P w a) (k : KeepP P a b) : KeepP P w b := ⟨Nat.le_trans h.1 k.1, fun i hi hp => (k.2 i (Nat.lt_of_lt_of_le hi h.1) hp).trans (h.2 i hi hp)⟩
theorem TRow.lt_ {α : Type} {e : Enc α} {w : World} {b o : Nat} {n c : Nat} {xs : List α} (h : TRow e w (.slice (some ⟨b, o, none⟩) n c) xs) (hn : 0 < xs.length) : b < w.heap.size := by
 obtain ⟨b', o', e1, hb, _⟩ := h.at_ 0 hn
 cases e1
 exact hb
theorem Row.lt_ {k : IntKind} {w : World} {b o : Nat} {n c : Nat} {xs : List Int} (h : Row k w (.slice (some ⟨b, o, none⟩) n c) xs) (hn : 0 < xs.length) : b < w.heap.size := by
 obtain ⟨p', c', e1, _, h⟩ := h
 cases e1
 rcases h with h | ⟨b', o', hp, h⟩
 ·subst h; simp at hn
 ·cases hp
  exact World.block_lt_of_cell? w _ (h 0 hn)
theorem TRow.keepP {α : Type} {e : Enc α} {P : Nat → Prop} {w w' : World} {v : Value} {xs : List α} (h : TRow e w v xs) (ha : At P v xs.length) (hk : KeepP P w w') : TRow e w' v xs := by
 obtain ⟨p, c, rfl, hc, h⟩ := h
 refine ⟨p, c, rfl, hc, ?_⟩
 rcases h with h | ⟨b, o, rfl, hlt, h⟩
 ·exact .inl h
 ·by_cases hn : 0 < xs.length
  ·have hb := hk.2 b hlt (ha b o _ _ rfl hn)
   exact .inr ⟨b, o, rfl, Nat.lt_of_lt_of_le hlt hk.1, fun i hi t ht => (World.cell?_of_block (a := ⟨b, _, none⟩) hb).trans (h i hi t ht)⟩
  ·exact .inl (List.length_eq_zero_iff.1 (by omega))
theorem Row.keepP {k : IntKind} {P : Nat → Prop} {w w' : World} {v : Value} {xs : List Int} (h : Row k w v xs) (ha : At P v xs.length) (hk : KeepP P w w') : Row k w' v xs := by
 have h0 := h
 obtain ⟨p, c, rfl, hc, h⟩ := h
 refine ⟨p, c, rfl, hc, ?_⟩
 rcases h with h | ⟨b, o, rfl, h⟩
 ·exact .inl h
 ·by_cases hn : 0 < xs.length
  ·have hb := hk.2 b (h0.lt_ hn) (ha b o _ _ rfl hn)
   exact .inr ⟨b, o, rfl, fun i hi => (World.cell?_of_block (a := ⟨b, _, none⟩) hb).trans (h i hi)⟩
  ·exact .inl (List.length_eq_zero_iff.1 (by omega))
theorem OwnT.at_P {α : Type} {e : Enc α} {P : Nat → Prop} {w : World} {base : Nat} {ty : TypeId} {v : Value} {xs : List α} (h : OwnT e w base ty v xs) (hP : ∀ b, base ≤ b → P b) : At P v xs.length := by
 rintro b o n c rfl hn
 obtain ⟨_, h2⟩ := h
 rcases h2 with ⟨h2, _⟩ | ⟨g, cap, cur, h2, hb, _⟩
 ·cases h2
 ·cases h2
  exact hP _ hb
theorem Own.at_P {k : IntKind} {P : Nat → Prop} {w : World} {base : Nat} {ty : TypeId} {v : Value} {xs : List Int} (h : Own k w base ty v xs) (hP : ∀ b, base ≤ b → P b) : At P v xs.length := by
 rintro b o n c rfl hn
 obtain ⟨_, h2⟩ := h
 rcases h2 with ⟨h2, _⟩ | ⟨g, cap, cur, h2, hb, _⟩
 ·cases h2
 ·cases h2
  exact hP _ hb
/-- A message whose lists lie in P. -/
structure MsgX.InP (P : Nat → Prop) (w : World) (x : MsgX) : Prop where
 ls : TRow encN w x.vl x.m.ls
 ns : Row .i64 w x.vn x.m.ns
 al : At P x.vl x.m.ls.length
 an : At P x.vn x.m.ns.length
 sz : x.m.Sz
theorem MsgX.InP.kept {P : Nat → Prop} {w w' : World} {x : MsgX} (h : x.InP P w) (hb : Below w.heap.size w w') : x.InP P w' := ⟨h.ls.kept hb, h.ns.kept hb, h.al, h.an, h.sz⟩
theorem MsgX.InP.keepP {P : Nat → Prop} {w w' : World} {x : MsgX} (h : x.InP P w) (hk : KeepP P w w') : x.InP P w' := ⟨h.ls.keepP h.al hk, h.ns.keepP h.an hk, h.al, h.an, h.sz⟩
theorem MsgX.InP.mono {P Q : Nat → Prop} {w : World} {x : MsgX} (h : x.InP P w) (hq : ∀ b, b < w.heap.size → P b → Q b) : x.InP Q w :=
 ⟨h.ls, h.ns, fun b o n c e hn => hq b (by have h2 := h.ls; rw [e] at h2; exact h2.lt_ hn) (h.al b o n c e hn), fun b o n c e hn => hq b (by have h2 := h.ns; rw [e] at h2; exact h2.lt_ hn) (h.an b o n c e hn), h.sz⟩
theorem elt_cloneN_any : EltT encN Try.prog 33 64 (.agg #[.int .i64 0, .int .i64 0, .int .i64 0, .int .i64 0]) 32 := eltT_mk Try.underlying33 (by kernel_rfl)
theorem elt_mkM {P : Program} {t e : TypeId} {k : IntKind} {bytes : Nat} (ht : P.underlying t = some (.slice e)) (h : (P.info? e).map (fun i => (i.zero, i.size, i.bytes)) = some (some (.int k 0), 1, bytes)) : Elt P t e k bytes := by
 cases hi : P.info? e with
 | none => rw [hi] at h; cases h
 | some i =>
  rw [hi] at h
  simp at h
  exact ⟨i, ht, hi, h.1, h.2.1, h.2.2⟩
theorem elt64M : Elt Try.prog 34 2 .i64 8 := elt_mkM Try.underlying34 (by kernel_rfl)
theorem chg_putL (g : Nat) (W : World) : ∀ (vs : List Value) (o : Nat) (w : World), Chg g W w → Chg g W (w.setCells g o vs)
 | [], _, _, h => h
 | v :: vs, o, w, h => by rw [World.setCells]; exact chg_putL g W vs (o + 1) _ (h.set o v)
theorem Own.stayV {k : IntKind} {w w' : World} {base : Nat} {e : TypeId} {v : Value} {zs : List Int} (h : Own k w base e v zs) (hk : ∀ g, v.ownBlock = some g → w'.heap[g]? = w.heap[g]?) : Own k w' base e v zs := by
 refine ⟨h.1, ?_⟩
 rcases h.2 with h | ⟨g, cap, cur, rfl, hbg, hg, hr⟩
 ·exact .inl h
 ·exact .inr ⟨g, cap, cur, rfl, hbg, (hk g rfl).trans hg, hr⟩
theorem own_less {k : IntKind} {w : World} {base base' : Nat} {e : TypeId} {v : Value} {zs : List Int} (h : Own k w base e v zs) (hb : base' ≤ base) : Own k w base' e v zs := by
 refine ⟨h.1, ?_⟩
 rcases h.2 with h | ⟨g, cap, cur, rfl, hbg, hg, hr⟩
 ·exact .inl h
 ·exact .inr ⟨g, cap, cur, rfl, Nat.le_trans hb hbg, hg, hr⟩
theorem one11M (k s n b c r y a : Int) (t : Bool) (pl pn : Option Addr) (nl cl nn cn : Nat) : ∀ u ∈ [Value.int .i64 k, .int .i64 s, .int .i64 n, .int .i64 b, .int .i64 c, .int .i64 r, .int .i64 y, .int .i64 a, .bool t, .slice pl nl cl, .slice pn nn cn], u.oneCell' = true := by
 intro u hu
 simp at hu
 rcases hu with rfl | rfl | rfl | rfl | rfl | rfl | rfl | rfl | rfl | rfl | rfl <;> rfl
theorem infoM {cs : Array Value} (h : cs.size = 11) : (Try.prog.info? 36).map (·.size) = some cs.size := by
 rw [h]
 kernel_rfl
end Go.Proofs.Yteogdfpkcoodlaa
namespace Go.Proofs.Yteogdfpkcoodlaa
open Go.RowKit
set_option linter.unusedSimpArgs false
section
variable {α : Type} {e : Enc α}
theorem wpList_append_tg {P : Program} {w : World} {ops : Array Oper} {rest : List Oper} {o : Oper} {a : Act} {Q : Exit → Act → World → Prop} (hgd : o.guard = none) (s x : Operand) (t : TypeId)
  (ho : o.op = .call { callee := .builtin .append, args := #[s, x], argTypes := #[t, t] })
  (ty : TypeId) (z : Value) (bytes base : Nat) (he : EltT e P t ty z bytes) (hzs : z.cells.size = e.k) (v y : Value) (xs ys : List α) (hs : a.eval s = v) (hx : a.eval x = y) (hown : OwnT e w base ty v xs) (hrow : TRow e w y ys)
  (h63 : xs.length + ys.length ≤ 140737488355328) (hbytes : (xs.length + ys.length) * bytes ≤ 140737488355328) (hbase : base ≤ w.heap.size) (L : List α) (N : Nat) (hL : xs ++ ys = L) (hN : L.length = N)
  (h : ∀ p' c' w', OwnT e w' base ty (.slice p' N c') L → w.grownBy w' v.ownBlock → ((Value.slice p' N c').ownBlock = v.ownBlock ∨ (Value.slice p' N c').ownBlock = some w.heap.size) → Below base w w' → wpList P ops Q rest (a.put o.dst (.slice p' N c')) w') : wpList P ops Q (o :: rest) a w := by
 subst hL
 subst hN
 refine wpList_plain hgd fun K hK => ?_
 obtain ⟨v', w', hrun, h1, h2, h3⟩ := run_append_tb w t o.type ty z bytes base he hzs v y xs ys hown hrow h63 hbytes hbase
 unfold Oper.wp
 obtain ⟨p', c', rfl⟩ := h1.form
 simp [execOp, ho, resolve, invoke, builtin, hs, hx, hrun, Result.andThen]
 exact hK _ _ (by simpa using h p' c' w' h1 h2 h3 ((Below.refl _ _).grown h2 hbase (fun g hg' => hown.block_ge g hg')))
end
theorem OwnT.at_lt {α : Type} {e : Enc α} {w : World} {base : Nat} {ty : TypeId} {v : Value} {xs : List α} (h : OwnT e w base ty v xs) : At (fun b => base ≤ b ∧ b < w.heap.size) v xs.length := by
 rintro b o n c rfl hn
 exact ⟨h.block_ge b rfl, h.lt b rfl⟩
theorem Own.at_lt {k : IntKind} {w : World} {base : Nat} {ty : TypeId} {v : Value} {xs : List Int} (h : Own k w base ty v xs) : At (fun b => base ≤ b ∧ b < w.heap.size) v xs.length := by
 rintro b o n c rfl hn
 exact ⟨h.block_ge b rfl, h.lt b rfl⟩
theorem At.imp {P Q : Nat → Prop} {v : Value} {n : Nat} (h : At P v n) (hq : ∀ b, P b → Q b) : At Q v n := fun b o m c e hn => hq b (h b o m c e hn)
theorem KeepP.weak {P Q : Nat → Prop} {w w' : World} (h : KeepP P w w') (hq : ∀ b, Q b → P b) : KeepP Q w w' := ⟨h.1, fun b hb hp => h.2 b hb (hq b hp)⟩
theorem KeepP.of_grown {P : Nat → Prop} {w w' : World} {r : Option Nat} (h : w.grownBy w' r) (hs : w.heap.size ≤ w'.heap.size) (hr : ∀ b, P b → some b ≠ r) : KeepP P w w' := ⟨hs, fun b hb hp => h.block b hb (hr b hp)⟩
end Go.Proofs.Yteogdfpkcoodlaa
namespace Go.Proofs.Yteogdfpkcoodlaa
open Go.RowKit
/-- Something that is said to a node, as it lies in cells. -/
structure SdX where
 tw : Int
 x : MsgX
def SdX.cells (y : SdX) : List Value := .int .i64 y.tw :: y.x.cells
def encS : Enc SdX := ⟨12, SdX.cells, by decide, fun _ => rfl, by
 intro y u hu
 simp only [SdX.cells, List.mem_cons] at hu
 rcases hu with rfl | hu
 ·rfl
 ·exact encM.one y.x u hu⟩
def zeroVS : Value := .agg #[.int .i64 0, .int .i64 0, .int .i64 0, .int .i64 0, .int .i64 0, .int .i64 0, .int .i64 0, .int .i64 0, .int .i64 0, .bool false, .slice none 0 0, .slice none 0 0]
theorem eltS : EltT encS Try.prog 39 47 zeroVS 128 := eltT_mk Try.underlying39 (by kernel_rfl)
/-- A message without lists. -/
def msgX0 (m : Msg) : MsgX := ⟨m, none, 0, none, 0⟩
end Go.Proofs.Yteogdfpkcoodlaa
namespace Go.Proofs.Yteogdfpkcoodlaa
open Go.RowKit
def Fits (s : Int) : Prop := -9223372036854775808 ≤ s ∧ s ≤ 9223372036854775807
theorem u64_wrap (x : Int) : IntKind.u64.wrap x = x % 18446744073709551616 := by rfl

end Go.Proofs.Yteogdfpkcoodlaa
namespace Go.Proofs.Yteogdfpkcoodlaa
open Go.RowKit

def lo64 (x y c : Int) : Int := (x + y + c) % 18446744073709551616
def ca64 (x y c : Int) : Int := (x + y + c) / 18446744073709551616
theorem lo64_0 (x y c : Int) : 0 ≤ lo64 x y c := by unfold lo64; omega
theorem add64 (x y c : Int) (hx : 0 ≤ x) (hy : 0 ≤ y) (hc0 : 0 ≤ c) (hc : c ≤ 1) (w : World) :
  (callFunc 78 #[.int .u64 x, .int .u64 y, .int .u64 c]).run Try.prog w = .ok (.value (.tuple #[.int .u64 (lo64 x y c), .int .u64 (ca64 x y c)])) w := by
 rw [run_callFunc_extern Try.func78 (by kernel_rfl) (by kernel_rfl) (by kernel_rfl) (e := add64Entry) (by kernel_rfl), run_add64 x y c hx hy hc0 hc]
 rfl
/-- High and low word of a number of 128 bits. -/
def Acc (h l s : Int) : Prop := 0 ≤ h ∧ h < 18446744073709551616 ∧ 0 ≤ l ∧ l < 18446744073709551616 ∧ (s - (h * 18446744073709551616 + l)) % 340282366920938463463374607431768211456 = 0
theorem Acc.zero : Acc 0 0 0 := by unfold Acc; decide
theorem Acc.step {h l s : Int} (a : Int) (H : Acc h l s) (h1 : -9223372036854775808 ≤ a) (h2 : a ≤ 9223372036854775807) :
  Acc (lo64 h (IntKind.u64.wrap (a / 9223372036854775808)) (ca64 l (IntKind.u64.wrap a) 0)) (lo64 l (IntKind.u64.wrap a) 0) (s + a) := by
 unfold Acc at *; unfold lo64 ca64
 simp only [u64_wrap]
 have hq : a / 9223372036854775808 = 0 ∧ 0 ≤ a ∨ a / 9223372036854775808 = -1 ∧ a < 0 := by omega
 rcases hq with ⟨hq, hs⟩ | ⟨hq, hs⟩
 ·rw [hq]; omega
 ·rw [hq]; omega
theorem Acc.carry {h l s a : Int} (H : Acc h l s) : 0 ≤ ca64 l (IntKind.u64.wrap a) 0 ∧ ca64 l (IntKind.u64.wrap a) 0 ≤ 1 ∧ 0 ≤ IntKind.u64.wrap a ∧ 0 ≤ IntKind.u64.wrap (a / 9223372036854775808) := by
 unfold Acc at H; unfold ca64; simp only [u64_wrap]; omega
instance (s : Int) : Decidable (Fits s) := by unfold Fits; infer_instance
/-- Of numbers in some range Sum's test tells whether they fit. -/
theorem Acc.fits {h l s : Int} (H : Acc h l s) (h1 : -170141183460469231731687303715884105728 ≤ s) (h2 : s < 170141183460469231731687303715884105728) :
  ((h != IntKind.u64.wrap (wrap64 l / 9223372036854775808)) = true → ¬ Fits s) ∧ ((h != IntKind.u64.wrap (wrap64 l / 9223372036854775808)) = false → Fits s ∧ wrap64 l = s) := by
 unfold Acc at H; unfold Fits
 have hw : wrap64 l = l ∧ l < 9223372036854775808 ∨ wrap64 l = l - 18446744073709551616 ∧ 9223372036854775808 ≤ l := by unfold wrap64; omega
 simp only [u64_wrap, bne_iff_ne, bne_eq_false_iff_eq]
 rcases hw with ⟨hw, hs⟩ | ⟨hw, hs⟩
 ·rw [hw, show l / 9223372036854775808 = 0 by omega]; omega
 ·rw [hw, show (l - 18446744073709551616) / 9223372036854775808 = -1 by omega]; omega

theorem take_succ_sum (zs : List Int) (k : Nat) (h : k < zs.length) : (zs.take (k + 1)).sum = (zs.take k).sum + zs.getD k 0 := by
 rw [List.take_succ_eq_append_getElem h, List.sum_append, List.getD_eq_getElem?_getD, List.getElem?_eq_getElem h]; simp
theorem sum_bound (zs : List Int) (h : All64 zs) : -9223372036854775808 * (zs.length : Int) ≤ zs.sum ∧ zs.sum ≤ 9223372036854775807 * (zs.length : Int) := by
 induction zs with
 | nil => simp
 | cons a t ih =>
  have h1 := h a (by simp)
  have h2 := ih (fun b hb => h b (by simp [hb]))
  simp only [List.sum_cons, List.length_cons]; omega

/-- What Sum answers: the number, the error. -/
def sumN (s : Int) : Int := if Fits s then s else 0
def sumE (s : Int) : Int := if Fits s then 0 else 10
theorem sumN_yes {s : Int} (h : Fits s) : sumN s = s := if_pos h
theorem sumN_no {s : Int} (h : ¬ Fits s) : sumN s = 0 := if_neg h
theorem sumE_yes {s : Int} (h : Fits s) : sumE s = 0 := if_pos h
theorem sumE_no {s : Int} (h : ¬ Fits s) : sumE s = 10 := if_neg h
def SumTo (s : Int) (w : World) (e : Ending) (w' : World) : Prop := e = .returned (.tuple #[.int .i64 (sumN s), .int .i64 (sumE s)]) ∧ w = w'
theorem SumTo.yes {s : Int} {w : World} (n : Int) (h : Fits s) (hn : n = s) : SumTo s w (.returned (.tuple #[.int .i64 n, .int .i64 0])) w := ⟨by rw [sumN_yes h, sumE_yes h, hn], rfl⟩
theorem SumTo.no {s : Int} {w : World} (h : ¬ Fits s) : SumTo s w (.returned (.tuple #[.int .i64 0, .int .i64 10])) w := ⟨by rw [sumN_no h, sumE_no h], rfl⟩

set_option maxHeartbeats 1000000 in
theorem sum_any (v : Value) (zs : List Int) (w : World) (hm : zs.length ≤ 140737488355328) (h64 : All64 zs) (hrow : Row .i64 w v zs) :
  Calls Try.prog 76 #[v] w (SumTo zs.sum w) := by
 obtain ⟨p, c, rfl, _, hr⟩ := hrow
 have hr' : ∀ i, i < zs.length → ∃ b o, p = some ⟨b, o, none⟩ ∧ w.cell? ⟨b, o + i, none⟩ = some (.int .i64 (zs.getD i 0)) := by
  intro i hi
  rcases hr with rfl | ⟨b, o, hp, h⟩
  ·simp at hi
  ·exact ⟨b, o, hp, h i hi⟩
 clear hr
 have HR := Lib.hid hr'
 clear hr'
 have HS : Hid (zs.sum = (zs.take zs.length).sum) := by show _ = _; rw [List.take_length]
 have hb := sum_bound zs h64
 generalize hn : zs.length = n at *
 have HN := Lib.hid hn
 clear hn
 go_enter Try.func76, Try.ntmps76
 go_wp2
 go_loop [4, 5, 6, 11] (fun h l c i => ∃ (k : Nat) (hh ll cc : Int), k ≤ n ∧ i = .int .i64 k ∧ h = .int .u64 hh ∧ l = .int .u64 ll ∧ c = .int .u64 cc ∧ Acc hh ll (zs.take k).sum) (fun _ _ _ i => n - (intOf i).toNat)
 case atStart => exact ⟨0, 0, 0, 0, Nat.zero_le _, rfl, rfl, rfl, rfl, by simpa using Acc.zero⟩
 case round =>
  obtain ⟨k, hh, ll, cc, hk, rfl, rfl, rfl, rfl, hacc⟩ := hrel
  by_cases hlt : k < n
  ·obtain ⟨b, o, rfl, hc⟩ := HR.out k hlt
   have hts := take_succ_sum zs k (by rw [HN.out]; exact hlt)
   have ha := h64.getD k
   generalize zs.getD k 0 = a at *
   have hstep := hacc.step a ha.1 ha.2
   rw [← hts] at hstep
   have hk2 := hacc.carry (a := a)
   have hl0 : 0 ≤ ll := hacc.2.2.1
   have hh0 : 0 ≤ hh := hacc.1
   have e1 := add64 ll (IntKind.u64.wrap a) 0 hl0 hk2.2.2.1 (by decide) (by decide) w
   have e2 := add64 hh (IntKind.u64.wrap (a / 9223372036854775808)) (ca64 ll (IntKind.u64.wrap a) 0) hh0 hk2.2.2.2 hk2.1 hk2.2.1 w
   have HST := Lib.hid hstep
   clear hstep hts hacc
   go_wp2
   go_round
   case rel => exact ⟨k + 1, _, _, _, by omega, by go_num, rfl, rfl, rfl, HST.out⟩
   case measure => simp [intOf]; omega
  ·obtain rfl : k = n := by omega
   have hf := hacc.fits (by rw [← HS.out]; omega) (by rw [← HS.out]; omega)
   rw [← HS.out] at hf
   have HF := Lib.hid hf
   clear hf
   go_wp2
   ·go_ret2
    exact SumTo.no (HF.out.1 (by assumption))
   ·go_ret2
    exact SumTo.yes _ (HF.out.2 (by assumption)).1 (HF.out.2 (by assumption)).2

/-- Two numbers in a row of their own. -/
theorem Row.two (w : World) (T : TypeId) (a b : Int) (c : Nat) (hc : 2 ≤ c) : Row .i64 (w.alloc (.cells #[.int .i64 a, .int .i64 b] T)) (.slice (some ⟨w.heap.size, 0, none⟩) 2 c) [a, b] := by
 refine ⟨_, c, rfl, hc, .inr ⟨_, _, rfl, fun i hi => ?_⟩⟩
 rw [World.cell?_alloc_at _ _ _ _ rfl]
 match i, hi with
 | 0, _ => rfl
 | 1, _ => rfl

end Go.Proofs.Yteogdfpkcoodlaa
namespace Go.Proofs.Yteogdfpkcoodlaa
open Go.RowKit Go.Lib

/-- Below, the same, above. -/
def ord (a b : Int) : Int := if a < b then -1 else if b < a then 1 else 0
/-- The order of positions: by entity, then by currency. -/
def ord2 (e c e' c' : Int) : Int := if ord e e' = 0 then ord c c' else ord e e'
/-- A position. -/
def posV (e c a : Int) : Value := .agg #[.int .i64 e, .int .i64 c, .int .i64 a]

theorem ret_i64 {a b : Int} (h : a = b) : Ending.returned (.int .i64 a) = .returned (.int .i64 b) := by rw [h]
theorem nan_any (a : Int) (w : World) : Calls Try.prog 77 #[.int .i64 a] w fun x w' => x = .returned (.bool false) ∧ w = w' := by
 go_enter Try.func77, Try.ntmps77
 go_wp2
 go_ret
 exact ⟨by simp, rfl⟩
set_option maxHeartbeats 1000000 in
set_option maxRecDepth 100000 in
theorem cmp_any (a b : Int) (w : World) :
  Calls Try.prog 74 #[.int .i64 a, .int .i64 b] w fun x w' => x = .returned (.int .i64 (ord a b)) ∧ w = w' := by
 go_enter Try.func74, Try.ntmps74
 go_wp2_with fail
 refine (nan_any a w).mono ?_
 rintro e w1 ⟨rfl, rfl⟩
 go_wp2_with fail
 refine (nan_any b w).mono ?_
 rintro e w1 ⟨rfl, rfl⟩
 by_cases h1 : a < b
 ·have e : Hid (ord a b = -1) := if_pos h1
  go_wp2
  go_ret
  exact ⟨ret_i64 e.out.symm, rfl⟩
 ·by_cases h2 : b < a
  ·have e : Hid (ord a b = 1) := by show ord a b = 1; rw [ord, if_neg h1, if_pos h2]
   go_wp2
   go_ret
   exact ⟨ret_i64 e.out.symm, rfl⟩
  ·have e : Hid (ord a b = 0) := by show ord a b = 0; rw [ord, if_neg h1, if_neg h2]
   go_wp2
   go_ret
   exact ⟨ret_i64 e.out.symm, rfl⟩
set_option maxHeartbeats 1000000 in
set_option maxRecDepth 100000 in
theorem or_any (a b : Int) (w : World) (b0 : Nat) (hB : Blk w b0 #[.int .i64 a, .int .i64 b] 3) :
  Calls Try.prog 73 #[.slice (some ⟨b0, 0, none⟩) 2 2] w fun x w' => x = .returned (.int .i64 (if a = 0 then b else a)) ∧ w = w' := by
 have hc0 : w.cell? ⟨b0, 0, none⟩ = some (.int .i64 a) := hB.cell 0
 have hc1 : w.cell? ⟨b0, 1, none⟩ = some (.int .i64 b) := hB.cell 1
 clear hB
 go_enter Try.func73, Try.ntmps73
 go_wp2
 go_loop [8] (fun v8 => ∃ i : Nat, i ≤ 2 ∧ v8 = .int .i64 i ∧ (1 ≤ i → a = 0) ∧ (2 ≤ i → b = 0)) (fun v8 => (2 - RowKit.intOf v8).toNat)
 case atStart => exact ⟨0, by omega, rfl, (fun h => by omega), (fun h => by omega)⟩
 case round =>
  obtain ⟨i, hi, rfl, ha, hb⟩ := hrel
  match i, hi with
  | 0, _ =>
   by_cases h : a = 0
   ·have h' : (a != 0) = false := by simpa using h
    have HH := Lib.hid h
    clear h
    go_wp2
    go_round
    case rel => exact ⟨1, by omega, rfl, (fun _ => HH.out), (fun h => by omega)⟩
    case measure => simp [RowKit.intOf]
   ·have h' : (a != 0) = true := by simpa using h
    have HH := Lib.hid h
    clear h
    go_wp2
    go_ret
    exact ⟨ret_i64 (by first | rfl | rw [if_neg HH.out]), rfl⟩
  | 1, _ =>
   have HA := Lib.hid (ha (by omega))
   by_cases h : b = 0
   ·have h' : (b != 0) = false := by simpa using h
    have HH := Lib.hid h
    clear h ha hb
    go_wp2
    go_round
    case rel => exact ⟨2, by omega, rfl, (fun _ => HA.out), (fun _ => HH.out)⟩
    case measure => simp [RowKit.intOf]
   ·have h' : (b != 0) = true := by simpa using h
    clear h ha hb
    go_wp2
    go_ret
    exact ⟨ret_i64 (by first | rfl | rw [if_pos HA.out]), rfl⟩
  | 2, _ =>
   have HA := Lib.hid (ha (by omega))
   have HB := Lib.hid (hb (by omega))
   clear ha hb
   go_wp2
   go_ret
   exact ⟨ret_i64 (by have h2 := HB.out; first | exact h2.symm | simp [h2]), rfl⟩
end Go.Proofs.Yteogdfpkcoodlaa
namespace Go.Proofs.Yteogdfpkcoodlaa
open Go.RowKit
def Lin.v (x : Lin) : Value := .agg #[.int .i64 x.s, .int .i64 x.n, .int .i64 x.b, .int .i64 x.a]
def lin0 : Lin := ⟨0, 0, 0, 0⟩
def withinB (n : Int) (x : Lin) : Bool := decide (0 ≤ x.s ∧ x.s < n ∧ 0 ≤ x.b ∧ x.b < n ∧ x.s ≠ x.b ∧ 1 ≤ x.n ∧ x.n ≤ 1048576 ∧ 1 ≤ x.a ∧ x.a ≤ 1125899906842624)
def aheadB (x y : Lin) : Bool := decide (x.s < y.s ∨ x.s = y.s ∧ x.n < y.n)
/-- What is wrong with line k. -/
def stepE (n : Int) (xs : List Lin) (k : Nat) : Int := if withinB n (xs.getD k lin0) = false then 1 else if 0 < k ∧ aheadB (xs.getD (k - 1) lin0) (xs.getD k lin0) = false then 41 else 0
def fitE (n : Int) (xs : List Lin) : Int := (((List.range xs.length).map (stepE n xs)).find? (fun e => e ≠ 0)).getD 0
theorem fitE_at {n : Int} {xs : List Lin} {k : Nat} (hk : k < xs.length) (hb : ∀ j, j < k → stepE n xs j = 0) (he : stepE n xs k ≠ 0) : fitE n xs = stepE n xs k := by
 have h : ((List.range xs.length).map (stepE n xs)).find? (fun e => e ≠ 0) = some (stepE n xs k) := by
  rw [List.find?_eq_some_iff_getElem]
  refine ⟨by simpa using he, k, by simpa using hk, by simp, fun j hj => ?_⟩
  simp [hb j hj]
 unfold fitE
 rw [h]; rfl
theorem fitE_all {n : Int} {xs : List Lin} (hb : ∀ j, j < xs.length → stepE n xs j = 0) : fitE n xs = 0 := by
 have h : ((List.range xs.length).map (stepE n xs)).find? (fun e => e ≠ 0) = none := by
  rw [List.find?_eq_none]
  intro e he
  obtain ⟨j, hj, rfl⟩ := List.mem_map.1 he
  simpa using hb j (List.mem_range.1 hj)
 unfold fitE
 rw [h]; rfl
theorem stepE_vals (n : Int) (xs : List Lin) (k : Nat) : stepE n xs k = 0 ∨ stepE n xs k = 1 ∨ stepE n xs k = 41 := by
 unfold stepE
 split
 ·exact .inr (.inl rfl)
 ·split
  ·exact .inr (.inr rfl)
  ·exact .inl rfl
theorem fitE_zero {n : Int} {xs : List Lin} (h : fitE n xs = 0) : ∀ j, j < xs.length → stepE n xs j = 0 := by
 intro j
 induction j using Nat.strongRecOn with
 | ind j ih =>
  intro hj
  refine Classical.byContradiction fun hne => hne ?_
  rw [← fitE_at hj (fun i hi => ih i hi (by omega)) hne, h]
theorem fitE_vals (n : Int) (xs : List Lin) : fitE n xs = 0 ∨ fitE n xs = 1 ∨ fitE n xs = 41 := by
 unfold fitE
 cases h : ((List.range xs.length).map (stepE n xs)).find? (fun e => e ≠ 0) with
 | none => exact .inl rfl
 | some e =>
  have := List.mem_of_find?_eq_some h
  obtain ⟨j, _, rfl⟩ := List.mem_map.1 this
  exact stepE_vals n xs j
theorem fit_within {n : Int} {xs : List Lin} (h : fitE n xs = 0) : ∀ x ∈ xs, withinB n x = true := by
 intro x hx
 obtain ⟨j, hj, rfl⟩ := List.mem_iff_getElem.1 hx
 have h1 := fitE_zero h j hj
 unfold stepE at h1
 rw [List.getD_eq_getElem?_getD, List.getElem?_eq_getElem hj] at h1
 cases hw : withinB n xs[j] with
 | true => rfl
 | false =>
  rw [Option.getD_some, hw, if_pos rfl] at h1
  cases h1
theorem fit_ahead {n : Int} {xs : List Lin} (h : fitE n xs = 0) (j : Nat) (hj : j + 1 < xs.length) : aheadB xs[j] xs[j + 1] = true := by
 have h1 := fitE_zero h (j + 1) hj
 have h0 := fit_within h _ (List.getElem_mem hj)
 unfold stepE at h1
 rw [Nat.add_sub_cancel, List.getD_eq_getElem?_getD, List.getElem?_eq_getElem hj, List.getD_eq_getElem?_getD, List.getElem?_eq_getElem (show j < xs.length by omega), Option.getD_some, Option.getD_some, h0, if_neg (by simp)] at h1
 cases ha : aheadB xs[j] xs[j + 1] with
 | true => rfl
 | false =>
  rw [ha, if_pos ⟨by omega, rfl⟩] at h1
  cases h1
theorem fitE_of {n : Int} {xs : List Lin} (hw : ∀ x ∈ xs, withinB n x = true) (ha : ∀ j (hj : j + 1 < xs.length), aheadB xs[j] xs[j + 1] = true) : fitE n xs = 0 := by
 refine fitE_all fun j hj => ?_
 unfold stepE
 rw [List.getD_eq_getElem?_getD, List.getElem?_eq_getElem hj, Option.getD_some, hw _ (List.getElem_mem hj), if_neg (by simp), if_neg]
 rintro ⟨h0, h1⟩
 obtain ⟨i, rfl⟩ : ∃ i, j = i + 1 := ⟨j - 1, by omega⟩
 rw [Nat.add_sub_cancel, List.getD_eq_getElem?_getD, List.getElem?_eq_getElem (show i < xs.length by omega), Option.getD_some, ha i hj] at h1
 cases h1
/-- The lines of an entity; what each gives it. -/
def mineB (me : Int) (x : Lin) : Bool := decide (x.s = me ∨ x.b = me)
def mineL (me : Int) (xs : List Lin) : List Lin := xs.filter (mineB me)
def gives (me : Int) (x : Lin) : Int := if x.s = me then x.a else -x.a
def netL (me : Int) (xs : List Lin) : List Int := (mineL me xs).map (gives me)
def netS (me : Int) (xs : List Lin) : Int := (netL me xs).sum
def netsL (n : Nat) (xs : List Lin) : List Int := (List.range n).map (fun (i : Nat) => netS (i : Int) xs)
theorem netL_64 {n me : Int} {xs : List Lin} (h : ∀ x ∈ xs, withinB n x = true) : ∀ z ∈ netL me xs, -1125899906842624 ≤ z ∧ z ≤ 1125899906842624 := by
 intro z hz
 obtain ⟨x, hx, rfl⟩ := List.mem_map.1 hz
 have h1 := h x (List.mem_filter.1 hx).1
 unfold withinB at h1
 have h2 := of_decide_eq_true h1
 unfold gives
 split <;> constructor <;> omega
theorem sum_small {zs : List Int} {B : Int} (h : ∀ z ∈ zs, -B ≤ z ∧ z ≤ B) : -(B * zs.length) ≤ zs.sum ∧ zs.sum ≤ B * zs.length := by
 induction zs with
 | nil => simp
 | cons a t ih =>
  have h1 := h a (by simp)
  have h2 := ih (fun b hb => h b (by simp [hb]))
  simp only [List.sum_cons, List.length_cons, Int.natCast_add, Int.natCast_one, Int.mul_add, Int.mul_one]
  omega
theorem netL_len (me : Int) (xs : List Lin) : (netL me xs).length ≤ xs.length := by
 unfold netL mineL
 rw [List.length_map]
 exact List.length_filter_le _ _
theorem net_fits {n me : Int} {xs : List Lin} (h : ∀ x ∈ xs, withinB n x = true) (hl : xs.length ≤ 8191) : Fits (netS me xs) := by
 have h1 := sum_small (netL_64 (me := me) h)
 have h2 := netL_len me xs
 unfold netS Fits
 have h3 : (1125899906842624 : Int) * ((netL me xs).length : Int) ≤ 1125899906842624 * 8191 := Int.mul_le_mul_of_nonneg_left (by omega) (by omega)
 omega
end Go.Proofs.Yteogdfpkcoodlaa
namespace Go.Proofs.Yteogdfpkcoodlaa
open Go.RowKit
/-- A name. -/
def idV (s n : Int) : Value := .agg #[.int .i64 s, .int .i64 n]
set_option linter.unusedSimpArgs false in
set_option maxHeartbeats 4000000 in
set_option maxRecDepth 100000 in
theorem bcompare_any (e c e' c' : Int) (w : World) :
  Calls Try.prog 70 #[idV e c, idV e' c'] w fun x w' => x = .returned (.int .i64 (ord2 e c e' c')) ∧ Below w.heap.size w w' := by
 unfold idV
 go_enter Try.func70, Try.ntmps70
 go_wp2_with fail
 generalize hWB : (w.alloc (.cells #[.int .i64 e, .int .i64 c] 32)).alloc (.cells #[.int .i64 e', .int .i64 c'] 32) = WB
 have hB : Below w.heap.size w WB := by rw [← hWB]; exact (oneB w _).alloc (by simp) _
 have hA0 : Blk WB w.heap.size #[.int .i64 e, .int .i64 c] 32 := by rw [← hWB]; exact (Blk.new w _ _).alloc _
 have hA1 : Blk WB (w.heap.size + 1) #[.int .i64 e', .int .i64 c'] 32 := by rw [← hWB]; exact Blk.new' _ _ _ (by simp)
 have HS : Hid (∀ w', Below WB.heap.size WB w' → (w'.cell? ⟨w.heap.size, 0, none⟩ = some (.int .i64 e) ∧ w'.cell? ⟨w.heap.size, 1, none⟩ = some (.int .i64 c)) ∧ w'.cell? ⟨w.heap.size + 1, 0, none⟩ = some (.int .i64 e') ∧ w'.cell? ⟨w.heap.size + 1, 1, none⟩ = some (.int .i64 c')) :=
  fun w' h => ⟨⟨(hA0.below h hA0.lt).cell 0, (hA0.below h hA0.lt).cell 1⟩, (hA1.below h hA1.lt).cell 0, (hA1.below h hA1.lt).cell 1⟩
 have HB := Lib.hid hB
 clear hWB hB hA0 hA1
 have hS1 := HS.out WB.drew (Below.refl _ WB).drew
 refine wp_region_held_drew (S := fun w' => (w'.cell? ⟨w.heap.size, 0, none⟩ = some (.int .i64 e) ∧ w'.cell? ⟨w.heap.size, 1, none⟩ = some (.int .i64 c)) ∧ w'.cell? ⟨w.heap.size + 1, 0, none⟩ = some (.int .i64 e') ∧ w'.cell? ⟨w.heap.size + 1, 1, none⟩ = some (.int .i64 c')) (by kernel_rfl) hS1 (fun hS0 => ?_)
 refine wpAnyH_take (i := 0) (v := ?_) rfl (by kernel_rfl) (by kernel_rfl) (by kernel_rfl) (fun _ _ _ h => h) (Or.inl ⟨by kernel_rfl, ?_⟩) (by first | trivial | assumption) ?_
 rotate_left
 ·intro w hSw
  try dsimp only at hSw
  first | (go_simp; done) | (go_simp; with_reducible rfl)
 try simp only [Act.put, List.getElem_toArray, List.getElem_cons_succ, List.getElem_cons_zero, List.setIfInBounds_toArray, List.set_cons_zero, List.set_cons_succ]
 refine wpAnyH_take (i := 2) (v := ?_) rfl (by kernel_rfl) (by kernel_rfl) (by kernel_rfl) (fun _ _ _ h => h) (Or.inl ⟨by kernel_rfl, ?_⟩) (by first | trivial | assumption) ?_
 rotate_left
 ·intro w hSw
  try dsimp only at hSw
  first | (go_simp; done) | (go_simp; with_reducible rfl)
 try simp only [Act.put, List.getElem_toArray, List.getElem_cons_succ, List.getElem_cons_zero, List.setIfInBounds_toArray, List.set_cons_zero, List.set_cons_succ]
 refine wpAnyH_take (i := 5) (v := ?_) rfl (by kernel_rfl) (by kernel_rfl) (by kernel_rfl) (fun _ _ _ h => h) (Or.inl ⟨by kernel_rfl, ?_⟩) (by first | trivial | assumption) ?_
 rotate_left
 ·intro w hSw
  try dsimp only at hSw
  first | (go_simp; done) | (go_simp; with_reducible rfl)
 try simp only [Act.put, List.getElem_toArray, List.getElem_cons_succ, List.getElem_cons_zero, List.setIfInBounds_toArray, List.set_cons_zero, List.set_cons_succ]
 refine wpAnyH_take (i := 7) (v := ?_) rfl (by kernel_rfl) (by kernel_rfl) (by kernel_rfl) (fun _ _ _ h => h) (Or.inl ⟨by kernel_rfl, ?_⟩) (by first | trivial | assumption) ?_
 rotate_left
 ·intro w hSw
  try dsimp only at hSw
  first | (go_simp; done) | (go_simp; with_reducible rfl)
 try simp only [Act.put, List.getElem_toArray, List.getElem_cons_succ, List.getElem_cons_zero, List.setIfInBounds_toArray, List.set_cons_zero, List.set_cons_succ]
 refine wpAnyH_take (i := 1) (v := ?_) rfl (by kernel_rfl) (by kernel_rfl) (by kernel_rfl) (fun _ _ _ h => h) (Or.inl ⟨by kernel_rfl, ?_⟩) (by first | trivial | assumption) ?_
 rotate_left
 ·intro w hSw
  try dsimp only at hSw
  first | (go_simp; done) | (go_simp; with_reducible rfl)
 try simp only [Act.put, List.getElem_toArray, List.getElem_cons_succ, List.getElem_cons_zero, List.setIfInBounds_toArray, List.set_cons_zero, List.set_cons_succ]
 refine wpAnyH_take (i := 3) (v := ?_) rfl (by kernel_rfl) (by kernel_rfl) (by kernel_rfl) (fun _ _ _ h => h) (Or.inl ⟨by kernel_rfl, ?_⟩) (by first | trivial | assumption) ?_
 rotate_left
 ·intro w hSw
  try dsimp only at hSw
  first | (go_simp; done) | (go_simp; with_reducible rfl)
 try simp only [Act.put, List.getElem_toArray, List.getElem_cons_succ, List.getElem_cons_zero, List.setIfInBounds_toArray, List.set_cons_zero, List.set_cons_succ]
 refine wpAnyH_take (i := 6) (v := ?_) rfl (by kernel_rfl) (by kernel_rfl) (by kernel_rfl) (fun _ _ _ h => h) (Or.inl ⟨by kernel_rfl, ?_⟩) (by first | trivial | assumption) ?_
 rotate_left
 ·intro w hSw
  try dsimp only at hSw
  first | (go_simp; done) | (go_simp; with_reducible rfl)
 try simp only [Act.put, List.getElem_toArray, List.getElem_cons_succ, List.getElem_cons_zero, List.setIfInBounds_toArray, List.set_cons_zero, List.set_cons_succ]
 refine wpAnyH_take (i := 8) (v := ?_) rfl (by kernel_rfl) (by kernel_rfl) (by kernel_rfl) (fun _ _ _ h => h) (Or.inl ⟨by kernel_rfl, ?_⟩) (by first | trivial | assumption) ?_
 rotate_left
 ·intro w hSw
  try dsimp only at hSw
  first | (go_simp; done) | (go_simp; with_reducible rfl)
 try simp only [Act.put, List.getElem_toArray, List.getElem_cons_succ, List.getElem_cons_zero, List.setIfInBounds_toArray, List.set_cons_zero, List.set_cons_succ]
 refine rdq 4 (fun K hK => ?_)
 go_simp
 go_at_call 74
 refine (cmp_any e e' WB.drew).mono ?_
 rintro y w1 ⟨rfl, rfl⟩
 try go_wp2_with fail
 refine hK.out _ _ hS1 (fun hS => ?_)
 clear hK K
 try simp only [Act.put, List.getElem_toArray, List.getElem_cons_succ, List.getElem_cons_zero, List.setIfInBounds_toArray, List.set_cons_zero, List.set_cons_succ]
 refine rdq 9 (fun K hK => ?_)
 go_simp
 go_at_call 74
 refine (cmp_any c c' WB.drew).mono ?_
 rintro y w1 ⟨rfl, rfl⟩
 try go_wp2_with fail
 refine hK.out _ _ hS1 (fun hS => ?_)
 clear hK K
 try simp only [Act.put, List.getElem_toArray, List.getElem_cons_succ, List.getElem_cons_zero, List.setIfInBounds_toArray, List.set_cons_zero, List.set_cons_succ]
 refine rdq 10 (fun K hK => ?_)
 go_simp
 have hS2 := HS.out (WB.drew.alloc (.cells #[.int .i64 (ord e e'), .int .i64 (ord c c')] 3)) ((Below.refl _ WB).drew.alloc (Nat.le_refl _) _)
 refine hK.out _ _ hS2 (fun hS => ?_)
 clear hK K
 try simp only [Act.put, List.getElem_toArray, List.getElem_cons_succ, List.getElem_cons_zero, List.setIfInBounds_toArray, List.set_cons_zero, List.set_cons_succ]
 refine rdq 11 (fun K hK => ?_)
 go_simp
 go_at_call 73
 refine (or_any (ord e e') (ord c c') _ _ (Blk.new' WB.drew _ _ rfl)).mono ?_
 rintro y w1 ⟨rfl, rfl⟩
 rw [show (if ord e e' = 0 then ord c c' else ord e e') = ord2 e c e' c' from rfl]
 try go_wp2_with fail
 refine hK.out _ _ hS2 (fun hS => ?_)
 clear hK K
 try simp only [Act.put, List.getElem_toArray, List.getElem_cons_succ, List.getElem_cons_zero, List.setIfInBounds_toArray, List.set_cons_zero, List.set_cons_succ]
 refine wpAnyH_take (i := 12) (v := ?_) rfl (by kernel_rfl) (by kernel_rfl) (by kernel_rfl) (fun _ _ _ h => h) (Or.inl ⟨by kernel_rfl, ?_⟩) (by first | trivial | assumption) ?_
 rotate_left
 ·intro w hSw
  try dsimp only at hSw
  first | (go_simp; done) | (go_simp; with_reducible rfl)
 try simp only [Act.put, List.getElem_toArray, List.getElem_cons_succ, List.getElem_cons_zero, List.setIfInBounds_toArray, List.set_cons_zero, List.set_cons_succ]
 refine wpAnyH_done (by kernel_rfl) ?_ _
 go_wp2_with fail
 go_ret
 exact ⟨rfl, HB.out.drew.alloc HB.out.size _⟩
end Go.Proofs.Yteogdfpkcoodlaa
namespace Go.Proofs.Yteogdfpkcoodlaa
structure Pos where
 e : Int
 c : Int
 a : Int
def Pos.cells (p : Pos) : List Value := [.int .i64 p.e, .int .i64 p.c, .int .i64 p.a]
def ordP (p q : Pos) : Int := ord2 p.e p.c q.e q.c
def cellsOf (ps : List Pos) : List Value := ps.flatMap Pos.cells
theorem cellsOf_length (ps : List Pos) : (cellsOf ps).length = ps.length * 3 := by
 induction ps with
 | nil => rfl
 | cons p ps ih => simp [cellsOf, Pos.cells] at ih ⊢; omega
theorem cellsOf_app (ps qs : List Pos) : cellsOf (ps ++ qs) = cellsOf ps ++ cellsOf qs := by simp [cellsOf]
theorem ord_cases (a b : Int) : (a < b ∧ ord a b = -1) ∨ (b < a ∧ ord a b = 1) ∨ (a = b ∧ ord a b = 0) := by
 unfold ord
 by_cases h : a < b
 ·exact .inl ⟨h, if_pos h⟩
 ·by_cases g : b < a
  ·exact .inr (.inl ⟨g, by rw [if_neg h, if_pos g]⟩)
  ·exact .inr (.inr ⟨by omega, by rw [if_neg h, if_neg g]⟩)
theorem ord2_cases (e c e' c' : Int) : ((e < e' ∨ (e = e' ∧ c < c')) ∧ ord2 e c e' c' = -1) ∨ ((e' < e ∨ (e = e' ∧ c' < c)) ∧ ord2 e c e' c' = 1) ∨ ((e = e' ∧ c = c') ∧ ord2 e c e' c' = 0) := by
 unfold ord2
 rcases ord_cases e e' with ⟨h, g⟩ | ⟨h, g⟩ | ⟨h, g⟩ <;> rcases ord_cases c c' with ⟨h', g'⟩ | ⟨h', g'⟩ | ⟨h', g'⟩ <;> rw [g, g'] <;> split <;> omega
theorem ordP_lt {p q : Pos} : ordP p q < 0 ↔ (p.e < q.e ∨ (p.e = q.e ∧ p.c < q.c)) := by
 unfold ordP; have := ord2_cases p.e p.c q.e q.c; omega
theorem ordP_gt {p q : Pos} : 0 < ordP p q ↔ (q.e < p.e ∨ (p.e = q.e ∧ q.c < p.c)) := by
 unfold ordP; have := ord2_cases p.e p.c q.e q.c; omega
theorem ordP_eq {p q : Pos} : ordP p q = 0 ↔ (p.e = q.e ∧ p.c = q.c) := by
 unfold ordP; have := ord2_cases p.e p.c q.e q.c; omega
/-- A list around a place: what is ahead, what is there, what is behind. -/
structure Around (t : Pos) (ps A mid B : List Pos) : Prop where
 all : ps = A ++ mid ++ B
 ahead : ∀ p ∈ A, ordP p t < 0
 behind : ∀ p ∈ B, 0 < ordP p t
 there : mid = [] ∨ ∃ q, mid = [q] ∧ ordP q t = 0
def SortedP (ps : List Pos) : Prop := ps.Pairwise (fun p q => ordP p q < 0)
theorem around_of_sorted (t : Pos) : ∀ ps, SortedP ps → ∃ A mid B, Around t ps A mid B
 | [], _ => ⟨[], [], [], rfl, (fun _ h => by cases h), (fun _ h => by cases h), .inl rfl⟩
 | p :: ps, h => by
  have h2 := List.pairwise_cons.1 h
  rcases Int.lt_trichotomy (ordP p t) 0 with g | g | g
  ·obtain ⟨A, mid, B, ha⟩ := around_of_sorted t ps h2.2
   refine ⟨p :: A, mid, B, by rw [ha.all]; rfl, ?_, ha.behind, ha.there⟩
   intro q hq
   rcases List.mem_cons.1 hq with rfl | hq
   ·exact g
   ·exact ha.ahead q hq
  ·refine ⟨[], [p], ps, rfl, (fun _ h => by cases h), ?_, .inr ⟨p, rfl, g⟩⟩
   intro q hq
   have := h2.1 q hq
   rw [ordP_lt] at this; rw [ordP_eq] at g; rw [ordP_gt]; omega
  ·refine ⟨[], [], p :: ps, rfl, (fun _ h => by cases h), ?_, .inl rfl⟩
   intro q hq
   rcases List.mem_cons.1 hq with rfl | hq
   ·exact g
   ·have := h2.1 q hq
    rw [ordP_lt] at this; rw [ordP_gt] at g ⊢; omega
theorem Around.lt_iff {t : Pos} {ps A mid B : List Pos} (h : Around t ps A mid B) (i : Nat) (hi : i < ps.length) : ordP (ps[i]) t < 0 ↔ i < A.length := by
 obtain ⟨rfl, h1, h2, h3⟩ := h
 constructor
 ·intro g
  by_cases hlt : i < A.length
  ·exact hlt
  ·exfalso
   have hm : (A ++ mid ++ B)[i] ∈ mid ++ B := by
    rw [List.getElem_of_eq (List.append_assoc A mid B) hi, List.getElem_append_right (by omega)]; exact List.getElem_mem _
   rcases List.mem_append.1 hm with hm | hm
   ·rcases h3 with rfl | ⟨q, rfl, hq⟩
    ·cases hm
    ·rw [List.mem_singleton.1 hm, hq] at g; omega
   ·have := h2 _ hm; omega
 ·intro g
  have : (A ++ mid ++ B)[i] = A[i] := by rw [List.getElem_of_eq (List.append_assoc A mid B) hi, List.getElem_append_left g]
  rw [this]; exact h1 _ (List.getElem_mem _)
theorem Around.le {t : Pos} {ps A mid B : List Pos} (h : Around t ps A mid B) : A.length ≤ ps.length := by rw [h.all]; simp only [List.length_append]; omega
theorem Around.found {t : Pos} {ps A mid B : List Pos} (h : Around t ps A mid B) (hi : A.length < ps.length) : ordP (ps[A.length]) t = 0 ↔ mid ≠ [] := by
 obtain ⟨rfl, h1, h2, h3⟩ := h
 rcases h3 with rfl | ⟨q, rfl, hq⟩
 ·simp only [ne_eq, not_true_eq_false, iff_false]
  have hm : (A ++ [] ++ B)[A.length] ∈ B := by
   rw [List.getElem_of_eq (List.append_assoc A [] B) hi, List.getElem_append_right (by omega)]; exact List.getElem_mem _
  have := h2 _ hm; omega
 ·simp only [ne_eq, List.cons_ne_self, not_false_eq_true, iff_true]
  have : (A ++ [q] ++ B)[A.length] = q := by
   rw [List.getElem_of_eq (List.append_assoc A [q] B) hi, List.getElem_append_right (by omega)]; simp
  rw [this]; exact hq
theorem Around.notFound {t : Pos} {ps A mid B : List Pos} (h : Around t ps A mid B) (hi : ¬ A.length < ps.length) : mid = [] := by
 rcases h.there with h' | ⟨q, rfl, _⟩
 ·exact h'
 ·rw [h.all] at hi; simp only [List.length_append, List.length_cons] at hi; omega
/-- What an entity has of a currency, place 8 * entity + currency. -/
def atM (M : List Int) (k : Nat) : Int := M.getD k 0
def pM (M : List Int) (k : Nat) : Option Pos := if atM M k = 0 then none else some ⟨(k / 8 : Nat), (k % 8 : Nat), atM M k⟩
def posOf (M : List Int) : List Pos := (List.range 64).filterMap (pM M)
def preP (M : List Int) (k : Nat) : List Pos := (List.range k).filterMap (pM M)
def midP (M : List Int) (k : Nat) : List Pos := (pM M k).toList
def postP (M : List Int) (k : Nat) : List Pos := (List.range' (k + 1) (63 - k)).filterMap (pM M)
theorem filterMap_same {f g : Nat → Option Pos} : ∀ {l : List Nat}, (∀ j ∈ l, f j = g j) → l.filterMap f = l.filterMap g
 | [], _ => rfl
 | a :: l, h => by rw [List.filterMap_cons, List.filterMap_cons, h a (by simp), filterMap_same (l := l) fun j hj => h j (by simp [hj])]
theorem posOf_split (M : List Int) (k : Nat) (h : k < 64) : posOf M = preP M k ++ midP M k ++ postP M k := by
 have hr : List.range 64 = List.range k ++ [k] ++ List.range' (k + 1) (63 - k) := by
  rw [List.range_eq_range', List.range_eq_range', show (64 : Nat) = k + (1 + (63 - k)) by omega, ← List.range'_append_1, ← List.range'_append_1]
  simp
 unfold posOf preP midP postP
 rw [hr, List.filterMap_append, List.filterMap_append]
 have hp : [k].filterMap (pM M) = (pM M k).toList := by cases hp : pM M k <;> simp [hp]
 rw [hp]
theorem pM_set_other (M : List Int) (k j : Nat) (a : Int) (h : j ≠ k) : pM (M.set k a) j = pM M j := by
 unfold pM atM; rw [List.getD_eq_getElem?_getD, List.getD_eq_getElem?_getD, List.getElem?_set_ne (by omega)]
theorem pre_set (M : List Int) (k : Nat) (a : Int) : preP (M.set k a) k = preP M k := by
 unfold preP
 exact filterMap_same fun j hj => pM_set_other M k j a (by rw [List.mem_range] at hj; omega)
theorem post_set (M : List Int) (k : Nat) (a : Int) : postP (M.set k a) k = postP M k := by
 unfold postP
 exact filterMap_same fun j hj => pM_set_other M k j a (by rw [List.mem_range'_1] at hj; omega)
theorem mid_set (M : List Int) (k : Nat) (a : Int) (h : k < M.length) : midP (M.set k a) k = if a = 0 then [] else [⟨(k / 8 : Nat), (k % 8 : Nat), a⟩] := by
 have e : atM (M.set k a) k = a := by unfold atM; rw [List.getD_eq_getElem?_getD, List.getElem?_set_self h]; rfl
 unfold midP pM
 rw [e]
 split <;> rfl
theorem posOf_set (M : List Int) (k : Nat) (a : Int) (h : k < 64) (hM : M.length = 64) : posOf (M.set k a) = preP M k ++ (if a = 0 then [] else [⟨(k / 8 : Nat), (k % 8 : Nat), a⟩]) ++ postP M k := by
 rw [posOf_split _ k h, pre_set, post_set, mid_set M k a (by omega)]
theorem around_posOf (M : List Int) (k : Nat) (h : k < 64) (a : Int) : Around ⟨(k / 8 : Nat), (k % 8 : Nat), a⟩ (posOf M) (preP M k) (midP M k) (postP M k) := by
 refine ⟨posOf_split M k h, ?_, ?_, ?_⟩
 ·intro p hp
  unfold preP at hp
  obtain ⟨j, hj, hp⟩ := List.mem_filterMap.1 hp
  rw [List.mem_range] at hj
  unfold pM at hp
  split at hp
  ·cases hp
  ·cases hp
   rw [ordP_lt]; dsimp only; omega
 ·intro p hp
  unfold postP at hp
  obtain ⟨j, hj, hp⟩ := List.mem_filterMap.1 hp
  rw [List.mem_range'_1] at hj
  unfold pM at hp
  split at hp
  ·cases hp
  ·cases hp
   rw [ordP_gt]; dsimp only; omega
 ·unfold midP pM
  split
  ·exact .inl rfl
  ·exact .inr ⟨_, rfl, by rw [ordP_eq]; exact ⟨rfl, rfl⟩⟩
theorem posOf_mem {M : List Int} {p : Pos} (h : p ∈ posOf M) : (0 ≤ p.e ∧ p.e < 8) ∧ (0 ≤ p.c ∧ p.c < 8) ∧ p.a = atM M (8 * p.e + p.c).toNat ∧ p.a ≠ 0 := by
 unfold posOf at h
 obtain ⟨j, hj, hp⟩ := List.mem_filterMap.1 h
 rw [List.mem_range] at hj
 unfold pM at hp
 split at hp
 ·cases hp
 ·rename_i h0
  cases hp
  dsimp only
  refine ⟨by omega, by omega, ?_, h0⟩
  congr 1; omega
theorem posOf_sorted (M : List Int) : SortedP (posOf M) := by
 unfold SortedP posOf
 rw [List.pairwise_filterMap]
 refine List.Pairwise.imp ?_ (List.pairwise_lt_range (n := 64))
 intro i j hij p hp q hq
 unfold pM at hp hq
 split at hp
 ·cases hp
 ·split at hq
  ·cases hq
  ·cases hp; cases hq
   rw [ordP_lt]; dsimp only; omega
theorem posOf_length (M : List Int) : (posOf M).length ≤ 64 := by
 unfold posOf
 exact Nat.le_trans (List.length_filterMap_le _ _) (by simp)
theorem mid_val (M : List Int) (k : Nat) : (midP M k = [] ∧ atM M k = 0) ∨ (midP M k = [⟨(k / 8 : Nat), (k % 8 : Nat), atM M k⟩] ∧ atM M k ≠ 0) := by
 unfold midP pM
 split
 ·exact .inl ⟨rfl, by assumption⟩
 ·exact .inr ⟨rfl, by assumption⟩
end Go.Proofs.Yteogdfpkcoodlaa
namespace Go.Proofs.Yteogdfpkcoodlaa
open Go.RowKit
theorem retBl {a b : Bool} (h : a = b) : Ending.returned (.bool a) = .returned (.bool b) := by rw [h]
theorem ahead_ord {x y : Lin} : aheadB x y = true ↔ ord2 x.s x.n y.s y.n < 0 := by
 unfold aheadB
 have := ord2_cases x.s x.n y.s y.n
 simp only [decide_eq_true_eq]
 omega
set_option linter.unusedSimpArgs false in
set_option maxHeartbeats 4000000 in
set_option maxRecDepth 100000 in
theorem lwithin_any (n : Int) (x : Lin) (w : World) : Calls Try.prog 61 #[.int .i64 n, x.v] w fun e w' => e = .returned (.bool (withinB n x)) ∧ Below w.heap.size w w' := by
 have HB := Lib.hid (oneB w (.cells #[.int .i64 x.s, .int .i64 x.n, .int .i64 x.b, .int .i64 x.a] 64))
 unfold Lin.v at *
 go_enter Try.func61, Try.ntmps61
 go_wp2
 all_goals
  go_ret
  first
   | exact ⟨retBl (by unfold withinB; rw [Bool.eq_iff_iff]; simp only [decide_eq_true_eq, Bool.false_eq_true, false_iff, true_iff, Bool.and_eq_true, bne_iff_ne, ne_eq]; omega), HB.out⟩
   | (have h := HB.out; rw [‹x.s = x.b›] at h; exact ⟨retBl (by unfold withinB; rw [Bool.eq_iff_iff]; simp only [decide_eq_true_eq, Bool.false_eq_true, false_iff, true_iff, Bool.and_eq_true, bne_iff_ne, ne_eq]; omega), h⟩)
set_option linter.unusedSimpArgs false in
set_option maxHeartbeats 4000000 in
set_option maxRecDepth 100000 in
theorem ccompare_any (x y : Lin) (w : World) : Calls Try.prog 62 #[x.v, y.v] w fun e w' => e = .returned (.int .i64 (ord2 x.s x.n y.s y.n)) ∧ Below w.heap.size w w' := by
 have HC := Lib.hid (fun (W : World) => bcompare_any x.s x.n y.s y.n W)
 unfold idV at *
 unfold Lin.v
 go_enter Try.func62, Try.ntmps62
 go_wp2_with fail
 refine (HC.out _).mono ?_
 rintro r w1 ⟨rfl, hb⟩
 have HB := Lib.hid (((oneB w _).alloc (by simp) _).trans (hb.mono (by simp; omega)))
 clear hb
 go_wp2_with fail
 go_ret
 exact ⟨rfl, HB.out⟩
set_option linter.unusedSimpArgs false in
set_option maxHeartbeats 4000000 in
set_option maxRecDepth 100000 in
theorem lfits_any (w : World) (N : Int) (v : Value) (xs : List Lin) (hr : TRow encN w v xs) (hn : xs.length ≤ 100000) :
  Calls Try.prog 45 #[.int .i64 N, v] w fun e w' => e = .returned (.int .i64 (fitE N xs)) ∧ Below w.heap.size w w' := by
 obtain ⟨p, c, rfl⟩ := hr.shape
 have HR := Lib.hid hr
 clear hr
 generalize hl : xs.length = n at *
 have HL := Lib.hid hl
 clear hl
 go_enter Try.func45, Try.ntmps45
 go_wp2_with fail
 go_loopw [5, 9] (fun _ i wr => ∃ k : Nat, k ≤ n ∧ i = .int .i64 k ∧ Hid (Below w.heap.size w wr ∧ ∀ j, j < k → stepE N xs j = 0)) (fun _ i _ => n - (intOf i).toNat)
 case atStart => exact ⟨0, by omega, rfl, ⟨Below.refl _ _, fun j hj => by omega⟩⟩
 case round =>
  obtain ⟨k, hk, rfl, HB⟩ := hrel
  by_cases hlt : k < n
  ·have hkl : k < xs.length := by rw [HL.out]; exact hlt
   have hltI : (k : Int) < (n : Int) := by omega
   obtain ⟨b, o, rfl, hbl, hcs⟩ := (HR.out.kept HB.out.1).at_ k hkl
   obtain ⟨x, hx⟩ : ∃ x, xs[k] = x := ⟨_, rfl⟩
   rw [hx] at hcs
   have HX : Hid (xs.getD k lin0 = x) := by show _ = _; rw [List.getD_eq_getElem?_getD, List.getElem?_eq_getElem hkl, Option.getD_some, hx]
   clear hx
   have c0 : wr.cell? ⟨b, o + k * 4, none⟩ = some (.int .i64 x.s) := hcs 0 (by decide)
   have c1 : wr.cell? ⟨b, o + k * 4 + 1, none⟩ = some (.int .i64 x.n) := hcs 1 (by decide)
   have c2 : wr.cell? ⟨b, o + k * 4 + 2, none⟩ = some (.int .i64 x.b) := hcs 2 (by decide)
   have c3 : wr.cell? ⟨b, o + k * 4 + 3, none⟩ = some (.int .i64 x.a) := hcs 3 (by decide)
   have HWI := Lib.hid (fun W => lwithin_any N x W)
   have HX1 := Lib.hid (Blk.new wr #[.int .i64 x.s, .int .i64 x.n, .int .i64 x.b, .int .i64 x.a] 64)
   have HB1 := Lib.hid (HB.out.1.trans ((oneB wr (.cells #[.int .i64 x.s, .int .i64 x.n, .int .i64 x.b, .int .i64 x.a] 64)).mono HB.out.1.size))
   unfold Lin.v at HWI
   clear hcs
   go_wp2_with fail
   generalize wr.alloc (.cells #[.int .i64 x.s, .int .i64 x.n, .int .i64 x.b, .int .i64 x.a] 64) = W1 at *
   generalize hgx : wr.heap.size = gx at *
   refine (HWI.out W1).mono ?_
   rintro y w1 ⟨rfl, hb1⟩
   have HXB := kbq HX1 hb1
   have HB2 := ktq HB1 hb1
   clear hb1 HX1 HB1 HWI c0 c1 c2 c3 hgx
   cases hw : withinB N x
   ·have HE : Hid (fitE N xs = 1) := by
     have h1 : stepE N xs k = 1 := by unfold stepE; rw [HX.out, hw, if_pos rfl]
     exact (fitE_at hkl HB.out.2 (by rw [h1]; decide)).trans h1
    clear hw
    go_wp2_with fail
    go_ret
    exact ⟨by rw [HE.out]; rfl, HB2.out⟩
   ·have HWT := Lib.hid hw
    clear hw
    have x0 : w1.cell? ⟨gx, 0, none⟩ = some (.int .i64 x.s) := HXB.out.cell 0
    have x1 : w1.cell? ⟨gx, 1, none⟩ = some (.int .i64 x.n) := HXB.out.cell 1
    have x2 : w1.cell? ⟨gx, 2, none⟩ = some (.int .i64 x.b) := HXB.out.cell 2
    have x3 : w1.cell? ⟨gx, 3, none⟩ = some (.int .i64 x.a) := HXB.out.cell 3
    have hgl := HXB.out.lt
    rcases Nat.eq_zero_or_pos k with rfl | hpos
    ·have HN : Hid (Below w.heap.size w w1 ∧ ∀ j, j < 0 + 1 → stepE N xs j = 0) := ⟨HB2.out, fun j hj => by
      obtain rfl : j = 0 := by omega
      unfold stepE
      rw [HX.out, HWT.out, if_neg (by simp), if_neg (by simp)]⟩
     clear hbl
     go_wp2_with fail
     refine wp_region_held_drew (S := fun w' => True) (by kernel_rfl) trivial (fun hS0 => ?_)
     refine tkq 0 ?_
     refine tkq 1 ?_
     refine tkq 2 ?_
     refine tnq 3 ?_
     refine tnq 4 ?_
     refine tnq 5 ?_
     refine tnq 6 ?_
     refine tnq 7 ?_
     refine tnq 8 ?_
     refine tnq 9 ?_
     refine tnq 10 ?_
     refine tkq 11 ?_
     refine wpAnyH_done (by kernel_rfl) ?_ _
     go_wp2_with fail
     go_roundw
     case rel => exact ⟨0 + 1, by omega, by go_num, ⟨HN.out.1.drew, HN.out.2⟩⟩
     case measure => simp [intOf]; omega
    ·obtain ⟨m, rfl⟩ : ∃ m, k = m + 1 := ⟨k - 1, by omega⟩
     have hml : m < xs.length := by omega
     obtain ⟨b', o', e1, hbl2, hcs⟩ := (HR.out.kept HB2.out).at_ m hml
     cases e1
     obtain ⟨q, hq⟩ : ∃ q, xs[m] = q := ⟨_, rfl⟩
     rw [hq] at hcs
     have HQ : Hid (xs.getD m lin0 = q) := by show _ = _; rw [List.getD_eq_getElem?_getD, List.getElem?_eq_getElem hml, Option.getD_some, hq]
     clear hq
     have c0 : w1.cell? ⟨b, o + m * 4, none⟩ = some (.int .i64 q.s) := hcs 0 (by decide)
     have c1 : w1.cell? ⟨b, o + m * 4 + 1, none⟩ = some (.int .i64 q.n) := hcs 1 (by decide)
     have c2 : w1.cell? ⟨b, o + m * 4 + 2, none⟩ = some (.int .i64 q.b) := hcs 2 (by decide)
     have c3 : w1.cell? ⟨b, o + m * 4 + 3, none⟩ = some (.int .i64 q.a) := hcs 3 (by decide)
     have HC := Lib.hid (fun W => ccompare_any q x W)
     unfold Lin.v at HC
     clear hcs
     have hS1 : w1.drew.cell? ⟨gx, 0, none⟩ = some (.int .i64 x.s) ∧ w1.drew.cell? ⟨gx, 1, none⟩ = some (.int .i64 x.n) ∧ w1.drew.cell? ⟨gx, 2, none⟩ = some (.int .i64 x.b) ∧ w1.drew.cell? ⟨gx, 3, none⟩ = some (.int .i64 x.a) ∧ w1.drew.cell? ⟨b, o + m * 4, none⟩ = some (.int .i64 q.s) ∧ w1.drew.cell? ⟨b, o + m * 4 + 1, none⟩ = some (.int .i64 q.n) ∧ w1.drew.cell? ⟨b, o + m * 4 + 2, none⟩ = some (.int .i64 q.b) ∧ w1.drew.cell? ⟨b, o + m * 4 + 3, none⟩ = some (.int .i64 q.a) := ⟨x0, x1, x2, x3, c0, c1, c2, c3⟩
     have HS : Hid (∀ w', Below w1.heap.size w1 w' → w'.cell? ⟨gx, 0, none⟩ = some (.int .i64 x.s) ∧ w'.cell? ⟨gx, 1, none⟩ = some (.int .i64 x.n) ∧ w'.cell? ⟨gx, 2, none⟩ = some (.int .i64 x.b) ∧ w'.cell? ⟨gx, 3, none⟩ = some (.int .i64 x.a) ∧ w'.cell? ⟨b, o + m * 4, none⟩ = some (.int .i64 q.s) ∧ w'.cell? ⟨b, o + m * 4 + 1, none⟩ = some (.int .i64 q.n) ∧ w'.cell? ⟨b, o + m * 4 + 2, none⟩ = some (.int .i64 q.b) ∧ w'.cell? ⟨b, o + m * 4 + 3, none⟩ = some (.int .i64 q.a)) := fun w' h => ⟨(h.cell (p := ⟨gx, 0, none⟩) hgl).trans x0, (h.cell (p := ⟨gx, 1, none⟩) hgl).trans x1, (h.cell (p := ⟨gx, 2, none⟩) hgl).trans x2, (h.cell (p := ⟨gx, 3, none⟩) hgl).trans x3, (h.cell (p := ⟨b, _, none⟩) hbl2).trans c0, (h.cell (p := ⟨b, _, none⟩) hbl2).trans c1, (h.cell (p := ⟨b, _, none⟩) hbl2).trans c2, (h.cell (p := ⟨b, _, none⟩) hbl2).trans c3⟩
     have HSE : Hid (stepE N xs (m + 1) = if aheadB q x = false then 41 else 0) := by
      show _ = _
      unfold stepE
      rw [Nat.add_sub_cancel, HX.out, HWT.out, HQ.out, if_neg (by simp)]
      simp
     have hm1 : ((m + 1 : Nat) : Int) - 1 = (m : Int) := by omega
     have hmn : m < n := by omega
     have hwm : IntKind.i64.wrap (m : Int) = (m : Int) := IntWalk.i64_in _ (by omega)
     have hp0 : (0 : Int) < ((m + 1 : Nat) : Int) := by omega
     clear hpos
     go_wp2_with fail
     refine wp_region_held_drew (S := fun w' => w'.cell? ⟨gx, 0, none⟩ = some (.int .i64 x.s) ∧ w'.cell? ⟨gx, 1, none⟩ = some (.int .i64 x.n) ∧ w'.cell? ⟨gx, 2, none⟩ = some (.int .i64 x.b) ∧ w'.cell? ⟨gx, 3, none⟩ = some (.int .i64 x.a) ∧ w'.cell? ⟨b, o + m * 4, none⟩ = some (.int .i64 q.s) ∧ w'.cell? ⟨b, o + m * 4 + 1, none⟩ = some (.int .i64 q.n) ∧ w'.cell? ⟨b, o + m * 4 + 2, none⟩ = some (.int .i64 q.b) ∧ w'.cell? ⟨b, o + m * 4 + 3, none⟩ = some (.int .i64 q.a)) (by kernel_rfl) hS1 (fun hS0 => ?_)
     refine tkq 0 ?_
     refine tkq 1 ?_
     refine tkq 2 ?_
     refine tkq 3 ?_
     refine tkq 4 ?_
     refine tkq 5 ?_
     refine tkq 6 ?_
     refine tkq 7 ?_
     refine tkq 8 ?_
     refine rdq 9 (fun K hK => ?_)
     go_simp
     go_at_call 62
     refine (HC.out w1.drew).mono ?_
     rintro y w2 ⟨rfl, hb2⟩
     have HB3 := Lib.hid ((Below.refl w1.heap.size w1).drew.trans (hb2.mono (Nat.le_refl _)))
     clear hb2
     try go_wp2_with fail
     refine hK.out _ _ (HS.out w2 HB3.out) (fun hS => ?_)
     clear hK K
     try simp only [Act.put, List.getElem_toArray, List.getElem_cons_succ, List.getElem_cons_zero, List.setIfInBounds_toArray, List.set_cons_zero, List.set_cons_succ]
     refine tkq 10 ?_
     refine tkq 11 ?_
     refine wpAnyH_done (by kernel_rfl) ?_ _
     cases ha : aheadB q x
     ·have hc : 0 ≤ ord2 q.s q.n x.s x.n := by
       have := mt ahead_ord.2 (by rw [ha]; decide)
       omega
      have HE : Hid (fitE N xs = 41) := by
       have h1 : stepE N xs (m + 1) = 41 := by rw [HSE.out, ha, if_pos rfl]
       exact (fitE_at hkl HB.out.2 (by rw [h1]; decide)).trans h1
      have HB4 := Lib.hid (HB2.out.trans (HB3.out.mono HB2.out.size))
      clear ha
      go_wp2_with fail
      go_ret
      exact ⟨by rw [HE.out]; rfl, HB4.out⟩
     ·have hc : ord2 q.s q.n x.s x.n < 0 := ahead_ord.1 ha
      have HN : Hid (Below w.heap.size w w2 ∧ ∀ j, j < m + 1 + 1 → stepE N xs j = 0) := ⟨HB2.out.trans (HB3.out.mono HB2.out.size), fun j hj => by
       by_cases e : j = m + 1
       ·subst e; rw [HSE.out, ha, if_neg (by simp)]
       ·exact HB.out.2 j (by omega)⟩
      clear ha
      go_wp2_with fail
      go_roundw
      case rel => exact ⟨m + 1 + 1, by omega, by go_num, HN⟩
      case measure => simp [intOf]; omega
  ·have hle : (n : Int) ≤ (k : Int) := by omega
   have HE : Hid (fitE N xs = 0) := fitE_all fun j hj => HB.out.2 j (by have := HL.out; omega)
   go_wp2_with fail
   go_ret
   exact ⟨by rw [HE.out]; rfl, HB.out.1⟩
end Go.Proofs.Yteogdfpkcoodlaa
namespace Go.Proofs.Yteogdfpkcoodlaa
structure AroundF {α : Type} (f : α → Pos) (t : Pos) (xs A mid B : List α) : Prop where
 all : xs = A ++ mid ++ B
 pos : Around t (xs.map f) (A.map f) (mid.map f) (B.map f)
section
variable {α : Type} {f : α → Pos} {t : Pos} {xs A mid B : List α}
theorem AroundF.le (h : AroundF f t xs A mid B) : A.length ≤ xs.length := by rw [h.all]; simp only [List.length_append]; omega
theorem AroundF.lt_iff (h : AroundF f t xs A mid B) (i : Nat) (hi : i < xs.length) : ordP (f xs[i]) t < 0 ↔ i < A.length := by
 have h2 := h.pos.lt_iff i (by rw [List.length_map]; exact hi)
 have e : (A.map f).length = A.length := List.length_map _
 rw [List.getElem_map, e] at h2
 exact h2
theorem AroundF.found (h : AroundF f t xs A mid B) (hi : A.length < xs.length) : ordP (f xs[A.length]) t = 0 ↔ mid ≠ [] := by
 have h2 := h.pos.found (by rw [List.length_map, List.length_map]; exact hi)
 have h3 : (xs.map f)[(A.map f).length]'(by rw [List.length_map, List.length_map]; exact hi) = f xs[A.length] := by
  rw [List.getElem_map]; simp
 rw [h3] at h2
 rw [h2]
 simp
theorem AroundF.notFound (h : AroundF f t xs A mid B) (hi : ¬ A.length < xs.length) : mid = [] := by
 have h2 := h.pos.notFound (by rw [List.length_map, List.length_map]; exact hi)
 simpa using h2
theorem aroundF_of_sorted (f : α → Pos) (t : Pos) (xs : List α) (h : SortedP (xs.map f)) : ∃ A mid B, AroundF f t xs A mid B := by
 obtain ⟨A, mid, B, ha⟩ := around_of_sorted t _ h
 have e := ha.all
 rw [List.append_assoc] at e
 obtain ⟨A', R, rfl, rfl, e2⟩ := List.map_eq_append_iff.1 e
 obtain ⟨M', B', rfl, rfl, rfl⟩ := List.map_eq_append_iff.1 e2
 exact ⟨A', M', B', by rw [List.append_assoc], ha⟩
theorem AroundF.mid1 (h : AroundF f t xs A mid B) : mid = [] ∨ ∃ q, mid = [q] ∧ ordP (f q) t = 0 := by
 rcases h.pos.there with h | ⟨q, h1, h2⟩
 ·left; simpa using h
 ·right
  match mid, h1 with
  | [x], h1 =>
   have e : f x = q := by simpa using h1
   exact ⟨x, rfl, by rw [e]; exact h2⟩
end
end Go.Proofs.Yteogdfpkcoodlaa
namespace Go.Proofs.Yteogdfpkcoodlaa
open Go.RowKit
def posN (x : Lin) : Pos := ⟨x.s, x.n, 0⟩
set_option linter.unusedSimpArgs false in
set_option maxHeartbeats 4000000 in
set_option maxRecDepth 100000 in
theorem searchN_any (w : World) (v : Value) (xs A mid B : List Lin) (t : Lin) (hr : TRow encN w v xs) (hA : AroundF posN ⟨t.s, t.n, 0⟩ xs A mid B) (hn : xs.length ≤ 2000) :
  Calls Try.prog 75 #[v, t.v, .func (.func 62) #[] #[]] w fun x w' => x = .returned (.tuple #[.int .i64 A.length, .bool (decide (mid ≠ []))]) ∧ Below w.heap.size w w' := by
 have HC := Lib.hid (fun (y : Lin) (W : World) => ccompare_any y t W)
 unfold Lin.v at HC
 obtain ⟨p, c, rfl⟩ := hr.shape
 have HR := Lib.hid hr
 have HA := Lib.hid hA
 have hAl := hA.le
 clear hr hA
 unfold Lin.v
 go_enter Try.func75, Try.ntmps75
 go_wp2_with fail
 generalize hW1 : w.alloc (.cells #[.int .i64 t.s, .int .i64 t.n, .int .i64 t.b, .int .i64 t.a] 64) = W1
 have hB1 : Below w.heap.size w W1 := by rw [← hW1]; exact oneB w _
 have hT1 : Blk W1 w.heap.size #[.int .i64 t.s, .int .i64 t.n, .int .i64 t.b, .int .i64 t.a] 64 := by rw [← hW1]; exact Blk.new w _ _
 have HB1 := Lib.hid hB1
 have HT1 := Lib.hid hT1
 have HR1 := Lib.hid (HR.out.kept hB1)
 clear hW1 hB1 hT1
 go_loopw [9, 10] (fun vi vj wr => ∃ i j : Nat, vi = .int .i64 i ∧ vj = .int .i64 j ∧ i ≤ A.length ∧ A.length ≤ j ∧ j ≤ xs.length ∧ Hid (Below W1.heap.size W1 wr)) (fun vi vj _ => (intOf vj).toNat - (intOf vi).toNat)
 case atStart => exact ⟨0, xs.length, rfl, rfl, Nat.zero_le _, hAl, Nat.le_refl _, Lib.hid (Below.refl W1.heap.size W1)⟩
 case round =>
  obtain ⟨i, j, rfl, rfl, hi, hj, hjn, HB⟩ := hrel
  by_cases hlt : (i : Int) < (j : Int)
  ·have hm : (i + j) / 2 < xs.length := by omega
   obtain ⟨b, o, rfl, hbl, hcs⟩ := (HR1.out.kept HB.out).at_ ((i + j) / 2) hm
   have c0 : wr.cell? ⟨b, o + ((i + j) / 2) * 4, none⟩ = some (.int .i64 xs[((i + j) / 2)].s) := hcs 0 (by decide)
   have c1 : wr.cell? ⟨b, o + ((i + j) / 2) * 4 + 1, none⟩ = some (.int .i64 xs[((i + j) / 2)].n) := hcs 1 (by decide)
   have c2 : wr.cell? ⟨b, o + ((i + j) / 2) * 4 + 2, none⟩ = some (.int .i64 xs[((i + j) / 2)].b) := hcs 2 (by decide)
   have c3 : wr.cell? ⟨b, o + ((i + j) / 2) * 4 + 3, none⟩ = some (.int .i64 xs[((i + j) / 2)].a) := hcs 3 (by decide)
   have hT := HT1.out.below HB.out HT1.out.lt
   have hTl := hT.lt
   have t0 : wr.cell? ⟨w.heap.size, 0, none⟩ = some (.int .i64 t.s) := hT.cell 0
   have t1 : wr.cell? ⟨w.heap.size, 1, none⟩ = some (.int .i64 t.n) := hT.cell 1
   have t2 : wr.cell? ⟨w.heap.size, 2, none⟩ = some (.int .i64 t.b) := hT.cell 2
   have t3 : wr.cell? ⟨w.heap.size, 3, none⟩ = some (.int .i64 t.a) := hT.cell 3
   have hiff := HA.out.lt_iff ((i + j) / 2) hm
   have hM : ((i : Int) + (j : Int)) / 2 = (((i + j) / 2 : Nat) : Int) := by omega
   have him : i ≤ (i + j) / 2 := by omega
   have hmj : (i + j) / 2 < j := by omega
   generalize xs[((i + j) / 2)] = y at c0 c1 c2 c3 hiff
   have hiff : ord2 y.s y.n t.s t.n < 0 ↔ (i + j) / 2 < A.length := hiff
   clear hT hcs
   have HM := Lib.hid hM
   clear hM
   generalize (i + j) / 2 = m at *
   have hS1 : wr.drew.cell? ⟨b, o + m * 4, none⟩ = some (.int .i64 y.s) ∧ wr.drew.cell? ⟨b, o + m * 4 + 1, none⟩ = some (.int .i64 y.n) ∧ wr.drew.cell? ⟨b, o + m * 4 + 2, none⟩ = some (.int .i64 y.b) ∧ wr.drew.cell? ⟨b, o + m * 4 + 3, none⟩ = some (.int .i64 y.a) ∧ wr.drew.cell? ⟨w.heap.size, 0, none⟩ = some (.int .i64 t.s) ∧ wr.drew.cell? ⟨w.heap.size, 1, none⟩ = some (.int .i64 t.n) ∧ wr.drew.cell? ⟨w.heap.size, 2, none⟩ = some (.int .i64 t.b) ∧ wr.drew.cell? ⟨w.heap.size, 3, none⟩ = some (.int .i64 t.a) := ⟨c0, c1, c2, c3, t0, t1, t2, t3⟩
   have HS : Hid (∀ w', Below wr.heap.size wr w' → w'.cell? ⟨b, o + m * 4, none⟩ = some (.int .i64 y.s) ∧ w'.cell? ⟨b, o + m * 4 + 1, none⟩ = some (.int .i64 y.n) ∧ w'.cell? ⟨b, o + m * 4 + 2, none⟩ = some (.int .i64 y.b) ∧ w'.cell? ⟨b, o + m * 4 + 3, none⟩ = some (.int .i64 y.a) ∧ w'.cell? ⟨w.heap.size, 0, none⟩ = some (.int .i64 t.s) ∧ w'.cell? ⟨w.heap.size, 1, none⟩ = some (.int .i64 t.n) ∧ w'.cell? ⟨w.heap.size, 2, none⟩ = some (.int .i64 t.b) ∧ w'.cell? ⟨w.heap.size, 3, none⟩ = some (.int .i64 t.a)) :=
    fun w' h => ⟨(h.cell (p := ⟨b, _, none⟩) hbl).trans c0, (h.cell (p := ⟨b, _, none⟩) hbl).trans c1, (h.cell (p := ⟨b, _, none⟩) hbl).trans c2, (h.cell (p := ⟨b, _, none⟩) hbl).trans c3, (h.cell (p := ⟨w.heap.size, 0, none⟩) hTl).trans t0, (h.cell (p := ⟨w.heap.size, 1, none⟩) hTl).trans t1, (h.cell (p := ⟨w.heap.size, 2, none⟩) hTl).trans t2, (h.cell (p := ⟨w.heap.size, 3, none⟩) hTl).trans t3⟩
   have HBW := Lib.hid HB.out.size
   have HIFF := Lib.hid hiff
   clear hiff
   go_wp2_with fail
   rw [HM.out]
   refine wp_region_held_drew (S := fun w' => w'.cell? ⟨b, o + m * 4, none⟩ = some (.int .i64 y.s) ∧ w'.cell? ⟨b, o + m * 4 + 1, none⟩ = some (.int .i64 y.n) ∧ w'.cell? ⟨b, o + m * 4 + 2, none⟩ = some (.int .i64 y.b) ∧ w'.cell? ⟨b, o + m * 4 + 3, none⟩ = some (.int .i64 y.a) ∧ w'.cell? ⟨w.heap.size, 0, none⟩ = some (.int .i64 t.s) ∧ w'.cell? ⟨w.heap.size, 1, none⟩ = some (.int .i64 t.n) ∧ w'.cell? ⟨w.heap.size, 2, none⟩ = some (.int .i64 t.b) ∧ w'.cell? ⟨w.heap.size, 3, none⟩ = some (.int .i64 t.a)) (by kernel_rfl) hS1 (fun hS0 => ?_)
   refine tkq 0 ?_
   refine tkq 1 ?_
   refine tkq 2 ?_
   refine tkq 3 ?_
   refine tkq 4 ?_
   refine tkq 5 ?_
   refine rdq 6 (fun K hK => ?_)
   go_simp
   go_at_call 62
   refine (HC.out y wr.drew).mono ?_
   rintro y w2 ⟨rfl, hb2⟩
   have HB2 := Lib.hid ((Below.refl wr.heap.size wr).drew.trans (hb2.mono (Nat.le_refl _)))
   clear hb2
   try go_wp2_with fail
   refine hK.out _ _ (HS.out w2 HB2.out) (fun hS => ?_)
   clear hK K
   try simp only [Act.put, List.getElem_toArray, List.getElem_cons_succ, List.getElem_cons_zero, List.setIfInBounds_toArray, List.set_cons_zero, List.set_cons_succ]
   refine tkq 7 ?_
   refine wpAnyH_done (by kernel_rfl) ?_ _
   by_cases hc : ord2 y.s y.n t.s t.n < 0
   ·have hmA := HIFF.out.1 hc
    have HBN := Lib.hid (HB.out.trans (HB2.out.mono HBW.out))
    go_wp2_with fail
    go_roundw
    case rel => exact ⟨m + 1, j, by go_num, rfl, by omega, hj, hjn, HBN⟩
    case measure => simp [intOf]; omega
   ·have hmA : ¬ m < A.length := fun h => hc (HIFF.out.2 h)
    have HBN := Lib.hid (HB.out.trans (HB2.out.mono HBW.out))
    go_wp2_with fail
    go_roundw
    case rel => exact ⟨i, m, rfl, rfl, hi, by omega, by omega, HBN⟩
    case measure => simp [intOf]; omega
  ·obtain rfl : i = A.length := by omega
   by_cases hm : A.length < xs.length
   ·have hnm : ((A.length : Nat) : Int) < (xs.length : Int) := by omega
    obtain ⟨b, o, rfl, hbl, hcs⟩ := (HR1.out.kept HB.out).at_ A.length hm
    have c0 : wr.cell? ⟨b, o + A.length * 4, none⟩ = some (.int .i64 xs[A.length].s) := hcs 0 (by decide)
    have c1 : wr.cell? ⟨b, o + A.length * 4 + 1, none⟩ = some (.int .i64 xs[A.length].n) := hcs 1 (by decide)
    have c2 : wr.cell? ⟨b, o + A.length * 4 + 2, none⟩ = some (.int .i64 xs[A.length].b) := hcs 2 (by decide)
    have c3 : wr.cell? ⟨b, o + A.length * 4 + 3, none⟩ = some (.int .i64 xs[A.length].a) := hcs 3 (by decide)
    have hT := HT1.out.below HB.out HT1.out.lt
    have hTl := hT.lt
    have t0 : wr.cell? ⟨w.heap.size, 0, none⟩ = some (.int .i64 t.s) := hT.cell 0
    have t1 : wr.cell? ⟨w.heap.size, 1, none⟩ = some (.int .i64 t.n) := hT.cell 1
    have t2 : wr.cell? ⟨w.heap.size, 2, none⟩ = some (.int .i64 t.b) := hT.cell 2
    have t3 : wr.cell? ⟨w.heap.size, 3, none⟩ = some (.int .i64 t.a) := hT.cell 3
    have hiff := HA.out.found hm
    generalize xs[A.length] = y at c0 c1 c2 c3 hiff
    have hiff : ord2 y.s y.n t.s t.n = 0 ↔ mid ≠ [] := hiff
    clear hT hcs
    have HFD : Hid ((ord2 y.s y.n t.s t.n == 0) = decide (mid ≠ [])) := by show _ = _; rw [Bool.eq_iff_iff]; simp [hiff]
    clear hiff
    have hS1 : wr.drew.cell? ⟨b, o + A.length * 4, none⟩ = some (.int .i64 y.s) ∧ wr.drew.cell? ⟨b, o + A.length * 4 + 1, none⟩ = some (.int .i64 y.n) ∧ wr.drew.cell? ⟨b, o + A.length * 4 + 2, none⟩ = some (.int .i64 y.b) ∧ wr.drew.cell? ⟨b, o + A.length * 4 + 3, none⟩ = some (.int .i64 y.a) ∧ wr.drew.cell? ⟨w.heap.size, 0, none⟩ = some (.int .i64 t.s) ∧ wr.drew.cell? ⟨w.heap.size, 1, none⟩ = some (.int .i64 t.n) ∧ wr.drew.cell? ⟨w.heap.size, 2, none⟩ = some (.int .i64 t.b) ∧ wr.drew.cell? ⟨w.heap.size, 3, none⟩ = some (.int .i64 t.a) := ⟨c0, c1, c2, c3, t0, t1, t2, t3⟩
    have HS : Hid (∀ w', Below wr.heap.size wr w' → w'.cell? ⟨b, o + A.length * 4, none⟩ = some (.int .i64 y.s) ∧ w'.cell? ⟨b, o + A.length * 4 + 1, none⟩ = some (.int .i64 y.n) ∧ w'.cell? ⟨b, o + A.length * 4 + 2, none⟩ = some (.int .i64 y.b) ∧ w'.cell? ⟨b, o + A.length * 4 + 3, none⟩ = some (.int .i64 y.a) ∧ w'.cell? ⟨w.heap.size, 0, none⟩ = some (.int .i64 t.s) ∧ w'.cell? ⟨w.heap.size, 1, none⟩ = some (.int .i64 t.n) ∧ w'.cell? ⟨w.heap.size, 2, none⟩ = some (.int .i64 t.b) ∧ w'.cell? ⟨w.heap.size, 3, none⟩ = some (.int .i64 t.a)) :=
     fun w' h => ⟨(h.cell (p := ⟨b, _, none⟩) hbl).trans c0, (h.cell (p := ⟨b, _, none⟩) hbl).trans c1, (h.cell (p := ⟨b, _, none⟩) hbl).trans c2, (h.cell (p := ⟨b, _, none⟩) hbl).trans c3, (h.cell (p := ⟨w.heap.size, 0, none⟩) hTl).trans t0, (h.cell (p := ⟨w.heap.size, 1, none⟩) hTl).trans t1, (h.cell (p := ⟨w.heap.size, 2, none⟩) hTl).trans t2, (h.cell (p := ⟨w.heap.size, 3, none⟩) hTl).trans t3⟩
    have HBW := Lib.hid HB.out.size
    go_wp2_with fail
    refine wp_region_held_drew (S := fun w' => w'.cell? ⟨b, o + A.length * 4, none⟩ = some (.int .i64 y.s) ∧ w'.cell? ⟨b, o + A.length * 4 + 1, none⟩ = some (.int .i64 y.n) ∧ w'.cell? ⟨b, o + A.length * 4 + 2, none⟩ = some (.int .i64 y.b) ∧ w'.cell? ⟨b, o + A.length * 4 + 3, none⟩ = some (.int .i64 y.a) ∧ w'.cell? ⟨w.heap.size, 0, none⟩ = some (.int .i64 t.s) ∧ w'.cell? ⟨w.heap.size, 1, none⟩ = some (.int .i64 t.n) ∧ w'.cell? ⟨w.heap.size, 2, none⟩ = some (.int .i64 t.b) ∧ w'.cell? ⟨w.heap.size, 3, none⟩ = some (.int .i64 t.a)) (by kernel_rfl) hS1 (fun hS0 => ?_)
    refine tkq 0 ?_
    refine tkq 1 ?_
    refine tkq 2 ?_
    refine tkq 3 ?_
    refine tkq 4 ?_
    refine tkq 5 ?_
    refine tkq 6 ?_
    refine tkq 7 ?_
    refine tkq 8 ?_
    refine tkq 9 ?_
    refine tkq 10 ?_
    refine rdq 11 (fun K hK => ?_)
    go_simp
    go_at_call 62
    refine (HC.out y wr.drew).mono ?_
    rintro y w2 ⟨rfl, hb2⟩
    have HB2 := Lib.hid ((Below.refl wr.heap.size wr).drew.trans (hb2.mono (Nat.le_refl _)))
    clear hb2
    try go_wp2_with fail
    refine hK.out _ _ (HS.out w2 HB2.out) (fun hS => ?_)
    clear hK K
    try simp only [Act.put, List.getElem_toArray, List.getElem_cons_succ, List.getElem_cons_zero, List.setIfInBounds_toArray, List.set_cons_zero, List.set_cons_succ]
    refine tkq 12 ?_
    refine tkq 13 ?_
    refine tkq 14 ?_
    refine tkq 15 ?_
    refine wpAnyH_done (by kernel_rfl) ?_ _
    rw [HFD.out]
    go_wp2_with fail
    go_ret2
    exact ⟨rfl, HB1.out.trans ((HB.out.trans (HB2.out.mono HBW.out)).mono HB1.out.size)⟩
   ·have hnm : ¬ ((A.length : Nat) : Int) < (xs.length : Int) := by omega
    have hmid := HA.out.notFound hm
    have HFD : Hid (decide (mid ≠ []) = false) := by show _ = _; rw [hmid]; simp
    clear hmid
    go_wp2_with fail
    refine wp_region_held_drew (S := fun w' => True) (by kernel_rfl) trivial (fun hS0 => ?_)
    refine tkq 0 ?_
    refine tkq 1 ?_
    refine tkq 2 ?_
    refine tkq 3 ?_
    refine tkq 4 ?_
    refine tnq 5 ?_
    refine tnq 6 ?_
    refine tnq 7 ?_
    refine tnq 8 ?_
    refine tnq 9 ?_
    refine tnq 10 ?_
    refine tnq 11 ?_
    refine tnq 12 ?_
    refine tkq 13 ?_
    refine tkq 14 ?_
    refine tkq 15 ?_
    refine wpAnyH_done (by kernel_rfl) ?_ _
    go_wp2_with fail
    go_ret2
    exact ⟨by rw [HFD.out]; rfl, HB1.out.trans (HB.out.drew.mono HB1.out.size)⟩
end Go.Proofs.Yteogdfpkcoodlaa
namespace Go.Proofs.Yteogdfpkcoodlaa
open Go.RowKit
def linEq (x y : Lin) : Bool := x.s == y.s && x.n == y.n && x.b == y.b && x.a == y.a
theorem linEq_iff {x y : Lin} : linEq x y = true ↔ x = y := by
 unfold linEq
 simp only [Bool.and_eq_true, beq_iff_eq]
 constructor
 ·rintro ⟨⟨⟨h1, h2⟩, h3⟩, h4⟩
  cases x; cases y
  simp only at h1 h2 h3 h4
  rw [h1, h2, h3, h4]
 ·rintro rfl
  exact ⟨⟨⟨rfl, rfl⟩, rfl⟩, rfl⟩
instance : DecidableEq Lin := fun x y => decidable_of_iff (linEq x y = true) linEq_iff
theorem linEq_dec (x y : Lin) : linEq x y = decide (x = y) := by
 rw [Bool.eq_iff_iff, linEq_iff, decide_eq_true_eq]
theorem line_eq (x y : Lin) (w : World) : (Op.equalIn 10000 64 (.agg #[.int .i64 x.s, .int .i64 x.n, .int .i64 x.b, .int .i64 x.a]) (.agg #[.int .i64 y.s, .int .i64 y.n, .int .i64 y.b, .int .i64 y.a])).run Try.prog w = .ok (linEq x y) w := by
 cases h1 : x.s == y.s
 ·have e : linEq x y = false := by unfold linEq; rw [h1]; rfl
  rw [e]
  go_simp
 cases h2 : x.n == y.n
 ·have e : linEq x y = false := by unfold linEq; rw [h1, h2]; rfl
  rw [e]
  go_simp
 cases h3 : x.b == y.b
 ·have e : linEq x y = false := by unfold linEq; rw [h1, h2, h3]; rfl
  rw [e]
  go_simp
 cases h4 : x.a == y.a
 ·have e : linEq x y = false := by unfold linEq; rw [h1, h2, h3, h4]; rfl
  rw [e]
  go_simp
 ·have e : linEq x y = true := by unfold linEq; rw [h1, h2, h3, h4]; rfl
  rw [e]
  go_simp
end Go.Proofs.Yteogdfpkcoodlaa
namespace Go.Proofs.Yteogdfpkcoodlaa
open Go.RowKit
def zeroVNc : Value := .agg #[.int .i64 0, .int .i64 0, .int .i64 0, .int .i64 0]
theorem eltNc : EltT encN Try.prog 33 64 zeroVNc 32 := eltT_mk Try.underlying33 (by kernel_rfl)
/-- The closure that book.agreed hands over says p, in every world that leaves what lies below base. -/
def SaysN (p : Lin → Bool) (base bf : Nat) (w : World) : Prop := ∀ W, Below base w W → ∀ x : Lin, Calls Try.prog 60 #[x.v, .pointer (some ⟨bf, 0, none⟩)] W fun e w' => e = .returned (.bool (p x)) ∧ Below W.heap.size W w'
def IdxRN (p : Lin → Bool) (xs : List Lin) (r : Int) : Prop := (r = -1 ∧ ∀ x ∈ xs, p x = false) ∨ ∃ i : Nat, r = i ∧ ∃ hi : i < xs.length, p xs[i] = true ∧ ∀ j (hj : j < xs.length), j < i → p xs[j] = false
set_option linter.unusedSimpArgs false in
set_option maxHeartbeats 4000000 in
set_option maxRecDepth 100000 in
theorem idx_anyN (w : World) (v : Value) (xs : List Lin) (p : Lin → Bool) (base bf : Nat) (hr : TRow encN w v xs) (hP : SaysN p base bf w) (hb : base ≤ w.heap.size) (hn : xs.length ≤ 2000) :
  Calls Try.prog 69 #[v, (.func (.func 60) #[] #[.pointer (some ⟨bf, 0, none⟩)])] w fun e w' => ∃ r, e = .returned (.int .i64 r) ∧ IdxRN p xs r ∧ Below w.heap.size w w' := by
 obtain ⟨pv, c, rfl⟩ := hr.shape
 have HR := Lib.hid hr
 have HPP := Lib.hid hP
 have HBB := Lib.hid hb
 clear hr hP hb
 generalize hl : xs.length = n at *
 have HL := Lib.hid hl
 clear hl
 go_enter Try.func69, Try.ntmps69
 go_wp2_with fail
 go_loopw [5, 8] (fun _ i wr => ∃ k : Nat, k ≤ n ∧ i = .int .i64 k ∧ Hid (Below w.heap.size w wr ∧ ∀ j (hj : j < xs.length), j < k → p xs[j] = false)) (fun _ i _ => n - (intOf i).toNat)
 case atStart => exact ⟨0, by omega, rfl, ⟨Below.refl _ _, fun j hj h => by omega⟩⟩
 case round =>
  obtain ⟨k, hk, rfl, HB⟩ := hrel
  by_cases hlt : k < n
  ·have hkl : k < xs.length := by rw [HL.out]; exact hlt
   have hltI : (k : Int) < (n : Int) := by omega
   obtain ⟨b, o, rfl, hbl, hcs⟩ := (HR.out.kept HB.out.1).at_ k hkl
   obtain ⟨x, hx⟩ : ∃ x, xs[k] = x := ⟨_, rfl⟩
   have HX := Lib.hid hx
   rw [hx] at hcs
   clear hx
   have c0 : wr.cell? ⟨b, o + k * 4, none⟩ = some (.int .i64 x.s) := hcs 0 (by decide)
   have c1 : wr.cell? ⟨b, o + k * 4 + 1, none⟩ = some (.int .i64 x.n) := hcs 1 (by decide)
   have c2 : wr.cell? ⟨b, o + k * 4 + 2, none⟩ = some (.int .i64 x.b) := hcs 2 (by decide)
   have c3 : wr.cell? ⟨b, o + k * 4 + 3, none⟩ = some (.int .i64 x.a) := hcs 3 (by decide)
   have HD := Lib.hid (HPP.out wr (HB.out.1.mono HBB.out) x)
   unfold Lin.v at HD
   obtain ⟨px, hpx⟩ : ∃ px, p x = px := ⟨_, rfl⟩
   rw [hpx] at HD
   have HPX := Lib.hid hpx
   clear hcs hpx
   cases px
   ·go_wp2_with fail
    refine HD.out.mono ?_
    rintro y w1 ⟨rfl, hb⟩
    have HN : Hid (Below w.heap.size w w1 ∧ ∀ j (hj : j < xs.length), j < k + 1 → p xs[j] = false) := ⟨HB.out.1.trans (hb.mono HB.out.1.size), fun j hj h => by
     by_cases e : j = k
     ·subst e; rw [HX.out]; exact HPX.out
     ·exact HB.out.2 j hj (by omega)⟩
    clear hb c0 c1 c2 c3 HD
    go_wp2_with fail
    go_roundw
    case rel => exact ⟨k + 1, by omega, by go_num, HN⟩
    case measure => simp [intOf]; omega
   ·go_wp2_with fail
    refine HD.out.mono ?_
    rintro y w1 ⟨rfl, hb⟩
    have HN := Lib.hid (HB.out.1.trans (hb.mono HB.out.1.size))
    clear hb c0 c1 c2 c3 HD
    go_wp2_with fail
    go_ret
    exact ⟨_, rfl, .inr ⟨k, rfl, hkl, by rw [HX.out]; exact HPX.out, fun j hj h => HB.out.2 j hj h⟩, HN.out⟩
  ·have hle : (n : Int) ≤ (k : Int) := by omega
   go_wp2_with fail
   go_ret
   exact ⟨_, rfl, .inl ⟨rfl, fun x hx => by
    obtain ⟨j, hj, rfl⟩ := List.mem_iff_getElem.1 hx
    exact HB.out.2 j hj (by have := HL.out; omega)⟩, HB.out.1⟩
theorem zeroVNc_run (w : World) : (zeroValue 64).run Try.prog w = .ok zeroVNc w := by
 obtain ⟨i, _, hi, hz, _⟩ := eltNc
 simp [zeroValue, typeInfo, hi, hz]
theorem zeroVNc_one : ∀ v ∈ zeroVNc.cells, v.oneCell' = true := by intro v hv; simp [zeroVNc, Value.cells] at hv; subst hv; rfl
/-- Where the deleting stands: i are kept, j looked at. -/
def DRelN (p : Lin → Bool) (xs : List Lin) (w : World) (base g n c i j : Nat) (wr : World) : Prop := Below base w wr ∧ ∃ ys : List Lin, OwnT encN wr base 64 (.slice (some ⟨g, 0, none⟩) n c) ys ∧ ys.take i = (xs.take j).filter (fun x => !p x) ∧ ys.drop j = xs.drop j
theorem filt_takeN {p : Lin → Bool} {xs : List Lin} {j : Nat} (hj : j < xs.length) : (xs.take (j + 1)).filter (fun x => !p x) = (xs.take j).filter (fun x => !p x) ++ (if p xs[j] then [] else [xs[j]]) := by
 rw [List.take_succ_eq_append_getElem hj, List.filter_append]
 congr 1
 cases h : p xs[j] <;> simp [h]
theorem drop_atN {ys xs : List Lin} {j : Nat} (h : ys.drop j = xs.drop j) (hj : j < xs.length) (hy : j < ys.length) : ys[j] = xs[j] := by
 have h1 := congrArg (fun l => l[0]?) h
 simp only [List.getElem?_drop, Nat.add_zero] at h1
 rw [List.getElem?_eq_getElem hj, List.getElem?_eq_getElem hy] at h1
 exact Option.some.inj h1
theorem drop_succN {ys xs : List Lin} {j : Nat} (h : ys.drop j = xs.drop j) : ys.drop (j + 1) = xs.drop (j + 1) := by
 have h1 := congrArg (List.drop 1) h
 rwa [List.drop_drop, List.drop_drop] at h1
set_option linter.unusedSimpArgs false in
set_option maxHeartbeats 4000000 in
set_option maxRecDepth 100000 in
theorem delete_anyN (w : World) (v : Value) (xs : List Lin) (p : Lin → Bool) (base bf : Nat) (hr : OwnT encN w base 64 v xs) (hP : SaysN p base bf w) (hb : base ≤ w.heap.size) (hn : xs.length ≤ 2000) :
  Calls Try.prog 59 #[v, (.func (.func 60) #[] #[.pointer (some ⟨bf, 0, none⟩)])] w fun e w' => ∃ v', e = .returned v' ∧ OwnT encN w' base 64 v' (xs.filter (fun x => !p x)) ∧ Below base w w' := by
 have HI := Lib.hid (idx_anyN w v xs p base bf hr.row hP hb hn)
 obtain ⟨pv, c, rfl⟩ := hr.form
 have HR := Lib.hid hr
 have HPP := Lib.hid hP
 have HBB := Lib.hid hb
 clear hr hP hb
 generalize hl : xs.length = n at *
 have HL := Lib.hid hl
 clear hl
 go_enter Try.func59, Try.ntmps59
 go_wp2_with fail
 refine HI.out.mono ?_
 rintro y w1 ⟨r, rfl, hix, hb1⟩
 have HB1 := Lib.hid hb1
 have HR1 := Lib.hid (HR.out.later hb1)
 clear hb1 HI
 rcases hix with ⟨rfl, hall⟩ | ⟨i0, rfl, hi0, hpi, hbe⟩
 ·have HF : Hid (xs.filter (fun x => !p x) = xs) := by show _ = _; rw [List.filter_eq_self]; intro x hx; rw [hall x hx]; rfl
  clear hall
  go_wp2_with fail
  go_ret
  exact ⟨_, rfl, by rw [HF.out]; exact HR1.out, HB1.out.mono HBB.out⟩
 ·have hi0n : i0 < n := by rw [← HL.out]; exact hi0
  obtain ⟨g, cur, hpv, hgb, hgB, hnc, _⟩ := HR1.out.lies (by omega)
  subst hpv
  have HST : Hid (DRelN p xs w base g n c i0 (i0 + 1) w1) := by
   refine ⟨HB1.out.mono HBB.out, xs, HR1.out, ?_, rfl⟩
   rw [filt_takeN hi0, hpi, if_pos rfl, List.append_nil, List.filter_eq_self.2]
   intro x hx
   obtain ⟨j, hj, rfl⟩ := List.mem_iff_getElem.1 hx
   rw [List.length_take] at hj
   rw [List.getElem_take, hbe j (by omega) (by omega)]
   rfl
  have HGB : Hid (base ≤ g) := hgb
  have hne : ((i0 : Int) == -1) = false := by simp
  clear hgb hgB hbe hpi hi0 HR HR1 HB1
  go_wp2_with fail
  go_loopw [5, 6, 7] (fun vi vj _ wr => ∃ i j : Nat, vi = .int .i64 i ∧ vj = .int .i64 j ∧ j ≤ n ∧ i < j ∧ Hid (DRelN p xs w base g n c i j wr)) (fun _ vj _ _ => n - (intOf vj).toNat)
  case atStart => exact ⟨i0, i0 + 1, rfl, by go_num, by omega, by omega, HST⟩
  case round =>
   obtain ⟨i, j, rfl, rfl, hjn, hij, HK⟩ := hrel
   clear HST
   obtain ⟨hbw, ys, hown, htk, hdr⟩ := HK.out
   have hyl : ys.length = n := by obtain ⟨p', c', e1⟩ := hown.form; exact (Value.slice.inj e1).2.1.symm
   have HOW := Lib.hid hown
   have HBW := Lib.hid hbw
   have HTK := Lib.hid htk
   have HDR := Lib.hid hdr
   have HYL := Lib.hid hyl
   clear hown hbw htk hdr hyl HK
   by_cases hlt : j < n
   ·have hltI : (j : Int) < (n : Int) := by omega
    have hjx : j < xs.length := by rw [HL.out]; exact hlt
    have hjy : j < ys.length := by rw [HYL.out]; exact hlt
    obtain ⟨b, o, e1, hbl, hcs⟩ := HOW.out.row.at_ j hjy
    cases e1
    have HDX : Hid (ys[j] = xs[j]) := drop_atN HDR.out hjx hjy
    rw [HDX.out] at hcs
    have HFT := Lib.hid (filt_takeN (p := p) hjx)
    have hinI : (i : Int) < (n : Int) := by omega
    obtain ⟨x, hx⟩ : ∃ x, xs[j] = x := ⟨_, rfl⟩
    have HX := Lib.hid hx
    rw [hx] at hcs HFT HDX
    clear hx
    have hcs : ∀ t, t < 4 → wr.cell? ⟨g, j * 4 + t, none⟩ = (Lin.cells x)[t]? := fun t ht => by have := hcs t ht; rwa [Nat.zero_add] at this
    have c0 : wr.cell? ⟨g, j * 4, none⟩ = some (.int .i64 x.s) := hcs 0 (by decide)
    have c1 : wr.cell? ⟨g, j * 4 + 1, none⟩ = some (.int .i64 x.n) := hcs 1 (by decide)
    have c2 : wr.cell? ⟨g, j * 4 + 2, none⟩ = some (.int .i64 x.b) := hcs 2 (by decide)
    have c3 : wr.cell? ⟨g, j * 4 + 3, none⟩ = some (.int .i64 x.a) := hcs 3 (by decide)
    have HBA : Hid (Below base w (wr.alloc (.cells #[.int .i64 x.s, .int .i64 x.n, .int .i64 x.b, .int .i64 x.a] 64))) := HBW.out.trans ((oneB wr _).mono (Nat.le_trans HBB.out HBW.out.size))
    have HD := Lib.hid (HPP.out _ HBA.out x)
    have HBX := Lib.hid (Blk.new wr #[.int .i64 x.s, .int .i64 x.n, .int .i64 x.b, .int .i64 x.a] 64)
    have HOA := Lib.hid (HOW.out.later (oneB wr (.cells #[.int .i64 x.s, .int .i64 x.n, .int .i64 x.b, .int .i64 x.a] 64)))
    unfold Lin.v at HD
    obtain ⟨px, hpx⟩ : ∃ px, p x = px := ⟨_, rfl⟩
    rw [hpx] at HD HFT
    clear hcs hpx
    cases px
    ·have HFS : Hid ((xs.take (j + 1)).filter (fun x => !p x) = (xs.take j).filter (fun x => !p x) ++ [x]) := HFT.out
     clear HFT
     go_wp2_with fail
     generalize wr.alloc (.cells #[.int .i64 x.s, .int .i64 x.n, .int .i64 x.b, .int .i64 x.a] 64) = W1 at *
     generalize wr.heap.size = gx at *
     refine HD.out.mono ?_
     rintro y w2 ⟨rfl, hb2⟩
     have HB2 := Lib.hid (HBA.out.trans (hb2.mono (Nat.le_trans HBB.out HBA.out.size)))
     have HX2 := kbq HBX hb2
     have HO2 := Lib.hid (HOA.out.later hb2)
     clear hb2 HD HBA HBX HOA c0 c1 c2 c3
     have d0 : w2.cell? ⟨gx, 0, none⟩ = some (.int .i64 x.s) := HX2.out.cell 0
     have d1 : w2.cell? ⟨gx, 1, none⟩ = some (.int .i64 x.n) := HX2.out.cell 1
     have d2 : w2.cell? ⟨gx, 2, none⟩ = some (.int .i64 x.b) := HX2.out.cell 2
     have d3 : w2.cell? ⟨gx, 3, none⟩ = some (.int .i64 x.a) := HX2.out.cell 3
     have HTH := Lib.hid (HO2.out.there i 4 (by show i * 4 + 4 ≤ c * 4; omega) (by omega))
     have HINF : Hid ((Try.prog.info? 64).map (·.size) = some (#[.int .i64 x.s, .int .i64 x.n, .int .i64 x.b, .int .i64 x.a] : Array Value).size) := by
      obtain ⟨ii, _, hi, _, hs, _⟩ := eltNc
      show _ = _
      rw [hi]
      show some ii.size = some 4
      rw [hs]
      rfl
     have HN : Hid (DRelN p xs w base g n c (i + 1) (j + 1) (w2.setCells g (i * 4) (#[.int .i64 x.s, .int .i64 x.n, .int .i64 x.b, .int .i64 x.a] : Array Value).toList)) := by
      refine ⟨below_put HGB.out _ _ _ _ HB2.out, ys.set i x, HO2.out.put i (by omega) x, ?_, ?_⟩
      ·rw [HFS.out, ← HTK.out, List.take_succ_eq_append_getElem (by rw [List.length_set, HYL.out]; omega), List.getElem_set_self]
       congr 1
       rw [List.take_set]
       exact List.set_eq_of_length_le (by rw [List.length_take]; omega)
      ·rw [List.drop_set_of_lt (by omega)]
       exact drop_succN HDR.out
     clear HB2 HO2 HX2
     go_wp2_with (with_reducible refine stop_storeT 64 (.tmp 33) (.tmp 32) rfl ?_)
     refine wpList_store_mid rfl 64 (.tmp 33) (.tmp 32) rfl g (i * 4) #[.int .i64 x.s, .int .i64 x.n, .int .i64 x.b, .int .i64 x.a] rfl rfl HTH.out HINF.out (all_oneCell_toArray (encN.one x)) ?_
     clear HTH HINF d0 d1 d2 d3
     generalize World.setCells w2 g (i * 4) _ = W3 at *
     go_wp2_with fail
     go_roundw
     case rel => exact ⟨i + 1, j + 1, by go_num, by go_num, by omega, by omega, HN⟩
     case measure => simp [intOf]; omega
    ·have HFS : Hid ((xs.take (j + 1)).filter (fun x => !p x) = (xs.take j).filter (fun x => !p x)) := by
      show _ = _
      rw [HFT.out, if_pos rfl, List.append_nil]
     clear HFT
     go_wp2_with fail
     generalize wr.alloc (.cells #[.int .i64 x.s, .int .i64 x.n, .int .i64 x.b, .int .i64 x.a] 64) = W1 at *
     refine HD.out.mono ?_
     rintro y w2 ⟨rfl, hb2⟩
     have HN : Hid (DRelN p xs w base g n c i (j + 1) w2) := ⟨HBA.out.trans (hb2.mono (Nat.le_trans HBB.out HBA.out.size)), ys, HOA.out.later hb2, by rw [HFS.out]; exact HTK.out, drop_succN HDR.out⟩
     clear hb2 HD HBA HBX HOA c0 c1 c2 c3
     go_wp2_with fail
     go_roundw
     case rel => exact ⟨i, j + 1, rfl, by go_num, by omega, by omega, HN⟩
     case measure => simp [intOf]; omega
   ·have hle : (n : Int) ≤ (j : Int) := by omega
    have hjeq : j = n := by omega
    have HFIN : Hid (∀ vs, OwnT encN (wr.setCells g (i * 4) vs) base 64 (.slice (some ⟨g, 0, none⟩) i c) (xs.filter (fun x => !p x)) ∧ Below base w (wr.setCells g (i * 4) vs)) := fun vs => ⟨by
     have h := HOW.out.cutAt i (by omega) (by omega) vs
     rw [HTK.out, hjeq, ← HL.out, List.take_length] at h
     exact h, below_put HGB.out _ _ _ _ HBW.out⟩
    have HTH := Lib.hid (HOW.out.there i ((n - i) * 4) (by show i * 4 + (n - i) * 4 ≤ c * 4; omega) (by omega))
    have g1 : (i : Int) ≤ (n : Int) := by omega
    have g2 : (n : Int) ≤ (c : Int) := by omega
    have g3 : ¬ c - i = 0 := by omega
    have g4 : (i : Int) ≤ (c : Int) := by omega
    clear HBW HOW HTK HDR hjeq
    go_wp2_with (with_reducible refine stop_clear (.tmp 38) 33 rfl ?_)
    refine wpList_clear_t rfl (.tmp 38) 33 rfl 64 zeroVNc Try.underlying33 zeroVNc_run zeroVNc_one g (i * 4) _ _ ?hn rfl ?hc (fun vs => ?_)
    case hn => first | omega | (rw [HL.out]; omega)
    case hc => first | exact HTH.out | (rw [HL.out]; exact HTH.out)
    have HF2 := Lib.hid (HFIN.out vs)
    clear HFIN HTH
    generalize World.setCells wr g (i * 4) vs = W5 at *
    go_wp2_with fail
    go_ret
    exact ⟨_, rfl, HF2.out.1, HF2.out.2⟩
theorem madeTN (w : World) (base : Nat) (hb : base ≤ w.heap.size) : OwnT encN (w.alloc (.cells #[] 64)) base 64 (.slice (some ⟨w.heap.size, 0, none⟩) 0 0) [] := ⟨by simp, .inr ⟨w.heap.size, 0, #[], rfl, hb, heap_alloc_new w _, Nat.le_refl _, by decide, by simp, by simp⟩⟩
theorem stop_appendIN {P : Program} {ops : Array Oper} {rest : List Oper} {o : Oper} {a : Act} {w : World} {Q : Exit → Act → World → Prop} (s x : Operand) (t : TypeId)
  (_ : o.op = .call { callee := .builtin .append, args := #[s, x], argTypes := #[t, t] }) (h : Hid (wpList P ops Q (o :: rest) a w)) : wpList P ops Q (o :: rest) a w := h
set_option linter.unusedSimpArgs false in
set_option maxHeartbeats 4000000 in
set_option maxRecDepth 100000 in
theorem cloneNc_any (w : World) (v : Value) (xs : List Lin) (hr : TRow encN w v xs) (hn : xs.length ≤ 2000) :
  Calls Try.prog 23 #[v] w fun e w' => ∃ v', e = .returned v' ∧ OwnT encN w' w.heap.size 64 v' xs ∧ Below w.heap.size w w' := by
 obtain ⟨p, c, rfl⟩ := hr.shape
 cases p with
 | none =>
  have hx : xs = [] := by
   obtain ⟨p', c', e1, _, h⟩ := hr
   cases e1
   rcases h with h | ⟨b, o, h, _⟩
   ·exact h
   ·cases h
  subst hx
  clear hr
  have kq := Lib.run_eql_slice_nil (P := Try.prog) w 33 64 none 0 c 0 0 Try.underlying33
  simp only [List.length_nil]
  go_enter Try.func23, Try.ntmps23
  go_wp2
  go_ret
  exact ⟨_, rfl, OwnT.nil_ _ _ _ _, Below.refl _ _⟩
 | some a =>
  have HR := Lib.hid hr
  have HM := Lib.hid (madeTN w w.heap.size (Nat.le_refl _))
  have HB := Lib.hid (oneB w (.cells #[] 64))
  clear hr
  generalize hl : xs.length = n at *
  have HL := Lib.hid hl
  clear hl
  have kq := Lib.run_eql_slice_nil (P := Try.prog) w 33 64 (some a) n c 0 0 Try.underlying33
  go_enter Try.func23, Try.ntmps23
  go_wp2_with (at_builtin; with_reducible refine stop_appendIN (.tmp 5) (.tmp 6) 33 rfl ?_)
  refine wpList_append_t rfl (.tmp 5) (.tmp 6) 33 rfl 64 zeroVNc 32 w.heap.size eltNc rfl (by decide) (.slice (some ⟨w.heap.size, 0, none⟩) 0 0) (.slice (some a) n c) [] xs rfl rfl HM.out (HR.out.kept HB.out) (by have := HL.out; simp; omega) HB.out.size xs n (List.nil_append _) HL.out ?_
  intro p' c' w' ho _ hb
  have HO := Lib.hid ho
  have HB2 := Lib.hid (HB.out.trans hb)
  clear ho hb
  go_wp2_with fail
  go_ret
  exact ⟨_, rfl, HO.out, HB2.out⟩
set_option linter.unusedSimpArgs false in
set_option maxHeartbeats 4000000 in
set_option maxRecDepth 100000 in
theorem notmine_any (w : World) (x : Lin) (me : Int) (bf : Nat) (hf : w.cell? ⟨bf, 0, none⟩ = some (.int .i64 me)) :
  Calls Try.prog 60 #[x.v, .pointer (some ⟨bf, 0, none⟩)] w fun e w' => e = .returned (.bool (!mineB me x)) ∧ Below w.heap.size w w' := by
 have HB := Lib.hid (oneB w (.cells #[.int .i64 x.s, .int .i64 x.n, .int .i64 x.b, .int .i64 x.a] 64))
 have hf2 := (HB.out.cell (p := ⟨bf, 0, none⟩) (World.block_lt_of_cell? w _ hf)).trans hf
 clear hf
 unfold Lin.v at *
 by_cases h1 : x.s = me
 ·have e1 : (x.s != me) = false := by simpa using h1
  have HM : Hid ((!mineB me x) = false) := by show _ = _; unfold mineB; simp [h1]
  clear h1
  go_enter Try.func60, Try.ntmps60
  go_wp2_with fail
  go_ret
  exact ⟨by rw [HM.out]; rfl, HB.out⟩
 ·have e1 : (x.s != me) = true := by simpa using h1
  have HM : Hid ((x.b != me) = (!mineB me x)) := by
   show _ = _
   unfold mineB
   rw [Bool.eq_iff_iff]
   simp [h1]
  clear h1
  go_enter Try.func60, Try.ntmps60
  go_wp2_with fail
  go_ret
  exact ⟨by rw [← HM.out]; rfl, HB.out⟩
set_option linter.unusedSimpArgs false in
set_option maxHeartbeats 4000000 in
set_option maxRecDepth 100000 in
theorem mine_any (w : World) (me : Int) (v : Value) (xs : List Lin) (hr : TRow encN w v xs) (hn : xs.length ≤ 2000) :
  Calls Try.prog 44 #[.int .i64 me, v] w fun e w' => ∃ v', e = .returned v' ∧ OwnT encN w' w.heap.size 64 v' (mineL me xs) ∧ Below w.heap.size w w' := by
 obtain ⟨p, c, hv⟩ := hr.shape
 have HB := Lib.hid (oneB w (.cells #[.int .i64 me] 3))
 have HC := Lib.hid (cloneNc_any _ v xs (hr.kept HB.out) hn)
 have HBM := Lib.hid (Blk.new w #[.int .i64 me] 3)
 have hmf : ∀ (fn : Fn) (first cap : Array Value) (w : World), (Instr.makeFunc fn first cap).run Try.prog w = .ok (.func fn first cap) w := fun _ _ _ _ => rfl
 have HN := Lib.hid hn
 subst hv
 clear hr hn
 generalize hl : xs.length = n at *
 have HL := Lib.hid hl
 clear hl
 go_enter Try.func44, Try.ntmps44
 go_wp2_with fail
 have HZ : Hid ((w.alloc (.cells #[.int .i64 me] 3)).heap.size = w.heap.size + 1) := by show _ = _; simp
 generalize w.alloc (.cells #[.int .i64 me] 3) = W1 at *
 refine HC.out.mono ?_
 rintro y w1 ⟨v1, rfl, ho1, hb1⟩
 have HO1 : Hid (OwnT encN w1 (w.heap.size + 1) 64 v1 xs) := by have := ho1; rwa [HZ.out] at this
 have HB1 := ktq HB hb1
 have HM1 := kbq HBM hb1
 have HS1 : Hid (w.heap.size + 1 ≤ w1.heap.size) := by have := hb1.size; rw [HZ.out] at this; exact this
 clear ho1 hb1 HC
 have HSY : Hid (SaysN (fun x => !mineB me x) (w.heap.size + 1) w.heap.size w1) := fun W hW x => notmine_any W x me _ ((hW.cell (p := ⟨w.heap.size, 0, none⟩) (Nat.lt_succ_self _)).trans (HM1.out.cell 0))
 have HD := Lib.hid (delete_anyN w1 v1 xs (fun x => !mineB me x) (w.heap.size + 1) w.heap.size HO1.out HSY.out HS1.out (by rw [HL.out]; exact HN.out))
 obtain ⟨p1, c1, hv1⟩ := HO1.out.form
 rw [HL.out] at hv1
 subst hv1
 go_wp2_with fail
 refine HD.out.mono ?_
 rintro y w2 ⟨v2, rfl, ho2, hb2⟩
 have HF : Hid (xs.filter (fun x => !!mineB me x) = mineL me xs) := by show _ = _; unfold mineL; congr 1; funext x; simp
 have HO2 : Hid (OwnT encN w2 w.heap.size 64 v2 (mineL me xs)) := by have := ho2.less (show w.heap.size ≤ w.heap.size + 1 by omega); rw [HF.out] at this; exact this
 have HB2 := Lib.hid (HB1.out.trans (hb2.mono (Nat.le_succ _)))
 obtain ⟨p2, c2, hv2⟩ := HO2.out.form
 subst hv2
 clear ho2 hb2 HD HF
 generalize (mineL me xs).length = n2 at *
 go_wp2_with fail
 go_ret
 exact ⟨_, rfl, HO2.out, HB2.out⟩
end Go.Proofs.Yteogdfpkcoodlaa
namespace Go.Proofs.Yteogdfpkcoodlaa
open Go.RowKit
def LL (w : World) (v : Value) (xss : List (List Lin)) : Prop := ∃ p c, v = .slice p xss.length c ∧ xss.length ≤ c ∧ (xss = [] ∨ ∃ b o, p = some ⟨b, o, none⟩ ∧ b < w.heap.size ∧ ∀ i (hi : i < xss.length), ∃ u, w.cell? ⟨b, o + i, none⟩ = some u ∧ TRow encN w u xss[i])
theorem LL.shape {w : World} {v : Value} {xss : List (List Lin)} (h : LL w v xss) : ∃ p c, v = .slice p xss.length c := by obtain ⟨p, c, e, _⟩ := h; exact ⟨p, c, e⟩
theorem LL.kept {w w' : World} {v : Value} {xss : List (List Lin)} (h : LL w v xss) (hb : Below w.heap.size w w') : LL w' v xss := by
 obtain ⟨p, c, rfl, hc, h⟩ := h
 refine ⟨p, c, rfl, hc, ?_⟩
 rcases h with h | ⟨b, o, rfl, hlt, h⟩
 ·exact .inl h
 ·refine .inr ⟨b, o, rfl, Nat.lt_of_lt_of_le hlt hb.size, fun i hi => ?_⟩
  obtain ⟨u, h1, h2⟩ := h i hi
  exact ⟨u, (hb.cell (p := ⟨b, _, none⟩) hlt).trans h1, h2.kept hb⟩
theorem LL.at_ {w : World} {p : Option Addr} {n c : Nat} {xss : List (List Lin)} (h : LL w (.slice p n c) xss) (i : Nat) (hi : i < xss.length) : ∃ b o u, p = some ⟨b, o, none⟩ ∧ b < w.heap.size ∧ w.cell? ⟨b, o + i, none⟩ = some u ∧ TRow encN w u xss[i] := by
 obtain ⟨p', c', e1, _, h⟩ := h
 cases e1
 rcases h with h | ⟨b, o, hp, hlt, h⟩
 ·subst h; simp at hi
 ·obtain ⟨u, h1, h2⟩ := h i hi
  exact ⟨b, o, u, hp, hlt, h1, h2⟩
def SortN (xs : List Lin) : Prop := SortedP (xs.map posN)
theorem ordP_ahead {x y : Lin} : ordP (posN x) (posN y) < 0 ↔ aheadB x y = true := ahead_ord.symm
theorem aheadB_trans {x y z : Lin} (h1 : aheadB x y = true) (h2 : aheadB y z = true) : aheadB x z = true := by
 unfold aheadB at *
 simp only [decide_eq_true_eq] at *
 omega
theorem pair_of_next (xs : List Lin) (h : ∀ j (hj : j + 1 < xs.length), aheadB xs[j] xs[j + 1] = true) : xs.Pairwise (fun x y => aheadB x y = true) := by
 rw [List.pairwise_iff_getElem]
 intro i j hi hj hij
 induction j with
 | zero => omega
 | succ j ih =>
  by_cases e : i = j
  ·subst e; exact h i hj
  ·exact aheadB_trans (ih (by omega) (by omega)) (h j hj)
theorem fit_pair {n : Int} {xs : List Lin} (h : fitE n xs = 0) : xs.Pairwise (fun x y => aheadB x y = true) := pair_of_next xs (fun j hj => fit_ahead h j hj)
theorem fit_sort {n : Int} {xs : List Lin} (h : fitE n xs = 0) : SortN xs := by
 unfold SortN SortedP
 rw [List.pairwise_map]
 exact (fit_pair h).imp (fun h => ordP_ahead.2 h)
theorem fit_of_pair {n : Int} {xs : List Lin} (hw : ∀ x ∈ xs, withinB n x = true) (hp : xs.Pairwise (fun x y => aheadB x y = true)) : fitE n xs = 0 :=
 fitE_of hw (fun j hj => List.pairwise_iff_getElem.1 hp j (j + 1) (by omega) hj (by omega))
theorem mem_around {x : Lin} {ys A mid B : List Lin} (h : AroundF posN ⟨x.s, x.n, 0⟩ ys A mid B) : x ∈ ys ↔ x ∈ mid := by
 rw [h.all]
 simp only [List.mem_append]
 constructor
 ·rintro ((hx | hx) | hx)
  ·have := h.pos.ahead (posN x) (List.mem_map.2 ⟨x, hx, rfl⟩)
   rw [ordP_lt] at this
   unfold posN at this
   dsimp only at this
   omega
  ·exact hx
  ·have := h.pos.behind (posN x) (List.mem_map.2 ⟨x, hx, rfl⟩)
   rw [ordP_gt] at this
   unfold posN at this
   dsimp only at this
   omega
 ·intro hx
  exact .inl (.inr hx)
def offB (xss : List (List Lin)) (who : Int) (x : Lin) : Bool := decide (0 ≤ who ∧ who < xss.length ∧ x ∈ xss.getD who.toNat [])
def bothF (xss : List (List Lin)) (s : Nat) (x : Lin) : Bool := decide (x.s = (s : Int)) && offB xss x.b x
def partL (xss : List (List Lin)) (s : Nat) : List Lin := (xss.getD s []).filter (bothF xss s)
def bothL (xss : List (List Lin)) (k : Nat) : List Lin := (List.range k).flatMap (partL xss)
theorem bothL_succ (xss : List (List Lin)) (k : Nat) : bothL xss (k + 1) = bothL xss k ++ partL xss k := by
 unfold bothL
 rw [List.range_succ, List.flatMap_append]
 simp
theorem bothL_mem {xss : List (List Lin)} {k : Nat} {x : Lin} (h : x ∈ bothL xss k) : ∃ s : Nat, s < k ∧ x.s = (s : Int) ∧ x ∈ xss.getD s [] ∧ offB xss x.b x = true := by
 unfold bothL partL bothF at h
 obtain ⟨s, hs, hx⟩ := List.mem_flatMap.1 h
 have h2 := List.mem_filter.1 hx
 simp only [Bool.and_eq_true, decide_eq_true_eq] at h2
 exact ⟨s, List.mem_range.1 hs, h2.2.1, h2.1, h2.2.2⟩
theorem getD_memN {xss : List (List Lin)} {s : Nat} (h : s < xss.length) : xss.getD s [] ∈ xss := by
 rw [List.getD_eq_getElem?_getD, List.getElem?_eq_getElem h]
 exact List.getElem_mem h
theorem getD_outN {xss : List (List Lin)} {s : Nat} (h : ¬ s < xss.length) : xss.getD s [] = [] := by
 rw [List.getD_eq_getElem?_getD, List.getElem?_eq_none (by omega)]; rfl
theorem bothL_fits {xss : List (List Lin)} (n : Int) (h : ∀ o ∈ xss, fitE n o = 0) (k : Nat) : fitE n (bothL xss k) = 0 := by
 refine fit_of_pair (fun x hx => ?_) ?_
 ·obtain ⟨s, _, _, h2, _⟩ := bothL_mem hx
  by_cases hs : s < xss.length
  ·exact fit_within (h _ (getD_memN hs)) x h2
  ·rw [getD_outN hs] at h2; cases h2
 ·induction k with
  | zero => unfold bothL; exact List.Pairwise.nil
  | succ k ih =>
   rw [bothL_succ, List.pairwise_append]
   refine ⟨ih, ?_, fun x hx y hy => ?_⟩
   ·unfold partL
    by_cases hs : k < xss.length
    ·exact (fit_pair (h _ (getD_memN hs))).filter _
    ·rw [getD_outN hs]; exact List.Pairwise.nil
   ·obtain ⟨s, hs, h1, _⟩ := bothL_mem hx
    unfold partL bothF at hy
    have h2 := (List.mem_filter.1 hy).2
    simp only [Bool.and_eq_true, decide_eq_true_eq] at h2
    unfold aheadB
    apply decide_eq_true
    left
    omega
theorem partL_len (xss : List (List Lin)) (s : Nat) (h : ∀ o ∈ xss, o.length ≤ 60) : (partL xss s).length ≤ 60 := by
 unfold partL
 refine Nat.le_trans (List.length_filter_le _ _) ?_
 by_cases hs : s < xss.length
 ·exact h _ (getD_memN hs)
 ·rw [getD_outN hs]; simp
theorem bothL_len (xss : List (List Lin)) (h : ∀ o ∈ xss, o.length ≤ 60) : ∀ k, (bothL xss k).length ≤ 60 * k
 | 0 => by unfold bothL; simp
 | k + 1 => by
  have := bothL_len xss h k
  have := partL_len xss k h
  rw [bothL_succ, List.length_append]
  omega
end Go.Proofs.Yteogdfpkcoodlaa
namespace Go.Proofs.Yteogdfpkcoodlaa
open Go.RowKit
set_option linter.unusedSimpArgs false
/-- What an entity has said: offered, voted, its lines. -/
structure Hd where
 o : Bool
 t : Bool
 ls : List Lin
/-- A cycle. -/
structure Rn where
 cu : Int
 st : Int
 hs : List Hd
 ls : List Lin
 ns : List Int
structure HdX where
 h : Hd
 p : Option Addr
 c : Nat
def HdX.cells (x : HdX) : List Value := [.bool x.h.o, .bool x.h.t, .slice x.p x.h.ls.length x.c]
def encH : Enc HdX := ⟨3, HdX.cells, by decide, fun _ => rfl, by
 intro y u hu
 simp only [HdX.cells, List.mem_cons, List.not_mem_nil, or_false] at hu
 rcases hu with rfl | rfl | rfl <;> rfl⟩
def HdX.v (x : HdX) : Value := .agg #[.bool x.h.o, .bool x.h.t, .slice x.p x.h.ls.length x.c]
structure RunX where
 r : Rn
 pf : Option Addr
 cf : Nat
 pl : Option Addr
 cl : Nat
 pn : Option Addr
 cn : Nat
def RunX.cells (x : RunX) : List Value := [.int .i64 x.r.cu, .int .i64 x.r.st, .slice x.pf x.r.hs.length x.cf, .slice x.pl x.r.ls.length x.cl, .slice x.pn x.r.ns.length x.cn]
def RunX.v (x : RunX) : Value := .agg #[.int .i64 x.r.cu, .int .i64 x.r.st, .slice x.pf x.r.hs.length x.cf, .slice x.pl x.r.ls.length x.cl, .slice x.pn x.r.ns.length x.cn]
def encR : Enc RunX := ⟨5, RunX.cells, by decide, fun _ => rfl, by
 intro y u hu
 simp only [RunX.cells, List.mem_cons, List.not_mem_nil, or_false] at hu
 rcases hu with rfl | rfl | rfl | rfl | rfl <;> rfl⟩
def HdX.In (P : Nat → Prop) (w : World) (x : HdX) : Prop := TRow encN w (.slice x.p x.h.ls.length x.c) x.h.ls ∧ At P (.slice x.p x.h.ls.length x.c) x.h.ls.length
theorem HdX.In.kept {P : Nat → Prop} {w w' : World} {x : HdX} (h : x.In P w) (hb : Below w.heap.size w w') : x.In P w' := ⟨h.1.kept hb, h.2⟩
theorem HdX.In.keepP {P : Nat → Prop} {w w' : World} {x : HdX} (h : x.In P w) (hk : KeepP P w w') : x.In P w' := ⟨h.1.keepP h.2 hk, h.2⟩
theorem HdX.In.imp {P Q : Nat → Prop} {w : World} {x : HdX} (h : x.In P w) (hq : ∀ b, P b → Q b) : x.In Q w := ⟨h.1, h.2.imp hq⟩
/-- What all have said, in blocks of P. -/
def HsR (P : Nat → Prop) (w : World) (v : Value) (hs : List Hd) : Prop := ∃ xs : List HdX, TRow encH w v xs ∧ At P v xs.length ∧ (∀ x ∈ xs, x.In P w) ∧ xs.map HdX.h = hs
theorem HsR.kept {P : Nat → Prop} {w w' : World} {v : Value} {hs : List Hd} (h : HsR P w v hs) (hb : Below w.heap.size w w') : HsR P w' v hs := by
 obtain ⟨xs, h1, h2, h3, h4⟩ := h
 exact ⟨xs, h1.kept hb, h2, fun x hx => (h3 x hx).kept hb, h4⟩
theorem HsR.keepP {P : Nat → Prop} {w w' : World} {v : Value} {hs : List Hd} (h : HsR P w v hs) (hk : KeepP P w w') : HsR P w' v hs := by
 obtain ⟨xs, h1, h2, h3, h4⟩ := h
 exact ⟨xs, h1.keepP h2 hk, h2, fun x hx => (h3 x hx).keepP hk, h4⟩
theorem HsR.imp {P Q : Nat → Prop} {w : World} {v : Value} {hs : List Hd} (h : HsR P w v hs) (hq : ∀ b, P b → Q b) : HsR Q w v hs := by
 obtain ⟨xs, h1, h2, h3, h4⟩ := h
 exact ⟨xs, h1, h2.imp hq, fun x hx => (h3 x hx).imp hq, h4⟩
theorem HsR.nil_ (P : Nat → Prop) (w : World) : HsR P w (.slice none 0 0) [] := ⟨[], TRow.nil_ _ _, At.nil_ _ _, (fun _ h => by cases h), rfl⟩
theorem HsR.shape {P : Nat → Prop} {w : World} {v : Value} {hs : List Hd} (h : HsR P w v hs) : ∃ p c, v = .slice p hs.length c := by
 obtain ⟨xs, h1, _, _, rfl⟩ := h
 obtain ⟨p, c, rfl⟩ := h1.shape
 exact ⟨p, c, by rw [List.length_map]⟩
/-- What all have said, the call's own. -/
def HsO (P : Nat → Prop) (w : World) (base : Nat) (v : Value) (hs : List Hd) : Prop := ∃ xs : List HdX, OwnT encH w base 80 v xs ∧ (∀ x ∈ xs, x.In P w) ∧ xs.map HdX.h = hs
theorem HsO.kept {P : Nat → Prop} {w w' : World} {base : Nat} {v : Value} {hs : List Hd} (h : HsO P w base v hs) (hb : Below w.heap.size w w') : HsO P w' base v hs := by
 obtain ⟨xs, h1, h3, h4⟩ := h
 exact ⟨xs, h1.later hb, fun x hx => (h3 x hx).kept hb, h4⟩
theorem HsO.row {P : Nat → Prop} {w : World} {base : Nat} {v : Value} {hs : List Hd} (h : HsO P w base v hs) (hP : ∀ b, base ≤ b → b < w.heap.size → P b) : HsR P w v hs := by
 obtain ⟨xs, h1, h3, h4⟩ := h
 refine ⟨xs, h1.row, ?_, h3, h4⟩
 rintro b o n c rfl hn
 exact hP b (h1.block_ge b rfl) (h1.lt b rfl)
theorem HsO.imp {P Q : Nat → Prop} {w : World} {base : Nat} {v : Value} {hs : List Hd} (h : HsO P w base v hs) (hq : ∀ b, P b → Q b) : HsO Q w base v hs := by
 obtain ⟨xs, h1, h3, h4⟩ := h
 exact ⟨xs, h1, fun x hx => (h3 x hx).imp hq, h4⟩
theorem HsO.less {P : Nat → Prop} {w : World} {base base' : Nat} {v : Value} {hs : List Hd} (h : HsO P w base v hs) (hb : base' ≤ base) : HsO P w base' v hs := by
 obtain ⟨xs, h1, h3, h4⟩ := h
 exact ⟨xs, h1.less hb, h3, h4⟩
/-- What a cycle holds, in blocks of P. -/
structure RunX.In (P : Nat → Prop) (w : World) (x : RunX) : Prop where
 hs : HsR P w (.slice x.pf x.r.hs.length x.cf) x.r.hs
 ls : TRow encN w (.slice x.pl x.r.ls.length x.cl) x.r.ls
 al : At P (.slice x.pl x.r.ls.length x.cl) x.r.ls.length
 ns : Row .i64 w (.slice x.pn x.r.ns.length x.cn) x.r.ns
 an : At P (.slice x.pn x.r.ns.length x.cn) x.r.ns.length
theorem RunX.In.kept {P : Nat → Prop} {w w' : World} {x : RunX} (h : x.In P w) (hb : Below w.heap.size w w') : x.In P w' := ⟨h.hs.kept hb, h.ls.kept hb, h.al, h.ns.kept hb, h.an⟩
theorem RunX.In.keepP {P : Nat → Prop} {w w' : World} {x : RunX} (h : x.In P w) (hk : KeepP P w w') : x.In P w' := ⟨h.hs.keepP hk, h.ls.keepP h.al hk, h.al, h.ns.keepP h.an hk, h.an⟩
theorem RunX.In.imp {P Q : Nat → Prop} {w : World} {x : RunX} (h : x.In P w) (hq : ∀ b, P b → Q b) : x.In Q w := ⟨h.hs.imp hq, h.ls, h.al.imp hq, h.ns, h.an.imp hq⟩
/-- A list of cycles, in blocks of P. -/
def RsR (P : Nat → Prop) (w : World) (v : Value) (rs : List Rn) : Prop := ∃ xs : List RunX, TRow encR w v xs ∧ At P v xs.length ∧ (∀ x ∈ xs, x.In P w) ∧ xs.map RunX.r = rs
theorem RsR.kept {P : Nat → Prop} {w w' : World} {v : Value} {rs : List Rn} (h : RsR P w v rs) (hb : Below w.heap.size w w') : RsR P w' v rs := by
 obtain ⟨xs, h1, h2, h3, h4⟩ := h
 exact ⟨xs, h1.kept hb, h2, fun x hx => (h3 x hx).kept hb, h4⟩
theorem RsR.keepP {P : Nat → Prop} {w w' : World} {v : Value} {rs : List Rn} (h : RsR P w v rs) (hk : KeepP P w w') : RsR P w' v rs := by
 obtain ⟨xs, h1, h2, h3, h4⟩ := h
 exact ⟨xs, h1.keepP h2 hk, h2, fun x hx => (h3 x hx).keepP hk, h4⟩
theorem RsR.imp {P Q : Nat → Prop} {w : World} {v : Value} {rs : List Rn} (h : RsR P w v rs) (hq : ∀ b, P b → Q b) : RsR Q w v rs := by
 obtain ⟨xs, h1, h2, h3, h4⟩ := h
 exact ⟨xs, h1, h2.imp hq, fun x hx => (h3 x hx).imp hq, h4⟩
theorem RsR.nil_ (P : Nat → Prop) (w : World) : RsR P w (.slice none 0 0) [] := ⟨[], TRow.nil_ _ _, At.nil_ _ _, (fun _ h => by cases h), rfl⟩
theorem RsR.shape {P : Nat → Prop} {w : World} {v : Value} {rs : List Rn} (h : RsR P w v rs) : ∃ p c, v = .slice p rs.length c := by
 obtain ⟨xs, h1, _, _, rfl⟩ := h
 obtain ⟨p, c, rfl⟩ := h1.shape
 exact ⟨p, c, by rw [List.length_map]⟩
def zeroVH : Value := .agg #[.bool false, .bool false, .slice none 0 0]
def zeroVR : Value := .agg #[.int .i64 0, .int .i64 0, .slice none 0 0, .slice none 0 0, .slice none 0 0]
theorem eltH : EltT encH Try.prog 54 80 zeroVH 32 := eltT_mk Try.underlying54 (by kernel_rfl)
theorem eltR : EltT encR Try.prog 25 56 zeroVR 88 := eltT_mk Try.underlying25 (by kernel_rfl)
theorem infoR5 {cs : Array Value} (h : cs.size = 5) : (Try.prog.info? 56).map (·.size) = some cs.size := by
 rw [h]
 kernel_rfl
theorem infoH3 {cs : Array Value} (h : cs.size = 3) : (Try.prog.info? 80).map (·.size) = some cs.size := by
 rw [h]
 kernel_rfl
theorem infoC2 {cs : Array Value} (h : cs.size = 2) : (Try.prog.info? 27).map (·.size) = some cs.size := by
 rw [h]
 kernel_rfl
/-- The block of a slice is one of cells that may be written. -/
def Fre (w : World) (p : Option Addr) (len : Nat) : Prop := ∀ b o, p = some ⟨b, o, none⟩ → 0 < len → ∃ cs t, Blk w b cs t
theorem Fre.kept {w w' : World} {p : Option Addr} {len : Nat} (h : Fre w p len) (hb : Below w.heap.size w w') : Fre w' p len := fun b o e hn => by
 obtain ⟨cs, t, hB⟩ := h b o e hn
 exact ⟨cs, t, hB.below hb hB.lt⟩
theorem Fre.none_ (w : World) (len : Nat) : Fre w none len := fun _ _ e => nomatch e
theorem OwnT.fre {α : Type} {e : Enc α} {w : World} {base n c : Nat} {ty : TypeId} {p : Option Addr} {xs : List α} (h : OwnT e w base ty (.slice p n c) xs) : Fre w p xs.length := fun b o e1 hn => by
 rcases h.2 with ⟨h1, _⟩ | ⟨g, cap, cur, h1, _, hg, _⟩
 ·obtain ⟨h2, _⟩ := Value.slice.inj h1
  rw [h2] at e1
  cases e1
 ·obtain ⟨h2, _⟩ := Value.slice.inj h1
  rw [h2] at e1
  cases e1
  exact ⟨cur, ty, hg⟩
theorem Own.fre {k : IntKind} {w : World} {base n c : Nat} {ty : TypeId} {p : Option Addr} {xs : List Int} (h : Own k w base ty (.slice p n c) xs) : Fre w p xs.length := fun b o e1 hn => by
 rcases h.2 with ⟨h1, _⟩ | ⟨g, cap, cur, h1, _, hg, _⟩
 ·obtain ⟨h2, _⟩ := Value.slice.inj h1
  rw [h2] at e1
  cases e1
 ·obtain ⟨h2, _⟩ := Value.slice.inj h1
  rw [h2] at e1
  cases e1
  exact ⟨cur, ty, hg⟩
/-- A message whose lists lie in P, and may be written. -/
structure MsgX.InF (P : Nat → Prop) (w : World) (x : MsgX) : Prop where
 i : x.InP P w
 fl : Fre w x.pl x.m.ls.length
 fn : Fre w x.pn x.m.ns.length
theorem MsgX.InF.kept {P : Nat → Prop} {w w' : World} {x : MsgX} (h : x.InF P w) (hb : Below w.heap.size w w') : x.InF P w' := ⟨h.i.kept hb, h.fl.kept hb, h.fn.kept hb⟩
theorem MsgX.InF.keepP {P : Nat → Prop} {w w' : World} {x : MsgX} (h : x.InF P w) (hk : KeepP P w w') : x.InF P w' :=
 ⟨h.i.keepP hk, fun b o e hn => by
  obtain ⟨cs, t, hB⟩ := h.fl b o e hn
  exact ⟨cs, t, (hk.2 b hB.lt (h.i.al b o _ _ (by unfold MsgX.vl; rw [e]) hn)).trans hB⟩, fun b o e hn => by
  obtain ⟨cs, t, hB⟩ := h.fn b o e hn
  exact ⟨cs, t, (hk.2 b hB.lt (h.i.an b o _ _ (by unfold MsgX.vn; rw [e]) hn)).trans hB⟩⟩
theorem MsgX.InF.mono {P Q : Nat → Prop} {w : World} {x : MsgX} (h : x.InF P w) (hq : ∀ b, b < w.heap.size → P b → Q b) : x.InF Q w := ⟨h.i.mono hq, h.fl, h.fn⟩
/-- What is said, the call's own, each with lists of its own. -/
def SaidL (w : World) (base : Nat) (v : Value) (l : List (Int × Msg)) : Prop := ∃ xs : List SdX, OwnT encS w base 47 v xs ∧ (∀ z ∈ xs, z.x.InF (fun b => base ≤ b ∧ v.ownBlock ≠ some b) w) ∧ xs.map (fun z => (z.tw, z.x.m)) = l
theorem SaidL.nil_ (w : World) (base : Nat) : SaidL w base (.slice none 0 0) [] := ⟨[], OwnT.nil_ _ _ _ _, (fun _ h => by cases h), rfl⟩
theorem SaidL.kept {w w' : World} {base : Nat} {v : Value} {l : List (Int × Msg)} (h : SaidL w base v l) (hb : Below w.heap.size w w') : SaidL w' base v l := by
 obtain ⟨xs, h1, h2, h3⟩ := h
 exact ⟨xs, h1.later hb, fun x hx => (h2 x hx).kept hb, h3⟩
theorem SaidL.keepP {w w' : World} {base : Nat} {v : Value} {l : List (Int × Msg)} (h : SaidL w base v l) (hk : KeepP (fun b => base ≤ b) w w') : SaidL w' base v l := by
 obtain ⟨xs, h1, h2, h3⟩ := h
 exact ⟨xs, h1.stay (fun g hg => hk.2 g (h1.lt g hg) (h1.block_ge g hg)), fun x hx => (h2 x hx).keepP ⟨hk.1, fun b hb hp => hk.2 b hb hp.1⟩, h3⟩
theorem SaidL.chgS {w w' : World} {base g : Nat} {v : Value} {l : List (Int × Msg)} (h : SaidL w base v l) (hc : Chg g w w') (hg : g < base) : SaidL w' base v l := h.keepP (KeepP.of_chg hc (by omega))
theorem SaidL.less {w : World} {base base' : Nat} {v : Value} {l : List (Int × Msg)} (h : SaidL w base v l) (hb : base' ≤ base) : SaidL w base' v l := by
 obtain ⟨xs, h1, h2, h3⟩ := h
 exact ⟨xs, h1.less hb, fun x hx => (h2 x hx).mono (fun _ _ h => ⟨Nat.le_trans hb h.1, h.2⟩), h3⟩
theorem SaidL.shape {w : World} {base : Nat} {v : Value} {l : List (Int × Msg)} (h : SaidL w base v l) : ∃ p c, v = .slice p l.length c := by
 obtain ⟨xs, h1, _, rfl⟩ := h
 obtain ⟨p, c, rfl⟩ := h1.form
 exact ⟨p, c, by rw [List.length_map]⟩
end Go.Proofs.Yteogdfpkcoodlaa
namespace Go.Proofs.Yteogdfpkcoodlaa
open Go.RowKit
set_option linter.unusedSimpArgs false
def openB (r : Rn) : Bool := r.st == 1 || r.st == 2
/-- What is said of a cycle that is decided. -/
def decM (k : Int) (r : Rn) : Msg := ⟨14, 0, 0, 0, 0, 0, k, 0, r.st == 3, [], []⟩
set_option linter.unusedSimpArgs false in
set_option maxHeartbeats 4000000 in
set_option maxRecDepth 100000 in
theorem entities_any (w : World) (N : Int) (p : Option Addr) (n c : Nat) (h1 : 0 ≤ N) (h8 : N ≤ 8) :
  Calls Try.prog 16 #[.agg #[.int .i64 N, .slice p n c]] w fun e w' => e = .returned (.int .i64 N) ∧ Below w.heap.size w w' := by
 have e1 : ¬ N < 0 := by omega
 have e2 : ¬ 8 < N := by omega
 have e3 : IntKind.i64.wrap N = N := IntWalk.i64_in _ (by omega)
 clear h1 h8
 go_enter Try.func16, Try.ntmps16
 go_wp2_with fail
 go_ret
 exact ⟨rfl, oneB w _⟩
set_option linter.unusedSimpArgs false in
set_option maxHeartbeats 4000000 in
set_option maxRecDepth 100000 in
theorem chas_any (w : World) (N k : Int) (p : Option Addr) (n c : Nat) :
  Calls Try.prog 17 #[.agg #[.int .i64 N, .slice p n c], .int .i64 k] w fun e w' => e = .returned (.bool (decide (1 ≤ k ∧ k ≤ n))) ∧ Below w.heap.size w w' := by
 obtain ⟨b, hbd⟩ : ∃ b, decide (1 ≤ k ∧ k ≤ (n : Int)) = b := ⟨_, rfl⟩
 rw [hbd]
 by_cases h1 : 1 ≤ k
 ·by_cases h2 : k ≤ (n : Int)
  ·have HD : Hid (b = true) := by rw [← hbd]; exact decide_eq_true ⟨h1, h2⟩
   clear hbd
   go_enter Try.func17, Try.ntmps17
   go_wp2_with fail
   go_ret
   exact ⟨by rw [HD.out]; rfl, oneB w _⟩
  ·have HD : Hid (b = false) := by rw [← hbd]; exact decide_eq_false (fun h => h2 h.2)
   clear hbd
   go_enter Try.func17, Try.ntmps17
   go_wp2_with fail
   go_ret
   exact ⟨by rw [HD.out]; rfl, oneB w _⟩
 ·have HD : Hid (b = false) := by rw [← hbd]; exact decide_eq_false (fun h => h1 h.1)
  clear hbd
  go_enter Try.func17, Try.ntmps17
  go_wp2_with fail
  go_ret
  exact ⟨by rw [HD.out]; rfl, oneB w _⟩
set_option linter.unusedSimpArgs false in
set_option maxHeartbeats 4000000 in
set_option maxRecDepth 100000 in
theorem copen_any (w : World) (x : RunX) :
  Calls Try.prog 28 #[x.v] w fun e w' => e = .returned (.bool (openB x.r)) ∧ Below w.heap.size w w' := by
 unfold RunX.v openB
 cases h1 : (x.r.st == 1)
 ·cases h2 : (x.r.st == 2)
  ·go_enter Try.func28, Try.ntmps28
   go_wp2_with fail
   go_ret
   exact ⟨rfl, oneB w _⟩
  ·go_enter Try.func28, Try.ntmps28
   go_wp2_with fail
   go_ret
   exact ⟨rfl, oneB w _⟩
 ·go_enter Try.func28, Try.ntmps28
  go_wp2_with fail
  go_ret
  exact ⟨rfl, oneB w _⟩
set_option linter.unusedSimpArgs false in
set_option maxHeartbeats 4000000 in
set_option maxRecDepth 100000 in
theorem decision_any (w : World) (x : RunX) (k : Int) :
  Calls Try.prog 52 #[.int .i64 k, x.v] w fun e w' => e = .returned ((decM k x.r).v (.slice none 0 0) (.slice none 0 0)) ∧ Below w.heap.size w w' := by
 unfold RunX.v decM Msg.v
 obtain ⟨b, hb3⟩ : ∃ b, (x.r.st == 3) = b := ⟨_, rfl⟩
 dsimp only
 rw [hb3]
 have HB0 : Hid (Below w.heap.size w ((w.alloc (.cells #[.int .i64 x.r.cu, .int .i64 x.r.st, .slice x.pf x.r.hs.length x.cf, .slice x.pl x.r.ls.length x.cl, .slice x.pn x.r.ns.length x.cn] 56)).alloc (.cells #[.int .i64 0, .int .i64 0, .int .i64 0, .int .i64 0, .int .i64 0, .int .i64 0, .int .i64 0, .int .i64 0, .bool false, .slice none 0 0, .slice none 0 0] 36))) := Lib.hid (((oneB w _).alloc (by simp <;> omega) _))
 have Hx0 : Hid (Blk ((w.alloc (.cells #[.int .i64 x.r.cu, .int .i64 x.r.st, .slice x.pf x.r.hs.length x.cf, .slice x.pl x.r.ls.length x.cl, .slice x.pn x.r.ns.length x.cn] 56)).alloc (.cells #[.int .i64 0, .int .i64 0, .int .i64 0, .int .i64 0, .int .i64 0, .int .i64 0, .int .i64 0, .int .i64 0, .bool false, .slice none 0 0, .slice none 0 0] 36)) w.heap.size #[.int .i64 x.r.cu, .int .i64 x.r.st, .slice x.pf x.r.hs.length x.cf, .slice x.pl x.r.ls.length x.cl, .slice x.pn x.r.ns.length x.cn] 56) := Lib.hid ((Blk.new w #[.int .i64 x.r.cu, .int .i64 x.r.st, .slice x.pf x.r.hs.length x.cf, .slice x.pl x.r.ls.length x.cl, .slice x.pn x.r.ns.length x.cn] 56).alloc _)
 have Hr0 : Hid (Blk ((w.alloc (.cells #[.int .i64 x.r.cu, .int .i64 x.r.st, .slice x.pf x.r.hs.length x.cf, .slice x.pl x.r.ls.length x.cl, .slice x.pn x.r.ns.length x.cn] 56)).alloc (.cells #[.int .i64 0, .int .i64 0, .int .i64 0, .int .i64 0, .int .i64 0, .int .i64 0, .int .i64 0, .int .i64 0, .bool false, .slice none 0 0, .slice none 0 0] 36)) (w.heap.size + 1) #[.int .i64 0, .int .i64 0, .int .i64 0, .int .i64 0, .int .i64 0, .int .i64 0, .int .i64 0, .int .i64 0, .bool false, .slice none 0 0, .slice none 0 0] 36) := Lib.hid (Blk.new' (w.alloc (.cells #[.int .i64 x.r.cu, .int .i64 x.r.st, .slice x.pf x.r.hs.length x.cf, .slice x.pl x.r.ls.length x.cl, .slice x.pn x.r.ns.length x.cn] 56)) #[.int .i64 0, .int .i64 0, .int .i64 0, .int .i64 0, .int .i64 0, .int .i64 0, .int .i64 0, .int .i64 0, .bool false, .slice none 0 0, .slice none 0 0] 36 (by simp))
 have HZ0 : Hid (w.heap.size ≤ ((w.alloc (.cells #[.int .i64 x.r.cu, .int .i64 x.r.st, .slice x.pf x.r.hs.length x.cf, .slice x.pl x.r.ls.length x.cl, .slice x.pn x.r.ns.length x.cn] 56)).alloc (.cells #[.int .i64 0, .int .i64 0, .int .i64 0, .int .i64 0, .int .i64 0, .int .i64 0, .int .i64 0, .int .i64 0, .bool false, .slice none 0 0, .slice none 0 0] 36)).heap.size) := Lib.hid HB0.out.size
 go_enter Try.func52, Try.ntmps52
 go_upto_region 1 with fail
 generalize ((w.alloc (.cells #[.int .i64 x.r.cu, .int .i64 x.r.st, .slice x.pf x.r.hs.length x.cf, .slice x.pl x.r.ls.length x.cl, .slice x.pn x.r.ns.length x.cn] 56)).alloc (.cells #[.int .i64 0, .int .i64 0, .int .i64 0, .int .i64 0, .int .i64 0, .int .i64 0, .int .i64 0, .int .i64 0, .bool false, .slice none 0 0, .slice none 0 0] 36)) = W at *
 have x0 : W.cell? ⟨w.heap.size, 0, none⟩ = some (.int .i64 x.r.cu) := Hx0.out.cell 0
 have x1 : W.cell? ⟨w.heap.size, 1, none⟩ = some (.int .i64 x.r.st) := Hx0.out.cell 1
 have x2 : W.cell? ⟨w.heap.size, 2, none⟩ = some (.slice x.pf x.r.hs.length x.cf) := Hx0.out.cell 2
 have x3 : W.cell? ⟨w.heap.size, 3, none⟩ = some (.slice x.pl x.r.ls.length x.cl) := Hx0.out.cell 3
 have x4 : W.cell? ⟨w.heap.size, 4, none⟩ = some (.slice x.pn x.r.ns.length x.cn) := Hx0.out.cell 4
 go_wp2_with (with_reducible refine stop_storeT 36 (.tmp 4) (.tmp 9) rfl ?_)
 clear x0 x1 x2 x3 x4
 have HTH : Hid (W.there (w.heap.size + 1) 0 11) := Hr0.out.thereAt
 have hch : Hid (Chg (w.heap.size + 1) W (W.setCells (w.heap.size + 1) 0 (#[.int .i64 14, .int .i64 0, .int .i64 0, .int .i64 0, .int .i64 0, .int .i64 0, .int .i64 k, .int .i64 0, .bool b, .slice none 0 0, .slice none 0 0] : Array Value).toList)) := Lib.hid (chg_putL _ _ _ _ _ (Chg.refl _ W))
 have Hr1 : Hid (Blk (W.setCells (w.heap.size + 1) 0 (#[.int .i64 14, .int .i64 0, .int .i64 0, .int .i64 0, .int .i64 0, .int .i64 0, .int .i64 k, .int .i64 0, .bool b, .slice none 0 0, .slice none 0 0] : Array Value).toList) (w.heap.size + 1) #[.int .i64 14, .int .i64 0, .int .i64 0, .int .i64 0, .int .i64 0, .int .i64 0, .int .i64 k, .int .i64 0, .bool b, .slice none 0 0, .slice none 0 0] 36) := Lib.hid (blk_put_all Hr0.out _ rfl)
 have HB1 : Hid (Below w.heap.size w (W.setCells (w.heap.size + 1) 0 (#[.int .i64 14, .int .i64 0, .int .i64 0, .int .i64 0, .int .i64 0, .int .i64 0, .int .i64 k, .int .i64 0, .bool b, .slice none 0 0, .slice none 0 0] : Array Value).toList)) := Lib.hid (below_put (by omega) _ _ _ _ HB0.out)
 have HZ1 := kzq HZ0 hch.out.size
 have Hx1 := kcq Hx0 hch (by omega)
 clear hch Hx0 Hr0 HB0 HZ0
 refine wpList_store_mid rfl 36 (.tmp 4) (.tmp 9) rfl (w.heap.size + 1) 0 #[.int .i64 14, .int .i64 0, .int .i64 0, .int .i64 0, .int .i64 0, .int .i64 0, .int .i64 k, .int .i64 0, .bool b, .slice none 0 0, .slice none 0 0] rfl rfl HTH.out (infoM rfl) (all_oneCell_toArray (by intro u hu; simp at hu; rcases hu with rfl | rfl | rfl | rfl | rfl | rfl | rfl | rfl | rfl | rfl | rfl <;> rfl)) ?_
 generalize (W.setCells (w.heap.size + 1) 0 (#[.int .i64 14, .int .i64 0, .int .i64 0, .int .i64 0, .int .i64 0, .int .i64 0, .int .i64 k, .int .i64 0, .bool b, .slice none 0 0, .slice none 0 0] : Array Value).toList) = W2 at *
 clear HTH
 go_wp2_with fail
 have hfr := Hr1.out
 refine bodyPost_ret (v := .agg #[.int .i64 14, .int .i64 0, .int .i64 0, .int .i64 0, .int .i64 0, .int .i64 0, .int .i64 k, .int .i64 0, .bool b, .slice none 0 0, .slice none 0 0]) (by simp [results, Try.results52, go_sem, hfr.cell 0, hfr.cell 1, hfr.cell 2, hfr.cell 3, hfr.cell 4, hfr.cell 5, hfr.cell 6, hfr.cell 7, hfr.cell 8, hfr.cell 9, hfr.cell 10]) rfl ⟨rfl, HB1.out⟩
set_option linter.unusedSimpArgs false in
set_option maxHeartbeats 4000000 in
set_option maxRecDepth 100000 in
theorem noO_any (w : World) (x : HdX) :
  Calls Try.prog 47 #[x.v] w fun e w' => e = .returned (.bool (!x.h.o)) ∧ Below w.heap.size w w' := by
 unfold HdX.v
 go_enter Try.func47, Try.ntmps47
 go_wp2_with fail
 go_ret
 exact ⟨rfl, oneB w _⟩
set_option linter.unusedSimpArgs false in
set_option maxHeartbeats 4000000 in
set_option maxRecDepth 100000 in
theorem noT_any (w : World) (x : HdX) :
  Calls Try.prog 51 #[x.v] w fun e w' => e = .returned (.bool (!x.h.t)) ∧ Below w.heap.size w w' := by
 unfold HdX.v
 go_enter Try.func51, Try.ntmps51
 go_wp2_with fail
 go_ret
 exact ⟨rfl, oneB w _⟩
end Go.Proofs.Yteogdfpkcoodlaa
namespace Go.Proofs.Yteogdfpkcoodlaa
open Go.RowKit
set_option linter.unusedSimpArgs false
set_option linter.unusedSimpArgs false in
set_option maxHeartbeats 4000000 in
set_option maxRecDepth 100000 in
theorem cloneR_any (w : World) (v : Value) (xs : List RunX) (hr : TRow encR w v xs) (hn : xs.length * 88 ≤ 140737488355000) :
  Calls Try.prog 64 #[v] w fun e w' => ∃ v', e = .returned v' ∧ OwnT encR w' w.heap.size 56 v' xs ∧ Below w.heap.size w w' := by
 obtain ⟨p, c, rfl⟩ := hr.shape
 cases p with
 | none =>
  have hx : xs = [] := by
   obtain ⟨p', c', e1, _, h⟩ := hr
   cases e1
   rcases h with h | ⟨b, o, h, _⟩
   ·exact h
   ·cases h
  subst hx
  clear hr
  have kq := Lib.run_eql_slice_nil (P := Try.prog) w 25 56 none 0 c 0 0 Try.underlying25
  simp only [List.length_nil]
  go_enter Try.func64, Try.ntmps64
  go_wp2
  go_ret
  exact ⟨_, rfl, OwnT.nil_ _ _ _ _, Below.refl _ _⟩
 | some a =>
  have HR := Lib.hid hr
  have HM := Lib.hid (OwnT.madeE encR w w.heap.size 56 (Nat.le_refl _))
  have HB := Lib.hid (oneB w (.cells #[] 56))
  have HN := Lib.hid hn
  clear hr hn
  generalize hl : xs.length = n at *
  have HL := Lib.hid hl
  clear hl
  have kq := Lib.run_eql_slice_nil (P := Try.prog) w 25 56 (some a) n c 0 0 Try.underlying25
  go_enter Try.func64, Try.ntmps64
  go_wp2_with (at_builtin; with_reducible refine stop_appendT (.tmp 5) (.tmp 6) 25 rfl ?_)
  refine wpList_append_tb rfl (.tmp 5) (.tmp 6) 25 rfl 56 zeroVR 88 w.heap.size eltR rfl (.slice (some ⟨w.heap.size, 0, none⟩) 0 0) (.slice (some a) n c) [] xs rfl rfl HM.out (HR.out.kept HB.out) (by have := HL.out; have := HN.out; simp; omega) (by have := HL.out; have := HN.out; simp; omega) HB.out.size xs n (List.nil_append _) HL.out ?_
  intro p' c' w' ho _ hb
  have HO := Lib.hid ho
  have HB2 := Lib.hid (HB.out.trans hb)
  clear ho hb
  go_wp2_with fail
  go_ret
  exact ⟨_, rfl, HO.out, HB2.out⟩
set_option linter.unusedSimpArgs false in
set_option maxHeartbeats 4000000 in
set_option maxRecDepth 100000 in
theorem cloneH_any (w : World) (v : Value) (xs : List HdX) (hr : TRow encH w v xs) (hn : xs.length * 32 ≤ 140737488355000) :
  Calls Try.prog 22 #[v] w fun e w' => ∃ v', e = .returned v' ∧ OwnT encH w' w.heap.size 80 v' xs ∧ Below w.heap.size w w' := by
 obtain ⟨p, c, rfl⟩ := hr.shape
 cases p with
 | none =>
  have hx : xs = [] := by
   obtain ⟨p', c', e1, _, h⟩ := hr
   cases e1
   rcases h with h | ⟨b, o, h, _⟩
   ·exact h
   ·cases h
  subst hx
  clear hr
  have kq := Lib.run_eql_slice_nil (P := Try.prog) w 54 80 none 0 c 0 0 Try.underlying54
  simp only [List.length_nil]
  go_enter Try.func22, Try.ntmps22
  go_wp2
  go_ret
  exact ⟨_, rfl, OwnT.nil_ _ _ _ _, Below.refl _ _⟩
 | some a =>
  have HR := Lib.hid hr
  have HM := Lib.hid (OwnT.madeE encH w w.heap.size 80 (Nat.le_refl _))
  have HB := Lib.hid (oneB w (.cells #[] 80))
  have HN := Lib.hid hn
  clear hr hn
  generalize hl : xs.length = n at *
  have HL := Lib.hid hl
  clear hl
  have kq := Lib.run_eql_slice_nil (P := Try.prog) w 54 80 (some a) n c 0 0 Try.underlying54
  go_enter Try.func22, Try.ntmps22
  go_wp2_with (at_builtin; with_reducible refine stop_appendT (.tmp 5) (.tmp 6) 54 rfl ?_)
  refine wpList_append_tb rfl (.tmp 5) (.tmp 6) 54 rfl 80 zeroVH 32 w.heap.size eltH rfl (.slice (some ⟨w.heap.size, 0, none⟩) 0 0) (.slice (some a) n c) [] xs rfl rfl HM.out (HR.out.kept HB.out) (by have := HL.out; have := HN.out; simp; omega) (by have := HL.out; have := HN.out; simp; omega) HB.out.size xs n (List.nil_append _) HL.out ?_
  intro p' c' w' ho _ hb
  have HO := Lib.hid ho
  have HB2 := Lib.hid (HB.out.trans hb)
  clear ho hb
  go_wp2_with fail
  go_ret
  exact ⟨_, rfl, HO.out, HB2.out⟩
set_option linter.unusedSimpArgs false in
set_option maxHeartbeats 4000000 in
set_option maxRecDepth 100000 in
theorem cwith_any (w : World) (P : Nat → Prop) (N k : Int) (p : Option Addr) (n c : Nat) (rs : List Rn) (x : RunX) (hrs : RsR P w (.slice p n c) rs) (hn : n = rs.length) (hl : n ≤ 2000) (hk1 : 1 ≤ k) (hk2 : k ≤ n) (hx : x.In P w) :
  Calls Try.prog 48 #[.agg #[.int .i64 N, .slice p n c], .int .i64 k, x.v] w fun e w' => ∃ p' c', e = .returned (.agg #[.int .i64 N, .slice p' n c']) ∧ RsR (fun b => P b ∨ w.heap.size ≤ b) w' (.slice p' n c') (rs.set (k - 1).toNat x.r) ∧ Below w.heap.size w w' := by
 obtain ⟨xs, hr, hat, hin, hm⟩ := hrs
 have hnx : xs.length = n := by rw [hn, ← hm, List.length_map]
 obtain ⟨kn, hk⟩ : ∃ kn : Nat, k = (kn : Int) + 1 := ⟨(k - 1).toNat, by omega⟩
 subst hk
 have hkn : kn < n := by omega
 have HM := Lib.hid hm
 have HIN := Lib.hid hin
 have HNX := Lib.hid hnx
 have HKN := Lib.hid hkn
 have HR := Lib.hid hr
 have HN1 : Hid (n ≤ 2000) := Lib.hid hl
 have HXI := Lib.hid hx
 have hw1 : wrap64 (kn : Int) = (kn : Int) := by unfold wrap64; omega
 clear hr hat hin hm hn hl hx hk1 hk2 hnx
 unfold RunX.v
 have HB0 : Hid (Below w.heap.size w (((w.alloc (.cells #[.int .i64 N, .slice p n c] 27)).alloc (.cells #[.int .i64 x.r.cu, .int .i64 x.r.st, .slice x.pf x.r.hs.length x.cf, .slice x.pl x.r.ls.length x.cl, .slice x.pn x.r.ns.length x.cn] 56)).alloc (.cells #[.int .i64 0, .slice none 0 0] 27))) := Lib.hid ((((oneB w _).alloc (by simp <;> omega) _).alloc (by simp <;> omega) _))
 have Hc0 : Hid (Blk (((w.alloc (.cells #[.int .i64 N, .slice p n c] 27)).alloc (.cells #[.int .i64 x.r.cu, .int .i64 x.r.st, .slice x.pf x.r.hs.length x.cf, .slice x.pl x.r.ls.length x.cl, .slice x.pn x.r.ns.length x.cn] 56)).alloc (.cells #[.int .i64 0, .slice none 0 0] 27)) w.heap.size #[.int .i64 N, .slice p n c] 27) := Lib.hid (((Blk.new w #[.int .i64 N, .slice p n c] 27).alloc _).alloc _)
 have Hx0 : Hid (Blk (((w.alloc (.cells #[.int .i64 N, .slice p n c] 27)).alloc (.cells #[.int .i64 x.r.cu, .int .i64 x.r.st, .slice x.pf x.r.hs.length x.cf, .slice x.pl x.r.ls.length x.cl, .slice x.pn x.r.ns.length x.cn] 56)).alloc (.cells #[.int .i64 0, .slice none 0 0] 27)) (w.heap.size + 1) #[.int .i64 x.r.cu, .int .i64 x.r.st, .slice x.pf x.r.hs.length x.cf, .slice x.pl x.r.ls.length x.cl, .slice x.pn x.r.ns.length x.cn] 56) := Lib.hid ((Blk.new' (w.alloc (.cells #[.int .i64 N, .slice p n c] 27)) #[.int .i64 x.r.cu, .int .i64 x.r.st, .slice x.pf x.r.hs.length x.cf, .slice x.pl x.r.ls.length x.cl, .slice x.pn x.r.ns.length x.cn] 56 (by simp)).alloc _)
 have Hr0 : Hid (Blk (((w.alloc (.cells #[.int .i64 N, .slice p n c] 27)).alloc (.cells #[.int .i64 x.r.cu, .int .i64 x.r.st, .slice x.pf x.r.hs.length x.cf, .slice x.pl x.r.ls.length x.cl, .slice x.pn x.r.ns.length x.cn] 56)).alloc (.cells #[.int .i64 0, .slice none 0 0] 27)) (w.heap.size + 1 + 1) #[.int .i64 0, .slice none 0 0] 27) := Lib.hid (Blk.new' ((w.alloc (.cells #[.int .i64 N, .slice p n c] 27)).alloc (.cells #[.int .i64 x.r.cu, .int .i64 x.r.st, .slice x.pf x.r.hs.length x.cf, .slice x.pl x.r.ls.length x.cl, .slice x.pn x.r.ns.length x.cn] 56)) #[.int .i64 0, .slice none 0 0] 27 (by simp))
 have HZ0 : Hid (w.heap.size ≤ (((w.alloc (.cells #[.int .i64 N, .slice p n c] 27)).alloc (.cells #[.int .i64 x.r.cu, .int .i64 x.r.st, .slice x.pf x.r.hs.length x.cf, .slice x.pl x.r.ls.length x.cl, .slice x.pn x.r.ns.length x.cn] 56)).alloc (.cells #[.int .i64 0, .slice none 0 0] 27)).heap.size) := Lib.hid HB0.out.size
 go_enter Try.func48, Try.ntmps48
 go_upto_region 1 with fail
 generalize (((w.alloc (.cells #[.int .i64 N, .slice p n c] 27)).alloc (.cells #[.int .i64 x.r.cu, .int .i64 x.r.st, .slice x.pf x.r.hs.length x.cf, .slice x.pl x.r.ls.length x.cl, .slice x.pn x.r.ns.length x.cn] 56)).alloc (.cells #[.int .i64 0, .slice none 0 0] 27)) = W at *
 have HWL : Hid (w.heap.size + 1 + 1 < W.heap.size) := Lib.hid Hr0.out.lt
 have HRW := Lib.hid (HR.out.kept HB0.out)
 have HG := Lib.hid (cloneR_any W (.slice p n c) xs HRW.out (by have := HNX.out; have := HN1.out; omega))
 have a0 : W.cell? ⟨w.heap.size, 0, none⟩ = some (.int .i64 N) := Hc0.out.cell 0
 have a1 : W.cell? ⟨w.heap.size, 1, none⟩ = some (.slice p n c) := Hc0.out.cell 1
 go_wp2_with fail
 clear a0 a1
 refine HG.out.mono ?_
 rintro y9 w1 ⟨v1, rfl, ho, hb⟩
 clear HG HRW
 obtain ⟨p1, c1, hv1⟩ := ho.form
 rw [HNX.out] at hv1
 subst hv1
 have HO := Lib.hid ho
 clear ho
 have Hc1 := kbq Hc0 hb
 have Hx1 := kbq Hx0 hb
 have Hr1 := kbq Hr0 hb
 have HB1 := ktq HB0 hb
 have HZ1 := kzq HZ0 hb.size
 clear Hc0 Hx0 Hr0 HB0 HZ0
 clear hb
 have z1 : w1.cell? ⟨w.heap.size, 1, none⟩ = some (.slice p n c) := Hc1.out.cell 1
 have f1 := Hc1.out.free 1
 go_upto_region 2 with fail
 clear z1 f1
 have hch := Lib.hid ((Chg.refl w.heap.size w1).set 1 (.slice p1 n c1))
 have Hc2 : Hid (Blk _ w.heap.size #[.int .i64 N, .slice p1 n c1] 27) := Lib.hid (Hc1.out.set 1 (.slice p1 n c1))
 have HB2 := ksq HB1 hch (Nat.le_refl _)
 have HZ2 : Hid (w.heap.size ≤ (w1.setCell ⟨w.heap.size, 1, none⟩ (.slice p1 n c1)).heap.size) := Lib.hid HB2.out.size
 have Hx2 := kcq Hx1 hch (by omega)
 have Hr2 := kcq Hr1 hch (by omega)
 have HO2 := Lib.hid (HO.out.stay (fun g hg => hch.out.2 g (HO.out.lt g hg) (by have h1 := HO.out.block_ge g hg; have := HWL.out; omega)))
 clear hch HO Hc1 Hx1 Hr1 HB1 HZ1
 generalize (w1.setCell ⟨w.heap.size, 1, none⟩ (.slice p1 n c1)) = W2 at *
 obtain ⟨g, cur, hp1, hgb, hblk, hnc, hmx, hsz, htk, hll⟩ := HO2.out.lies (show 0 < n by have := HKN.out; omega)
 subst hp1
 have HGB : Hid (W.heap.size ≤ g) := Lib.hid hgb
 have HTH := Lib.hid (HO2.out.there kn 5 (by have := HKN.out; show kn * 5 + 5 ≤ c1 * 5; omega) (by have := HKN.out; omega))
 have HCC : Hid (n ≤ c1) := Lib.hid hnc
 clear hgb hblk hnc hmx hsz htk hll
 have hkI : (kn : Int) < (n : Int) := by have := HKN.out; omega
 have hkC : (kn : Int) < (c1 : Int) := by have := HKN.out; have := HCC.out; omega
 have a1 : W2.cell? ⟨w.heap.size, 1, none⟩ = some (.slice (some ⟨g, 0, none⟩) n c1) := Hc2.out.cell 1
 have x0 : W2.cell? ⟨(w.heap.size + 1), 0, none⟩ = some (.int .i64 x.r.cu) := Hx2.out.cell 0
 have x1 : W2.cell? ⟨(w.heap.size + 1), 1, none⟩ = some (.int .i64 x.r.st) := Hx2.out.cell 1
 have x2 : W2.cell? ⟨(w.heap.size + 1), 2, none⟩ = some (.slice x.pf x.r.hs.length x.cf) := Hx2.out.cell 2
 have x3 : W2.cell? ⟨(w.heap.size + 1), 3, none⟩ = some (.slice x.pl x.r.ls.length x.cl) := Hx2.out.cell 3
 have x4 : W2.cell? ⟨(w.heap.size + 1), 4, none⟩ = some (.slice x.pn x.r.ns.length x.cn) := Hx2.out.cell 4
 go_wp2_with (with_reducible refine stop_storeT 56 (.tmp 16) (.tmp 15) rfl ?_)
 clear a1 x0 x1 x2 x3 x4
 have hgl := HWL.out
 have hch : Hid (Chg g W2 (W2.setCells g (kn * 5) (#[.int .i64 x.r.cu, .int .i64 x.r.st, .slice x.pf x.r.hs.length x.cf, .slice x.pl x.r.ls.length x.cl, .slice x.pn x.r.ns.length x.cn] : Array Value).toList)) := Lib.hid (chg_putL _ _ _ _ _ (Chg.refl _ W2))
 have HO3 := Lib.hid (HO2.out.put kn HKN.out x)
 have HB3 : Hid (Below w.heap.size w (W2.setCells g (kn * 5) (#[.int .i64 x.r.cu, .int .i64 x.r.st, .slice x.pf x.r.hs.length x.cf, .slice x.pl x.r.ls.length x.cl, .slice x.pn x.r.ns.length x.cn] : Array Value).toList)) := Lib.hid (below_put (by have := HGB.out; omega) _ _ _ _ HB2.out)
 have HZ3 : Hid (w.heap.size ≤ (W2.setCells g (kn * 5) (#[.int .i64 x.r.cu, .int .i64 x.r.st, .slice x.pf x.r.hs.length x.cf, .slice x.pl x.r.ls.length x.cl, .slice x.pn x.r.ns.length x.cn] : Array Value).toList).heap.size) := Lib.hid HB3.out.size
 have Hc3 := kcq Hc2 hch (by have := HGB.out; omega)
 have Hx3 := kcq Hx2 hch (by have := HGB.out; omega)
 have Hr3 := kcq Hr2 hch (by have := HGB.out; omega)
 have HO4 : Hid (OwnT encR (W2.setCells g (kn * 5) (#[.int .i64 x.r.cu, .int .i64 x.r.st, .slice x.pf x.r.hs.length x.cf, .slice x.pl x.r.ls.length x.cl, .slice x.pn x.r.ns.length x.cn] : Array Value).toList) W.heap.size 56 (.slice (some ⟨g, 0, none⟩) n c1) (xs.set kn x)) := HO3
 clear hgl hch HO2 HO3 Hc2 Hx2 Hr2 HB2 HZ2
 refine wpList_store_mid rfl 56 (.tmp 16) (.tmp 15) rfl g (kn * 5) #[.int .i64 x.r.cu, .int .i64 x.r.st, .slice x.pf x.r.hs.length x.cf, .slice x.pl x.r.ls.length x.cl, .slice x.pn x.r.ns.length x.cn] rfl rfl HTH.out (infoR5 rfl) (all_oneCell_toArray (by intro u hu; simp at hu; rcases hu with rfl | rfl | rfl | rfl | rfl <;> rfl)) ?_
 generalize (W2.setCells g (kn * 5) (#[.int .i64 x.r.cu, .int .i64 x.r.st, .slice x.pf x.r.hs.length x.cf, .slice x.pl x.r.ls.length x.cl, .slice x.pn x.r.ns.length x.cn] : Array Value).toList) = W3 at *
 clear HTH hkI hkC
 have a0 : W3.cell? ⟨w.heap.size, 0, none⟩ = some (.int .i64 N) := Hc3.out.cell 0
 have a1 : W3.cell? ⟨w.heap.size, 1, none⟩ = some (.slice (some ⟨g, 0, none⟩) n c1) := Hc3.out.cell 1
 go_wp2_with (with_reducible refine stop_storeT 27 (.tmp 6) (.tmp 17) rfl ?_)
 clear a0 a1
 have HTH : Hid (W3.there (w.heap.size + 1 + 1) 0 2) := Hr3.out.thereAt
 have hch : Hid (Chg (w.heap.size + 1 + 1) W3 (W3.setCells (w.heap.size + 1 + 1) 0 (#[.int .i64 N, .slice (some ⟨g, 0, none⟩) n c1] : Array Value).toList)) := Lib.hid (chg_putL _ _ _ _ _ (Chg.refl _ W3))
 have Hr4 : Hid (Blk (W3.setCells (w.heap.size + 1 + 1) 0 (#[.int .i64 N, .slice (some ⟨g, 0, none⟩) n c1] : Array Value).toList) (w.heap.size + 1 + 1) #[.int .i64 N, .slice (some ⟨g, 0, none⟩) n c1] 27) := Lib.hid (blk_put_all Hr3.out _ rfl)
 have HB4 : Hid (Below w.heap.size w (W3.setCells (w.heap.size + 1 + 1) 0 (#[.int .i64 N, .slice (some ⟨g, 0, none⟩) n c1] : Array Value).toList)) := Lib.hid (below_put (by omega) _ _ _ _ HB3.out)
 have HZ4 := kzq HZ3 hch.out.size
 have Hc4 := kcq Hc3 hch (by omega)
 have Hx4 := kcq Hx3 hch (by omega)
 have HO5 := Lib.hid (HO4.out.stay (fun g hg => hch.out.2 g (HO4.out.lt g hg) (by have h1 := HO4.out.block_ge g hg; have := HWL.out; omega)))
 clear HO4 hch Hc3 Hx3 Hr3 HB3 HZ3
 refine wpList_store_mid rfl 27 (.tmp 6) (.tmp 17) rfl (w.heap.size + 1 + 1) 0 #[.int .i64 N, .slice (some ⟨g, 0, none⟩) n c1] rfl rfl HTH.out (infoC2 rfl) (all_oneCell_toArray (by intro u hu; simp at hu; rcases hu with rfl | rfl <;> rfl)) ?_
 generalize (W3.setCells (w.heap.size + 1 + 1) 0 (#[.int .i64 N, .slice (some ⟨g, 0, none⟩) n c1] : Array Value).toList) = W4 at *
 clear HTH
 go_wp2_with fail
 have hfr := Hr4.out
 refine bodyPost_ret (v := .agg #[.int .i64 N, .slice (some ⟨g, 0, none⟩) n c1]) (by simp [results, Try.results48, go_sem, hfr.cell 0, hfr.cell 1]) rfl ?_
 refine ⟨_, _, rfl, ⟨xs.set kn x, HO5.out.row, ?_, ?_, ?_⟩, HB4.out⟩
 ·refine HO5.out.at_P (fun b hb => .inr ?_)
  have := HWL.out
  omega
 ·intro y hy
  rcases List.mem_or_eq_of_mem_set hy with h | h
  ·exact ((HIN.out y h).kept HB4.out).imp (fun b h => .inl h)
  ·subst h; exact (HXI.out.kept HB4.out).imp (fun b h => .inl h)
 ·rw [List.map_set, HM.out, Int.add_sub_cancel, Int.toNat_natCast]
end Go.Proofs.Yteogdfpkcoodlaa
namespace Go.Proofs.Yteogdfpkcoodlaa
open Go.RowKit
set_option linter.unusedSimpArgs false
section
variable {α : Type} {e : Enc α}
theorem run_copy_t {P : Program} (w : World) (dT sT ty elem : TypeId) (hu : P.underlying dT = some (.slice elem)) (hs : (P.info? elem).map (·.size) = some e.k) (g n : Nat) (cur : Array Value) (t : TypeId) (hg : w.heap[g]? = some (.cells cur t (0, 0))) (hz : cur.size = n * e.k) (sp : Option Addr) (nS cS : Nat) (xs : List α) (hr : TRow e w (.slice sp nS cS) xs) (hn : xs.length = n) (hnS : nS = n) (h0 : 0 < n) :
  (Builtin.copy_ #[dT, sT] ty #[.slice (some ⟨g, 0, none⟩) n n, .slice sp nS cS]).run P w = .ok (goInt n) (w.setRow g (xs.flatMap e.E).toArray) := by
 subst hnS
 obtain ⟨b, o, hp, _, _⟩ := hr.at_ 0 (by omega)
 subst hp
 have hl := run_loadCells_list (P := P) w ⟨b, o, none⟩ (xs.flatMap e.E) (fun j v hj => hr.newsAt j v hj)
 have hlen := flat_length e xs
 have hst := run_storeCells_at P g 0 t (xs.flatMap e.E) 0 cur w hg (by rw [hlen, hn]; omega) (flat_one e xs)
 rw [show cur.toList.take (0 + 0) ++ xs.flatMap e.E ++ cur.toList.drop (0 + 0 + (xs.flatMap e.E).length) = xs.flatMap e.E by
  rw [List.drop_eq_nil_of_le (by rw [hlen, hn, Array.length_toList]; omega)]; simp] at hst
 rw [hlen, hn] at hl
 cases hq : P.info? elem with
 | none => simp [hq] at hs
 | some i =>
  have hi : i.size = e.k := by simpa [hq] using hs
  simp [Builtin.copy_, run_underlying hu, Builtin.lenOf, Builtin.firstCells, sizeOf, typeInfo, hq, hi, hl, hst]
theorem wpList_copy_t {P : Program} {w : World} {ops : Array Oper} {rest : List Oper} {o : Oper} {a : Act} {Q : Exit → Act → World → Prop} (hgd : o.guard = none) (d s : Operand) (dT sT : TypeId)
  (ho : o.op = .call { callee := .builtin .copy, args := #[d, s], argTypes := #[dT, sT] }) (elem : TypeId) (hu : P.underlying dT = some (.slice elem)) (hsz : (P.info? elem).map (·.size) = some e.k)
  (g n : Nat) (cur : Array Value) (t : TypeId) (hg : Blk w g cur t) (hz : cur.size = n * e.k) (sp : Option Addr) (nS cS : Nat) (xs : List α) (hd : a.eval d = .slice (some ⟨g, 0, none⟩) n n) (hs : a.eval s = .slice sp nS cS) (hr : TRow e w (.slice sp nS cS) xs) (hn : xs.length = n) (hnS : nS = n) (h0 : 0 < n) (hmx : n ≤ maxLen)
  (h : ∀ w', OwnT e w' g t (.slice (some ⟨g, 0, none⟩) n n) xs → Chg g w w' → wpList P ops Q rest (a.put o.dst (goInt n)) w') : wpList P ops Q (o :: rest) a w := by
 refine wpList_plain hgd fun K hK => ?_
 have hrun := run_copy_t (P := P) w dT sT o.type elem hu hsz g n cur t hg hz sp nS cS xs hr hn hnS h0
 unfold Oper.wp
 simp [execOp, ho, resolve, invoke, builtin, hd, hs, hrun, Result.andThen]
 have hrow := setRow_heap w g cur (xs.flatMap e.E).toArray t (0, 0) hg
 refine hK _ _ (h _ (OwnT.mk' hn.symm (Nat.le_refl _) hrow (Nat.le_refl _) hmx ?_ ?_) ⟨?_, ?_⟩)
 ·rw [List.size_toArray, flat_length, hn]
 ·rw [List.toList_toArray, List.take_of_length_le (by rw [flat_length, hn]; exact Nat.le_refl _)]
 ·exact below_setRow (Below.refl _ _) (Nat.zero_le _) _
 ·intro b hb hne
  exact setRow_other w g b _ hne
end
end Go.Proofs.Yteogdfpkcoodlaa
namespace Go.Proofs.Yteogdfpkcoodlaa
open Go.RowKit
set_option linter.unusedSimpArgs false
/-- A cycle whose list of what all have said is the call's own. -/
structure RunO (P : Nat → Prop) (w : World) (base N : Nat) (x : RunX) : Prop where
 g : ∃ g, x.pf = some ⟨g, 0, none⟩ ∧ base ≤ g ∧ g < w.heap.size
 cap : x.cf = N
 len : x.r.hs.length = N
 hs : HsO P w base (.slice x.pf x.r.hs.length x.cf) x.r.hs
 ls : TRow encN w (.slice x.pl x.r.ls.length x.cl) x.r.ls
 al : At P (.slice x.pl x.r.ls.length x.cl) x.r.ls.length
 ns : Row .i64 w (.slice x.pn x.r.ns.length x.cn) x.r.ns
 an : At P (.slice x.pn x.r.ns.length x.cn) x.r.ns.length
theorem RunO.kept {P : Nat → Prop} {w w' : World} {base N : Nat} {x : RunX} (h : RunO P w base N x) (hb : Below w.heap.size w w') : RunO P w' base N x :=
 ⟨by obtain ⟨g, h1, h2, h3⟩ := h.g; exact ⟨g, h1, h2, Nat.lt_of_lt_of_le h3 hb.size⟩, h.cap, h.len, h.hs.kept hb, h.ls.kept hb, h.al, h.ns.kept hb, h.an⟩
theorem RunO.imp {P Q : Nat → Prop} {w : World} {base N : Nat} {x : RunX} (h : RunO P w base N x) (hq : ∀ b, P b → Q b) : RunO Q w base N x := ⟨h.g, h.cap, h.len, h.hs.imp hq, h.ls, h.al.imp hq, h.ns, h.an.imp hq⟩
theorem RunO.in_ {P : Nat → Prop} {w : World} {base N : Nat} {x : RunX} (h : RunO P w base N x) (hP : ∀ b, base ≤ b → b < w.heap.size → P b) : x.In P w := ⟨h.hs.row hP, h.ls, h.al, h.ns, h.an⟩
theorem RunO.chg {P : Nat → Prop} {w w' : World} {base N g : Nat} {x : RunX} (h : RunO P w base N x) (hc : Chg g w w') (hg : g < base) (hp : ¬ P g) : RunO P w' base N x := by
 have hk := KeepP.of_chg hc hp
 obtain ⟨xs, h1, h2, h3⟩ := h.hs
 exact ⟨by obtain ⟨g, h1, h2, h3⟩ := h.g; exact ⟨g, h1, h2, Nat.lt_of_lt_of_le h3 hc.size⟩, h.cap, h.len, ⟨xs, h1.stay (fun b hb => hc.2 b (h1.lt b hb) (by have := h1.block_ge b hb; omega)), fun y hy => (h2 y hy).keepP hk, h3⟩, h.ls.keepP h.al hk, h.al, h.ns.keepP h.an hk, h.an⟩
theorem stop_copyH {P : Program} {ops : Array Oper} {rest : List Oper} {o : Oper} {a : Act} {w : World} {Q : Exit → Act → World → Prop} (d s : Operand) (t u : TypeId)
  (_ : o.op = .call { callee := .builtin .copy, args := #[d, s], argTypes := #[t, u] }) (h : Hid (wpList P ops Q (o :: rest) a w)) : wpList P ops Q (o :: rest) a w := h
theorem sizeH : (Try.prog.info? 80).map (·.size) = some encH.k := by kernel_rfl
set_option linter.unusedSimpArgs false in
set_option maxHeartbeats 4000000 in
set_option maxRecDepth 100000 in
theorem crun_any (w : World) (P : Nat → Prop) (N : Nat) (k : Int) (p : Option Addr) (n c : Nat) (rs : List Rn) (hrs : RsR P w (.slice p n c) rs) (hn : n = rs.length) (hl : n ≤ 2000) (hk1 : 1 ≤ k) (hk2 : k ≤ n) (hN1 : 1 ≤ N) (hN8 : N ≤ 8) (hlen : ∀ r ∈ rs, r.hs.length = N) :
  Calls Try.prog 43 #[.agg #[.int .i64 (N : Int), .slice p n c], .int .i64 k] w fun e w' => ∃ x : RunX, e = .returned x.v ∧ rs[(k - 1).toNat]? = some x.r ∧ RunO P w' w.heap.size N x ∧ Below w.heap.size w w' := by
 obtain ⟨xs, hr, hat, hin, hm⟩ := hrs
 have hnx : xs.length = n := by rw [hn, ← hm, List.length_map]
 obtain ⟨kn, hk⟩ : ∃ kn : Nat, k = (kn : Int) + 1 := ⟨(k - 1).toNat, by omega⟩
 subst hk
 have hkn : kn < xs.length := by omega
 obtain ⟨x, hx⟩ : ∃ x, xs[kn] = x := ⟨_, rfl⟩
 have HXI : Hid (x.In P w) := Lib.hid (hin x (by rw [← hx]; exact List.getElem_mem hkn))
 have HXL : Hid (x.r.hs.length = N) := Lib.hid (hlen x.r (by rw [← hm]; exact List.mem_map_of_mem (by rw [← hx]; exact List.getElem_mem hkn)))
 have HXR : Hid (rs[kn]? = some x.r) := Lib.hid (by rw [← hm, List.getElem?_map, List.getElem?_eq_getElem hkn, hx]; rfl)
 obtain ⟨b, o, hp, hbl, hcs⟩ := hr.at_ kn hkn
 rw [hx] at hcs
 subst hp
 have HBL := Lib.hid hbl
 have HKN : Hid (kn < n) := Lib.hid (by omega)
 have HNN : Hid (1 ≤ N ∧ N ≤ 8) := Lib.hid ⟨hN1, hN8⟩
 have hcap : xs.length ≤ c := hr.cap
 have hkI : (kn : Int) < (n : Int) := by omega
 have hkC : (kn : Int) < (c : Int) := by omega
 have hw1 : wrap64 (kn : Int) = (kn : Int) := by unfold wrap64; omega
 have HCS := Lib.hid hcs
 clear hr hat hin hm hn hk1 hk2 hnx hx hkn hcap hlen hN1 hN8 hbl hcs hl
 have HXW : Hid (∀ t, t < 5 → ∀ W, Below w.heap.size w W → W.cell? ⟨b, o + kn * 5 + t, none⟩ = (encR.E x)[t]?) := Lib.hid (fun t ht W hW => (hW.cell (p := ⟨b, _, none⟩) HBL.out).trans (HCS.out t ht))
 clear HCS
 have HB0 : Hid (Below w.heap.size w ((w.alloc (.cells #[.int .i64 (N : Int), .slice (some ⟨b, o, none⟩) n c] 27)).alloc (.cells #[.int .i64 0, .int .i64 0, .slice none 0 0, .slice none 0 0, .slice none 0 0] 56))) := Lib.hid (((oneB w _).alloc (by simp <;> omega) _))
 have Hc0 : Hid (Blk ((w.alloc (.cells #[.int .i64 (N : Int), .slice (some ⟨b, o, none⟩) n c] 27)).alloc (.cells #[.int .i64 0, .int .i64 0, .slice none 0 0, .slice none 0 0, .slice none 0 0] 56)) w.heap.size #[.int .i64 (N : Int), .slice (some ⟨b, o, none⟩) n c] 27) := Lib.hid ((Blk.new w #[.int .i64 (N : Int), .slice (some ⟨b, o, none⟩) n c] 27).alloc _)
 have Hr0 : Hid (Blk ((w.alloc (.cells #[.int .i64 (N : Int), .slice (some ⟨b, o, none⟩) n c] 27)).alloc (.cells #[.int .i64 0, .int .i64 0, .slice none 0 0, .slice none 0 0, .slice none 0 0] 56)) (w.heap.size + 1) #[.int .i64 0, .int .i64 0, .slice none 0 0, .slice none 0 0, .slice none 0 0] 56) := Lib.hid (Blk.new' (w.alloc (.cells #[.int .i64 (N : Int), .slice (some ⟨b, o, none⟩) n c] 27)) #[.int .i64 0, .int .i64 0, .slice none 0 0, .slice none 0 0, .slice none 0 0] 56 (by simp))
 have HZ0 : Hid (w.heap.size ≤ ((w.alloc (.cells #[.int .i64 (N : Int), .slice (some ⟨b, o, none⟩) n c] 27)).alloc (.cells #[.int .i64 0, .int .i64 0, .slice none 0 0, .slice none 0 0, .slice none 0 0] 56)).heap.size) := Lib.hid HB0.out.size
 go_enter Try.func43, Try.ntmps43
 go_upto_region 1 with fail
 generalize ((w.alloc (.cells #[.int .i64 (N : Int), .slice (some ⟨b, o, none⟩) n c] 27)).alloc (.cells #[.int .i64 0, .int .i64 0, .slice none 0 0, .slice none 0 0, .slice none 0 0] 56)) = W at *
 have HWL : Hid (w.heap.size + 1 < W.heap.size) := Lib.hid Hr0.out.lt
 have a1 : W.cell? ⟨w.heap.size, 1, none⟩ = some (.slice (some ⟨b, o, none⟩) n c) := Hc0.out.cell 1
 have x0 : W.cell? ⟨b, o + kn * 5, none⟩ = some (.int .i64 x.r.cu) := HXW.out 0 (by decide) W HB0.out
 have x1 : W.cell? ⟨b, o + kn * 5 + 1, none⟩ = some (.int .i64 x.r.st) := HXW.out 1 (by decide) W HB0.out
 have x2 : W.cell? ⟨b, o + kn * 5 + 2, none⟩ = some (.slice x.pf x.r.hs.length x.cf) := HXW.out 2 (by decide) W HB0.out
 have x3 : W.cell? ⟨b, o + kn * 5 + 3, none⟩ = some (.slice x.pl x.r.ls.length x.cl) := HXW.out 3 (by decide) W HB0.out
 have x4 : W.cell? ⟨b, o + kn * 5 + 4, none⟩ = some (.slice x.pn x.r.ns.length x.cn) := HXW.out 4 (by decide) W HB0.out
 have hba := oneB W (.cells #[.int .i64 x.r.cu, .int .i64 x.r.st, .slice x.pf x.r.hs.length x.cf, .slice x.pl x.r.ls.length x.cl, .slice x.pn x.r.ns.length x.cn] 56)
 have Hc1 := kbq Hc0 hba
 have Hr1 := kbq Hr0 hba
 have Hx1 := Lib.hid (Blk.new W #[.int .i64 x.r.cu, .int .i64 x.r.st, .slice x.pf x.r.hs.length x.cf, .slice x.pl x.r.ls.length x.cl, .slice x.pn x.r.ns.length x.cn] 56)
 have HB1 := Lib.hid (HB0.out.alloc HB0.out.size (.cells #[.int .i64 x.r.cu, .int .i64 x.r.st, .slice x.pf x.r.hs.length x.cf, .slice x.pl x.r.ls.length x.cl, .slice x.pn x.r.ns.length x.cn] 56))
 have HZ1 := kzq HZ0 hba.size
 have HGgx : Hid (w.heap.size ≤ W.heap.size) := Lib.hid HB0.out.size
 clear hba Hc0 Hr0 HB0 HZ0
 go_upto_region 2 with fail
 clear a1 x0 x1 x2 x3 x4 hkI hkC hw1 HXW
 generalize (W.alloc (.cells #[.int .i64 x.r.cu, .int .i64 x.r.st, .slice x.pf x.r.hs.length x.cf, .slice x.pl x.r.ls.length x.cl, .slice x.pn x.r.ns.length x.cn] 56)) = W1 at *
 generalize hggx : W.heap.size = gx at *
 clear hggx
 have HG := Lib.hid (entities_any W1 (N : Int) (some ⟨b, o, none⟩) n c (by omega) (by have := HNN.out; omega))
 have a0 : W1.cell? ⟨w.heap.size, 0, none⟩ = some (.int .i64 (N : Int)) := Hc1.out.cell 0
 have a1 : W1.cell? ⟨w.heap.size, 1, none⟩ = some (.slice (some ⟨b, o, none⟩) n c) := Hc1.out.cell 1
 go_wp2_with fail
 clear a0 a1
 refine HG.out.mono ?_
 rintro y9 w2 ⟨rfl, hb⟩
 clear HG
 have Hc2 := kbq Hc1 hb
 have Hr2 := kbq Hr1 hb
 have Hx2 := kbq Hx1 hb
 have HB2 := ktq HB1 hb
 have HZ2 := kzq HZ1 hb.size
 clear Hc1 Hr1 Hx1 HB1 HZ1
 clear hb
 obtain ⟨i0, hu, hi, hz, hs, hby⟩ := eltH
 have hmk := run_make (P := Try.prog) w2 54 80 i0 _ hu hi hz .i64 .i64 (N : Int) (N : Int) (by omega) (Int.le_refl _) (by rw [hby]; have := HNN.out; omega) (by have := HNN.out; omega)
 rw [hs] at hmk
 simp only [Int.toNat_natCast, Value.cells, zeroVH] at hmk
 clear hu hi hz hs hby
 have HGM : Hid (gx < w2.heap.size) := Lib.hid Hx2.out.lt
 have hba := oneB w2 (.cells (madeCells #[.bool false, .bool false, .slice none 0 0] (N * encH.k)) 80)
 have Hc3 := kbq Hc2 hba
 have Hr3 := kbq Hr2 hba
 have Hx3 := kbq Hx2 hba
 have Hm3 := Lib.hid (Blk.new w2 (madeCells #[.bool false, .bool false, .slice none 0 0] (N * encH.k)) 80)
 have HB3 := Lib.hid (HB2.out.alloc HB2.out.size (.cells (madeCells #[.bool false, .bool false, .slice none 0 0] (N * encH.k)) 80))
 have HZ3 := kzq HZ2 hba.size
 have HGgm : Hid (w.heap.size ≤ w2.heap.size) := Lib.hid HB2.out.size
 clear hba Hc2 Hr2 Hx2 HB2 HZ2
 go_upto_region 3 with fail
 clear hmk
 generalize (w2.alloc (.cells (madeCells #[.bool false, .bool false, .slice none 0 0] (N * encH.k)) 80)) = W3 at *
 generalize hggm : w2.heap.size = gm at *
 clear hggm
 obtain ⟨ys, yr, yat, yin, ym⟩ := HXI.out.hs
 have hyl : ys.length = N := by rw [← HXL.out, ← ym, List.length_map]
 have HYR := Lib.hid yr
 have HYI0 := Lib.hid yin
 have HYM := Lib.hid ym
 have HYL := Lib.hid hyl
 clear yr yat yin ym hyl
 have x2 : W3.cell? ⟨gx, 2, none⟩ = some (.slice x.pf x.r.hs.length x.cf) := Hx3.out.cell 2
 go_wp2_with (with_reducible refine stop_copyH (.tmp 16) (.tmp 18) 54 54 rfl ?_)
 clear x2
 refine wpList_copy_t (e := encH) rfl (.tmp 16) (.tmp 18) 54 54 rfl 80 Try.underlying54 sizeH gm N (madeCells #[.bool false, .bool false, .slice none 0 0] (N * encH.k)) 80 Hm3.out (by simp [madeCells]) x.pf x.r.hs.length x.cf ys rfl rfl (HYR.out.kept HB3.out) HYL.out HXL.out (by have := HNN.out; omega) (by have := HNN.out; unfold maxLen; omega) ?_
 intro W4 hown hch
 have HO := Lib.hid hown
 have hch := Lib.hid hch
 clear hown
 have Hc4 := kcq Hc3 hch (by have := HWL.out; have := HGM.out; omega)
 have Hr4 := kcq Hr3 hch (by have := HWL.out; have := HGM.out; omega)
 have Hx4 := kcq Hx3 hch (by have := HWL.out; have := HGM.out; omega)
 have HB4 : Hid (Below w.heap.size w W4) := Lib.hid (HB3.out.trans (hch.out.below (by have := HGgm.out; omega) HB3.out.size))
 have HZ4 := kzq HZ3 hch.out.size
 clear hch HYR Hc3 Hr3 Hx3 Hm3 HB3 HZ3
 have z2 : W4.cell? ⟨gx, 2, none⟩ = some (.slice x.pf x.r.hs.length x.cf) := Hx4.out.cell 2
 have f2 := Hx4.out.free 2
 go_upto_region 5 with fail
 clear z2 f2
 have hch := Lib.hid ((Chg.refl gx W4).set 2 (.slice (some ⟨gm, 0, none⟩) N N))
 have Hx5 : Hid (Blk _ gx #[.int .i64 x.r.cu, .int .i64 x.r.st, .slice (some ⟨gm, 0, none⟩) N N, .slice x.pl x.r.ls.length x.cl, .slice x.pn x.r.ns.length x.cn] 56) := Lib.hid (Hx4.out.set 2 (.slice (some ⟨gm, 0, none⟩) N N))
 have HB5 := ksq HB4 hch (by have := HGgx.out; show w.heap.size ≤ gx; omega)
 have HZ5 : Hid (w.heap.size ≤ (W4.setCell ⟨gx, 2, none⟩ (.slice (some ⟨gm, 0, none⟩) N N)).heap.size) := Lib.hid HB5.out.size
 have Hc5 := kcq Hc4 hch (by have := HWL.out; omega)
 have Hr5 := kcq Hr4 hch (by have := HWL.out; omega)
 have HO2 := Lib.hid (HO.out.stay (fun g hg => hch.out.2 g (HO.out.lt g hg) (by have h1 := HO.out.block_ge g hg; have := HGM.out; omega)))
 clear hch HO Hc4 Hr4 Hx4 HB4 HZ4
 generalize (W4.setCell ⟨gx, 2, none⟩ (.slice (some ⟨gm, 0, none⟩) N N)) = W5 at *
 have x0 : W5.cell? ⟨gx, 0, none⟩ = some (.int .i64 x.r.cu) := Hx5.out.cell 0
 have x1 : W5.cell? ⟨gx, 1, none⟩ = some (.int .i64 x.r.st) := Hx5.out.cell 1
 have x2 : W5.cell? ⟨gx, 2, none⟩ = some (.slice (some ⟨gm, 0, none⟩) N N) := Hx5.out.cell 2
 have x3 : W5.cell? ⟨gx, 3, none⟩ = some (.slice x.pl x.r.ls.length x.cl) := Hx5.out.cell 3
 have x4 : W5.cell? ⟨gx, 4, none⟩ = some (.slice x.pn x.r.ns.length x.cn) := Hx5.out.cell 4
 go_wp2_with (with_reducible refine stop_storeT 56 (.tmp 4) (.tmp 22) rfl ?_)
 clear x0 x1 x2 x3 x4
 have HTH : Hid (W5.there (w.heap.size + 1) 0 5) := Hr5.out.thereAt
 have hch : Hid (Chg (w.heap.size + 1) W5 (W5.setCells (w.heap.size + 1) 0 (#[.int .i64 x.r.cu, .int .i64 x.r.st, .slice (some ⟨gm, 0, none⟩) N N, .slice x.pl x.r.ls.length x.cl, .slice x.pn x.r.ns.length x.cn] : Array Value).toList)) := Lib.hid (chg_putL _ _ _ _ _ (Chg.refl _ W5))
 have Hr6 : Hid (Blk (W5.setCells (w.heap.size + 1) 0 (#[.int .i64 x.r.cu, .int .i64 x.r.st, .slice (some ⟨gm, 0, none⟩) N N, .slice x.pl x.r.ls.length x.cl, .slice x.pn x.r.ns.length x.cn] : Array Value).toList) (w.heap.size + 1) #[.int .i64 x.r.cu, .int .i64 x.r.st, .slice (some ⟨gm, 0, none⟩) N N, .slice x.pl x.r.ls.length x.cl, .slice x.pn x.r.ns.length x.cn] 56) := Lib.hid (blk_put_all Hr5.out _ rfl)
 have HB6 : Hid (Below w.heap.size w (W5.setCells (w.heap.size + 1) 0 (#[.int .i64 x.r.cu, .int .i64 x.r.st, .slice (some ⟨gm, 0, none⟩) N N, .slice x.pl x.r.ls.length x.cl, .slice x.pn x.r.ns.length x.cn] : Array Value).toList)) := Lib.hid (below_put (by have := HWL.out; have := HGM.out; omega) _ _ _ _ HB5.out)
 have HZ6 := kzq HZ5 hch.out.size
 have Hc6 := kcq Hc5 hch (by have := HWL.out; have := HGM.out; omega)
 have Hx6 := kcq Hx5 hch (by have := HWL.out; have := HGM.out; omega)
 have HO3 := Lib.hid (HO2.out.stay (fun g hg => hch.out.2 g (HO2.out.lt g hg) (by have h1 := HO2.out.block_ge g hg; have := HGM.out; have := HWL.out; omega)))
 clear HO2 hch Hc5 Hr5 Hx5 HB5 HZ5
 refine wpList_store_mid rfl 56 (.tmp 4) (.tmp 22) rfl (w.heap.size + 1) 0 #[.int .i64 x.r.cu, .int .i64 x.r.st, .slice (some ⟨gm, 0, none⟩) N N, .slice x.pl x.r.ls.length x.cl, .slice x.pn x.r.ns.length x.cn] rfl rfl HTH.out (infoR5 rfl) (all_oneCell_toArray (by intro u hu; simp at hu; rcases hu with rfl | rfl | rfl | rfl | rfl <;> rfl)) ?_
 generalize (W5.setCells (w.heap.size + 1) 0 (#[.int .i64 x.r.cu, .int .i64 x.r.st, .slice (some ⟨gm, 0, none⟩) N N, .slice x.pl x.r.ls.length x.cl, .slice x.pn x.r.ns.length x.cn] : Array Value).toList) = W6 at *
 clear HTH
 go_wp2_with fail
 have hfr := Hr6.out
 refine bodyPost_ret (v := .agg #[.int .i64 x.r.cu, .int .i64 x.r.st, .slice (some ⟨gm, 0, none⟩) N N, .slice x.pl x.r.ls.length x.cl, .slice x.pn x.r.ns.length x.cn]) (by simp [results, Try.results43, go_sem, hfr.cell 0, hfr.cell 1, hfr.cell 2, hfr.cell 3, hfr.cell 4]) rfl ?_
 obtain ⟨g1, h1, h2⟩ : ∃ g1, g1 = gm ∧ w.heap.size ≤ g1 := ⟨gm, rfl, by have := HGM.out; have := HWL.out; omega⟩
 refine ⟨{ x with pf := some ⟨gm, 0, none⟩, cf := N }, ?_, ?_, ⟨⟨gm, rfl, by omega, HO3.out.lt gm rfl⟩, rfl, HXL.out, ⟨ys, ?_, fun y hy => (HYI0.out y hy).kept HB6.out, HYM.out⟩, HXI.out.ls.kept HB6.out, HXI.out.al, HXI.out.ns.kept HB6.out, HXI.out.an⟩, HB6.out⟩
 ·unfold RunX.v
  rw [show x.r.hs.length = N from HXL.out]
 ·rw [Int.add_sub_cancel, Int.toNat_natCast]; exact HXR.out
 ·rw [show x.r.hs.length = N from HXL.out]; exact HO3.out.less (by omega)
end Go.Proofs.Yteogdfpkcoodlaa
namespace Go.Proofs.Yteogdfpkcoodlaa
open Go.RowKit
set_option linter.unusedSimpArgs false in
set_option maxHeartbeats 4000000 in
set_option maxRecDepth 100000 in
theorem cloneN_any (w : World) (v : Value) (xs : List Lin) (hr : TRow encN w v xs) (hn : xs.length * 32 ≤ 140737488355000) :
  Calls Try.prog 23 #[v] w fun e w' => ∃ v', e = .returned v' ∧ OwnT encN w' w.heap.size 64 v' xs ∧ Below w.heap.size w w' := by
 obtain ⟨p, c, rfl⟩ := hr.shape
 cases p with
 | none =>
  have hx : xs = [] := by
   obtain ⟨p', c', e1, _, h⟩ := hr
   cases e1
   rcases h with h | ⟨b, o, h, _⟩
   ·exact h
   ·cases h
  subst hx
  clear hr
  have kq := Lib.run_eql_slice_nil (P := Try.prog) w 33 64 none 0 c 0 0 Try.underlying33
  simp only [List.length_nil]
  go_enter Try.func23, Try.ntmps23
  go_wp2
  go_ret
  exact ⟨_, rfl, OwnT.nil_ _ _ _ _, Below.refl _ _⟩
 | some a =>
  have HR := Lib.hid hr
  have HM := Lib.hid (OwnT.madeE encN w w.heap.size 64 (Nat.le_refl _))
  have HB := Lib.hid (oneB w (.cells #[] 64))
  have HN := Lib.hid hn
  clear hr hn
  generalize hl : xs.length = n at *
  have HL := Lib.hid hl
  clear hl
  have kq := Lib.run_eql_slice_nil (P := Try.prog) w 33 64 (some a) n c 0 0 Try.underlying33
  go_enter Try.func23, Try.ntmps23
  go_wp2_with (at_builtin; with_reducible refine stop_appendT (.tmp 5) (.tmp 6) 33 rfl ?_)
  refine wpList_append_tb rfl (.tmp 5) (.tmp 6) 33 rfl 64 (.agg #[.int .i64 0, .int .i64 0, .int .i64 0, .int .i64 0]) 32 w.heap.size elt_cloneN_any rfl (.slice (some ⟨w.heap.size, 0, none⟩) 0 0) (.slice (some a) n c) [] xs rfl rfl HM.out (HR.out.kept HB.out) (by have := HL.out; have := HN.out; simp; omega) (by have := HL.out; have := HN.out; simp; omega) HB.out.size xs n (List.nil_append _) HL.out ?_
  intro p' c' w' ho _ hb
  have HO := Lib.hid ho
  have HB2 := Lib.hid (HB.out.trans hb)
  clear ho hb
  go_wp2_with fail
  go_ret
  exact ⟨_, rfl, HO.out, HB2.out⟩
set_option linter.unusedSimpArgs false in
set_option maxHeartbeats 4000000 in
set_option maxRecDepth 100000 in
theorem clone64_any (w : World) (v : Value) (xs : List Int) (hr : Row .i64 w v xs) (hn : xs.length * 8 ≤ 140737488355000) :
  Calls Try.prog 24 #[v] w fun e w' => ∃ v', e = .returned v' ∧ Own .i64 w' w.heap.size 2 v' xs ∧ Below w.heap.size w w' := by
 obtain ⟨p, c, rfl⟩ := hr.shape
 cases p with
 | none =>
  have hx : xs = [] := by
   obtain ⟨p', c', e1, _, h⟩ := hr
   cases e1
   rcases h with h | ⟨b, o, h, _⟩
   ·exact h
   ·cases h
  subst hx
  clear hr
  have kq := Lib.run_eql_slice_nil (P := Try.prog) w 34 2 none 0 c 0 0 Try.underlying34
  simp only [List.length_nil]
  go_enter Try.func24, Try.ntmps24
  go_wp2
  go_ret
  exact ⟨_, rfl, Own.nil_ _ _ _ _, Below.refl _ _⟩
 | some a =>
  have HR := Lib.hid hr
  have HM := Lib.hid (Own.made .i64 w w.heap.size 2 (Nat.le_refl _))
  have HB := Lib.hid (oneB w (.cells #[] 2))
  have HN := Lib.hid hn
  clear hr hn
  generalize hl : xs.length = n at *
  have HL := Lib.hid hl
  clear hl
  have kq := Lib.run_eql_slice_nil (P := Try.prog) w 34 2 (some a) n c 0 0 Try.underlying34
  go_enter Try.func24, Try.ntmps24
  go_wp2_with (at_builtin; with_reducible refine stop_appendT (.tmp 5) (.tmp 6) 34 rfl ?_)
  refine wpList_append_row rfl (.tmp 5) (.tmp 6) 34 rfl 2 .i64 8 w.heap.size elt64M (.slice (some ⟨w.heap.size, 0, none⟩) 0 0) (.slice (some a) n c) [] xs rfl rfl HM.out (HR.out.kept HB.out) (by have := HL.out; have := HN.out; simp; omega) (by have := HL.out; have := HN.out; simp; omega) HB.out.size xs n (List.nil_append _) HL.out ?_
  intro p' c' w' ho hb
  have HO := Lib.hid ho
  have HB2 := Lib.hid (HB.out.trans hb)
  clear ho hb
  go_wp2_with fail
  go_ret
  exact ⟨_, rfl, HO.out, HB2.out⟩
end Go.Proofs.Yteogdfpkcoodlaa
namespace Go.Proofs.Yteogdfpkcoodlaa
open Go.RowKit
set_option linter.unusedSimpArgs false
/-- Something that is said to the entities from 0 on. -/
def toAllL (N : Nat) (m : Msg) : List (Int × Msg) := (List.range N).map (fun (i : Nat) => ((i : Int), m))
theorem toAllL_succ (k : Nat) (m : Msg) : toAllL (k + 1) m = toAllL k m ++ [((k : Int), m)] := by
 unfold toAllL
 rw [List.range_succ, List.map_append]
 rfl
theorem toAllL_len (k : Nat) (m : Msg) : (toAllL k m).length = k := by unfold toAllL; simp
def AllR (W : World) (m : Msg) (k : Nat) (v : Value) (wr : World) : Prop := ∃ xs : List SdX, OwnT encS wr W.heap.size 47 v xs ∧ (∀ z ∈ xs, z.x.InF (fun b => W.heap.size ≤ b ∧ v.ownBlock ≠ some b) wr) ∧ xs.map (fun z => (z.tw, z.x.m)) = toAllL k m ∧ Below W.heap.size W wr
theorem AllR.form {W wr : World} {m : Msg} {k : Nat} {v : Value} (h : AllR W m k v wr) : ∃ p c, v = .slice p k c := by
 obtain ⟨xs, h1, _, h3, _⟩ := h
 obtain ⟨p, c, rfl⟩ := h1.form
 have := congrArg List.length h3
 rw [List.length_map, toAllL_len] at this
 exact ⟨p, c, by rw [this]⟩
set_option linter.unusedSimpArgs false in
set_option maxHeartbeats 4000000 in
set_option maxRecDepth 100000 in
theorem toAll_any (w : World) (N : Nat) (p : Option Addr) (n c : Nat) (y : MsgX) (P : Nat → Prop) (h8 : N ≤ 8) (hy : y.InP P w) :
  Calls Try.prog 56 #[.agg #[.int .i64 (N : Int), .slice p n c], y.m.v (.slice y.pl y.m.ls.length y.cl) (.slice y.pn y.m.ns.length y.cn)] w fun e w' => ∃ p' c', e = .returned (.slice p' N c') ∧ SaidL w' w.heap.size (.slice p' N c') (toAllL N y.m) ∧ Below w.heap.size w w' := by
 have HY := Lib.hid hy
 have HNN : Hid (N ≤ 8) := Lib.hid h8
 clear hy h8
 unfold Msg.v
 have HB0 : Hid (Below w.heap.size w ((w.alloc (.cells #[.int .i64 (N : Int), .slice p n c] 27)).alloc (.cells #[.int .i64 y.m.k, .int .i64 y.m.s, .int .i64 y.m.n, .int .i64 y.m.b, .int .i64 y.m.c, .int .i64 y.m.r, .int .i64 y.m.y, .int .i64 y.m.a, .bool y.m.t, .slice y.pl y.m.ls.length y.cl, .slice y.pn y.m.ns.length y.cn] 36))) := Lib.hid (((oneB w _).alloc (by simp <;> omega) _))
 have Hc0 : Hid (Blk ((w.alloc (.cells #[.int .i64 (N : Int), .slice p n c] 27)).alloc (.cells #[.int .i64 y.m.k, .int .i64 y.m.s, .int .i64 y.m.n, .int .i64 y.m.b, .int .i64 y.m.c, .int .i64 y.m.r, .int .i64 y.m.y, .int .i64 y.m.a, .bool y.m.t, .slice y.pl y.m.ls.length y.cl, .slice y.pn y.m.ns.length y.cn] 36)) w.heap.size #[.int .i64 (N : Int), .slice p n c] 27) := Lib.hid ((Blk.new w #[.int .i64 (N : Int), .slice p n c] 27).alloc _)
 have Hm0 : Hid (Blk ((w.alloc (.cells #[.int .i64 (N : Int), .slice p n c] 27)).alloc (.cells #[.int .i64 y.m.k, .int .i64 y.m.s, .int .i64 y.m.n, .int .i64 y.m.b, .int .i64 y.m.c, .int .i64 y.m.r, .int .i64 y.m.y, .int .i64 y.m.a, .bool y.m.t, .slice y.pl y.m.ls.length y.cl, .slice y.pn y.m.ns.length y.cn] 36)) (w.heap.size + 1) #[.int .i64 y.m.k, .int .i64 y.m.s, .int .i64 y.m.n, .int .i64 y.m.b, .int .i64 y.m.c, .int .i64 y.m.r, .int .i64 y.m.y, .int .i64 y.m.a, .bool y.m.t, .slice y.pl y.m.ls.length y.cl, .slice y.pn y.m.ns.length y.cn] 36) := Lib.hid (Blk.new' (w.alloc (.cells #[.int .i64 (N : Int), .slice p n c] 27)) #[.int .i64 y.m.k, .int .i64 y.m.s, .int .i64 y.m.n, .int .i64 y.m.b, .int .i64 y.m.c, .int .i64 y.m.r, .int .i64 y.m.y, .int .i64 y.m.a, .bool y.m.t, .slice y.pl y.m.ls.length y.cl, .slice y.pn y.m.ns.length y.cn] 36 (by simp))
 have HZ0 : Hid (w.heap.size ≤ ((w.alloc (.cells #[.int .i64 (N : Int), .slice p n c] 27)).alloc (.cells #[.int .i64 y.m.k, .int .i64 y.m.s, .int .i64 y.m.n, .int .i64 y.m.b, .int .i64 y.m.c, .int .i64 y.m.r, .int .i64 y.m.y, .int .i64 y.m.a, .bool y.m.t, .slice y.pl y.m.ls.length y.cl, .slice y.pn y.m.ns.length y.cn] 36)).heap.size) := Lib.hid HB0.out.size
 go_enter Try.func56, Try.ntmps56
 go_upto_region 2 with fail
 generalize ((w.alloc (.cells #[.int .i64 (N : Int), .slice p n c] 27)).alloc (.cells #[.int .i64 y.m.k, .int .i64 y.m.s, .int .i64 y.m.n, .int .i64 y.m.b, .int .i64 y.m.c, .int .i64 y.m.r, .int .i64 y.m.y, .int .i64 y.m.a, .bool y.m.t, .slice y.pl y.m.ls.length y.cl, .slice y.pn y.m.ns.length y.cn] 36)) = W at *
 have HYW := Lib.hid (HY.out.kept HB0.out)
 clear HY
 have HG := Lib.hid (entities_any W (N : Int) p n c (by omega) (by have := HNN.out; omega))
 have a0 : W.cell? ⟨w.heap.size, 0, none⟩ = some (.int .i64 (N : Int)) := Hc0.out.cell 0
 have a1 : W.cell? ⟨w.heap.size, 1, none⟩ = some (.slice p n c) := Hc0.out.cell 1
 go_wp2_with fail
 clear a0 a1
 refine HG.out.mono ?_
 rintro y9 w1 ⟨rfl, hb⟩
 clear HG
 have hb9 := hb
 have Hc1 := kbq Hc0 hb
 have Hm1 := kbq Hm0 hb
 have HB1 := ktq HB0 hb
 have HZ1 := kzq HZ0 hb.size
 clear Hc0 Hm0 HB0 HZ0
 clear hb
 have HYY := Lib.hid (HYW.out.kept hb9)
 clear HYW hb9
 have HREL : Hid (AllR w1 y.m 0 (.slice none 0 0) w1) := ⟨[], OwnT.nil_ _ _ _ _, (fun _ h => by cases h), rfl, Below.refl _ _⟩
 have HML := Lib.hid Hm1.out.lt
 go_wp2_with fail
 go_loopw [5, 10] (fun v i wr => ∃ k : Nat, k ≤ N ∧ i = .int .i64 k ∧ Hid (AllR w1 y.m k v wr)) (fun _ i _ => N - (intOf i).toNat)
 case atStart => exact ⟨0, by omega, rfl, HREL⟩
 case round =>
  clear HREL
  obtain ⟨k, hk, rfl, HK⟩ := hrel
  have hk9 : k + 1 ≤ 9 := by have := HNN.out; omega
  obtain ⟨pz, cz, hvz⟩ := HK.out.form
  subst hvz
  by_cases hlt : k < N
  ·have hltI : (k : Int) < (N : Int) := by omega
   have HBK := Lib.hid (by obtain ⟨_, _, _, _, h⟩ := HK.out; exact h : Below w1.heap.size w1 wr)
   have Hm0 := Lib.hid (Hm1.out.below HBK.out Hm1.out.lt)
   have HB0 := Lib.hid (Below.refl wr.heap.size wr)
   have HZ0 : Hid (wr.heap.size ≤ wr.heap.size) := Lib.hid (Nat.le_refl _)
   have HGM : Hid (w.heap.size + 1 < wr.heap.size) := Lib.hid Hm0.out.lt
   have HYR := Lib.hid (HYY.out.kept HBK.out)
   have c0 : wr.cell? ⟨(w.heap.size + 1), 0, none⟩ = some (.int .i64 y.m.k) := Hm0.out.cell 0
   have c1 : wr.cell? ⟨(w.heap.size + 1), 1, none⟩ = some (.int .i64 y.m.s) := Hm0.out.cell 1
   have c2 : wr.cell? ⟨(w.heap.size + 1), 2, none⟩ = some (.int .i64 y.m.n) := Hm0.out.cell 2
   have c3 : wr.cell? ⟨(w.heap.size + 1), 3, none⟩ = some (.int .i64 y.m.b) := Hm0.out.cell 3
   have c4 : wr.cell? ⟨(w.heap.size + 1), 4, none⟩ = some (.int .i64 y.m.c) := Hm0.out.cell 4
   have c5 : wr.cell? ⟨(w.heap.size + 1), 5, none⟩ = some (.int .i64 y.m.r) := Hm0.out.cell 5
   have c6 : wr.cell? ⟨(w.heap.size + 1), 6, none⟩ = some (.int .i64 y.m.y) := Hm0.out.cell 6
   have c7 : wr.cell? ⟨(w.heap.size + 1), 7, none⟩ = some (.int .i64 y.m.a) := Hm0.out.cell 7
   have c8 : wr.cell? ⟨(w.heap.size + 1), 8, none⟩ = some (.bool y.m.t) := Hm0.out.cell 8
   have c9 : wr.cell? ⟨(w.heap.size + 1), 9, none⟩ = some (.slice y.pl y.m.ls.length y.cl) := Hm0.out.cell 9
   have c10 : wr.cell? ⟨(w.heap.size + 1), 10, none⟩ = some (.slice y.pn y.m.ns.length y.cn) := Hm0.out.cell 10
   have hba := oneB wr (.cells #[.int .i64 y.m.k, .int .i64 y.m.s, .int .i64 y.m.n, .int .i64 y.m.b, .int .i64 y.m.c, .int .i64 y.m.r, .int .i64 y.m.y, .int .i64 y.m.a, .bool y.m.t, .slice y.pl y.m.ls.length y.cl, .slice y.pn y.m.ns.length y.cn] 36)
   have Hm1 := kbq Hm0 hba
   have Ho1 := Lib.hid (Blk.new wr #[.int .i64 y.m.k, .int .i64 y.m.s, .int .i64 y.m.n, .int .i64 y.m.b, .int .i64 y.m.c, .int .i64 y.m.r, .int .i64 y.m.y, .int .i64 y.m.a, .bool y.m.t, .slice y.pl y.m.ls.length y.cl, .slice y.pn y.m.ns.length y.cn] 36)
   have HB1 := Lib.hid (HB0.out.alloc HB0.out.size (.cells #[.int .i64 y.m.k, .int .i64 y.m.s, .int .i64 y.m.n, .int .i64 y.m.b, .int .i64 y.m.c, .int .i64 y.m.r, .int .i64 y.m.y, .int .i64 y.m.a, .bool y.m.t, .slice y.pl y.m.ls.length y.cl, .slice y.pn y.m.ns.length y.cn] 36))
   have HZ1 := kzq HZ0 hba.size
   have HGgo : Hid (wr.heap.size ≤ wr.heap.size) := Lib.hid HB0.out.size
   clear hba Hm0 HB0 HZ0
   go_upto_region 6 with fail
   clear c0 c1 c2 c3 c4 c5 c6 c7 c8 c9 c10 hltI
   generalize (wr.alloc (.cells #[.int .i64 y.m.k, .int .i64 y.m.s, .int .i64 y.m.n, .int .i64 y.m.b, .int .i64 y.m.c, .int .i64 y.m.r, .int .i64 y.m.y, .int .i64 y.m.a, .bool y.m.t, .slice y.pl y.m.ls.length y.cl, .slice y.pn y.m.ns.length y.cn] 36)) = W2 at *
   have hbd := (Below.refl W2.heap.size W2).drew
   have Hm2 := kbq Hm1 hbd
   have Ho2 := kbq Ho1 hbd
   have HB2 := ktq HB1 hbd
   have HZ2 := kzq HZ1 hbd.size
   clear Hm1 Ho1 HB1 HZ1
   have hS1 : W2.drew.cell? ⟨w.heap.size + 1, 0, none⟩ = some (.int .i64 y.m.k) ∧ W2.drew.cell? ⟨w.heap.size + 1, 1, none⟩ = some (.int .i64 y.m.s) ∧ W2.drew.cell? ⟨w.heap.size + 1, 2, none⟩ = some (.int .i64 y.m.n) ∧ W2.drew.cell? ⟨w.heap.size + 1, 3, none⟩ = some (.int .i64 y.m.b) ∧ W2.drew.cell? ⟨w.heap.size + 1, 4, none⟩ = some (.int .i64 y.m.c) ∧ W2.drew.cell? ⟨w.heap.size + 1, 5, none⟩ = some (.int .i64 y.m.r) ∧ W2.drew.cell? ⟨w.heap.size + 1, 6, none⟩ = some (.int .i64 y.m.y) ∧ W2.drew.cell? ⟨w.heap.size + 1, 7, none⟩ = some (.int .i64 y.m.a) ∧ W2.drew.cell? ⟨w.heap.size + 1, 8, none⟩ = some (.bool y.m.t) ∧ W2.drew.cell? ⟨w.heap.size + 1, 9, none⟩ = some (.slice y.pl y.m.ls.length y.cl) ∧ W2.drew.cell? ⟨w.heap.size + 1, 10, none⟩ = some (.slice y.pn y.m.ns.length y.cn) := ⟨Hm2.out.cell 0, Hm2.out.cell 1, Hm2.out.cell 2, Hm2.out.cell 3, Hm2.out.cell 4, Hm2.out.cell 5, Hm2.out.cell 6, Hm2.out.cell 7, Hm2.out.cell 8, Hm2.out.cell 9, Hm2.out.cell 10⟩
   have HWD : Hid (wr.heap.size < W2.drew.heap.size) := Lib.hid Ho2.out.lt
   refine wp_region_held_drew (S := fun w' => w'.cell? ⟨w.heap.size + 1, 0, none⟩ = some (.int .i64 y.m.k) ∧ w'.cell? ⟨w.heap.size + 1, 1, none⟩ = some (.int .i64 y.m.s) ∧ w'.cell? ⟨w.heap.size + 1, 2, none⟩ = some (.int .i64 y.m.n) ∧ w'.cell? ⟨w.heap.size + 1, 3, none⟩ = some (.int .i64 y.m.b) ∧ w'.cell? ⟨w.heap.size + 1, 4, none⟩ = some (.int .i64 y.m.c) ∧ w'.cell? ⟨w.heap.size + 1, 5, none⟩ = some (.int .i64 y.m.r) ∧ w'.cell? ⟨w.heap.size + 1, 6, none⟩ = some (.int .i64 y.m.y) ∧ w'.cell? ⟨w.heap.size + 1, 7, none⟩ = some (.int .i64 y.m.a) ∧ w'.cell? ⟨w.heap.size + 1, 8, none⟩ = some (.bool y.m.t) ∧ w'.cell? ⟨w.heap.size + 1, 9, none⟩ = some (.slice y.pl y.m.ls.length y.cl) ∧ w'.cell? ⟨w.heap.size + 1, 10, none⟩ = some (.slice y.pn y.m.ns.length y.cn)) (by kernel_rfl) hS1 (fun hS0 => ?_)
   clear hS1
   generalize W2.drew = WD at *
   clear hbd
   refine tkq 0 ?_
   refine tkq 1 ?_
   refine tkq 3 ?_
   refine tkq 4 ?_
   refine rdq 2 (fun K hK => ?_)
   have HG := Lib.hid (cloneN_any WD (.slice y.pl y.m.ls.length y.cl) y.m.ls (HYR.out.kept HB2.out).ls (by have := HYR.out.sz.1; omega))
   go_simp
   go_at_call 23
   refine HG.out.mono ?_
   rintro y9 w3 ⟨v3, rfl, ho, hb⟩
   clear HG
   have HLE3 : Hid (WD.heap.size ≤ w3.heap.size) := Lib.hid hb.size
   have HOL := Lib.hid ho
   clear ho
   have Hm3 := kbq Hm2 hb
   have Ho3 := kbq Ho2 hb
   have HB3 := ktq HB2 hb
   have HZ3 := kzq HZ2 hb.size
   clear Hm2 Ho2 HB2 HZ2
   clear hb hS0
   obtain ⟨p3, c3, hv3⟩ := HOL.out.form
   generalize hl3 : y.m.ls.length = l3 at hv3
   subst hv3
   subst hl3
   try go_wp2_with fail
   refine hK.out _ _ ⟨Hm3.out.cell 0, Hm3.out.cell 1, Hm3.out.cell 2, Hm3.out.cell 3, Hm3.out.cell 4, Hm3.out.cell 5, Hm3.out.cell 6, Hm3.out.cell 7, Hm3.out.cell 8, Hm3.out.cell 9, Hm3.out.cell 10⟩ (fun hS0 => ?_)
   clear hK K
   try simp only [Act.put, List.getElem_toArray, List.getElem_cons_succ, List.getElem_cons_zero, List.setIfInBounds_toArray, List.set_cons_zero, List.set_cons_succ]
   refine tkq 6 ?_
   refine rdq 5 (fun K hK => ?_)
   have HG := Lib.hid (clone64_any w3 (.slice y.pn y.m.ns.length y.cn) y.m.ns (HYR.out.kept HB3.out).ns (by have := HYR.out.sz.2; omega))
   go_simp
   go_at_call 24
   refine HG.out.mono ?_
   rintro y9 w4 ⟨v4, rfl, ho, hb⟩
   clear HG
   have HW3 : Hid (WD.heap.size ≤ w3.heap.size) := Lib.hid HLE3.out
   have HON := Lib.hid ho
   have HOL2 := Lib.hid (HOL.out.later hb)
   clear ho HOL
   have Hm4 := kbq Hm3 hb
   have Ho4 := kbq Ho3 hb
   have HB4 := ktq HB3 hb
   have HZ4 := kzq HZ3 hb.size
   clear Hm3 Ho3 HB3 HZ3
   clear hb hS0
   obtain ⟨p4, c4, hv4⟩ := HON.out.form
   generalize hl4 : y.m.ns.length = l4 at hv4
   subst hv4
   subst hl4
   try go_wp2_with fail
   refine hK.out _ _ ⟨Hm4.out.cell 0, Hm4.out.cell 1, Hm4.out.cell 2, Hm4.out.cell 3, Hm4.out.cell 4, Hm4.out.cell 5, Hm4.out.cell 6, Hm4.out.cell 7, Hm4.out.cell 8, Hm4.out.cell 9, Hm4.out.cell 10⟩ (fun hS0 => ?_)
   clear hK K
   try simp only [Act.put, List.getElem_toArray, List.getElem_cons_succ, List.getElem_cons_zero, List.setIfInBounds_toArray, List.set_cons_zero, List.set_cons_succ]
   refine rdq 7 (fun K hK => ?_)
   have z0 : w4.cell? ⟨wr.heap.size, 0, none⟩ = some (.int .i64 y.m.k) := Ho4.out.cell 0
   have z1 : w4.cell? ⟨wr.heap.size, 1, none⟩ = some (.int .i64 y.m.s) := Ho4.out.cell 1
   have z2 : w4.cell? ⟨wr.heap.size, 2, none⟩ = some (.int .i64 y.m.n) := Ho4.out.cell 2
   have z3 : w4.cell? ⟨wr.heap.size, 3, none⟩ = some (.int .i64 y.m.b) := Ho4.out.cell 3
   have z4 : w4.cell? ⟨wr.heap.size, 4, none⟩ = some (.int .i64 y.m.c) := Ho4.out.cell 4
   have z5 : w4.cell? ⟨wr.heap.size, 5, none⟩ = some (.int .i64 y.m.r) := Ho4.out.cell 5
   have z6 : w4.cell? ⟨wr.heap.size, 6, none⟩ = some (.int .i64 y.m.y) := Ho4.out.cell 6
   have z7 : w4.cell? ⟨wr.heap.size, 7, none⟩ = some (.int .i64 y.m.a) := Ho4.out.cell 7
   have z8 : w4.cell? ⟨wr.heap.size, 8, none⟩ = some (.bool y.m.t) := Ho4.out.cell 8
   have z9 : w4.cell? ⟨wr.heap.size, 9, none⟩ = some (.slice y.pl y.m.ls.length y.cl) := Ho4.out.cell 9
   have z10 : w4.cell? ⟨wr.heap.size, 10, none⟩ = some (.slice y.pn y.m.ns.length y.cn) := Ho4.out.cell 10
   have f0 := Ho4.out.free 0
   have f1 := Ho4.out.free 1
   have f2 := Ho4.out.free 2
   have f3 := Ho4.out.free 3
   have f4 := Ho4.out.free 4
   have f5 := Ho4.out.free 5
   have f6 := Ho4.out.free 6
   have f7 := Ho4.out.free 7
   have f8 := Ho4.out.free 8
   have f9 := Ho4.out.free 9
   have f10 := Ho4.out.free 10
   go_simp
   clear z0 f0 z1 f1 z2 f2 z3 f3 z4 f4 z5 f5 z6 f6 z7 f7 z8 f8 z9 f9 z10 f10
   have hch := Lib.hid ((Chg.refl wr.heap.size w4).set 9 (.slice p3 y.m.ls.length c3))
   have Ho5 : Hid (Blk _ wr.heap.size #[.int .i64 y.m.k, .int .i64 y.m.s, .int .i64 y.m.n, .int .i64 y.m.b, .int .i64 y.m.c, .int .i64 y.m.r, .int .i64 y.m.y, .int .i64 y.m.a, .bool y.m.t, .slice p3 y.m.ls.length c3, .slice y.pn y.m.ns.length y.cn] 36) := Lib.hid (Ho4.out.set 9 (.slice p3 y.m.ls.length c3))
   have HB5 := ksq HB4 hch (by show wr.heap.size ≤ wr.heap.size; have := HGM.out; omega)
   have HZ5 := kzq HZ4 hch.out.size
   have Hm5 := kcq Hm4 hch (by have := HGM.out; omega)
   have HOL2 := Lib.hid (HOL2.out.stay (fun g hg => hch.out.2 g (HOL2.out.lt g hg) (by have h1 := HOL2.out.block_ge g hg; have := HWD.out; omega)))
   have HON := Lib.hid (HON.out.stayV (fun g hg => hch.out.2 g (World.ownsRow.lt HON.out g hg).2 (by have h1 := (World.ownsRow.lt HON.out g hg).1; have := HWD.out; have := HW3.out; omega)))
   clear hch hS0 Hm4 Ho4 HB4 HZ4
   generalize (w4.setCell ⟨wr.heap.size, 9, none⟩ (.slice p3 y.m.ls.length c3)) = W5 at *
   refine hK.out _ _ ⟨Hm5.out.cell 0, Hm5.out.cell 1, Hm5.out.cell 2, Hm5.out.cell 3, Hm5.out.cell 4, Hm5.out.cell 5, Hm5.out.cell 6, Hm5.out.cell 7, Hm5.out.cell 8, Hm5.out.cell 9, Hm5.out.cell 10⟩ (fun hS0 => ?_)
   clear hK K
   try simp only [Act.put, List.getElem_toArray, List.getElem_cons_succ, List.getElem_cons_zero, List.setIfInBounds_toArray, List.set_cons_zero, List.set_cons_succ]
   refine tkq 8 ?_
   refine rdq 9 (fun K hK => ?_)
   have z0 : W5.cell? ⟨wr.heap.size, 0, none⟩ = some (.int .i64 y.m.k) := Ho5.out.cell 0
   have z1 : W5.cell? ⟨wr.heap.size, 1, none⟩ = some (.int .i64 y.m.s) := Ho5.out.cell 1
   have z2 : W5.cell? ⟨wr.heap.size, 2, none⟩ = some (.int .i64 y.m.n) := Ho5.out.cell 2
   have z3 : W5.cell? ⟨wr.heap.size, 3, none⟩ = some (.int .i64 y.m.b) := Ho5.out.cell 3
   have z4 : W5.cell? ⟨wr.heap.size, 4, none⟩ = some (.int .i64 y.m.c) := Ho5.out.cell 4
   have z5 : W5.cell? ⟨wr.heap.size, 5, none⟩ = some (.int .i64 y.m.r) := Ho5.out.cell 5
   have z6 : W5.cell? ⟨wr.heap.size, 6, none⟩ = some (.int .i64 y.m.y) := Ho5.out.cell 6
   have z7 : W5.cell? ⟨wr.heap.size, 7, none⟩ = some (.int .i64 y.m.a) := Ho5.out.cell 7
   have z8 : W5.cell? ⟨wr.heap.size, 8, none⟩ = some (.bool y.m.t) := Ho5.out.cell 8
   have z9 : W5.cell? ⟨wr.heap.size, 9, none⟩ = some (.slice p3 y.m.ls.length c3) := Ho5.out.cell 9
   have z10 : W5.cell? ⟨wr.heap.size, 10, none⟩ = some (.slice y.pn y.m.ns.length y.cn) := Ho5.out.cell 10
   have f0 := Ho5.out.free 0
   have f1 := Ho5.out.free 1
   have f2 := Ho5.out.free 2
   have f3 := Ho5.out.free 3
   have f4 := Ho5.out.free 4
   have f5 := Ho5.out.free 5
   have f6 := Ho5.out.free 6
   have f7 := Ho5.out.free 7
   have f8 := Ho5.out.free 8
   have f9 := Ho5.out.free 9
   have f10 := Ho5.out.free 10
   go_simp
   clear z0 f0 z1 f1 z2 f2 z3 f3 z4 f4 z5 f5 z6 f6 z7 f7 z8 f8 z9 f9 z10 f10
   have hch := Lib.hid ((Chg.refl wr.heap.size W5).set 10 (.slice p4 y.m.ns.length c4))
   have Ho6 : Hid (Blk _ wr.heap.size #[.int .i64 y.m.k, .int .i64 y.m.s, .int .i64 y.m.n, .int .i64 y.m.b, .int .i64 y.m.c, .int .i64 y.m.r, .int .i64 y.m.y, .int .i64 y.m.a, .bool y.m.t, .slice p3 y.m.ls.length c3, .slice p4 y.m.ns.length c4] 36) := Lib.hid (Ho5.out.set 10 (.slice p4 y.m.ns.length c4))
   have HB6 := ksq HB5 hch (by show wr.heap.size ≤ wr.heap.size; have := HGM.out; omega)
   have HZ6 := kzq HZ5 hch.out.size
   have Hm6 := kcq Hm5 hch (by have := HGM.out; omega)
   have HOL2 := Lib.hid (HOL2.out.stay (fun g hg => hch.out.2 g (HOL2.out.lt g hg) (by have h1 := HOL2.out.block_ge g hg; have := HWD.out; omega)))
   have HON := Lib.hid (HON.out.stayV (fun g hg => hch.out.2 g (World.ownsRow.lt HON.out g hg).2 (by have h1 := (World.ownsRow.lt HON.out g hg).1; have := HWD.out; have := HW3.out; omega)))
   clear hch hS0 Hm5 Ho5 HB5 HZ5
   generalize (W5.setCell ⟨wr.heap.size, 10, none⟩ (.slice p4 y.m.ns.length c4)) = W6 at *
   refine hK.out _ _ ⟨Hm6.out.cell 0, Hm6.out.cell 1, Hm6.out.cell 2, Hm6.out.cell 3, Hm6.out.cell 4, Hm6.out.cell 5, Hm6.out.cell 6, Hm6.out.cell 7, Hm6.out.cell 8, Hm6.out.cell 9, Hm6.out.cell 10⟩ (fun hS0 => ?_)
   clear hK K
   try simp only [Act.put, List.getElem_toArray, List.getElem_cons_succ, List.getElem_cons_zero, List.setIfInBounds_toArray, List.set_cons_zero, List.set_cons_succ]
   refine wpAnyH_done (by kernel_rfl) ?_ _
   clear hS0
   have q0 : W6.cell? ⟨wr.heap.size, 0, none⟩ = some (.int .i64 y.m.k) := Ho6.out.cell 0
   have q1 : W6.cell? ⟨wr.heap.size, 1, none⟩ = some (.int .i64 y.m.s) := Ho6.out.cell 1
   have q2 : W6.cell? ⟨wr.heap.size, 2, none⟩ = some (.int .i64 y.m.n) := Ho6.out.cell 2
   have q3 : W6.cell? ⟨wr.heap.size, 3, none⟩ = some (.int .i64 y.m.b) := Ho6.out.cell 3
   have q4 : W6.cell? ⟨wr.heap.size, 4, none⟩ = some (.int .i64 y.m.c) := Ho6.out.cell 4
   have q5 : W6.cell? ⟨wr.heap.size, 5, none⟩ = some (.int .i64 y.m.r) := Ho6.out.cell 5
   have q6 : W6.cell? ⟨wr.heap.size, 6, none⟩ = some (.int .i64 y.m.y) := Ho6.out.cell 6
   have q7 : W6.cell? ⟨wr.heap.size, 7, none⟩ = some (.int .i64 y.m.a) := Ho6.out.cell 7
   have q8 : W6.cell? ⟨wr.heap.size, 8, none⟩ = some (.bool y.m.t) := Ho6.out.cell 8
   have q9 : W6.cell? ⟨wr.heap.size, 9, none⟩ = some (.slice p3 y.m.ls.length c3) := Ho6.out.cell 9
   have q10 : W6.cell? ⟨wr.heap.size, 10, none⟩ = some (.slice p4 y.m.ns.length c4) := Ho6.out.cell 10
   obtain ⟨xs, hk1, hk2, hk3, hk4⟩ := HK.out
   have HBZ := Lib.hid (oneB W6 (.cells #[.int .i64 (k : Int), .int .i64 y.m.k, .int .i64 y.m.s, .int .i64 y.m.n, .int .i64 y.m.b, .int .i64 y.m.c, .int .i64 y.m.r, .int .i64 y.m.y, .int .i64 y.m.a, .bool y.m.t, .slice p3 y.m.ls.length c3, .slice p4 y.m.ns.length c4] 47))
   have HXS := Lib.hid ((hk1.later HB6.out).later HBZ.out)
   have HXL : Hid (xs.length = k) := Lib.hid (by have := congrArg List.length hk3; rw [List.length_map, toAllL_len] at this; exact this)
   have HXI : Hid (∀ z ∈ xs, z.x.InF (fun b => w1.heap.size ≤ b ∧ (Value.slice pz k cz).ownBlock ≠ some b) (W6.alloc (.cells #[.int .i64 (k : Int), .int .i64 y.m.k, .int .i64 y.m.s, .int .i64 y.m.n, .int .i64 y.m.b, .int .i64 y.m.c, .int .i64 y.m.r, .int .i64 y.m.y, .int .i64 y.m.a, .bool y.m.t, .slice p3 y.m.ls.length c3, .slice p4 y.m.ns.length c4] 47))) := Lib.hid (fun z hz => ((hk2 z hz).kept HB6.out).kept HBZ.out)
   have HOW : Hid (∀ g, (Value.slice pz k cz).ownBlock = some g → g < wr.heap.size) := Lib.hid (fun g hg => hk1.lt g hg)
   have HXM := Lib.hid hk3
   have HROW := Lib.hid (TRow.one_ encS (⟨(k : Int), ⟨y.m, p3, c3, p4, c4⟩⟩ : SdX) (Blk.new W6 #[.int .i64 (k : Int), .int .i64 y.m.k, .int .i64 y.m.s, .int .i64 y.m.n, .int .i64 y.m.b, .int .i64 y.m.c, .int .i64 y.m.r, .int .i64 y.m.y, .int .i64 y.m.a, .bool y.m.t, .slice p3 y.m.ls.length c3, .slice p4 y.m.ns.length c4] 47) rfl (Nat.le_refl 1))
   have HW1 : Hid (w1.heap.size ≤ wr.heap.size) := Lib.hid hk4.size
   clear hk1 hk2 hk3 hk4
   go_wp2_with (at_builtin; with_reducible refine stop_appendT (.tmp 22) (.tmp 26) 39 rfl ?_)
   clear q0 q1 q2 q3 q4 q5 q6 q7 q8 q9 q10
   refine wpList_append_tg rfl (.tmp 22) (.tmp 26) 39 rfl 47 zeroVS 128 w1.heap.size eltS rfl (.slice pz k cz) (.slice (some ⟨W6.heap.size, 0, none⟩) 1 1) xs [(⟨(k : Int), ⟨y.m, p3, c3, p4, c4⟩⟩ : SdX)] rfl rfl HXS.out HROW.out (by have := HXL.out; have := HNN.out; simp; omega) (by have := HXL.out; have := HNN.out; simp; omega) (by have := HW1.out; have := HB6.out.size; have := HBZ.out.size; omega) (xs ++ [(⟨(k : Int), ⟨y.m, p3, c3, p4, c4⟩⟩ : SdX)]) (k + 1) rfl (by rw [List.length_append, HXL.out]; rfl) ?_
   intro p8 c8 w8 ho hg hor hb8
   have HNX : Hid (AllR w1 y.m (k + 1) (.slice p8 (k + 1) c8) w8) := by
    have hs8 : (W6.alloc (.cells #[.int .i64 (k : Int), .int .i64 y.m.k, .int .i64 y.m.s, .int .i64 y.m.n, .int .i64 y.m.b, .int .i64 y.m.c, .int .i64 y.m.r, .int .i64 y.m.y, .int .i64 y.m.a, .bool y.m.t, .slice p3 y.m.ls.length c3, .slice p4 y.m.ns.length c4] 47)).heap.size ≤ w8.heap.size := hb8.size
    have hsz := HBZ.out.size
    have hs6 := HB6.out.size
    have hw3 := HW3.out
    have hwd := HWD.out
    have hkp : KeepP (fun b => w1.heap.size ≤ b ∧ (Value.slice pz k cz).ownBlock ≠ some b) (W6.alloc (.cells #[.int .i64 (k : Int), .int .i64 y.m.k, .int .i64 y.m.s, .int .i64 y.m.n, .int .i64 y.m.b, .int .i64 y.m.c, .int .i64 y.m.r, .int .i64 y.m.y, .int .i64 y.m.a, .bool y.m.t, .slice p3 y.m.ls.length c3, .slice p4 y.m.ns.length c4] 47)) w8 := KeepP.of_grown hg hs8 (fun b hb h => hb.2 h.symm)
    have hne : ∀ b, b < (W6.alloc (.cells #[.int .i64 (k : Int), .int .i64 y.m.k, .int .i64 y.m.s, .int .i64 y.m.n, .int .i64 y.m.b, .int .i64 y.m.c, .int .i64 y.m.r, .int .i64 y.m.y, .int .i64 y.m.a, .bool y.m.t, .slice p3 y.m.ls.length c3, .slice p4 y.m.ns.length c4] 47)).heap.size → (w1.heap.size ≤ b ∧ (Value.slice pz k cz).ownBlock ≠ some b) → (w1.heap.size ≤ b ∧ (Value.slice p8 (k + 1) c8).ownBlock ≠ some b) := fun b hb h => ⟨h.1, by
     rcases hor with h1 | h1
     ·rw [h1]; exact h.2
     ·rw [h1]; intro h2; cases h2; omega⟩
    have hlt6 : ∀ b, wr.heap.size ≤ b → (w1.heap.size ≤ b ∧ (Value.slice pz k cz).ownBlock ≠ some b) := fun b hb => ⟨by have := HW1.out; omega, fun h => by have := HOW.out b h; omega⟩
    refine ⟨xs ++ [(⟨(k : Int), ⟨y.m, p3, c3, p4, c4⟩⟩ : SdX)], ho, fun q hq => ?_, ?_, ?_⟩
    ·rcases List.mem_append.1 hq with h | h
     ·exact (((HXI.out q h).mono (Q := fun b => b < (W6.alloc (.cells #[.int .i64 (k : Int), .int .i64 y.m.k, .int .i64 y.m.s, .int .i64 y.m.n, .int .i64 y.m.b, .int .i64 y.m.c, .int .i64 y.m.r, .int .i64 y.m.y, .int .i64 y.m.a, .bool y.m.t, .slice p3 y.m.ls.length c3, .slice p4 y.m.ns.length c4] 47)).heap.size ∧ (w1.heap.size ≤ b ∧ (Value.slice pz k cz).ownBlock ≠ some b)) (fun b h1 h2 => ⟨h1, h2⟩)).keepP (hkp.weak (fun b h => h.2))).mono (fun b _ h => hne b h.1 h.2)
     ·obtain rfl := List.mem_singleton.1 h
      have hin : ((⟨(k : Int), ⟨y.m, p3, c3, p4, c4⟩⟩ : SdX)).x.InF (fun b => b < (W6.alloc (.cells #[.int .i64 (k : Int), .int .i64 y.m.k, .int .i64 y.m.s, .int .i64 y.m.n, .int .i64 y.m.b, .int .i64 y.m.c, .int .i64 y.m.r, .int .i64 y.m.y, .int .i64 y.m.a, .bool y.m.t, .slice p3 y.m.ls.length c3, .slice p4 y.m.ns.length c4] 47)).heap.size ∧ (w1.heap.size ≤ b ∧ (Value.slice pz k cz).ownBlock ≠ some b)) (W6.alloc (.cells #[.int .i64 (k : Int), .int .i64 y.m.k, .int .i64 y.m.s, .int .i64 y.m.n, .int .i64 y.m.b, .int .i64 y.m.c, .int .i64 y.m.r, .int .i64 y.m.y, .int .i64 y.m.a, .bool y.m.t, .slice p3 y.m.ls.length c3, .slice p4 y.m.ns.length c4] 47)) :=
       ⟨⟨(HOL2.out.row.kept HBZ.out), (HON.out.row.kept HBZ.out), HOL2.out.at_lt.imp (fun b h => ⟨by omega, hlt6 b (by omega)⟩), HON.out.at_lt.imp (fun b h => ⟨by omega, hlt6 b (by omega)⟩), HYR.out.sz⟩, HOL2.out.fre.kept HBZ.out, HON.out.fre.kept HBZ.out⟩
      exact (hin.keepP (hkp.weak (fun b h => h.2))).mono (fun b _ h => hne b h.1 h.2)
    ·rw [List.map_append, HXM.out, toAllL_succ]; rfl
    ·exact (HBK.out.trans ((HB6.out.trans (HBZ.out.mono hs6)).mono HBK.out.size)).trans (hb8.mono (Nat.le_refl _))
   clear ho hg hor hb8 HXS HXL HXI HOW HXM HROW HW1 HBZ HOL2 HON
   go_wp2_with fail
   go_roundw
   case rel => exact ⟨k + 1, by omega, by go_num, HNX⟩
   case measure => simp [intOf]; omega
  ·have hltI : ¬ (k : Int) < (N : Int) := by omega
   obtain rfl : k = N := by omega
   have HE := Lib.hid HK.out
   go_wp2_with fail
   go_ret
   obtain ⟨xs, hk1, hk2, hk3, hk4⟩ := HE.out
   have hle : w.heap.size ≤ w1.heap.size := HZ1.out
   exact ⟨_, _, rfl, ⟨xs, hk1.less hle, fun z hz => (hk2 z hz).mono (fun b _ h => ⟨Nat.le_trans hle h.1, h.2⟩), hk3⟩, HB1.out.trans (hk4.mono hle)⟩
end Go.Proofs.Yteogdfpkcoodlaa
namespace Go.Proofs.Yteogdfpkcoodlaa
open Go.RowKit
set_option linter.unusedSimpArgs false
theorem At.ltT {α : Type} {e : Enc α} {P : Nat → Prop} {w : World} {v : Value} {xs : List α} (h : TRow e w v xs) (ha : At P v xs.length) : At (fun b => P b ∧ b < w.heap.size) v xs.length := fun b o n c e hn => ⟨ha b o n c e hn, by rw [e] at h; exact h.lt_ hn⟩
theorem At.ltR {k : IntKind} {P : Nat → Prop} {w : World} {v : Value} {xs : List Int} (h : Row k w v xs) (ha : At P v xs.length) : At (fun b => P b ∧ b < w.heap.size) v xs.length := fun b o n c e hn => ⟨ha b o n c e hn, by rw [e] at h; exact h.lt_ hn⟩
theorem HsR.lt {P : Nat → Prop} {w : World} {v : Value} {hs : List Hd} (h : HsR P w v hs) : HsR (fun b => P b ∧ b < w.heap.size) w v hs := by
 obtain ⟨xs, h1, h2, h3, h4⟩ := h
 exact ⟨xs, h1, h2.ltT h1, fun x hx => ⟨(h3 x hx).1, (h3 x hx).2.ltT (h3 x hx).1⟩, h4⟩
theorem RunX.In.lt {P : Nat → Prop} {w : World} {x : RunX} (h : x.In P w) : x.In (fun b => P b ∧ b < w.heap.size) w := ⟨h.hs.lt, h.ls, h.al.ltT h.ls, h.ns, h.an.ltR h.ns⟩
theorem RsR.lt {P : Nat → Prop} {w : World} {v : Value} {rs : List Rn} (h : RsR P w v rs) : RsR (fun b => P b ∧ b < w.heap.size) w v rs := by
 obtain ⟨xs, h1, h2, h3, h4⟩ := h
 exact ⟨xs, h1, h2.ltT h1, fun x hx => (h3 x hx).lt, h4⟩
/-- What an act answers: the cycles behind it, what is said, an error. -/
def CPost (w : World) (P : Nat → Prop) (N : Nat) (rs : List Rn) (out : List (Int × Msg)) (err : Int) : Ending → World → Prop := fun e w' => ∃ (p : Option Addr) (n c : Nat) (pv : Option Addr) (nv cv B : Nat), e = .returned (.tuple #[.agg #[.int .i64 (N : Int), .slice p n c], .slice pv nv cv, .int .i64 err]) ∧ n = rs.length ∧ nv = out.length ∧ w.heap.size ≤ B ∧ RsR (fun b => P b ∨ (w.heap.size ≤ b ∧ b < B)) w' (.slice p n c) rs ∧ SaidL w' B (.slice pv nv cv) out ∧ Below w.heap.size w w'
/-- A cycle in another state. -/
def Rn.to (r : Rn) (st : Int) : Rn := { r with st := st }
def RunX.to (x : RunX) (st : Int) : RunX := { x with r := x.r.to st }
theorem RunX.In.to {P : Nat → Prop} {w : World} {x : RunX} (h : x.In P w) (st : Int) : (x.to st).In P w := ⟨h.hs, h.ls, h.al, h.ns, h.an⟩
set_option linter.unusedSimpArgs false in
set_option maxHeartbeats 4000000 in
set_option maxRecDepth 100000 in
theorem cend_any (w : World) (P : Nat → Prop) (N : Nat) (k st : Int) (p : Option Addr) (n c : Nat) (rs : List Rn) (x : RunX) (hrs : RsR P w (.slice p n c) rs) (hpw : ∀ b, P b → b < w.heap.size) (hn : n = rs.length) (hl : n ≤ 2000) (hk1 : 1 ≤ k) (hk2 : k ≤ n) (hx : x.In P w) (h8 : N ≤ 8) :
  Calls Try.prog 50 #[.agg #[.int .i64 (N : Int), .slice p n c], .int .i64 k, x.v, .int .i64 st] w (CPost w P N (rs.set (k - 1).toNat (x.r.to st)) (toAllL N (decM k (x.r.to st))) 0) := by
 have HRS := Lib.hid (hrs.imp (Q := fun b => P b) (fun _ h => h))
 have HPW : Hid (∀ b, P b → b < w.heap.size) := Lib.hid hpw
 have HXI := Lib.hid hx
 have HNN : Hid (N ≤ 8) := Lib.hid h8
 have HKK : Hid (n = rs.length ∧ n ≤ 2000 ∧ 1 ≤ k ∧ k ≤ n) := Lib.hid ⟨hn, hl, hk1, hk2⟩
 clear hrs hpw hx h8 hn hl hk1 hk2
 unfold RunX.v
 have HB0 : Hid (Below w.heap.size w (((w.alloc (.cells #[.int .i64 (N : Int), .slice p n c] 27)).alloc (.cells #[.int .i64 x.r.cu, .int .i64 x.r.st, .slice x.pf x.r.hs.length x.cf, .slice x.pl x.r.ls.length x.cl, .slice x.pn x.r.ns.length x.cn] 56)).alloc (.cells #[.int .i64 0, .slice none 0 0] 27))) := Lib.hid ((((oneB w _).alloc (by simp <;> omega) _).alloc (by simp <;> omega) _))
 have Hc0 : Hid (Blk (((w.alloc (.cells #[.int .i64 (N : Int), .slice p n c] 27)).alloc (.cells #[.int .i64 x.r.cu, .int .i64 x.r.st, .slice x.pf x.r.hs.length x.cf, .slice x.pl x.r.ls.length x.cl, .slice x.pn x.r.ns.length x.cn] 56)).alloc (.cells #[.int .i64 0, .slice none 0 0] 27)) w.heap.size #[.int .i64 (N : Int), .slice p n c] 27) := Lib.hid (((Blk.new w #[.int .i64 (N : Int), .slice p n c] 27).alloc _).alloc _)
 have Hx0 : Hid (Blk (((w.alloc (.cells #[.int .i64 (N : Int), .slice p n c] 27)).alloc (.cells #[.int .i64 x.r.cu, .int .i64 x.r.st, .slice x.pf x.r.hs.length x.cf, .slice x.pl x.r.ls.length x.cl, .slice x.pn x.r.ns.length x.cn] 56)).alloc (.cells #[.int .i64 0, .slice none 0 0] 27)) (w.heap.size + 1) #[.int .i64 x.r.cu, .int .i64 x.r.st, .slice x.pf x.r.hs.length x.cf, .slice x.pl x.r.ls.length x.cl, .slice x.pn x.r.ns.length x.cn] 56) := Lib.hid ((Blk.new' (w.alloc (.cells #[.int .i64 (N : Int), .slice p n c] 27)) #[.int .i64 x.r.cu, .int .i64 x.r.st, .slice x.pf x.r.hs.length x.cf, .slice x.pl x.r.ls.length x.cl, .slice x.pn x.r.ns.length x.cn] 56 (by simp)).alloc _)
 have Hr0 : Hid (Blk (((w.alloc (.cells #[.int .i64 (N : Int), .slice p n c] 27)).alloc (.cells #[.int .i64 x.r.cu, .int .i64 x.r.st, .slice x.pf x.r.hs.length x.cf, .slice x.pl x.r.ls.length x.cl, .slice x.pn x.r.ns.length x.cn] 56)).alloc (.cells #[.int .i64 0, .slice none 0 0] 27)) (w.heap.size + 1 + 1) #[.int .i64 0, .slice none 0 0] 27) := Lib.hid (Blk.new' ((w.alloc (.cells #[.int .i64 (N : Int), .slice p n c] 27)).alloc (.cells #[.int .i64 x.r.cu, .int .i64 x.r.st, .slice x.pf x.r.hs.length x.cf, .slice x.pl x.r.ls.length x.cl, .slice x.pn x.r.ns.length x.cn] 56)) #[.int .i64 0, .slice none 0 0] 27 (by simp))
 have HZ0 : Hid (w.heap.size ≤ (((w.alloc (.cells #[.int .i64 (N : Int), .slice p n c] 27)).alloc (.cells #[.int .i64 x.r.cu, .int .i64 x.r.st, .slice x.pf x.r.hs.length x.cf, .slice x.pl x.r.ls.length x.cl, .slice x.pn x.r.ns.length x.cn] 56)).alloc (.cells #[.int .i64 0, .slice none 0 0] 27)).heap.size) := Lib.hid HB0.out.size
 go_enter Try.func50, Try.ntmps50
 go_upto_region 1 with fail
 generalize (((w.alloc (.cells #[.int .i64 (N : Int), .slice p n c] 27)).alloc (.cells #[.int .i64 x.r.cu, .int .i64 x.r.st, .slice x.pf x.r.hs.length x.cf, .slice x.pl x.r.ls.length x.cl, .slice x.pn x.r.ns.length x.cn] 56)).alloc (.cells #[.int .i64 0, .slice none 0 0] 27)) = W at *
 have HWL : Hid (w.heap.size + 1 + 1 < W.heap.size) := Lib.hid Hr0.out.lt
 have z1 : W.cell? ⟨w.heap.size + 1, 1, none⟩ = some (.int .i64 x.r.st) := Hx0.out.cell 1
 have f1 := Hx0.out.free 1
 go_upto_region 2 with fail
 clear z1 f1
 have hch := Lib.hid ((Chg.refl (w.heap.size + 1) W).set 1 (.int .i64 st))
 have Hx1 : Hid (Blk _ (w.heap.size + 1) #[.int .i64 x.r.cu, .int .i64 st, .slice x.pf x.r.hs.length x.cf, .slice x.pl x.r.ls.length x.cl, .slice x.pn x.r.ns.length x.cn] 56) := Lib.hid (Hx0.out.set 1 (.int .i64 st))
 have HB1 := ksq HB0 hch (by show w.heap.size ≤ (w.heap.size + 1); omega)
 have HZ1 := kzq HZ0 hch.out.size
 have Hc1 := kcq Hc0 hch (by omega)
 have Hr1 := kcq Hr0 hch (by omega)
 clear hch Hc0 Hx0 Hr0 HB0 HZ0
 generalize (W.setCell ⟨w.heap.size + 1, 1, none⟩ (.int .i64 st)) = W1 at *
 have hbd := (Below.refl W1.heap.size W1).drew
 have Hc2 := kbq Hc1 hbd
 have Hx2 := kbq Hx1 hbd
 have Hr2 := kbq Hr1 hbd
 have HB2 := ktq HB1 hbd
 have HZ2 := kzq HZ1 hbd.size
 clear Hc1 Hx1 Hr1 HB1 HZ1
 refine wp_region_held_drew (S := fun w' => w'.cell? ⟨w.heap.size, 0, none⟩ = some (.int .i64 (N : Int)) ∧ w'.cell? ⟨w.heap.size, 1, none⟩ = some (.slice p n c) ∧ w'.cell? ⟨w.heap.size + 1, 0, none⟩ = some (.int .i64 x.r.cu) ∧ w'.cell? ⟨w.heap.size + 1, 1, none⟩ = some (.int .i64 st) ∧ w'.cell? ⟨w.heap.size + 1, 2, none⟩ = some (.slice x.pf x.r.hs.length x.cf) ∧ w'.cell? ⟨w.heap.size + 1, 3, none⟩ = some (.slice x.pl x.r.ls.length x.cl) ∧ w'.cell? ⟨w.heap.size + 1, 4, none⟩ = some (.slice x.pn x.r.ns.length x.cn)) (by kernel_rfl) ⟨Hc2.out.cell 0, Hc2.out.cell 1, Hx2.out.cell 0, Hx2.out.cell 1, Hx2.out.cell 2, Hx2.out.cell 3, Hx2.out.cell 4⟩ (fun hS0 => ?_)
 generalize W1.drew = WD at *
 clear hbd
 refine tkq 0 ?_
 refine tkq 1 ?_
 refine tkq 2 ?_
 refine tkq 4 ?_
 refine tkq 5 ?_
 refine tkq 6 ?_
 refine rdq 3 (fun K hK => ?_)
 have HG := Lib.hid (cwith_any WD P (N : Int) k p n c rs (x.to st) (HRS.out.kept HB2.out) HKK.out.1 HKK.out.2.1 HKK.out.2.2.1 HKK.out.2.2.2 ((HXI.out.kept HB2.out).to st))
 unfold RunX.v RunX.to Rn.to at HG
 go_simp
 go_at_call 48
 refine HG.out.mono ?_
 rintro y9 w3 ⟨p3, c3, rfl, hq, hb⟩
 clear HG
 have HQ := Lib.hid hq.lt
 have HWD2 : Hid (w.heap.size + 1 + 1 < WD.heap.size) := Lib.hid Hr2.out.lt
 have HWD : Hid (w.heap.size ≤ WD.heap.size ∧ WD.heap.size ≤ w3.heap.size) := Lib.hid ⟨HZ2.out, hb.size⟩
 clear hq
 have Hc3 := kbq Hc2 hb
 have Hx3 := kbq Hx2 hb
 have Hr3 := kbq Hr2 hb
 have HB3 := ktq HB2 hb
 have HZ3 := kzq HZ2 hb.size
 clear Hc2 Hx2 Hr2 HB2 HZ2
 clear hb hS0
 try go_wp2_with fail
 refine hK.out _ _ ⟨Hc3.out.cell 0, Hc3.out.cell 1, Hx3.out.cell 0, Hx3.out.cell 1, Hx3.out.cell 2, Hx3.out.cell 3, Hx3.out.cell 4⟩ (fun hS0 => ?_)
 clear hK K
 try simp only [Act.put, List.getElem_toArray, List.getElem_cons_succ, List.getElem_cons_zero, List.setIfInBounds_toArray, List.set_cons_zero, List.set_cons_succ]
 refine rdq 7 (fun K hK => ?_)
 have HG := Lib.hid (decision_any w3 (x.to st) k)
 unfold RunX.v RunX.to Rn.to decM Msg.v at HG
 obtain ⟨bq, hbq⟩ : ∃ bq, (st == 3) = bq := ⟨_, rfl⟩
 have HBQ := Lib.hid hbq
 dsimp only at HG
 rw [hbq] at HG
 clear hbq
 go_simp
 go_at_call 52
 refine HG.out.mono ?_
 rintro y9 w4 ⟨rfl, hb⟩
 clear HG
 have HQ2 := Lib.hid (HQ.out.kept hb)
 have HW4 : Hid (w3.heap.size ≤ w4.heap.size) := Lib.hid hb.size
 clear HQ
 have Hc4 := kbq Hc3 hb
 have Hx4 := kbq Hx3 hb
 have Hr4 := kbq Hr3 hb
 have HB4 := ktq HB3 hb
 have HZ4 := kzq HZ3 hb.size
 clear Hc3 Hx3 Hr3 HB3 HZ3
 clear hb hS0
 try go_wp2_with fail
 refine hK.out _ _ ⟨Hc4.out.cell 0, Hc4.out.cell 1, Hx4.out.cell 0, Hx4.out.cell 1, Hx4.out.cell 2, Hx4.out.cell 3, Hx4.out.cell 4⟩ (fun hS0 => ?_)
 clear hK K
 try simp only [Act.put, List.getElem_toArray, List.getElem_cons_succ, List.getElem_cons_zero, List.setIfInBounds_toArray, List.set_cons_zero, List.set_cons_succ]
 refine rdq 8 (fun K hK => ?_)
 have HG := Lib.hid (toAll_any w4 N p n c (⟨decM k (x.r.to st), none, 0, none, 0⟩ : MsgX) (fun _ => True) HNN.out ⟨TRow.nil_ _ _, Row.nil_ _ _ 0, At.nil_ _ _, At.nil_ _ _, ⟨by show 0 * 32 ≤ _; decide, by show 0 * 8 ≤ _; decide⟩⟩)
 unfold decM Rn.to Msg.v at HG
 dsimp only [List.length_nil] at HG
 rw [HBQ.out] at HG
 go_simp
 go_at_call 56
 refine HG.out.mono ?_
 rintro y9 w5 ⟨p5, c5, rfl, hs, hb⟩
 clear HG
 have HQ3 := Lib.hid (HQ2.out.kept hb)
 have HSD : Hid (SaidL w5 w4.heap.size (.slice p5 N c5) (toAllL N (decM k (x.r.to st)))) := Lib.hid (by unfold decM Rn.to; dsimp only; rw [HBQ.out]; exact hs)
 clear HQ2 hs
 have Hc5 := kbq Hc4 hb
 have Hx5 := kbq Hx4 hb
 have Hr5 := kbq Hr4 hb
 have HB5 := ktq HB4 hb
 have HZ5 := kzq HZ4 hb.size
 clear Hc4 Hx4 Hr4 HB4 HZ4
 clear hb hS0
 try go_wp2_with fail
 refine hK.out _ _ ⟨Hc5.out.cell 0, Hc5.out.cell 1, Hx5.out.cell 0, Hx5.out.cell 1, Hx5.out.cell 2, Hx5.out.cell 3, Hx5.out.cell 4⟩ (fun hS0 => ?_)
 clear hK K
 try simp only [Act.put, List.getElem_toArray, List.getElem_cons_succ, List.getElem_cons_zero, List.setIfInBounds_toArray, List.set_cons_zero, List.set_cons_succ]
 refine rdq 9 (fun K hK => ?_)
 have z0 : w5.cell? ⟨(w.heap.size + 1 + 1), 0, none⟩ = some (.int .i64 0) := Hr5.out.cell 0
 have z1 : w5.cell? ⟨(w.heap.size + 1 + 1), 1, none⟩ = some (.slice none 0 0) := Hr5.out.cell 1
 have f0 := Hr5.out.free 0
 have f1 := Hr5.out.free 1
 go_simp
 clear z0 f0 z1 f1
 have hch := Lib.hid (((Chg.refl (w.heap.size + 1 + 1) w5).set 0 (.int .i64 (N : Int))).set 1 (.slice p3 n c3))
 have Hr6 : Hid (Blk _ (w.heap.size + 1 + 1) #[.int .i64 (N : Int), .slice p3 n c3] 27) := Lib.hid ((Hr5.out.set 0 (.int .i64 (N : Int))).set 1 (.slice p3 n c3))
 have HB6 := ksq HB5 hch (by show w.heap.size ≤ (w.heap.size + 1 + 1); omega)
 have HZ6 := kzq HZ5 hch.out.size
 have Hc6 := kcq Hc5 hch (by omega)
 have Hx6 := kcq Hx5 hch (by omega)
 have hrb := HWL.out
 have HSD2 := Lib.hid (HSD.out.chgS hch.out (by have := HW4.out; have := HWD.out; have := HWD2.out; omega))
 have HQ4 := Lib.hid ((HQ3.out.imp (Q := fun b => b ≠ w.heap.size + 1 + 1 ∧ ((P b ∨ WD.heap.size ≤ b) ∧ b < w3.heap.size)) (fun b h => ⟨fun e => by rcases h.1 with h1 | h1; (have := HPW.out _ h1; omega); (have := HWD2.out; omega), h⟩)).keepP (KeepP.of_chg hch.out (by rintro ⟨h, _⟩; exact h rfl)))
 clear HSD HQ3 hrb
 clear hch hS0 Hc5 Hx5 Hr5 HB5 HZ5
 generalize ((w5.setCell ⟨w.heap.size + 1 + 1, 0, none⟩ (.int .i64 (N : Int))).setCell ⟨w.heap.size + 1 + 1, 1, none⟩ (.slice p3 n c3)) = W6 at *
 refine hK.out _ _ ⟨Hc6.out.cell 0, Hc6.out.cell 1, Hx6.out.cell 0, Hx6.out.cell 1, Hx6.out.cell 2, Hx6.out.cell 3, Hx6.out.cell 4⟩ (fun hS0 => ?_)
 clear hK K
 try simp only [Act.put, List.getElem_toArray, List.getElem_cons_succ, List.getElem_cons_zero, List.setIfInBounds_toArray, List.set_cons_zero, List.set_cons_succ]
 refine tkq 10 ?_
 refine tkq 11 ?_
 refine wpAnyH_done (by kernel_rfl) ?_ _
 clear hS0
 go_wp2_with fail
 have hfr := Hr6.out
 refine bodyPost_ret (v := .tuple #[.agg #[.int .i64 (N : Int), .slice p3 n c3], .slice p5 N c5, .int .i64 0]) (by simp [results, Try.results50, go_sem, hfr.cell 0, hfr.cell 1]) rfl ⟨p3, n, c3, p5, N, c5, w4.heap.size, rfl, by rw [List.length_set]; exact HKK.out.1, by unfold toAllL; simp, by have := HW4.out; have := HWD.out; omega, HQ4.out.imp (fun b h => h.2.1.imp id (fun h2 => ⟨by have := HWD.out; omega, by have := HW4.out; have := h.2.2; omega⟩)), HSD2.out, HB6.out⟩
end Go.Proofs.Yteogdfpkcoodlaa
