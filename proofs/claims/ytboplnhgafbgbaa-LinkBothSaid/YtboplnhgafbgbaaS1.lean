/- Slices of integers that are only read: what they hold; and that they hold it behind any call that writes only to memory of its own. Blocks of the call's own: what they hold behind each step. An append onto a row of integers of the call's own, of any row: nil, empty or not; in a plain region and where the order is open. What a method that writes one block of its own leaves; a row that lies in a known block. Operations of a region that draws its order, taken in few words. Slices of structs of one kind: each element some cells, as an encoding tells; the call's own slices of them; append. A message as a value. From what a reading tells of a slice of 64-bit numbers to a row. From what a reading tells of a slice of structs or arrays to a row of them. From what a reading tells of a line, of a slice of lines, to rows. Bytes in a slice: between 0 and 255; as natural numbers. From what a reading tells of a slice of integers to a row, whatever their kind. From what a reading tells of a message by value, of its lists, and of a slice of messages, to models and rows. Slices of structs: an element stored, the end cleared. Slices of structs: append, whatever the length. Values that are handed on: which blocks their rows lie in, and what leaves these alone; messages so. Sessions as values: what was said to each, how much of each was heard. slices.Clone of lines and of numbers by contract. slices.Clone of sessions by contract. link.own by contract: a message with lists of its own. link.New, other, with, Next, Hear by contract. link.with, New by contract. link.New, Next, Hear by contract. Grow and Concat of slices of contra/api.Msg, by contract. link.Say by contract. Append that tells which block is the new one. Packets as values. What is sent of what was said. link.Packets by contract. contralaw12.speaks by contract. Two nodes' sessions in one array: their block of four cells, and what a store into one of them leaves. contraref11.Same by contract: a message is the same as itself. Rows of bools: of the call's own; that came in. -/
import Derived.Test.YtboplnhgafbgbaaProg
import Derived.WalkKit
import Derived.WalkSpells
import Derived.WalkLawsBesides
import Derived.Laws.Externs
import Derived.Lib.Hide
import Derived.OneCell
import Derived.Deep.RegionLaw
import Derived.Deep.AppendLies
import Derived.Laws.AppendOwnNone
import Derived.Deep.RegionHeld
import Derived.Deep.Light
import Derived.RowKit
import Derived.Lib.AppendZeros
import Derived.ProofKit
import Derived.OpenShut
import Derived.Deep.SlicePairs
import Derived.ChangeSlices
import Derived.ChangeArms
import Derived.Deep.MidRow
import Derived.Lib.SliceRun
import Derived.Deep.RegionHeld3
import Derived.Laws.MakeOwn
import Derived.Deep.CutRange
import Derived.Deep.CutBlock
namespace Go.Proofs.Ytboplnhgafbgbaa
open Go.RowKit

/-- The slice v holds the numbers zs, each of kind k. -/
def Row (k : IntKind) (w : World) (v : Value) (zs : List Int) : Prop :=
 ∃ p c, v = .slice p zs.length c ∧ zs.length ≤ c ∧ (zs = [] ∨ ∃ b o, p = some ⟨b, o, none⟩ ∧ ∀ i, i < zs.length → w.cell? ⟨b, o + i, none⟩ = some (.int k (zs.getD i 0)))

theorem Row.kept {k : IntKind} {w w' : World} {v : Value} {zs : List Int} (h : Row k w v zs) (hb : Below w.heap.size w w') : Row k w' v zs := by
 obtain ⟨p, c, rfl, hc, h⟩ := h
 refine ⟨p, c, rfl, hc, ?_⟩
 rcases h with h | ⟨b, o, rfl, h⟩
 ·exact .inl h
 ·refine .inr ⟨b, o, rfl, fun i hi => ?_⟩
  have := h i hi
  rw [hb.cell (p := ⟨b, o + i, none⟩) (World.block_lt_of_cell? w _ this)]; exact this

/-- All numbers of the list are of 64 bits. -/
def All64 (zs : List Int) : Prop := ∀ a ∈ zs, -9223372036854775808 ≤ a ∧ a ≤ 9223372036854775807
theorem All64.getD {zs : List Int} (h : All64 zs) (i : Nat) : -9223372036854775808 ≤ zs.getD i 0 ∧ zs.getD i 0 ≤ 9223372036854775807 := by
 rw [List.getD_eq_getElem?_getD]
 by_cases hi : i < zs.length
 ·rw [List.getElem?_eq_getElem hi]; exact h _ (List.getElem_mem hi)
 ·rw [List.getElem?_eq_none (by omega)]; simp
end Go.Proofs.Ytboplnhgafbgbaa
namespace Go.Proofs.Ytboplnhgafbgbaa
open Go.RowKit

theorem drewN_below (B : Nat) (w : World) (n : Nat) : Below B w (w.drewN n) := ⟨rfl, rfl, rfl, Nat.le_refl _, fun _ _ => rfl⟩

theorem seqB {w a b : World} (h : Below w.heap.size w a) (k : Below a.heap.size a b) : Below w.heap.size w b := h.trans (k.mono h.size)
theorem oneB (w : World) (o : Obj) : Below w.heap.size w (w.alloc o) := (Below.refl _ _).alloc (Nat.le_refl _) _

/-- Block b holds the cells cs. -/
def Blk (w : World) (b : Nat) (cs : Array Value) (t : TypeId) : Prop := w.heap[b]? = some (.cells cs t (0, 0))
theorem Blk.lt {w : World} {b : Nat} {cs : Array Value} {t : TypeId} (h : Blk w b cs t) : b < w.heap.size := lt_of_block h
theorem Blk.cell {w : World} {b : Nat} {cs : Array Value} {t : TypeId} (h : Blk w b cs t) (i : Nat) : w.cell? ⟨b, i, none⟩ = cs[i]? := cell_of_row w b i cs t (0, 0) h
theorem Blk.free {w : World} {b : Nat} {cs : Array Value} {t : TypeId} (h : Blk w b cs t) (i : Nat) : w.frozen? ⟨b, i, none⟩ = false := by
 unfold Blk at h; simp [World.frozen?, h]
theorem Blk.new (w : World) (cs : Array Value) (t : TypeId) : Blk (w.alloc (.cells cs t)) w.heap.size cs t := heap_alloc_new w _
theorem Blk.new' (w : World) (cs : Array Value) (t : TypeId) {b : Nat} (hb : b = w.heap.size) : Blk (w.alloc (.cells cs t)) b cs t := by rw [hb]; exact heap_alloc_new w _
theorem Blk.alloc {w : World} {b : Nat} {cs : Array Value} {t : TypeId} (h : Blk w b cs t) (o : Obj) : Blk (w.alloc o) b cs t := (Below.heap_alloc w o b h.lt).trans h
theorem Blk.drew {w : World} {b : Nat} {cs : Array Value} {t : TypeId} (h : Blk w b cs t) : Blk w.drew b cs t := h
theorem Blk.set {w : World} {b : Nat} {cs : Array Value} {t : TypeId} (h : Blk w b cs t) (i : Nat) (u : Value) : Blk (w.setCell ⟨b, i, none⟩ u) b (cs.setIfInBounds i u) t := by
 have hlt := h.lt
 have h' : w.heap[b] = .cells cs t (0, 0) := by unfold Blk at h; simpa [Array.getElem?_eq_getElem hlt] using h
 show (w.heap.modify b _)[b]? = _
 rw [Array.getElem?_eq_getElem (by simpa using hlt), Array.getElem_modify_self, h']
 rfl
theorem Blk.setOther {w : World} {b : Nat} {cs : Array Value} {t : TypeId} (h : Blk w b cs t) {a : Addr} (ha : a.block ≠ b) (u : Value) : Blk (w.setCell a u) b cs t := (Below.heap_setCell w a u b (Ne.symm ha)).trans h
theorem Blk.grown {w w' : World} {b : Nat} {cs : Array Value} {t : TypeId} {row : Option Nat} (h : Blk w b cs t) (hg : w.grownBy w' row) (hr : some b ≠ row) : Blk w' b cs t := (hg.block b h.lt hr).trans h
theorem Blk.below {w w' : World} {B b : Nat} {cs : Array Value} {t : TypeId} (h : Blk w b cs t) (hb : Below B w w') (hlt : b < B) : Blk w' b cs t := (hb.block b hlt).trans h
theorem ownBlock_ne {w : World} {base b : Nat} {e : TypeId} {size : Nat} {v : Value} {n : Nat} {xs : List Value} (h : w.ownsRow base e size v n xs) (hb : b < base) : some b ≠ v.ownBlock := by
 intro e
 have := (h.lt b e.symm).1
 omega
theorem one_new (w : World) (v : Value) (t : TypeId) : ∀ (j : Nat) (u : Value), [v][j]? = some u → (w.alloc (.cells #[v] t)).cell? ((⟨w.heap.size, 0, none⟩ : Addr).add j) = some u := by
 intro j u hj
 match j, hj with
 | 0, hj =>
  simp at hj; subst hj
  show (w.alloc (.cells #[v] t)).cell? ⟨w.heap.size, 0 + 0, none⟩ = _
  rw [World.cell?_alloc_at _ _ _ _ rfl]; rfl
theorem one_cells (k : IntKind) (x : Int) : ∀ u ∈ [Value.int k x], u.oneCell' = true := by intro u hu; simp at hu; subst hu; rfl
/-- What is owned is a slice. -/
theorem owned_slice {w : World} {base : Nat} {e : TypeId} {size : Nat} {v : Value} {n : Nat} {xs : List Value} (h : w.ownsRow base e size v n xs) : ∃ p c, v = .slice p n c := by
 rcases h.2 with ⟨rfl, rfl⟩ | ⟨g, cap, cur, rfl, _⟩
 ·exact ⟨_, _, rfl⟩
 ·exact ⟨_, _, rfl⟩
end Go.Proofs.Ytboplnhgafbgbaa
namespace Go.Proofs.Ytboplnhgafbgbaa
open Go.RowKit

/-- A row that is laid out in a block of its own. -/
theorem Row.laid (k : IntKind) (w : World) (T : TypeId) (zs : List Int) (cs : Array Value) (hcs : cs = (zs.map (Value.int k)).toArray) (fz : Nat × Nat) (n c : Nat) (hn : n = zs.length) (hc : zs.length ≤ c) : Row k (w.alloc (.cells cs T fz)) (.slice (some ⟨w.heap.size, 0, none⟩) n c) zs := by
 subst hn
 refine ⟨_, c, rfl, hc, .inr ⟨_, _, rfl, fun i hi => ?_⟩⟩
 rw [Nat.zero_add, cell_of_row _ w.heap.size i cs T fz (heap_alloc_new w _), hcs]
 simp [List.getD_eq_getElem?_getD, hi]
theorem Row.nil_ (k : IntKind) (w : World) (c : Nat) : Row k w (.slice none 0 c) [] := ⟨none, c, rfl, Nat.zero_le _, .inl rfl⟩
/-- The call's own row v holds the integers zs. -/
def Own (k : IntKind) (w : World) (base : Nat) (e : TypeId) (v : Value) (zs : List Int) : Prop := w.ownsRow base e 1 v zs.length (zs.map (Value.int k))
theorem Own.row {k : IntKind} {w : World} {base : Nat} {e : TypeId} {v : Value} {zs : List Int} (h : Own k w base e v zs) : Row k w v zs := by
 obtain ⟨hl, h⟩ := h
 rcases h with ⟨rfl, h0⟩ | ⟨g, cap, cur, rfl, _, hg, hn, _, _, ht⟩
 ·have : zs = [] := List.length_eq_zero_iff.mp h0
  subst this
  exact ⟨none, 0, rfl, Nat.zero_le _, .inl rfl⟩
 ·refine ⟨_, cap, rfl, hn, .inr ⟨g, 0, rfl, fun i hi => ?_⟩⟩
  rw [Nat.zero_add, cell_of_row w g i cur e (0, 0) hg]
  have := congrArg (fun l => l[i]?) ht
  simp only [List.getElem?_take, Nat.mul_one, if_pos hi, List.getElem?_map] at this
  rw [List.getElem?_eq_getElem hi] at this
  rw [List.getD_eq_getElem?_getD, List.getElem?_eq_getElem hi]
  simpa using this
theorem Row.shape {k : IntKind} {w : World} {v : Value} {zs : List Int} (h : Row k w v zs) : ∃ p c, v = .slice p zs.length c := by obtain ⟨p, c, e, _⟩ := h; exact ⟨p, c, e⟩
theorem Row.under {k : IntKind} {w w' : World} {v : Value} {zs : List Int} {B : Nat} (h : Row k w v zs) (hb : Below B w w') (hB : w.heap.size ≤ B) : Row k w' v zs := h.kept (hb.mono hB)
theorem Own.form {k : IntKind} {w : World} {base : Nat} {e : TypeId} {v : Value} {zs : List Int} (h : Own k w base e v zs) : ∃ p c, v = .slice p zs.length c := owned_slice h
theorem Own.nil_ (k : IntKind) (w : World) (base : Nat) (e : TypeId) : Own k w base e (.slice none 0 0) [] := ⟨by simp, .inl ⟨rfl, rfl⟩⟩
theorem Own.made (k : IntKind) (w : World) (base : Nat) (e : TypeId) (hb : base ≤ w.heap.size) : Own k (w.alloc (.cells #[] e)) base e (.slice (some ⟨w.heap.size, 0, none⟩) 0 0) [] :=
 ⟨by simp, .inr ⟨w.heap.size, 0, #[], rfl, hb, heap_alloc_new w _, Nat.le_refl _, by decide, by simp, by simp⟩⟩
theorem Own.made_at (k : IntKind) (w : World) (b base : Nat) (e : TypeId) (hb : base ≤ b) (h : b = w.heap.size) : Own k (w.alloc (.cells #[] e)) base e (.slice (some ⟨b, 0, none⟩) 0 0) [] := by
 subst h; exact Own.made k w base e hb
theorem Own.block_ge {k : IntKind} {w : World} {base : Nat} {e : TypeId} {v : Value} {zs : List Int} (h : Own k w base e v zs) : ∀ g, v.ownBlock = some g → base ≤ g := by
 intro g hg
 rcases h.2 with ⟨rfl, _⟩ | ⟨g', cap, cur, rfl, hb, _⟩
 ·cases hg
 ·cases hg; exact hb
/-- It stays behind what leaves all of its block as it is. -/
theorem Own.below {k : IntKind} {w w' : World} {base B : Nat} {e : TypeId} {v : Value} {zs : List Int} (h : Own k w base e v zs) (hb : Below B w w') (hB : ∀ g, v.ownBlock = some g → g < B) : Own k w' base e v zs := by
 refine ⟨h.1, ?_⟩
 rcases h.2 with h | ⟨g, cap, cur, rfl, hbg, hg, hr⟩
 ·exact .inl h
 ·exact .inr ⟨g, cap, cur, rfl, hbg, (hb.block g (hB g rfl)).trans hg, hr⟩
theorem Own.lt {k : IntKind} {w : World} {base : Nat} {e : TypeId} {v : Value} {zs : List Int} (h : Own k w base e v zs) : ∀ g, v.ownBlock = some g → g < w.heap.size := fun g hg => (World.ownsRow.lt h g hg).2
theorem Own.later {k : IntKind} {w w' : World} {base : Nat} {e : TypeId} {v : Value} {zs : List Int} (h : Own k w base e v zs) (hb : Below w.heap.size w w') : Own k w' base e v zs := h.below hb h.lt
theorem Own.alloc {k : IntKind} {w : World} {base : Nat} {e : TypeId} {v : Value} {zs : List Int} (h : Own k w base e v zs) (o : Obj) : Own k (w.alloc o) base e v zs := h.later (oneB w o)
theorem Own.drew {k : IntKind} {w : World} {base : Nat} {e : TypeId} {v : Value} {zs : List Int} (h : Own k w base e v zs) : Own k w.drew base e v zs := h

theorem addAt (b o j : Nat) : (⟨b, o, none⟩ : Addr).add j = ⟨b, o + j, none⟩ := by
 unfold Addr.add; split <;> simp_all
/-- Where it lies; what a store into it leaves. -/
theorem Own.at_ {k : IntKind} {w : World} {base n c : Nat} {e : TypeId} {p : Option Addr} {zs : List Int} (h : Own k w base e (.slice p n c) zs) (hn : 0 < n) :
  ∃ g, p = some ⟨g, 0, none⟩ ∧ base ≤ g ∧ g < w.heap.size ∧ zs.length = n := by
 obtain ⟨hl, h⟩ := h
 rcases h with ⟨e, h0⟩ | ⟨g, cap, cur, e, hb, hg, _⟩
 ·cases e; omega
 ·cases e; exact ⟨g, rfl, hb, lt_of_block hg, rfl⟩
theorem Own.cell {k : IntKind} {w : World} {base n c g : Nat} {e : TypeId} {zs : List Int} (h : Own k w base e (.slice (some ⟨g, 0, none⟩) n c) zs) (i : Nat) (hi : i < n) :
  w.cell? ⟨g, i, none⟩ = some (.int k (zs.getD i 0)) ∧ w.frozen? ⟨g, i, none⟩ = false := by
 obtain ⟨hl, h⟩ := h
 rcases h with ⟨e, h0⟩ | ⟨g, cap, cur, e, hb, hg, hn, _, _, ht⟩
 ·cases e
 ·cases e
  refine ⟨?_, by simp [World.frozen?, hg]⟩
  rw [cell_of_row w g i cur _ (0, 0) hg]
  have := congrArg (fun l => l[i]?) ht
  simp only [List.getElem?_take, Nat.mul_one, if_pos hi, List.getElem?_map] at this
  rw [List.getElem?_eq_getElem hi] at this
  rw [List.getD_eq_getElem?_getD, List.getElem?_eq_getElem hi]
  simpa using this
theorem Own.set {k : IntKind} {w : World} {base n c g : Nat} {e : TypeId} {zs : List Int} (h : Own k w base e (.slice (some ⟨g, 0, none⟩) n c) zs) (i : Nat) (u : Int) :
  Own k (w.setCell ⟨g, i, none⟩ (.int k u)) base e (.slice (some ⟨g, 0, none⟩) n c) (zs.set i u) := by
 obtain ⟨hl, h⟩ := h
 rcases h with ⟨e2, h0⟩ | ⟨g, cap, cur, e2, hb, hg, hn, hm, hs, ht⟩
 ·cases e2
 ·cases e2
  have hb2 : Blk w g cur e := hg
  refine ⟨by simp, .inr ⟨g, c, cur.setIfInBounds i (.int k u), by rw [List.length_set], hb, hb2.set i (.int k u), by simpa using hn, hm, by simpa using hs, ?_⟩⟩
  rw [List.length_set, Array.toList_setIfInBounds, List.take_set, ht, List.map_set]
/-- The facts of an element's type. -/
def Elt (P : Program) (t e : TypeId) (k : IntKind) (bytes : Nat) : Prop := ∃ i, P.underlying t = some (.slice e) ∧ P.info? e = some i ∧ i.zero = some (.int k 0) ∧ i.size = 1 ∧ i.bytes = bytes
theorem Row.news {k : IntKind} {w : World} {b o n c : Nat} {zs : List Int} (h : Row k w (.slice (some ⟨b, o, none⟩) n c) zs) : ∀ (j : Nat) (u : Value), (zs.map (Value.int k))[j]? = some u → w.cell? ((⟨b, o, none⟩ : Addr).add j) = some u := by
 intro j u hj
 obtain ⟨p, c', e, _, h⟩ := h
 cases e
 rcases h with rfl | ⟨b', o', e, h⟩
 ·simp at hj
 ·cases e
  have hjl : j < zs.length := by
   rcases Nat.lt_or_ge j zs.length with h | h
   ·exact h
   ·rw [List.getElem?_eq_none (by simp; omega)] at hj; cases hj
  have hc := h j hjl
  rw [List.getElem?_map, List.getElem?_eq_getElem hjl] at hj
  rw [List.getD_eq_getElem?_getD, List.getElem?_eq_getElem hjl] at hc
  rw [addAt, hc]
  simpa using hj
theorem Row.newsAt {k : IntKind} {w : World} {a : Addr} {n c : Nat} {zs : List Int} (h : Row k w (.slice (some a) n c) zs) : ∀ (j : Nat) (u : Value), (zs.map (Value.int k))[j]? = some u → w.cell? (a.add j) = some u := by
 by_cases h0 : zs = []
 ·subst h0; intro j u hj; simp at hj
 ·obtain ⟨p, c', e, _, h1⟩ := id h
  cases e
  rcases h1 with h1 | ⟨b', o', e, _⟩
  ·exact absurd h1 h0
  ·cases e
   exact h.news
theorem ints_onecell (k : IntKind) (zs : List Int) : ∀ u ∈ zs.map (Value.int k), u.oneCell' = true := by
 intro u hu
 obtain ⟨x, _, rfl⟩ := List.mem_map.1 hu
 rfl
/-- The append itself, as a run. -/
theorem run_append_row {P : Program} (w : World) (t ty e : TypeId) (k : IntKind) (bytes base : Nat) (he : Elt P t e k bytes) (v y : Value) (zs ys : List Int) (hown : Own k w base e v zs) (hrow : Row k w y ys)
  (h63 : zs.length + ys.length ≤ 140737488355000) (hbytes : (zs.length + ys.length) * bytes ≤ 140737488355328) (hbase : base ≤ w.heap.size) :
  ∃ v' w', (Builtin.append_ #[t, t] ty #[v, y]).run P w = .ok v' w' ∧ Own k w' base e v' (zs ++ ys) ∧ Below base w w' := by
 obtain ⟨i, ht, hi, hz, hs, hby⟩ := he
 obtain ⟨p, c, rfl, hc, hr⟩ := id hrow
 have h63' : zs.length + ys.length ≤ maxLen := by unfold maxLen; omega
 cases p with
 | some ad =>
  obtain ⟨v', w', hrun, hown', hg, _⟩ := run_append_own_at (P := P) w base t ty e i (.int k 0) 1 bytes ht hi hz hs hby rfl (by decide) v zs.length (zs.map (.int k)) hown ad ys.length c (ys.map (.int k)) (by simp) hrow.newsAt (ints_onecell k ys) h63' hbytes hbase
  refine ⟨v', w', hrun, ?_, (Below.refl _ _).grown hg hbase (fun g hg' => hown.block_ge g hg')⟩
  unfold Own
  rw [List.map_append, List.length_append]
  exact hown'
 | none =>
  have hy : ys = [] := by
   rcases hr with h | ⟨b, o, h, _⟩
   ·exact h
   ·cases h
  subst hy
  refine ⟨v, w, ?_, by simpa using hown, Below.refl _ _⟩
  rcases hown.2 with ⟨rfl, h0⟩ | ⟨g, cap, cur, rfl, _, _, hnc, _⟩
  ·simp [Builtin.append_, run_underlying ht, sizeOf, typeInfo, hi, Builtin.lenOf, Builtin.firstCells]
  ·simp [Builtin.append_, run_underlying ht, sizeOf, typeInfo, hi, Builtin.lenOf, Builtin.firstCells, hnc, storeCells]
/-- In a plain region. -/
theorem wpList_append_row {P : Program} {w : World} {ops : Array Oper} {rest : List Oper} {o : Oper} {a : Act} {Q : Exit → Act → World → Prop} (hgd : o.guard = none) (s x : Operand) (t : TypeId)
  (ho : o.op = .call { callee := .builtin .append, args := #[s, x], argTypes := #[t, t] })
  (e : TypeId) (k : IntKind) (bytes base : Nat) (he : Elt P t e k bytes) (v y : Value) (zs ys : List Int) (hs : a.eval s = v) (hx : a.eval x = y) (hown : Own k w base e v zs) (hrow : Row k w y ys)
  (h63 : zs.length + ys.length ≤ 140737488355000) (hbytes : (zs.length + ys.length) * bytes ≤ 140737488355328) (hbase : base ≤ w.heap.size)
  (L : List Int) (N : Nat) (hL : zs ++ ys = L) (hN : L.length = N)
  (h : ∀ p' c' w', Own k w' base e (.slice p' N c') L → Below base w w' → wpList P ops Q rest (a.put o.dst (.slice p' N c')) w') : wpList P ops Q (o :: rest) a w := by
 subst hL
 subst hN
 refine wpList_plain hgd fun K hK => ?_
 obtain ⟨v', w', hrun, h1, h2⟩ := run_append_row w t o.type e k bytes base he v y zs ys hown hrow h63 hbytes hbase
 unfold Oper.wp
 obtain ⟨p', c', rfl⟩ := h1.form
 simp [execOp, ho, resolve, invoke, builtin, hs, hx, hrun, Result.andThen]
 exact hK _ _ (by simpa using h p' c' w' h1 h2)
/-- Where the order is open. -/
theorem step_append_row {P : Program} {w : World} {ops : Array Oper} {o : Oper} {a : Act} {K : Act → World → Prop} {Q : Exit → Act → World → Prop} {E : Prop} (hgd : o.guard = none) (s x : Operand) (t : TypeId)
  (ho : o.op = .call { callee := .builtin .append, args := #[s, x], argTypes := #[t, t] })
  (e : TypeId) (k : IntKind) (bytes base : Nat) (he : Elt P t e k bytes) (v y : Value) (zs ys : List Int) (hs : a.eval s = v) (hx : a.eval x = y) (hown : Own k w base e v zs) (hrow : Row k w y ys)
  (h63 : zs.length + ys.length ≤ 140737488355000) (hbytes : (zs.length + ys.length) * bytes ≤ 140737488355328) (hbase : base ≤ w.heap.size)
  (L : List Int) (N : Nat) (hL : zs ++ ys = L) (hN : L.length = N)
  (h : ∀ p' c' w', Own k w' base e (.slice p' N c') L → Below base w w' → K (a.put o.dst (.slice p' N c')) w') :
  if Region.wanted o (yielded ops a.tmps) = true then Oper.wp P o a w K Q else E := by
 have hw : Region.wanted o (yielded ops a.tmps) = true := by simp [Region.wanted, hgd]
 rw [if_pos hw]
 subst hL
 subst hN
 obtain ⟨v', w', hrun, h1, h2⟩ := run_append_row w t o.type e k bytes base he v y zs ys hown hrow h63 hbytes hbase
 unfold Oper.wp
 obtain ⟨p', c', rfl⟩ := h1.form
 simp [execOp, ho, resolve, invoke, builtin, hs, hx, hrun, Result.andThen]
 have h3 := h p' c' w' h1 h2
 simp only [List.length_append] at h3
 exact h3
end Go.Proofs.Ytboplnhgafbgbaa
namespace Go.Proofs.Ytboplnhgafbgbaa
open Go.RowKit
/-- Of what was there block g alone may be another one. -/
def Chg (g : Nat) (w w' : World) : Prop := Below 0 w w' ∧ ∀ k, k < w.heap.size → k ≠ g → w'.heap[k]? = w.heap[k]?
theorem Chg.refl (g : Nat) (w : World) : Chg g w w := ⟨Below.refl _ _, fun _ _ _ => rfl⟩
theorem Chg.of_below {g : Nat} {w w' : World} (h : Below w.heap.size w w') : Chg g w w' := ⟨h.mono (Nat.zero_le _), fun k hk _ => h.block k hk⟩
theorem Chg.size {g : Nat} {w w' : World} (h : Chg g w w') : w.heap.size ≤ w'.heap.size := h.1.size
theorem Chg.trans {g : Nat} {w a b : World} (h : Chg g w a) (k : Chg g a b) : Chg g w b := ⟨h.1.trans k.1, fun j hj hg => (k.2 j (Nat.lt_of_lt_of_le hj h.size) hg).trans (h.2 j hj hg)⟩
theorem Chg.set {g : Nat} {w w' : World} (h : Chg g w w') (i : Nat) (v : Value) : Chg g w (w'.setCell ⟨g, i, none⟩ v) :=
 ⟨h.1.setCell (p := ⟨g, i, none⟩) (Nat.zero_le _) v, fun k hk hg => (Below.heap_setCell w' ⟨g, i, none⟩ v k hg).trans (h.2 k hk hg)⟩
theorem Chg.alloc {g : Nat} {w w' : World} (h : Chg g w w') (o : Obj) : Chg g w (w'.alloc o) := h.trans (Chg.of_below (oneB w' o))
theorem Chg.drew {g : Nat} {w w' : World} (h : Chg g w w') : Chg g w w'.drew := ⟨h.1.drew, fun k hk hg => h.2 k hk hg⟩
theorem Chg.below {g B : Nat} {w w' : World} (h : Chg g w w') (hg : B ≤ g) (hB : B ≤ w.heap.size) : Below B w w' :=
 ⟨h.1.1, h.1.2, h.1.3, h.1.4, fun k hk => h.2 k (by omega) (by omega)⟩
theorem Chg.cell {g : Nat} {w w' : World} (h : Chg g w w') {a : Addr} (ha : a.block < w.heap.size) (hg : a.block ≠ g) : w'.cell? a = w.cell? a := World.cell?_of_block (h.2 a.block ha hg)
theorem Blk.chg {w w' : World} {b g : Nat} {cs : Array Value} {t : TypeId} (h : Blk w b cs t) (hc : Chg g w w') (hb : b ≠ g) : Blk w' b cs t := (hc.2 b h.lt hb).trans h
/-- A row that lies in block g0. -/
def RowAt (k : IntKind) (w : World) (g0 : Nat) (v : Value) (zs : List Int) : Prop :=
 ∃ p c, v = .slice p zs.length c ∧ zs.length ≤ c ∧ (zs = [] ∨ ∃ o, p = some ⟨g0, o, none⟩ ∧ ∀ i, i < zs.length → w.cell? ⟨g0, o + i, none⟩ = some (.int k (zs.getD i 0)))
theorem RowAt.row {k : IntKind} {w : World} {g0 : Nat} {v : Value} {zs : List Int} (h : RowAt k w g0 v zs) : Row k w v zs := by
 obtain ⟨p, c, hv, hc, h⟩ := h
 refine ⟨p, c, hv, hc, ?_⟩
 rcases h with h | ⟨o, hp, h⟩
 ·exact .inl h
 ·exact .inr ⟨g0, o, hp, h⟩
theorem RowAt.shape {k : IntKind} {w : World} {g0 : Nat} {v : Value} {zs : List Int} (h : RowAt k w g0 v zs) : ∃ p c, v = .slice p zs.length c := by obtain ⟨p, c, e, _⟩ := h; exact ⟨p, c, e⟩
theorem RowAt.keep {k : IntKind} {w w' : World} {g0 : Nat} {v : Value} {zs : List Int} (h : RowAt k w g0 v zs) (hk : g0 < w.heap.size → w'.heap[g0]? = w.heap[g0]?) : RowAt k w' g0 v zs := by
 obtain ⟨p, c, hv, hc, h⟩ := h
 refine ⟨p, c, hv, hc, ?_⟩
 rcases h with h | ⟨o, hp, h⟩
 ·exact .inl h
 ·refine .inr ⟨o, hp, fun i hi => ?_⟩
  have h1 := h i hi
  rw [World.cell?_of_block (hk (World.block_lt_of_cell? w _ h1))]; exact h1
theorem RowAt.chg {k : IntKind} {w w' : World} {g0 g : Nat} {v : Value} {zs : List Int} (h : RowAt k w g0 v zs) (hc : Chg g w w') (hg : g0 ≠ g) : RowAt k w' g0 v zs := h.keep fun hl => hc.2 g0 hl hg
theorem RowAt.below {k : IntKind} {w w' : World} {g0 B : Nat} {v : Value} {zs : List Int} (h : RowAt k w g0 v zs) (hb : Below B w w') (hB : g0 < w.heap.size → g0 < B) : RowAt k w' g0 v zs := h.keep fun hl => hb.block g0 (hB hl)
theorem RowAt.nil_ (k : IntKind) (w : World) (g0 c : Nat) : RowAt k w g0 (.slice none 0 c) [] := ⟨none, c, rfl, Nat.zero_le _, .inl rfl⟩
/-- What is the call's own lies in a block of its own. -/
theorem Own.rowAt {k : IntKind} {w : World} {base : Nat} {e : TypeId} {v : Value} {zs : List Int} (h : Own k w base e v zs) : ∃ g0, base ≤ g0 ∧ (g0 < w.heap.size ∨ zs = [] ∧ g0 = base) ∧ RowAt k w g0 v zs := by
 obtain ⟨p, c, rfl⟩ := h.form
 by_cases hz : zs.length = 0
 ·have : zs = [] := List.length_eq_zero_iff.mp hz
  subst this
  exact ⟨base, Nat.le_refl _, .inr ⟨rfl, rfl⟩, p, c, rfl, Nat.zero_le _, .inl rfl⟩
 ·obtain ⟨g, rfl, hb, hl, _⟩ := h.at_ (by omega)
  obtain ⟨p', c', e', hc, _⟩ := h.row
  cases e'
  exact ⟨g, hb, .inl hl, _, c, rfl, hc, .inr ⟨0, rfl, fun i hi => by rw [Nat.zero_add]; exact (h.cell i hi).1⟩⟩
/-- A part of a row. -/
theorem RowAt.take {k : IntKind} {w : World} {g0 n c : Nat} {p : Option Addr} {zs : List Int} (h : RowAt k w g0 (.slice p n c) zs) (m : Nat) (hm : m ≤ zs.length) : RowAt k w g0 (.slice p m c) (zs.take m) := by
 obtain ⟨p', c', e, hc, h⟩ := h
 cases e
 refine ⟨p, c, by rw [List.length_take, Nat.min_eq_left hm], by rw [List.length_take]; omega, ?_⟩
 rcases h with h | ⟨o, hp, h⟩
 ·left; rw [h]; simp
 ·refine .inr ⟨o, hp, fun i hi => ?_⟩
  rw [List.length_take] at hi
  rw [h i (by omega), List.getD_eq_getElem?_getD, List.getD_eq_getElem?_getD, List.getElem?_take, if_pos (by omega)]
/-- What lies behind its first so many. -/
def dropP (p : Option Addr) (c m : Nat) : Option Addr := if c = m then p else p.map (·.add m)
theorem RowAt.drop {k : IntKind} {w : World} {g0 n c : Nat} {p : Option Addr} {zs : List Int} (h : RowAt k w g0 (.slice p n c) zs) (m : Nat) (hm : m ≤ zs.length) : RowAt k w g0 (.slice (dropP p c m) (n - m) (c - m)) (zs.drop m) := by
 obtain ⟨p', c', e, hc, h⟩ := h
 cases e
 refine ⟨_, _, by rw [List.length_drop], by rw [List.length_drop]; omega, ?_⟩
 by_cases hz : zs.length = m
 ·left; rw [List.drop_eq_nil_of_le (by omega)]
 ·rcases h with h | ⟨o, hp, h⟩
  ·left; rw [h]; simp
  ·refine .inr ⟨o + m, ?_, fun i hi => ?_⟩
   ·unfold dropP
    rw [if_neg (by omega), hp]
    simp [addAt]
   ·rw [List.length_drop] at hi
    rw [Nat.add_assoc, h (m + i) (by omega), List.getD_eq_getElem?_getD, List.getD_eq_getElem?_getD, List.getElem?_drop]
end Go.Proofs.Ytboplnhgafbgbaa
namespace Go.Proofs.Ytboplnhgafbgbaa
open Go Go.RowKit
section
variable {P : Program} {md : Region.Mode} {ops : Array Oper} {Q : Exit → Act → World → Prop} {S : World → Prop}
/-- What reads only may be taken first. -/
theorem tkq {fuel : Nat} {listed : Array Bool} {a a' : Act} {w : World} {v : Value} {oi : Oper} (i : Nat) (h : wpAnyH P md ops Q S fuel (listed.setIfInBounds i true) a' w)
  (hi : ops[i]? = some oi := by rfl)
  (hb : (Region.noSelect ops && (Region.free md ops listed i && ((Region.ready md ops listed).contains i && Region.wanted oi (yielded ops a.tmps)))) = true := by kernel_rfl)
  (hv : ∀ w, S w → (execOp a.eval oi).run P w = .ok (.value v) w := by
   intro w hSw
   try dsimp only at hSw
   first | (go_simp; done) | (go_simp; with_reducible rfl))
  (ha : a.put oi.dst v = a' := by
   try simp only [Act.put, List.getElem_toArray, List.getElem_cons_succ, List.getElem_cons_zero, List.setIfInBounds_toArray, List.set_cons_zero, List.set_cons_succ]
   try rfl)
  (hQ : ∀ c a w, Q (.panic c) (a.put oi.dst v) w → Q (.panic c) a w := by exact fun _ _ _ h => h)
  (hS : S w := by first | assumption | trivial) : wpAnyH P md ops Q S (fuel + 1) listed a w := by
 simp only [Bool.and_eq_true] at hb
 obtain ⟨h1, h2, h3, h4⟩ := hb
 exact wpAnyH_take hi h1 h2 h3 hQ (Or.inl ⟨h4, hv⟩) hS (by rw [ha]; exact h)
/-- What is not wanted may be passed. -/
theorem tnq {fuel : Nat} {listed : Array Bool} {a a' : Act} {w : World} {oi : Oper} (i : Nat) (h : wpAnyH P md ops Q S fuel (listed.setIfInBounds i true) a' w)
  (hi : ops[i]? = some oi := by rfl)
  (hb : (Region.noSelect ops && (Region.free md ops listed i && ((Region.ready md ops listed).contains i && !Region.wanted oi (yielded ops a.tmps)))) = true := by kernel_rfl)
  (ha : a.put oi.dst undef = a' := by
   try simp only [Act.put, List.getElem_toArray, List.getElem_cons_succ, List.getElem_cons_zero, List.setIfInBounds_toArray, List.set_cons_zero, List.set_cons_succ]
   try rfl)
  (hQ : ∀ c a w, Q (.panic c) (a.put oi.dst undef) w → Q (.panic c) a w := by exact fun _ _ _ h => h)
  (hS : S w := by first | assumption | trivial) : wpAnyH P md ops Q S (fuel + 1) listed a w := by
 simp only [Bool.and_eq_true, Bool.not_eq_true'] at hb
 obtain ⟨h1, h2, h3, h4⟩ := hb
 exact wpAnyH_take hi h1 h2 h3 hQ (Or.inr ⟨h4, rfl⟩) hS (by rw [ha]; exact h)
/-- One operation is ready. -/
theorem rdq {fuel : Nat} {listed : Array Bool} {a : Act} {w : World} {o : Oper} (i : Nat)
  (h : ∀ K' : Act → World → Prop, Shut (∀ a w, S w → (S w → wpAnyH P md ops Q S fuel (listed.setIfInBounds i true) a w) → K' a w) → if Region.wanted o (yielded ops a.tmps) = true then Oper.wp P o a w K' Q else K' (a.put o.dst undef) w)
  (hr : Region.ready md ops listed = [i] := by kernel_rfl) (ho : ops[i]? = some o := by rfl) : wpAnyH P md ops Q S (fuel + 1) listed a w :=
 wpAnyH_ready hr (by simp) (AllReadyH.cons ho h AllReadyH.nil)
end
theorem kbq {w w' : World} {b : Nat} {cs : Array Value} {t : TypeId} (h : Hid (Blk w b cs t)) (hb : Below w.heap.size w w') : Hid (Blk w' b cs t) := Lib.hid (h.out.below hb h.out.lt)
theorem kcq {w w' : World} {b g : Nat} {cs : Array Value} {t : TypeId} (h : Hid (Blk w b cs t)) (hc : Hid (Chg g w w')) (hn : b ≠ g) : Hid (Blk w' b cs t) := Lib.hid (h.out.chg hc.out hn)
theorem ktq {w a c : World} (h : Hid (Below w.heap.size w a)) (hb : Below a.heap.size a c) : Hid (Below w.heap.size w c) := Lib.hid (h.out.trans (hb.mono h.out.size))
theorem ksq {g : Nat} {w a c : World} (h : Hid (Below w.heap.size w a)) (hc : Hid (Chg g a c)) (hg : w.heap.size ≤ g) : Hid (Below w.heap.size w c) := Lib.hid (h.out.trans (hc.out.below hg h.out.size))
theorem kzq {B : Nat} {w a : World} (h : Hid (B ≤ w.heap.size)) (hb : w.heap.size ≤ a.heap.size) : Hid (B ≤ a.heap.size) := Lib.hid (Nat.le_trans h.out hb)
end Go.Proofs.Ytboplnhgafbgbaa
namespace Go.Proofs.Ytboplnhgafbgbaa
open Go.RowKit
/-- How an element lies in cells. -/
structure Enc (α : Type) where
 k : Nat
 E : α → List Value
 pos : 0 < k
 len : ∀ x, (E x).length = k
 one : ∀ x, ∀ u ∈ E x, u.oneCell' = true
def TRow {α : Type} (e : Enc α) (w : World) (v : Value) (xs : List α) : Prop :=
 ∃ p c, v = .slice p xs.length c ∧ xs.length ≤ c ∧ (xs = [] ∨ ∃ b o, p = some ⟨b, o, none⟩ ∧ b < w.heap.size ∧ ∀ i (h : i < xs.length) t, t < e.k → w.cell? ⟨b, o + i * e.k + t, none⟩ = (e.E xs[i])[t]?)
section
variable {α : Type} {e : Enc α}
theorem TRow.shape {w : World} {v : Value} {xs : List α} (h : TRow e w v xs) : ∃ p c, v = .slice p xs.length c := by obtain ⟨p, c, e, _⟩ := h; exact ⟨p, c, e⟩
theorem TRow.kept {w w' : World} {v : Value} {xs : List α} (h : TRow e w v xs) (hb : Below w.heap.size w w') : TRow e w' v xs := by
 obtain ⟨p, c, rfl, hc, h⟩ := h
 refine ⟨p, c, rfl, hc, ?_⟩
 rcases h with h | ⟨b, o, rfl, hlt, h⟩
 ·exact .inl h
 ·exact .inr ⟨b, o, rfl, Nat.lt_of_lt_of_le hlt hb.size, fun i hi t ht => (hb.cell (p := ⟨b, _, none⟩) hlt).trans (h i hi t ht)⟩
theorem TRow.nil_ (e : Enc α) (w : World) : TRow e w (.slice none 0 0) [] := ⟨none, 0, rfl, Nat.le_refl _, .inl rfl⟩
theorem TRow.cap {w : World} {p : Option Addr} {n c : Nat} {xs : List α} (h : TRow e w (.slice p n c) xs) : xs.length ≤ c := by
 obtain ⟨p', c', e1, hc, _⟩ := h
 cases e1
 exact hc
theorem TRow.at_ {w : World} {p : Option Addr} {n c : Nat} {xs : List α} (h : TRow e w (.slice p n c) xs) (i : Nat) (hi : i < xs.length) : ∃ b o, p = some ⟨b, o, none⟩ ∧ b < w.heap.size ∧ ∀ t, t < e.k → w.cell? ⟨b, o + i * e.k + t, none⟩ = (e.E xs[i])[t]? := by
 obtain ⟨p', c', e1, _, h⟩ := h
 cases e1
 rcases h with h | ⟨b, o, hp, hlt, h⟩
 ·subst h; simp at hi
 ·exact ⟨b, o, hp, hlt, h i hi⟩
/-- A part of it. -/
theorem TRow.take {w : World} {p : Option Addr} {n c : Nat} {xs : List α} (h : TRow e w (.slice p n c) xs) (m : Nat) (hm : m ≤ xs.length) : TRow e w (.slice p m c) (xs.take m) := by
 obtain ⟨p', c', e1, hc, h⟩ := h
 cases e1
 have hl : (xs.take m).length = m := by rw [List.length_take]; omega
 refine ⟨p, c, by rw [hl], by omega, ?_⟩
 rcases h with h | ⟨b, o, hp, hlt, h⟩
 ·left; rw [h]; simp
 ·refine .inr ⟨b, o, hp, hlt, fun i hi t ht => ?_⟩
  rw [List.getElem_take]
  exact h i (by omega) t ht
theorem TRow.tail {w : World} {p P : Option Addr} {n c c' N : Nat} {xs : List α} (h : TRow e w (.slice p n c) xs) (m : Nat) (hm : m ≤ xs.length) (hN : N = xs.length - m) (hc : N ≤ c') (hP : ∀ b o, p = some ⟨b, o, none⟩ → m < xs.length → P = some ⟨b, o + m * e.k, none⟩) : TRow e w (.slice P N c') (xs.drop m) := by
 have hl : (xs.drop m).length = xs.length - m := List.length_drop
 subst hN
 refine ⟨P, c', by rw [hl], by omega, ?_⟩
 by_cases hlt : m < xs.length
 ·right
  obtain ⟨b, o, rfl, hb, _⟩ := h.at_ m hlt
  refine ⟨b, _, hP b o rfl hlt, hb, fun i hi t ht => ?_⟩
  obtain ⟨b2, o2, e2, _, hx⟩ := h.at_ (m + i) (by omega)
  cases e2
  rw [List.getElem_drop, show o + m * e.k + i * e.k + t = o + (m + i) * e.k + t by rw [Nat.add_mul]; omega]
  exact hx t ht
 ·left
  exact List.drop_of_length_le (by omega)
def OwnT (e : Enc α) (w : World) (base : Nat) (ty : TypeId) (v : Value) (xs : List α) : Prop := w.ownsRow base ty e.k v xs.length (xs.flatMap e.E)
theorem flat_length (e : Enc α) (xs : List α) : (xs.flatMap e.E).length = xs.length * e.k := by
 induction xs with
 | nil => simp
 | cons x xs ih => rw [List.flatMap_cons, List.length_append, ih, e.len, List.length_cons, Nat.add_mul]; omega
theorem flat_get (e : Enc α) : ∀ (xs : List α) (i t : Nat) (hi : i < xs.length), t < e.k → (xs.flatMap e.E)[i * e.k + t]? = (e.E xs[i])[t]?
 | x :: xs, 0, t, _, ht => by
  rw [List.flatMap_cons, Nat.zero_mul, Nat.zero_add, List.getElem?_append_left (by rw [e.len]; exact ht)]
  rfl
 | x :: xs, i + 1, t, hi, ht => by
  have := flat_get e xs i t (by simpa using hi) ht
  rw [List.flatMap_cons, List.getElem?_append_right (by rw [e.len, Nat.add_mul]; omega), e.len, show (i + 1) * e.k + t - e.k = i * e.k + t by rw [Nat.add_mul]; omega, this]
  rfl
theorem flat_one (e : Enc α) (xs : List α) : ∀ u ∈ xs.flatMap e.E, u.oneCell' = true := by
 intro u hu
 obtain ⟨x, _, hx⟩ := List.mem_flatMap.1 hu
 exact e.one x u hx
theorem OwnT.form {w : World} {base : Nat} {ty : TypeId} {v : Value} {xs : List α} (h : OwnT e w base ty v xs) : ∃ p c, v = .slice p xs.length c := by
 obtain ⟨_, h⟩ := h
 rcases h with ⟨rfl, h0⟩ | ⟨g, cap, cur, rfl, _⟩
 ·exact ⟨none, 0, by rw [h0]⟩
 ·exact ⟨_, _, rfl⟩
theorem OwnT.nil_ (e : Enc α) (w : World) (base : Nat) (ty : TypeId) : OwnT e w base ty (.slice none 0 0) [] := ⟨by simp, .inl ⟨rfl, rfl⟩⟩
theorem OwnT.block_ge {w : World} {base : Nat} {ty : TypeId} {v : Value} {xs : List α} (h : OwnT e w base ty v xs) : ∀ g, v.ownBlock = some g → base ≤ g := by
 intro g hg
 rcases h.2 with ⟨rfl, _⟩ | ⟨g', cap, cur, rfl, hb, _⟩
 ·cases hg
 ·cases hg; exact hb
theorem OwnT.lt {w : World} {base : Nat} {ty : TypeId} {v : Value} {xs : List α} (h : OwnT e w base ty v xs) : ∀ g, v.ownBlock = some g → g < w.heap.size := fun g hg => (World.ownsRow.lt h g hg).2
theorem OwnT.stay {w w' : World} {base : Nat} {ty : TypeId} {v : Value} {xs : List α} (h : OwnT e w base ty v xs) (hk : ∀ g, v.ownBlock = some g → w'.heap[g]? = w.heap[g]?) : OwnT e w' base ty v xs := by
 refine ⟨h.1, ?_⟩
 rcases h.2 with h | ⟨g, cap, cur, rfl, hbg, hg, hr⟩
 ·exact .inl h
 ·exact .inr ⟨g, cap, cur, rfl, hbg, (hk g rfl).trans hg, hr⟩
theorem OwnT.later {w w' : World} {base : Nat} {ty : TypeId} {v : Value} {xs : List α} (h : OwnT e w base ty v xs) (hb : Below w.heap.size w w') : OwnT e w' base ty v xs := h.stay (fun g hg => hb.block g (h.lt g hg))
theorem OwnT.less {w : World} {base base' : Nat} {ty : TypeId} {v : Value} {xs : List α} (h : OwnT e w base ty v xs) (hb : base' ≤ base) : OwnT e w base' ty v xs := by
 refine ⟨h.1, ?_⟩
 rcases h.2 with h | ⟨g, cap, cur, rfl, hbg, hg, hr⟩
 ·exact .inl h
 ·exact .inr ⟨g, cap, cur, rfl, Nat.le_trans hb hbg, hg, hr⟩
theorem OwnT.row {w : World} {base : Nat} {ty : TypeId} {v : Value} {xs : List α} (h : OwnT e w base ty v xs) : TRow e w v xs := by
 obtain ⟨hl, h⟩ := h
 rcases h with ⟨rfl, h0⟩ | ⟨g, cap, cur, rfl, _, hg, hn, _, _, ht⟩
 ·have : xs = [] := List.length_eq_zero_iff.mp h0
  subst this
  exact TRow.nil_ e w
 ·refine ⟨_, cap, rfl, hn, .inr ⟨g, 0, rfl, lt_of_block hg, fun i hi t ht3 => ?_⟩⟩
  have hlt : i * e.k + t < xs.length * e.k := Nat.lt_of_lt_of_le (show i * e.k + t < (i + 1) * e.k by rw [Nat.add_mul]; omega) (Nat.mul_le_mul_right _ hi)
  rw [Nat.zero_add, cell_of_row w g _ cur ty (0, 0) hg]
  have h1 := congrArg (fun l => l[i * e.k + t]?) ht
  simp only [List.getElem?_take] at h1
  rw [if_pos hlt, flat_get e xs i t hi ht3] at h1
  simpa using h1
theorem TRow.newsAt {w : World} {a : Addr} {n c : Nat} {xs : List α} (h : TRow e w (.slice (some a) n c) xs) : ∀ (j : Nat) (u : Value), (xs.flatMap e.E)[j]? = some u → w.cell? (a.add j) = some u := by
 intro j u hj
 have hk := e.pos
 have hjl : j < xs.length * e.k := by
  rcases Nat.lt_or_ge j (xs.length * e.k) with h | h
  ·exact h
  ·rw [List.getElem?_eq_none (by rw [flat_length]; exact h)] at hj; cases hj
 have hi : j / e.k < xs.length := (Nat.div_lt_iff_lt_mul hk).2 hjl
 have hm : j % e.k < e.k := Nat.mod_lt _ hk
 obtain ⟨b, o, e1, _, hx⟩ := h.at_ (j / e.k) hi
 cases e1
 have e3 : j / e.k * e.k + j % e.k = j := by rw [Nat.mul_comm]; exact Nat.div_add_mod j e.k
 have hj2 := flat_get e xs (j / e.k) (j % e.k) hi hm
 rw [e3, hj] at hj2
 rw [addAt, hj2, ← hx _ hm, Nat.add_assoc, e3]
/-- The cells of one element, in a block. -/
theorem TRow.one_ (e : Enc α) {w : World} {b c : Nat} {cs : Array Value} {ty : TypeId} (x : α) (hB : Blk w b cs ty) (hcs : cs.toList = e.E x) (hc : 1 ≤ c) : TRow e w (.slice (some ⟨b, 0, none⟩) 1 c) [x] := by
 refine ⟨_, c, rfl, hc, .inr ⟨b, 0, rfl, hB.lt, fun i hi t ht => ?_⟩⟩
 have h0 : i = 0 := by simp at hi; exact hi
 subst h0
 rw [Nat.zero_mul, Nat.zero_add, hB.cell, ← Array.getElem?_toList, hcs]
 rfl
def EltT (e : Enc α) (P : Program) (t ty : TypeId) (z : Value) (bytes : Nat) : Prop := ∃ i, P.underlying t = some (.slice ty) ∧ P.info? ty = some i ∧ i.zero = some z ∧ i.size = e.k ∧ i.bytes = bytes
theorem eltT_mk {e : Enc α} {P : Program} {t ty : TypeId} {z : Value} {bytes : Nat} (ht : P.underlying t = some (.slice ty)) (h : (P.info? ty).map (fun i => (i.zero, i.size, i.bytes)) = some (some z, e.k, bytes)) : EltT e P t ty z bytes := by
 cases hi : P.info? ty with
 | none => rw [hi] at h; cases h
 | some i =>
  rw [hi] at h
  simp only [Option.map_some, Option.some.injEq, Prod.mk.injEq] at h
  exact ⟨i, ht, hi, h.1, h.2.1, h.2.2⟩
theorem run_append_t {P : Program} (w : World) (t r ty : TypeId) (z : Value) (bytes base : Nat) (he : EltT e P t ty z bytes) (hzs : z.cells.size = e.k) (hb8 : bytes ≤ 1000) (v y : Value) (xs ys : List α) (hown : OwnT e w base ty v xs) (hrow : TRow e w y ys)
  (h63 : xs.length + ys.length ≤ 1000000) (hbase : base ≤ w.heap.size) :
  ∃ v' w', (Builtin.append_ #[t, t] r #[v, y]).run P w = .ok v' w' ∧ OwnT e w' base ty v' (xs ++ ys) ∧ w.grownBy w' v.ownBlock ∧ (v'.ownBlock = v.ownBlock ∨ v'.ownBlock = some w.heap.size) := by
 obtain ⟨i, ht, hi, hz, hs, hby⟩ := he
 obtain ⟨p, c, rfl, hc, hr⟩ := id hrow
 have hbytes : (xs.length + ys.length) * bytes ≤ 140737488355328 := by
  have : (xs.length + ys.length) * bytes ≤ 1000000 * 1000 := Nat.mul_le_mul h63 hb8
  omega
 cases p with
 | some ad =>
  obtain ⟨v', w', hrun, hown', hg, _, hor⟩ := run_append_own_at (P := P) w base t r ty i z e.k bytes ht hi hz hs hby hzs e.pos v xs.length (xs.flatMap e.E) hown ad ys.length c (ys.flatMap e.E) (flat_length e ys) hrow.newsAt (flat_one e ys) (by unfold maxLen; omega) hbytes hbase
  refine ⟨v', w', hrun, ?_, hg, hor⟩
  unfold OwnT
  rw [List.flatMap_append, List.length_append]
  exact hown'
 | none =>
  have hy : ys = [] := by
   rcases hr with h | ⟨b, o, h, _⟩
   ·exact h
   ·cases h
  subst hy
  refine ⟨v, w, ?_, by simpa using hown, World.grownBy.refl _ _, .inl rfl⟩
  rcases hown.2 with ⟨rfl, h0⟩ | ⟨g, cap, cur, rfl, _, _, hnc, _⟩
  ·simp [Builtin.append_, run_underlying ht, sizeOf, typeInfo, hi, Builtin.lenOf, Builtin.firstCells]
  ·simp [Builtin.append_, run_underlying ht, sizeOf, typeInfo, hi, Builtin.lenOf, Builtin.firstCells, hnc, storeCells]
/-- In a plain region. -/
theorem wpList_append_t {P : Program} {w : World} {ops : Array Oper} {rest : List Oper} {o : Oper} {a : Act} {Q : Exit → Act → World → Prop} (hgd : o.guard = none) (s x : Operand) (t : TypeId)
  (ho : o.op = .call { callee := .builtin .append, args := #[s, x], argTypes := #[t, t] })
  (ty : TypeId) (z : Value) (bytes base : Nat) (he : EltT e P t ty z bytes) (hzs : z.cells.size = e.k) (hb8 : bytes ≤ 1000) (v y : Value) (xs ys : List α) (hs : a.eval s = v) (hx : a.eval x = y) (hown : OwnT e w base ty v xs) (hrow : TRow e w y ys)
  (h63 : xs.length + ys.length ≤ 1000000) (hbase : base ≤ w.heap.size) (L : List α) (N : Nat) (hL : xs ++ ys = L) (hN : L.length = N)
  (h : ∀ p' c' w', OwnT e w' base ty (.slice p' N c') L → w.grownBy w' v.ownBlock → Below base w w' → wpList P ops Q rest (a.put o.dst (.slice p' N c')) w') : wpList P ops Q (o :: rest) a w := by
 subst hL
 subst hN
 refine wpList_plain hgd fun K hK => ?_
 obtain ⟨v', w', hrun, h1, h2, _⟩ := run_append_t w t o.type ty z bytes base he hzs hb8 v y xs ys hown hrow h63 hbase
 unfold Oper.wp
 obtain ⟨p', c', rfl⟩ := h1.form
 simp [execOp, ho, resolve, invoke, builtin, hs, hx, hrun, Result.andThen]
 exact hK _ _ (by simpa using h p' c' w' h1 h2 ((Below.refl _ _).grown h2 hbase (fun g hg' => hown.block_ge g hg')))
/-- Slices in a slice: each the address of a row. -/
def RowsT (e : Enc α) (w : World) (b o : Nat) (vs : List Value) (xss : List (List α)) : Prop :=
 vs.length = xss.length ∧ ∀ i, i < xss.length → w.cell? ⟨b, o + i, none⟩ = some (vs.getD i undef) ∧ TRow e w (vs.getD i undef) (xss.getD i [])
theorem RowsT.two {w : World} {b : Nat} {cs : Array Value} {ty : TypeId} {v1 v2 : Value} {x1 x2 : List α} (hB : Blk w b cs ty) (hcs : cs = #[v1, v2]) (h1 : TRow e w v1 x1) (h2 : TRow e w v2 x2) : RowsT e w b 0 [v1, v2] [x1, x2] := by
 subst hcs
 refine ⟨rfl, fun i hi => ?_⟩
 match i, hi with
 | 0, _ => exact ⟨hB.cell 0, h1⟩
 | 1, _ => exact ⟨hB.cell 1, h2⟩
theorem RowsT.three {w : World} {b : Nat} {cs : Array Value} {ty : TypeId} {v1 v2 v3 : Value} {x1 x2 x3 : List α} (hB : Blk w b cs ty) (hcs : cs = #[v1, v2, v3]) (h1 : TRow e w v1 x1) (h2 : TRow e w v2 x2) (h3 : TRow e w v3 x3) : RowsT e w b 0 [v1, v2, v3] [x1, x2, x3] := by
 subst hcs
 refine ⟨rfl, fun i hi => ?_⟩
 match i, hi with
 | 0, _ => exact ⟨hB.cell 0, h1⟩
 | 1, _ => exact ⟨hB.cell 1, h2⟩
 | 2, _ => exact ⟨hB.cell 2, h3⟩
def catT (xss : List (List α)) (k : Nat) : List α := (xss.take k).flatten
theorem catT_succ (xss : List (List α)) (k : Nat) (h : k < xss.length) : catT xss k ++ xss.getD k [] = catT xss (k + 1) := by
 unfold catT
 rw [List.take_succ_eq_append_getElem h, List.flatten_append, List.getD_eq_getElem?_getD, List.getElem?_eq_getElem h]; simp
theorem catT_len (xss : List (List α)) (k : Nat) (h : k < xss.length) : (catT xss (k + 1)).length = (catT xss k).length + (xss.getD k []).length := by rw [← catT_succ xss k h, List.length_append]
theorem catT_le (xss : List (List α)) (k : Nat) : (catT xss k).length ≤ xss.flatten.length := by
 unfold catT
 have : xss.flatten = (xss.take k).flatten ++ (xss.drop k).flatten := by rw [← List.flatten_append, List.take_append_drop]
 rw [this, List.length_append]; omega
def CatRelT (e : Enc α) (ty : TypeId) (w : World) (xss : List (List α)) (k : Nat) (v : Value) (wr : World) : Prop := OwnT e wr w.heap.size ty v (catT xss k) ∧ Below w.heap.size w wr
end
end Go.Proofs.Ytboplnhgafbgbaa
namespace Go.Proofs.Ytboplnhgafbgbaa
open Go.RowKit
/-- A line: seller, number, buyer, amount. -/
structure Lin where
 s : Int
 n : Int
 b : Int
 a : Int
def Lin.cells (x : Lin) : List Value := [.int .i64 x.s, .int .i64 x.n, .int .i64 x.b, .int .i64 x.a]
def encN : Enc Lin := ⟨4, Lin.cells, by decide, fun _ => rfl, by intro x u hu; simp [Lin.cells] at hu; rcases hu with rfl | rfl | rfl | rfl <;> rfl⟩
def I64 (z : Int) : Prop := -9223372036854775808 ≤ z ∧ z ≤ 9223372036854775807
def Lin.Fit (x : Lin) : Prop := I64 x.s ∧ I64 x.n ∧ I64 x.b ∧ I64 x.a
structure Msg where
 k : Int
 s : Int
 n : Int
 b : Int
 c : Int
 r : Int
 y : Int
 a : Int
 t : Bool
 ls : List Lin
 ns : List Int
def Msg.cells (m : Msg) (vl vn : Value) : List Value := [.int .i64 m.k, .int .i64 m.s, .int .i64 m.n, .int .i64 m.b, .int .i64 m.c, .int .i64 m.r, .int .i64 m.y, .int .i64 m.a, .bool m.t, vl, vn]
def Msg.v (m : Msg) (vl vn : Value) : Value := .agg #[.int .i64 m.k, .int .i64 m.s, .int .i64 m.n, .int .i64 m.b, .int .i64 m.c, .int .i64 m.r, .int .i64 m.y, .int .i64 m.a, .bool m.t, vl, vn]
def Msg.Fit (m : Msg) : Prop := (I64 m.k ∧ I64 m.s ∧ I64 m.n ∧ I64 m.b ∧ I64 m.c ∧ I64 m.r ∧ I64 m.y ∧ I64 m.a) ∧ (∀ x ∈ m.ls, x.Fit) ∧ (∀ z ∈ m.ns, I64 z)
end Go.Proofs.Ytboplnhgafbgbaa
namespace Go.Proofs.Ytboplnhgafbgbaa
open Go.ChangeShapes Go.WideShapes Go.ChangeAt Go.RowKit
theorem row_of_open {W : World} (x : Addr) (zs : List Int) {len cap : Nat} (hz : zs.length = cap) (hl : len ≤ cap) (hcell : ∀ i, i < zs.length → W.cell? (x.add i) = some (.int .i64 (zs.getD i 0))) (hwz : ∀ n ∈ zs, (Lit.int .i64 n).wf = true) :
  ∃ ys, Row .i64 W (.slice (some x) len cap) ys ∧ All64 ys := by
 have hlen : (zs.take len).length = len := by rw [List.length_take]; omega
 refine ⟨zs.take len, ⟨some x, cap, by rw [hlen], by omega, ?_⟩, fun a ha => bounds_i64 (hwz a (List.mem_of_mem_take ha))⟩
 by_cases h0 : len = 0
 ·left; subst h0; simp
 ·obtain ⟨b, off, rfl, hc⟩ := ints_at hcell (by omega)
  refine .inr ⟨b, off, rfl, fun i hi => ?_⟩
  rw [hlen] at hi
  rw [hc i (by omega), List.getD_eq_getElem?_getD, List.getD_eq_getElem?_getD, List.getElem?_take, if_pos hi]
end Go.Proofs.Ytboplnhgafbgbaa
namespace Go.Proofs.Ytboplnhgafbgbaa
open Go.ChangeShapes Go.WideShapes Go.ChangeAt Go.RowKit
theorem trow_of_open {α : Type} {H : Type} {enc : TypeId × Value → H} {P : Program} {w : World} {base : Nat} {held : Bool} {t e : TypeId} {fuel : Nat} {a : Option Addr} {len cap : Nat} {x : DataW H × List MemPlace} (E : Enc α) (F : α → Prop)
  (ht : P.underlying t = some (.slice e)) (ce : P.cellsOf e = E.k)
  (rd : ∀ (fuel : Nat) (cs : List Value) (y : DataW H × List MemPlace), cs.length = E.k → DataW.trod enc P w base (fun _ => true) held fuel e cs = some y → ∃ a, cs = E.E a ∧ F a)
  (h : DataW.trod enc P w base (fun _ => true) held fuel t (Value.slice a len cap).cells.toList = some x) : ∃ xs, TRow E w (.slice a len cap) xs ∧ ∀ x ∈ xs, F x := by
 have h' : DataW.trod enc P w base (fun _ => true) held fuel t [.slice a len cap] = some x := by simpa [Value.cells] using h
 rcases Go.Deep.open_slice ht h' with ⟨hcs, _⟩ | ⟨a', len', cap', m, n, D, Pl, hcs, hb, hl, hm, hmm, rfl, hx⟩
 ·simp at hcs
  obtain ⟨rfl, rfl, rfl⟩ := hcs
  exact ⟨[], TRow.nil_ E w, (fun _ h => by cases h)⟩
 ·simp at hcs
  obtain ⟨rfl, rfl, rfl⟩ := hcs
  have hlm : len ≤ m := by rw [hmm]; split <;> omega
  have each : ∀ i, i < m → ∃ y : α, F y ∧ ∀ t, t < E.k → w.cell? (a'.add (i * E.k + t)) = (E.E y)[t]? := by
   intro i hi
   obtain ⟨cs', h1, h2⟩ := hx i hi
   rw [ce] at h1
   obtain ⟨_, hlen, hcell⟩ := World.cells?_some h1
   obtain ⟨y, rfl, hF⟩ := rd _ _ _ hlen h2
   refine ⟨y, hF, fun t ht => ?_⟩
   have e0 := hcell t (by omega)
   rw [Go.Deep.add_add] at e0
   rw [e0, List.getElem?_eq_getElem (by rw [E.len]; exact ht)]
  by_cases h0 : len = 0
  ·subst h0
   exact ⟨[], ⟨_, _, rfl, Nat.zero_le _, .inl rfl⟩, (fun _ h => by cases h)⟩
  ·obtain ⟨q0, _⟩ := each 0 (by omega)
   have each' : ∀ i, ∃ y : α, i < m → F y ∧ ∀ t, t < E.k → w.cell? (a'.add (i * E.k + t)) = (E.E y)[t]? := by
    intro i
    by_cases hi : i < m
    ·obtain ⟨y, hy⟩ := each i hi
     exact ⟨y, fun _ => hy⟩
    ·exact ⟨q0, fun h => absurd h hi⟩
   let q : Nat → α := fun i => Classical.choose (each' i)
   have hq : ∀ i, i < m → F (q i) ∧ ∀ t, t < E.k → w.cell? (a'.add (i * E.k + t)) = (E.E (q i))[t]? := fun i => Classical.choose_spec (each' i)
   have hL : ((List.range len).map q).length = len := by simp
   refine ⟨(List.range len).map q, ⟨some a', cap, by rw [hL], by rw [hL]; exact hl, .inr ?_⟩, fun z hz => ?_⟩
   ·obtain ⟨b, off, spot⟩ := a'
    have hk := E.pos
    have h00 := (hq 0 (by omega)).2 0 hk
    rw [List.getElem?_eq_getElem (by rw [E.len]; exact hk)] at h00
    have hspot : spot = none := by simpa [Addr.add] using World.cell?_spot h00
    subst hspot
    refine ⟨b, off, rfl, ?_, fun i hi t ht => ?_⟩
    ·rw [addAt] at h00
     exact World.block_lt_of_cell? w _ h00
    ·rw [hL] at hi
     have := (hq i (by omega)).2 t ht
     rw [addAt] at this
     rw [Nat.add_assoc, this]
     simp
   ·obtain ⟨i, hi, rfl⟩ := List.mem_map.1 hz
    exact (hq i (by have := List.mem_range.1 hi; omega)).1
end Go.Proofs.Ytboplnhgafbgbaa
namespace Go.Proofs.Ytboplnhgafbgbaa
open Go.ChangeShapes Go.WideShapes Go.ChangeAt Go.RowKit
section
variable {H : Type} {enc : TypeId × Value → H} {P : Program} {w : World} {base : Nat} {held : Bool}
theorem lin_read {t : TypeId} {g f0 f1 f2 f3 : Field}
  (ht : P.underlying t = some (.struct #[g, f2, f3])) (hg : P.underlying g.type = some (.struct #[f0, f1]))
  (og : g.offset = 0) (o0 : f0.offset = 0) (o1 : f1.offset = 1) (o2 : f2.offset = 2) (o3 : f3.offset = 3)
  (u0 : P.underlying f0.type = some (.int .i64)) (u1 : P.underlying f1.type = some (.int .i64)) (u2 : P.underlying f2.type = some (.int .i64)) (u3 : P.underlying f3.type = some (.int .i64))
  (cc : P.cellsOf g.type = 2 ∧ P.cellsOf f0.type = 1 ∧ P.cellsOf f1.type = 1 ∧ P.cellsOf f2.type = 1 ∧ P.cellsOf f3.type = 1)
  (fuel : Nat) (cs : List Value) (y : DataW H × List MemPlace) (hl : cs.length = 4) (hf : DataW.trod enc P w base (fun _ => true) held fuel t cs = some y) : ∃ x : Lin, cs = x.cells ∧ x.Fit := by
 obtain ⟨cg, c0, c1, c2, c3⟩ := cc
 match cs, hl with
 | [v0, v1, v2, v3], _ =>
  obtain ⟨xs, k, hk, hxy, _, hxl, hf⟩ := DataW.trod_struct ht hf
  match xs, hxl with
  | [yg, y2, y3], _ =>
   have gg := hf 0 g rfl
   have g2 := hf 1 f2 rfl
   have g3 := hf 2 f3 rfl
   simp [og, o2, o3, cg, c2, c3] at gg g2 g3
   obtain ⟨xs', k', hk', hxy', _, hxl', hf'⟩ := DataW.trod_struct hg gg
   match xs', hxl' with
   | [y0, y1], _ =>
    have g0 := hf' 0 f0 rfl
    have g1 := hf' 1 f1 rfl
    simp [o0, o1, c0, c1] at g0 g1
    obtain ⟨z0, q0, _, w0⟩ := DataW.trod_int u0 g0
    obtain ⟨z1, q1, _, w1⟩ := DataW.trod_int u1 g1
    obtain ⟨z2, q2, _, w2⟩ := DataW.trod_int u2 g2
    obtain ⟨z3, q3, _, w3⟩ := DataW.trod_int u3 g3
    simp at q0 q1 q2 q3
    subst q0 q1 q2 q3
    exact ⟨⟨z0, z1, z2, z3⟩, rfl, bounds_i64 w0, bounds_i64 w1, bounds_i64 w2, bounds_i64 w3⟩
theorem lines_of_read {s t : TypeId} {fuel : Nat} {c : Value} {y : DataW H × List MemPlace}
  (hs : P.underlying s = some (.slice t)) (ct : P.cellsOf t = 4)
  (rd : ∀ (fuel : Nat) (cs : List Value) (y : DataW H × List MemPlace), cs.length = 4 → DataW.trod enc P w base (fun _ => true) held fuel t cs = some y → ∃ x : Lin, cs = x.cells ∧ x.Fit)
  (h : DataW.trod enc P w base (fun _ => true) held fuel s [c] = some y) : ∃ xs, TRow encN w c xs ∧ ∀ x ∈ xs, x.Fit := by
 have hc : ∃ a l cap, c = .slice a l cap := by
  rcases Go.Deep.open_slice hs h with ⟨hcs, _⟩ | ⟨a', len', cap', m, n, D, Pl, hcs, _⟩
  ·simp at hcs; exact ⟨_, _, _, hcs⟩
  ·simp at hcs; exact ⟨_, _, _, hcs⟩
 obtain ⟨a, l, cap, rfl⟩ := hc
 exact trow_of_open encN Lin.Fit hs ct rd (by simpa [Value.cells] using h)
end
end Go.Proofs.Ytboplnhgafbgbaa
namespace Go.Proofs.Ytboplnhgafbgbaa
open Go.RowKit
/-- Bytes in a slice. -/
def Oct (zs : List Int) : Prop := ∀ a ∈ zs, 0 ≤ a ∧ a < 256
theorem Oct.getD {zs : List Int} (h : Oct zs) (i : Nat) : 0 ≤ zs.getD i 0 ∧ zs.getD i 0 < 256 := by
 rw [List.getD_eq_getElem?_getD]
 by_cases hi : i < zs.length
 ·rw [List.getElem?_eq_getElem hi]; exact h _ (List.getElem_mem hi)
 ·rw [List.getElem?_eq_none (by omega)]; simp
def natsOf (zs : List Int) : List Nat := zs.map Int.toNat
theorem natsOf_length (zs : List Int) : (natsOf zs).length = zs.length := by simp [natsOf]
theorem natsOf_append (a b : List Int) : natsOf (a ++ b) = natsOf a ++ natsOf b := List.map_append
theorem natsOf_take (zs : List Int) (k : Nat) : natsOf (zs.take k) = (natsOf zs).take k := List.map_take
theorem natsOf_drop (zs : List Int) (k : Nat) : natsOf (zs.drop k) = (natsOf zs).drop k := List.map_drop
theorem natsOf_getD (zs : List Int) (i : Nat) : (natsOf zs).getD i 0 = (zs.getD i 0).toNat := by
 unfold natsOf
 rw [List.getD_eq_getElem?_getD, List.getD_eq_getElem?_getD, List.getElem?_map]
 cases zs[i]? <;> simp
theorem Oct.take {zs : List Int} (h : Oct zs) (k : Nat) : Oct (zs.take k) := fun a ha => h a (List.mem_of_mem_take ha)
theorem Oct.drop {zs : List Int} (h : Oct zs) (k : Nat) : Oct (zs.drop k) := fun a ha => h a (List.mem_of_mem_drop ha)
theorem Oct.append {a b : List Int} (ha : Oct a) (hb : Oct b) : Oct (a ++ b) := by
 intro x hx
 rcases List.mem_append.1 hx with h | h
 ·exact ha x h
 ·exact hb x h
theorem Oct.back {a b : List Int} (ha : Oct a) (hb : Oct b) (h : natsOf a = natsOf b) : a = b := by
 induction a generalizing b with
 | nil => cases b with
  | nil => rfl
  | cons => cases h
 | cons x a ih =>
  cases b with
  | nil => cases h
  | cons y b =>
   simp only [natsOf, List.map_cons, List.cons.injEq] at h
   have h1 := ha x (by simp)
   have h2 := hb y (by simp)
   rw [ih (fun z hz => ha z (by simp [hz])) (fun z hz => hb z (by simp [hz])) h.2, show x = y by omega]
end Go.Proofs.Ytboplnhgafbgbaa
namespace Go.Proofs.Ytboplnhgafbgbaa
open Go.ChangeShapes Go.WideShapes Go.ChangeAt Go.RowKit
theorem rowK_of_open {W : World} (k : IntKind) (x : Addr) (zs : List Int) {len cap : Nat} (hz : zs.length = cap) (hl : len ≤ cap) (hm : cap ≤ 140737488355328) (hcell : ∀ i, i < zs.length → W.cell? (x.add i) = some (.int k (zs.getD i 0))) (hwz : ∀ n ∈ zs, (Lit.int k n).wf = true) :
  ∃ ys, (∀ n ∈ ys, (Lit.int k n).wf = true) ∧ Row k W (.slice (some x) len cap) ys ∧ ys.length ≤ 140737488355328 := by
 have hlen : (zs.take len).length = len := by rw [List.length_take]; omega
 refine ⟨zs.take len, fun a ha => hwz a (List.mem_of_mem_take ha), ⟨some x, cap, by rw [hlen], by omega, ?_⟩, by omega⟩
 by_cases h0 : len = 0
 ·left; subst h0; simp
 ·obtain ⟨b, off, rfl, hc⟩ := ints_at hcell (by omega)
  refine .inr ⟨b, off, rfl, fun i hi => ?_⟩
  rw [hlen] at hi
  rw [hc i (by omega), List.getD_eq_getElem?_getD, List.getD_eq_getElem?_getD, List.getElem?_take, if_pos hi]
theorem oct_of_wf {zs : List Int} (h : ∀ n ∈ zs, (Lit.int .u8 n).wf = true) : Oct zs := fun a ha => by have := bounds_u8 (h a ha); omega
end Go.Proofs.Ytboplnhgafbgbaa
namespace Go.Proofs.Ytboplnhgafbgbaa
open Go.ChangeShapes Go.WideShapes Go.ChangeAt Go.RowKit
section
variable {H : Type} {enc : TypeId × Value → H} {P : Program} {w : World} {base : Nat} {held : Bool}
theorem nets_of_read {e q : TypeId} {fuel : Nat} {c : Value} {y : DataW H × List MemPlace}
  (he : P.underlying e = some (.slice q)) (hq : P.underlying q = some (.int .i64)) (cq : P.cellsOf q = 1) (h : DataW.trod enc P w base (fun _ => true) held fuel e [c] = some y) : ∃ zs, All64 zs ∧ Row .i64 w c zs := by
 rcases open_ints he hq cq h with ⟨hcs, _⟩ | ⟨x, l, cap, zs, hcs, _, hl, _, hz, _, hcell, hwz⟩
 ·simp at hcs
  subst hcs
  exact ⟨[], (fun _ h => by cases h), none, 0, rfl, Nat.le_refl _, .inl rfl⟩
 ·simp at hcs
  subst hcs
  obtain ⟨ys, h1, h2⟩ := row_of_open x zs (by simpa using hz) hl hcell hwz
  exact ⟨ys, h2, h1⟩
/-- A message as it lies in cells, with where its lists lie. -/
structure MsgX where
 m : Msg
 pl : Option Addr
 cl : Nat
 pn : Option Addr
 cn : Nat
def MsgX.vl (x : MsgX) : Value := .slice x.pl x.m.ls.length x.cl
def MsgX.vn (x : MsgX) : Value := .slice x.pn x.m.ns.length x.cn
def MsgX.cells (x : MsgX) : List Value := x.m.cells x.vl x.vn
def encM : Enc MsgX := ⟨11, MsgX.cells, by decide, fun _ => rfl, by intro x u hu; simp [MsgX.cells, Msg.cells, MsgX.vl, MsgX.vn] at hu; rcases hu with rfl | rfl | rfl | rfl | rfl | rfl | rfl | rfl | rfl | rfl | rfl <;> rfl⟩
structure MsgX.In (w : World) (x : MsgX) : Prop where
 ls : TRow encN w x.vl x.m.ls
 ns : Row .i64 w x.vn x.m.ns
 fit : x.m.Fit
theorem MsgX.In.kept {w w' : World} {x : MsgX} (h : x.In w) (hb : Below w.heap.size w w') : x.In w' := ⟨h.ls.kept hb, h.ns.kept hb, h.fit⟩
theorem msg_read {t sl tl sn q : TypeId} {fk g f0 f1 f2 f3 f4 f5 f6 f7 f8 f9 : Field}
  (ht : P.underlying t = some (.struct #[fk, g, f2, f3, f4, f5, f6, f7, f8, f9])) (hg : P.underlying g.type = some (.struct #[f0, f1]))
  (ok : fk.offset = 0) (og : g.offset = 1) (o0 : f0.offset = 0) (o1 : f1.offset = 1) (o2 : f2.offset = 3) (o3 : f3.offset = 4) (o4 : f4.offset = 5) (o5 : f5.offset = 6) (o6 : f6.offset = 7) (o7 : f7.offset = 8) (o8 : f8.offset = 9) (o9 : f9.offset = 10)
  (uk : P.underlying fk.type = some (.int .i64)) (u0 : P.underlying f0.type = some (.int .i64)) (u1 : P.underlying f1.type = some (.int .i64)) (u2 : P.underlying f2.type = some (.int .i64)) (u3 : P.underlying f3.type = some (.int .i64)) (u4 : P.underlying f4.type = some (.int .i64)) (u5 : P.underlying f5.type = some (.int .i64)) (u6 : P.underlying f6.type = some (.int .i64)) (u7 : P.underlying f7.type = some .bool)
  (t8 : f8.type = sl) (t9 : f9.type = sn) (hs : P.underlying sl = some (.slice tl)) (ct : P.cellsOf tl = 4)
  (rd : ∀ (fuel : Nat) (cs : List Value) (y : DataW H × List MemPlace), cs.length = 4 → DataW.trod enc P w base (fun _ => true) held fuel tl cs = some y → ∃ x : Lin, cs = x.cells ∧ x.Fit)
  (hn : P.underlying sn = some (.slice q)) (hq : P.underlying q = some (.int .i64)) (cq : P.cellsOf q = 1)
  (cc : P.cellsOf fk.type = 1 ∧ P.cellsOf g.type = 2 ∧ P.cellsOf f0.type = 1 ∧ P.cellsOf f1.type = 1 ∧ P.cellsOf f2.type = 1 ∧ P.cellsOf f3.type = 1 ∧ P.cellsOf f4.type = 1 ∧ P.cellsOf f5.type = 1 ∧ P.cellsOf f6.type = 1 ∧ P.cellsOf f7.type = 1 ∧ P.cellsOf sl = 1 ∧ P.cellsOf sn = 1)
  (fuel : Nat) (cs : List Value) (y : DataW H × List MemPlace) (hl : cs.length = 11) (hf : DataW.trod enc P w base (fun _ => true) held fuel t cs = some y) : ∃ x : MsgX, cs = x.cells ∧ x.In w := by
 obtain ⟨ck, cg, c0, c1, c2, c3, c4, c5, c6, c7, c8, c9⟩ := cc
 match cs, hl with
 | [vk, v0, v1, v2, v3, v4, v5, v6, v7, v8, v9], _ =>
  obtain ⟨xs, k, hk, hxy, _, hxl, hf⟩ := DataW.trod_struct ht hf
  match xs, hxl with
  | [yk, yg, y2, y3, y4, y5, y6, y7, y8, y9], _ =>
   have gk := hf 0 fk rfl
   have gg := hf 1 g rfl
   have g2 := hf 2 f2 rfl
   have g3 := hf 3 f3 rfl
   have g4 := hf 4 f4 rfl
   have g5 := hf 5 f5 rfl
   have g6 := hf 6 f6 rfl
   have g7 := hf 7 f7 rfl
   have g8 := hf 8 f8 rfl
   have g9 := hf 9 f9 rfl
   subst t8 t9
   simp [ok, og, o2, o3, o4, o5, o6, o7, o8, o9, ck, cg, c2, c3, c4, c5, c6, c7, c8, c9] at gk gg g2 g3 g4 g5 g6 g7 g8 g9
   obtain ⟨xs', k', hk', hxy', _, hxl', hf'⟩ := DataW.trod_struct hg gg
   match xs', hxl' with
   | [y0, y1], _ =>
    have g0 := hf' 0 f0 rfl
    have g1 := hf' 1 f1 rfl
    simp [o0, o1, c0, c1] at g0 g1
    obtain ⟨zk, qk, _, wk⟩ := DataW.trod_int uk gk
    obtain ⟨z0, q0, _, w0⟩ := DataW.trod_int u0 g0
    obtain ⟨z1, q1, _, w1⟩ := DataW.trod_int u1 g1
    obtain ⟨z2, q2, _, w2⟩ := DataW.trod_int u2 g2
    obtain ⟨z3, q3, _, w3⟩ := DataW.trod_int u3 g3
    obtain ⟨z4, q4, _, w4⟩ := DataW.trod_int u4 g4
    obtain ⟨z5, q5, _, w5⟩ := DataW.trod_int u5 g5
    obtain ⟨z6, q6, _, w6⟩ := DataW.trod_int u6 g6
    obtain ⟨z7, q7, _⟩ := DataW.trod_bool u7 g7
    obtain ⟨L, rL, fL⟩ := lines_of_read hs ct rd g8
    obtain ⟨N, fN, rN⟩ := nets_of_read hn hq cq g9
    simp at qk q0 q1 q2 q3 q4 q5 q6 q7
    subst qk q0 q1 q2 q3 q4 q5 q6 q7
    obtain ⟨pl, cl, rfl⟩ := rL.shape
    obtain ⟨pn, cn, rfl⟩ := rN.shape
    exact ⟨⟨⟨zk, z0, z1, z2, z3, z4, z5, z6, z7, L, N⟩, pl, cl, pn, cn⟩, rfl, rL, rN, ⟨bounds_i64 wk, bounds_i64 w0, bounds_i64 w1, bounds_i64 w2, bounds_i64 w3, bounds_i64 w4, bounds_i64 w5, bounds_i64 w6⟩, fL, fN⟩
theorem msg_of_open {t : TypeId} {fs : Array Field} {r : Reach} {b0 : Nat} {v : Value} {d : DataW H} {pl : List MemPlace}
  (ht : P.underlying t = some (.struct fs)) (ct : P.cellsOf t = 11)
  (rd : ∀ (fuel : Nat) (cs : List Value) (y : DataW H × List MemPlace), cs.length = 11 → DataW.trod enc P w base (fun _ => true) held fuel t cs = some y → ∃ x : MsgX, cs = x.cells ∧ x.In w)
  (hv : Value.okWide P w r b0 t v) (h : DataW.Trod enc P w base (fun _ => true) held t v d pl) : ∃ x : MsgX, v = x.m.v x.vl x.vn ∧ x.In w := by
 obtain ⟨cs, rfl, hsz⟩ := okWide_struct ht hv
 obtain ⟨fuel, hf⟩ := h
 obtain ⟨l⟩ := cs
 have hf' : DataW.trod enc P w base (fun _ => true) held fuel t l = some (d, pl) := by simpa [Value.cells] using hf
 obtain ⟨x, hx, hin⟩ := rd fuel l _ (by simpa using hsz.trans ct) hf'
 subst hx
 exact ⟨x, rfl, hin⟩
end
end Go.Proofs.Ytboplnhgafbgbaa
namespace Go.Proofs.Ytboplnhgafbgbaa
open Go.RowKit
theorem blk_put {b : Nat} {t : TypeId} : ∀ (vs : List Value) (o : Nat) (Z : Array Value) (w : World), Blk w b Z t → ∃ Z' : Array Value, Blk (w.setCells b o vs) b Z' t ∧ Z'.size = Z.size ∧ ∀ j, (j < o ∨ o + vs.length ≤ j → Z'[j]? = Z[j]?) ∧ (∀ (_ : o ≤ j), j < o + vs.length → j < Z.size → Z'[j]? = vs[j - o]?)
 | [], o, Z, w, h => ⟨Z, h, rfl, fun j => ⟨fun _ => rfl, fun h1 h2 _ => by simp at h2; omega⟩⟩
 | v :: r, o, Z, w, h => by
  obtain ⟨Z', h1, h2, h3⟩ := blk_put r (o + 1) (Z.setIfInBounds o v) (w.setCell ⟨b, o, none⟩ v) (h.set o v)
  refine ⟨Z', by rw [World.setCells]; exact h1, by rw [h2, Array.size_setIfInBounds], fun j => ⟨fun hj => ?_, fun ho hj hz => ?_⟩⟩
  ·rw [(h3 j).1 (by simp at hj; omega), Array.getElem?_setIfInBounds_ne (by simp at hj; omega)]
  ·by_cases he : j = o
   ·subst he
    rw [(h3 j).1 (.inl (by omega)), Array.getElem?_setIfInBounds_self_of_lt hz]
    simp
   ·rw [(h3 j).2 (by omega) (by simp at hj; omega) (by rw [Array.size_setIfInBounds]; exact hz), show j - o = (j - (o + 1)) + 1 by omega, List.getElem?_cons_succ]
theorem blk_put_all {w : World} {b : Nat} {t : TypeId} {Z : Array Value} (h : Blk w b Z t) (cs : Array Value) (hs : Z.size = cs.size) : Blk (w.setCells b 0 cs.toList) b cs t := by
 obtain ⟨Z', h1, h2, h3⟩ := blk_put cs.toList 0 Z w h
 have e : Z' = cs := by
  apply Array.ext_getElem?
  intro j
  by_cases hj : j < cs.size
  ·rw [(h3 j).2 (Nat.zero_le _) (by simpa using hj) (by omega)]; simp
  ·rw [Array.getElem?_eq_none (by omega), Array.getElem?_eq_none (by omega)]
 rw [← e] at h1 ⊢
 exact h1
theorem Blk.thereAt {w : World} {b : Nat} {cs : Array Value} {t : TypeId} (h : Blk w b cs t) : w.there b 0 cs.size := fun j hj => by
 refine ⟨?_, h.free _⟩
 rw [Nat.zero_add, h.cell j, Array.getElem?_eq_getElem hj]
 rfl
theorem below_put {B b : Nat} (hB : B ≤ b) : ∀ (vs : List Value) (o : Nat) (a w : World), Below B a w → Below B a (w.setCells b o vs)
 | [], _, _, _, h => h
 | v :: r, o, a, w, h => by
  rw [World.setCells]
  exact below_put hB r (o + 1) a _ (h.setCell (p := ⟨b, o, none⟩) hB v)
theorem blk_putOther {b g : Nat} {t : TypeId} {cs : Array Value} (hne : b ≠ g) : ∀ (vs : List Value) (o : Nat) (w : World), Blk w g cs t → Blk (w.setCells b o vs) g cs t
 | [], _, _, h => h
 | v :: r, o, w, h => by
  rw [World.setCells]
  exact blk_putOther hne r (o + 1) _ (h.setOther (a := ⟨b, o, none⟩) hne v)
section
variable {α : Type} {e : Enc α}
theorem mul_lt_of {i n k t : Nat} (hi : i < n) (ht : t < k) : i * k + t < n * k :=
 Nat.lt_of_lt_of_le (show i * k + t < (i + 1) * k by rw [Nat.add_mul]; omega) (Nat.mul_le_mul_right _ hi)
/-- Where an own slice lies. -/
theorem OwnT.lies {w : World} {base n c : Nat} {ty : TypeId} {p : Option Addr} {xs : List α} (h : OwnT e w base ty (.slice p n c) xs) (hn : 0 < n) : ∃ g cur, p = some ⟨g, 0, none⟩ ∧ base ≤ g ∧ Blk w g cur ty ∧ n ≤ c ∧ c ≤ maxLen ∧ cur.size = c * e.k ∧ cur.toList.take (n * e.k) = xs.flatMap e.E ∧ n = xs.length := by
 have hl : n = xs.length := by
  obtain ⟨p', c', e1⟩ := h.form
  exact (Value.slice.inj e1).2.1
 rcases h.2 with ⟨e1, h0⟩ | ⟨g, cap, cur, e1, hb, hg, hn2, hm, hs, ht⟩
 ·omega
 ·cases e1
  exact ⟨g, cur, rfl, hb, hg, hn2, hm, hs, ht, rfl⟩
theorem OwnT.mk' {w : World} {base n c g : Nat} {ty : TypeId} {cur : Array Value} {xs : List α} (hl : n = xs.length) (hb : base ≤ g) (hg : Blk w g cur ty) (hn : n ≤ c) (hm : c ≤ maxLen) (hs : cur.size = c * e.k) (ht : cur.toList.take (n * e.k) = xs.flatMap e.E) : OwnT e w base ty (.slice (some ⟨g, 0, none⟩) n c) xs := by
 subst hl
 exact ⟨flat_length e xs, .inr ⟨g, c, cur, rfl, hb, hg, hn, hm, hs, ht⟩⟩
/-- An element is stored. -/
theorem OwnT.put {w : World} {base n c g : Nat} {ty : TypeId} {xs : List α} (h : OwnT e w base ty (.slice (some ⟨g, 0, none⟩) n c) xs) (i : Nat) (hi : i < n) (x : α) : OwnT e (w.setCells g (i * e.k) (e.E x)) base ty (.slice (some ⟨g, 0, none⟩) n c) (xs.set i x) := by
 obtain ⟨g', cur, e1, hb, hg, hn, hm, hs, ht, hl⟩ := h.lies (by omega)
 cases e1
 obtain ⟨Z', z1, z2, z3⟩ := blk_put (e.E x) (i * e.k) cur w hg
 refine OwnT.mk' (by rw [List.length_set]; exact hl) hb z1 hn hm (by rw [z2, hs]) ?_
 apply List.ext_getElem?
 intro j
 have hk := e.pos
 by_cases hj : j < n * e.k
 ·have hq : j / e.k < n := (Nat.div_lt_iff_lt_mul hk).2 hj
  have hr : j % e.k < e.k := Nat.mod_lt _ hk
  have e3 : j / e.k * e.k + j % e.k = j := by rw [Nat.mul_comm]; exact Nat.div_add_mod j e.k
  have hjc : j < cur.size := by rw [hs]; exact Nat.lt_of_lt_of_le hj (Nat.mul_le_mul_right _ hn)
  have hset := flat_get e (xs.set i x) (j / e.k) (j % e.k) (by rw [List.length_set]; omega) hr
  rw [e3] at hset
  rw [hset, List.getElem?_take, if_pos hj, Array.getElem?_toList, List.getElem_set]
  by_cases hqi : i = j / e.k
  ·rw [if_pos hqi]
   have h1 : i * e.k ≤ j := by rw [hqi]; omega
   have h2 : j < i * e.k + e.k := by rw [hqi]; omega
   rw [(z3 j).2 h1 (by rw [e.len]; exact h2) hjc]
   congr 1
   rw [hqi]; omega
  ·rw [if_neg hqi]
   have hout : j < i * e.k ∨ i * e.k + (e.E x).length ≤ j := by
    rw [e.len]
    rcases Nat.lt_or_gt_of_ne hqi with hh | hh
    ·right
     have := Nat.mul_le_mul_right e.k (show i + 1 ≤ j / e.k by omega)
     rw [Nat.add_mul] at this; omega
    ·left
     have := Nat.mul_le_mul_right e.k (show j / e.k + 1 ≤ i by omega)
     rw [Nat.add_mul] at this; omega
   rw [(z3 j).1 hout]
   have h4 := congrArg (fun l => l[j]?) ht
   simp only [List.getElem?_take] at h4
   rw [if_pos hj, Array.getElem?_toList] at h4
   rw [h4]
   have h5 := flat_get e xs (j / e.k) (j % e.k) (by omega) hr
   rw [e3] at h5
   exact h5
 ·rw [List.getElem?_eq_none (by rw [List.length_take]; omega), List.getElem?_eq_none (by rw [flat_length, List.length_set, ← hl]; omega)]
theorem OwnT.there {w : World} {base n c g : Nat} {ty : TypeId} {xs : List α} (h : OwnT e w base ty (.slice (some ⟨g, 0, none⟩) n c) xs) (i m : Nat) (hi : i * e.k + m ≤ c * e.k) (hn : 0 < n) : w.there g (i * e.k) m := by
 obtain ⟨g', cur, e1, hb, hg, _, hm, hs, ht, hl⟩ := h.lies hn
 cases e1
 intro j hj
 refine ⟨?_, hg.free _⟩
 rw [hg.cell, Array.getElem?_eq_getElem (by rw [hs]; omega)]
 rfl
/-- What stands ahead of a place stays when all behind it is written. -/
theorem OwnT.cutAt {w : World} {base n c g : Nat} {ty : TypeId} {xs : List α} (h : OwnT e w base ty (.slice (some ⟨g, 0, none⟩) n c) xs) (i : Nat) (hi : i ≤ n) (hn : 0 < n) (vs : List Value) : OwnT e (w.setCells g (i * e.k) vs) base ty (.slice (some ⟨g, 0, none⟩) i c) (xs.take i) := by
 obtain ⟨g', cur, e1, hb, hg, hnc, hm, hs, ht, hl⟩ := h.lies hn
 cases e1
 obtain ⟨Z', z1, z2, z3⟩ := blk_put vs (i * e.k) cur w hg
 refine OwnT.mk' (by rw [List.length_take]; omega) hb z1 (by omega) hm (by rw [z2, hs]) ?_
 apply List.ext_getElem?
 intro j
 have hk := e.pos
 have hmul : i * e.k ≤ n * e.k := Nat.mul_le_mul_right _ hi
 by_cases hj : j < i * e.k
 ·have hr : j % e.k < e.k := Nat.mod_lt _ hk
  have hq : j / e.k < i := (Nat.div_lt_iff_lt_mul hk).2 hj
  have e3 : j / e.k * e.k + j % e.k = j := by rw [Nat.mul_comm]; exact Nat.div_add_mod j e.k
  rw [List.getElem?_take, if_pos hj, Array.getElem?_toList, (z3 j).1 (.inl hj)]
  have h4 := congrArg (fun l => l[j]?) ht
  simp only [List.getElem?_take] at h4
  rw [if_pos (by omega), Array.getElem?_toList] at h4
  rw [h4]
  have h5 := flat_get e xs (j / e.k) (j % e.k) (by omega) hr
  have h6 := flat_get e (xs.take i) (j / e.k) (j % e.k) (by rw [List.length_take]; omega) hr
  rw [e3] at h5 h6
  rw [h5, h6, List.getElem_take]
 ·rw [List.getElem?_eq_none (by rw [List.length_take]; omega), List.getElem?_eq_none (by rw [flat_length, List.length_take]; have := Nat.mul_le_mul_right e.k (Nat.min_le_left i xs.length); omega)]
theorem OwnT.putOther {w : World} {base b o : Nat} {ty : TypeId} {v : Value} {xs : List α} (h : OwnT e w base ty v xs) (hb : b < base) (vs : List Value) : OwnT e (w.setCells b o vs) base ty v xs := by
 refine h.stay (fun g hg => ?_)
 have h1 := h.block_ge g hg
 have h2 := h.lt g hg
 obtain ⟨_, hr⟩ := h
 rcases hr with ⟨e1, _⟩ | ⟨g', cap, cur, e1, _, hg', _⟩
 ·subst e1; cases hg
 ·subst e1
  cases hg
  exact (blk_putOther (by omega) vs o w hg').trans hg'.symm
end
/-- 'clear(s)', s a slice of structs. -/
theorem run_clear_t {P : Program} (w : World) (t ty r : TypeId) (z : Value) (ht : P.underlying t = some (.slice ty)) (hv : ∀ w, (zeroValue ty).run P w = .ok z w) (h1 : ∀ v ∈ z.cells, v.oneCell' = true) (b o n c : Nat) (hn : 0 < n)
  (hc : w.there b o (n * z.cells.size)) : ∃ vs : List Value, (Builtin.clear_ #[t] r #[.slice (some ⟨b, o, none⟩) n c]).run P w = .ok (.tuple #[]) (w.setCells b o vs) := by
 have hl : (Builtin.zeroCells z.cells n).toList.length = n * z.cells.size := by simp [Builtin.zeroCells]
 have hall : ∀ v ∈ (Builtin.zeroCells z.cells n).toList, v.oneCell' = true := by
  intro v hv'
  simp only [Builtin.zeroCells, Array.toList_map, List.mem_map] at hv'
  obtain ⟨i, hi, rfl⟩ := hv'
  have hi2 : i < n * z.cells.size := by simpa using hi
  rcases Nat.eq_zero_or_pos z.cells.size with h0 | h0
  ·rw [h0] at hi2; omega
  ·have hi3 : i % z.cells.size < z.cells.size := Nat.mod_lt _ h0
   rw [getElem!_pos z.cells _ hi3]
   exact h1 _ (Array.getElem_mem hi3)
 have hst := run_storeCells_cells (P := P) b o (Builtin.zeroCells z.cells n).toList 0 w (by rw [hl]; intro j hj; rw [Nat.add_zero]; exact (hc j hj).1) (by rw [hl]; intro j hj; rw [Nat.add_zero]; exact (hc j hj).2) hall
 simp only [Nat.add_zero] at hst
 refine ⟨(Builtin.zeroCells z.cells n).toList, ?_⟩
 obtain ⟨m, rfl⟩ : ∃ m, n = m + 1 := ⟨n - 1, by omega⟩
 simp [Builtin.clear_, run_underlying ht, hv, hst]
theorem stop_clear {P : Program} {ops : Array Oper} {rest : List Oper} {o : Oper} {a : Act} {w : World} {Q : Exit → Act → World → Prop} (s : Operand) (t : TypeId)
  (_ : o.op = .call { callee := .builtin .clear, args := #[s], argTypes := #[t] }) (h : Hid (wpList P ops Q (o :: rest) a w)) : wpList P ops Q (o :: rest) a w := h
theorem stop_storeT {P : Program} {ops : Array Oper} {rest : List Oper} {o : Oper} {a : Act} {w : World} {Q : Exit → Act → World → Prop} (ty : TypeId) (x y : Operand) (_ : o.op = .store ty x y) (h : Hid (wpList P ops Q (o :: rest) a w)) : wpList P ops Q (o :: rest) a w := h
theorem wpList_clear_t {P : Program} {w : World} {ops : Array Oper} {rest : List Oper} {o : Oper} {a : Act} {Q : Exit → Act → World → Prop} (hgd : o.guard = none) (s : Operand) (t : TypeId)
  (ho : o.op = .call { callee := .builtin .clear, args := #[s], argTypes := #[t] }) (ty : TypeId) (z : Value) (ht : P.underlying t = some (.slice ty)) (hv : ∀ w, (zeroValue ty).run P w = .ok z w) (h1 : ∀ v ∈ z.cells, v.oneCell' = true) (b p n c : Nat) (hn : 0 < n)
  (hs : a.eval s = .slice (some ⟨b, p, none⟩) n c) (hc : w.there b p (n * z.cells.size)) (h : ∀ vs : List Value, wpList P ops Q rest (a.put o.dst (.tuple #[])) (w.setCells b p vs)) : wpList P ops Q (o :: rest) a w := by
 refine wpList_plain hgd fun K hK => ?_
 obtain ⟨vs, hrun⟩ := run_clear_t w t ty o.type z ht hv h1 b p n c hn hc
 unfold Oper.wp
 simp [execOp, ho, resolve, invoke, builtin, hs, hrun, Result.andThen]
 exact hK _ _ (h vs)
end Go.Proofs.Ytboplnhgafbgbaa
namespace Go.Proofs.Ytboplnhgafbgbaa
open Go.RowKit
section
variable {α : Type} {e : Enc α}
theorem run_append_tb {P : Program} (w : World) (t r ty : TypeId) (z : Value) (bytes base : Nat) (he : EltT e P t ty z bytes) (hzs : z.cells.size = e.k) (v y : Value) (xs ys : List α) (hown : OwnT e w base ty v xs) (hrow : TRow e w y ys)
  (h63 : xs.length + ys.length ≤ 140737488355328) (hbytes : (xs.length + ys.length) * bytes ≤ 140737488355328) (hbase : base ≤ w.heap.size) :
  ∃ v' w', (Builtin.append_ #[t, t] r #[v, y]).run P w = .ok v' w' ∧ OwnT e w' base ty v' (xs ++ ys) ∧ w.grownBy w' v.ownBlock ∧ (v'.ownBlock = v.ownBlock ∨ v'.ownBlock = some w.heap.size) := by
 obtain ⟨i, ht, hi, hz, hs, hby⟩ := he
 obtain ⟨p, c, rfl, hc, hr⟩ := id hrow
 cases p with
 | some ad =>
  obtain ⟨v', w', hrun, hown', hg, _, hor⟩ := run_append_own_at (P := P) w base t r ty i z e.k bytes ht hi hz hs hby hzs e.pos v xs.length (xs.flatMap e.E) hown ad ys.length c (ys.flatMap e.E) (flat_length e ys) hrow.newsAt (flat_one e ys) (by unfold maxLen; omega) hbytes hbase
  refine ⟨v', w', hrun, ?_, hg, hor⟩
  unfold OwnT
  rw [List.flatMap_append, List.length_append]
  exact hown'
 | none =>
  have hy : ys = [] := by
   rcases hr with h | ⟨b, o, h, _⟩
   ·exact h
   ·cases h
  subst hy
  refine ⟨v, w, ?_, by simpa using hown, World.grownBy.refl _ _, .inl rfl⟩
  rcases hown.2 with ⟨rfl, h0⟩ | ⟨g, cap, cur, rfl, _, _, hnc, _⟩
  ·simp [Builtin.append_, run_underlying ht, sizeOf, typeInfo, hi, Builtin.lenOf, Builtin.firstCells]
  ·simp [Builtin.append_, run_underlying ht, sizeOf, typeInfo, hi, Builtin.lenOf, Builtin.firstCells, hnc, storeCells]
theorem wpList_append_tb {P : Program} {w : World} {ops : Array Oper} {rest : List Oper} {o : Oper} {a : Act} {Q : Exit → Act → World → Prop} (hgd : o.guard = none) (s x : Operand) (t : TypeId)
  (ho : o.op = .call { callee := .builtin .append, args := #[s, x], argTypes := #[t, t] })
  (ty : TypeId) (z : Value) (bytes base : Nat) (he : EltT e P t ty z bytes) (hzs : z.cells.size = e.k) (v y : Value) (xs ys : List α) (hs : a.eval s = v) (hx : a.eval x = y) (hown : OwnT e w base ty v xs) (hrow : TRow e w y ys)
  (h63 : xs.length + ys.length ≤ 140737488355328) (hbytes : (xs.length + ys.length) * bytes ≤ 140737488355328) (hbase : base ≤ w.heap.size) (L : List α) (N : Nat) (hL : xs ++ ys = L) (hN : L.length = N)
  (h : ∀ p' c' w', OwnT e w' base ty (.slice p' N c') L → w.grownBy w' v.ownBlock → Below base w w' → wpList P ops Q rest (a.put o.dst (.slice p' N c')) w') : wpList P ops Q (o :: rest) a w := by
 subst hL
 subst hN
 refine wpList_plain hgd fun K hK => ?_
 obtain ⟨v', w', hrun, h1, h2, _⟩ := run_append_tb w t o.type ty z bytes base he hzs v y xs ys hown hrow h63 hbytes hbase
 unfold Oper.wp
 obtain ⟨p', c', rfl⟩ := h1.form
 simp [execOp, ho, resolve, invoke, builtin, hs, hx, hrun, Result.andThen]
 exact hK _ _ (by simpa using h p' c' w' h1 h2 ((Below.refl _ _).grown h2 hbase (fun g hg' => hown.block_ge g hg')))
theorem OwnT.madeE (e : Enc α) (w : World) (base : Nat) (ty : TypeId) (hb : base ≤ w.heap.size) : OwnT e (w.alloc (.cells #[] ty)) base ty (.slice (some ⟨w.heap.size, 0, none⟩) 0 0) [] := ⟨by simp, .inr ⟨w.heap.size, 0, #[], rfl, hb, heap_alloc_new w _, Nat.le_refl _, Nat.zero_le _, by simp, by simp⟩⟩
theorem stop_appendT {P : Program} {ops : Array Oper} {rest : List Oper} {o : Oper} {a : Act} {w : World} {Q : Exit → Act → World → Prop} (s x : Operand) (t : TypeId)
  (_ : o.op = .call { callee := .builtin .append, args := #[s, x], argTypes := #[t, t] }) (h : Hid (wpList P ops Q (o :: rest) a w)) : wpList P ops Q (o :: rest) a w := h
end
end Go.Proofs.Ytboplnhgafbgbaa
namespace Go.Proofs.Ytboplnhgafbgbaa
open Go.RowKit
/-- A message's lists fit into the reach of memory. -/
def Msg.Sz (m : Msg) : Prop := m.ls.length * 32 ≤ 140737488351232 ∧ m.ns.length * 8 ≤ 140737488351232
/-- The block in which a slice lies is one of P, unless it is empty. -/
def At (P : Nat → Prop) (v : Value) (len : Nat) : Prop := ∀ b o n c, v = .slice (some ⟨b, o, none⟩) n c → 0 < len → P b
theorem At.nil_ (P : Nat → Prop) (v : Value) : At P v 0 := fun _ _ _ _ _ h => absurd h (Nat.lt_irrefl 0)
/-- Of P's blocks none is another one. -/
def KeepP (P : Nat → Prop) (w w' : World) : Prop := w.heap.size ≤ w'.heap.size ∧ ∀ b, b < w.heap.size → P b → w'.heap[b]? = w.heap[b]?
theorem KeepP.refl (P : Nat → Prop) (w : World) : KeepP P w w := ⟨Nat.le_refl _, fun _ _ _ => rfl⟩
theorem KeepP.of_below {P : Nat → Prop} {w w' : World} (h : Below w.heap.size w w') : KeepP P w w' := ⟨h.size, fun b hb _ => h.block b hb⟩
theorem KeepP.of_chg {P : Nat → Prop} {g : Nat} {w w' : World} (h : Chg g w w') (hg : ¬ P g) : KeepP P w w' := ⟨h.size, fun b hb hp => h.2 b hb (fun e => hg (e ▸ hp))⟩
theorem KeepP.trans {P : Nat → Prop} {w a b : World} (h : KeepP P w a) (k : KeepP P a b) : KeepP P w b := ⟨Nat.le_trans h.1 k.1, fun i hi hp => (k.2 i (Nat.lt_of_lt_of_le hi h.1) hp).trans (h.2 i hi hp)⟩
theorem TRow.lt_ {α : Type} {e : Enc α} {w : World} {b o : Nat} {n c : Nat} {xs : List α} (h : TRow e w (.slice (some ⟨b, o, none⟩) n c) xs) (hn : 0 < xs.length) : b < w.heap.size := by
 obtain ⟨b', o', e1, hb, _⟩ := h.at_ 0 hn
 cases e1
 exact hb
theorem Row.lt_ {k : IntKind} {w : World} {b o : Nat} {n c : Nat} {xs : List Int} (h : Row k w (.slice (some ⟨b, o, none⟩) n c) xs) (hn : 0 < xs.length) : b < w.heap.size := by
 obtain ⟨p', c', e1, _, h⟩ := h
 cases e1
 rcases h with h | ⟨b', o', hp, h⟩
 ·subst h; simp at hn
 ·cases hp
  exact World.block_lt_of_cell? w _ (h 0 hn)
theorem TRow.keepP {α : Type} {e : Enc α} {P : Nat → Prop} {w w' : World} {v : Value} {xs : List α} (h : TRow e w v xs) (ha : At P v xs.length) (hk : KeepP P w w') : TRow e w' v xs := by
 obtain ⟨p, c, rfl, hc, h⟩ := h
 refine ⟨p, c, rfl, hc, ?_⟩
 rcases h with h | ⟨b, o, rfl, hlt, h⟩
 ·exact .inl h
 ·by_cases hn : 0 < xs.length
  ·have hb := hk.2 b hlt (ha b o _ _ rfl hn)
   exact .inr ⟨b, o, rfl, Nat.lt_of_lt_of_le hlt hk.1, fun i hi t ht => (World.cell?_of_block (a := ⟨b, _, none⟩) hb).trans (h i hi t ht)⟩
  ·exact .inl (List.length_eq_zero_iff.1 (by omega))
theorem Row.keepP {k : IntKind} {P : Nat → Prop} {w w' : World} {v : Value} {xs : List Int} (h : Row k w v xs) (ha : At P v xs.length) (hk : KeepP P w w') : Row k w' v xs := by
 have h0 := h
 obtain ⟨p, c, rfl, hc, h⟩ := h
 refine ⟨p, c, rfl, hc, ?_⟩
 rcases h with h | ⟨b, o, rfl, h⟩
 ·exact .inl h
 ·by_cases hn : 0 < xs.length
  ·have hb := hk.2 b (h0.lt_ hn) (ha b o _ _ rfl hn)
   exact .inr ⟨b, o, rfl, fun i hi => (World.cell?_of_block (a := ⟨b, _, none⟩) hb).trans (h i hi)⟩
  ·exact .inl (List.length_eq_zero_iff.1 (by omega))
theorem OwnT.at_P {α : Type} {e : Enc α} {P : Nat → Prop} {w : World} {base : Nat} {ty : TypeId} {v : Value} {xs : List α} (h : OwnT e w base ty v xs) (hP : ∀ b, base ≤ b → P b) : At P v xs.length := by
 rintro b o n c rfl hn
 obtain ⟨_, h2⟩ := h
 rcases h2 with ⟨h2, _⟩ | ⟨g, cap, cur, h2, hb, _⟩
 ·cases h2
 ·cases h2
  exact hP _ hb
theorem Own.at_P {k : IntKind} {P : Nat → Prop} {w : World} {base : Nat} {ty : TypeId} {v : Value} {xs : List Int} (h : Own k w base ty v xs) (hP : ∀ b, base ≤ b → P b) : At P v xs.length := by
 rintro b o n c rfl hn
 obtain ⟨_, h2⟩ := h
 rcases h2 with ⟨h2, _⟩ | ⟨g, cap, cur, h2, hb, _⟩
 ·cases h2
 ·cases h2
  exact hP _ hb
/-- A message whose lists lie in P. -/
structure MsgX.InP (P : Nat → Prop) (w : World) (x : MsgX) : Prop where
 ls : TRow encN w x.vl x.m.ls
 ns : Row .i64 w x.vn x.m.ns
 al : At P x.vl x.m.ls.length
 an : At P x.vn x.m.ns.length
 sz : x.m.Sz
theorem MsgX.InP.kept {P : Nat → Prop} {w w' : World} {x : MsgX} (h : x.InP P w) (hb : Below w.heap.size w w') : x.InP P w' := ⟨h.ls.kept hb, h.ns.kept hb, h.al, h.an, h.sz⟩
theorem MsgX.InP.keepP {P : Nat → Prop} {w w' : World} {x : MsgX} (h : x.InP P w) (hk : KeepP P w w') : x.InP P w' := ⟨h.ls.keepP h.al hk, h.ns.keepP h.an hk, h.al, h.an, h.sz⟩
theorem MsgX.InP.mono {P Q : Nat → Prop} {w : World} {x : MsgX} (h : x.InP P w) (hq : ∀ b, b < w.heap.size → P b → Q b) : x.InP Q w :=
 ⟨h.ls, h.ns, fun b o n c e hn => hq b (by have h2 := h.ls; rw [e] at h2; exact h2.lt_ hn) (h.al b o n c e hn), fun b o n c e hn => hq b (by have h2 := h.ns; rw [e] at h2; exact h2.lt_ hn) (h.an b o n c e hn), h.sz⟩
theorem elt_cloneN_any : EltT encN Try.prog 35 57 (.agg #[.int .i64 0, .int .i64 0, .int .i64 0, .int .i64 0]) 32 := eltT_mk Try.underlying35 (by kernel_rfl)
theorem elt_mkM {P : Program} {t e : TypeId} {k : IntKind} {bytes : Nat} (ht : P.underlying t = some (.slice e)) (h : (P.info? e).map (fun i => (i.zero, i.size, i.bytes)) = some (some (.int k 0), 1, bytes)) : Elt P t e k bytes := by
 cases hi : P.info? e with
 | none => rw [hi] at h; cases h
 | some i =>
  rw [hi] at h
  simp at h
  exact ⟨i, ht, hi, h.1, h.2.1, h.2.2⟩
theorem elt64M : Elt Try.prog 36 2 .i64 8 := elt_mkM Try.underlying36 (by kernel_rfl)
theorem chg_putL (g : Nat) (W : World) : ∀ (vs : List Value) (o : Nat) (w : World), Chg g W w → Chg g W (w.setCells g o vs)
 | [], _, _, h => h
 | v :: vs, o, w, h => by rw [World.setCells]; exact chg_putL g W vs (o + 1) _ (h.set o v)
theorem Own.stayV {k : IntKind} {w w' : World} {base : Nat} {e : TypeId} {v : Value} {zs : List Int} (h : Own k w base e v zs) (hk : ∀ g, v.ownBlock = some g → w'.heap[g]? = w.heap[g]?) : Own k w' base e v zs := by
 refine ⟨h.1, ?_⟩
 rcases h.2 with h | ⟨g, cap, cur, rfl, hbg, hg, hr⟩
 ·exact .inl h
 ·exact .inr ⟨g, cap, cur, rfl, hbg, (hk g rfl).trans hg, hr⟩
theorem own_less {k : IntKind} {w : World} {base base' : Nat} {e : TypeId} {v : Value} {zs : List Int} (h : Own k w base e v zs) (hb : base' ≤ base) : Own k w base' e v zs := by
 refine ⟨h.1, ?_⟩
 rcases h.2 with h | ⟨g, cap, cur, rfl, hbg, hg, hr⟩
 ·exact .inl h
 ·exact .inr ⟨g, cap, cur, rfl, Nat.le_trans hb hbg, hg, hr⟩
theorem one11M (k s n b c r y a : Int) (t : Bool) (pl pn : Option Addr) (nl cl nn cn : Nat) : ∀ u ∈ [Value.int .i64 k, .int .i64 s, .int .i64 n, .int .i64 b, .int .i64 c, .int .i64 r, .int .i64 y, .int .i64 a, .bool t, .slice pl nl cl, .slice pn nn cn], u.oneCell' = true := by
 intro u hu
 simp at hu
 rcases hu with rfl | rfl | rfl | rfl | rfl | rfl | rfl | rfl | rfl | rfl | rfl <;> rfl
theorem infoM {cs : Array Value} (h : cs.size = 11) : (Try.prog.info? 38).map (·.size) = some cs.size := by
 rw [h]
 kernel_rfl
end Go.Proofs.Ytboplnhgafbgbaa
namespace Go.Proofs.Ytboplnhgafbgbaa
open Go.RowKit
/-- A session as it lies in cells. -/
structure PeerX where
 p : Option Addr
 n : Nat
 c : Nat
 h : Int
def PeerX.cells (x : PeerX) : List Value := [.slice x.p x.n x.c, .int .i64 x.h]
def encP : Enc PeerX := ⟨2, PeerX.cells, by decide, fun _ => rfl, by intro x u hu; simp [PeerX.cells] at hu; rcases hu with rfl | rfl <;> rfl⟩
/-- A slice of messages. -/
def MRow (P : Nat → Prop) (w : World) (v : Value) (ms : List Msg) : Prop := ∃ xs : List MsgX, TRow encM w v xs ∧ At P v xs.length ∧ (∀ x ∈ xs, x.InP P w) ∧ xs.map MsgX.m = ms
theorem MRow.kept {P : Nat → Prop} {w w' : World} {v : Value} {ms : List Msg} (h : MRow P w v ms) (hb : Below w.heap.size w w') : MRow P w' v ms := by
 obtain ⟨xs, h1, h2, h3, h4⟩ := h
 exact ⟨xs, h1.kept hb, h2, fun x hx => (h3 x hx).kept hb, h4⟩
theorem MRow.keepP {P : Nat → Prop} {w w' : World} {v : Value} {ms : List Msg} (h : MRow P w v ms) (hk : KeepP P w w') : MRow P w' v ms := by
 obtain ⟨xs, h1, h2, h3, h4⟩ := h
 exact ⟨xs, h1.keepP h2 hk, h2, fun x hx => (h3 x hx).keepP hk, h4⟩
theorem MRow.mono {P Q : Nat → Prop} {w : World} {v : Value} {ms : List Msg} (h : MRow P w v ms) (hq : ∀ b, b < w.heap.size → P b → Q b) : MRow Q w v ms := by
 obtain ⟨xs, h1, h2, h3, h4⟩ := h
 exact ⟨xs, h1, fun b o n c e hn => hq b (by have h2 := h1; rw [e] at h2; exact h2.lt_ hn) (h2 b o n c e hn), fun x hx => (h3 x hx).mono hq, h4⟩
theorem MRow.nil_ (P : Nat → Prop) (w : World) : MRow P w (.slice none 0 0) [] := ⟨[], TRow.nil_ _ _, At.nil_ _ _, (fun _ h => by cases h), rfl⟩
theorem MRow.shape {P : Nat → Prop} {w : World} {v : Value} {ms : List Msg} (h : MRow P w v ms) : ∃ p c, v = .slice p ms.length c := by
 obtain ⟨xs, h1, _, _, rfl⟩ := h
 obtain ⟨p, c, rfl⟩ := h1.shape
 exact ⟨p, c, by rw [List.length_map]⟩
/-- What was said to one, how much of it was heard. -/
abbrev Pe := List Msg × Int
def PeOk (P : Nat → Prop) (w : World) (x : PeerX) (q : Pe) : Prop := x.h = q.2 ∧ x.n = q.1.length ∧ MRow P w (.slice x.p x.n x.c) q.1
theorem PeOk.kept {P : Nat → Prop} {w w' : World} {x : PeerX} {q : Pe} (h : PeOk P w x q) (hb : Below w.heap.size w w') : PeOk P w' x q := ⟨h.1, h.2.1, h.2.2.kept hb⟩
theorem PeOk.keepP {P : Nat → Prop} {w w' : World} {x : PeerX} {q : Pe} (h : PeOk P w x q) (hk : KeepP P w w') : PeOk P w' x q := ⟨h.1, h.2.1, h.2.2.keepP hk⟩
theorem PeOk.mono {P Q : Nat → Prop} {w : World} {x : PeerX} {q : Pe} (h : PeOk P w x q) (hq : ∀ b, b < w.heap.size → P b → Q b) : PeOk Q w x q := ⟨h.1, h.2.1, h.2.2.mono hq⟩
/-- A slice of sessions. -/
def PeRow (P : Nat → Prop) (w : World) (v : Value) (qs : List Pe) : Prop := ∃ xs : List PeerX, TRow encP w v xs ∧ At P v xs.length ∧ xs.length = qs.length ∧ ∀ i (h : i < xs.length) (h' : i < qs.length), PeOk P w xs[i] qs[i]
theorem PeRow.kept {P : Nat → Prop} {w w' : World} {v : Value} {qs : List Pe} (h : PeRow P w v qs) (hb : Below w.heap.size w w') : PeRow P w' v qs := by
 obtain ⟨xs, h1, h2, h3, h4⟩ := h
 exact ⟨xs, h1.kept hb, h2, h3, fun i hi hi' => (h4 i hi hi').kept hb⟩
theorem PeRow.keepP {P : Nat → Prop} {w w' : World} {v : Value} {qs : List Pe} (h : PeRow P w v qs) (hk : KeepP P w w') : PeRow P w' v qs := by
 obtain ⟨xs, h1, h2, h3, h4⟩ := h
 exact ⟨xs, h1.keepP h2 hk, h2, h3, fun i hi hi' => (h4 i hi hi').keepP hk⟩
theorem PeRow.mono {P Q : Nat → Prop} {w : World} {v : Value} {qs : List Pe} (h : PeRow P w v qs) (hq : ∀ b, b < w.heap.size → P b → Q b) : PeRow Q w v qs := by
 obtain ⟨xs, h1, h2, h3, h4⟩ := h
 exact ⟨xs, h1, fun b o n c e hn => hq b (by have h2 := h1; rw [e] at h2; exact h2.lt_ hn) (h2 b o n c e hn), h3, fun i hi hi' => (h4 i hi hi').mono hq⟩
theorem PeRow.shape {P : Nat → Prop} {w : World} {v : Value} {qs : List Pe} (h : PeRow P w v qs) : ∃ p c, v = .slice p qs.length c := by
 obtain ⟨xs, h1, _, h2, _⟩ := h
 obtain ⟨p, c, rfl⟩ := h1.shape
 exact ⟨p, c, by rw [h2]⟩
def zeroVM : Value := .agg #[.int .i64 0, .int .i64 0, .int .i64 0, .int .i64 0, .int .i64 0, .int .i64 0, .int .i64 0, .int .i64 0, .bool false, .slice none 0 0, .slice none 0 0]
theorem eltM : EltT encM Try.prog 22 38 zeroVM 120 := eltT_mk Try.underlying22 (by kernel_rfl)
theorem elt_cloneP_any : EltT encP Try.prog 25 43 (.agg #[.slice none 0 0, .int .i64 0]) 32 := eltT_mk Try.underlying25 (by kernel_rfl)
end Go.Proofs.Ytboplnhgafbgbaa
namespace Go.Proofs.Ytboplnhgafbgbaa
open Go.RowKit
set_option linter.unusedSimpArgs false in
set_option maxHeartbeats 4000000 in
set_option maxRecDepth 100000 in
theorem cloneN_any (w : World) (v : Value) (xs : List Lin) (hr : TRow encN w v xs) (hn : xs.length * 32 ≤ 140737488355000) :
  Calls Try.prog 16 #[v] w fun e w' => ∃ v', e = .returned v' ∧ OwnT encN w' w.heap.size 57 v' xs ∧ Below w.heap.size w w' := by
 obtain ⟨p, c, rfl⟩ := hr.shape
 cases p with
 | none =>
  have hx : xs = [] := by
   obtain ⟨p', c', e1, _, h⟩ := hr
   cases e1
   rcases h with h | ⟨b, o, h, _⟩
   ·exact h
   ·cases h
  subst hx
  clear hr
  have kq := Lib.run_eql_slice_nil (P := Try.prog) w 35 57 none 0 c 0 0 Try.underlying35
  simp only [List.length_nil]
  go_enter Try.func16, Try.ntmps16
  go_wp2
  go_ret
  exact ⟨_, rfl, OwnT.nil_ _ _ _ _, Below.refl _ _⟩
 | some a =>
  have HR := Lib.hid hr
  have HM := Lib.hid (OwnT.madeE encN w w.heap.size 57 (Nat.le_refl _))
  have HB := Lib.hid (oneB w (.cells #[] 57))
  have HN := Lib.hid hn
  clear hr hn
  generalize hl : xs.length = n at *
  have HL := Lib.hid hl
  clear hl
  have kq := Lib.run_eql_slice_nil (P := Try.prog) w 35 57 (some a) n c 0 0 Try.underlying35
  go_enter Try.func16, Try.ntmps16
  go_wp2_with (at_builtin; with_reducible refine stop_appendT (.tmp 5) (.tmp 6) 35 rfl ?_)
  refine wpList_append_tb rfl (.tmp 5) (.tmp 6) 35 rfl 57 (.agg #[.int .i64 0, .int .i64 0, .int .i64 0, .int .i64 0]) 32 w.heap.size elt_cloneN_any rfl (.slice (some ⟨w.heap.size, 0, none⟩) 0 0) (.slice (some a) n c) [] xs rfl rfl HM.out (HR.out.kept HB.out) (by have := HL.out; have := HN.out; simp; omega) (by have := HL.out; have := HN.out; simp; omega) HB.out.size xs n (List.nil_append _) HL.out ?_
  intro p' c' w' ho _ hb
  have HO := Lib.hid ho
  have HB2 := Lib.hid (HB.out.trans hb)
  clear ho hb
  go_wp2_with fail
  go_ret
  exact ⟨_, rfl, HO.out, HB2.out⟩
set_option linter.unusedSimpArgs false in
set_option maxHeartbeats 4000000 in
set_option maxRecDepth 100000 in
theorem clone64_any (w : World) (v : Value) (xs : List Int) (hr : Row .i64 w v xs) (hn : xs.length * 8 ≤ 140737488355000) :
  Calls Try.prog 17 #[v] w fun e w' => ∃ v', e = .returned v' ∧ Own .i64 w' w.heap.size 2 v' xs ∧ Below w.heap.size w w' := by
 obtain ⟨p, c, rfl⟩ := hr.shape
 cases p with
 | none =>
  have hx : xs = [] := by
   obtain ⟨p', c', e1, _, h⟩ := hr
   cases e1
   rcases h with h | ⟨b, o, h, _⟩
   ·exact h
   ·cases h
  subst hx
  clear hr
  have kq := Lib.run_eql_slice_nil (P := Try.prog) w 36 2 none 0 c 0 0 Try.underlying36
  simp only [List.length_nil]
  go_enter Try.func17, Try.ntmps17
  go_wp2
  go_ret
  exact ⟨_, rfl, Own.nil_ _ _ _ _, Below.refl _ _⟩
 | some a =>
  have HR := Lib.hid hr
  have HM := Lib.hid (Own.made .i64 w w.heap.size 2 (Nat.le_refl _))
  have HB := Lib.hid (oneB w (.cells #[] 2))
  have HN := Lib.hid hn
  clear hr hn
  generalize hl : xs.length = n at *
  have HL := Lib.hid hl
  clear hl
  have kq := Lib.run_eql_slice_nil (P := Try.prog) w 36 2 (some a) n c 0 0 Try.underlying36
  go_enter Try.func17, Try.ntmps17
  go_wp2_with (at_builtin; with_reducible refine stop_appendT (.tmp 5) (.tmp 6) 36 rfl ?_)
  refine wpList_append_row rfl (.tmp 5) (.tmp 6) 36 rfl 2 .i64 8 w.heap.size elt64M (.slice (some ⟨w.heap.size, 0, none⟩) 0 0) (.slice (some a) n c) [] xs rfl rfl HM.out (HR.out.kept HB.out) (by have := HL.out; have := HN.out; simp; omega) (by have := HL.out; have := HN.out; simp; omega) HB.out.size xs n (List.nil_append _) HL.out ?_
  intro p' c' w' ho hb
  have HO := Lib.hid ho
  have HB2 := Lib.hid (HB.out.trans hb)
  clear ho hb
  go_wp2_with fail
  go_ret
  exact ⟨_, rfl, HO.out, HB2.out⟩
end Go.Proofs.Ytboplnhgafbgbaa
namespace Go.Proofs.Ytboplnhgafbgbaa
open Go.RowKit
set_option linter.unusedSimpArgs false in
set_option maxHeartbeats 4000000 in
set_option maxRecDepth 100000 in
theorem cloneP_any (w : World) (v : Value) (xs : List PeerX) (hr : TRow encP w v xs) (hn : xs.length * 32 ≤ 140737488355000) :
  Calls Try.prog 18 #[v] w fun e w' => ∃ v', e = .returned v' ∧ OwnT encP w' w.heap.size 43 v' xs ∧ Below w.heap.size w w' := by
 obtain ⟨p, c, rfl⟩ := hr.shape
 cases p with
 | none =>
  have hx : xs = [] := by
   obtain ⟨p', c', e1, _, h⟩ := hr
   cases e1
   rcases h with h | ⟨b, o, h, _⟩
   ·exact h
   ·cases h
  subst hx
  clear hr
  have kq := Lib.run_eql_slice_nil (P := Try.prog) w 25 43 none 0 c 0 0 Try.underlying25
  simp only [List.length_nil]
  go_enter Try.func18, Try.ntmps18
  go_wp2
  go_ret
  exact ⟨_, rfl, OwnT.nil_ _ _ _ _, Below.refl _ _⟩
 | some a =>
  have HR := Lib.hid hr
  have HM := Lib.hid (OwnT.madeE encP w w.heap.size 43 (Nat.le_refl _))
  have HB := Lib.hid (oneB w (.cells #[] 43))
  have HN := Lib.hid hn
  clear hr hn
  generalize hl : xs.length = n at *
  have HL := Lib.hid hl
  clear hl
  have kq := Lib.run_eql_slice_nil (P := Try.prog) w 25 43 (some a) n c 0 0 Try.underlying25
  go_enter Try.func18, Try.ntmps18
  go_wp2_with (at_builtin; with_reducible refine stop_appendT (.tmp 5) (.tmp 6) 25 rfl ?_)
  refine wpList_append_tb rfl (.tmp 5) (.tmp 6) 25 rfl 43 (.agg #[.slice none 0 0, .int .i64 0]) 32 w.heap.size elt_cloneP_any rfl (.slice (some ⟨w.heap.size, 0, none⟩) 0 0) (.slice (some a) n c) [] xs rfl rfl HM.out (HR.out.kept HB.out) (by have := HL.out; have := HN.out; simp; omega) (by have := HL.out; have := HN.out; simp; omega) HB.out.size xs n (List.nil_append _) HL.out ?_
  intro p' c' w' ho _ hb
  have HO := Lib.hid ho
  have HB2 := Lib.hid (HB.out.trans hb)
  clear ho hb
  go_wp2_with fail
  go_ret
  exact ⟨_, rfl, HO.out, HB2.out⟩
end Go.Proofs.Ytboplnhgafbgbaa
namespace Go.Proofs.Ytboplnhgafbgbaa
open Go.RowKit
set_option linter.unusedSimpArgs false
set_option maxHeartbeats 8000000 in
set_option maxRecDepth 100000 in
theorem own_any (m : Msg) (vl vn : Value) (w : World) (hl : TRow encN w vl m.ls) (hn : Row .i64 w vn m.ns) (hz : m.Sz) :
  Calls Try.prog 13 #[m.v vl vn] w fun e w' => ∃ ul un, e = .returned (m.v ul un) ∧ OwnT encN w' w.heap.size 57 ul m.ls ∧ Own .i64 w' w.heap.size 2 un m.ns ∧ Below w.heap.size w w' := by
 obtain ⟨pl, cl, rfl⟩ := hl.shape
 obtain ⟨pn, cn, rfl⟩ := hn.shape
 have HL := Lib.hid hl
 have HN := Lib.hid hn
 have HZ := Lib.hid hz
 clear hl hn hz
 generalize hnl : m.ls.length = nl at *
 have HNL := Lib.hid hnl
 generalize hnn : m.ns.length = nn at *
 have HNN := Lib.hid hnn
 clear hnl hnn
 unfold Msg.v
 go_enter Try.func13, Try.ntmps13
 go_wp2_with fail
 have HK0 := Lib.hid ((Blk.new w #[.int .i64 m.k, .int .i64 m.s, .int .i64 m.n, .int .i64 m.b, .int .i64 m.c, .int .i64 m.r, .int .i64 m.y, .int .i64 m.a, .bool m.t, .slice pl nl cl, .slice pn nn cn] 38).alloc (.cells #[.int .i64 0, .int .i64 0, .int .i64 0, .int .i64 0, .int .i64 0, .int .i64 0, .int .i64 0, .int .i64 0, .bool false, .slice none 0 0, .slice none 0 0] 38))
 have HR0 := Lib.hid (Blk.new' (w.alloc (.cells #[.int .i64 m.k, .int .i64 m.s, .int .i64 m.n, .int .i64 m.b, .int .i64 m.c, .int .i64 m.r, .int .i64 m.y, .int .i64 m.a, .bool m.t, .slice pl nl cl, .slice pn nn cn] 38)) #[.int .i64 0, .int .i64 0, .int .i64 0, .int .i64 0, .int .i64 0, .int .i64 0, .int .i64 0, .int .i64 0, .bool false, .slice none 0 0, .slice none 0 0] 38 (b := w.heap.size + 1) (by simp))
 have HB0 := Lib.hid ((oneB w (.cells #[.int .i64 m.k, .int .i64 m.s, .int .i64 m.n, .int .i64 m.b, .int .i64 m.c, .int .i64 m.r, .int .i64 m.y, .int .i64 m.a, .bool m.t, .slice pl nl cl, .slice pn nn cn] 38)).trans ((oneB (w.alloc (.cells #[.int .i64 m.k, .int .i64 m.s, .int .i64 m.n, .int .i64 m.b, .int .i64 m.c, .int .i64 m.r, .int .i64 m.y, .int .i64 m.a, .bool m.t, .slice pl nl cl, .slice pn nn cn] 38)) (.cells #[.int .i64 0, .int .i64 0, .int .i64 0, .int .i64 0, .int .i64 0, .int .i64 0, .int .i64 0, .int .i64 0, .bool false, .slice none 0 0, .slice none 0 0] 38)).mono (by simp)))
 generalize hW0 : (w.alloc (.cells #[.int .i64 m.k, .int .i64 m.s, .int .i64 m.n, .int .i64 m.b, .int .i64 m.c, .int .i64 m.r, .int .i64 m.y, .int .i64 m.a, .bool m.t, .slice pl nl cl, .slice pn nn cn] 38)).alloc (.cells #[.int .i64 0, .int .i64 0, .int .i64 0, .int .i64 0, .int .i64 0, .int .i64 0, .int .i64 0, .int .i64 0, .bool false, .slice none 0 0, .slice none 0 0] 38) = W0 at *
 clear hW0
 have HLT := Lib.hid HR0.out.lt
 have h8a : W0.drew.cell? ⟨w.heap.size, 8 + 1, none⟩ = some (.slice pl nl cl) := HK0.out.drew.cell 9
 have h9a : W0.drew.cell? ⟨w.heap.size, 9 + 1, none⟩ = some (.slice pn nn cn) := HK0.out.drew.cell 10
 refine wp_region_held_drew (S := fun w' => True) (by kernel_rfl) trivial (fun hS0 => ?_)
 refine tkq 0 ?_
 refine tkq 3 ?_
 refine wpAnyH_ready (rs := [1, 4]) (by kernel_rfl) (by simp) ?_
 refine AllReadyH.cons rfl (fun K hK => ?_) (AllReadyH.cons rfl (fun K hK => ?_) AllReadyH.nil)
 ·skip
  go_simp
  refine hK.out _ _ trivial (fun hS => ?_)
  clear hK K
  try simp only [Act.put, List.getElem_toArray, List.getElem_cons_succ, List.getElem_cons_zero, List.setIfInBounds_toArray, List.set_cons_zero, List.set_cons_succ]
  refine wpAnyH_ready (rs := [2, 4]) (by kernel_rfl) (by simp) ?_
  refine AllReadyH.cons rfl (fun K hK => ?_) (AllReadyH.cons rfl (fun K hK => ?_) AllReadyH.nil)
  ·skip
   go_simp
   go_at_call 16
   refine (cloneN_any _ _ _ (HL.out.kept HB0.out.drew) (by rw [HNL.out]; have := HZ.out.1; rw [HNL.out] at this; omega)).mono ?_
   rintro y w2 ⟨v2, rfl, ho2, hb2⟩
   have HO2 := Lib.hid ho2
   have HB2 := Lib.hid ((Below.refl W0.heap.size W0).drew.trans hb2)
   have h9b : w2.cell? ⟨w.heap.size, 9 + 1, none⟩ = some (.slice pn nn cn) := (HK0.out.below HB2.out HK0.out.lt).cell 10
   clear ho2 hb2
   try go_wp2_with fail
   refine hK.out _ _ trivial (fun hS => ?_)
   clear hK K
   try simp only [Act.put, List.getElem_toArray, List.getElem_cons_succ, List.getElem_cons_zero, List.setIfInBounds_toArray, List.set_cons_zero, List.set_cons_succ]
   refine rdq 4 (fun K hK => ?_)
   go_simp
   refine hK.out _ _ trivial (fun hS => ?_)
   clear hK K
   try simp only [Act.put, List.getElem_toArray, List.getElem_cons_succ, List.getElem_cons_zero, List.setIfInBounds_toArray, List.set_cons_zero, List.set_cons_succ]
   refine tkq 6 ?_
   refine rdq 5 (fun K hK => ?_)
   go_simp
   go_at_call 17
   refine (clone64_any _ _ _ (HN.out.kept (HB0.out.trans (HB2.out.mono HB0.out.size))) (by rw [HNN.out]; have := HZ.out.2; rw [HNN.out] at this; omega)).mono ?_
   rintro y w3 ⟨v3, rfl, ho3, hb3⟩
   have HO3 := Lib.hid ho3
   have HO2' := Lib.hid (HO2.out.later hb3)
   have HB3 := ktq HB2 hb3
   obtain ⟨ql, dl, rfl⟩ := HO2'.out.form
   obtain ⟨qn, dn, rfl⟩ := HO3.out.form
   rw [HNL.out] at HO2' ⊢
   rw [HNN.out] at HO3 ⊢
   have HK3 := Lib.hid (HK0.out.below HB3.out HK0.out.lt)
   have hc8 := HK3.out.cell 9
   have hc9 := HK3.out.cell 10
   have hf8 := HK3.out.free 9
   have hf9 := HK3.out.free 10
   clear ho3 hb3
   try go_wp2_with fail
   refine hK.out _ _ trivial (fun hS => ?_)
   clear hK K
   try simp only [Act.put, List.getElem_toArray, List.getElem_cons_succ, List.getElem_cons_zero, List.setIfInBounds_toArray, List.set_cons_zero, List.set_cons_succ]
   refine rdq 7 (fun K hK => ?_)
   go_simp
   refine hK.out _ _ trivial (fun hS => ?_)
   clear hK K
   try simp only [Act.put, List.getElem_toArray, List.getElem_cons_succ, List.getElem_cons_zero, List.setIfInBounds_toArray, List.set_cons_zero, List.set_cons_succ]
   refine tkq 8 ?_
   refine rdq 9 (fun K hK => ?_)
   go_simp
   refine hK.out _ _ trivial (fun hS => ?_)
   clear hK K
   try simp only [Act.put, List.getElem_toArray, List.getElem_cons_succ, List.getElem_cons_zero, List.setIfInBounds_toArray, List.set_cons_zero, List.set_cons_succ]
   refine wpAnyH_done (by kernel_rfl) ?_ _
   have HK4 : Hid (Blk ((w3.setCell ⟨w.heap.size, 8 + 1, none⟩ (.slice ql nl dl)).setCell ⟨w.heap.size, 9 + 1, none⟩ (.slice qn nn dn)) w.heap.size #[.int .i64 m.k, .int .i64 m.s, .int .i64 m.n, .int .i64 m.b, .int .i64 m.c, .int .i64 m.r, .int .i64 m.y, .int .i64 m.a, .bool m.t, .slice ql nl dl, .slice qn nn dn] 38) := (HK3.out.set 9 (.slice ql nl dl)).set 10 (.slice qn nn dn)
   have HC4 : Hid (Chg w.heap.size w3 ((w3.setCell ⟨w.heap.size, 8 + 1, none⟩ (.slice ql nl dl)).setCell ⟨w.heap.size, 9 + 1, none⟩ (.slice qn nn dn))) := ((Chg.refl _ w3).set 9 _).set 10 _
   have HR3 := Lib.hid (HR0.out.below HB3.out HR0.out.lt)
   have HR4 := Lib.hid (HR3.out.chg HC4.out (by omega))
   have HL4 := Lib.hid (HO2'.out.stay (fun b hb => HC4.out.2 b (HO2'.out.lt b hb) (by have h1 := HO2'.out.block_ge b hb; have h2 := HLT.out; simp at h1; omega)))
   have HN4 := Lib.hid (HO3.out.stayV (fun b hb => HC4.out.2 b (HO3.out.lt b hb) (by have h1 := HO3.out.block_ge b hb; have h2 := HLT.out; have h3 := HB2.out.size; omega)))
   have HB4 := Lib.hid ((HB0.out.trans (HB3.out.mono HB0.out.size)).trans (HC4.out.below (Nat.le_refl _) (by have h2 := HLT.out; have h3 := HB3.out.size; omega)))
   have HLT4 : Hid (W0.heap.size ≤ w2.heap.size) := HB2.out.size
   generalize hW4 : ((w3.setCell ⟨w.heap.size, 8 + 1, none⟩ (.slice ql nl dl)).setCell ⟨w.heap.size, 9 + 1, none⟩ (.slice qn nn dn)) = W4 at *
   clear hW4 HK3 HC4 HR3 HO2' HO2 HO3 HB3 h8a h9a h9b hc8 hc9 hf8 hf9
   have hk4 := HK4.out
   have d0 : W4.cell? ⟨w.heap.size, 0, none⟩ = some (.int .i64 m.k) := hk4.cell 0
   have d1 : W4.cell? ⟨w.heap.size, 1, none⟩ = some (.int .i64 m.s) := hk4.cell 1
   have d2 : W4.cell? ⟨w.heap.size, 2, none⟩ = some (.int .i64 m.n) := hk4.cell 2
   have d3 : W4.cell? ⟨w.heap.size, 3, none⟩ = some (.int .i64 m.b) := hk4.cell 3
   have d4 : W4.cell? ⟨w.heap.size, 4, none⟩ = some (.int .i64 m.c) := hk4.cell 4
   have d5 : W4.cell? ⟨w.heap.size, 5, none⟩ = some (.int .i64 m.r) := hk4.cell 5
   have d6 : W4.cell? ⟨w.heap.size, 6, none⟩ = some (.int .i64 m.y) := hk4.cell 6
   have d7 : W4.cell? ⟨w.heap.size, 7, none⟩ = some (.int .i64 m.a) := hk4.cell 7
   have d8 : W4.cell? ⟨w.heap.size, 8, none⟩ = some (.bool m.t) := hk4.cell 8
   have d9 : W4.cell? ⟨w.heap.size, 9, none⟩ = some (.slice ql nl dl) := hk4.cell 9
   have d10 : W4.cell? ⟨w.heap.size, 10, none⟩ = some (.slice qn nn dn) := hk4.cell 10
   clear hk4
   go_wp2_with (with_reducible refine stop_storeT 38 (.tmp 2) (.tmp 11) rfl ?_)
   have HTH : Hid (W4.there (w.heap.size + 1) 0 11) := HR4.out.thereAt
   have HF : Hid (Blk (W4.setCells (w.heap.size + 1) 0 (#[.int .i64 m.k, .int .i64 m.s, .int .i64 m.n, .int .i64 m.b, .int .i64 m.c, .int .i64 m.r, .int .i64 m.y, .int .i64 m.a, .bool m.t, .slice ql nl dl, .slice qn nn dn] : Array Value).toList) (w.heap.size + 1) #[.int .i64 m.k, .int .i64 m.s, .int .i64 m.n, .int .i64 m.b, .int .i64 m.c, .int .i64 m.r, .int .i64 m.y, .int .i64 m.a, .bool m.t, .slice ql nl dl, .slice qn nn dn] 38 ∧ Chg (w.heap.size + 1) W4 (W4.setCells (w.heap.size + 1) 0 (#[.int .i64 m.k, .int .i64 m.s, .int .i64 m.n, .int .i64 m.b, .int .i64 m.c, .int .i64 m.r, .int .i64 m.y, .int .i64 m.a, .bool m.t, .slice ql nl dl, .slice qn nn dn] : Array Value).toList)) := ⟨blk_put_all HR4.out _ rfl, chg_putL _ _ _ _ _ (Chg.refl _ W4)⟩
   refine wpList_store_mid rfl 38 (.tmp 2) (.tmp 11) rfl (w.heap.size + 1) 0 #[.int .i64 m.k, .int .i64 m.s, .int .i64 m.n, .int .i64 m.b, .int .i64 m.c, .int .i64 m.r, .int .i64 m.y, .int .i64 m.a, .bool m.t, .slice ql nl dl, .slice qn nn dn] rfl rfl HTH.out (infoM rfl) (all_oneCell_toArray (one11M _ _ _ _ _ _ _ _ _ _ _ _ _ _ _)) ?_
   generalize World.setCells W4 _ _ _ = W5 at *
   clear HTH HR4 HK4 d0 d1 d2 d3 d4 d5 d6 d7 d8 d9 d10
   go_wp2_with fail
   have hf := HF.out.1
   refine bodyPost_ret (v := .agg #[.int .i64 m.k, .int .i64 m.s, .int .i64 m.n, .int .i64 m.b, .int .i64 m.c, .int .i64 m.r, .int .i64 m.y, .int .i64 m.a, .bool m.t, .slice ql nl dl, .slice qn nn dn]) (by simp [results, Try.results13, go_sem, hf.cell 0, hf.cell 1, hf.cell 2, hf.cell 3, hf.cell 4, hf.cell 5, hf.cell 6, hf.cell 7, hf.cell 8, hf.cell 9, hf.cell 10]) rfl ?_
   refine ⟨_, _, rfl, ?_, ?_, HB4.out.trans (HF.out.2.below (by omega) HB4.out.size)⟩
   ·exact (HL4.out.stay (fun b hb => HF.out.2.2 b (HL4.out.lt b hb) (by have h1 := HL4.out.block_ge b hb; have h2 := HLT.out; simp at h1; omega))).less (by have h2 := HLT.out; simp; omega)
   ·exact own_less (HN4.out.stayV (fun b hb => HF.out.2.2 b (HN4.out.lt b hb) (by have h1 := HN4.out.block_ge b hb; have h2 := HLT.out; have h3 := HLT4.out; omega))) (by have h2 := HLT.out; have h3 := HLT4.out; omega)
  ·skip
   go_simp
   refine hK.out _ _ trivial (fun hS => ?_)
   clear hK K
   try simp only [Act.put, List.getElem_toArray, List.getElem_cons_succ, List.getElem_cons_zero, List.setIfInBounds_toArray, List.set_cons_zero, List.set_cons_succ]
   refine rdq 2 (fun K hK => ?_)
   go_simp
   go_at_call 16
   refine (cloneN_any _ _ _ (HL.out.kept HB0.out.drew) (by rw [HNL.out]; have := HZ.out.1; rw [HNL.out] at this; omega)).mono ?_
   rintro y w2 ⟨v2, rfl, ho2, hb2⟩
   have HO2 := Lib.hid ho2
   have HB2 := Lib.hid ((Below.refl W0.heap.size W0).drew.trans hb2)
   have h9b : w2.cell? ⟨w.heap.size, 9 + 1, none⟩ = some (.slice pn nn cn) := (HK0.out.below HB2.out HK0.out.lt).cell 10
   clear ho2 hb2
   try go_wp2_with fail
   refine hK.out _ _ trivial (fun hS => ?_)
   clear hK K
   try simp only [Act.put, List.getElem_toArray, List.getElem_cons_succ, List.getElem_cons_zero, List.setIfInBounds_toArray, List.set_cons_zero, List.set_cons_succ]
   refine tkq 6 ?_
   refine rdq 5 (fun K hK => ?_)
   go_simp
   go_at_call 17
   refine (clone64_any _ _ _ (HN.out.kept (HB0.out.trans (HB2.out.mono HB0.out.size))) (by rw [HNN.out]; have := HZ.out.2; rw [HNN.out] at this; omega)).mono ?_
   rintro y w3 ⟨v3, rfl, ho3, hb3⟩
   have HO3 := Lib.hid ho3
   have HO2' := Lib.hid (HO2.out.later hb3)
   have HB3 := ktq HB2 hb3
   obtain ⟨ql, dl, rfl⟩ := HO2'.out.form
   obtain ⟨qn, dn, rfl⟩ := HO3.out.form
   rw [HNL.out] at HO2' ⊢
   rw [HNN.out] at HO3 ⊢
   have HK3 := Lib.hid (HK0.out.below HB3.out HK0.out.lt)
   have hc8 := HK3.out.cell 9
   have hc9 := HK3.out.cell 10
   have hf8 := HK3.out.free 9
   have hf9 := HK3.out.free 10
   clear ho3 hb3
   try go_wp2_with fail
   refine hK.out _ _ trivial (fun hS => ?_)
   clear hK K
   try simp only [Act.put, List.getElem_toArray, List.getElem_cons_succ, List.getElem_cons_zero, List.setIfInBounds_toArray, List.set_cons_zero, List.set_cons_succ]
   refine rdq 7 (fun K hK => ?_)
   go_simp
   refine hK.out _ _ trivial (fun hS => ?_)
   clear hK K
   try simp only [Act.put, List.getElem_toArray, List.getElem_cons_succ, List.getElem_cons_zero, List.setIfInBounds_toArray, List.set_cons_zero, List.set_cons_succ]
   refine tkq 8 ?_
   refine rdq 9 (fun K hK => ?_)
   go_simp
   refine hK.out _ _ trivial (fun hS => ?_)
   clear hK K
   try simp only [Act.put, List.getElem_toArray, List.getElem_cons_succ, List.getElem_cons_zero, List.setIfInBounds_toArray, List.set_cons_zero, List.set_cons_succ]
   refine wpAnyH_done (by kernel_rfl) ?_ _
   have HK4 : Hid (Blk ((w3.setCell ⟨w.heap.size, 8 + 1, none⟩ (.slice ql nl dl)).setCell ⟨w.heap.size, 9 + 1, none⟩ (.slice qn nn dn)) w.heap.size #[.int .i64 m.k, .int .i64 m.s, .int .i64 m.n, .int .i64 m.b, .int .i64 m.c, .int .i64 m.r, .int .i64 m.y, .int .i64 m.a, .bool m.t, .slice ql nl dl, .slice qn nn dn] 38) := (HK3.out.set 9 (.slice ql nl dl)).set 10 (.slice qn nn dn)
   have HC4 : Hid (Chg w.heap.size w3 ((w3.setCell ⟨w.heap.size, 8 + 1, none⟩ (.slice ql nl dl)).setCell ⟨w.heap.size, 9 + 1, none⟩ (.slice qn nn dn))) := ((Chg.refl _ w3).set 9 _).set 10 _
   have HR3 := Lib.hid (HR0.out.below HB3.out HR0.out.lt)
   have HR4 := Lib.hid (HR3.out.chg HC4.out (by omega))
   have HL4 := Lib.hid (HO2'.out.stay (fun b hb => HC4.out.2 b (HO2'.out.lt b hb) (by have h1 := HO2'.out.block_ge b hb; have h2 := HLT.out; simp at h1; omega)))
   have HN4 := Lib.hid (HO3.out.stayV (fun b hb => HC4.out.2 b (HO3.out.lt b hb) (by have h1 := HO3.out.block_ge b hb; have h2 := HLT.out; have h3 := HB2.out.size; omega)))
   have HB4 := Lib.hid ((HB0.out.trans (HB3.out.mono HB0.out.size)).trans (HC4.out.below (Nat.le_refl _) (by have h2 := HLT.out; have h3 := HB3.out.size; omega)))
   have HLT4 : Hid (W0.heap.size ≤ w2.heap.size) := HB2.out.size
   generalize hW4 : ((w3.setCell ⟨w.heap.size, 8 + 1, none⟩ (.slice ql nl dl)).setCell ⟨w.heap.size, 9 + 1, none⟩ (.slice qn nn dn)) = W4 at *
   clear hW4 HK3 HC4 HR3 HO2' HO2 HO3 HB3 h8a h9a h9b hc8 hc9 hf8 hf9
   have hk4 := HK4.out
   have d0 : W4.cell? ⟨w.heap.size, 0, none⟩ = some (.int .i64 m.k) := hk4.cell 0
   have d1 : W4.cell? ⟨w.heap.size, 1, none⟩ = some (.int .i64 m.s) := hk4.cell 1
   have d2 : W4.cell? ⟨w.heap.size, 2, none⟩ = some (.int .i64 m.n) := hk4.cell 2
   have d3 : W4.cell? ⟨w.heap.size, 3, none⟩ = some (.int .i64 m.b) := hk4.cell 3
   have d4 : W4.cell? ⟨w.heap.size, 4, none⟩ = some (.int .i64 m.c) := hk4.cell 4
   have d5 : W4.cell? ⟨w.heap.size, 5, none⟩ = some (.int .i64 m.r) := hk4.cell 5
   have d6 : W4.cell? ⟨w.heap.size, 6, none⟩ = some (.int .i64 m.y) := hk4.cell 6
   have d7 : W4.cell? ⟨w.heap.size, 7, none⟩ = some (.int .i64 m.a) := hk4.cell 7
   have d8 : W4.cell? ⟨w.heap.size, 8, none⟩ = some (.bool m.t) := hk4.cell 8
   have d9 : W4.cell? ⟨w.heap.size, 9, none⟩ = some (.slice ql nl dl) := hk4.cell 9
   have d10 : W4.cell? ⟨w.heap.size, 10, none⟩ = some (.slice qn nn dn) := hk4.cell 10
   clear hk4
   go_wp2_with (with_reducible refine stop_storeT 38 (.tmp 2) (.tmp 11) rfl ?_)
   have HTH : Hid (W4.there (w.heap.size + 1) 0 11) := HR4.out.thereAt
   have HF : Hid (Blk (W4.setCells (w.heap.size + 1) 0 (#[.int .i64 m.k, .int .i64 m.s, .int .i64 m.n, .int .i64 m.b, .int .i64 m.c, .int .i64 m.r, .int .i64 m.y, .int .i64 m.a, .bool m.t, .slice ql nl dl, .slice qn nn dn] : Array Value).toList) (w.heap.size + 1) #[.int .i64 m.k, .int .i64 m.s, .int .i64 m.n, .int .i64 m.b, .int .i64 m.c, .int .i64 m.r, .int .i64 m.y, .int .i64 m.a, .bool m.t, .slice ql nl dl, .slice qn nn dn] 38 ∧ Chg (w.heap.size + 1) W4 (W4.setCells (w.heap.size + 1) 0 (#[.int .i64 m.k, .int .i64 m.s, .int .i64 m.n, .int .i64 m.b, .int .i64 m.c, .int .i64 m.r, .int .i64 m.y, .int .i64 m.a, .bool m.t, .slice ql nl dl, .slice qn nn dn] : Array Value).toList)) := ⟨blk_put_all HR4.out _ rfl, chg_putL _ _ _ _ _ (Chg.refl _ W4)⟩
   refine wpList_store_mid rfl 38 (.tmp 2) (.tmp 11) rfl (w.heap.size + 1) 0 #[.int .i64 m.k, .int .i64 m.s, .int .i64 m.n, .int .i64 m.b, .int .i64 m.c, .int .i64 m.r, .int .i64 m.y, .int .i64 m.a, .bool m.t, .slice ql nl dl, .slice qn nn dn] rfl rfl HTH.out (infoM rfl) (all_oneCell_toArray (one11M _ _ _ _ _ _ _ _ _ _ _ _ _ _ _)) ?_
   generalize World.setCells W4 _ _ _ = W5 at *
   clear HTH HR4 HK4 d0 d1 d2 d3 d4 d5 d6 d7 d8 d9 d10
   go_wp2_with fail
   have hf := HF.out.1
   refine bodyPost_ret (v := .agg #[.int .i64 m.k, .int .i64 m.s, .int .i64 m.n, .int .i64 m.b, .int .i64 m.c, .int .i64 m.r, .int .i64 m.y, .int .i64 m.a, .bool m.t, .slice ql nl dl, .slice qn nn dn]) (by simp [results, Try.results13, go_sem, hf.cell 0, hf.cell 1, hf.cell 2, hf.cell 3, hf.cell 4, hf.cell 5, hf.cell 6, hf.cell 7, hf.cell 8, hf.cell 9, hf.cell 10]) rfl ?_
   refine ⟨_, _, rfl, ?_, ?_, HB4.out.trans (HF.out.2.below (by omega) HB4.out.size)⟩
   ·exact (HL4.out.stay (fun b hb => HF.out.2.2 b (HL4.out.lt b hb) (by have h1 := HL4.out.block_ge b hb; have h2 := HLT.out; simp at h1; omega))).less (by have h2 := HLT.out; simp; omega)
   ·exact own_less (HN4.out.stayV (fun b hb => HF.out.2.2 b (HN4.out.lt b hb) (by have h1 := HN4.out.block_ge b hb; have h2 := HLT.out; have h3 := HLT4.out; omega))) (by have h2 := HLT.out; have h3 := HLT4.out; omega)
 ·skip
  go_simp
  refine hK.out _ _ trivial (fun hS => ?_)
  clear hK K
  try simp only [Act.put, List.getElem_toArray, List.getElem_cons_succ, List.getElem_cons_zero, List.setIfInBounds_toArray, List.set_cons_zero, List.set_cons_succ]
  refine rdq 1 (fun K hK => ?_)
  go_simp
  refine hK.out _ _ trivial (fun hS => ?_)
  clear hK K
  try simp only [Act.put, List.getElem_toArray, List.getElem_cons_succ, List.getElem_cons_zero, List.setIfInBounds_toArray, List.set_cons_zero, List.set_cons_succ]
  refine rdq 2 (fun K hK => ?_)
  go_simp
  go_at_call 16
  refine (cloneN_any _ _ _ (HL.out.kept HB0.out.drew) (by rw [HNL.out]; have := HZ.out.1; rw [HNL.out] at this; omega)).mono ?_
  rintro y w2 ⟨v2, rfl, ho2, hb2⟩
  have HO2 := Lib.hid ho2
  have HB2 := Lib.hid ((Below.refl W0.heap.size W0).drew.trans hb2)
  have h9b : w2.cell? ⟨w.heap.size, 9 + 1, none⟩ = some (.slice pn nn cn) := (HK0.out.below HB2.out HK0.out.lt).cell 10
  clear ho2 hb2
  try go_wp2_with fail
  refine hK.out _ _ trivial (fun hS => ?_)
  clear hK K
  try simp only [Act.put, List.getElem_toArray, List.getElem_cons_succ, List.getElem_cons_zero, List.setIfInBounds_toArray, List.set_cons_zero, List.set_cons_succ]
  refine tkq 6 ?_
  refine rdq 5 (fun K hK => ?_)
  go_simp
  go_at_call 17
  refine (clone64_any _ _ _ (HN.out.kept (HB0.out.trans (HB2.out.mono HB0.out.size))) (by rw [HNN.out]; have := HZ.out.2; rw [HNN.out] at this; omega)).mono ?_
  rintro y w3 ⟨v3, rfl, ho3, hb3⟩
  have HO3 := Lib.hid ho3
  have HO2' := Lib.hid (HO2.out.later hb3)
  have HB3 := ktq HB2 hb3
  obtain ⟨ql, dl, rfl⟩ := HO2'.out.form
  obtain ⟨qn, dn, rfl⟩ := HO3.out.form
  rw [HNL.out] at HO2' ⊢
  rw [HNN.out] at HO3 ⊢
  have HK3 := Lib.hid (HK0.out.below HB3.out HK0.out.lt)
  have hc8 := HK3.out.cell 9
  have hc9 := HK3.out.cell 10
  have hf8 := HK3.out.free 9
  have hf9 := HK3.out.free 10
  clear ho3 hb3
  try go_wp2_with fail
  refine hK.out _ _ trivial (fun hS => ?_)
  clear hK K
  try simp only [Act.put, List.getElem_toArray, List.getElem_cons_succ, List.getElem_cons_zero, List.setIfInBounds_toArray, List.set_cons_zero, List.set_cons_succ]
  refine rdq 7 (fun K hK => ?_)
  go_simp
  refine hK.out _ _ trivial (fun hS => ?_)
  clear hK K
  try simp only [Act.put, List.getElem_toArray, List.getElem_cons_succ, List.getElem_cons_zero, List.setIfInBounds_toArray, List.set_cons_zero, List.set_cons_succ]
  refine tkq 8 ?_
  refine rdq 9 (fun K hK => ?_)
  go_simp
  refine hK.out _ _ trivial (fun hS => ?_)
  clear hK K
  try simp only [Act.put, List.getElem_toArray, List.getElem_cons_succ, List.getElem_cons_zero, List.setIfInBounds_toArray, List.set_cons_zero, List.set_cons_succ]
  refine wpAnyH_done (by kernel_rfl) ?_ _
  have HK4 : Hid (Blk ((w3.setCell ⟨w.heap.size, 8 + 1, none⟩ (.slice ql nl dl)).setCell ⟨w.heap.size, 9 + 1, none⟩ (.slice qn nn dn)) w.heap.size #[.int .i64 m.k, .int .i64 m.s, .int .i64 m.n, .int .i64 m.b, .int .i64 m.c, .int .i64 m.r, .int .i64 m.y, .int .i64 m.a, .bool m.t, .slice ql nl dl, .slice qn nn dn] 38) := (HK3.out.set 9 (.slice ql nl dl)).set 10 (.slice qn nn dn)
  have HC4 : Hid (Chg w.heap.size w3 ((w3.setCell ⟨w.heap.size, 8 + 1, none⟩ (.slice ql nl dl)).setCell ⟨w.heap.size, 9 + 1, none⟩ (.slice qn nn dn))) := ((Chg.refl _ w3).set 9 _).set 10 _
  have HR3 := Lib.hid (HR0.out.below HB3.out HR0.out.lt)
  have HR4 := Lib.hid (HR3.out.chg HC4.out (by omega))
  have HL4 := Lib.hid (HO2'.out.stay (fun b hb => HC4.out.2 b (HO2'.out.lt b hb) (by have h1 := HO2'.out.block_ge b hb; have h2 := HLT.out; simp at h1; omega)))
  have HN4 := Lib.hid (HO3.out.stayV (fun b hb => HC4.out.2 b (HO3.out.lt b hb) (by have h1 := HO3.out.block_ge b hb; have h2 := HLT.out; have h3 := HB2.out.size; omega)))
  have HB4 := Lib.hid ((HB0.out.trans (HB3.out.mono HB0.out.size)).trans (HC4.out.below (Nat.le_refl _) (by have h2 := HLT.out; have h3 := HB3.out.size; omega)))
  have HLT4 : Hid (W0.heap.size ≤ w2.heap.size) := HB2.out.size
  generalize hW4 : ((w3.setCell ⟨w.heap.size, 8 + 1, none⟩ (.slice ql nl dl)).setCell ⟨w.heap.size, 9 + 1, none⟩ (.slice qn nn dn)) = W4 at *
  clear hW4 HK3 HC4 HR3 HO2' HO2 HO3 HB3 h8a h9a h9b hc8 hc9 hf8 hf9
  have hk4 := HK4.out
  have d0 : W4.cell? ⟨w.heap.size, 0, none⟩ = some (.int .i64 m.k) := hk4.cell 0
  have d1 : W4.cell? ⟨w.heap.size, 1, none⟩ = some (.int .i64 m.s) := hk4.cell 1
  have d2 : W4.cell? ⟨w.heap.size, 2, none⟩ = some (.int .i64 m.n) := hk4.cell 2
  have d3 : W4.cell? ⟨w.heap.size, 3, none⟩ = some (.int .i64 m.b) := hk4.cell 3
  have d4 : W4.cell? ⟨w.heap.size, 4, none⟩ = some (.int .i64 m.c) := hk4.cell 4
  have d5 : W4.cell? ⟨w.heap.size, 5, none⟩ = some (.int .i64 m.r) := hk4.cell 5
  have d6 : W4.cell? ⟨w.heap.size, 6, none⟩ = some (.int .i64 m.y) := hk4.cell 6
  have d7 : W4.cell? ⟨w.heap.size, 7, none⟩ = some (.int .i64 m.a) := hk4.cell 7
  have d8 : W4.cell? ⟨w.heap.size, 8, none⟩ = some (.bool m.t) := hk4.cell 8
  have d9 : W4.cell? ⟨w.heap.size, 9, none⟩ = some (.slice ql nl dl) := hk4.cell 9
  have d10 : W4.cell? ⟨w.heap.size, 10, none⟩ = some (.slice qn nn dn) := hk4.cell 10
  clear hk4
  go_wp2_with (with_reducible refine stop_storeT 38 (.tmp 2) (.tmp 11) rfl ?_)
  have HTH : Hid (W4.there (w.heap.size + 1) 0 11) := HR4.out.thereAt
  have HF : Hid (Blk (W4.setCells (w.heap.size + 1) 0 (#[.int .i64 m.k, .int .i64 m.s, .int .i64 m.n, .int .i64 m.b, .int .i64 m.c, .int .i64 m.r, .int .i64 m.y, .int .i64 m.a, .bool m.t, .slice ql nl dl, .slice qn nn dn] : Array Value).toList) (w.heap.size + 1) #[.int .i64 m.k, .int .i64 m.s, .int .i64 m.n, .int .i64 m.b, .int .i64 m.c, .int .i64 m.r, .int .i64 m.y, .int .i64 m.a, .bool m.t, .slice ql nl dl, .slice qn nn dn] 38 ∧ Chg (w.heap.size + 1) W4 (W4.setCells (w.heap.size + 1) 0 (#[.int .i64 m.k, .int .i64 m.s, .int .i64 m.n, .int .i64 m.b, .int .i64 m.c, .int .i64 m.r, .int .i64 m.y, .int .i64 m.a, .bool m.t, .slice ql nl dl, .slice qn nn dn] : Array Value).toList)) := ⟨blk_put_all HR4.out _ rfl, chg_putL _ _ _ _ _ (Chg.refl _ W4)⟩
  refine wpList_store_mid rfl 38 (.tmp 2) (.tmp 11) rfl (w.heap.size + 1) 0 #[.int .i64 m.k, .int .i64 m.s, .int .i64 m.n, .int .i64 m.b, .int .i64 m.c, .int .i64 m.r, .int .i64 m.y, .int .i64 m.a, .bool m.t, .slice ql nl dl, .slice qn nn dn] rfl rfl HTH.out (infoM rfl) (all_oneCell_toArray (one11M _ _ _ _ _ _ _ _ _ _ _ _ _ _ _)) ?_
  generalize World.setCells W4 _ _ _ = W5 at *
  clear HTH HR4 HK4 d0 d1 d2 d3 d4 d5 d6 d7 d8 d9 d10
  go_wp2_with fail
  have hf := HF.out.1
  refine bodyPost_ret (v := .agg #[.int .i64 m.k, .int .i64 m.s, .int .i64 m.n, .int .i64 m.b, .int .i64 m.c, .int .i64 m.r, .int .i64 m.y, .int .i64 m.a, .bool m.t, .slice ql nl dl, .slice qn nn dn]) (by simp [results, Try.results13, go_sem, hf.cell 0, hf.cell 1, hf.cell 2, hf.cell 3, hf.cell 4, hf.cell 5, hf.cell 6, hf.cell 7, hf.cell 8, hf.cell 9, hf.cell 10]) rfl ?_
  refine ⟨_, _, rfl, ?_, ?_, HB4.out.trans (HF.out.2.below (by omega) HB4.out.size)⟩
  ·exact (HL4.out.stay (fun b hb => HF.out.2.2 b (HL4.out.lt b hb) (by have h1 := HL4.out.block_ge b hb; have h2 := HLT.out; simp at h1; omega))).less (by have h2 := HLT.out; simp; omega)
  ·exact own_less (HN4.out.stayV (fun b hb => HF.out.2.2 b (HN4.out.lt b hb) (by have h1 := HN4.out.block_ge b hb; have h2 := HLT.out; have h3 := HLT4.out; omega))) (by have h2 := HLT.out; have h3 := HLT4.out; omega)
end Go.Proofs.Ytboplnhgafbgbaa
namespace Go.Proofs.Ytboplnhgafbgbaa
open Go.RowKit
set_option linter.unusedSimpArgs false
/-- A node's sessions, as they are handed on. -/
def Lnk (P : Nat → Prop) (w : World) (v : Value) (me : Int) (qs : List Pe) : Prop := ∃ p c, v = .agg #[.int .i64 me, .slice p qs.length c] ∧ PeRow P w (.slice p qs.length c) qs
theorem Lnk.kept {P : Nat → Prop} {w w' : World} {v : Value} {me : Int} {qs : List Pe} (h : Lnk P w v me qs) (hb : Below w.heap.size w w') : Lnk P w' v me qs := by
 obtain ⟨p, c, rfl, h⟩ := h
 exact ⟨p, c, rfl, h.kept hb⟩
theorem Lnk.keepP {P : Nat → Prop} {w w' : World} {v : Value} {me : Int} {qs : List Pe} (h : Lnk P w v me qs) (hk : KeepP P w w') : Lnk P w' v me qs := by
 obtain ⟨p, c, rfl, h⟩ := h
 exact ⟨p, c, rfl, h.keepP hk⟩
theorem Lnk.mono {P Q : Nat → Prop} {w : World} {v : Value} {me : Int} {qs : List Pe} (h : Lnk P w v me qs) (hq : ∀ b, b < w.heap.size → P b → Q b) : Lnk Q w v me qs := by
 obtain ⟨p, c, rfl, h⟩ := h
 exact ⟨p, c, rfl, h.mono hq⟩
/-- Is there another node of that number? -/
def okP (me : Int) (n : Nat) (i : Int) : Bool := decide (0 ≤ i) && (decide (i < (n : Int)) && !decide (i = me))
theorem okP_iff {me : Int} {n : Nat} {i : Int} : okP me n i = true ↔ 0 ≤ i ∧ i < (n : Int) ∧ i ≠ me := by simp [okP]
def peAt (me : Int) (qs : List Pe) (i : Int) : Pe := if okP me qs.length i then qs.getD i.toNat ([], 0) else ([], 0)
set_option maxHeartbeats 4000000 in
set_option maxRecDepth 100000 in
theorem other_any (P : Nat → Prop) (me i : Int) (p : Option Addr) (n c : Nat) (qs : List Pe) (w : World) (hn : n = qs.length) (hr : PeRow P w (.slice p n c) qs) :
  Calls Try.prog 11 #[.agg #[.int .i64 me, .slice p n c], .int .i64 i] w fun e w' => ∃ x : PeerX, e = .returned (.tuple #[.agg #[.slice x.p x.n x.c, .int .i64 x.h], .bool (okP me qs.length i)]) ∧ PeOk P w' x (peAt me qs i) ∧ Below w.heap.size w w' := by
 have HB := Lib.hid ((oneB w (.cells #[.int .i64 me, .slice p n c] 27)).trans ((oneB (w.alloc (.cells #[.int .i64 me, .slice p n c] 27)) (.cells #[.slice none 0 0, .int .i64 0] 43)).mono (by simp)))
 have HNO : Hid (∀ w', PeOk P w' ⟨none, 0, 0, 0⟩ ([], 0)) := fun w' => ⟨rfl, rfl, MRow.nil_ _ _⟩
 by_cases h : okP me qs.length i = true
 ·rw [h]
  obtain ⟨h0, h1, h2⟩ := okP_iff.1 h
  obtain ⟨j, rfl⟩ := Int.eq_ofNat_of_zero_le h0
  have hj : j < qs.length := by omega
  have hP : peAt me qs j = qs[j] := by unfold peAt; rw [if_pos h]; simp [hj]
  rw [hP]
  obtain ⟨xs, hx, _, hl, ho⟩ := hr
  obtain ⟨b, o, rfl, hb, hc⟩ := hx.at_ j (by omega)
  have HO := Lib.hid (ho j (by omega) hj)
  generalize xs[j] = x at *
  have c0 : w.cell? ⟨b, o + j * 2, none⟩ = some (.slice x.p x.n x.c) := hc 0 (by decide)
  have c1 : w.cell? ⟨b, o + j * 2 + 1, none⟩ = some (.int .i64 x.h) := hc 1 (by decide)
  have hjn : (j : Int) < (n : Int) := by omega
  have hjn' : j < n := by omega
  have e2 : ((j : Int) != me) = true := by simpa using h2
  have e3 : ((j : Int) == me) = false := by simpa using h2
  clear h h1 hP hc hx hl ho hn
  generalize qs[j] = q at *
  clear hj
  go_enter Try.func11, Try.ntmps11
  go_wp2_with fail
  have hf := Blk.new' (w.alloc (.cells #[.int .i64 me, .slice (some ⟨b, o, none⟩) n c] 27)) #[.slice x.p x.n x.c, .int .i64 x.h] 43 (b := w.heap.size + 1) (by simp)
  refine bodyPost_ret (v := .tuple #[.agg #[.slice x.p x.n x.c, .int .i64 x.h], .bool true]) (by simp [results, Try.results11, go_sem, hf.cell 0, hf.cell 1]) rfl ⟨x, rfl, HO.out.kept ((oneB w _).trans ((oneB _ _).mono (by simp))), ?_⟩
  exact (oneB w _).trans ((oneB _ _).mono (by simp))
 ·have h' : okP me qs.length i = false := by simpa using h
  rw [h']
  have hP : peAt me qs i = ([], 0) := by unfold peAt; rw [if_neg h]
  rw [hP]
  have hd : i < 0 ∨ (0 ≤ i ∧ (n : Int) ≤ i) ∨ (0 ≤ i ∧ i < (n : Int) ∧ i = me) := by
   have : ¬ (0 ≤ i ∧ i < (qs.length : Int) ∧ i ≠ me) := fun hh => h (okP_iff.2 hh)
   omega
  clear h h' hP hr
  rcases hd with h1 | ⟨h1, h2⟩ | ⟨h1, h2, h3⟩
  ·have h1' : ¬ 0 ≤ i := by omega
   go_enter Try.func11, Try.ntmps11
   go_wp2_with fail
   have hf := Blk.new' (w.alloc (.cells #[.int .i64 me, .slice p qs.length c] 27)) #[.slice none 0 0, .int .i64 0] 43 (b := w.heap.size + 1) (by simp)
   refine bodyPost_ret (v := .tuple #[.agg #[.slice none 0 0, .int .i64 0], .bool false]) (by simp [results, Try.results11, go_sem, hf.cell 0, hf.cell 1]) rfl ⟨⟨none, 0, 0, 0⟩, rfl, HNO.out _, ?_⟩
   exact (oneB w _).trans ((oneB _ _).mono (by simp))
  ·have h2' : ¬ i < (n : Int) := by omega
   go_enter Try.func11, Try.ntmps11
   go_wp2_with fail
   have hf := Blk.new' (w.alloc (.cells #[.int .i64 me, .slice p qs.length c] 27)) #[.slice none 0 0, .int .i64 0] 43 (b := w.heap.size + 1) (by simp)
   refine bodyPost_ret (v := .tuple #[.agg #[.slice none 0 0, .int .i64 0], .bool false]) (by simp [results, Try.results11, go_sem, hf.cell 0, hf.cell 1]) rfl ⟨⟨none, 0, 0, 0⟩, rfl, HNO.out _, ?_⟩
   exact (oneB w _).trans ((oneB _ _).mono (by simp))
  ·subst h3
   go_enter Try.func11, Try.ntmps11
   go_wp2_with fail
   have hf := Blk.new' (w.alloc (.cells #[.int .i64 i, .slice p qs.length c] 27)) #[.slice none 0 0, .int .i64 0] 43 (b := w.heap.size + 1) (by simp)
   refine bodyPost_ret (v := .tuple #[.agg #[.slice none 0 0, .int .i64 0], .bool false]) (by simp [results, Try.results11, go_sem, hf.cell 0, hf.cell 1]) rfl ⟨⟨none, 0, 0, 0⟩, rfl, HNO.out _, ?_⟩
   exact (oneB w _).trans ((oneB _ _).mono (by simp))
end Go.Proofs.Ytboplnhgafbgbaa
namespace Go.Proofs.Ytboplnhgafbgbaa
open Go.RowKit
set_option linter.unusedSimpArgs false
theorem infoP : (Try.prog.info? 43).map (·.size) = some 2 := by kernel_rfl
theorem infoL : (Try.prog.info? 27).map (·.size) = some 2 := by kernel_rfl
theorem oneL (me : Int) (p : Option Addr) (n c : Nat) : ∀ u ∈ [Value.int .i64 me, .slice p n c], u.oneCell' = true := by
 intro u hu
 simp at hu
 rcases hu with rfl | rfl <;> rfl
theorem PeRow.set {P : Nat → Prop} {w : World} {base : Nat} {p : Option Addr} {n c : Nat} {xs : List PeerX} {qs : List Pe} {j : Nat} {x : PeerX} {q : Pe} (ho : OwnT encP w base 43 (.slice p n c) (xs.set j x)) (hl : xs.length = qs.length) (h : ∀ i (h : i < xs.length) (h' : i < qs.length), PeOk P w xs[i] qs[i]) (hx : PeOk P w x q) (hP : ∀ b, base ≤ b → P b) : PeRow P w (.slice p n c) (qs.set j q) := by
 refine ⟨_, ho.row, ho.at_P hP, by rw [List.length_set, List.length_set, hl], fun i hi hi' => ?_⟩
 rw [List.length_set] at hi hi'
 by_cases hij : j = i
 ·subst hij
  rw [List.getElem_set_self, List.getElem_set_self]
  exact hx
 ·rw [List.getElem_set_ne hij, List.getElem_set_ne hij]
  exact h i hi hi'
set_option maxHeartbeats 4000000 in
set_option maxRecDepth 100000 in
theorem with_any (P : Nat → Prop) (me : Int) (j : Nat) (p : Option Addr) (n c : Nat) (qs : List Pe) (x : PeerX) (q : Pe) (w : World) (hn : n = qs.length) (hr : PeRow P w (.slice p n c) qs) (hx : PeOk P w x q) (hj : j < qs.length) (hb : qs.length ≤ 1000) (hP : ∀ b, w.heap.size ≤ b → P b) :
  Calls Try.prog 14 #[.agg #[.int .i64 me, .slice p n c], .int .i64 (j : Nat), .agg #[.slice x.p x.n x.c, .int .i64 x.h]] w fun e w' => ∃ v, e = .returned v ∧ Lnk P w' v me (qs.set j q) ∧ Below w.heap.size w w' := by
 obtain ⟨xs, hxs, _, hl, ho⟩ := hr
 have HPP := Lib.hid hP
 clear hP
 have HXS := Lib.hid hxs
 have HL := Lib.hid hl
 have HO := Lib.hid (fun w' (h : Below w.heap.size w w') i h1 h2 => (ho i h1 h2).kept h)
 have HX := Lib.hid (fun w' (h : Below w.heap.size w w') => hx.kept h)
 have HN := Lib.hid hn
 have HQ := Lib.hid hb
 have hjn : (j : Int) < (n : Int) := by omega
 have hjn' : j < n := by omega
 clear hxs hl ho hx hn hj hb
 have HK0 := Lib.hid (((Blk.new w #[.int .i64 me, .slice p n c] 27).alloc (.cells #[.slice x.p x.n x.c, .int .i64 x.h] 43)).alloc (.cells #[.int .i64 0, .slice none 0 0] 27))
 have HP0 := Lib.hid ((Blk.new' (w.alloc (.cells #[.int .i64 me, .slice p n c] 27)) #[.slice x.p x.n x.c, .int .i64 x.h] 43 (b := w.heap.size + 1) (by simp)).alloc (.cells #[.int .i64 0, .slice none 0 0] 27))
 have HR0 := Lib.hid (Blk.new' ((w.alloc (.cells #[.int .i64 me, .slice p n c] 27)).alloc (.cells #[.slice x.p x.n x.c, .int .i64 x.h] 43)) #[.int .i64 0, .slice none 0 0] 27 (b := w.heap.size + 1 + 1) (by simp))
 have HB0 := Lib.hid (((oneB w (.cells #[.int .i64 me, .slice p n c] 27)).alloc (by simp) (.cells #[.slice x.p x.n x.c, .int .i64 x.h] 43)).alloc (by simp; omega) (.cells #[.int .i64 0, .slice none 0 0] 27))
 go_enter Try.func14, Try.ntmps14
 go_wp2_with fail
 generalize ((w.alloc (.cells #[.int .i64 me, .slice p n c] 27)).alloc (.cells #[.slice x.p x.n x.c, .int .i64 x.h] 43)).alloc (.cells #[.int .i64 0, .slice none 0 0] 27) = W0 at *
 have HLT := Lib.hid HR0.out.lt
 refine (cloneP_any W0 _ xs (HXS.out.kept HB0.out) (by rw [HL.out]; have := HQ.out; omega)).mono ?_
 rintro y w2 ⟨v2, rfl, ho2, hb2⟩
 obtain ⟨pv, cv, rfl⟩ := ho2.form
 rw [HL.out, ← HN.out] at ho2 ⊢
 obtain ⟨gv, cur, rfl, hgv, hcur, hnc, hrest⟩ := ho2.lies (by omega)
 clear hrest
 have HO2 := Lib.hid ho2
 have HK2 := kbq HK0 hb2
 have HP2 := kbq HP0 hb2
 have HR2 := kbq HR0 hb2
 have HB2 := ktq HB0 hb2
 have HGV := Lib.hid hgv
 have hk2 := HK2.out
 have c0 : w2.cell? ⟨w.heap.size, 0, none⟩ = some (.int .i64 me) := hk2.cell 0
 have c1 : w2.cell? ⟨w.heap.size, 1, none⟩ = some (.slice p n c) := hk2.cell 1
 have f1 := hk2.free 1
 clear hk2 ho2 hgv hcur hb2 HK0 HP0 HR0 HB0
 have HK3 : Hid (Blk (w2.setCell ⟨w.heap.size, 1, none⟩ (.slice (some ⟨gv, 0, none⟩) n cv)) w.heap.size #[.int .i64 me, .slice (some ⟨gv, 0, none⟩) n cv] 27) := HK2.out.set 1 _
 have HC3 : Hid (Chg w.heap.size w2 (w2.setCell ⟨w.heap.size, 1, none⟩ (.slice (some ⟨gv, 0, none⟩) n cv))) := (Chg.refl _ w2).set 1 _
 have HP3 := Lib.hid (HP2.out.chg HC3.out (by omega))
 have HR3 := Lib.hid (HR2.out.chg HC3.out (by omega))
 have HO3 := Lib.hid (HO2.out.stay (fun b hb => HC3.out.2 b (HO2.out.lt b hb) (by have h1 := HO2.out.block_ge b hb; have h2 := HLT.out; omega)))
 have HB3 := Lib.hid (HB2.out.trans (HC3.out.below (Nat.le_refl _) HB2.out.size))
 have hk3 := HK3.out
 have hp3 := HP3.out
 have d0 : (w2.setCell ⟨w.heap.size, 1, none⟩ (.slice (some ⟨gv, 0, none⟩) n cv)).cell? ⟨w.heap.size, 0, none⟩ = some (.int .i64 me) := hk3.cell 0
 have d1 : (w2.setCell ⟨w.heap.size, 1, none⟩ (.slice (some ⟨gv, 0, none⟩) n cv)).cell? ⟨w.heap.size, 1, none⟩ = some (.slice (some ⟨gv, 0, none⟩) n cv) := hk3.cell 1
 have d2 : (w2.setCell ⟨w.heap.size, 1, none⟩ (.slice (some ⟨gv, 0, none⟩) n cv)).cell? ⟨w.heap.size + 1, 0, none⟩ = some (.slice x.p x.n x.c) := hp3.cell 0
 have d3 : (w2.setCell ⟨w.heap.size, 1, none⟩ (.slice (some ⟨gv, 0, none⟩) n cv)).cell? ⟨w.heap.size + 1, 1, none⟩ = some (.int .i64 x.h) := hp3.cell 1
 clear hk3 hp3
 go_wp2_with (with_reducible refine stop_storeT 43 (.tmp 15) (.tmp 14) rfl ?_)
 generalize w2.setCell ⟨w.heap.size, 1, none⟩ (.slice (some ⟨gv, 0, none⟩) n cv) = w3 at *
 have HTH := Lib.hid (HO3.out.there j 2 (by show j * 2 + 2 ≤ cv * 2; omega) (by omega))
 have HO4 := Lib.hid (HO3.out.put j hjn' x)
 have HC4 : Hid (Chg gv w3 (w3.setCells gv (j * 2) [.slice x.p x.n x.c, .int .i64 x.h])) := chg_putL _ _ _ _ _ (Chg.refl _ _)
 have HK4 := Lib.hid (HK3.out.chg HC4.out (by have h1 := HGV.out; have h2 := HLT.out; omega))
 have HR4 := Lib.hid (HR3.out.chg HC4.out (by have h1 := HGV.out; have h2 := HLT.out; omega))
 have HB4 := Lib.hid (HB3.out.trans (HC4.out.below (by have h1 := HGV.out; have h2 := HLT.out; omega) HB3.out.size))
 refine wpList_store_mid rfl 43 (.tmp 15) (.tmp 14) rfl gv (j * 2) #[.slice x.p x.n x.c, .int .i64 x.h] rfl rfl HTH.out infoP (all_oneCell_toArray (encP.one x)) ?_
 have HO4' : Hid (OwnT encP (w3.setCells gv (j * 2) [.slice x.p x.n x.c, .int .i64 x.h]) W0.heap.size 43 (.slice (some ⟨gv, 0, none⟩) n cv) (xs.set j x)) := HO4.out
 clear HO4 HTH
 generalize w3.setCells gv (j * 2) _ = w4 at *
 have hk4 := HK4.out
 have e0 : w4.cell? ⟨w.heap.size, 0, none⟩ = some (.int .i64 me) := hk4.cell 0
 have e1 : w4.cell? ⟨w.heap.size, 1, none⟩ = some (.slice (some ⟨gv, 0, none⟩) n cv) := hk4.cell 1
 clear hk4 d0 d1 d2 d3 c0 c1 f1
 go_wp2_with (with_reducible refine stop_storeT 27 (.tmp 6) (.tmp 16) rfl ?_)
 have HTH : Hid (w4.there (w.heap.size + 1 + 1) 0 2) := HR4.out.thereAt
 have HF : Hid (Blk (w4.setCells (w.heap.size + 1 + 1) 0 [.int .i64 me, .slice (some ⟨gv, 0, none⟩) n cv]) (w.heap.size + 1 + 1) #[.int .i64 me, .slice (some ⟨gv, 0, none⟩) n cv] 27 ∧ Chg (w.heap.size + 1 + 1) w4 (w4.setCells (w.heap.size + 1 + 1) 0 [.int .i64 me, .slice (some ⟨gv, 0, none⟩) n cv])) := ⟨blk_put_all HR4.out _ rfl, chg_putL _ _ _ _ _ (Chg.refl _ _)⟩
 refine wpList_store_mid rfl 27 (.tmp 6) (.tmp 16) rfl (w.heap.size + 1 + 1) 0 #[.int .i64 me, .slice (some ⟨gv, 0, none⟩) n cv] rfl rfl HTH.out infoL (all_oneCell_toArray (oneL _ _ _ _)) ?_
 have HB5 := Lib.hid (HB4.out.trans (HF.out.2.below (by omega) HB4.out.size))
 have HO5 := Lib.hid (HO4'.out.stay (fun b hb => HF.out.2.2 b (HO4'.out.lt b hb) (by have h1 := HO4'.out.block_ge b hb; have h2 := HLT.out; omega)))
 generalize World.setCells w4 _ _ _ = w5 at *
 go_wp2_with fail
 have hf := HF.out.1
 refine bodyPost_ret (v := .agg #[.int .i64 me, .slice (some ⟨gv, 0, none⟩) n cv]) (by simp [results, Try.results14, go_sem, hf.cell 0, hf.cell 1]) rfl ?_
 exact ⟨_, rfl, ⟨some ⟨gv, 0, none⟩, cv, by rw [List.length_set, ← HN.out], by rw [List.length_set, ← HN.out]; exact PeRow.set HO5.out HL.out (HO.out _ HB5.out) (HX.out _ HB5.out) (fun b hb => HPP.out b (by have h2 := HLT.out; omega))⟩, HB5.out⟩
end Go.Proofs.Ytboplnhgafbgbaa
namespace Go.Proofs.Ytboplnhgafbgbaa
open Go.RowKit
set_option linter.unusedSimpArgs false
theorem made_get (z : Array Value) (k n i t : Nat) (hz : z.size = k) (hi : i < n) (ht : t < k) : (madeCells z (n * k))[i * k + t]? = z[t]? := by
 have hlt : i * k + t < n * k := mul_lt_of hi ht
 have hm : (i * k + t) % k = t := by rw [Nat.mul_comm, Nat.mul_add_mod]; exact Nat.mod_eq_of_lt ht
 unfold madeCells
 simp only [Array.getElem?_map, Array.getElem?_range, if_pos hlt, Option.map_some, hz, hm]
 simp [hz, ht]
def okNew (me n : Int) : Prop := 1 ≤ n ∧ n ≤ 9 ∧ 0 ≤ me ∧ me < n
def peers0 (n : Nat) : List Pe := List.replicate n ([], 0)
set_option maxHeartbeats 4000000 in
set_option maxRecDepth 100000 in
theorem new_ok (P : Nat → Prop) (me : Int) (n : Nat) (w : World) (h : okNew me n) (hP : ∀ b, w.heap.size ≤ b → P b) :
  Calls Try.prog 5 #[.int .i64 me, .int .i64 (n : Nat)] w fun e w' => ∃ v, e = .returned (.tuple #[v, .int .i64 0]) ∧ Lnk P w' v me (peers0 n) ∧ Below w.heap.size w w' := by
 obtain ⟨h1, h2, h3, h4⟩ := h
 have e1 : ¬ (n : Int) < 1 := by omega
 have e2 : ¬ (9 : Int) < (n : Int) := by omega
 have e3 : ¬ me < 0 := by omega
 have e4 : ¬ (n : Int) ≤ me := by omega
 have HNB : Hid (n ≤ 9) := by show n ≤ 9; omega
 obtain ⟨i0, hu, hi, hz, hs, hby⟩ := elt_cloneP_any
 have hmk := run_make (P := Try.prog) (w.alloc (.cells #[.int .i64 0, .slice none 0 0] 27)) 25 43 i0 _ hu hi hz .i64 .i64 (n : Int) (n : Int) (by omega) (Int.le_refl _) (by rw [hby]; omega) (by omega)
 rw [hs] at hmk
 simp only [Int.toNat_natCast, Value.cells] at hmk
 go_enter Try.func5, Try.ntmps5
 go_wp2_with fail
 have hk := (Blk.new w #[.int .i64 me, .slice (some ⟨w.heap.size + 1, 0, none⟩) n n] 27).alloc (.cells (madeCells #[.slice none 0 0, .int .i64 0] (n * encP.k)) 43)
 have hm := Blk.new' (w.alloc (.cells #[.int .i64 me, .slice (some ⟨w.heap.size + 1, 0, none⟩) n n] 27)) (madeCells #[.slice none 0 0, .int .i64 0] (n * encP.k)) 43 (b := w.heap.size + 1) (by simp)
 refine bodyPost_ret (v := .tuple #[.agg #[.int .i64 me, .slice (some ⟨w.heap.size + 1, 0, none⟩) n n], .int .i64 0]) (by simp [results, Try.results5, go_sem, hk.cell 0, hk.cell 1]) rfl ?_
 have hlen : (peers0 n).length = n := by simp [peers0]
 refine ⟨_, rfl, ⟨some ⟨w.heap.size + 1, 0, none⟩, n, by rw [hlen], ?_⟩, (oneB w _).trans ((oneB _ _).mono (by simp))⟩
 rw [hlen]
 refine ⟨List.replicate n ⟨none, 0, 0, 0⟩, ⟨_, _, by rw [List.length_replicate], by simp, .inr ⟨w.heap.size + 1, 0, rfl, hm.lt, fun i hi t ht => ?_⟩⟩, (fun b o n c e _ => by cases e; exact hP _ (by omega)), by simp [peers0], fun i hi hi' => ?_⟩
 ·rw [List.length_replicate] at hi
  rw [List.getElem_replicate, Nat.zero_add]
  refine (hm.cell _).trans ((made_get _ 2 n i t rfl hi ht).trans ?_)
  match t, ht with
  | 0, _ => rfl
  | 1, _ => rfl
 ·simp only [peers0, List.getElem_replicate]
  exact ⟨rfl, rfl, MRow.nil_ _ _⟩
theorem new_no (me n : Int) (w : World) (h : ¬ okNew me n) :
  Calls Try.prog 5 #[.int .i64 me, .int .i64 n] w fun e w' => e = .returned (.tuple #[.agg #[.int .i64 0, .slice none 0 0], .int .i64 1]) ∧ Below w.heap.size w w' := by
 have hd : n < 1 ∨ (¬ n < 1 ∧ 9 < n) ∨ (¬ n < 1 ∧ ¬ 9 < n ∧ me < 0) ∨ (¬ n < 1 ∧ ¬ 9 < n ∧ ¬ me < 0 ∧ n ≤ me) := by unfold okNew at h; omega
 clear h
 rcases hd with h1 | ⟨h1, h2⟩ | ⟨h1, h2, h3⟩ | ⟨h1, h2, h3, h4⟩
 all_goals
  go_enter Try.func5, Try.ntmps5
  go_wp2_with fail
  have hf := Blk.new w #[.int .i64 0, .slice none 0 0] 27
  refine bodyPost_ret (v := .tuple #[.agg #[.int .i64 0, .slice none 0 0], .int .i64 1]) (by simp [results, Try.results5, go_sem, hf.cell 0, hf.cell 1]) rfl ⟨rfl, oneB w _⟩
def nextB (q : Pe) (ok : Bool) (i : Int) : Bool := ok && (decide (1 ≤ i) && (i - 1 == q.2))
def oldB (q : Pe) (ok : Bool) (i : Int) : Bool := ok && (decide (1 ≤ i) && decide (i ≤ q.2))
set_option maxHeartbeats 4000000 in
set_option maxRecDepth 100000 in
theorem next_any (P : Nat → Prop) (me i k : Int) (p : Option Addr) (n c : Nat) (qs : List Pe) (w : World) (hn : n = qs.length) (hr : PeRow P w (.slice p n c) qs) (hk : -9223372036854775808 ≤ k ∧ k ≤ 9223372036854775807) :
  Calls Try.prog 8 #[.agg #[.int .i64 me, .slice p n c], .int .i64 i, .int .i64 k] w fun e w' => e = .returned (.tuple #[.bool (nextB (peAt me qs i) (okP me qs.length i) k), .bool (oldB (peAt me qs i) (okP me qs.length i) k)]) ∧ Below w.heap.size w w' := by
 have HB0 := Lib.hid (oneB w (.cells #[.int .i64 me, .slice p n c] 27))
 have HOT := Lib.hid (other_any P me i p n c qs (w.alloc (.cells #[.int .i64 me, .slice p n c] 27)) hn (hr.kept HB0.out))
 generalize peAt me qs i = q at *
 generalize okP me qs.length i = ok at *
 have HW : Hid (1 ≤ k → IntKind.i64.wrap (k - 1) = k - 1) := fun h => IntWalk.i64_in _ (by omega)
 clear hk
 clear hn hr
 by_cases h1 : 1 ≤ k
 ·have hw : IntKind.i64.wrap (k - 1) = k - 1 := HW.out h1
  cases ok with
  | true =>
   go_enter Try.func8, Try.ntmps8
   go_wp2_with fail
   refine HOT.out.mono ?_
   rintro y w1 ⟨x, rfl, hq, hb⟩
   have HQ := Lib.hid hq.1
   have HB := ktq HB0 hb
   clear hq hb HOT
   have hS1 : (w1.alloc (.cells #[.slice x.p x.n x.c, .int .i64 x.h] 43)).drew.cell? ⟨w1.heap.size, 1, none⟩ = some (.int .i64 x.h) := (Blk.new w1 #[.slice x.p x.n x.c, .int .i64 x.h] 43).drew.cell 1
   go_wp2_with fail
   refine wp_region_held_drew (S := fun w' => w'.cell? ⟨w1.heap.size, 1, none⟩ = some (.int .i64 x.h)) (by kernel_rfl) hS1 (fun hS0 => ?_)
   refine tkq 0 ?_
   refine tkq 1 ?_
   refine tkq 2 ?_
   refine tkq 3 ?_
   refine tkq 4 ?_
   refine tkq 5 ?_
   refine tkq 6 ?_
   refine tkq 7 ?_
   refine tkq 8 ?_
   refine tkq 9 ?_
   refine tkq 10 ?_
   refine wpAnyH_done (by kernel_rfl) ?_ _
   go_wp2_with fail
   refine bodyPost_ret (v := .tuple #[.bool (k - 1 == x.h), .bool (decide (k ≤ x.h))]) (by simp [results, Try.results8, go_sem]) rfl ⟨?_, (HB.out.alloc HB.out.size _).drew⟩
   rw [HQ.out]
   simp [nextB, oldB, h1]
  | false =>
   go_enter Try.func8, Try.ntmps8
   go_wp2_with fail
   refine HOT.out.mono ?_
   rintro y w1 ⟨x, rfl, _, hb⟩
   have HB := ktq HB0 hb
   clear hb HOT
   go_wp2_with fail
   refine bodyPost_ret (v := .tuple #[.bool false, .bool false]) (by simp [results, Try.results8, go_sem]) rfl ⟨?_, HB.out.alloc HB.out.size _⟩
   simp [nextB, oldB]
 ·cases ok with
  | true =>
   go_enter Try.func8, Try.ntmps8
   go_wp2_with fail
   refine HOT.out.mono ?_
   rintro y w1 ⟨x, rfl, _, hb⟩
   have HB := ktq HB0 hb
   clear hb HOT
   go_wp2_with fail
   refine bodyPost_ret (v := .tuple #[.bool false, .bool false]) (by simp [results, Try.results8, go_sem]) rfl ⟨?_, HB.out.alloc HB.out.size _⟩
   simp [nextB, oldB]
   omega
  | false =>
   go_enter Try.func8, Try.ntmps8
   go_wp2_with fail
   refine HOT.out.mono ?_
   rintro y w1 ⟨x, rfl, _, hb⟩
   have HB := ktq HB0 hb
   clear hb HOT
   go_wp2_with fail
   refine bodyPost_ret (v := .tuple #[.bool false, .bool false]) (by simp [results, Try.results8, go_sem]) rfl ⟨?_, HB.out.alloc HB.out.size _⟩
   simp [nextB, oldB]
theorem hear_no (P : Nat → Prop) (me i : Int) (p : Option Addr) (n c : Nat) (qs : List Pe) (w : World) (hn : n = qs.length) (hr : PeRow P w (.slice p n c) qs) (hok : okP me qs.length i = false) :
  Calls Try.prog 9 #[.agg #[.int .i64 me, .slice p n c], .int .i64 i] w fun e w' => e = .returned (.tuple #[.agg #[.int .i64 0, .slice none 0 0], .int .i64 1]) ∧ Below w.heap.size w w' := by
 have HB0 := Lib.hid (((oneB w (.cells #[.int .i64 me, .slice p n c] 27))).alloc (by simp) (.cells #[.int .i64 0, .slice none 0 0] 27))
 have HR0 := Lib.hid (Blk.new' (w.alloc (.cells #[.int .i64 me, .slice p n c] 27)) #[.int .i64 0, .slice none 0 0] 27 (b := w.heap.size + 1) (by simp))
 have HOT := Lib.hid (other_any P me i p n c qs ((w.alloc (.cells #[.int .i64 me, .slice p n c] 27)).alloc (.cells #[.int .i64 0, .slice none 0 0] 27)) hn (hr.kept HB0.out))
 rw [hok] at HOT
 clear hn hr hok
 go_enter Try.func9, Try.ntmps9
 go_wp2_with fail
 generalize (w.alloc (.cells #[.int .i64 me, .slice p n c] 27)).alloc (.cells #[.int .i64 0, .slice none 0 0] 27) = W0 at *
 refine HOT.out.mono ?_
 rintro y w1 ⟨x, rfl, _, hb⟩
 have HB := ktq HB0 hb
 have hr1 := (HR0.out.below hb HR0.out.lt).alloc (.cells #[.slice x.p x.n x.c, .int .i64 x.h] 43)
 have HR1 := Lib.hid hr1
 have r0 : (w1.alloc (.cells #[.slice x.p x.n x.c, .int .i64 x.h] 43)).cell? ⟨w.heap.size + 1, 0, none⟩ = some (.int .i64 0) := hr1.cell 0
 have r1 : (w1.alloc (.cells #[.slice x.p x.n x.c, .int .i64 x.h] 43)).cell? ⟨w.heap.size + 1, 1, none⟩ = some (.slice none 0 0) := hr1.cell 1
 have rf0 := hr1.free 0
 have rf1 := hr1.free 1
 clear hb hr1 HOT
 go_wp2_with fail
 have hf := (HR1.out.set 0 (.int .i64 0)).set 1 (.slice none 0 0)
 have hc := ((Chg.refl (w.heap.size + 1) (w1.alloc (.cells #[.slice x.p x.n x.c, .int .i64 x.h] 43))).set 0 (.int .i64 0)).set 1 (.slice none 0 0)
 have hB1 := HB.out.alloc HB.out.size (.cells #[.slice x.p x.n x.c, .int .i64 x.h] 43)
 refine bodyPost_ret (v := .tuple #[.agg #[.int .i64 0, .slice none 0 0], .int .i64 1]) (by simp [results, Try.results9, go_sem, hf.cell 0, hf.cell 1]) rfl ⟨rfl, hB1.trans (hc.below (by omega) hB1.size)⟩
theorem hear_ok (P : Nat → Prop) (me : Int) (j : Nat) (p : Option Addr) (n c : Nat) (qs : List Pe) (w : World) (hn : n = qs.length) (hr : PeRow P w (.slice p n c) qs) (hok : okP me qs.length j = true) (hj : j < qs.length) (hb : qs.length ≤ 1000) (hh : -1000000000000 ≤ qs[j].2 ∧ qs[j].2 ≤ 1000000000000) (hP : ∀ b, w.heap.size ≤ b → P b) :
  Calls Try.prog 9 #[.agg #[.int .i64 me, .slice p n c], .int .i64 (j : Nat)] w fun e w' => ∃ v, e = .returned (.tuple #[v, .int .i64 0]) ∧ Lnk P w' v me (qs.set j (qs[j].1, qs[j].2 + 1)) ∧ Below w.heap.size w w' := by
 have HB0 := Lib.hid (((oneB w (.cells #[.int .i64 me, .slice p n c] 27))).alloc (by simp) (.cells #[.int .i64 0, .slice none 0 0] 27))
 have HK0 := Lib.hid ((Blk.new w #[.int .i64 me, .slice p n c] 27).alloc (.cells #[.int .i64 0, .slice none 0 0] 27))
 have HR0 := Lib.hid (Blk.new' (w.alloc (.cells #[.int .i64 me, .slice p n c] 27)) #[.int .i64 0, .slice none 0 0] 27 (b := w.heap.size + 1) (by simp))
 have HOT := Lib.hid (other_any (fun b => P b ∧ b ≠ w.heap.size + 1) me j p n c qs ((w.alloc (.cells #[.int .i64 me, .slice p n c] 27)).alloc (.cells #[.int .i64 0, .slice none 0 0] 27)) hn ((hr.mono (Q := fun b => P b ∧ b ≠ w.heap.size + 1) (fun b hb hp => ⟨hp, by omega⟩)).kept HB0.out))
 have hP2 : peAt me qs j = qs[j] := by unfold peAt; rw [if_pos hok]; simp [hj]
 rw [hok, hP2] at HOT
 generalize hq : qs[j] = q at *
 have HPR := Lib.hid (fun w' (h : Below w.heap.size w w') => (hr.mono (Q := fun b => P b ∧ b ≠ w.heap.size + 1) (fun b hb hp => ⟨hp, by omega⟩)).kept h)
 have HPP := Lib.hid hP
 clear hP
 have HN := Lib.hid hn
 have HJ := Lib.hid hj
 have HB9 := Lib.hid hb
 have hw : wrap64 (q.2 + 1) = q.2 + 1 := by unfold wrap64; omega
 clear hn hr hok hj hb hP2 hq hh
 go_enter Try.func9, Try.ntmps9
 go_wp2_with fail
 generalize (w.alloc (.cells #[.int .i64 me, .slice p n c] 27)).alloc (.cells #[.int .i64 0, .slice none 0 0] 27) = W0 at *
 refine HOT.out.mono ?_
 rintro y w1 ⟨x, rfl, hx, hb⟩
 have HX := Lib.hid hx
 have hxh := hx.1
 rw [hxh]
 have HB := ktq HB0 hb
 have HK1 := kbq HK0 hb
 have HR1 := kbq HR0 hb
 have HGN : Hid (w.heap.size + 1 < w1.heap.size) := HR1.out.lt
 clear hb hx hxh HOT HK0 HR0 HB0
 have hk2 := HK1.out.alloc (.cells #[.slice x.p x.n x.c, .int .i64 (q.2 + 1)] 43)
 have c0 : (w1.alloc (.cells #[.slice x.p x.n x.c, .int .i64 (q.2 + 1)] 43)).cell? ⟨w.heap.size, 0, none⟩ = some (.int .i64 me) := hk2.cell 0
 have c1 : (w1.alloc (.cells #[.slice x.p x.n x.c, .int .i64 (q.2 + 1)] 43)).cell? ⟨w.heap.size, 1, none⟩ = some (.slice p n c) := hk2.cell 1
 clear hk2
 have HBW := Lib.hid (HB.out.alloc HB.out.size (.cells #[.slice x.p x.n x.c, .int .i64 (q.2 + 1)] 43))
 have HWT := Lib.hid (with_any (fun b => P b ∧ b ≠ w.heap.size + 1) me j p n c qs ⟨x.p, x.n, x.c, q.2 + 1⟩ (q.1, q.2 + 1) (w1.alloc (.cells #[.slice x.p x.n x.c, .int .i64 (q.2 + 1)] 43)) HN.out (HPR.out _ HBW.out) ⟨rfl, HX.out.2.1, HX.out.2.2.kept (oneB w1 _)⟩ HJ.out HB9.out (fun b hb => ⟨HPP.out b (by have := HBW.out.size; omega), by have := HGN.out; simp at hb; omega⟩))
 have HR2 := Lib.hid (HR1.out.alloc (.cells #[.slice x.p x.n x.c, .int .i64 (q.2 + 1)] 43))
 dsimp only at HWT
 go_wp2_with fail
 clear c0 c1
 generalize w1.alloc (.cells #[.slice x.p x.n x.c, .int .i64 (q.2 + 1)] 43) = w2 at *
 refine HWT.out.mono ?_
 rintro y w3 ⟨_, rfl, ⟨p3, c3, rfl, hp3⟩, hb3⟩
 have hlen : (qs.set j (q.1, q.2 + 1)).length = n := by rw [List.length_set, ← HN.out]
 rw [hlen] at hp3 ⊢
 have HLEN := Lib.hid hlen
 have HP3 := Lib.hid hp3
 have HR3 := kbq HR2 hb3
 have HB3 := ktq HBW hb3
 clear hp3 hb3 hlen
 go_wp2_with (with_reducible refine stop_storeT 27 (.tmp 4) (.tmp 24) rfl ?_)
 have HTH : Hid (w3.there (w.heap.size + 1) 0 2) := HR3.out.thereAt
 have HF : Hid (Blk (w3.setCells (w.heap.size + 1) 0 [.int .i64 me, .slice p3 n c3]) (w.heap.size + 1) #[.int .i64 me, .slice p3 n c3] 27 ∧ Chg (w.heap.size + 1) w3 (w3.setCells (w.heap.size + 1) 0 [.int .i64 me, .slice p3 n c3])) := ⟨blk_put_all HR3.out _ rfl, chg_putL _ _ _ _ _ (Chg.refl _ _)⟩
 refine wpList_store_mid rfl 27 (.tmp 4) (.tmp 24) rfl (w.heap.size + 1) 0 #[.int .i64 me, .slice p3 n c3] rfl rfl HTH.out infoL (all_oneCell_toArray (oneL _ _ _ _)) ?_
 generalize World.setCells w3 _ _ _ = w5 at *
 go_wp2_with fail
 have hf := HF.out.1
 refine bodyPost_ret (v := .tuple #[.agg #[.int .i64 me, .slice p3 n c3], .int .i64 0]) (by simp [results, Try.results9, go_sem, hf.cell 0, hf.cell 1]) rfl ?_
 refine ⟨_, rfl, ⟨p3, c3, by rw [HLEN.out], by rw [HLEN.out]; exact (HP3.out.keepP (KeepP.of_chg HF.out.2 (fun h => h.2 rfl))).mono (fun b _ h => h.1)⟩, HB3.out.trans (HF.out.2.below (by omega) HB3.out.size)⟩
end Go.Proofs.Ytboplnhgafbgbaa
namespace Go.Proofs.Ytboplnhgafbgbaa
open Go.RowKit
set_option maxHeartbeats 1000000 in
set_option maxRecDepth 100000 in
theorem growM_nil (n : Nat) (w : World) (hn : n ≤ 1000000) :
  Calls Try.prog 15 #[.slice none 0 0, .int .i64 n] w fun e w' => ∃ v, e = .returned v ∧ OwnT encM w' w.heap.size 38 v [] ∧ Below w.heap.size w w' := by
 obtain ⟨i0, _, hi, hz, hs, hby⟩ := eltM
 by_cases h0 : n = 0
 ·subst h0
  go_enter Try.func15, Try.ntmps15
  go_wp2
  go_ret
  exact ⟨_, rfl, OwnT.nil_ encM _ _ _, Below.refl _ _⟩
 ·have hpos : (0 : Int) < (n : Int) := by omega
  have happ := Lib.run_append_nil_zeros (P := Try.prog) w 22 3 22 38 i0 zeroVM .i64 .i64 Try.underlying22 Try.underlying3 hi hz n (by omega) (by rw [hs]; decide) (by omega) (by rw [hby]; omega)
  generalize hcap : grownCap w n 0 38 = cap2 at happ
  have hcapge : n ≤ cap2 := by rw [← hcap]; exact grownCap_ge w _ 0 38
  have hcaple : cap2 ≤ maxLen := by rw [← hcap]; exact grownCap_le_maxLen w _ 0 38 (by unfold maxLen; omega)
  generalize hZ : (Builtin.zeroCells zeroVM.cells n ++ Builtin.zeroCells zeroVM.cells (cap2 - n)) = Z at happ
  have hZs : Z.size = cap2 * 11 := by rw [← hZ]; simp [Builtin.zeroCells, Value.cells, zeroVM]; omega
  clear hcap hZ h0
  have HG := Lib.hid hcapge
  have HL := Lib.hid hcaple
  have HS := Lib.hid hZs
  clear hcapge hcaple hZs
  go_enter Try.func15, Try.ntmps15
  go_wp2_with (at_builtin; refine Lib.wpList_append_run _ rfl _ _ _ _ rfl _ _ rfl rfl _ _ happ ?_)
  go_ret
  exact ⟨_, rfl, ⟨by simp, .inr ⟨w.heap.size, cap2, Z, rfl, Nat.le_refl _, heap_alloc_new w.drew _, Nat.zero_le _, HL.out, HS.out, by simp⟩⟩, (Below.refl _ _).drew.alloc (Nat.le_refl _) _⟩
set_option maxHeartbeats 2000000 in
set_option maxRecDepth 100000 in
theorem concatM_any (b o m c : Nat) (vs : List Value) (pss : List (List MsgX)) (w : World) (hR : RowsT encM w b o vs pss) (hm : m = pss.length) (hmc : m ≤ 1000) (hbig : pss.flatten.length ≤ 100000) :
  Calls Try.prog 12 #[.slice (some ⟨b, o, none⟩) m c] w fun e w' => ∃ v, e = .returned v ∧ OwnT encM w' w.heap.size 38 v pss.flatten ∧ Below w.heap.size w w' := by
 have HR := Lib.hid hR.2
 have HM := Lib.hid hm
 have HSB : Hid (∀ k, (catT pss k).length ≤ 100000) := fun k => Nat.le_trans (catT_le pss k) hbig
 clear hR hm
 go_enter Try.func12, Try.ntmps12
 go_wp2
 go_loop [3, 11] (fun s i => ∃ (k : Nat), k ≤ m ∧ i = .int .i64 k ∧ s = .int .i64 ((catT pss k).length : Nat)) (fun _ i => m - (intOf i).toNat)
 case atStart => exact ⟨0, by omega, rfl, rfl⟩
 case round =>
  obtain ⟨k, hk, rfl, rfl⟩ := hrel
  by_cases hlt : k < m
  ·obtain ⟨hc, hrow⟩ := HR.out k (by rw [← HM.out]; exact hlt)
   obtain ⟨p1, c1, hv⟩ := hrow.shape
   rw [hv] at hc
   have hs := Lib.hid (catT_len pss k (by rw [← HM.out]; exact hlt))
   have hsb := HSB.out (k + 1)
   rw [hs.out] at hsb
   clear hv hrow
   generalize (pss.getD k []).length = L at *
   go_wp2
   go_round
   case rel => exact ⟨k + 1, by omega, by go_num, by rw [hs.out]; go_num⟩
   case measure => simp [intOf]; omega
  ·have hkm : (m : Int) ≤ (k : Int) := by omega
   have hsb := HSB.out k
   go_wp2_with fail
   refine (growM_nil _ _ (by omega)).mono ?_
   rintro e w1 ⟨v1, rfl, ho1, hb1⟩
   have hstart : CatRelT encM 38 w pss 0 v1 w1 := ⟨by simpa [catT] using ho1, hb1⟩
   have HST := Lib.hid hstart
   clear hstart ho1 hb1
   go_wp2_with fail
   go_loopw [6, 27] (fun v i wr => ∃ (j : Nat), j ≤ m ∧ i = .int .i64 j ∧ Hid (CatRelT encM 38 w pss j v wr)) (fun _ i _ => m - (intOf i).toNat)
   case atStart => exact ⟨0, by omega, rfl, HST⟩
   case round =>
    obtain ⟨j, hj, rfl, HJ⟩ := hrel
    by_cases hlt : j < m
    ·have hlz : j < pss.length := by rw [← HM.out]; exact hlt
     obtain ⟨hc, hrow⟩ := HR.out j hlz
     obtain ⟨p1, c1, hv⟩ := hrow.shape
     have hbl := World.block_lt_of_cell? w _ hc
     have HRW := Lib.hid hrow
     rw [hv] at hc HRW
     have hcw := (HJ.out.2.cell (p := ⟨b, o + j, none⟩) hbl).trans hc
     have HLEN : Hid ((catT pss j).length + (pss.getD j []).length ≤ 100000) := by have h := HSB.out (j + 1); rw [catT_len pss j hlz] at h; exact h
     have HLZ := Lib.hid hlz
     clear hv hrow hc hbl hlz
     obtain ⟨p0, c0, hv0⟩ := HJ.out.1.form
     have HJ2 := HJ.out
     rw [hv0] at HJ2
     have HJ3 := Lib.hid HJ2
     subst hv0
     clear HJ2
     go_wp2_with (at_builtin; go_loud (refine wpList_append_t rfl _ _ 22 rfl 38 zeroVM 120 w.heap.size eltM rfl (by decide) _ _ (catT pss j) (pss.getD j []) rfl rfl HJ3.out.1 (HRW.out.kept (HJ3.out.2)) (by have h : _ ≤ _ := HLEN.out; omega) HJ3.out.2.size (catT pss (j + 1)) ((catT pss (j + 1)).length) (catT_succ pss j HLZ.out) rfl ?_; intro p2 c2 w2 ho2 _ hb2; have HN := Lib.hid (show CatRelT encM 38 w pss (j + 1) _ w2 from ⟨ho2, HJ3.out.2.trans hb2⟩); clear ho2 hb2))
     go_roundw
     case rel => exact ⟨j + 1, by omega, by go_num, HN⟩
     case measure => simp [intOf]; omega
    ·have hjm : (m : Int) ≤ (j : Int) := by omega
     have hjz : j = pss.length := by rw [← HM.out]; omega
     have hE := HJ.out
     rw [hjz] at hE
     have HE := Lib.hid hE
     clear hjz hE
     go_wp2
     go_ret
     exact ⟨_, rfl, by have := HE.out.1; unfold catT at this; rwa [List.take_length] at this, HE.out.2⟩
end Go.Proofs.Ytboplnhgafbgbaa
namespace Go.Proofs.Ytboplnhgafbgbaa
open Go.RowKit
set_option linter.unusedSimpArgs false
set_option maxHeartbeats 8000000 in
set_option maxRecDepth 100000 in
theorem say_no (P : Nat → Prop) (me i : Int) (p : Option Addr) (n c : Nat) (qs : List Pe) (m : Msg) (vl vn : Value) (w : World) (hn : n = qs.length) (hr : PeRow P w (.slice p n c) qs) (hl : TRow encN w vl m.ls) (hm : Row .i64 w vn m.ns) (hz : m.Sz) (hok : okP me qs.length i = false) :
  Calls Try.prog 6 #[.agg #[.int .i64 me, .slice p n c], .int .i64 i, m.v vl vn] w fun e w' => e = .returned (.tuple #[.agg #[.int .i64 0, .slice none 0 0], .int .i64 1]) ∧ Below w.heap.size w w' := by
 obtain ⟨pl, cl, rfl⟩ := hl.shape
 obtain ⟨pn, cn, rfl⟩ := hm.shape
 have HL := Lib.hid hl
 have HM := Lib.hid hm
 have HZ := Lib.hid hz
 clear hl hm hz
 generalize hnl : m.ls.length = nl at *
 have HNL := Lib.hid hnl
 generalize hnn : m.ns.length = nn at *
 have HNN := Lib.hid hnn
 clear hnl hnn
 unfold Msg.v
 have HK0 := Lib.hid (((Blk.new w #[.int .i64 me, .slice p n c] 27).alloc (.cells #[.int .i64 m.k, .int .i64 m.s, .int .i64 m.n, .int .i64 m.b, .int .i64 m.c, .int .i64 m.r, .int .i64 m.y, .int .i64 m.a, .bool m.t, .slice pl nl cl, .slice pn nn cn] 38)).alloc (.cells #[.int .i64 0, .slice none 0 0] 27))
 have HM0 := Lib.hid ((Blk.new' (w.alloc (.cells #[.int .i64 me, .slice p n c] 27)) #[.int .i64 m.k, .int .i64 m.s, .int .i64 m.n, .int .i64 m.b, .int .i64 m.c, .int .i64 m.r, .int .i64 m.y, .int .i64 m.a, .bool m.t, .slice pl nl cl, .slice pn nn cn] 38 (b := w.heap.size + 1) (by simp)).alloc (.cells #[.int .i64 0, .slice none 0 0] 27))
 have HR0 := Lib.hid (Blk.new' ((w.alloc (.cells #[.int .i64 me, .slice p n c] 27)).alloc (.cells #[.int .i64 m.k, .int .i64 m.s, .int .i64 m.n, .int .i64 m.b, .int .i64 m.c, .int .i64 m.r, .int .i64 m.y, .int .i64 m.a, .bool m.t, .slice pl nl cl, .slice pn nn cn] 38)) #[.int .i64 0, .slice none 0 0] 27 (b := w.heap.size + 1 + 1) (by simp))
 have HB0 := Lib.hid (((oneB w (.cells #[.int .i64 me, .slice p n c] 27)).alloc (by simp) (.cells #[.int .i64 m.k, .int .i64 m.s, .int .i64 m.n, .int .i64 m.b, .int .i64 m.c, .int .i64 m.r, .int .i64 m.y, .int .i64 m.a, .bool m.t, .slice pl nl cl, .slice pn nn cn] 38)).alloc (by simp; omega) (.cells #[.int .i64 0, .slice none 0 0] 27))
 have HOT := Lib.hid (other_any P me i p n c qs _ hn (hr.kept HB0.out))
 rw [hok] at HOT
 clear hn hr hok
 go_enter Try.func6, Try.ntmps6
 go_wp2_with fail
 generalize ((w.alloc (.cells #[.int .i64 me, .slice p n c] 27)).alloc (.cells #[.int .i64 m.k, .int .i64 m.s, .int .i64 m.n, .int .i64 m.b, .int .i64 m.c, .int .i64 m.r, .int .i64 m.y, .int .i64 m.a, .bool m.t, .slice pl nl cl, .slice pn nn cn] 38)).alloc (.cells #[.int .i64 0, .slice none 0 0] 27) = W0 at *
 refine HOT.out.mono ?_
 rintro y w1 ⟨x, rfl, _, hb⟩
 have HB := ktq HB0 hb
 have hr1 := (HR0.out.below hb HR0.out.lt).alloc (.cells #[.slice x.p x.n x.c, .int .i64 x.h] 43)
 have HR1 := Lib.hid hr1
 have r0 : (w1.alloc (.cells #[.slice x.p x.n x.c, .int .i64 x.h] 43)).cell? ⟨w.heap.size + 1 + 1, 0, none⟩ = some (.int .i64 0) := hr1.cell 0
 have r1 : (w1.alloc (.cells #[.slice x.p x.n x.c, .int .i64 x.h] 43)).cell? ⟨w.heap.size + 1 + 1, 1, none⟩ = some (.slice none 0 0) := hr1.cell 1
 have rf0 := hr1.free 0
 have rf1 := hr1.free 1
 clear hb hr1 HOT
 go_wp2_with fail
 have hf := (HR1.out.set 0 (.int .i64 0)).set 1 (.slice none 0 0)
 have hc := ((Chg.refl (w.heap.size + 1 + 1) (w1.alloc (.cells #[.slice x.p x.n x.c, .int .i64 x.h] 43))).set 0 (.int .i64 0)).set 1 (.slice none 0 0)
 have hB1 := HB.out.alloc HB.out.size (.cells #[.slice x.p x.n x.c, .int .i64 x.h] 43)
 refine bodyPost_ret (v := .tuple #[.agg #[.int .i64 0, .slice none 0 0], .int .i64 1]) (by simp [results, Try.results6, go_sem, hf.cell 0, hf.cell 1]) rfl ⟨rfl, hB1.trans (hc.below (by omega) hB1.size)⟩
set_option maxHeartbeats 8000000 in
set_option maxRecDepth 100000 in
theorem say_ok (P : Nat → Prop) (me : Int) (j : Nat) (p : Option Addr) (n c : Nat) (qs : List Pe) (m : Msg) (vl vn : Value) (w : World) (hn : n = qs.length) (hr : PeRow P w (.slice p n c) qs) (hl : TRow encN w vl m.ls) (hm : Row .i64 w vn m.ns) (hz : m.Sz) (hok : okP me qs.length j = true) (hj : j < qs.length) (hb : qs.length ≤ 1000) (hs : qs[j].1.length ≤ 1000) (hP : ∀ b, w.heap.size ≤ b → P b) :
  Calls Try.prog 6 #[.agg #[.int .i64 me, .slice p n c], .int .i64 (j : Nat), m.v vl vn] w fun e w' => ∃ v, e = .returned (.tuple #[v, .int .i64 0]) ∧ Lnk P w' v me (qs.set j (qs[j].1 ++ [m], qs[j].2)) ∧ Below w.heap.size w w' := by
 obtain ⟨pl, cl, rfl⟩ := hl.shape
 obtain ⟨pn, cn, rfl⟩ := hm.shape
 have HL := Lib.hid hl
 have HM := Lib.hid hm
 have HZ := Lib.hid hz
 clear hl hm hz
 generalize hnl : m.ls.length = nl at *
 have HNL := Lib.hid hnl
 generalize hnn : m.ns.length = nn at *
 have HNN := Lib.hid hnn
 clear hnl hnn
 unfold Msg.v
 have HK0 := Lib.hid (((Blk.new w #[.int .i64 me, .slice p n c] 27).alloc (.cells #[.int .i64 m.k, .int .i64 m.s, .int .i64 m.n, .int .i64 m.b, .int .i64 m.c, .int .i64 m.r, .int .i64 m.y, .int .i64 m.a, .bool m.t, .slice pl nl cl, .slice pn nn cn] 38)).alloc (.cells #[.int .i64 0, .slice none 0 0] 27))
 have HM0 := Lib.hid ((Blk.new' (w.alloc (.cells #[.int .i64 me, .slice p n c] 27)) #[.int .i64 m.k, .int .i64 m.s, .int .i64 m.n, .int .i64 m.b, .int .i64 m.c, .int .i64 m.r, .int .i64 m.y, .int .i64 m.a, .bool m.t, .slice pl nl cl, .slice pn nn cn] 38 (b := w.heap.size + 1) (by simp)).alloc (.cells #[.int .i64 0, .slice none 0 0] 27))
 have HR0 := Lib.hid (Blk.new' ((w.alloc (.cells #[.int .i64 me, .slice p n c] 27)).alloc (.cells #[.int .i64 m.k, .int .i64 m.s, .int .i64 m.n, .int .i64 m.b, .int .i64 m.c, .int .i64 m.r, .int .i64 m.y, .int .i64 m.a, .bool m.t, .slice pl nl cl, .slice pn nn cn] 38)) #[.int .i64 0, .slice none 0 0] 27 (b := w.heap.size + 1 + 1) (by simp))
 have HB0 := Lib.hid (((oneB w (.cells #[.int .i64 me, .slice p n c] 27)).alloc (by simp) (.cells #[.int .i64 m.k, .int .i64 m.s, .int .i64 m.n, .int .i64 m.b, .int .i64 m.c, .int .i64 m.r, .int .i64 m.y, .int .i64 m.a, .bool m.t, .slice pl nl cl, .slice pn nn cn] 38)).alloc (by simp; omega) (.cells #[.int .i64 0, .slice none 0 0] 27))
 have hP2 : peAt me qs j = qs[j] := by unfold peAt; rw [if_pos hok]; simp [hj]
 have HOT := Lib.hid (fun w' (h : Below w.heap.size w w') => other_any (fun b => P b ∧ b ≠ w.heap.size + 1 + 1) me j p n c qs w' hn ((hr.mono (fun b hb hp => ⟨hp, by omega⟩)).kept h))
 rw [hok, hP2] at HOT
 generalize hq : qs[j] = q at *
 have HPR := Lib.hid (fun (Q : Nat → Prop) (h : ∀ b, b < w.heap.size → P b → Q b) => hr.mono h)
 have HN := Lib.hid hn
 have HJ := Lib.hid hj
 have HB9 := Lib.hid hb
 have HS := Lib.hid hs
 have HPP := Lib.hid hP
 clear hn hr hok hj hb hP2 hq hs hP
 go_enter Try.func6, Try.ntmps6
 go_wp2_with fail
 generalize ((w.alloc (.cells #[.int .i64 me, .slice p n c] 27)).alloc (.cells #[.int .i64 m.k, .int .i64 m.s, .int .i64 m.n, .int .i64 m.b, .int .i64 m.c, .int .i64 m.r, .int .i64 m.y, .int .i64 m.a, .bool m.t, .slice pl nl cl, .slice pn nn cn] 38)).alloc (.cells #[.int .i64 0, .slice none 0 0] 27) = W0 at *
 have HLT0 := Lib.hid HR0.out.lt
 refine (HOT.out W0 HB0.out).mono ?_
 rintro y w1 ⟨x, rfl, hx, hb⟩
 have HX := Lib.hid hx
 have HXN := Lib.hid hx.2.1
 have HB1 := ktq HB0 hb
 have HK1 := Lib.hid ((HK0.out.below hb HK0.out.lt).alloc (.cells #[.slice x.p x.n x.c, .int .i64 x.h] 43))
 have HM1 := Lib.hid ((HM0.out.below hb HM0.out.lt).alloc (.cells #[.slice x.p x.n x.c, .int .i64 x.h] 43))
 have HR1 := Lib.hid ((HR0.out.below hb HR0.out.lt).alloc (.cells #[.slice x.p x.n x.c, .int .i64 x.h] 43))
 have HP1 := Lib.hid (Blk.new w1 #[.slice x.p x.n x.c, .int .i64 x.h] 43)
 have HB2 := Lib.hid (HB1.out.alloc HB1.out.size (.cells #[.slice x.p x.n x.c, .int .i64 x.h] 43))
 have HX2 := Lib.hid ((hx.mono (Q := fun b => P b ∧ (b ≠ w.heap.size + 1 + 1 ∧ b ≠ w1.heap.size)) (fun b hb hp => ⟨hp.1, hp.2, by omega⟩)).kept (oneB w1 (.cells #[.slice x.p x.n x.c, .int .i64 x.h] 43)))
 have HLT1 : Hid (w.heap.size + 1 + 1 < w1.heap.size) := Nat.lt_of_lt_of_le HLT0.out hb.size
 have hnx : ¬ (4096 : Int) ≤ (x.n : Int) := by have h1 := HXN.out; have h2 := HS.out; omega
 clear hb hx HOT HK0 HM0 HR0 HB0
 have HG1 : Hid (w1.heap.size < (w1.alloc (.cells #[.slice x.p x.n x.c, .int .i64 x.h] 43)).heap.size) := by show _ < _; simp
 go_wp2_with fail
 generalize w1.alloc (.cells #[.slice x.p x.n x.c, .int .i64 x.h] 43) = W1 at *
 generalize hgp : w1.heap.size = gp at *
 have HS1 : Hid (∀ w', Below W1.heap.size W1 w' → w'.cell? ⟨w.heap.size + 1, 0, none⟩ = some (.int .i64 m.k) ∧ w'.cell? ⟨w.heap.size + 1, 1, none⟩ = some (.int .i64 m.s) ∧ w'.cell? ⟨w.heap.size + 1, 2, none⟩ = some (.int .i64 m.n) ∧ w'.cell? ⟨w.heap.size + 1, 3, none⟩ = some (.int .i64 m.b) ∧ w'.cell? ⟨w.heap.size + 1, 4, none⟩ = some (.int .i64 m.c) ∧ w'.cell? ⟨w.heap.size + 1, 5, none⟩ = some (.int .i64 m.r) ∧ w'.cell? ⟨w.heap.size + 1, 6, none⟩ = some (.int .i64 m.y) ∧ w'.cell? ⟨w.heap.size + 1, 7, none⟩ = some (.int .i64 m.a) ∧ w'.cell? ⟨w.heap.size + 1, 8, none⟩ = some (.bool m.t) ∧ w'.cell? ⟨w.heap.size + 1, 9, none⟩ = some (.slice pl nl cl) ∧ w'.cell? ⟨w.heap.size + 1, 10, none⟩ = some (.slice pn nn cn)) :=
  fun w' hb => ⟨(HM1.out.below hb HM1.out.lt).cell 0, (HM1.out.below hb HM1.out.lt).cell 1, (HM1.out.below hb HM1.out.lt).cell 2, (HM1.out.below hb HM1.out.lt).cell 3, (HM1.out.below hb HM1.out.lt).cell 4, (HM1.out.below hb HM1.out.lt).cell 5, (HM1.out.below hb HM1.out.lt).cell 6, (HM1.out.below hb HM1.out.lt).cell 7, (HM1.out.below hb HM1.out.lt).cell 8, (HM1.out.below hb HM1.out.lt).cell 9, (HM1.out.below hb HM1.out.lt).cell 10⟩
 have hS1 := HS1.out W1.drew (Below.refl _ W1).drew
 have q0 : W1.drew.cell? ⟨gp, 0, none⟩ = some (.slice x.p x.n x.c) := HP1.out.drew.cell 0
 refine wp_region_held_drew (S := fun w' => w'.cell? ⟨w.heap.size + 1, 0, none⟩ = some (.int .i64 m.k) ∧ w'.cell? ⟨w.heap.size + 1, 1, none⟩ = some (.int .i64 m.s) ∧ w'.cell? ⟨w.heap.size + 1, 2, none⟩ = some (.int .i64 m.n) ∧ w'.cell? ⟨w.heap.size + 1, 3, none⟩ = some (.int .i64 m.b) ∧ w'.cell? ⟨w.heap.size + 1, 4, none⟩ = some (.int .i64 m.c) ∧ w'.cell? ⟨w.heap.size + 1, 5, none⟩ = some (.int .i64 m.r) ∧ w'.cell? ⟨w.heap.size + 1, 6, none⟩ = some (.int .i64 m.y) ∧ w'.cell? ⟨w.heap.size + 1, 7, none⟩ = some (.int .i64 m.a) ∧ w'.cell? ⟨w.heap.size + 1, 8, none⟩ = some (.bool m.t) ∧ w'.cell? ⟨w.heap.size + 1, 9, none⟩ = some (.slice pl nl cl) ∧ w'.cell? ⟨w.heap.size + 1, 10, none⟩ = some (.slice pn nn cn)) (by kernel_rfl) hS1 (fun hS0 => ?_)
 refine tkq 0 ?_
 refine tkq 2 ?_
 refine wpAnyH_ready (rs := [1, 3]) (by kernel_rfl) (by simp) ?_
 refine AllReadyH.cons rfl (fun K hK => ?_) (AllReadyH.cons rfl (fun K hK => ?_) AllReadyH.nil)
 ·skip
  go_simp
  refine hK.out _ _ (by first | assumption | exact (HS1.out _ (Below.refl _ W1).drew) | exact (HS1.out _ HBC.out) | exact (HS1.out _ HBD.out)) (fun hS => ?_)
  clear hK K
  try simp only [Act.put, List.getElem_toArray, List.getElem_cons_succ, List.getElem_cons_zero, List.setIfInBounds_toArray, List.set_cons_zero, List.set_cons_succ]
  refine rdq 3 (fun K hK => ?_)
  go_simp
  go_at_call 13
  refine (own_any m _ _ _ (HL.out.kept HB2.out.drew) (HM.out.kept HB2.out.drew) HZ.out).mono ?_
  rintro y w2 ⟨ul, un, rfl, ol, on, hb⟩
  obtain ⟨ql, dl, rfl⟩ := ol.form
  obtain ⟨qn, dn, rfl⟩ := on.form
  have HOL := Lib.hid ol
  have HON := Lib.hid on
  have HBC := Lib.hid ((Below.refl W1.heap.size W1).drew.trans hb)
  have q1 : w2.cell? ⟨gp, 0, none⟩ = some (.slice x.p x.n x.c) := (HP1.out.below HBC.out HP1.out.lt).cell 0
  clear ol on hb
  rw [HNL.out, HNN.out]
  unfold Msg.v
  try go_wp2_with fail
  refine hK.out _ _ (HS1.out _ HBC.out) (fun hS => ?_)
  clear hK K
  try simp only [Act.put, List.getElem_toArray, List.getElem_cons_succ, List.getElem_cons_zero, List.setIfInBounds_toArray, List.set_cons_zero, List.set_cons_succ]
  refine rdq 4 (fun K hK => ?_)
  go_simp
  have HBD : Hid (Below W1.heap.size W1 (w2.alloc (.cells #[.int .i64 m.k, .int .i64 m.s, .int .i64 m.n, .int .i64 m.b, .int .i64 m.c, .int .i64 m.r, .int .i64 m.y, .int .i64 m.a, .bool m.t, .slice ql nl dl, .slice qn nn dn] 38))) := HBC.out.alloc HBC.out.size _
  have q2 : (w2.alloc (.cells #[.int .i64 m.k, .int .i64 m.s, .int .i64 m.n, .int .i64 m.b, .int .i64 m.c, .int .i64 m.r, .int .i64 m.y, .int .i64 m.a, .bool m.t, .slice ql nl dl, .slice qn nn dn] 38)).cell? ⟨gp, 0, none⟩ = some (.slice x.p x.n x.c) := (HP1.out.below HBD.out HP1.out.lt).cell 0
  refine hK.out _ _ (HS1.out _ HBD.out) (fun hS => ?_)
  clear hK K
  try simp only [Act.put, List.getElem_toArray, List.getElem_cons_succ, List.getElem_cons_zero, List.setIfInBounds_toArray, List.set_cons_zero, List.set_cons_succ]
  refine rdq 5 (fun K hK => ?_)
  go_simp
  refine hK.out _ _ (HS1.out _ (HBD.out.alloc HBD.out.size _)) (fun hS => ?_)
  clear hK K
  try simp only [Act.put, List.getElem_toArray, List.getElem_cons_succ, List.getElem_cons_zero, List.setIfInBounds_toArray, List.set_cons_zero, List.set_cons_succ]
  refine rdq 6 (fun K hK => ?_)
  go_simp
  go_at_call 12
  obtain ⟨xs, hx1, hx2, hx3, hx4⟩ := HX2.out.2.2
  have hxl : xs.length = x.n := by have h := HXN.out; rw [h, ← hx4]; simp
  have HBE : Hid (Below W1.heap.size W1 ((w2.alloc (.cells #[.int .i64 m.k, .int .i64 m.s, .int .i64 m.n, .int .i64 m.b, .int .i64 m.c, .int .i64 m.r, .int .i64 m.y, .int .i64 m.a, .bool m.t, .slice ql nl dl, .slice qn nn dn] 38)).alloc (.cells #[.slice x.p x.n x.c, .slice (some ⟨w2.heap.size, 0, none⟩) 1 1] 22))) := HBD.out.alloc HBD.out.size _
  have hone := TRow.one_ encM (MsgX.mk m ql dl qn dn) ((Blk.new w2 #[.int .i64 m.k, .int .i64 m.s, .int .i64 m.n, .int .i64 m.b, .int .i64 m.c, .int .i64 m.r, .int .i64 m.y, .int .i64 m.a, .bool m.t, .slice ql nl dl, .slice qn nn dn] 38).alloc (.cells #[.slice x.p x.n x.c, .slice (some ⟨w2.heap.size, 0, none⟩) 1 1] 22)) (by simp [encM, MsgX.cells, Msg.cells, MsgX.vl, MsgX.vn, HNL.out, HNN.out]) (Nat.le_refl 1)
  have hB5 := Blk.new' (w2.alloc (.cells #[.int .i64 m.k, .int .i64 m.s, .int .i64 m.n, .int .i64 m.b, .int .i64 m.c, .int .i64 m.r, .int .i64 m.y, .int .i64 m.a, .bool m.t, .slice ql nl dl, .slice qn nn dn] 38)) #[.slice x.p x.n x.c, .slice (some ⟨w2.heap.size, 0, none⟩) 1 1] 22 (b := w2.heap.size + 1) (by simp)
  have hRT := RowsT.two hB5 rfl (hx1.kept HBE.out) hone
  refine (concatM_any (w2.heap.size + 1) 0 2 2 _ _ _ hRT rfl (by decide) (by have h1 := HXN.out; have h2 := HS.out; simp; omega)).mono ?_
  rintro y w6 ⟨v6, rfl, ho6, hb6⟩
  rw [show ([xs, [(MsgX.mk m ql dl qn dn)]] : List (List MsgX)).flatten = xs ++ [(MsgX.mk m ql dl qn dn)] by simp] at ho6
  obtain ⟨p6, c6, rfl⟩ := ho6.form
  have HB6 := ktq HBE hb6
  have HW26 : Hid (Below w2.heap.size w2 w6) := (((oneB w2 _).trans ((oneB _ _).mono (by simp))).trans (hb6.mono (by simp; omega)))
  have hnew : MRow (fun b => P b ∧ (b ≠ w.heap.size + 1 + 1 ∧ b ≠ gp)) w6 (.slice p6 (xs ++ [(MsgX.mk m ql dl qn dn)]).length c6) (q.1 ++ [m]) := ⟨_, ho6.row, ho6.at_P (fun b hb => ⟨HPP.out b (by have h1 := HB2.out.size; have h2 := HBC.out.size; simp at hb; omega), by have h1 := HLT1.out; have h2 := HG1.out; have h3 := HBC.out.size; simp at hb; omega, by have h2 := HG1.out; have h3 := HBC.out.size; simp at hb; omega⟩), (fun y hy => by
   rcases List.mem_append.1 hy with hy | hy
   ·exact (hx3 y hy).kept HB6.out
   ·simp at hy
    subst hy
    refine ⟨?_, ?_, ?_, ?_, HZ.out⟩
    ·exact HOL.out.row.kept HW26.out
    ·exact HON.out.row.kept HW26.out
    ·exact HOL.out.at_P (fun b hb => ⟨HPP.out b (by have h1 := HB2.out.size; simp at hb; omega), by have h1 := HLT1.out; have h2 := HG1.out; simp at hb; omega, by have h2 := HG1.out; simp at hb; omega⟩)
    ·exact HON.out.at_P (fun b hb => ⟨HPP.out b (by have h1 := HB2.out.size; simp at hb; omega), by have h1 := HLT1.out; have h2 := HG1.out; simp at hb; omega, by have h2 := HG1.out; simp at hb; omega⟩)), by rw [List.map_append, hx4]; rfl⟩
  have hnl6 : (xs ++ [(MsgX.mk m ql dl qn dn)]).length = x.n + 1 := by rw [List.length_append, hxl]; rfl
  rw [hnl6] at hnew ⊢
  have HNEW := Lib.hid hnew
  have HM6 := Lib.hid (HM1.out.below HB6.out HM1.out.lt)
  have HP6 := Lib.hid (HP1.out.below HB6.out HP1.out.lt)
  have HK6 := Lib.hid (HK1.out.below HB6.out HK1.out.lt)
  have HR6 := Lib.hid (HR1.out.below HB6.out HR1.out.lt)
  have hp0 := HP6.out.cell 0
  have hp0f := HP6.out.free 0
  clear hx1 hx2 hx3 hx4 hxl hone hB5 hRT ho6 hb6 hnew hnl6
  try go_wp2_with fail
  refine hK.out _ _ (HS1.out _ HB6.out) (fun hS => ?_)
  clear hK K
  try simp only [Act.put, List.getElem_toArray, List.getElem_cons_succ, List.getElem_cons_zero, List.setIfInBounds_toArray, List.set_cons_zero, List.set_cons_succ]
  refine tkq 7 ?_
  refine rdq 8 (fun K hK => ?_)
  go_simp
  have HC7 : Hid (Chg gp w6 (w6.setCell ⟨gp, 0, none⟩ (.slice p6 (x.n + 1) c6))) := (Chg.refl _ w6).set 0 _
  have HM7 := Lib.hid (HM6.out.chg HC7.out (by have h1 := HLT1.out; omega))
  refine hK.out _ _ ⟨HM7.out.cell 0, HM7.out.cell 1, HM7.out.cell 2, HM7.out.cell 3, HM7.out.cell 4, HM7.out.cell 5, HM7.out.cell 6, HM7.out.cell 7, HM7.out.cell 8, HM7.out.cell 9, HM7.out.cell 10⟩ (fun hS => ?_)
  clear hK K
  try simp only [Act.put, List.getElem_toArray, List.getElem_cons_succ, List.getElem_cons_zero, List.setIfInBounds_toArray, List.set_cons_zero, List.set_cons_succ]
  refine wpAnyH_done (by kernel_rfl) ?_ _
  have HP7 : Hid (Blk (w6.setCell ⟨gp, 0, none⟩ (.slice p6 (x.n + 1) c6)) gp #[.slice p6 (x.n + 1) c6, .int .i64 x.h] 43) := HP6.out.set 0 _
  have HK7 := Lib.hid (HK6.out.chg HC7.out (by have h1 := HLT1.out; omega))
  have HR7 := Lib.hid (HR6.out.chg HC7.out (by have h1 := HLT1.out; omega))
  have HB7 := Lib.hid ((HB2.out.trans (HB6.out.mono HB2.out.size)).trans (HC7.out.below (B := w.heap.size) (by have h1 := HLT1.out; omega) (HB2.out.trans (HB6.out.mono HB2.out.size)).size))
  have HSZ7 : Hid (gp < (w6.setCell ⟨gp, 0, none⟩ (.slice p6 (x.n + 1) c6)).heap.size) := HP7.out.lt
  have HNEW7 := Lib.hid (HNEW.out.keepP (KeepP.of_chg HC7.out (fun h => h.2.2 rfl)))
  generalize (w6.setCell ⟨gp, 0, none⟩ (.slice p6 (x.n + 1) c6)) = W7 at *
  have HWT := Lib.hid (with_any (fun b => P b ∧ (b ≠ w.heap.size + 1 + 1 ∧ b ≠ gp)) me j p n c qs ⟨p6, x.n + 1, c6, x.h⟩ (q.1 ++ [m], q.2) W7 HN.out ((HPR.out _ (fun b hb hp => ⟨hp, by omega, by have h1 := HLT1.out; omega⟩)).kept HB7.out) ⟨HX.out.1, by have h1 := HXN.out; simp [h1], HNEW7.out⟩ HJ.out HB9.out (fun b hb => ⟨HPP.out b (by have h1 := HB7.out.size; omega), by have h1 := HSZ7.out; have h2 := HLT1.out; omega, by have h1 := HSZ7.out; omega⟩))
  dsimp only at HWT
  have hk7 := HK7.out
  have hp7 := HP7.out
  have c0 : W7.cell? ⟨w.heap.size, 0, none⟩ = some (.int .i64 me) := hk7.cell 0
  have c1 : W7.cell? ⟨w.heap.size, 1, none⟩ = some (.slice p n c) := hk7.cell 1
  have c2 : W7.cell? ⟨gp, 0, none⟩ = some (.slice p6 (x.n + 1) c6) := hp7.cell 0
  have c3 : W7.cell? ⟨gp, 1, none⟩ = some (.int .i64 x.h) := hp7.cell 1
  clear hk7 hp7 hp0 hp0f
  go_wp2_with fail
  clear c0 c1 c2 c3
  refine HWT.out.mono ?_
  rintro y w8 ⟨_, rfl, ⟨p8, c8, rfl, hp8⟩, hb8⟩
  have hlen : (qs.set j (q.1 ++ [m], q.2)).length = n := by rw [List.length_set, ← HN.out]
  rw [hlen] at hp8 ⊢
  have HLEN := Lib.hid hlen
  have HP8 := Lib.hid hp8
  have HR8 := kbq HR7 hb8
  have HB8 := ktq HB7 hb8
  clear hp8 hb8 hlen
  go_wp2_with (with_reducible refine stop_storeT 27 (.tmp 6) (.tmp 35) rfl ?_)
  have HTH : Hid (w8.there (w.heap.size + 1 + 1) 0 2) := HR8.out.thereAt
  have HF : Hid (Blk (w8.setCells (w.heap.size + 1 + 1) 0 [.int .i64 me, .slice p8 n c8]) (w.heap.size + 1 + 1) #[.int .i64 me, .slice p8 n c8] 27 ∧ Chg (w.heap.size + 1 + 1) w8 (w8.setCells (w.heap.size + 1 + 1) 0 [.int .i64 me, .slice p8 n c8])) := ⟨blk_put_all HR8.out _ rfl, chg_putL _ _ _ _ _ (Chg.refl _ _)⟩
  refine wpList_store_mid rfl 27 (.tmp 6) (.tmp 35) rfl (w.heap.size + 1 + 1) 0 #[.int .i64 me, .slice p8 n c8] rfl rfl HTH.out infoL (all_oneCell_toArray (oneL _ _ _ _)) ?_
  generalize World.setCells w8 _ _ _ = w9 at *
  go_wp2_with fail
  have hf := HF.out.1
  refine bodyPost_ret (v := .tuple #[.agg #[.int .i64 me, .slice p8 n c8], .int .i64 0]) (by simp [results, Try.results6, go_sem, hf.cell 0, hf.cell 1]) rfl ?_
  refine ⟨_, rfl, ⟨p8, c8, by rw [HLEN.out], by rw [HLEN.out]; exact (HP8.out.keepP (KeepP.of_chg HF.out.2 (fun h => h.2.1 rfl))).mono (fun b _ h => h.1)⟩, HB8.out.trans (HF.out.2.below (by omega) HB8.out.size)⟩
 ·skip
  go_simp
  go_at_call 13
  refine (own_any m _ _ _ (HL.out.kept HB2.out.drew) (HM.out.kept HB2.out.drew) HZ.out).mono ?_
  rintro y w2 ⟨ul, un, rfl, ol, on, hb⟩
  obtain ⟨ql, dl, rfl⟩ := ol.form
  obtain ⟨qn, dn, rfl⟩ := on.form
  have HOL := Lib.hid ol
  have HON := Lib.hid on
  have HBC := Lib.hid ((Below.refl W1.heap.size W1).drew.trans hb)
  have q1 : w2.cell? ⟨gp, 0, none⟩ = some (.slice x.p x.n x.c) := (HP1.out.below HBC.out HP1.out.lt).cell 0
  clear ol on hb
  rw [HNL.out, HNN.out]
  unfold Msg.v
  try go_wp2_with fail
  refine hK.out _ _ (HS1.out _ HBC.out) (fun hS => ?_)
  clear hK K
  try simp only [Act.put, List.getElem_toArray, List.getElem_cons_succ, List.getElem_cons_zero, List.setIfInBounds_toArray, List.set_cons_zero, List.set_cons_succ]
  refine wpAnyH_ready (rs := [1, 4]) (by kernel_rfl) (by simp) ?_
  refine AllReadyH.cons rfl (fun K hK => ?_) (AllReadyH.cons rfl (fun K hK => ?_) AllReadyH.nil)
  ·skip
   go_simp
   refine hK.out _ _ (by first | assumption | exact (HS1.out _ (Below.refl _ W1).drew) | exact (HS1.out _ HBC.out) | exact (HS1.out _ HBD.out)) (fun hS => ?_)
   clear hK K
   try simp only [Act.put, List.getElem_toArray, List.getElem_cons_succ, List.getElem_cons_zero, List.setIfInBounds_toArray, List.set_cons_zero, List.set_cons_succ]
   refine rdq 4 (fun K hK => ?_)
   go_simp
   have HBD : Hid (Below W1.heap.size W1 (w2.alloc (.cells #[.int .i64 m.k, .int .i64 m.s, .int .i64 m.n, .int .i64 m.b, .int .i64 m.c, .int .i64 m.r, .int .i64 m.y, .int .i64 m.a, .bool m.t, .slice ql nl dl, .slice qn nn dn] 38))) := HBC.out.alloc HBC.out.size _
   have q2 : (w2.alloc (.cells #[.int .i64 m.k, .int .i64 m.s, .int .i64 m.n, .int .i64 m.b, .int .i64 m.c, .int .i64 m.r, .int .i64 m.y, .int .i64 m.a, .bool m.t, .slice ql nl dl, .slice qn nn dn] 38)).cell? ⟨gp, 0, none⟩ = some (.slice x.p x.n x.c) := (HP1.out.below HBD.out HP1.out.lt).cell 0
   refine hK.out _ _ (HS1.out _ HBD.out) (fun hS => ?_)
   clear hK K
   try simp only [Act.put, List.getElem_toArray, List.getElem_cons_succ, List.getElem_cons_zero, List.setIfInBounds_toArray, List.set_cons_zero, List.set_cons_succ]
   refine rdq 5 (fun K hK => ?_)
   go_simp
   refine hK.out _ _ (HS1.out _ (HBD.out.alloc HBD.out.size _)) (fun hS => ?_)
   clear hK K
   try simp only [Act.put, List.getElem_toArray, List.getElem_cons_succ, List.getElem_cons_zero, List.setIfInBounds_toArray, List.set_cons_zero, List.set_cons_succ]
   refine rdq 6 (fun K hK => ?_)
   go_simp
   go_at_call 12
   obtain ⟨xs, hx1, hx2, hx3, hx4⟩ := HX2.out.2.2
   have hxl : xs.length = x.n := by have h := HXN.out; rw [h, ← hx4]; simp
   have HBE : Hid (Below W1.heap.size W1 ((w2.alloc (.cells #[.int .i64 m.k, .int .i64 m.s, .int .i64 m.n, .int .i64 m.b, .int .i64 m.c, .int .i64 m.r, .int .i64 m.y, .int .i64 m.a, .bool m.t, .slice ql nl dl, .slice qn nn dn] 38)).alloc (.cells #[.slice x.p x.n x.c, .slice (some ⟨w2.heap.size, 0, none⟩) 1 1] 22))) := HBD.out.alloc HBD.out.size _
   have hone := TRow.one_ encM (MsgX.mk m ql dl qn dn) ((Blk.new w2 #[.int .i64 m.k, .int .i64 m.s, .int .i64 m.n, .int .i64 m.b, .int .i64 m.c, .int .i64 m.r, .int .i64 m.y, .int .i64 m.a, .bool m.t, .slice ql nl dl, .slice qn nn dn] 38).alloc (.cells #[.slice x.p x.n x.c, .slice (some ⟨w2.heap.size, 0, none⟩) 1 1] 22)) (by simp [encM, MsgX.cells, Msg.cells, MsgX.vl, MsgX.vn, HNL.out, HNN.out]) (Nat.le_refl 1)
   have hB5 := Blk.new' (w2.alloc (.cells #[.int .i64 m.k, .int .i64 m.s, .int .i64 m.n, .int .i64 m.b, .int .i64 m.c, .int .i64 m.r, .int .i64 m.y, .int .i64 m.a, .bool m.t, .slice ql nl dl, .slice qn nn dn] 38)) #[.slice x.p x.n x.c, .slice (some ⟨w2.heap.size, 0, none⟩) 1 1] 22 (b := w2.heap.size + 1) (by simp)
   have hRT := RowsT.two hB5 rfl (hx1.kept HBE.out) hone
   refine (concatM_any (w2.heap.size + 1) 0 2 2 _ _ _ hRT rfl (by decide) (by have h1 := HXN.out; have h2 := HS.out; simp; omega)).mono ?_
   rintro y w6 ⟨v6, rfl, ho6, hb6⟩
   rw [show ([xs, [(MsgX.mk m ql dl qn dn)]] : List (List MsgX)).flatten = xs ++ [(MsgX.mk m ql dl qn dn)] by simp] at ho6
   obtain ⟨p6, c6, rfl⟩ := ho6.form
   have HB6 := ktq HBE hb6
   have HW26 : Hid (Below w2.heap.size w2 w6) := (((oneB w2 _).trans ((oneB _ _).mono (by simp))).trans (hb6.mono (by simp; omega)))
   have hnew : MRow (fun b => P b ∧ (b ≠ w.heap.size + 1 + 1 ∧ b ≠ gp)) w6 (.slice p6 (xs ++ [(MsgX.mk m ql dl qn dn)]).length c6) (q.1 ++ [m]) := ⟨_, ho6.row, ho6.at_P (fun b hb => ⟨HPP.out b (by have h1 := HB2.out.size; have h2 := HBC.out.size; simp at hb; omega), by have h1 := HLT1.out; have h2 := HG1.out; have h3 := HBC.out.size; simp at hb; omega, by have h2 := HG1.out; have h3 := HBC.out.size; simp at hb; omega⟩), (fun y hy => by
    rcases List.mem_append.1 hy with hy | hy
    ·exact (hx3 y hy).kept HB6.out
    ·simp at hy
     subst hy
     refine ⟨?_, ?_, ?_, ?_, HZ.out⟩
     ·exact HOL.out.row.kept HW26.out
     ·exact HON.out.row.kept HW26.out
     ·exact HOL.out.at_P (fun b hb => ⟨HPP.out b (by have h1 := HB2.out.size; simp at hb; omega), by have h1 := HLT1.out; have h2 := HG1.out; simp at hb; omega, by have h2 := HG1.out; simp at hb; omega⟩)
     ·exact HON.out.at_P (fun b hb => ⟨HPP.out b (by have h1 := HB2.out.size; simp at hb; omega), by have h1 := HLT1.out; have h2 := HG1.out; simp at hb; omega, by have h2 := HG1.out; simp at hb; omega⟩)), by rw [List.map_append, hx4]; rfl⟩
   have hnl6 : (xs ++ [(MsgX.mk m ql dl qn dn)]).length = x.n + 1 := by rw [List.length_append, hxl]; rfl
   rw [hnl6] at hnew ⊢
   have HNEW := Lib.hid hnew
   have HM6 := Lib.hid (HM1.out.below HB6.out HM1.out.lt)
   have HP6 := Lib.hid (HP1.out.below HB6.out HP1.out.lt)
   have HK6 := Lib.hid (HK1.out.below HB6.out HK1.out.lt)
   have HR6 := Lib.hid (HR1.out.below HB6.out HR1.out.lt)
   have hp0 := HP6.out.cell 0
   have hp0f := HP6.out.free 0
   clear hx1 hx2 hx3 hx4 hxl hone hB5 hRT ho6 hb6 hnew hnl6
   try go_wp2_with fail
   refine hK.out _ _ (HS1.out _ HB6.out) (fun hS => ?_)
   clear hK K
   try simp only [Act.put, List.getElem_toArray, List.getElem_cons_succ, List.getElem_cons_zero, List.setIfInBounds_toArray, List.set_cons_zero, List.set_cons_succ]
   refine tkq 7 ?_
   refine rdq 8 (fun K hK => ?_)
   go_simp
   have HC7 : Hid (Chg gp w6 (w6.setCell ⟨gp, 0, none⟩ (.slice p6 (x.n + 1) c6))) := (Chg.refl _ w6).set 0 _
   have HM7 := Lib.hid (HM6.out.chg HC7.out (by have h1 := HLT1.out; omega))
   refine hK.out _ _ ⟨HM7.out.cell 0, HM7.out.cell 1, HM7.out.cell 2, HM7.out.cell 3, HM7.out.cell 4, HM7.out.cell 5, HM7.out.cell 6, HM7.out.cell 7, HM7.out.cell 8, HM7.out.cell 9, HM7.out.cell 10⟩ (fun hS => ?_)
   clear hK K
   try simp only [Act.put, List.getElem_toArray, List.getElem_cons_succ, List.getElem_cons_zero, List.setIfInBounds_toArray, List.set_cons_zero, List.set_cons_succ]
   refine wpAnyH_done (by kernel_rfl) ?_ _
   have HP7 : Hid (Blk (w6.setCell ⟨gp, 0, none⟩ (.slice p6 (x.n + 1) c6)) gp #[.slice p6 (x.n + 1) c6, .int .i64 x.h] 43) := HP6.out.set 0 _
   have HK7 := Lib.hid (HK6.out.chg HC7.out (by have h1 := HLT1.out; omega))
   have HR7 := Lib.hid (HR6.out.chg HC7.out (by have h1 := HLT1.out; omega))
   have HB7 := Lib.hid ((HB2.out.trans (HB6.out.mono HB2.out.size)).trans (HC7.out.below (B := w.heap.size) (by have h1 := HLT1.out; omega) (HB2.out.trans (HB6.out.mono HB2.out.size)).size))
   have HSZ7 : Hid (gp < (w6.setCell ⟨gp, 0, none⟩ (.slice p6 (x.n + 1) c6)).heap.size) := HP7.out.lt
   have HNEW7 := Lib.hid (HNEW.out.keepP (KeepP.of_chg HC7.out (fun h => h.2.2 rfl)))
   generalize (w6.setCell ⟨gp, 0, none⟩ (.slice p6 (x.n + 1) c6)) = W7 at *
   have HWT := Lib.hid (with_any (fun b => P b ∧ (b ≠ w.heap.size + 1 + 1 ∧ b ≠ gp)) me j p n c qs ⟨p6, x.n + 1, c6, x.h⟩ (q.1 ++ [m], q.2) W7 HN.out ((HPR.out _ (fun b hb hp => ⟨hp, by omega, by have h1 := HLT1.out; omega⟩)).kept HB7.out) ⟨HX.out.1, by have h1 := HXN.out; simp [h1], HNEW7.out⟩ HJ.out HB9.out (fun b hb => ⟨HPP.out b (by have h1 := HB7.out.size; omega), by have h1 := HSZ7.out; have h2 := HLT1.out; omega, by have h1 := HSZ7.out; omega⟩))
   dsimp only at HWT
   have hk7 := HK7.out
   have hp7 := HP7.out
   have c0 : W7.cell? ⟨w.heap.size, 0, none⟩ = some (.int .i64 me) := hk7.cell 0
   have c1 : W7.cell? ⟨w.heap.size, 1, none⟩ = some (.slice p n c) := hk7.cell 1
   have c2 : W7.cell? ⟨gp, 0, none⟩ = some (.slice p6 (x.n + 1) c6) := hp7.cell 0
   have c3 : W7.cell? ⟨gp, 1, none⟩ = some (.int .i64 x.h) := hp7.cell 1
   clear hk7 hp7 hp0 hp0f
   go_wp2_with fail
   clear c0 c1 c2 c3
   refine HWT.out.mono ?_
   rintro y w8 ⟨_, rfl, ⟨p8, c8, rfl, hp8⟩, hb8⟩
   have hlen : (qs.set j (q.1 ++ [m], q.2)).length = n := by rw [List.length_set, ← HN.out]
   rw [hlen] at hp8 ⊢
   have HLEN := Lib.hid hlen
   have HP8 := Lib.hid hp8
   have HR8 := kbq HR7 hb8
   have HB8 := ktq HB7 hb8
   clear hp8 hb8 hlen
   go_wp2_with (with_reducible refine stop_storeT 27 (.tmp 6) (.tmp 35) rfl ?_)
   have HTH : Hid (w8.there (w.heap.size + 1 + 1) 0 2) := HR8.out.thereAt
   have HF : Hid (Blk (w8.setCells (w.heap.size + 1 + 1) 0 [.int .i64 me, .slice p8 n c8]) (w.heap.size + 1 + 1) #[.int .i64 me, .slice p8 n c8] 27 ∧ Chg (w.heap.size + 1 + 1) w8 (w8.setCells (w.heap.size + 1 + 1) 0 [.int .i64 me, .slice p8 n c8])) := ⟨blk_put_all HR8.out _ rfl, chg_putL _ _ _ _ _ (Chg.refl _ _)⟩
   refine wpList_store_mid rfl 27 (.tmp 6) (.tmp 35) rfl (w.heap.size + 1 + 1) 0 #[.int .i64 me, .slice p8 n c8] rfl rfl HTH.out infoL (all_oneCell_toArray (oneL _ _ _ _)) ?_
   generalize World.setCells w8 _ _ _ = w9 at *
   go_wp2_with fail
   have hf := HF.out.1
   refine bodyPost_ret (v := .tuple #[.agg #[.int .i64 me, .slice p8 n c8], .int .i64 0]) (by simp [results, Try.results6, go_sem, hf.cell 0, hf.cell 1]) rfl ?_
   refine ⟨_, rfl, ⟨p8, c8, by rw [HLEN.out], by rw [HLEN.out]; exact (HP8.out.keepP (KeepP.of_chg HF.out.2 (fun h => h.2.1 rfl))).mono (fun b _ h => h.1)⟩, HB8.out.trans (HF.out.2.below (by omega) HB8.out.size)⟩
  ·skip
   go_simp
   have HBD : Hid (Below W1.heap.size W1 (w2.alloc (.cells #[.int .i64 m.k, .int .i64 m.s, .int .i64 m.n, .int .i64 m.b, .int .i64 m.c, .int .i64 m.r, .int .i64 m.y, .int .i64 m.a, .bool m.t, .slice ql nl dl, .slice qn nn dn] 38))) := HBC.out.alloc HBC.out.size _
   have q2 : (w2.alloc (.cells #[.int .i64 m.k, .int .i64 m.s, .int .i64 m.n, .int .i64 m.b, .int .i64 m.c, .int .i64 m.r, .int .i64 m.y, .int .i64 m.a, .bool m.t, .slice ql nl dl, .slice qn nn dn] 38)).cell? ⟨gp, 0, none⟩ = some (.slice x.p x.n x.c) := (HP1.out.below HBD.out HP1.out.lt).cell 0
   refine hK.out _ _ (HS1.out _ HBD.out) (fun hS => ?_)
   clear hK K
   try simp only [Act.put, List.getElem_toArray, List.getElem_cons_succ, List.getElem_cons_zero, List.setIfInBounds_toArray, List.set_cons_zero, List.set_cons_succ]
   refine rdq 1 (fun K hK => ?_)
   go_simp
   refine hK.out _ _ (by first | assumption | exact (HS1.out _ (Below.refl _ W1).drew) | exact (HS1.out _ HBC.out) | exact (HS1.out _ HBD.out)) (fun hS => ?_)
   clear hK K
   try simp only [Act.put, List.getElem_toArray, List.getElem_cons_succ, List.getElem_cons_zero, List.setIfInBounds_toArray, List.set_cons_zero, List.set_cons_succ]
   refine rdq 5 (fun K hK => ?_)
   go_simp
   refine hK.out _ _ (HS1.out _ (HBD.out.alloc HBD.out.size _)) (fun hS => ?_)
   clear hK K
   try simp only [Act.put, List.getElem_toArray, List.getElem_cons_succ, List.getElem_cons_zero, List.setIfInBounds_toArray, List.set_cons_zero, List.set_cons_succ]
   refine rdq 6 (fun K hK => ?_)
   go_simp
   go_at_call 12
   obtain ⟨xs, hx1, hx2, hx3, hx4⟩ := HX2.out.2.2
   have hxl : xs.length = x.n := by have h := HXN.out; rw [h, ← hx4]; simp
   have HBE : Hid (Below W1.heap.size W1 ((w2.alloc (.cells #[.int .i64 m.k, .int .i64 m.s, .int .i64 m.n, .int .i64 m.b, .int .i64 m.c, .int .i64 m.r, .int .i64 m.y, .int .i64 m.a, .bool m.t, .slice ql nl dl, .slice qn nn dn] 38)).alloc (.cells #[.slice x.p x.n x.c, .slice (some ⟨w2.heap.size, 0, none⟩) 1 1] 22))) := HBD.out.alloc HBD.out.size _
   have hone := TRow.one_ encM (MsgX.mk m ql dl qn dn) ((Blk.new w2 #[.int .i64 m.k, .int .i64 m.s, .int .i64 m.n, .int .i64 m.b, .int .i64 m.c, .int .i64 m.r, .int .i64 m.y, .int .i64 m.a, .bool m.t, .slice ql nl dl, .slice qn nn dn] 38).alloc (.cells #[.slice x.p x.n x.c, .slice (some ⟨w2.heap.size, 0, none⟩) 1 1] 22)) (by simp [encM, MsgX.cells, Msg.cells, MsgX.vl, MsgX.vn, HNL.out, HNN.out]) (Nat.le_refl 1)
   have hB5 := Blk.new' (w2.alloc (.cells #[.int .i64 m.k, .int .i64 m.s, .int .i64 m.n, .int .i64 m.b, .int .i64 m.c, .int .i64 m.r, .int .i64 m.y, .int .i64 m.a, .bool m.t, .slice ql nl dl, .slice qn nn dn] 38)) #[.slice x.p x.n x.c, .slice (some ⟨w2.heap.size, 0, none⟩) 1 1] 22 (b := w2.heap.size + 1) (by simp)
   have hRT := RowsT.two hB5 rfl (hx1.kept HBE.out) hone
   refine (concatM_any (w2.heap.size + 1) 0 2 2 _ _ _ hRT rfl (by decide) (by have h1 := HXN.out; have h2 := HS.out; simp; omega)).mono ?_
   rintro y w6 ⟨v6, rfl, ho6, hb6⟩
   rw [show ([xs, [(MsgX.mk m ql dl qn dn)]] : List (List MsgX)).flatten = xs ++ [(MsgX.mk m ql dl qn dn)] by simp] at ho6
   obtain ⟨p6, c6, rfl⟩ := ho6.form
   have HB6 := ktq HBE hb6
   have HW26 : Hid (Below w2.heap.size w2 w6) := (((oneB w2 _).trans ((oneB _ _).mono (by simp))).trans (hb6.mono (by simp; omega)))
   have hnew : MRow (fun b => P b ∧ (b ≠ w.heap.size + 1 + 1 ∧ b ≠ gp)) w6 (.slice p6 (xs ++ [(MsgX.mk m ql dl qn dn)]).length c6) (q.1 ++ [m]) := ⟨_, ho6.row, ho6.at_P (fun b hb => ⟨HPP.out b (by have h1 := HB2.out.size; have h2 := HBC.out.size; simp at hb; omega), by have h1 := HLT1.out; have h2 := HG1.out; have h3 := HBC.out.size; simp at hb; omega, by have h2 := HG1.out; have h3 := HBC.out.size; simp at hb; omega⟩), (fun y hy => by
    rcases List.mem_append.1 hy with hy | hy
    ·exact (hx3 y hy).kept HB6.out
    ·simp at hy
     subst hy
     refine ⟨?_, ?_, ?_, ?_, HZ.out⟩
     ·exact HOL.out.row.kept HW26.out
     ·exact HON.out.row.kept HW26.out
     ·exact HOL.out.at_P (fun b hb => ⟨HPP.out b (by have h1 := HB2.out.size; simp at hb; omega), by have h1 := HLT1.out; have h2 := HG1.out; simp at hb; omega, by have h2 := HG1.out; simp at hb; omega⟩)
     ·exact HON.out.at_P (fun b hb => ⟨HPP.out b (by have h1 := HB2.out.size; simp at hb; omega), by have h1 := HLT1.out; have h2 := HG1.out; simp at hb; omega, by have h2 := HG1.out; simp at hb; omega⟩)), by rw [List.map_append, hx4]; rfl⟩
   have hnl6 : (xs ++ [(MsgX.mk m ql dl qn dn)]).length = x.n + 1 := by rw [List.length_append, hxl]; rfl
   rw [hnl6] at hnew ⊢
   have HNEW := Lib.hid hnew
   have HM6 := Lib.hid (HM1.out.below HB6.out HM1.out.lt)
   have HP6 := Lib.hid (HP1.out.below HB6.out HP1.out.lt)
   have HK6 := Lib.hid (HK1.out.below HB6.out HK1.out.lt)
   have HR6 := Lib.hid (HR1.out.below HB6.out HR1.out.lt)
   have hp0 := HP6.out.cell 0
   have hp0f := HP6.out.free 0
   clear hx1 hx2 hx3 hx4 hxl hone hB5 hRT ho6 hb6 hnew hnl6
   try go_wp2_with fail
   refine hK.out _ _ (HS1.out _ HB6.out) (fun hS => ?_)
   clear hK K
   try simp only [Act.put, List.getElem_toArray, List.getElem_cons_succ, List.getElem_cons_zero, List.setIfInBounds_toArray, List.set_cons_zero, List.set_cons_succ]
   refine tkq 7 ?_
   refine rdq 8 (fun K hK => ?_)
   go_simp
   have HC7 : Hid (Chg gp w6 (w6.setCell ⟨gp, 0, none⟩ (.slice p6 (x.n + 1) c6))) := (Chg.refl _ w6).set 0 _
   have HM7 := Lib.hid (HM6.out.chg HC7.out (by have h1 := HLT1.out; omega))
   refine hK.out _ _ ⟨HM7.out.cell 0, HM7.out.cell 1, HM7.out.cell 2, HM7.out.cell 3, HM7.out.cell 4, HM7.out.cell 5, HM7.out.cell 6, HM7.out.cell 7, HM7.out.cell 8, HM7.out.cell 9, HM7.out.cell 10⟩ (fun hS => ?_)
   clear hK K
   try simp only [Act.put, List.getElem_toArray, List.getElem_cons_succ, List.getElem_cons_zero, List.setIfInBounds_toArray, List.set_cons_zero, List.set_cons_succ]
   refine wpAnyH_done (by kernel_rfl) ?_ _
   have HP7 : Hid (Blk (w6.setCell ⟨gp, 0, none⟩ (.slice p6 (x.n + 1) c6)) gp #[.slice p6 (x.n + 1) c6, .int .i64 x.h] 43) := HP6.out.set 0 _
   have HK7 := Lib.hid (HK6.out.chg HC7.out (by have h1 := HLT1.out; omega))
   have HR7 := Lib.hid (HR6.out.chg HC7.out (by have h1 := HLT1.out; omega))
   have HB7 := Lib.hid ((HB2.out.trans (HB6.out.mono HB2.out.size)).trans (HC7.out.below (B := w.heap.size) (by have h1 := HLT1.out; omega) (HB2.out.trans (HB6.out.mono HB2.out.size)).size))
   have HSZ7 : Hid (gp < (w6.setCell ⟨gp, 0, none⟩ (.slice p6 (x.n + 1) c6)).heap.size) := HP7.out.lt
   have HNEW7 := Lib.hid (HNEW.out.keepP (KeepP.of_chg HC7.out (fun h => h.2.2 rfl)))
   generalize (w6.setCell ⟨gp, 0, none⟩ (.slice p6 (x.n + 1) c6)) = W7 at *
   have HWT := Lib.hid (with_any (fun b => P b ∧ (b ≠ w.heap.size + 1 + 1 ∧ b ≠ gp)) me j p n c qs ⟨p6, x.n + 1, c6, x.h⟩ (q.1 ++ [m], q.2) W7 HN.out ((HPR.out _ (fun b hb hp => ⟨hp, by omega, by have h1 := HLT1.out; omega⟩)).kept HB7.out) ⟨HX.out.1, by have h1 := HXN.out; simp [h1], HNEW7.out⟩ HJ.out HB9.out (fun b hb => ⟨HPP.out b (by have h1 := HB7.out.size; omega), by have h1 := HSZ7.out; have h2 := HLT1.out; omega, by have h1 := HSZ7.out; omega⟩))
   dsimp only at HWT
   have hk7 := HK7.out
   have hp7 := HP7.out
   have c0 : W7.cell? ⟨w.heap.size, 0, none⟩ = some (.int .i64 me) := hk7.cell 0
   have c1 : W7.cell? ⟨w.heap.size, 1, none⟩ = some (.slice p n c) := hk7.cell 1
   have c2 : W7.cell? ⟨gp, 0, none⟩ = some (.slice p6 (x.n + 1) c6) := hp7.cell 0
   have c3 : W7.cell? ⟨gp, 1, none⟩ = some (.int .i64 x.h) := hp7.cell 1
   clear hk7 hp7 hp0 hp0f
   go_wp2_with fail
   clear c0 c1 c2 c3
   refine HWT.out.mono ?_
   rintro y w8 ⟨_, rfl, ⟨p8, c8, rfl, hp8⟩, hb8⟩
   have hlen : (qs.set j (q.1 ++ [m], q.2)).length = n := by rw [List.length_set, ← HN.out]
   rw [hlen] at hp8 ⊢
   have HLEN := Lib.hid hlen
   have HP8 := Lib.hid hp8
   have HR8 := kbq HR7 hb8
   have HB8 := ktq HB7 hb8
   clear hp8 hb8 hlen
   go_wp2_with (with_reducible refine stop_storeT 27 (.tmp 6) (.tmp 35) rfl ?_)
   have HTH : Hid (w8.there (w.heap.size + 1 + 1) 0 2) := HR8.out.thereAt
   have HF : Hid (Blk (w8.setCells (w.heap.size + 1 + 1) 0 [.int .i64 me, .slice p8 n c8]) (w.heap.size + 1 + 1) #[.int .i64 me, .slice p8 n c8] 27 ∧ Chg (w.heap.size + 1 + 1) w8 (w8.setCells (w.heap.size + 1 + 1) 0 [.int .i64 me, .slice p8 n c8])) := ⟨blk_put_all HR8.out _ rfl, chg_putL _ _ _ _ _ (Chg.refl _ _)⟩
   refine wpList_store_mid rfl 27 (.tmp 6) (.tmp 35) rfl (w.heap.size + 1 + 1) 0 #[.int .i64 me, .slice p8 n c8] rfl rfl HTH.out infoL (all_oneCell_toArray (oneL _ _ _ _)) ?_
   generalize World.setCells w8 _ _ _ = w9 at *
   go_wp2_with fail
   have hf := HF.out.1
   refine bodyPost_ret (v := .tuple #[.agg #[.int .i64 me, .slice p8 n c8], .int .i64 0]) (by simp [results, Try.results6, go_sem, hf.cell 0, hf.cell 1]) rfl ?_
   refine ⟨_, rfl, ⟨p8, c8, by rw [HLEN.out], by rw [HLEN.out]; exact (HP8.out.keepP (KeepP.of_chg HF.out.2 (fun h => h.2.1 rfl))).mono (fun b _ h => h.1)⟩, HB8.out.trans (HF.out.2.below (by omega) HB8.out.size)⟩
end Go.Proofs.Ytboplnhgafbgbaa
namespace Go.Proofs.Ytboplnhgafbgbaa
open Go.RowKit
set_option linter.unusedSimpArgs false
section
variable {α : Type} {e : Enc α}
theorem wpList_append_tg {P : Program} {w : World} {ops : Array Oper} {rest : List Oper} {o : Oper} {a : Act} {Q : Exit → Act → World → Prop} (hgd : o.guard = none) (s x : Operand) (t : TypeId)
  (ho : o.op = .call { callee := .builtin .append, args := #[s, x], argTypes := #[t, t] })
  (ty : TypeId) (z : Value) (bytes base : Nat) (he : EltT e P t ty z bytes) (hzs : z.cells.size = e.k) (v y : Value) (xs ys : List α) (hs : a.eval s = v) (hx : a.eval x = y) (hown : OwnT e w base ty v xs) (hrow : TRow e w y ys)
  (h63 : xs.length + ys.length ≤ 140737488355328) (hbytes : (xs.length + ys.length) * bytes ≤ 140737488355328) (hbase : base ≤ w.heap.size) (L : List α) (N : Nat) (hL : xs ++ ys = L) (hN : L.length = N)
  (h : ∀ p' c' w', OwnT e w' base ty (.slice p' N c') L → w.grownBy w' v.ownBlock → ((Value.slice p' N c').ownBlock = v.ownBlock ∨ (Value.slice p' N c').ownBlock = some w.heap.size) → Below base w w' → wpList P ops Q rest (a.put o.dst (.slice p' N c')) w') : wpList P ops Q (o :: rest) a w := by
 subst hL
 subst hN
 refine wpList_plain hgd fun K hK => ?_
 obtain ⟨v', w', hrun, h1, h2, h3⟩ := run_append_tb w t o.type ty z bytes base he hzs v y xs ys hown hrow h63 hbytes hbase
 unfold Oper.wp
 obtain ⟨p', c', rfl⟩ := h1.form
 simp [execOp, ho, resolve, invoke, builtin, hs, hx, hrun, Result.andThen]
 exact hK _ _ (by simpa using h p' c' w' h1 h2 h3 ((Below.refl _ _).grown h2 hbase (fun g hg' => hown.block_ge g hg')))
end
theorem OwnT.at_lt {α : Type} {e : Enc α} {w : World} {base : Nat} {ty : TypeId} {v : Value} {xs : List α} (h : OwnT e w base ty v xs) : At (fun b => base ≤ b ∧ b < w.heap.size) v xs.length := by
 rintro b o n c rfl hn
 exact ⟨h.block_ge b rfl, h.lt b rfl⟩
theorem Own.at_lt {k : IntKind} {w : World} {base : Nat} {ty : TypeId} {v : Value} {xs : List Int} (h : Own k w base ty v xs) : At (fun b => base ≤ b ∧ b < w.heap.size) v xs.length := by
 rintro b o n c rfl hn
 exact ⟨h.block_ge b rfl, h.lt b rfl⟩
theorem At.imp {P Q : Nat → Prop} {v : Value} {n : Nat} (h : At P v n) (hq : ∀ b, P b → Q b) : At Q v n := fun b o m c e hn => hq b (h b o m c e hn)
theorem KeepP.weak {P Q : Nat → Prop} {w w' : World} (h : KeepP P w w') (hq : ∀ b, Q b → P b) : KeepP Q w w' := ⟨h.1, fun b hb hp => h.2 b hb (hq b hp)⟩
theorem KeepP.of_grown {P : Nat → Prop} {w w' : World} {r : Option Nat} (h : w.grownBy w' r) (hs : w.heap.size ≤ w'.heap.size) (hr : ∀ b, P b → some b ≠ r) : KeepP P w w' := ⟨hs, fun b hb hp => h.block b hb (hr b hp)⟩
end Go.Proofs.Ytboplnhgafbgbaa
namespace Go.Proofs.Ytboplnhgafbgbaa
open Go.RowKit
set_option linter.unusedSimpArgs false
structure Pk where
 f : Int
 t : Int
 n : Int
 h : Int
 m : Msg
structure PkX where
 f : Int
 t : Int
 n : Int
 h : Int
 x : MsgX
def PkX.pk (y : PkX) : Pk := ⟨y.f, y.t, y.n, y.h, y.x.m⟩
def PkX.cells (y : PkX) : List Value := .int .i64 y.f :: .int .i64 y.t :: .int .i64 y.n :: .int .i64 y.h :: y.x.cells
def encK : Enc PkX := ⟨15, PkX.cells, by decide, fun _ => rfl, by
 intro y u hu
 simp only [PkX.cells, List.mem_cons] at hu
 rcases hu with rfl | rfl | rfl | rfl | hu
 ·rfl
 ·rfl
 ·rfl
 ·rfl
 ·exact encM.one y.x u hu⟩
def msgZ : Msg := ⟨0, 0, 0, 0, 0, 0, 0, 0, false, [], []⟩
def msgZX : MsgX := ⟨msgZ, none, 0, none, 0⟩
def zeroVK : Value := .agg #[.int .i64 0, .int .i64 0, .int .i64 0, .int .i64 0, .int .i64 0, .int .i64 0, .int .i64 0, .int .i64 0, .int .i64 0, .int .i64 0, .int .i64 0, .int .i64 0, .bool false, .slice none 0 0, .slice none 0 0]
theorem eltK : EltT encK Try.prog 40 45 zeroVK 152 := eltT_mk Try.underlying40 (by kernel_rfl)
theorem infoK : (Try.prog.info? 45).map (·.size) = some 15 := by kernel_rfl
def PkRow (P : Nat → Prop) (w : World) (v : Value) (ks : List Pk) : Prop := ∃ ys : List PkX, TRow encK w v ys ∧ At P v ys.length ∧ (∀ y ∈ ys, y.x.InP P w) ∧ ys.map PkX.pk = ks
theorem PkRow.kept {P : Nat → Prop} {w w' : World} {v : Value} {ks : List Pk} (h : PkRow P w v ks) (hb : Below w.heap.size w w') : PkRow P w' v ks := by
 obtain ⟨ys, h1, h2, h3, h4⟩ := h
 exact ⟨ys, h1.kept hb, h2, fun y hy => (h3 y hy).kept hb, h4⟩
theorem PkRow.keepP {P : Nat → Prop} {w w' : World} {v : Value} {ks : List Pk} (h : PkRow P w v ks) (hk : KeepP P w w') : PkRow P w' v ks := by
 obtain ⟨ys, h1, h2, h3, h4⟩ := h
 exact ⟨ys, h1.keepP h2 hk, h2, fun y hy => (h3 y hy).keepP hk, h4⟩
theorem PkRow.shape {P : Nat → Prop} {w : World} {v : Value} {ks : List Pk} (h : PkRow P w v ks) : ∃ p c, v = .slice p ks.length c := by
 obtain ⟨ys, h1, _, _, rfl⟩ := h
 obtain ⟨p, c, rfl⟩ := h1.shape
 exact ⟨p, c, by rw [List.length_map]⟩
/-- A message stored behind the four numbers of a packet. -/
theorem blk_msg {w : World} {b : Nat} {t : TypeId} (a0 a1 a2 a3 : Value) (old new : List Value) (ho : old.length = 11) (hn : new.length = 11) (h : Blk w b (a0 :: a1 :: a2 :: a3 :: old).toArray t) : Blk (w.setCells b 4 new) b (a0 :: a1 :: a2 :: a3 :: new).toArray t := by
 obtain ⟨Z, hZ, hs, hj⟩ := blk_put new 4 _ w h
 have : Z = (a0 :: a1 :: a2 :: a3 :: new).toArray := by
  apply Array.ext_getElem?
  intro j
  by_cases h4 : j < 4
  ·rw [(hj j).1 (.inl h4)]
   match j, h4 with
   | 0, _ => rfl
   | 1, _ => rfl
   | 2, _ => rfl
   | 3, _ => rfl
  ·obtain ⟨i, rfl⟩ : ∃ i, j = i + 4 := ⟨j - 4, by omega⟩
   by_cases hi : i < 11
   ·rw [(hj (i + 4)).2 (by omega) (by omega) (by simp [ho]; omega)]
    simp
   ·rw [(hj (i + 4)).1 (.inr (by omega))]
    simp [ho, hn, hi]
 rw [← this]
 exact hZ
theorem there_msg {w : World} {b : Nat} {t : TypeId} {cs : Array Value} (h : Blk w b cs t) (hs : cs.size = 15) : w.there b 4 11 := fun j hj => by
 refine ⟨?_, h.free _⟩
 rw [h.cell (4 + j), Array.getElem?_eq_getElem (by omega)]
 rfl
end Go.Proofs.Ytboplnhgafbgbaa
namespace Go.Proofs.Ytboplnhgafbgbaa
open Go.RowKit
set_option linter.unusedSimpArgs false
/-- Packets with what is said from number k + 1 on. -/
def pkN (me tq h : Int) : Nat → List Msg → List Pk
 | _, [] => []
 | k, m :: ms => ⟨me, tq, ((k + 1 : Nat) : Int), h, m⟩ :: pkN me tq h (k + 1) ms
theorem pkN_append (me tq h : Int) (m : Msg) : ∀ (l : List Msg) (k : Nat), pkN me tq h k (l ++ [m]) = pkN me tq h k l ++ [⟨me, tq, ((k + l.length + 1 : Nat) : Int), h, m⟩]
 | [], k => rfl
 | a :: l, k => by
  rw [List.cons_append, pkN, pkN_append me tq h m l (k + 1), pkN, List.cons_append, List.length_cons, show k + 1 + l.length + 1 = k + (l.length + 1) + 1 by omega]
theorem pkN_length (me tq h : Int) : ∀ (l : List Msg) (k : Nat), (pkN me tq h k l).length = l.length
 | [], _ => rfl
 | a :: l, k => by rw [pkN, List.length_cons, pkN_length me tq h l (k + 1), List.length_cons]
theorem pkN_get (me tq h : Int) : ∀ (l : List Msg) (k i : Nat) (hi : i < l.length), (pkN me tq h k l)[i]? = some ⟨me, tq, ((k + i + 1 : Nat) : Int), h, l[i]⟩
 | a :: l, k, 0, _ => rfl
 | a :: l, k, i + 1, hi => by
  rw [pkN, List.getElem?_cons_succ, pkN_get me tq h l (k + 1) i (by simpa using hi), show k + 1 + i + 1 = k + (i + 1) + 1 by omega]
  rfl
def packs (me tq : Int) (q : Pe) (k : Nat) : List Pk := if q.1.length ≤ k then [⟨me, tq, 0, q.2, msgZ⟩] else pkN me tq q.2 k (q.1.drop k)
end Go.Proofs.Ytboplnhgafbgbaa
namespace Go.Proofs.Ytboplnhgafbgbaa
open Go.RowKit
set_option linter.unusedSimpArgs false
set_option maxHeartbeats 8000000 in
set_option maxRecDepth 100000 in
theorem packets_no (P : Nat → Prop) (me i k : Int) (p : Option Addr) (n c : Nat) (qs : List Pe) (w : World) (hn : n = qs.length) (hr : PeRow P w (.slice p n c) qs) (hok : okP me qs.length i = false) :
  Calls Try.prog 7 #[.agg #[.int .i64 me, .slice p n c], .int .i64 i, .int .i64 k] w fun e w' => e = .returned (.slice none 0 0) ∧ Below w.heap.size w w' := by
 have HB0 := Lib.hid (oneB w (.cells #[.int .i64 me, .slice p n c] 27))
 have HOT := Lib.hid (other_any P me i p n c qs _ hn (hr.kept HB0.out))
 rw [hok] at HOT
 clear hn hr hok
 go_enter Try.func7, Try.ntmps7
 go_wp2_with fail
 refine HOT.out.mono ?_
 rintro y w1 ⟨x, rfl, _, hb⟩
 have HB := ktq HB0 hb
 clear hb HOT
 go_wp2_with fail
 go_ret
 exact ⟨rfl, HB.out.alloc HB.out.size _⟩
def PLoop (P : Nat → Prop) (w3 : World) (me : Int) (j : Nat) (h : Int) (K : Nat) (ms : List Msg) (i : Nat) (v : Value) (wr : World) : Prop := ∃ ys : List PkX, OwnT encK wr w3.heap.size 45 v ys ∧ ys.map PkX.pk = pkN me j h K (ms.take i) ∧ (∀ y ∈ ys, y.x.InP (fun b => v.ownBlock ≠ some b ∧ P b) wr) ∧ Below w3.heap.size w3 wr
set_option maxHeartbeats 8000000 in
set_option maxRecDepth 100000 in
theorem packets_one (P : Nat → Prop) (me : Int) (j : Nat) (kI : Int) (p : Option Addr) (n c : Nat) (qs : List Pe) (w : World) (hn : n = qs.length) (hr : PeRow P w (.slice p n c) qs) (hok : okP me qs.length j = true) (hj : j < qs.length) (hs : qs[j].1.length ≤ 1000) (hk : kI < 0 ∧ qs[j].1.length = 0 ∨ ¬ kI < 0 ∧ qs[j].1.length ≤ kI.toNat) (hP : ∀ b, w.heap.size ≤ b → P b) :
  Calls Try.prog 7 #[.agg #[.int .i64 me, .slice p n c], .int .i64 (j : Nat), .int .i64 kI] w fun e w' => ∃ v, e = .returned v ∧ PkRow P w' v [⟨me, j, 0, qs[j].2, msgZ⟩] ∧ Below w.heap.size w w' := by
 have HB0 := Lib.hid (oneB w (.cells #[.int .i64 me, .slice p n c] 27))
 have HK0 := Lib.hid (Blk.new w #[.int .i64 me, .slice p n c] 27)
 have hP2 : peAt me qs j = qs[j] := by unfold peAt; rw [if_pos hok]; simp [hj]
 have HOT := Lib.hid (other_any P me j p n c qs _ hn (hr.kept HB0.out))
 rw [hok, hP2] at HOT
 generalize hq : qs[j] = q at *
 have HPP := Lib.hid hP
 have HS := Lib.hid hs
 have HKK := Lib.hid hk
 clear hk
 clear hn hr hok hj hP2 hq hs hP
 go_enter Try.func7, Try.ntmps7
 go_wp2_with fail
 refine HOT.out.mono ?_
 rintro y w1 ⟨⟨sp, sn, sc, sh⟩, rfl, hx, hb⟩
 have HX := Lib.hid hx
 have hxh : sh = q.2 := hx.1
 subst hxh
 dsimp only at hx ⊢
 have HXN : Hid (sn = q.1.length) := hx.2.1
 have HB1 := ktq HB0 hb
 have HK1 := Lib.hid ((HK0.out.below hb HK0.out.lt).alloc (.cells #[.slice sp sn sc, .int .i64 q.2] 43))
 have HB2 := Lib.hid (HB1.out.alloc HB1.out.size (.cells #[.slice sp sn sc, .int .i64 q.2] 43))
 have hk1 := HK1.out
 have c0 : (w1.alloc (.cells #[.slice sp sn sc, .int .i64 q.2] 43)).cell? ⟨w.heap.size, 0, none⟩ = some (.int .i64 me) := hk1.cell 0
 have HW1 := Lib.hid (Nat.le_trans HB0.out.size hb.size)
 clear hb hx HOT HK0 HB0 hk1
 rcases HKK.out with ⟨h1, h2⟩ | ⟨h1, h2⟩
 ·have h3 : sn = 0 := by rw [HXN.out, h2]
  subst h3
  have h4 : (if kI < 0 then (0 : Int) else kI) = 0 := by rw [if_pos h1]
  go_wp2_with fail
  have h1 := Blk.new' ((w1.alloc (.cells #[.slice sp 0 sc, .int .i64 q.2] 43)).alloc (.cells #[.int .i64 me, .int .i64 (j : Nat), .int .i64 0, .int .i64 q.2, .int .i64 0, .int .i64 0, .int .i64 0, .int .i64 0, .int .i64 0, .int .i64 0, .int .i64 0, .int .i64 0, .bool false, .slice none 0 0, .slice none 0 0] 45)) #[.int .i64 me, .int .i64 (j : Nat), .int .i64 0, .int .i64 q.2, .int .i64 0, .int .i64 0, .int .i64 0, .int .i64 0, .int .i64 0, .int .i64 0, .int .i64 0, .int .i64 0, .bool false, .slice none 0 0, .slice none 0 0] 45 (b := w1.heap.size + 1 + 1) (by simp)
  have hB3 := HB2.out.alloc HB2.out.size (.cells #[.int .i64 me, .int .i64 (j : Nat), .int .i64 0, .int .i64 q.2, .int .i64 0, .int .i64 0, .int .i64 0, .int .i64 0, .int .i64 0, .int .i64 0, .int .i64 0, .int .i64 0, .bool false, .slice none 0 0, .slice none 0 0] 45)
  go_ret
  refine ⟨_, rfl, ⟨[⟨me, j, 0, q.2, msgZX⟩], TRow.one_ encK _ h1 rfl (Nat.le_refl 1), (fun b o n c e _ => by cases e; exact HPP.out _ (by have := HW1.out; omega)), (fun y hy => by simp at hy; subst hy; exact ⟨TRow.nil_ _ _, Row.nil_ _ _ 0, At.nil_ _ _, At.nil_ _ _, show Msg.Sz msgZ from ⟨by decide, by decide⟩⟩), rfl⟩, hB3.alloc hB3.size _⟩
 ·obtain ⟨K, rfl⟩ : ∃ K : Nat, kI = K := ⟨kI.toNat, by omega⟩
  have h3 : (sn : Int) ≤ (K : Int) := by have := HXN.out; simp at h2; omega
  have h4 : sn ≤ K := by omega
  go_wp2_with fail
  have h1 := Blk.new' ((w1.alloc (.cells #[.slice sp sn sc, .int .i64 q.2] 43)).alloc (.cells #[.int .i64 me, .int .i64 (j : Nat), .int .i64 0, .int .i64 q.2, .int .i64 0, .int .i64 0, .int .i64 0, .int .i64 0, .int .i64 0, .int .i64 0, .int .i64 0, .int .i64 0, .bool false, .slice none 0 0, .slice none 0 0] 45)) #[.int .i64 me, .int .i64 (j : Nat), .int .i64 0, .int .i64 q.2, .int .i64 0, .int .i64 0, .int .i64 0, .int .i64 0, .int .i64 0, .int .i64 0, .int .i64 0, .int .i64 0, .bool false, .slice none 0 0, .slice none 0 0] 45 (b := w1.heap.size + 1 + 1) (by simp)
  have hB3 := HB2.out.alloc HB2.out.size (.cells #[.int .i64 me, .int .i64 (j : Nat), .int .i64 0, .int .i64 q.2, .int .i64 0, .int .i64 0, .int .i64 0, .int .i64 0, .int .i64 0, .int .i64 0, .int .i64 0, .int .i64 0, .bool false, .slice none 0 0, .slice none 0 0] 45)
  go_ret
  refine ⟨_, rfl, ⟨[⟨me, j, 0, q.2, msgZX⟩], TRow.one_ encK _ h1 rfl (Nat.le_refl 1), (fun b o n c e _ => by cases e; exact HPP.out _ (by have := HW1.out; omega)), (fun y hy => by simp at hy; subst hy; exact ⟨TRow.nil_ _ _, Row.nil_ _ _ 0, At.nil_ _ _, At.nil_ _ _, show Msg.Sz msgZ from ⟨by decide, by decide⟩⟩), rfl⟩, hB3.alloc hB3.size _⟩
set_option maxHeartbeats 8000000 in
set_option maxRecDepth 100000 in
theorem packets_many (P : Nat → Prop) (me : Int) (j : Nat) (K : Nat) (p : Option Addr) (n c : Nat) (qs : List Pe) (w : World) (hn : n = qs.length) (hr : PeRow P w (.slice p n c) qs) (hok : okP me qs.length j = true) (hj : j < qs.length) (hs : qs[j].1.length ≤ 1000) (hlt : K < qs[j].1.length) (hP : ∀ b, w.heap.size ≤ b → P b) :
  Calls Try.prog 7 #[.agg #[.int .i64 me, .slice p n c], .int .i64 (j : Nat), .int .i64 (K : Nat)] w fun e w' => ∃ v, e = .returned v ∧ PkRow P w' v (pkN me j qs[j].2 K (qs[j].1.drop K)) ∧ Below w.heap.size w w' := by
 have HB0 := Lib.hid (oneB w (.cells #[.int .i64 me, .slice p n c] 27))
 have HK0 := Lib.hid (Blk.new w #[.int .i64 me, .slice p n c] 27)
 have hP2 : peAt me qs j = qs[j] := by unfold peAt; rw [if_pos hok]; simp [hj]
 have HOT := Lib.hid (other_any P me j p n c qs _ hn (hr.kept HB0.out))
 rw [hok, hP2] at HOT
 generalize hq : qs[j] = q at *
 have HPP := Lib.hid hP
 have HS := Lib.hid hs
 clear hn hr hok hj hP2 hq hs hP
 go_enter Try.func7, Try.ntmps7
 go_wp2_with fail
 refine HOT.out.mono ?_
 rintro y w1 ⟨⟨sp, sn, sc, sh⟩, rfl, hx, hb⟩
 have HX := Lib.hid hx
 have hxh : sh = q.2 := hx.1
 subst hxh
 dsimp only at hx ⊢
 have HXN : Hid (sn = q.1.length) := hx.2.1
 have HB1 := ktq HB0 hb
 have HK1 := Lib.hid ((HK0.out.below hb HK0.out.lt).alloc (.cells #[.slice sp sn sc, .int .i64 q.2] 43))
 have HB2 := Lib.hid (HB1.out.alloc HB1.out.size (.cells #[.slice sp sn sc, .int .i64 q.2] 43))
 have hk1 := HK1.out
 have c0 : (w1.alloc (.cells #[.slice sp sn sc, .int .i64 q.2] 43)).cell? ⟨w.heap.size, 0, none⟩ = some (.int .i64 me) := hk1.cell 0
 have HW1 := Lib.hid (Nat.le_trans HB0.out.size hb.size)
 obtain ⟨xs, hx1, hx2, hx3, hx4⟩ := hx.2.2
 dsimp only at hx1 hx2
 have hxl : xs.length = sn := by rw [HXN.out, ← hx4]; simp
 have hcap := hx1.cap
 obtain ⟨b, o, rfl, hbl, hrest⟩ := hx1.at_ 0 (by have := HXN.out; omega)
 clear hrest
 have HXS := Lib.hid hx1
 have HXL := Lib.hid hxl
 have HX3 := Lib.hid hx3
 have HX4 := Lib.hid hx4
 have HBL := Lib.hid hbl
 have hc1 : ¬ sc = K := by have := HXN.out; omega
 have hlt' : ¬ (sn : Int) ≤ (K : Int) := by have := HXN.out; omega
 have HLT : Hid (K < sn) := by show K < sn; have := HXN.out; omega
 clear hlt
 have HKS : Hid (sn ≤ 1000) := by show sn ≤ 1000; have h1 := HXN.out; have h2 := HS.out; omega
 have HG := Lib.hid (Nat.lt_of_lt_of_le (show w.heap.size < (w.alloc (.cells #[.int .i64 me, .slice p n c] 27)).heap.size by simp) hb.size)
 clear hb hx HOT HK0 HB0 hk1 hx1 hx2 hx3 hx4 hxl hcap hbl
 have HNO := Lib.hid (Blk.new' (w1.alloc (.cells #[.slice (some ⟨b, o, none⟩) sn sc, .int .i64 q.2] 43)) #[.int .i64 me, .int .i64 (j : Nat), .int .i64 0, .int .i64 q.2, .int .i64 0, .int .i64 0, .int .i64 0, .int .i64 0, .int .i64 0, .int .i64 0, .int .i64 0, .int .i64 0, .bool false, .slice none 0 0, .slice none 0 0] 45 (b := w1.heap.size + 1) (by simp))
 have HB3 := Lib.hid (HB2.out.alloc HB2.out.size (.cells #[.int .i64 me, .int .i64 (j : Nat), .int .i64 0, .int .i64 q.2, .int .i64 0, .int .i64 0, .int .i64 0, .int .i64 0, .int .i64 0, .int .i64 0, .int .i64 0, .int .i64 0, .bool false, .slice none 0 0, .slice none 0 0] 45))
 have C13 := Lib.hid (show Below w1.heap.size w1 ((w1.alloc (.cells #[.slice (some ⟨b, o, none⟩) sn sc, .int .i64 q.2] 43)).alloc (.cells #[.int .i64 me, .int .i64 (j : Nat), .int .i64 0, .int .i64 q.2, .int .i64 0, .int .i64 0, .int .i64 0, .int .i64 0, .int .i64 0, .int .i64 0, .int .i64 0, .int .i64 0, .bool false, .slice none 0 0, .slice none 0 0] 45)) from (oneB w1 _).trans ((oneB _ _).mono (by simp)))
 go_wp2_with fail
 generalize (w1.alloc (.cells #[.slice (some ⟨b, o, none⟩) sn sc, .int .i64 q.2] 43)).alloc (.cells #[.int .i64 me, .int .i64 (j : Nat), .int .i64 0, .int .i64 q.2, .int .i64 0, .int .i64 0, .int .i64 0, .int .i64 0, .int .i64 0, .int .i64 0, .int .i64 0, .int .i64 0, .bool false, .slice none 0 0, .slice none 0 0] 45) = w3 at *
 have HLT3 := Lib.hid HNO.out.lt
 clear c0 hc1 hlt'
 have HREL : Hid (PLoop P w3 me j q.2 K (q.1.drop K) 0 (.slice none 0 0) w3) := ⟨[], OwnT.nil_ _ _ _ _, rfl, (fun _ h => by cases h), Below.refl _ _⟩
 go_loopw [11, 43] (fun v i wr => ∃ k : Nat, k ≤ sn - K ∧ i = .int .i64 k ∧ Hid (PLoop P w3 me j q.2 K (q.1.drop K) k v wr)) (fun _ i _ => (sn - K) - (intOf i).toNat)
 case atStart => exact ⟨0, by omega, rfl, HREL⟩
 case round =>
  obtain ⟨k, hk, rfl, HK⟩ := hrel
  clear HREL
  obtain ⟨ys, ho, hpk, hin, hbw⟩ := HK.out
  have hyl : ys.length = k := by
   have h1 := congrArg List.length hpk
   rw [List.length_map, pkN_length, List.length_take, List.length_drop] at h1
   have h2 := HXN.out
   omega
  obtain ⟨pv, cv, rfl⟩ := ho.form
  rw [hyl] at ho hin
  by_cases hlk : k < sn - K
  ·have hlI : (k : Int) < ((sn - K : Nat) : Int) := by omega
   have hki : K + k < xs.length := by have := HXL.out; omega
   obtain ⟨b', o', e1, _, hcs⟩ := (HXS.out.kept (C13.out.trans (hbw.mono C13.out.size))).at_ (K + k) hki
   cases e1
   have HM := Lib.hid ((HX3.out xs[K + k] (List.getElem_mem hki)).kept (C13.out.trans (hbw.mono C13.out.size)))
   have hmq : (q.1.drop K).take (k + 1) = (q.1.drop K).take k ++ [xs[K + k].m] := by
    rw [← HX4.out, List.take_succ_eq_append_getElem (by rw [List.length_drop, List.length_map]; omega)]
    simp
   have HMQ := Lib.hid hmq
   generalize xs[K + k] = X at *
   obtain ⟨m, pl, cl, pn, cn⟩ := X
   rw [show o + (K + k) * encM.k = o + K * 11 + k * 11 by show o + (K + k) * 11 = _; omega] at hcs
   have c0 : wr.cell? ⟨b, o + K * 11 + k * 11, none⟩ = some (.int .i64 m.k) := hcs 0 (by decide)
   have c1 : wr.cell? ⟨b, o + K * 11 + k * 11 + 1, none⟩ = some (.int .i64 m.s) := hcs 1 (by decide)
   have c2 : wr.cell? ⟨b, o + K * 11 + k * 11 + 2, none⟩ = some (.int .i64 m.n) := hcs 2 (by decide)
   have c3 : wr.cell? ⟨b, o + K * 11 + k * 11 + 3, none⟩ = some (.int .i64 m.b) := hcs 3 (by decide)
   have c4 : wr.cell? ⟨b, o + K * 11 + k * 11 + 4, none⟩ = some (.int .i64 m.c) := hcs 4 (by decide)
   have c5 : wr.cell? ⟨b, o + K * 11 + k * 11 + 5, none⟩ = some (.int .i64 m.r) := hcs 5 (by decide)
   have c6 : wr.cell? ⟨b, o + K * 11 + k * 11 + 6, none⟩ = some (.int .i64 m.y) := hcs 6 (by decide)
   have c7 : wr.cell? ⟨b, o + K * 11 + k * 11 + 7, none⟩ = some (.int .i64 m.a) := hcs 7 (by decide)
   have c8 : wr.cell? ⟨b, o + K * 11 + k * 11 + 8, none⟩ = some (.bool m.t) := hcs 8 (by decide)
   have c9 : wr.cell? ⟨b, o + K * 11 + k * 11 + 9, none⟩ = some (.slice pl m.ls.length cl) := hcs 9 (by decide)
   have c10 : wr.cell? ⟨b, o + K * 11 + k * 11 + 10, none⟩ = some (.slice pn m.ns.length cn) := hcs 10 (by decide)
   have HO := Lib.hid ho
   have HIN := Lib.hid hin
   have HBW := Lib.hid hbw
   have HYL := Lib.hid hyl
   have HPK := Lib.hid hpk
   have hn0 := (HNO.out.below hbw HLT3.out).alloc (.cells #[.int .i64 m.k, .int .i64 m.s, .int .i64 m.n, .int .i64 m.b, .int .i64 m.c, .int .i64 m.r, .int .i64 m.y, .int .i64 m.a, .bool m.t, .slice pl m.ls.length cl, .slice pn m.ns.length cn] 38)
   have n0 : (wr.alloc (.cells #[.int .i64 m.k, .int .i64 m.s, .int .i64 m.n, .int .i64 m.b, .int .i64 m.c, .int .i64 m.r, .int .i64 m.y, .int .i64 m.a, .bool m.t, .slice pl m.ls.length cl, .slice pn m.ns.length cn] 38)).cell? ⟨w1.heap.size + 1, 0, none⟩ = some (.int .i64 me) := hn0.cell 0
   have n1 : (wr.alloc (.cells #[.int .i64 m.k, .int .i64 m.s, .int .i64 m.n, .int .i64 m.b, .int .i64 m.c, .int .i64 m.r, .int .i64 m.y, .int .i64 m.a, .bool m.t, .slice pl m.ls.length cl, .slice pn m.ns.length cn] 38)).cell? ⟨w1.heap.size + 1, 1, none⟩ = some (.int .i64 (j : Nat)) := hn0.cell 1
   have n2 : (wr.alloc (.cells #[.int .i64 m.k, .int .i64 m.s, .int .i64 m.n, .int .i64 m.b, .int .i64 m.c, .int .i64 m.r, .int .i64 m.y, .int .i64 m.a, .bool m.t, .slice pl m.ls.length cl, .slice pn m.ns.length cn] 38)).cell? ⟨w1.heap.size + 1, 2, none⟩ = some (.int .i64 0) := hn0.cell 2
   have n3 : (wr.alloc (.cells #[.int .i64 m.k, .int .i64 m.s, .int .i64 m.n, .int .i64 m.b, .int .i64 m.c, .int .i64 m.r, .int .i64 m.y, .int .i64 m.a, .bool m.t, .slice pl m.ls.length cl, .slice pn m.ns.length cn] 38)).cell? ⟨w1.heap.size + 1, 3, none⟩ = some (.int .i64 q.2) := hn0.cell 3
   have n4 : (wr.alloc (.cells #[.int .i64 m.k, .int .i64 m.s, .int .i64 m.n, .int .i64 m.b, .int .i64 m.c, .int .i64 m.r, .int .i64 m.y, .int .i64 m.a, .bool m.t, .slice pl m.ls.length cl, .slice pn m.ns.length cn] 38)).cell? ⟨w1.heap.size + 1, 4, none⟩ = some (.int .i64 0) := hn0.cell 4
   have n5 : (wr.alloc (.cells #[.int .i64 m.k, .int .i64 m.s, .int .i64 m.n, .int .i64 m.b, .int .i64 m.c, .int .i64 m.r, .int .i64 m.y, .int .i64 m.a, .bool m.t, .slice pl m.ls.length cl, .slice pn m.ns.length cn] 38)).cell? ⟨w1.heap.size + 1, 5, none⟩ = some (.int .i64 0) := hn0.cell 5
   have n6 : (wr.alloc (.cells #[.int .i64 m.k, .int .i64 m.s, .int .i64 m.n, .int .i64 m.b, .int .i64 m.c, .int .i64 m.r, .int .i64 m.y, .int .i64 m.a, .bool m.t, .slice pl m.ls.length cl, .slice pn m.ns.length cn] 38)).cell? ⟨w1.heap.size + 1, 6, none⟩ = some (.int .i64 0) := hn0.cell 6
   have n7 : (wr.alloc (.cells #[.int .i64 m.k, .int .i64 m.s, .int .i64 m.n, .int .i64 m.b, .int .i64 m.c, .int .i64 m.r, .int .i64 m.y, .int .i64 m.a, .bool m.t, .slice pl m.ls.length cl, .slice pn m.ns.length cn] 38)).cell? ⟨w1.heap.size + 1, 7, none⟩ = some (.int .i64 0) := hn0.cell 7
   have n8 : (wr.alloc (.cells #[.int .i64 m.k, .int .i64 m.s, .int .i64 m.n, .int .i64 m.b, .int .i64 m.c, .int .i64 m.r, .int .i64 m.y, .int .i64 m.a, .bool m.t, .slice pl m.ls.length cl, .slice pn m.ns.length cn] 38)).cell? ⟨w1.heap.size + 1, 8, none⟩ = some (.int .i64 0) := hn0.cell 8
   have n9 : (wr.alloc (.cells #[.int .i64 m.k, .int .i64 m.s, .int .i64 m.n, .int .i64 m.b, .int .i64 m.c, .int .i64 m.r, .int .i64 m.y, .int .i64 m.a, .bool m.t, .slice pl m.ls.length cl, .slice pn m.ns.length cn] 38)).cell? ⟨w1.heap.size + 1, 9, none⟩ = some (.int .i64 0) := hn0.cell 9
   have n10 : (wr.alloc (.cells #[.int .i64 m.k, .int .i64 m.s, .int .i64 m.n, .int .i64 m.b, .int .i64 m.c, .int .i64 m.r, .int .i64 m.y, .int .i64 m.a, .bool m.t, .slice pl m.ls.length cl, .slice pn m.ns.length cn] 38)).cell? ⟨w1.heap.size + 1, 10, none⟩ = some (.int .i64 0) := hn0.cell 10
   have n11 : (wr.alloc (.cells #[.int .i64 m.k, .int .i64 m.s, .int .i64 m.n, .int .i64 m.b, .int .i64 m.c, .int .i64 m.r, .int .i64 m.y, .int .i64 m.a, .bool m.t, .slice pl m.ls.length cl, .slice pn m.ns.length cn] 38)).cell? ⟨w1.heap.size + 1, 11, none⟩ = some (.int .i64 0) := hn0.cell 11
   have n12 : (wr.alloc (.cells #[.int .i64 m.k, .int .i64 m.s, .int .i64 m.n, .int .i64 m.b, .int .i64 m.c, .int .i64 m.r, .int .i64 m.y, .int .i64 m.a, .bool m.t, .slice pl m.ls.length cl, .slice pn m.ns.length cn] 38)).cell? ⟨w1.heap.size + 1, 12, none⟩ = some (.bool false) := hn0.cell 12
   have n13 : (wr.alloc (.cells #[.int .i64 m.k, .int .i64 m.s, .int .i64 m.n, .int .i64 m.b, .int .i64 m.c, .int .i64 m.r, .int .i64 m.y, .int .i64 m.a, .bool m.t, .slice pl m.ls.length cl, .slice pn m.ns.length cn] 38)).cell? ⟨w1.heap.size + 1, 13, none⟩ = some (.slice none 0 0) := hn0.cell 13
   have n14 : (wr.alloc (.cells #[.int .i64 m.k, .int .i64 m.s, .int .i64 m.n, .int .i64 m.b, .int .i64 m.c, .int .i64 m.r, .int .i64 m.y, .int .i64 m.a, .bool m.t, .slice pl m.ls.length cl, .slice pn m.ns.length cn] 38)).cell? ⟨w1.heap.size + 1, 14, none⟩ = some (.slice none 0 0) := hn0.cell 14
   rw [hyl]
   clear ho hin hbw hyl hpk hcs HK hmq hki
   generalize hln : m.ls.length = nl at *
   generalize hnn : m.ns.length = nn at *
   have hw1 : wrap64 ((K : Int) + (k : Int)) = (K : Int) + (k : Int) := by have h1 := HKS.out; unfold wrap64; omega
   have hw2 : wrap64 ((K : Int) + (k : Int) + 1) = (K : Int) + (k : Int) + 1 := by have h1 := HKS.out; unfold wrap64; omega
   have HLN := Lib.hid hln
   have HNN := Lib.hid hnn
   clear hln hnn
   have HML : Hid (TRow encN wr (.slice pl nl cl) m.ls) := by show TRow _ _ _ _; rw [← HLN.out]; exact HM.out.ls
   have HMN : Hid (Row .i64 wr (.slice pn nn cn) m.ns) := by show Row _ _ _ _; rw [← HNN.out]; exact HM.out.ns
   have HSZ := Lib.hid HM.out.sz
   go_wp2_with fail
   have HN5 := Lib.hid (Blk.new' (wr.alloc (.cells #[.int .i64 m.k, .int .i64 m.s, .int .i64 m.n, .int .i64 m.b, .int .i64 m.c, .int .i64 m.r, .int .i64 m.y, .int .i64 m.a, .bool m.t, .slice pl nl cl, .slice pn nn cn] 38)) #[.int .i64 me, .int .i64 (j : Nat), .int .i64 0, .int .i64 q.2, .int .i64 0, .int .i64 0, .int .i64 0, .int .i64 0, .int .i64 0, .int .i64 0, .int .i64 0, .int .i64 0, .bool false, .slice none 0 0, .slice none 0 0] 45 (b := wr.heap.size + 1) (by simp))
   have C5 := Lib.hid (show Below wr.heap.size wr ((wr.alloc (.cells #[.int .i64 m.k, .int .i64 m.s, .int .i64 m.n, .int .i64 m.b, .int .i64 m.c, .int .i64 m.r, .int .i64 m.y, .int .i64 m.a, .bool m.t, .slice pl nl cl, .slice pn nn cn] 38)).alloc (.cells #[.int .i64 me, .int .i64 (j : Nat), .int .i64 0, .int .i64 q.2, .int .i64 0, .int .i64 0, .int .i64 0, .int .i64 0, .int .i64 0, .int .i64 0, .int .i64 0, .int .i64 0, .bool false, .slice none 0 0, .slice none 0 0] 45)) from (oneB wr _).trans ((oneB _ _).mono (by simp)))
   clear n0 n1 n2 n3 n4 n5 n6 n7 n8 n9 n10 n11 n12 n13 n14 c0 c1 c2 c3 c4 c5 c6 c7 c8 c9 c10
   refine (own_any m _ _ _ (HML.out.kept C5.out) (HMN.out.kept C5.out) HSZ.out).mono ?_
   rintro y w6 ⟨ul, un, rfl, ol, on, hb6⟩
   obtain ⟨ql, dl, rfl⟩ := ol.form
   obtain ⟨qn, dn, rfl⟩ := on.form
   have HOL := Lib.hid ol
   have HON := Lib.hid on
   have HX6 := kbq HN5 hb6
   have C6 := Lib.hid (C5.out.trans (hb6.mono C5.out.size))
   have HS5 : Hid (wr.heap.size + 1 < ((wr.alloc (.cells #[.int .i64 m.k, .int .i64 m.s, .int .i64 m.n, .int .i64 m.b, .int .i64 m.c, .int .i64 m.r, .int .i64 m.y, .int .i64 m.a, .bool m.t, .slice pl nl cl, .slice pn nn cn] 38)).alloc (.cells #[.int .i64 me, .int .i64 (j : Nat), .int .i64 0, .int .i64 q.2, .int .i64 0, .int .i64 0, .int .i64 0, .int .i64 0, .int .i64 0, .int .i64 0, .int .i64 0, .int .i64 0, .bool false, .slice none 0 0, .slice none 0 0] 45)).heap.size) := HN5.out.lt
   rw [HLN.out, HNN.out]
   unfold Msg.v
   generalize (wr.alloc (.cells #[.int .i64 m.k, .int .i64 m.s, .int .i64 m.n, .int .i64 m.b, .int .i64 m.c, .int .i64 m.r, .int .i64 m.y, .int .i64 m.a, .bool m.t, .slice pl nl cl, .slice pn nn cn] 38)).alloc (.cells #[.int .i64 me, .int .i64 (j : Nat), .int .i64 0, .int .i64 q.2, .int .i64 0, .int .i64 0, .int .i64 0, .int .i64 0, .int .i64 0, .int .i64 0, .int .i64 0, .int .i64 0, .bool false, .slice none 0 0, .slice none 0 0] 45) = w5 at *
   have hx6 := HX6.out.cell 2
   have hf6 := HX6.out.free 2
   clear ol on
   have HX7 : Hid (Blk (w6.setCell ⟨wr.heap.size + 1, 2, none⟩ (.int .i64 ((K : Int) + (k : Int) + 1))) (wr.heap.size + 1) (Value.int .i64 me :: .int .i64 (j : Nat) :: .int .i64 ((K : Int) + (k : Int) + 1) :: .int .i64 q.2 :: [.int .i64 0, .int .i64 0, .int .i64 0, .int .i64 0, .int .i64 0, .int .i64 0, .int .i64 0, .int .i64 0, .bool false, .slice none 0 0, .slice none 0 0]).toArray 45) := HX6.out.set 2 _
   have HC7 : Hid (Chg (wr.heap.size + 1) w6 (w6.setCell ⟨wr.heap.size + 1, 2, none⟩ (.int .i64 ((K : Int) + (k : Int) + 1)))) := (Chg.refl _ w6).set 2 _
   go_wp2_with (with_reducible refine stop_storeT 38 (.tmp 56) (.tmp 54) rfl ?_)
   generalize hN : (K : Int) + (k : Int) + 1 = N at *
   have HNE := Lib.hid hN
   clear hN hx6 hf6
   have C7 := Lib.hid (C6.out.trans (HC7.out.below (B := wr.heap.size) (by omega) C6.out.size))
   have HTH := Lib.hid (there_msg HX7.out rfl)
   have HKO := Lib.hid (KeepP.of_chg (P := fun b => b ≠ wr.heap.size + 1) HC7.out (fun h => h rfl))
   have HX8 := Lib.hid (blk_msg _ _ _ _ _ (#[.int .i64 m.k, .int .i64 m.s, .int .i64 m.n, .int .i64 m.b, .int .i64 m.c, .int .i64 m.r, .int .i64 m.y, .int .i64 m.a, .bool m.t, .slice ql nl dl, .slice qn nn dn] : Array Value).toList rfl rfl HX7.out)
   generalize w6.setCell ⟨wr.heap.size + 1, 2, none⟩ (.int .i64 N) = w7 at *
   have HC8 : Hid (Chg (wr.heap.size + 1) w7 (w7.setCells (wr.heap.size + 1) 4 (#[.int .i64 m.k, .int .i64 m.s, .int .i64 m.n, .int .i64 m.b, .int .i64 m.c, .int .i64 m.r, .int .i64 m.y, .int .i64 m.a, .bool m.t, .slice ql nl dl, .slice qn nn dn] : Array Value).toList)) := chg_putL _ _ _ _ _ (Chg.refl _ _)
   refine wpList_store_mid rfl 38 (.tmp 56) (.tmp 54) rfl (wr.heap.size + 1) 4 #[.int .i64 m.k, .int .i64 m.s, .int .i64 m.n, .int .i64 m.b, .int .i64 m.c, .int .i64 m.r, .int .i64 m.y, .int .i64 m.a, .bool m.t, .slice ql nl dl, .slice qn nn dn] rfl rfl HTH.out (infoM rfl) (all_oneCell_toArray (one11M _ _ _ _ _ _ _ _ _ _ _ _ _ _ _)) ?_
   have C8 := Lib.hid (C7.out.trans (HC8.out.below (B := wr.heap.size) (by omega) C7.out.size))
   have HK68 := Lib.hid (HKO.out.trans (KeepP.of_chg HC8.out (fun h => h rfl)))
   have HX8' : Hid (Blk (w7.setCells (wr.heap.size + 1) 4 (#[.int .i64 m.k, .int .i64 m.s, .int .i64 m.n, .int .i64 m.b, .int .i64 m.c, .int .i64 m.r, .int .i64 m.y, .int .i64 m.a, .bool m.t, .slice ql nl dl, .slice qn nn dn] : Array Value).toList) (wr.heap.size + 1) #[.int .i64 me, .int .i64 (j : Nat), .int .i64 N, .int .i64 q.2, .int .i64 m.k, .int .i64 m.s, .int .i64 m.n, .int .i64 m.b, .int .i64 m.c, .int .i64 m.r, .int .i64 m.y, .int .i64 m.a, .bool m.t, .slice ql nl dl, .slice qn nn dn] 45) := HX8.out
   clear HX8 HTH HKO HX7 HC7 HX6
   generalize World.setCells w7 _ _ _ = w8 at *
   have hx8 := HX8'.out
   have f0 : w8.cell? ⟨wr.heap.size + 1, 0, none⟩ = some (.int .i64 me) := hx8.cell 0
   have f1 : w8.cell? ⟨wr.heap.size + 1, 1, none⟩ = some (.int .i64 (j : Nat)) := hx8.cell 1
   have f2 : w8.cell? ⟨wr.heap.size + 1, 2, none⟩ = some (.int .i64 N) := hx8.cell 2
   have f3 : w8.cell? ⟨wr.heap.size + 1, 3, none⟩ = some (.int .i64 q.2) := hx8.cell 3
   have f4 : w8.cell? ⟨wr.heap.size + 1, 4, none⟩ = some (.int .i64 m.k) := hx8.cell 4
   have f5 : w8.cell? ⟨wr.heap.size + 1, 5, none⟩ = some (.int .i64 m.s) := hx8.cell 5
   have f6 : w8.cell? ⟨wr.heap.size + 1, 6, none⟩ = some (.int .i64 m.n) := hx8.cell 6
   have f7 : w8.cell? ⟨wr.heap.size + 1, 7, none⟩ = some (.int .i64 m.b) := hx8.cell 7
   have f8 : w8.cell? ⟨wr.heap.size + 1, 8, none⟩ = some (.int .i64 m.c) := hx8.cell 8
   have f9 : w8.cell? ⟨wr.heap.size + 1, 9, none⟩ = some (.int .i64 m.r) := hx8.cell 9
   have f10 : w8.cell? ⟨wr.heap.size + 1, 10, none⟩ = some (.int .i64 m.y) := hx8.cell 10
   have f11 : w8.cell? ⟨wr.heap.size + 1, 11, none⟩ = some (.int .i64 m.a) := hx8.cell 11
   have f12 : w8.cell? ⟨wr.heap.size + 1, 12, none⟩ = some (.bool m.t) := hx8.cell 12
   have f13 : w8.cell? ⟨wr.heap.size + 1, 13, none⟩ = some (.slice ql nl dl) := hx8.cell 13
   have f14 : w8.cell? ⟨wr.heap.size + 1, 14, none⟩ = some (.slice qn nn dn) := hx8.cell 14
   clear hx8
   have HO8 := Lib.hid (HO.out.later C8.out)
   have HO9 := Lib.hid (HO8.out.later (oneB w8 (.cells #[.int .i64 me, .int .i64 (j : Nat), .int .i64 N, .int .i64 q.2, .int .i64 m.k, .int .i64 m.s, .int .i64 m.n, .int .i64 m.b, .int .i64 m.c, .int .i64 m.r, .int .i64 m.y, .int .i64 m.a, .bool m.t, .slice ql nl dl, .slice qn nn dn] 45)))
   have HONE := Lib.hid (TRow.one_ encK (PkX.mk me j N q.2 (MsgX.mk m ql dl qn dn)) (Blk.new w8 #[.int .i64 me, .int .i64 (j : Nat), .int .i64 N, .int .i64 q.2, .int .i64 m.k, .int .i64 m.s, .int .i64 m.n, .int .i64 m.b, .int .i64 m.c, .int .i64 m.r, .int .i64 m.y, .int .i64 m.a, .bool m.t, .slice ql nl dl, .slice qn nn dn] 45) (by simp [encK, PkX.cells, MsgX.cells, Msg.cells, MsgX.vl, MsgX.vn, HLN.out, HNN.out]) (Nat.le_refl 1))
   have HB8 := Lib.hid (HBW.out.trans (C8.out.mono HBW.out.size))
   have HLI : Hid (∀ b, b < wr.heap.size → some b ≠ some w8.heap.size) := fun b hb e => by cases e; have := C8.out.size; omega
   go_wp2_with (at_builtin; with_reducible refine stop_appendT (.tmp 57) (.tmp 59) 40 rfl ?_)
   refine wpList_append_tg rfl (.tmp 57) (.tmp 59) 40 rfl 45 zeroVK 152 w3.heap.size eltK rfl (.slice pv k cv) (.slice (some ⟨w8.heap.size, 0, none⟩) 1 1) ys [PkX.mk me j N q.2 (MsgX.mk m ql dl qn dn)] rfl rfl HO9.out HONE.out (by have h1 := HYL.out; have h2 := HKS.out; simp; omega) (by have h1 := HYL.out; have h2 := HKS.out; simp; omega) (by have h1 := HB8.out.size; simp; omega) (ys ++ [PkX.mk me j N q.2 (MsgX.mk m ql dl qn dn)]) (k + 1) rfl (by rw [List.length_append, HYL.out]; rfl) ?_
   intro p9 c9 w9 ho9 hg9 hor9 hb9
   have HNX : Hid (PLoop P w3 me j q.2 K (q.1.drop K) (k + 1) (.slice p9 (k + 1) c9) w9) := by
    have hs9 : w8.heap.size + 1 ≤ w9.heap.size := by
     have h1 := ho9.lt
     have h2 := hg9.size
     simpa using h2
    have hsz8 : wr.heap.size ≤ w8.heap.size := C8.out.size
    refine ⟨_, ho9, ?_, ?_, (HB8.out.alloc HB8.out.size _).trans hb9⟩
    ·rw [List.map_append, HPK.out, HMQ.out, pkN_append]
     have hlt : ((q.1.drop K).take k).length = k := by rw [List.length_take, List.length_drop]; have h1 := HXN.out; have h2 := HLT.out; omega
     rw [hlt]
     have hNN : N = ((K + k + 1 : Nat) : Int) := by rw [← HNE.out]; omega
     rw [hNN]
     rfl
    ·intro y hy
     have hk89 : ∀ Q : Nat → Prop, (∀ b, Q b → some b ≠ (Value.slice pv k cv).ownBlock) → KeepP Q (w8.alloc (.cells #[.int .i64 me, .int .i64 (j : Nat), .int .i64 N, .int .i64 q.2, .int .i64 m.k, .int .i64 m.s, .int .i64 m.n, .int .i64 m.b, .int .i64 m.c, .int .i64 m.r, .int .i64 m.y, .int .i64 m.a, .bool m.t, .slice ql nl dl, .slice qn nn dn] 45)) w9 := fun Q hQ => KeepP.of_grown hg9 (by simpa using hs9) hQ
     have hne : ∀ b, b < w8.heap.size → (Value.slice pv k cv).ownBlock ≠ some b → (Value.slice p9 (k + 1) c9).ownBlock ≠ some b := by
      intro b hb h1 h2
      rcases hor9 with h3 | h3
      ·exact h1 (h3 ▸ h2)
      ·rw [h3] at h2
       simp at h2
       omega
     rcases List.mem_append.1 hy with hy | hy
     ·have h1 := (HIN.out y hy).mono (Q := fun b => (Value.slice pv k cv).ownBlock ≠ some b ∧ ((Value.slice p9 (k + 1) c9).ownBlock ≠ some b ∧ P b)) (fun b hb hp => ⟨hp.1, hne b (by omega) hp.1, hp.2⟩)
      have h2 := (h1.kept C8.out).kept (oneB w8 (.cells #[.int .i64 me, .int .i64 (j : Nat), .int .i64 N, .int .i64 q.2, .int .i64 m.k, .int .i64 m.s, .int .i64 m.n, .int .i64 m.b, .int .i64 m.c, .int .i64 m.r, .int .i64 m.y, .int .i64 m.a, .bool m.t, .slice ql nl dl, .slice qn nn dn] 45))
      exact (h2.keepP (hk89 _ (fun b hb e => hb.1 e.symm))).mono (fun b _ hp => hp.2)
     ·simp at hy
      subst hy
      have hQ : ∀ b, w5.heap.size ≤ b ∧ b < w6.heap.size → (Value.slice pv k cv).ownBlock ≠ some b ∧ ((Value.slice p9 (k + 1) c9).ownBlock ≠ some b ∧ (P b ∧ b ≠ wr.heap.size + 1)) := by
       intro b hb
       have h0 : (Value.slice pv k cv).ownBlock ≠ some b := fun e => by have h1 := HO.out.lt b e; have h2 := HS5.out; omega
       have h68 := HK68.out.1
       refine ⟨h0, hne b (by omega) h0, HPP.out b ?_, ?_⟩
       ·have h1 := HW1.out; have h2 := C13.out.size; have h3 := HBW.out.size; have h4 := HS5.out; omega
       ·have h4 := HS5.out; omega
      have h1 : (MsgX.mk m ql dl qn dn).InP (fun b => (Value.slice pv k cv).ownBlock ≠ some b ∧ ((Value.slice p9 (k + 1) c9).ownBlock ≠ some b ∧ (P b ∧ b ≠ wr.heap.size + 1))) w6 := ⟨HOL.out.row, HON.out.row, HOL.out.at_lt.imp hQ, HON.out.at_lt.imp hQ, HSZ.out⟩
      have h2 := h1.keepP (KeepP.trans (KeepP.weak HK68.out (fun b hb => hb.2.2.2)) (KeepP.of_below (oneB w8 (.cells #[.int .i64 me, .int .i64 (j : Nat), .int .i64 N, .int .i64 q.2, .int .i64 m.k, .int .i64 m.s, .int .i64 m.n, .int .i64 m.b, .int .i64 m.c, .int .i64 m.r, .int .i64 m.y, .int .i64 m.a, .bool m.t, .slice ql nl dl, .slice qn nn dn] 45))))
      exact (h2.keepP (hk89 _ (fun b hb e => hb.1 e.symm))).mono (fun b _ hp => ⟨hp.2.1, hp.2.2.1⟩)
   have hkb : k + 1 ≤ 2000 := by have h1 := HKS.out; omega
   clear ho9 hg9 hor9 hb9 f0 f1 f2 f3 f4 f5 f6 f7 f8 f9 f10 f11 f12 f13 f14
   go_wp2_with fail
   go_roundw
   case rel => exact ⟨k + 1, by omega, by go_num, HNX⟩
   case measure => simp [intOf]; omega
  ·have hlI : ((sn - K : Nat) : Int) ≤ (k : Int) := by omega
   have hkk : k = sn - K := by omega
   have hfin : PkRow P wr (.slice pv k cv) (pkN me j q.2 K (q.1.drop K)) := by
    refine ⟨ys, ho.row, ho.at_P (fun b hb => HPP.out b (by have h1 := HW1.out; have h2 := C13.out.size; omega)), (fun y hy => (hin y hy).mono (fun b _ hp => hp.2)), ?_⟩
    rw [hpk, hkk, List.take_of_length_le (by rw [List.length_drop]; have := HXN.out; omega)]
   have HFIN := Lib.hid hfin
   have HBF := ktq HB3 hbw
   rw [hyl]
   clear ho hin hbw hpk hfin hyl HK hkk
   go_wp2_with fail
   go_ret
   exact ⟨_, rfl, HFIN.out, HBF.out⟩
end Go.Proofs.Ytboplnhgafbgbaa
namespace Go.Proofs.Ytboplnhgafbgbaa
open Go.RowKit
set_option linter.unusedSimpArgs false
def msg7 : Msg := ⟨7, 0, 0, 0, 0, 0, 0, 0, false, [], []⟩
theorem msg7_sz : msg7.Sz := ⟨by decide, by decide⟩
theorem PkRow.mono {P Q : Nat → Prop} {w : World} {v : Value} {ks : List Pk} (h : PkRow P w v ks) (hq : ∀ b, b < w.heap.size → P b → Q b) : PkRow Q w v ks := by
 obtain ⟨ys, h1, h2, h3, h4⟩ := h
 exact ⟨ys, h1, fun b o n c e hn => hq b (by have h2 := h1; rw [e] at h2; exact h2.lt_ hn) (h2 b o n c e hn), fun y hy => (h3 y hy).mono hq, h4⟩
/-- Sessions in a block. -/
structure LV (P : Nat → Prop) (w : World) (g : Nat) (me : Int) (qs : List Pe) (p : Option Addr) (n c : Nat) : Prop where
 blk : Blk w g #[.int .i64 me, .slice p n c] 27
 row : PeRow P w (.slice p n c) qs
 len : n = qs.length
 off : ¬ P g
theorem LV.kept {P : Nat → Prop} {w w' : World} {g : Nat} {me : Int} {qs : List Pe} {p : Option Addr} {n c : Nat} (h : LV P w g me qs p n c) (hb : Below w.heap.size w w') : LV P w' g me qs p n c := ⟨h.blk.below hb h.blk.lt, h.row.kept hb, h.len, h.off⟩
theorem LV.chg {P : Nat → Prop} {w w' : World} {g k : Nat} {me : Int} {qs : List Pe} {p : Option Addr} {n c : Nat} (h : LV P w g me qs p n c) (hc : Chg k w w') (hk : ¬ P k) (hne : g ≠ k) : LV P w' g me qs p n c := ⟨h.blk.chg hc hne, h.row.keepP (KeepP.of_chg hc hk), h.len, h.off⟩
abbrev put2 (w : World) (g : Nat) (me : Int) (p : Option Addr) (n c : Nat) : World := (w.setCell ⟨g, 0, none⟩ (.int .i64 me)).setCell ⟨g, 1, none⟩ (.slice p n c)
theorem chg_put2 (w : World) (g : Nat) (me : Int) (p : Option Addr) (n c : Nat) : Chg g w (put2 w g me p n c) := ((Chg.refl g w).set 0 _).set 1 _
theorem LV.store {P : Nat → Prop} {w : World} {g : Nat} {me me0 : Int} {qs : List Pe} {p p0 : Option Addr} {n c n0 c0 : Nat} (hb : Blk w g #[.int .i64 me0, .slice p0 n0 c0] 27) (hr : PeRow P w (.slice p n c) qs) (hn : n = qs.length) (hg : ¬ P g) : LV P (put2 w g me p n c) g me qs p n c :=
 ⟨(hb.set 0 (.int .i64 me)).set 1 (.slice p n c), hr.keepP (KeepP.of_chg (chg_put2 _ _ _ _ _ _) hg), hn, hg⟩
theorem LV.fresh {P Q : Nat → Prop} {w : World} {me : Int} {qs : List Pe} {p : Option Addr} {n c : Nat} (hr : PeRow Q w (.slice p n c) qs) (hn : n = qs.length) (hq : ∀ b, b < w.heap.size → Q b → P b) (hg : ¬ P w.heap.size) : LV P (w.alloc (.cells #[.int .i64 me, .slice p n c] 27)) w.heap.size me qs p n c :=
 ⟨Blk.new _ _ _, (hr.mono hq).kept (oneB _ _), hn, hg⟩
set_option maxHeartbeats 8000000 in
set_option maxRecDepth 100000 in
theorem speaks_any (w : World) : Calls Try.prog 4 #[] w fun e w' => e = .returned (.bool true) ∧ Below w.heap.size w w' := by
 have HSAY : Hid (∀ (P : Nat → Prop) (p : Option Addr) (c : Nat) (w : World), PeRow P w (.slice p 2 c) (peers0 2) → (∀ b, w.heap.size ≤ b → P b) → Calls Try.prog 6 #[.agg #[.int .i64 0, .slice p 2 c], .int .i64 1, .agg #[.int .i64 7, .int .i64 0, .int .i64 0, .int .i64 0, .int .i64 0, .int .i64 0, .int .i64 0, .int .i64 0, .bool false, .slice none 0 0, .slice none 0 0]] w fun e w' => ∃ v, e = .returned (.tuple #[v, .int .i64 0]) ∧ Lnk P w' v 0 [([], 0), ([msg7], 0)] ∧ Below w.heap.size w w') := fun P p c w hr hP => say_ok P 0 1 p 2 c (peers0 2) msg7 (.slice none 0 0) (.slice none 0 0) w rfl hr (TRow.nil_ _ _) (Row.nil_ _ _ 0) msg7_sz (by decide) (by decide) (by decide) (by decide) hP
 have HPKS : Hid (∀ (P : Nat → Prop) (p : Option Addr) (c : Nat) (w : World), PeRow P w (.slice p 2 c) [([], 0), ([msg7], 0)] → (∀ b, w.heap.size ≤ b → P b) → Calls Try.prog 7 #[.agg #[.int .i64 0, .slice p 2 c], .int .i64 1, .int .i64 0] w fun e w' => ∃ v, e = .returned v ∧ PkRow P w' v [⟨0, 1, 1, 0, msg7⟩] ∧ Below w.heap.size w w') := fun P p c w hr hP => packets_many P 0 1 0 p 2 c [([], 0), ([msg7], 0)] w rfl hr (by decide) (by decide) (by decide) (by decide) hP
 have HNX1 : Hid (∀ (P : Nat → Prop) (p : Option Addr) (c : Nat) (w : World), PeRow P w (.slice p 2 c) (peers0 2) → Calls Try.prog 8 #[.agg #[.int .i64 1, .slice p 2 c], .int .i64 0, .int .i64 1] w fun e w' => e = .returned (.tuple #[.bool true, .bool false]) ∧ Below w.heap.size w w') := fun P p c w hr => next_any P 1 0 1 p 2 c (peers0 2) w rfl hr (by decide)
 have HHE : Hid (∀ (P : Nat → Prop) (p : Option Addr) (c : Nat) (w : World), PeRow P w (.slice p 2 c) (peers0 2) → (∀ b, w.heap.size ≤ b → P b) → Calls Try.prog 9 #[.agg #[.int .i64 1, .slice p 2 c], .int .i64 0] w fun e w' => ∃ v, e = .returned (.tuple #[v, .int .i64 0]) ∧ Lnk P w' v 1 [([], 1), ([], 0)] ∧ Below w.heap.size w w') := fun P p c w hr hP => hear_ok P 1 0 p 2 c (peers0 2) w rfl hr (by decide) (by decide) (by decide) (by decide) hP
 have HNX2 : Hid (∀ (P : Nat → Prop) (p : Option Addr) (c : Nat) (w : World), PeRow P w (.slice p 2 c) [([], 1), ([], 0)] → Calls Try.prog 8 #[.agg #[.int .i64 1, .slice p 2 c], .int .i64 0, .int .i64 1] w fun e w' => e = .returned (.tuple #[.bool false, .bool true]) ∧ Below w.heap.size w w') := fun P p c w hr => next_any P 1 0 1 p 2 c [([], 1), ([], 0)] w rfl hr (by decide)
 go_enter Try.func4, Try.ntmps4
 go_wp2_with fail
 refine (new_ok (fun _ => True) 0 2 w ⟨by decide, by decide, by decide, by decide⟩ (fun _ _ => trivial)).mono ?_
 rintro y w1 ⟨_, rfl, ⟨p1, c1, rfl, hp1⟩, hb1⟩
 rw [show (peers0 2).length = 2 from rfl] at hp1 ⊢
 have LA := Lib.hid (LV.fresh (P := fun b => b ≠ w1.heap.size) (me := 0) hp1 rfl (fun b hb _ => by omega) (by simp))
 have B1 := Lib.hid (hb1.alloc hb1.size (.cells #[.int .i64 0, .slice p1 2 c1] 27))
 clear hp1
 have HGA : Hid (w.heap.size ≤ w1.heap.size) := hb1.size
 clear hb1
 have hla := LA.out.blk
 have a0 : (w1.alloc (.cells #[.int .i64 0, .slice p1 2 c1] 27)).cell? ⟨w1.heap.size, 0, none⟩ = some (.int .i64 0) := hla.cell 0
 have a1 : (w1.alloc (.cells #[.int .i64 0, .slice p1 2 c1] 27)).cell? ⟨w1.heap.size, 1, none⟩ = some (.slice p1 2 c1) := hla.cell 1
 have af0 := hla.free 0
 have af1 := hla.free 1
 clear hla
 go_wp2_with fail
 clear a0 a1 af0 af1
 generalize w1.alloc (.cells #[.int .i64 0, .slice p1 2 c1] 27) = W1 at *
 generalize w1.heap.size = ga at *
 have hga := LA.out.blk.lt
 refine (HSAY.out (fun b => b ≠ ga) p1 c1 W1 LA.out.row (fun b hb => by omega)).mono ?_
 rintro y w2 ⟨_, rfl, ⟨p2, c2, rfl, hp2⟩, hb2⟩
 dsimp only [List.length_cons, List.length_nil, Nat.zero_add, Nat.reduceAdd] at hp2 ⊢
 have HBA := Lib.hid (LA.out.blk.below hb2 hga)
 have LA2 := Lib.hid (LV.store (me := 0) HBA.out hp2 rfl (by simp))
 have B2 := Lib.hid ((B1.out.trans (hb2.mono B1.out.size)).trans ((chg_put2 w2 ga 0 p2 2 c2).below (by have := HGA.out; omega) (B1.out.trans (hb2.mono B1.out.size)).size))
 have hba := HBA.out
 have d0 : w2.cell? ⟨ga, 0, none⟩ = some (.int .i64 0) := hba.cell 0
 have d1 : w2.cell? ⟨ga, 1, none⟩ = some (.slice p1 2 c1) := hba.cell 1
 have df0 := hba.free 0
 have df1 := hba.free 1
 clear hba hp2 hb2 hga
 have hla := LA2.out.blk
 have a0 : (put2 w2 ga 0 p2 2 c2).cell? ⟨ga, 0, none⟩ = some (.int .i64 0) := hla.cell 0
 have a1 : (put2 w2 ga 0 p2 2 c2).cell? ⟨ga, 1, none⟩ = some (.slice p2 2 c2) := hla.cell 1
 clear hla
 unfold put2 at a0 a1
 go_wp2_with fail
 clear a0 a1 d0 d1 df0 df1
 have HW2 : Hid (∀ W, put2 w2 ga 0 p2 2 c2 = W → put2 w2 ga 0 p2 2 c2 = W) := fun _ h => h
 unfold put2 at LA2 B2 HW2
 generalize (w2.setCell ⟨ga, 0, none⟩ (.int .i64 0)).setCell ⟨ga, 1, none⟩ (.slice p2 2 c2) = W2 at *
 clear HW2
 have hga := LA2.out.blk.lt
 refine (HPKS.out (fun b => b ≠ ga) p2 c2 W2 LA2.out.row (fun b hb => by omega)).mono ?_
 rintro y w3 ⟨v3, rfl, hk3, hb3⟩
 obtain ⟨p3, c3, rfl⟩ := hk3.shape
 dsimp only [List.length_cons, List.length_nil, Nat.zero_add, Nat.reduceAdd] at hk3 ⊢
 have B3 := Lib.hid (B2.out.trans (hb3.mono B2.out.size))
 have HK3 := Lib.hid hk3
 clear hk3 hb3 hga
 go_wp2_with fail
 refine (new_ok (fun _ => True) 1 2 w3 ⟨by decide, by decide, by decide, by decide⟩ (fun _ _ => trivial)).mono ?_
 rintro y w4 ⟨_, rfl, ⟨p4, c4, rfl, hp4⟩, hb4⟩
 rw [show (peers0 2).length = 2 from rfl] at hp4 ⊢
 have LB := Lib.hid (LV.fresh (P := fun b => b ≠ w4.heap.size) (me := 1) hp4 rfl (fun b hb _ => by omega) (by simp))
 have HK4 := Lib.hid ((HK3.out.mono (fun b _ h => trivial) (Q := fun _ => True)).kept hb4 |>.mono (Q := fun b => b ≠ w4.heap.size) (fun b hb _ => by omega))
 have HK4' := Lib.hid (HK4.out.kept (oneB w4 (.cells #[.int .i64 1, .slice p4 2 c4] 27)))
 have B4 := Lib.hid ((B3.out.trans (hb4.mono B3.out.size)).alloc (B3.out.trans (hb4.mono B3.out.size)).size (.cells #[.int .i64 1, .slice p4 2 c4] 27))
 have HGB : Hid (w.heap.size ≤ w4.heap.size) := (B3.out.trans (hb4.mono B3.out.size)).size
 clear hp4 hb4 HK4 HK3
 have hlb := LB.out.blk
 have a0 : (w4.alloc (.cells #[.int .i64 1, .slice p4 2 c4] 27)).cell? ⟨w4.heap.size, 0, none⟩ = some (.int .i64 1) := hlb.cell 0
 have a1 : (w4.alloc (.cells #[.int .i64 1, .slice p4 2 c4] 27)).cell? ⟨w4.heap.size, 1, none⟩ = some (.slice p4 2 c4) := hlb.cell 1
 have af0 := hlb.free 0
 have af1 := hlb.free 1
 clear hlb
 go_wp2_with fail
 clear a0 a1 af0 af1
 generalize w4.alloc (.cells #[.int .i64 1, .slice p4 2 c4] 27) = W4 at *
 generalize w4.heap.size = gb at *
 have hgb := LB.out.blk.lt
 refine (HNX1.out _ p4 c4 W4 LB.out.row).mono ?_
 rintro y w5 ⟨rfl, hb5⟩
 have LB5 := Lib.hid (LB.out.kept hb5)
 have HK5 := Lib.hid (HK4'.out.kept hb5)
 have B5 := Lib.hid (B4.out.trans (hb5.mono B4.out.size))
 clear hb5 LB HK4' hgb
 have hlb := LB5.out.blk
 have a0 : w5.cell? ⟨gb, 0, none⟩ = some (.int .i64 1) := hlb.cell 0
 have a1 : w5.cell? ⟨gb, 1, none⟩ = some (.slice p4 2 c4) := hlb.cell 1
 have af0 := hlb.free 0
 have af1 := hlb.free 1
 clear hlb
 go_wp2_with fail
 clear a0 a1 af0 af1
 have hgb := LB5.out.blk.lt
 refine (HHE.out (fun b => b ≠ gb) p4 c4 w5 LB5.out.row (fun b hb => by omega)).mono ?_
 rintro y w6 ⟨_, rfl, ⟨p6, c6, rfl, hp6⟩, hb6⟩
 dsimp only [List.length_cons, List.length_nil, Nat.zero_add, Nat.reduceAdd] at hp6 ⊢
 have HBB := Lib.hid (LB5.out.blk.below hb6 hgb)
 have LB6 := Lib.hid (LV.store (me := 1) HBB.out hp6 rfl (by simp))
 have HK6 := Lib.hid ((HK5.out.kept hb6).keepP (KeepP.of_chg (chg_put2 w6 gb 1 p6 2 c6) (by simp)))
 have B6 := Lib.hid ((B5.out.trans (hb6.mono B5.out.size)).trans ((chg_put2 w6 gb 1 p6 2 c6).below (by have := HGB.out; omega) (B5.out.trans (hb6.mono B5.out.size)).size))
 have hba := HBB.out
 have d0 : w6.cell? ⟨gb, 0, none⟩ = some (.int .i64 1) := hba.cell 0
 have d1 : w6.cell? ⟨gb, 1, none⟩ = some (.slice p4 2 c4) := hba.cell 1
 have df0 := hba.free 0
 have df1 := hba.free 1
 clear hba hp6 hb6 hgb
 have hla := LB6.out.blk
 have a0 : (put2 w6 gb 1 p6 2 c6).cell? ⟨gb, 0, none⟩ = some (.int .i64 1) := hla.cell 0
 have a1 : (put2 w6 gb 1 p6 2 c6).cell? ⟨gb, 1, none⟩ = some (.slice p6 2 c6) := hla.cell 1
 clear hla
 unfold put2 at a0 a1
 go_wp2_with fail
 clear a0 a1 d0 d1 df0 df1
 unfold put2 at LB6 B6 HK6
 generalize (w6.setCell ⟨gb, 0, none⟩ (.int .i64 1)).setCell ⟨gb, 1, none⟩ (.slice p6 2 c6) = W6 at *
 refine (HNX2.out _ p6 c6 W6 LB6.out.row).mono ?_
 rintro y w7 ⟨rfl, hb7⟩
 obtain ⟨ys, hy1, _, hy3, hy4⟩ := HK6.out.kept hb7
 have B7 := Lib.hid (B6.out.trans (hb7.mono B6.out.size))
 have hyl : ys.length = 1 := by have := congrArg List.length hy4; simpa using this
 obtain ⟨b, o, rfl, _, hc⟩ := hy1.at_ 0 (by omega)
 have hy0 : ys[0].pk = ⟨0, 1, 1, 0, msg7⟩ := by
  have := congrArg (fun l => l[0]?) hy4
  simpa [hyl] using this
 have hyn : ys[0].n = 1 := by have := congrArg Pk.n hy0; exact this
 have hym : ys[0].x.m.k = 7 := by have := congrArg (fun (p : Pk) => p.m.k) hy0; exact this
 have c2 : w7.cell? ⟨b, o + 2, none⟩ = some (.int .i64 1) := by have := hc 2 (by decide); rw [Nat.zero_mul, Nat.add_zero] at this; rw [this, ← hyn]; rfl
 have c4 : w7.cell? ⟨b, o + 4, none⟩ = some (.int .i64 7) := by have := hc 4 (by decide); rw [Nat.zero_mul, Nat.add_zero] at this; rw [this, ← hym]; rfl
 clear hy1 hy3 hy4 hc hb7 hy0 hyn hym hyl
 go_wp2_with fail
 go_ret
 exact ⟨rfl, B7.out⟩
end Go.Proofs.Ytboplnhgafbgbaa
namespace Go.Proofs.Ytboplnhgafbgbaa
open Go.RowKit
set_option linter.unusedSimpArgs false
/-- The two nodes' sessions: node 0's ahead of node 1's, in block g; their lists in blocks of P. -/
structure LB (P : Nat → Prop) (w : World) (g : Nat) (p0 : Option Addr) (c0 : Nat) (p1 : Option Addr) (c1 : Nat) (q0 q1 : List Pe) : Prop where
 blk : Blk w g #[.int .i64 0, .slice p0 2 c0, .int .i64 1, .slice p1 2 c1] 28
 row0 : PeRow P w (.slice p0 2 c0) q0
 row1 : PeRow P w (.slice p1 2 c1) q1
 off : ¬ P g
theorem LB.kept {P : Nat → Prop} {w w' : World} {g : Nat} {p0 : Option Addr} {c0 : Nat} {p1 : Option Addr} {c1 : Nat} {q0 q1 : List Pe} (h : LB P w g p0 c0 p1 c1 q0 q1) (hb : Below w.heap.size w w') : LB P w' g p0 c0 p1 c1 q0 q1 := ⟨h.blk.below hb h.blk.lt, h.row0.kept hb, h.row1.kept hb, h.off⟩
theorem LB.lt {P : Nat → Prop} {w : World} {g : Nat} {p0 : Option Addr} {c0 : Nat} {p1 : Option Addr} {c1 : Nat} {q0 q1 : List Pe} (h : LB P w g p0 c0 p1 c1 q0 q1) : g < w.heap.size := h.blk.lt
/-- The world behind a store of the sessions of node k (at cell 2 k). -/
abbrev put4 (w : World) (g k : Nat) (me : Int) (p : Option Addr) (c : Nat) : World := (w.setCell ⟨g, 2 * k, none⟩ (.int .i64 me)).setCell ⟨g, 2 * k + 1, none⟩ (.slice p 2 c)
theorem chg_put4 (w : World) (g k : Nat) (me : Int) (p : Option Addr) (c : Nat) : Chg g w (put4 w g k me p c) := ((Chg.refl g w).set (2 * k) _).set (2 * k + 1) _
theorem LB.store0 {P : Nat → Prop} {w : World} {g : Nat} {p0 p : Option Addr} {c0 c : Nat} {p1 : Option Addr} {c1 : Nat} {q1 q : List Pe} (hb : Blk w g #[.int .i64 0, .slice p0 2 c0, .int .i64 1, .slice p1 2 c1] 28) (hr : PeRow P w (.slice p 2 c) q) (h1 : PeRow P w (.slice p1 2 c1) q1) (hg : ¬ P g) : LB P (put4 w g 0 0 p c) g p c p1 c1 q q1 :=
 ⟨(hb.set 0 (.int .i64 0)).set 1 (.slice p 2 c), hr.keepP (KeepP.of_chg (chg_put4 _ _ _ _ _ _) hg), h1.keepP (KeepP.of_chg (chg_put4 _ _ _ _ _ _) hg), hg⟩
theorem LB.store1 {P : Nat → Prop} {w : World} {g : Nat} {p0 p : Option Addr} {c0 c : Nat} {p1 : Option Addr} {c1 : Nat} {q0 q : List Pe} (hb : Blk w g #[.int .i64 0, .slice p0 2 c0, .int .i64 1, .slice p1 2 c1] 28) (hr : PeRow P w (.slice p 2 c) q) (h0 : PeRow P w (.slice p0 2 c0) q0) (hg : ¬ P g) : LB P (put4 w g 1 1 p c) g p0 c0 p c q0 q :=
 ⟨(hb.set 2 (.int .i64 1)).set 3 (.slice p 2 c), h0.keepP (KeepP.of_chg (chg_put4 _ _ _ _ _ _) hg), hr.keepP (KeepP.of_chg (chg_put4 _ _ _ _ _ _) hg), hg⟩
/-- What node 0, node 1 has said to the other one, and how much it has heard. -/
def qn0 (ms : List Msg) (h : Int) : List Pe := [([], 0), (ms, h)]
def qn1 (ms : List Msg) (h : Int) : List Pe := [(ms, h), ([], 0)]
/-- The cell that tells how much was heard. -/
theorem PeRow.heard {P : Nat → Prop} {w : World} {p : Option Addr} {n c : Nat} {qs : List Pe} (h : PeRow P w (.slice p n c) qs) (i : Nat) (hi : i < qs.length) : ∃ b o, p = some ⟨b, o, none⟩ ∧ b < w.heap.size ∧ w.cell? ⟨b, o + i * 2 + 1, none⟩ = some (.int .i64 (qs[i]).2) := by
 obtain ⟨xs, h1, _, h3, h4⟩ := h
 have hx : i < xs.length := by omega
 obtain ⟨b, o, rfl, hb, hc⟩ := h1.at_ i hx
 refine ⟨b, o, rfl, hb, ?_⟩
 have := hc 1 (by decide)
 rw [← (h4 i hx hi).1]
 exact this
end Go.Proofs.Ytboplnhgafbgbaa
namespace Go.Proofs.Ytboplnhgafbgbaa
open Go.RowKit
set_option linter.unusedSimpArgs false
theorem rowi_at {k : IntKind} {w : World} {p : Option Addr} {n c : Nat} {zs : List Int} (h : Row k w (.slice p n c) zs) (j : Nat) (hj : j < zs.length) : ∃ b o, p = some ⟨b, o, none⟩ ∧ w.cell? ⟨b, o + j, none⟩ = some (.int k (zs.getD j 0)) := by
 obtain ⟨p', c', e1, _, h⟩ := h
 cases e1
 rcases h with h | ⟨b, o, hp, h⟩
 ·subst h; simp at hj
 ·exact ⟨b, o, hp, h j hj⟩
set_option maxHeartbeats 8000000 in
set_option maxRecDepth 100000 in
theorem msame_any (m : Msg) (va vb ua ub : Value) (w : World) (ha : TRow encN w va m.ls) (hb : Row .i64 w vb m.ns) (hc : TRow encN w ua m.ls) (hd : Row .i64 w ub m.ns) (hl : m.ls.length ≤ 9000000000000000000) (hn : m.ns.length ≤ 9000000000000000000) :
  Calls Try.prog 10 #[m.v va vb, m.v ua ub] w fun e w' => e = .returned (.bool true) ∧ Below w.heap.size w w' := by
 obtain ⟨pa, ca, rfl⟩ := ha.shape
 obtain ⟨pb, cb, rfl⟩ := hb.shape
 obtain ⟨qa, da, rfl⟩ := hc.shape
 obtain ⟨qb, db, rfl⟩ := hd.shape
 have HA := Lib.hid ha
 have HB := Lib.hid hb
 have HC := Lib.hid hc
 have HD := Lib.hid hd
 clear ha hb hc hd
 generalize hll : m.ls.length = nl at *
 generalize hnl : m.ns.length = nn at *
 have HLL := Lib.hid hll
 have HNN := Lib.hid hnl
 clear hll hnl
 unfold Msg.v
 go_enter Try.func10, Try.ntmps10
 go_wp2_with fail
 have s1 : (w.alloc (.cells #[.int .i64 m.k, .int .i64 m.s, .int .i64 m.n, .int .i64 m.b, .int .i64 m.c, .int .i64 m.r, .int .i64 m.y, .int .i64 m.a, .bool m.t, .slice pa nl ca, .slice pb nn cb] 38)).heap.size = w.heap.size + 1 := by simp
 have HB2 : Hid (Below w.heap.size w ((w.alloc (.cells #[.int .i64 m.k, .int .i64 m.s, .int .i64 m.n, .int .i64 m.b, .int .i64 m.c, .int .i64 m.r, .int .i64 m.y, .int .i64 m.a, .bool m.t, .slice pa nl ca, .slice pb nn cb] 38)).alloc (.cells #[.int .i64 m.k, .int .i64 m.s, .int .i64 m.n, .int .i64 m.b, .int .i64 m.c, .int .i64 m.r, .int .i64 m.y, .int .i64 m.a, .bool m.t, .slice qa nl da, .slice qb nn db] 38))) := (oneB w _).trans ((oneB _ _).mono (by omega))
 have HK1 := Lib.hid ((Blk.new w (#[.int .i64 m.k, .int .i64 m.s, .int .i64 m.n, .int .i64 m.b, .int .i64 m.c, .int .i64 m.r, .int .i64 m.y, .int .i64 m.a, .bool m.t, .slice pa nl ca, .slice pb nn cb]) 38).alloc (.cells #[.int .i64 m.k, .int .i64 m.s, .int .i64 m.n, .int .i64 m.b, .int .i64 m.c, .int .i64 m.r, .int .i64 m.y, .int .i64 m.a, .bool m.t, .slice qa nl da, .slice qb nn db] 38))
 have HK2 : Hid (Blk ((w.alloc (.cells #[.int .i64 m.k, .int .i64 m.s, .int .i64 m.n, .int .i64 m.b, .int .i64 m.c, .int .i64 m.r, .int .i64 m.y, .int .i64 m.a, .bool m.t, .slice pa nl ca, .slice pb nn cb] 38)).alloc (.cells #[.int .i64 m.k, .int .i64 m.s, .int .i64 m.n, .int .i64 m.b, .int .i64 m.c, .int .i64 m.r, .int .i64 m.y, .int .i64 m.a, .bool m.t, .slice qa nl da, .slice qb nn db] 38)) (w.heap.size + 1) #[.int .i64 m.k, .int .i64 m.s, .int .i64 m.n, .int .i64 m.b, .int .i64 m.c, .int .i64 m.r, .int .i64 m.y, .int .i64 m.a, .bool m.t, .slice qa nl da, .slice qb nn db] 38) := by
  show Blk _ _ _ _
  rw [← s1]; exact Blk.new _ _ _
 generalize hW2 : (w.alloc (.cells #[.int .i64 m.k, .int .i64 m.s, .int .i64 m.n, .int .i64 m.b, .int .i64 m.c, .int .i64 m.r, .int .i64 m.y, .int .i64 m.a, .bool m.t, .slice pa nl ca, .slice pb nn cb] 38)).alloc (.cells #[.int .i64 m.k, .int .i64 m.s, .int .i64 m.n, .int .i64 m.b, .int .i64 m.c, .int .i64 m.r, .int .i64 m.y, .int .i64 m.a, .bool m.t, .slice qa nl da, .slice qb nn db] 38) = W2 at *
 clear hW2 s1
 generalize hg1 : w.heap.size = g1 at *
 have HG1 := Lib.hid hg1
 clear hg1
 generalize hg2 : g1 + 1 = g2 at *
 clear hg2
 go_loopw [5] (fun i wr => ∃ k : Nat, k ≤ nl ∧ i = .int .i64 k ∧ Hid (Below W2.heap.size W2 wr)) (fun i _ => nl - (intOf i).toNat)
 case atStart => exact ⟨0, by omega, rfl, Below.refl _ _⟩
 case round =>
  obtain ⟨k, hk, rfl, HW⟩ := hrel
  have a9 : wr.cell? ⟨g1, 9, none⟩ = some (.slice pa nl ca) := (HK1.out.below HW.out HK1.out.lt).cell 9
  have b9 : wr.cell? ⟨g2, 9, none⟩ = some (.slice qa nl da) := (HK2.out.below HW.out HK2.out.lt).cell 9
  by_cases hlt : k < nl
  ·have hltI : (k : Int) < (nl : Int) := by omega
   have hkl : k < m.ls.length := by rw [HLL.out]; exact hlt
   obtain ⟨b, o, rfl, hbl, hcs⟩ := ((HA.out.kept (HG1.out.symm ▸ HB2.out)).kept HW.out).at_ k hkl
   obtain ⟨b', o', rfl, hbl', hcs'⟩ := ((HC.out.kept (HG1.out.symm ▸ HB2.out)).kept HW.out).at_ k hkl
   generalize m.ls[k] = x at *
   have c0 : wr.cell? ⟨b, o + k * 4, none⟩ = some (.int .i64 x.s) := hcs 0 (by decide)
   have c1 : wr.cell? ⟨b, o + k * 4 + 1, none⟩ = some (.int .i64 x.n) := hcs 1 (by decide)
   have c2 : wr.cell? ⟨b, o + k * 4 + 2, none⟩ = some (.int .i64 x.b) := hcs 2 (by decide)
   have c3 : wr.cell? ⟨b, o + k * 4 + 3, none⟩ = some (.int .i64 x.a) := hcs 3 (by decide)
   have d0 : wr.cell? ⟨b', o' + k * 4, none⟩ = some (.int .i64 x.s) := hcs' 0 (by decide)
   have d1 : wr.cell? ⟨b', o' + k * 4 + 1, none⟩ = some (.int .i64 x.n) := hcs' 1 (by decide)
   have d2 : wr.cell? ⟨b', o' + k * 4 + 2, none⟩ = some (.int .i64 x.b) := hcs' 2 (by decide)
   have d3 : wr.cell? ⟨b', o' + k * 4 + 3, none⟩ = some (.int .i64 x.a) := hcs' 3 (by decide)
   clear hcs hcs'
   go_upto_region 6 with fail
   refine wp_region_held_drew (S := fun w' => w' = wr.drew) (by kernel_rfl) rfl (fun hS0 => ?_)
   refine wpAnyH_take (i := 0) (v := ?_) rfl (by kernel_rfl) (by kernel_rfl) (by kernel_rfl) (fun _ _ _ h => h) (Or.inl ⟨by kernel_rfl, ?_⟩) (by first | assumption | trivial) ?_
   rotate_left
   ·intro w hSw
    try dsimp only at hSw
    subst hSw
    first | (go_simp; done) | (go_simp; with_reducible rfl)
   try simp only [Act.put, List.getElem_toArray, List.getElem_cons_succ, List.getElem_cons_zero, List.setIfInBounds_toArray, List.set_cons_zero, List.set_cons_succ]
   refine wpAnyH_take (i := 1) (v := ?_) rfl (by kernel_rfl) (by kernel_rfl) (by kernel_rfl) (fun _ _ _ h => h) (Or.inl ⟨by kernel_rfl, ?_⟩) (by first | assumption | trivial) ?_
   rotate_left
   ·intro w hSw
    try dsimp only at hSw
    subst hSw
    first | (go_simp; done) | (go_simp; with_reducible rfl)
   try simp only [Act.put, List.getElem_toArray, List.getElem_cons_succ, List.getElem_cons_zero, List.setIfInBounds_toArray, List.set_cons_zero, List.set_cons_succ]
   refine wpAnyH_take (i := 2) (v := ?_) rfl (by kernel_rfl) (by kernel_rfl) (by kernel_rfl) (fun _ _ _ h => h) (Or.inl ⟨by kernel_rfl, ?_⟩) (by first | assumption | trivial) ?_
   rotate_left
   ·intro w hSw
    try dsimp only at hSw
    subst hSw
    first | (go_simp; done) | (go_simp; with_reducible rfl)
   try simp only [Act.put, List.getElem_toArray, List.getElem_cons_succ, List.getElem_cons_zero, List.setIfInBounds_toArray, List.set_cons_zero, List.set_cons_succ]
   refine wpAnyH_take (i := 3) (v := ?_) rfl (by kernel_rfl) (by kernel_rfl) (by kernel_rfl) (fun _ _ _ h => h) (Or.inl ⟨by kernel_rfl, ?_⟩) (by first | assumption | trivial) ?_
   rotate_left
   ·intro w hSw
    try dsimp only at hSw
    subst hSw
    first | (go_simp; done) | (go_simp; with_reducible rfl)
   try simp only [Act.put, List.getElem_toArray, List.getElem_cons_succ, List.getElem_cons_zero, List.setIfInBounds_toArray, List.set_cons_zero, List.set_cons_succ]
   refine wpAnyH_take (i := 4) (v := ?_) rfl (by kernel_rfl) (by kernel_rfl) (by kernel_rfl) (fun _ _ _ h => h) (Or.inl ⟨by kernel_rfl, ?_⟩) (by first | assumption | trivial) ?_
   rotate_left
   ·intro w hSw
    try dsimp only at hSw
    subst hSw
    first | (go_simp; done) | (go_simp; with_reducible rfl)
   try simp only [Act.put, List.getElem_toArray, List.getElem_cons_succ, List.getElem_cons_zero, List.setIfInBounds_toArray, List.set_cons_zero, List.set_cons_succ]
   refine wpAnyH_take (i := 5) (v := ?_) rfl (by kernel_rfl) (by kernel_rfl) (by kernel_rfl) (fun _ _ _ h => h) (Or.inl ⟨by kernel_rfl, ?_⟩) (by first | assumption | trivial) ?_
   rotate_left
   ·intro w hSw
    try dsimp only at hSw
    subst hSw
    first | (go_simp; done) | (go_simp; with_reducible rfl)
   try simp only [Act.put, List.getElem_toArray, List.getElem_cons_succ, List.getElem_cons_zero, List.setIfInBounds_toArray, List.set_cons_zero, List.set_cons_succ]
   refine wpAnyH_take (i := 6) (v := ?_) rfl (by kernel_rfl) (by kernel_rfl) (by kernel_rfl) (fun _ _ _ h => h) (Or.inl ⟨by kernel_rfl, ?_⟩) (by first | assumption | trivial) ?_
   rotate_left
   ·intro w hSw
    try dsimp only at hSw
    subst hSw
    first | (go_simp; done) | (go_simp; with_reducible rfl)
   try simp only [Act.put, List.getElem_toArray, List.getElem_cons_succ, List.getElem_cons_zero, List.setIfInBounds_toArray, List.set_cons_zero, List.set_cons_succ]
   refine wpAnyH_take (i := 7) (v := ?_) rfl (by kernel_rfl) (by kernel_rfl) (by kernel_rfl) (fun _ _ _ h => h) (Or.inl ⟨by kernel_rfl, ?_⟩) (by first | assumption | trivial) ?_
   rotate_left
   ·intro w hSw
    try dsimp only at hSw
    subst hSw
    first | (go_simp; done) | (go_simp; with_reducible rfl)
   try simp only [Act.put, List.getElem_toArray, List.getElem_cons_succ, List.getElem_cons_zero, List.setIfInBounds_toArray, List.set_cons_zero, List.set_cons_succ]
   refine wpAnyH_take (i := 8) (v := ?_) rfl (by kernel_rfl) (by kernel_rfl) (by kernel_rfl) (fun _ _ _ h => h) (Or.inl ⟨by kernel_rfl, ?_⟩) (by first | assumption | trivial) ?_
   rotate_left
   ·intro w hSw
    try dsimp only at hSw
    subst hSw
    first | (go_simp; done) | (go_simp; with_reducible rfl)
   try simp only [Act.put, List.getElem_toArray, List.getElem_cons_succ, List.getElem_cons_zero, List.setIfInBounds_toArray, List.set_cons_zero, List.set_cons_succ]
   refine wpAnyH_take (i := 9) (v := ?_) rfl (by kernel_rfl) (by kernel_rfl) (by kernel_rfl) (fun _ _ _ h => h) (Or.inl ⟨by kernel_rfl, ?_⟩) (by first | assumption | trivial) ?_
   rotate_left
   ·intro w hSw
    try dsimp only at hSw
    subst hSw
    first | (go_simp; done) | (go_simp; with_reducible rfl)
   try simp only [Act.put, List.getElem_toArray, List.getElem_cons_succ, List.getElem_cons_zero, List.setIfInBounds_toArray, List.set_cons_zero, List.set_cons_succ]
   refine wpAnyH_take (i := 10) (v := ?_) rfl (by kernel_rfl) (by kernel_rfl) (by kernel_rfl) (fun _ _ _ h => h) (Or.inl ⟨by kernel_rfl, ?_⟩) (by first | assumption | trivial) ?_
   rotate_left
   ·intro w hSw
    try dsimp only at hSw
    subst hSw
    first | (go_simp; done) | (go_simp; with_reducible rfl)
   try simp only [Act.put, List.getElem_toArray, List.getElem_cons_succ, List.getElem_cons_zero, List.setIfInBounds_toArray, List.set_cons_zero, List.set_cons_succ]
   refine wpAnyH_done (by kernel_rfl) ?_ _
   go_wp2_with fail
   go_roundw
   case rel => exact ⟨k + 1, by omega, by go_num, HW.out.drew⟩
   case measure => simp [intOf]; omega
  ·have hle : (nl : Int) ≤ (k : Int) := by omega
   have HW3 := HW
   go_wp2_with fail
   go_loopw [6] (fun i wr => ∃ k : Nat, k ≤ nn ∧ i = .int .i64 k ∧ Hid (Below W2.heap.size W2 wr)) (fun i _ => nn - (intOf i).toNat)
   case atStart => exact ⟨0, by omega, rfl, HW3.out⟩
   case round =>
    obtain ⟨j, hj, rfl, HW⟩ := hrel
    have a10 : wr.cell? ⟨g1, 10, none⟩ = some (.slice pb nn cb) := (HK1.out.below HW.out HK1.out.lt).cell 10
    have b10 : wr.cell? ⟨g2, 10, none⟩ = some (.slice qb nn db) := (HK2.out.below HW.out HK2.out.lt).cell 10
    by_cases hlt : j < nn
    ·have hltI : (j : Int) < (nn : Int) := by omega
     have hjl : j < m.ns.length := by rw [HNN.out]; exact hlt
     obtain ⟨b, o, rfl, c0⟩ := rowi_at ((HB.out.kept (HG1.out.symm ▸ HB2.out)).kept HW.out) j hjl
     obtain ⟨b', o', rfl, d0⟩ := rowi_at ((HD.out.kept (HG1.out.symm ▸ HB2.out)).kept HW.out) j hjl
     generalize m.ns.getD j 0 = z at *
     go_upto_region 11 with fail
     refine wp_region_held_drew (S := fun w' => w' = wr.drew) (by kernel_rfl) rfl (fun hS0 => ?_)
     refine wpAnyH_take (i := 0) (v := ?_) rfl (by kernel_rfl) (by kernel_rfl) (by kernel_rfl) (fun _ _ _ h => h) (Or.inl ⟨by kernel_rfl, ?_⟩) (by first | assumption | trivial) ?_
     rotate_left
     ·intro w hSw
      try dsimp only at hSw
      subst hSw
      first | (go_simp; done) | (go_simp; with_reducible rfl)
     try simp only [Act.put, List.getElem_toArray, List.getElem_cons_succ, List.getElem_cons_zero, List.setIfInBounds_toArray, List.set_cons_zero, List.set_cons_succ]
     refine wpAnyH_take (i := 1) (v := ?_) rfl (by kernel_rfl) (by kernel_rfl) (by kernel_rfl) (fun _ _ _ h => h) (Or.inl ⟨by kernel_rfl, ?_⟩) (by first | assumption | trivial) ?_
     rotate_left
     ·intro w hSw
      try dsimp only at hSw
      subst hSw
      first | (go_simp; done) | (go_simp; with_reducible rfl)
     try simp only [Act.put, List.getElem_toArray, List.getElem_cons_succ, List.getElem_cons_zero, List.setIfInBounds_toArray, List.set_cons_zero, List.set_cons_succ]
     refine wpAnyH_take (i := 2) (v := ?_) rfl (by kernel_rfl) (by kernel_rfl) (by kernel_rfl) (fun _ _ _ h => h) (Or.inl ⟨by kernel_rfl, ?_⟩) (by first | assumption | trivial) ?_
     rotate_left
     ·intro w hSw
      try dsimp only at hSw
      subst hSw
      first | (go_simp; done) | (go_simp; with_reducible rfl)
     try simp only [Act.put, List.getElem_toArray, List.getElem_cons_succ, List.getElem_cons_zero, List.setIfInBounds_toArray, List.set_cons_zero, List.set_cons_succ]
     refine wpAnyH_take (i := 3) (v := ?_) rfl (by kernel_rfl) (by kernel_rfl) (by kernel_rfl) (fun _ _ _ h => h) (Or.inl ⟨by kernel_rfl, ?_⟩) (by first | assumption | trivial) ?_
     rotate_left
     ·intro w hSw
      try dsimp only at hSw
      subst hSw
      first | (go_simp; done) | (go_simp; with_reducible rfl)
     try simp only [Act.put, List.getElem_toArray, List.getElem_cons_succ, List.getElem_cons_zero, List.setIfInBounds_toArray, List.set_cons_zero, List.set_cons_succ]
     refine wpAnyH_take (i := 4) (v := ?_) rfl (by kernel_rfl) (by kernel_rfl) (by kernel_rfl) (fun _ _ _ h => h) (Or.inl ⟨by kernel_rfl, ?_⟩) (by first | assumption | trivial) ?_
     rotate_left
     ·intro w hSw
      try dsimp only at hSw
      subst hSw
      first | (go_simp; done) | (go_simp; with_reducible rfl)
     try simp only [Act.put, List.getElem_toArray, List.getElem_cons_succ, List.getElem_cons_zero, List.setIfInBounds_toArray, List.set_cons_zero, List.set_cons_succ]
     refine wpAnyH_take (i := 5) (v := ?_) rfl (by kernel_rfl) (by kernel_rfl) (by kernel_rfl) (fun _ _ _ h => h) (Or.inl ⟨by kernel_rfl, ?_⟩) (by first | assumption | trivial) ?_
     rotate_left
     ·intro w hSw
      try dsimp only at hSw
      subst hSw
      first | (go_simp; done) | (go_simp; with_reducible rfl)
     try simp only [Act.put, List.getElem_toArray, List.getElem_cons_succ, List.getElem_cons_zero, List.setIfInBounds_toArray, List.set_cons_zero, List.set_cons_succ]
     refine wpAnyH_take (i := 6) (v := ?_) rfl (by kernel_rfl) (by kernel_rfl) (by kernel_rfl) (fun _ _ _ h => h) (Or.inl ⟨by kernel_rfl, ?_⟩) (by first | assumption | trivial) ?_
     rotate_left
     ·intro w hSw
      try dsimp only at hSw
      subst hSw
      first | (go_simp; done) | (go_simp; with_reducible rfl)
     try simp only [Act.put, List.getElem_toArray, List.getElem_cons_succ, List.getElem_cons_zero, List.setIfInBounds_toArray, List.set_cons_zero, List.set_cons_succ]
     refine wpAnyH_take (i := 7) (v := ?_) rfl (by kernel_rfl) (by kernel_rfl) (by kernel_rfl) (fun _ _ _ h => h) (Or.inl ⟨by kernel_rfl, ?_⟩) (by first | assumption | trivial) ?_
     rotate_left
     ·intro w hSw
      try dsimp only at hSw
      subst hSw
      first | (go_simp; done) | (go_simp; with_reducible rfl)
     try simp only [Act.put, List.getElem_toArray, List.getElem_cons_succ, List.getElem_cons_zero, List.setIfInBounds_toArray, List.set_cons_zero, List.set_cons_succ]
     refine wpAnyH_take (i := 8) (v := ?_) rfl (by kernel_rfl) (by kernel_rfl) (by kernel_rfl) (fun _ _ _ h => h) (Or.inl ⟨by kernel_rfl, ?_⟩) (by first | assumption | trivial) ?_
     rotate_left
     ·intro w hSw
      try dsimp only at hSw
      subst hSw
      first | (go_simp; done) | (go_simp; with_reducible rfl)
     try simp only [Act.put, List.getElem_toArray, List.getElem_cons_succ, List.getElem_cons_zero, List.setIfInBounds_toArray, List.set_cons_zero, List.set_cons_succ]
     refine wpAnyH_take (i := 9) (v := ?_) rfl (by kernel_rfl) (by kernel_rfl) (by kernel_rfl) (fun _ _ _ h => h) (Or.inl ⟨by kernel_rfl, ?_⟩) (by first | assumption | trivial) ?_
     rotate_left
     ·intro w hSw
      try dsimp only at hSw
      subst hSw
      first | (go_simp; done) | (go_simp; with_reducible rfl)
     try simp only [Act.put, List.getElem_toArray, List.getElem_cons_succ, List.getElem_cons_zero, List.setIfInBounds_toArray, List.set_cons_zero, List.set_cons_succ]
     refine wpAnyH_take (i := 10) (v := ?_) rfl (by kernel_rfl) (by kernel_rfl) (by kernel_rfl) (fun _ _ _ h => h) (Or.inl ⟨by kernel_rfl, ?_⟩) (by first | assumption | trivial) ?_
     rotate_left
     ·intro w hSw
      try dsimp only at hSw
      subst hSw
      first | (go_simp; done) | (go_simp; with_reducible rfl)
     try simp only [Act.put, List.getElem_toArray, List.getElem_cons_succ, List.getElem_cons_zero, List.setIfInBounds_toArray, List.set_cons_zero, List.set_cons_succ]
     refine wpAnyH_done (by kernel_rfl) ?_ _
     go_wp2_with fail
     go_roundw
     case rel => exact ⟨j + 1, by omega, by go_num, HW.out.drew⟩
     case measure => simp [intOf]; omega
    ·have hle : (nn : Int) ≤ (j : Int) := by omega
     go_wp2_with fail
     go_ret
     rw [HG1.out]
     exact ⟨rfl, HB2.out.trans (HW.out.mono (by have := HK1.out.lt; omega))⟩
end Go.Proofs.Ytboplnhgafbgbaa
namespace Go.Proofs.Ytboplnhgafbgbaa
open Go.RowKit
def OwnB (w : World) (base : Nat) (e : TypeId) (v : Value) (bs : List Bool) : Prop := w.ownsRow base e 1 v bs.length (bs.map Value.bool)
theorem OwnB.form {w : World} {base : Nat} {e : TypeId} {v : Value} {bs : List Bool} (h : OwnB w base e v bs) : ∃ p c, v = .slice p bs.length c := owned_slice h
theorem OwnB.nil_ (w : World) (base : Nat) (e : TypeId) : OwnB w base e (.slice none 0 0) [] := ⟨by simp, .inl ⟨rfl, rfl⟩⟩
theorem OwnB.block_ge {w : World} {base : Nat} {e : TypeId} {v : Value} {bs : List Bool} (h : OwnB w base e v bs) : ∀ g, v.ownBlock = some g → base ≤ g := by
 intro g hg
 rcases h.2 with ⟨rfl, _⟩ | ⟨g', cap, cur, rfl, hb, _⟩
 ·cases hg
 ·cases hg; exact hb
theorem OwnB.below {w w' : World} {base B : Nat} {e : TypeId} {v : Value} {bs : List Bool} (h : OwnB w base e v bs) (hb : Below B w w') (hB : ∀ g, v.ownBlock = some g → g < B) : OwnB w' base e v bs := by
 refine ⟨h.1, ?_⟩
 rcases h.2 with h | ⟨g, cap, cur, rfl, hbg, hg, hr⟩
 ·exact .inl h
 ·exact .inr ⟨g, cap, cur, rfl, hbg, (hb.block g (hB g rfl)).trans hg, hr⟩
theorem OwnB.lt {w : World} {base : Nat} {e : TypeId} {v : Value} {bs : List Bool} (h : OwnB w base e v bs) : ∀ g, v.ownBlock = some g → g < w.heap.size := fun g hg => (World.ownsRow.lt h g hg).2
theorem OwnB.later {w w' : World} {base : Nat} {e : TypeId} {v : Value} {bs : List Bool} (h : OwnB w base e v bs) (hb : Below w.heap.size w w') : OwnB w' base e v bs := h.below hb h.lt
theorem OwnB.alloc {w : World} {base : Nat} {e : TypeId} {v : Value} {bs : List Bool} (h : OwnB w base e v bs) (o : Obj) : OwnB (w.alloc o) base e v bs := h.later (oneB w o)
theorem OwnB.at_ {w : World} {base n c : Nat} {e : TypeId} {p : Option Addr} {bs : List Bool} (h : OwnB w base e (.slice p n c) bs) (hn : 0 < n) : ∃ g, p = some ⟨g, 0, none⟩ ∧ base ≤ g ∧ g < w.heap.size ∧ bs.length = n := by
 obtain ⟨hl, h⟩ := h
 rcases h with ⟨e, h0⟩ | ⟨g, cap, cur, e, hb, hg, _⟩
 ·cases e; omega
 ·cases e; exact ⟨g, rfl, hb, lt_of_block hg, rfl⟩
theorem OwnB.cell {w : World} {base n c g : Nat} {e : TypeId} {bs : List Bool} (h : OwnB w base e (.slice (some ⟨g, 0, none⟩) n c) bs) (i : Nat) (hi : i < n) :
  w.cell? ⟨g, i, none⟩ = some (.bool (bs.getD i false)) ∧ w.frozen? ⟨g, i, none⟩ = false := by
 obtain ⟨hl, h⟩ := h
 rcases h with ⟨e, h0⟩ | ⟨g, cap, cur, e, hb, hg, hn, _, _, ht⟩
 ·cases e
 ·cases e
  refine ⟨?_, by simp [World.frozen?, hg]⟩
  rw [cell_of_row w g i cur _ (0, 0) hg]
  have := congrArg (fun l => l[i]?) ht
  simp only [List.getElem?_take, Nat.mul_one, if_pos hi, List.getElem?_map] at this
  rw [List.getElem?_eq_getElem hi] at this
  rw [List.getD_eq_getElem?_getD, List.getElem?_eq_getElem hi]
  simpa using this
theorem OwnB.set {w : World} {base n c g : Nat} {e : TypeId} {bs : List Bool} (h : OwnB w base e (.slice (some ⟨g, 0, none⟩) n c) bs) (i : Nat) (u : Bool) :
  OwnB (w.setCell ⟨g, i, none⟩ (.bool u)) base e (.slice (some ⟨g, 0, none⟩) n c) (bs.set i u) := by
 obtain ⟨hl, h⟩ := h
 rcases h with ⟨e2, h0⟩ | ⟨g, cap, cur, e2, hb, hg, hn, hm, hs, ht⟩
 ·cases e2
 ·cases e2
  have hb2 : Blk w g cur e := hg
  refine ⟨by simp, .inr ⟨g, c, cur.setIfInBounds i (.bool u), by rw [List.length_set], hb, hb2.set i (.bool u), by simpa using hn, hm, by simpa using hs, ?_⟩⟩
  rw [List.length_set, Array.toList_setIfInBounds, List.take_set, ht, List.map_set]
def EltB (P : Program) (t e : TypeId) : Prop := ∃ i, P.underlying t = some (.slice e) ∧ P.info? e = some i ∧ i.zero = some (.bool false) ∧ i.size = 1 ∧ i.bytes = 1
/-- One bool more, out of a block of its own. -/
theorem wpList_append_bit {P : Program} {w : World} {ops : Array Oper} {rest : List Oper} {o : Oper} {a : Act} {Q : Exit → Act → World → Prop} (hgd : o.guard = none) (s x : Operand) (t : TypeId)
  (ho : o.op = .call { callee := .builtin .append, args := #[s, x], argTypes := #[t, t] })
  (e e2 : TypeId) (base : Nat) (he : EltB P t e) (v : Value) (bs : List Bool) (u : Bool) (b : Nat) (hb : b = w.heap.size) (hs : a.eval s = v) (hx : a.eval x = .slice (some ⟨b, 0, none⟩) 1 1) (hown : OwnB w base e v bs)
  (h63 : bs.length ≤ 1000000) (hbase : base ≤ w.heap.size) (N : Nat) (hN : bs.length + 1 = N)
  (h : ∀ p' c' w', OwnB w' base e (.slice p' N c') (bs ++ [u]) → Below base w w' → wpList P ops Q rest (a.put o.dst (.slice p' N c')) w') :
  wpList P ops Q (o :: rest) a (w.alloc (.cells #[.bool u] e2)) := by
 subst hb
 subst hN
 obtain ⟨i, ht, hi, hz, hsz, hby⟩ := he
 refine wpList_append_own _ hgd s x t ho base e i (.bool false) 1 1 ht hi hz hsz hby rfl (by decide) v bs.length (bs.map .bool) hs (hown.alloc _) ⟨w.heap.size, 0, none⟩ 1 1 [.bool u] hx rfl (one_new w (.bool u) e2) (by intro u hu; simp at hu; subst hu; rfl) (by unfold maxLen; omega) (by omega) (by simp; omega) ?_
 intro v' w' hown' hg _
 have h2 : OwnB w' base e v' (bs ++ [u]) := by unfold OwnB; rw [List.map_append, List.length_append]; exact hown'
 obtain ⟨p', c', rfl⟩ := h2.form
 have h3 := h p' c' w'
 rw [List.length_append] at h2 ⊢
 exact h3 h2 (((Below.refl _ _).alloc hbase _).grown hg (by simp; omega) (fun g hg' => hown.block_ge g hg'))
/-- A row of bools that came in. -/
def RowB (w : World) (v : Value) (bs : List Bool) : Prop :=
 ∃ p c, v = .slice p bs.length c ∧ bs.length ≤ c ∧ (bs = [] ∨ ∃ b o, p = some ⟨b, o, none⟩ ∧ ∀ i, i < bs.length → w.cell? ⟨b, o + i, none⟩ = some (.bool (bs.getD i false)))
theorem RowB.shape {w : World} {v : Value} {bs : List Bool} (h : RowB w v bs) : ∃ p c, v = .slice p bs.length c := by obtain ⟨p, c, e, _⟩ := h; exact ⟨p, c, e⟩
theorem RowB.kept {w w' : World} {v : Value} {bs : List Bool} (h : RowB w v bs) (hb : Below w.heap.size w w') : RowB w' v bs := by
 obtain ⟨p, c, rfl, hc, h⟩ := h
 refine ⟨p, c, rfl, hc, ?_⟩
 rcases h with h | ⟨b, o, rfl, h⟩
 ·exact .inl h
 ·refine .inr ⟨b, o, rfl, fun i hi => ?_⟩
  have := h i hi
  rw [hb.cell (p := ⟨b, o + i, none⟩) (World.block_lt_of_cell? w _ this)]; exact this
theorem RowB.cell {w : World} {p : Option Addr} {n c : Nat} {bs : List Bool} (h : RowB w (.slice p n c) bs) (i : Nat) (hi : i < bs.length) : ∃ b o, p = some ⟨b, o, none⟩ ∧ w.cell? ⟨b, o + i, none⟩ = some (.bool (bs.getD i false)) := by
 obtain ⟨p', c', e, hc, h⟩ := h
 cases e
 rcases h with h | ⟨b, o, hp, h⟩
 ·rw [h] at hi; simp at hi
 ·exact ⟨b, o, hp, h i hi⟩
end Go.Proofs.Ytboplnhgafbgbaa
