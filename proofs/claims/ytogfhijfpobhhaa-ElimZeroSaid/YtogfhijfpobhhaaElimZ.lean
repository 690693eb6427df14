/- Three books that are alike: what all have together is nought. -/
import Derived.Test.YtogfhijfpobhhaaTwo
import Derived.Test.YtogfhijfpobhhaaVecList
namespace Go.Proofs.Ytogfhijfpobhhaa
open Go.RowKit
def sB (s b cur : Int) (x : Itm) : Int := if soldB s b cur x then x.a else 0
theorem amtS_cons (s b cur : Int) (x : Itm) (X : List Itm) : amtS (soldL s b cur (x :: X)) = sB s b cur x + amtS (soldL s b cur X) := by
  unfold amtS soldL sB
  rw [List.filter_cons]
  cases h : soldB s b cur x <;> simp [unC]
def oB (m cur : Int) (x : Itm) : Int := if keepI cur (-1) x then amtI m x else 0
def oS (m cur : Int) (X : List Itm) : Int := ((X.filter (keepI cur (-1))).map (amtI m)).sum
theorem oS_cons (m cur : Int) (x : Itm) (X : List Itm) : oS m cur (x :: X) = oB m cur x + oS m cur X := by
  unfold oS oB
  rw [List.filter_cons]
  cases h : keepI cur (-1) x <;> simp
theorem keep_bool (cur : Int) (x : Itm) : keepI cur (-1) x = (x.t == 3 && x.c == cur) := by
  unfold keepI dropI outI
  rw [show decide ((0 : Int) ≤ -1) = false from rfl]
  rw [Bool.eq_iff_iff]
  simp
/-- An item that book m can have, of parties 0 to 2. -/
def In3 (m : Int) (x : Itm) : Prop := (x.s = m ∨ x.b = m) ∧ 0 ≤ x.s ∧ x.s ≤ 2 ∧ 0 ≤ x.b ∧ x.b ≤ 2 ∧ x.s ≠ x.b
theorem one0 (cur : Int) (x : Itm) (h : In3 0 x) : oB 0 cur x = sB 0 1 cur x + sB 0 2 cur x - sB 1 0 cur x - sB 2 0 cur x := by
  obtain ⟨h1, h2, h3, h4, h5, h6⟩ := h
  unfold oB sB soldB amtI
  rw [keep_bool]
  cases hk : (x.t == 3 && x.c == cur)
  · simp
  · have hor : (x.s = 0 ∧ x.b = 1) ∨ (x.s = 0 ∧ x.b = 2) ∨ (x.s = 1 ∧ x.b = 0) ∨ (x.s = 2 ∧ x.b = 0) := by omega
    rcases hor with ⟨a, b⟩ | ⟨a, b⟩ | ⟨a, b⟩ | ⟨a, b⟩ <;> simp [a, b]
theorem one1 (cur : Int) (x : Itm) (h : In3 1 x) : oB 1 cur x = sB 1 0 cur x + sB 1 2 cur x - sB 0 1 cur x - sB 2 1 cur x := by
  obtain ⟨h1, h2, h3, h4, h5, h6⟩ := h
  unfold oB sB soldB amtI
  rw [keep_bool]
  cases hk : (x.t == 3 && x.c == cur)
  · simp
  · have hor : (x.s = 1 ∧ x.b = 0) ∨ (x.s = 1 ∧ x.b = 2) ∨ (x.s = 0 ∧ x.b = 1) ∨ (x.s = 2 ∧ x.b = 1) := by omega
    rcases hor with ⟨a, b⟩ | ⟨a, b⟩ | ⟨a, b⟩ | ⟨a, b⟩ <;> simp [a, b]
theorem one2 (cur : Int) (x : Itm) (h : In3 2 x) : oB 2 cur x = sB 2 0 cur x + sB 2 1 cur x - sB 0 2 cur x - sB 1 2 cur x := by
  obtain ⟨h1, h2, h3, h4, h5, h6⟩ := h
  unfold oB sB soldB amtI
  rw [keep_bool]
  cases hk : (x.t == 3 && x.c == cur)
  · simp
  · have hor : (x.s = 2 ∧ x.b = 0) ∨ (x.s = 2 ∧ x.b = 1) ∨ (x.s = 0 ∧ x.b = 2) ∨ (x.s = 1 ∧ x.b = 2) := by omega
    rcases hor with ⟨a, b⟩ | ⟨a, b⟩ | ⟨a, b⟩ | ⟨a, b⟩ <;> simp [a, b]
theorem sum0 (cur : Int) : ∀ X : List Itm, (∀ x ∈ X, In3 0 x) → oS 0 cur X = amtS (soldL 0 1 cur X) + amtS (soldL 0 2 cur X) - amtS (soldL 1 0 cur X) - amtS (soldL 2 0 cur X)
  | [], _ => rfl
  | x :: X, h => by
    have h1 := one0 cur x (h x (by simp))
    have h2 := sum0 cur X (fun y hy => h y (by simp [hy]))
    rw [oS_cons, amtS_cons, amtS_cons, amtS_cons, amtS_cons]
    omega
theorem sum1 (cur : Int) : ∀ X : List Itm, (∀ x ∈ X, In3 1 x) → oS 1 cur X = amtS (soldL 1 0 cur X) + amtS (soldL 1 2 cur X) - amtS (soldL 0 1 cur X) - amtS (soldL 2 1 cur X)
  | [], _ => rfl
  | x :: X, h => by
    have h1 := one1 cur x (h x (by simp))
    have h2 := sum1 cur X (fun y hy => h y (by simp [hy]))
    rw [oS_cons, amtS_cons, amtS_cons, amtS_cons, amtS_cons]
    omega
theorem sum2 (cur : Int) : ∀ X : List Itm, (∀ x ∈ X, In3 2 x) → oS 2 cur X = amtS (soldL 2 0 cur X) + amtS (soldL 2 1 cur X) - amtS (soldL 0 2 cur X) - amtS (soldL 1 2 cur X)
  | [], _ => rfl
  | x :: X, h => by
    have h1 := one2 cur x (h x (by simp))
    have h2 := sum2 cur X (fun y hy => h y (by simp [hy]))
    rw [oS_cons, amtS_cons, amtS_cons, amtS_cons, amtS_cons]
    omega
theorem alike_amt {m1 m2 cur : Int} {X Y : List Itm} (h : alikeB m1 m2 cur X Y = true) : amtS (soldL m1 m2 cur X) = amtS (soldL m1 m2 cur Y) := by
  unfold alikeB at h
  rw [of_decide_eq_true h]
theorem pair_alike {cur : Int} {b c : Bk} (h : pairOk cur b c = true) (hne : b.me ≠ c.me) : alikeB b.me c.me cur b.xs c.xs = true ∧ alikeB c.me b.me cur c.xs b.xs = true := by
  unfold pairOk at h
  rw [decide_eq_false hne, Bool.false_or, Bool.and_eq_true] at h
  exact h
theorem even_pairs {cur : Int} {x y z : Bk} (h : evenB cur [x, y, z] = true) : pairOk cur y x = true ∧ pairOk cur z x = true ∧ pairOk cur z y = true := by
  have e : evenB cur [x, y, z] = (pairOk cur y x && (pairOk cur z x && pairOk cur z y)) := by simp [evenB, List.range_succ]
  rw [e, Bool.and_eq_true, Bool.and_eq_true] at h
  exact ⟨h.1, h.2.1, h.2.2⟩
/-- A book of entity m in a world, with items of parties 0 to 2. -/
structure Bz (gz : Nat) (m : Int) (k : Nat) (x : Bk) (w : World) : Prop where
  me : x.me = m
  inw : x.In w
  good : GoodB m x.xs
  in3 : ∀ y ∈ x.xs, y.s ≤ 2 ∧ y.b ≤ 2
  len : x.xs.length ≤ k
  own : ∀ j, (Value.slice x.p x.n x.c).ownBlock = some j → gz < j
  lt : ∀ j, (Value.slice x.p x.n x.c).ownBlock = some j → j < w.heap.size
theorem Bz.all3 {gz : Nat} {m : Int} {k : Nat} {x : Bk} {w : World} (h : Bz gz m k x w) : ∀ y ∈ x.xs, In3 m y := by
  intro y hy
  obtain ⟨h1, h2⟩ := h.good.2 y hy
  have h3 := h.in3 y hy
  obtain ⟨hp, _, _⟩ := chk_ok h1
  unfold partsOk at hp
  exact ⟨h2, by omega, h3.1, by omega, h3.2, hp.2.2⟩
theorem Bz.kept {gz : Nat} {m : Int} {k : Nat} {x : Bk} {w w' : World} (h : Bz gz m k x w) (hb : Below w.heap.size w w') : Bz gz m k x w' := ⟨h.me, h.inw.kept hb, h.good, h.in3, h.len, h.own, fun j hj => Nat.lt_of_lt_of_le (h.lt j hj) hb.size⟩
theorem Bz.more {gz : Nat} {m : Int} {k k' : Nat} {x : Bk} {w : World} (h : Bz gz m k x w) (hk : k ≤ k') : Bz gz m k' x w := ⟨h.me, h.inw, h.good, h.in3, Nat.le_trans h.len hk, h.own, h.lt⟩
theorem zero_all {gz k : Nat} {cur : Int} {x y z : Bk} {w : World} (hx : Bz gz 0 k x w) (hy : Bz gz 1 k y w) (hz : Bz gz 2 k z w) (h : evenB cur [x, y, z] = true) : openS cur x + openS cur y + openS cur z = 0 := by
  obtain ⟨h1, h2, h3⟩ := even_pairs h
  have e1 := pair_alike h1 (by rw [hy.me, hx.me]; decide)
  have e2 := pair_alike h2 (by rw [hz.me, hx.me]; decide)
  have e3 := pair_alike h3 (by rw [hz.me, hy.me]; decide)
  rw [hy.me, hx.me] at e1
  rw [hz.me, hx.me] at e2
  rw [hz.me, hy.me] at e3
  have a1 := alike_amt e1.1
  have a2 := alike_amt e1.2
  have a3 := alike_amt e2.1
  have a4 := alike_amt e2.2
  have a5 := alike_amt e3.1
  have a6 := alike_amt e3.2
  have s0 := sum0 cur x.xs hx.all3
  have s1 := sum1 cur y.xs hy.all3
  have s2 := sum2 cur z.xs hz.all3
  have o0 : openS cur x = oS 0 cur x.xs := by unfold openS oS; rw [hx.me]
  have o1 : openS cur y = oS 1 cur y.xs := by unfold openS oS; rw [hy.me]
  have o2 : openS cur z = oS 2 cur z.xs := by unfold openS oS; rw [hz.me]
  omega
theorem grp_sum (cur : Int) (x y z : Bk) : (amtsC cur (grpL cur [x, y, z])).sum = openS cur x + openS cur y + openS cur z := by
  have one : ∀ b : Bk, (amtsC cur (oneP cur b)).sum = openS cur b := fun b => by
    unfold oneP
    split
    · rename_i h; rw [h]; rfl
    · unfold amtsC; simp
  have e : grpL cur [x, y, z] = oneP cur x ++ (oneP cur y ++ oneP cur z) := by unfold grpL; simp
  rw [e, amtsC_app, amtsC_app, List.sum_append, List.sum_append, one, one, one]
  omega
/-- Cells of another block. -/
theorem heap_setCells (g k : Nat) (h : k ≠ g) : ∀ (vs : List Value) (o : Nat) (w : World), (w.setCells g o vs).heap[k]? = w.heap[k]?
  | [], _, _ => rfl
  | v :: r, o, w => by rw [World.setCells, heap_setCells g k h r (o + 1) _, Below.heap_setCell _ _ _ k (by show k ≠ g; omega)]
theorem size_setCells (g : Nat) : ∀ (vs : List Value) (o : Nat) (w : World), (w.setCells g o vs).heap.size = w.heap.size
  | [], _, _ => rfl
  | v :: r, o, w => by rw [World.setCells, size_setCells g r (o + 1) _]; simp
theorem Bz.setCells {gz : Nat} {m : Int} {k : Nat} {x : Bk} {w : World} (h : Bz gz m k x w) (o : Nat) (vs : List Value) : Bz gz m k x (w.setCells gz o vs) :=
  ⟨h.me, ⟨h.inw.row.stay (fun j hj => heap_setCells gz j (by have := h.own j hj; omega) vs o w) (by rw [size_setCells]; exact Nat.le_refl _), h.inw.len, h.inw.small, h.inw.ok⟩, h.good, h.in3, h.len, h.own, fun j hj => by rw [size_setCells]; exact h.lt j hj⟩
/-- An array of three books, the first k of them new or more. -/
structure Zr (gz k K : Nat) (bs : List Bk) (w : World) : Prop where
  own : OwnT encB w gz 43 (.slice (some ⟨gz, 0, none⟩) 3 3) bs
  bz : ∀ i (h : i < bs.length), i < k → Bz gz i K bs[i] w
theorem Zr.len {gz k K : Nat} {bs : List Bk} {w : World} (h : Zr gz k K bs w) : bs.length = 3 := by
  obtain ⟨_, _, _, _, _, _, _, _, _, h1⟩ := h.own.lies (by decide)
  exact h1.symm
theorem Zr.lt {gz k K : Nat} {bs : List Bk} {w : World} (h : Zr gz k K bs w) : gz < w.heap.size := h.own.lt gz rfl
theorem Zr.kept {gz k K : Nat} {bs : List Bk} {w w' : World} (h : Zr gz k K bs w) (hb : Below w.heap.size w w') : Zr gz k K bs w' := ⟨h.own.later hb, fun i hi hk => (h.bz i hi hk).kept hb⟩
theorem Zr.more {gz k K K' : Nat} {bs : List Bk} {w : World} (h : Zr gz k K bs w) (hK : K ≤ K') : Zr gz k K' bs w := ⟨h.own, fun i hi hk => (h.bz i hi hk).more hK⟩
theorem Zr.there {gz k K : Nat} {bs : List Bk} {w : World} (h : Zr gz k K bs w) {i : Nat} (hi : i < 3) : w.there gz (i * 3) 3 := h.own.there i 3 (by show i * 3 + 3 ≤ 3 * 3; omega) (by decide)
theorem Zr.cells {gz k K : Nat} {bs : List Bk} {w : World} (h : Zr gz k K bs w) {i : Nat} (hi : i < bs.length) : w.cell? ⟨gz, i * 3, none⟩ = some (.int .i64 bs[i].me) ∧ w.cell? ⟨gz, i * 3 + 1, none⟩ = some (.slice bs[i].p bs[i].n bs[i].c) ∧ w.cell? ⟨gz, i * 3 + 2, none⟩ = some (.slice bs[i].q bs[i].a bs[i].b) := by
  obtain ⟨b, o, e, _, hc⟩ := h.own.row.at_ i hi
  cases e
  have h0 := hc 0 (by decide)
  have h1 := hc 1 (by decide)
  have h2 := hc 2 (by decide)
  have e3 : (encB.k : Nat) = 3 := rfl
  rw [e3, Nat.zero_add] at h0 h1 h2
  exact ⟨h0, h1, h2⟩
theorem Zr.put {gz k K k' K' : Nat} {bs : List Bk} {w : World} (h : Zr gz k K bs w) {i : Nat} (hi : i < 3) {x : Bk} (hx : Bz gz i K' x w) (hK : K ≤ K') (hk : ∀ j, j < k' → j < k ∨ j = i) : Zr gz k' K' (bs.set i x) (w.setCells gz (i * 3) (encB.E x)) := by
  refine ⟨h.own.put i hi x, fun j hj hjk => ?_⟩
  rw [List.getElem_set]
  split
  · rename_i he
    subst he
    exact hx.setCells _ _
  · rename_i he
    have hj2 : j < bs.length := by rw [List.length_set] at hj; exact hj
    refine ((h.bz j hj2 ?_).more hK).setCells _ _
    rcases hk j hjk with h1 | h1
    · exact h1
    · exact absurd h1.symm he
theorem Zr.three {gz K : Nat} {bs : List Bk} {w : World} (h : Zr gz 3 K bs w) : ∃ x y z, bs = [x, y, z] ∧ Bz gz 0 K x w ∧ Bz gz 1 K y w ∧ Bz gz 2 K z w := by
  have hl := h.len
  match bs, hl, h with
  | [x, y, z], _, h => exact ⟨x, y, z, rfl, h.bz 0 (by simp) (by decide), h.bz 1 (by simp) (by decide), h.bz 2 (by simp) (by decide)⟩
theorem row_lt {w : World} {v : Value} {xs : List Itm} (h : TRow encI w v xs) (k : Nat) (hk : v.ownBlock = some k) (hne : xs ≠ []) : k < w.heap.size := by
  obtain ⟨p, c, rfl, _, h⟩ := h
  rcases h with h | ⟨b, o, rfl, hlt, _⟩
  · exact absurd h hne
  · cases hk; exact hlt
theorem putX_ne {me : Int} {X : List Itm} {x : Itm} (h : putE me x = 0) : putX me X x ≠ [] := by
  have h2 : chkI x = 0 ∧ (x.s = me ∨ x.b = me) := by
    unfold putE at h
    split at h
    · rename_i h1
      split at h
      · rename_i h3; exact ⟨h1, h3⟩
      · cases h
    · rename_i h1; exact absurd h h1
  unfold putX insX
  rw [if_pos h2]
  simp
/-- What a book is behind 'Put'. -/
theorem Bz.put {gz K ni' ci' : Nat} {m : Int} {x : Bk} {w w' : World} {p' : Option Addr} {it : Itm} (h : Bz gz m K x w) (hr : TRow encI w' (.slice p' ni' ci') (putX m x.xs it)) (hn : ni' = (putX m x.xs it).length) (_ : Below w.heap.size w w') (hg : gz < w.heap.size) (hK : K + 1 ≤ 2000) (h2 : it.s ≤ 2 ∧ it.b ≤ 2) (he : putE m it = 0)
    (ho : ∀ k, (Value.slice p' ni' ci').ownBlock = some k → (Value.slice x.p x.n x.c).ownBlock = some k ∨ w.heap.size ≤ k) : Bz gz m (K + 1) ⟨m, p', ni', ci', x.q, x.a, x.b, putX m x.xs it⟩ w' := by
  have hl := putX_len (x := it) h.good
  have hl2 := h.len
  have hgd := putX_good (x := it) h.good
  refine ⟨rfl, ⟨hr, hn.symm, (show (putX m x.xs it).length ≤ 2000 by omega), goodB_ok hgd⟩, hgd, fun y hy => ?_, (show (putX m x.xs it).length ≤ K + 1 by omega), fun j hj => ?_, fun j hj => row_lt hr j hj (putX_ne he)⟩
  · unfold putX at hy
    split at hy
    · rcases ins_mem hy with rfl | hy
      · exact h2
      · exact h.in3 y hy
    · exact h.in3 y hy
  · rcases ho j hj with h1 | h1
    · exact h.own j h1
    · omega
theorem Bz.new_ (gz : Nat) (m : Int) (w : World) : Bz gz m 0 ⟨m, none, 0, 0, none, 0, 0, []⟩ w :=
  ⟨rfl, ⟨TRow.nil_ _ _, rfl, by simp, (fun _ h => by cases h)⟩, goodB_nil m, (fun _ h => by cases h), Nat.le_refl _, (fun _ h => by cases h), (fun _ h => by cases h)⟩
theorem zr_start {w : World} : Zr w.heap.size 0 0 [bk0, bk0, bk0] (w.alloc (.cells #[.int .i64 0, .slice none 0 0, .slice none 0 0, .int .i64 0, .slice none 0 0, .slice none 0 0, .int .i64 0, .slice none 0 0, .slice none 0 0] 43)) :=
  ⟨OwnT.mk' rfl (Nat.le_refl _) (Blk.new w _ _) (by decide) (by decide) rfl rfl, fun _ _ h => absurd h (Nat.not_lt_zero _)⟩
/-- The array again, as a row of another block. -/
theorem three_row {w : World} {g : Nat} (x y z : Bk) (h : Blk w g #[.int .i64 x.me, .slice x.p x.n x.c, .slice x.q x.a x.b, .int .i64 y.me, .slice y.p y.n y.c, .slice y.q y.a y.b, .int .i64 z.me, .slice z.p z.n z.c, .slice z.q z.a z.b] 26) : TRow encB w (.slice (some ⟨g, 0, none⟩) 3 3) [x, y, z] := TRow.lit encB _ 3 3 h rfl rfl (Nat.le_refl _)
end Go.Proofs.Ytogfhijfpobhhaa
