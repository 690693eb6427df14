/- vote's small functions by contract: decided, open, says, first. Lines as elements of a slice. vote.Parts.Get and Waits by contract. Something that is said to a node, as it lies. An item and an error as an answer; a whole item stored. item.locked by contract. item.Free, Settle, Lock by contract. msg.Line by contract. '==' of two lines. vote's says, first; the closure of ask by contract. vote.each by contract, where nothing is refused. vote: what becomes of items, of all that an act does, in plain words. Grow and Concat of slices of contra/vote.Part, by contract. -/
import Derived.Test.YtmhocihajobkkaaR2
import Derived.Test.YtmhocihajobkkaaR1
import Derived.Laws.StructEq
import Derived.Deep.CutRange
import Derived.Deep.CutBlock
import Derived.Lib.AppendZeros
namespace Go.Proofs.Ytmhocihajobkkaa
open Go.RowKit
set_option linter.unusedSimpArgs false
def pt0 : PtX := ⟨0, 0, 0, none, 0, []⟩
def findC (xs : List PtX) (cy : Int) : Option PtX := xs.find? (fun x => decide (x.cy = cy ∧ (0 : Int) = 0))
theorem findC_around {xs A mid B : List PtX} {cy : Int} (h : AroundF posC ⟨cy, 0, 0⟩ xs A mid B) : findC xs cy = mid.head? := find_around h
def decB (x : PtX) : Bool := x.st == 4 || x.st == 5
/-- A cycle that isn't decided, or why there is none. -/
def openP (xs : List PtX) (cy : Int) : PtX × Int :=
 match findC xs cy with
 | none => (pt0, 4)
 | some q => if decB q = true then (pt0, 90) else (q, 0)
set_option linter.unusedSimpArgs false in
set_option maxHeartbeats 4000000 in
set_option maxRecDepth 100000 in
theorem decided_any (x : PtX) (w : World) : Calls Try.prog 23 #[x.v] w fun e w' => e = .returned (.bool (decB x)) ∧ Below w.heap.size w w' := by
 unfold decB PtX.v
 by_cases h4 : x.st = 4
 ·have e4 : (x.st == 4) = true := by simpa using h4
  rw [e4]
  clear h4
  simp only [Bool.true_or]
  go_enter Try.func23, Try.ntmps23
  go_wp2_with fail
  go_ret
  exact ⟨rfl, oneB w _⟩
 ·have e4 : (x.st == 4) = false := by simpa using h4
  rw [e4]
  clear h4
  simp only [Bool.false_or]
  go_enter Try.func23, Try.ntmps23
  go_wp2_with fail
  go_ret
  exact ⟨rfl, oneB w _⟩
set_option linter.unusedSimpArgs false in
set_option maxHeartbeats 4000000 in
set_option maxRecDepth 100000 in
theorem open_any (w : World) (me N : Int) (p : Option Addr) (n c : Nat) (xs : List PtX) (cy : Int) (hr : TRow encP w (.slice p n c) xs) (hn : n = xs.length) (hl : xs.length ≤ 2000) (hs : SortedP (xs.map posC)) :
  Calls Try.prog 52 #[.agg #[.int .i64 me, .int .i64 N, .slice p n c], .int .i64 cy] w fun e w' => e = .returned (.tuple #[(openP xs cy).1.v, .int .i64 (openP xs cy).2]) ∧ Below w.heap.size w w' := by
 obtain ⟨A, mid, B, hA⟩ := aroundF_of_sorted posC ⟨cy, 0, 0⟩ xs hs
 unfold openP
 rw [findC_around hA]
 have HR := Lib.hid hr
 have HN : Hid (n = xs.length ∧ xs.length ≤ 2000) := ⟨hn, hl⟩
 have hm := hA.mid1
 have HA := Lib.hid hA
 clear hr hn hl hs hA
 rcases hm with rfl | ⟨q, rfl, _⟩
 ·show Calls _ _ _ _ (fun e w' => e = .returned (.tuple #[.agg #[.int .i64 0, .int .i64 0, .int .i64 0, .slice none 0 0], .int .i64 4]) ∧ Below w.heap.size w w')
  have HB0 : Hid (Below w.heap.size w ((w.alloc (.cells #[.int .i64 me, .int .i64 N, .slice p n c] 36)).alloc (.cells #[.int .i64 0, .int .i64 0, .int .i64 0, .slice none 0 0] 58))) := Lib.hid (((oneB w _).alloc (by simp <;> omega) _))
  have Hp0 : Hid (Blk ((w.alloc (.cells #[.int .i64 me, .int .i64 N, .slice p n c] 36)).alloc (.cells #[.int .i64 0, .int .i64 0, .int .i64 0, .slice none 0 0] 58)) w.heap.size #[.int .i64 me, .int .i64 N, .slice p n c] 36) := Lib.hid ((Blk.new w #[.int .i64 me, .int .i64 N, .slice p n c] 36).alloc _)
  have Hr0 : Hid (Blk ((w.alloc (.cells #[.int .i64 me, .int .i64 N, .slice p n c] 36)).alloc (.cells #[.int .i64 0, .int .i64 0, .int .i64 0, .slice none 0 0] 58)) (w.heap.size + 1) #[.int .i64 0, .int .i64 0, .int .i64 0, .slice none 0 0] 58) := Lib.hid (Blk.new' (w.alloc (.cells #[.int .i64 me, .int .i64 N, .slice p n c] 36)) #[.int .i64 0, .int .i64 0, .int .i64 0, .slice none 0 0] 58 (by simp))
  have HZ0 : Hid (w.heap.size ≤ ((w.alloc (.cells #[.int .i64 me, .int .i64 N, .slice p n c] 36)).alloc (.cells #[.int .i64 0, .int .i64 0, .int .i64 0, .slice none 0 0] 58)).heap.size) := Lib.hid HB0.out.size
  go_enter Try.func52, Try.ntmps52
  go_upto_region 1 with fail
  generalize ((w.alloc (.cells #[.int .i64 me, .int .i64 N, .slice p n c] 36)).alloc (.cells #[.int .i64 0, .int .i64 0, .int .i64 0, .slice none 0 0] 58)) = W at *
  have HG := Lib.hid (find_any W me N p n c xs A [] B cy (HR.out.kept HB0.out) HN.out.1 HN.out.2 HA.out)
  rw [show decide (([] : List PtX) ≠ []) = false by simp] at HG
  have a0 : W.cell? ⟨w.heap.size, 0, none⟩ = some (.int .i64 me) := Hp0.out.cell 0
  have a1 : W.cell? ⟨w.heap.size, 1, none⟩ = some (.int .i64 N) := Hp0.out.cell 1
  have a2 : W.cell? ⟨w.heap.size, 2, none⟩ = some (.slice p n c) := Hp0.out.cell 2
  go_wp2_with fail
  clear a0 a1 a2
  refine HG.out.mono ?_
  rintro y w1 ⟨rfl, hb⟩
  clear HG
  have Hp1 := kbq Hp0 hb
  have Hr1 := kbq Hr0 hb
  have HB1 := ktq HB0 hb
  have HZ1 := kzq HZ0 hb.size
  clear Hp0 Hr0 HB0 HZ0
  clear hb
  go_upto_region 3 with fail
  go_wp2_with (with_reducible refine stop_storeT 58 (.tmp 4) (.tmp 16) rfl ?_)
  have HTH : Hid (w1.there (w.heap.size + 1) 0 4) := Hr1.out.thereAt
  have hch : Hid (Chg (w.heap.size + 1) w1 (w1.setCells (w.heap.size + 1) 0 (#[.int .i64 0, .int .i64 0, .int .i64 0, .slice none 0 0] : Array Value).toList)) := Lib.hid (chg_putL _ _ _ _ _ (Chg.refl _ w1))
  have Hr2 : Hid (Blk (w1.setCells (w.heap.size + 1) 0 (#[.int .i64 0, .int .i64 0, .int .i64 0, .slice none 0 0] : Array Value).toList) (w.heap.size + 1) #[.int .i64 0, .int .i64 0, .int .i64 0, .slice none 0 0] 58) := Lib.hid (blk_put_all Hr1.out _ rfl)
  have HB2 : Hid (Below w.heap.size w (w1.setCells (w.heap.size + 1) 0 (#[.int .i64 0, .int .i64 0, .int .i64 0, .slice none 0 0] : Array Value).toList)) := Lib.hid (below_put (by omega) _ _ _ _ HB1.out)
  have HZ2 := kzq HZ1 hch.out.size
  have Hp2 := kcq Hp1 hch (by omega)
  clear hch Hp1 Hr1 HB1 HZ1
  refine wpList_store_mid rfl 58 (.tmp 4) (.tmp 16) rfl (w.heap.size + 1) 0 #[.int .i64 0, .int .i64 0, .int .i64 0, .slice none 0 0] rfl rfl HTH.out (infoQ4 rfl) (all_oneCell_toArray (by intro u hu; simp at hu; rcases hu with rfl | rfl | rfl | rfl <;> rfl)) ?_
  generalize (w1.setCells (w.heap.size + 1) 0 (#[.int .i64 0, .int .i64 0, .int .i64 0, .slice none 0 0] : Array Value).toList) = W8 at *
  clear HTH
  go_wp2_with fail
  have hf := Hr2.out
  refine bodyPost_ret (v := .tuple #[.agg #[.int .i64 0, .int .i64 0, .int .i64 0, .slice none 0 0], .int .i64 4]) (by simp [results, Try.results52, go_sem, hf.cell 0, hf.cell 1, hf.cell 2, hf.cell 3]) rfl ⟨rfl, HB2.out⟩
 ·have HIX : Hid (A.length < xs.length) := by show _ < _; have e := HA.out.all; rw [e]; simp <;> omega
  show Calls _ _ _ _ (fun e w' => e = .returned (.tuple #[(if decB q = true then (pt0, (90 : Int)) else (q, 0)).1.v, .int .i64 (if decB q = true then (pt0, (90 : Int)) else (q, 0)).2]) ∧ Below w.heap.size w w')
  by_cases hd : decB q = true
  ·rw [if_pos hd]
   have HD := Lib.hid hd
   clear hd
   show Calls _ _ _ _ (fun e w' => e = .returned (.tuple #[.agg #[.int .i64 0, .int .i64 0, .int .i64 0, .slice none 0 0], .int .i64 90]) ∧ Below w.heap.size w w')
   have HB0 : Hid (Below w.heap.size w ((w.alloc (.cells #[.int .i64 me, .int .i64 N, .slice p n c] 36)).alloc (.cells #[.int .i64 0, .int .i64 0, .int .i64 0, .slice none 0 0] 58))) := Lib.hid (((oneB w _).alloc (by simp <;> omega) _))
   have Hp0 : Hid (Blk ((w.alloc (.cells #[.int .i64 me, .int .i64 N, .slice p n c] 36)).alloc (.cells #[.int .i64 0, .int .i64 0, .int .i64 0, .slice none 0 0] 58)) w.heap.size #[.int .i64 me, .int .i64 N, .slice p n c] 36) := Lib.hid ((Blk.new w #[.int .i64 me, .int .i64 N, .slice p n c] 36).alloc _)
   have Hr0 : Hid (Blk ((w.alloc (.cells #[.int .i64 me, .int .i64 N, .slice p n c] 36)).alloc (.cells #[.int .i64 0, .int .i64 0, .int .i64 0, .slice none 0 0] 58)) (w.heap.size + 1) #[.int .i64 0, .int .i64 0, .int .i64 0, .slice none 0 0] 58) := Lib.hid (Blk.new' (w.alloc (.cells #[.int .i64 me, .int .i64 N, .slice p n c] 36)) #[.int .i64 0, .int .i64 0, .int .i64 0, .slice none 0 0] 58 (by simp))
   have HZ0 : Hid (w.heap.size ≤ ((w.alloc (.cells #[.int .i64 me, .int .i64 N, .slice p n c] 36)).alloc (.cells #[.int .i64 0, .int .i64 0, .int .i64 0, .slice none 0 0] 58)).heap.size) := Lib.hid HB0.out.size
   go_enter Try.func52, Try.ntmps52
   go_upto_region 1 with fail
   generalize ((w.alloc (.cells #[.int .i64 me, .int .i64 N, .slice p n c] 36)).alloc (.cells #[.int .i64 0, .int .i64 0, .int .i64 0, .slice none 0 0] 58)) = W at *
   have HG := Lib.hid (find_any W me N p n c xs A [q] B cy (HR.out.kept HB0.out) HN.out.1 HN.out.2 HA.out)
   rw [show decide (([q] : List PtX) ≠ []) = true by simp] at HG
   have a0 : W.cell? ⟨w.heap.size, 0, none⟩ = some (.int .i64 me) := Hp0.out.cell 0
   have a1 : W.cell? ⟨w.heap.size, 1, none⟩ = some (.int .i64 N) := Hp0.out.cell 1
   have a2 : W.cell? ⟨w.heap.size, 2, none⟩ = some (.slice p n c) := Hp0.out.cell 2
   go_wp2_with fail
   clear a0 a1 a2
   refine HG.out.mono ?_
   rintro y w1 ⟨rfl, hb⟩
   clear HG
   have Hp1 := kbq Hp0 hb
   have Hr1 := kbq Hr0 hb
   have HB1 := ktq HB0 hb
   have HZ1 := kzq HZ0 hb.size
   clear Hp0 Hr0 HB0 HZ0
   clear hb
   obtain ⟨b, o, rfl, hbl, hcs⟩ := (HR.out.kept HB1.out).at_ A.length HIX.out
   have hq : xs[A.length]'HIX.out = q := by have e := HA.out.all; subst e; simp
   rw [hq] at hcs
   clear hq
   have hcapI : (A.length : Int) < (n : Int) := by have := HIX.out; have := HN.out; omega
   have c0 : w1.cell? ⟨b, o + A.length * 4, none⟩ = some (.int .i64 q.cy) := hcs 0 (by decide)
   have c1 : w1.cell? ⟨b, o + A.length * 4 + 1, none⟩ = some (.int .i64 q.cu) := hcs 1 (by decide)
   have c2 : w1.cell? ⟨b, o + A.length * 4 + 2, none⟩ = some (.int .i64 q.st) := hcs 2 (by decide)
   have c3 : w1.cell? ⟨b, o + A.length * 4 + 3, none⟩ = some (.slice q.p q.ls.length q.c) := hcs 3 (by decide)
   have HCS := Lib.hid hcs
   have HBL := Lib.hid hbl
   clear hcs hbl
   have a2 : w1.cell? ⟨w.heap.size, 2, none⟩ = some (.slice (some ⟨b, o, none⟩) n c) := Hp1.out.cell 2
   have HG := Lib.hid (decided_any q w1)
   unfold PtX.v at HG
   rw [HD.out] at HG
   go_wp2_with fail
   clear a2 c0 c1 c2 c3
   refine HG.out.mono ?_
   rintro y w2 ⟨rfl, hb⟩
   clear HG
   clear HCS HBL
   have Hp2 := kbq Hp1 hb
   have Hr2 := kbq Hr1 hb
   have HB2 := ktq HB1 hb
   have HZ2 := kzq HZ1 hb.size
   clear Hp1 Hr1 HB1 HZ1
   clear hb
   go_upto_region 5 with fail
   go_wp2_with (with_reducible refine stop_storeT 58 (.tmp 4) (.tmp 23) rfl ?_)
   have HTH : Hid (w2.there (w.heap.size + 1) 0 4) := Hr2.out.thereAt
   have hch : Hid (Chg (w.heap.size + 1) w2 (w2.setCells (w.heap.size + 1) 0 (#[.int .i64 0, .int .i64 0, .int .i64 0, .slice none 0 0] : Array Value).toList)) := Lib.hid (chg_putL _ _ _ _ _ (Chg.refl _ w2))
   have Hr3 : Hid (Blk (w2.setCells (w.heap.size + 1) 0 (#[.int .i64 0, .int .i64 0, .int .i64 0, .slice none 0 0] : Array Value).toList) (w.heap.size + 1) #[.int .i64 0, .int .i64 0, .int .i64 0, .slice none 0 0] 58) := Lib.hid (blk_put_all Hr2.out _ rfl)
   have HB3 : Hid (Below w.heap.size w (w2.setCells (w.heap.size + 1) 0 (#[.int .i64 0, .int .i64 0, .int .i64 0, .slice none 0 0] : Array Value).toList)) := Lib.hid (below_put (by omega) _ _ _ _ HB2.out)
   have HZ3 := kzq HZ2 hch.out.size
   have Hp3 := kcq Hp2 hch (by omega)
   clear hch Hp2 Hr2 HB2 HZ2
   refine wpList_store_mid rfl 58 (.tmp 4) (.tmp 23) rfl (w.heap.size + 1) 0 #[.int .i64 0, .int .i64 0, .int .i64 0, .slice none 0 0] rfl rfl HTH.out (infoQ4 rfl) (all_oneCell_toArray (by intro u hu; simp at hu; rcases hu with rfl | rfl | rfl | rfl <;> rfl)) ?_
   generalize (w2.setCells (w.heap.size + 1) 0 (#[.int .i64 0, .int .i64 0, .int .i64 0, .slice none 0 0] : Array Value).toList) = W8 at *
   clear HTH
   go_wp2_with fail
   have hf := Hr3.out
   refine bodyPost_ret (v := .tuple #[.agg #[.int .i64 0, .int .i64 0, .int .i64 0, .slice none 0 0], .int .i64 90]) (by simp [results, Try.results52, go_sem, hf.cell 0, hf.cell 1, hf.cell 2, hf.cell 3]) rfl ⟨rfl, HB3.out⟩
  ·rw [if_neg hd]
   have HD : Hid (decB q = false) := by show _ = _; simpa using hd
   clear hd
   show Calls _ _ _ _ (fun e w' => e = .returned (.tuple #[.agg #[.int .i64 q.cy, .int .i64 q.cu, .int .i64 q.st, .slice q.p q.ls.length q.c], .int .i64 0]) ∧ Below w.heap.size w w')
   have HB0 : Hid (Below w.heap.size w ((w.alloc (.cells #[.int .i64 me, .int .i64 N, .slice p n c] 36)).alloc (.cells #[.int .i64 0, .int .i64 0, .int .i64 0, .slice none 0 0] 58))) := Lib.hid (((oneB w _).alloc (by simp <;> omega) _))
   have Hp0 : Hid (Blk ((w.alloc (.cells #[.int .i64 me, .int .i64 N, .slice p n c] 36)).alloc (.cells #[.int .i64 0, .int .i64 0, .int .i64 0, .slice none 0 0] 58)) w.heap.size #[.int .i64 me, .int .i64 N, .slice p n c] 36) := Lib.hid ((Blk.new w #[.int .i64 me, .int .i64 N, .slice p n c] 36).alloc _)
   have Hr0 : Hid (Blk ((w.alloc (.cells #[.int .i64 me, .int .i64 N, .slice p n c] 36)).alloc (.cells #[.int .i64 0, .int .i64 0, .int .i64 0, .slice none 0 0] 58)) (w.heap.size + 1) #[.int .i64 0, .int .i64 0, .int .i64 0, .slice none 0 0] 58) := Lib.hid (Blk.new' (w.alloc (.cells #[.int .i64 me, .int .i64 N, .slice p n c] 36)) #[.int .i64 0, .int .i64 0, .int .i64 0, .slice none 0 0] 58 (by simp))
   have HZ0 : Hid (w.heap.size ≤ ((w.alloc (.cells #[.int .i64 me, .int .i64 N, .slice p n c] 36)).alloc (.cells #[.int .i64 0, .int .i64 0, .int .i64 0, .slice none 0 0] 58)).heap.size) := Lib.hid HB0.out.size
   go_enter Try.func52, Try.ntmps52
   go_upto_region 1 with fail
   generalize ((w.alloc (.cells #[.int .i64 me, .int .i64 N, .slice p n c] 36)).alloc (.cells #[.int .i64 0, .int .i64 0, .int .i64 0, .slice none 0 0] 58)) = W at *
   have HG := Lib.hid (find_any W me N p n c xs A [q] B cy (HR.out.kept HB0.out) HN.out.1 HN.out.2 HA.out)
   rw [show decide (([q] : List PtX) ≠ []) = true by simp] at HG
   have a0 : W.cell? ⟨w.heap.size, 0, none⟩ = some (.int .i64 me) := Hp0.out.cell 0
   have a1 : W.cell? ⟨w.heap.size, 1, none⟩ = some (.int .i64 N) := Hp0.out.cell 1
   have a2 : W.cell? ⟨w.heap.size, 2, none⟩ = some (.slice p n c) := Hp0.out.cell 2
   go_wp2_with fail
   clear a0 a1 a2
   refine HG.out.mono ?_
   rintro y w1 ⟨rfl, hb⟩
   clear HG
   have Hp1 := kbq Hp0 hb
   have Hr1 := kbq Hr0 hb
   have HB1 := ktq HB0 hb
   have HZ1 := kzq HZ0 hb.size
   clear Hp0 Hr0 HB0 HZ0
   clear hb
   obtain ⟨b, o, rfl, hbl, hcs⟩ := (HR.out.kept HB1.out).at_ A.length HIX.out
   have hq : xs[A.length]'HIX.out = q := by have e := HA.out.all; subst e; simp
   rw [hq] at hcs
   clear hq
   have hcapI : (A.length : Int) < (n : Int) := by have := HIX.out; have := HN.out; omega
   have c0 : w1.cell? ⟨b, o + A.length * 4, none⟩ = some (.int .i64 q.cy) := hcs 0 (by decide)
   have c1 : w1.cell? ⟨b, o + A.length * 4 + 1, none⟩ = some (.int .i64 q.cu) := hcs 1 (by decide)
   have c2 : w1.cell? ⟨b, o + A.length * 4 + 2, none⟩ = some (.int .i64 q.st) := hcs 2 (by decide)
   have c3 : w1.cell? ⟨b, o + A.length * 4 + 3, none⟩ = some (.slice q.p q.ls.length q.c) := hcs 3 (by decide)
   have HCS := Lib.hid hcs
   have HBL := Lib.hid hbl
   clear hcs hbl
   have a2 : w1.cell? ⟨w.heap.size, 2, none⟩ = some (.slice (some ⟨b, o, none⟩) n c) := Hp1.out.cell 2
   have HG := Lib.hid (decided_any q w1)
   unfold PtX.v at HG
   rw [HD.out] at HG
   go_wp2_with fail
   clear a2 c0 c1 c2 c3
   refine HG.out.mono ?_
   rintro y w2 ⟨rfl, hb⟩
   clear HG
   have hcs2 : ∀ t, t < 4 → w2.cell? ⟨b, o + A.length * 4 + t, none⟩ = (PtX.cells q)[t]? := fun t ht => (hb.cell (p := ⟨b, _, none⟩) HBL.out).trans (HCS.out t ht)
   have HC2 := Lib.hid hcs2
   clear hcs2
   clear HCS HBL
   have Hp2 := kbq Hp1 hb
   have Hr2 := kbq Hr1 hb
   have HB2 := ktq HB1 hb
   have HZ2 := kzq HZ1 hb.size
   clear Hp1 Hr1 HB1 HZ1
   clear hb
   go_upto_region 6 with fail
   have c0 : w2.cell? ⟨b, o + A.length * 4, none⟩ = some (.int .i64 q.cy) := HC2.out 0 (by decide)
   have c1 : w2.cell? ⟨b, o + A.length * 4 + 1, none⟩ = some (.int .i64 q.cu) := HC2.out 1 (by decide)
   have c2 : w2.cell? ⟨b, o + A.length * 4 + 2, none⟩ = some (.int .i64 q.st) := HC2.out 2 (by decide)
   have c3 : w2.cell? ⟨b, o + A.length * 4 + 3, none⟩ = some (.slice q.p q.ls.length q.c) := HC2.out 3 (by decide)
   have a2 : w2.cell? ⟨w.heap.size, 2, none⟩ = some (.slice (some ⟨b, o, none⟩) n c) := Hp2.out.cell 2
   go_wp2_with (with_reducible refine stop_storeT 58 (.tmp 4) (.tmp 28) rfl ?_)
   clear a2 c0 c1 c2 c3
   have HTH : Hid (w2.there (w.heap.size + 1) 0 4) := Hr2.out.thereAt
   have hch : Hid (Chg (w.heap.size + 1) w2 (w2.setCells (w.heap.size + 1) 0 (#[.int .i64 q.cy, .int .i64 q.cu, .int .i64 q.st, .slice q.p q.ls.length q.c] : Array Value).toList)) := Lib.hid (chg_putL _ _ _ _ _ (Chg.refl _ w2))
   have Hr3 : Hid (Blk (w2.setCells (w.heap.size + 1) 0 (#[.int .i64 q.cy, .int .i64 q.cu, .int .i64 q.st, .slice q.p q.ls.length q.c] : Array Value).toList) (w.heap.size + 1) #[.int .i64 q.cy, .int .i64 q.cu, .int .i64 q.st, .slice q.p q.ls.length q.c] 58) := Lib.hid (blk_put_all Hr2.out _ rfl)
   have HB3 : Hid (Below w.heap.size w (w2.setCells (w.heap.size + 1) 0 (#[.int .i64 q.cy, .int .i64 q.cu, .int .i64 q.st, .slice q.p q.ls.length q.c] : Array Value).toList)) := Lib.hid (below_put (by omega) _ _ _ _ HB2.out)
   have HZ3 := kzq HZ2 hch.out.size
   have Hp3 := kcq Hp2 hch (by omega)
   clear hch Hp2 Hr2 HB2 HZ2
   refine wpList_store_mid rfl 58 (.tmp 4) (.tmp 28) rfl (w.heap.size + 1) 0 #[.int .i64 q.cy, .int .i64 q.cu, .int .i64 q.st, .slice q.p q.ls.length q.c] rfl rfl HTH.out (infoQ4 rfl) (all_oneCell_toArray (by intro u hu; simp at hu; rcases hu with rfl | rfl | rfl | rfl <;> rfl)) ?_
   generalize (w2.setCells (w.heap.size + 1) 0 (#[.int .i64 q.cy, .int .i64 q.cu, .int .i64 q.st, .slice q.p q.ls.length q.c] : Array Value).toList) = W8 at *
   clear HTH
   go_wp2_with fail
   have hf := Hr3.out
   refine bodyPost_ret (v := .tuple #[.agg #[.int .i64 q.cy, .int .i64 q.cu, .int .i64 q.st, .slice q.p q.ls.length q.c], .int .i64 0]) (by simp [results, Try.results52, go_sem, hf.cell 0, hf.cell 1, hf.cell 2, hf.cell 3]) rfl ⟨rfl, HB3.out⟩
end Go.Proofs.Ytmhocihajobkkaa
namespace Go.Proofs.Ytmhocihajobkkaa
open Go.RowKit
def zeroVN : Value := .agg #[.int .i64 0, .int .i64 0, .int .i64 0, .int .i64 0]
theorem eltN : EltT encN Try.prog 43 50 zeroVN 32 := eltT_mk Try.underlying43 (by kernel_rfl)
end Go.Proofs.Ytmhocihajobkkaa
namespace Go.Proofs.Ytmhocihajobkkaa
open Go.RowKit
set_option linter.unusedSimpArgs false
theorem madeLn (w : World) (base : Nat) (hb : base ≤ w.heap.size) : OwnT encN (w.alloc (.cells #[] 50)) base 50 (.slice (some ⟨w.heap.size, 0, none⟩) 0 0) [] := ⟨by simp, .inr ⟨w.heap.size, 0, #[], rfl, hb, heap_alloc_new w _, Nat.le_refl _, by decide, by simp, by simp⟩⟩
set_option linter.unusedSimpArgs false in
set_option maxHeartbeats 4000000 in
set_option maxRecDepth 100000 in
theorem cloneLn_any (w : World) (v : Value) (xs : List Lin) (hr : TRow encN w v xs) (hn : xs.length ≤ 2000) :
  Calls Try.prog 22 #[v] w fun e w' => ∃ v', e = .returned v' ∧ OwnT encN w' w.heap.size 50 v' xs ∧ Below w.heap.size w w' := by
 obtain ⟨p, c, rfl⟩ := hr.shape
 cases p with
 | none =>
  have hx : xs = [] := by
   obtain ⟨p', c', e1, _, h⟩ := hr
   cases e1
   rcases h with h | ⟨b, o, h, _⟩
   ·exact h
   ·cases h
  subst hx
  clear hr
  have kq := Lib.run_eql_slice_nil (P := Try.prog) w 43 50 none 0 c 0 0 Try.underlying43
  simp only [List.length_nil]
  go_enter Try.func22, Try.ntmps22
  go_wp2
  go_ret
  exact ⟨_, rfl, OwnT.nil_ _ _ _ _, Below.refl _ _⟩
 | some a =>
  have HR := Lib.hid hr
  have HM := Lib.hid (madeLn w w.heap.size (Nat.le_refl _))
  have HB := Lib.hid (oneB w (.cells #[] 50))
  clear hr
  generalize hl : xs.length = n at *
  have HL := Lib.hid hl
  clear hl
  have kq := Lib.run_eql_slice_nil (P := Try.prog) w 43 50 (some a) n c 0 0 Try.underlying43
  go_enter Try.func22, Try.ntmps22
  go_wp2_with (at_builtin; with_reducible refine stop_appendI (.tmp 5) (.tmp 6) 43 rfl ?_)
  refine wpList_append_t rfl (.tmp 5) (.tmp 6) 43 rfl 50 zeroVN 32 w.heap.size eltN rfl (by decide) (.slice (some ⟨w.heap.size, 0, none⟩) 0 0) (.slice (some a) n c) [] xs rfl rfl HM.out (HR.out.kept HB.out) (by have := HL.out; simp; omega) HB.out.size xs n (List.nil_append _) HL.out ?_
  intro p' c' w' ho _ hb
  have HO := Lib.hid ho
  have HB2 := Lib.hid (HB.out.trans hb)
  clear ho hb
  go_wp2_with fail
  go_ret
  exact ⟨_, rfl, HO.out, HB2.out⟩
theorem eltIn : Elt Try.prog 63 3 .i64 8 := elt_mkM Try.underlying63 (by kernel_rfl)
/-- The cycles that aren't decided. -/
def waitL (xs : List PtX) : List Int := (xs.filter (fun x => !decB x)).map PtX.cy
theorem waitL_take {xs : List PtX} {k : Nat} (hk : k < xs.length) : waitL (xs.take (k + 1)) = waitL (xs.take k) ++ (if decB xs[k] = true then [] else [xs[k].cy]) := by
 unfold waitL
 rw [List.take_succ_eq_append_getElem hk, List.filter_append, List.map_append]
 congr 1
 cases h : decB xs[k] <;> simp [h]
theorem waitL_len (xs : List PtX) : (waitL xs).length ≤ xs.length := by
 unfold waitL
 rw [List.length_map]
 exact List.length_filter_le _ _
set_option linter.unusedSimpArgs false in
set_option maxHeartbeats 4000000 in
set_option maxRecDepth 100000 in
theorem vwaits_any (w : World) (me N : Int) (p : Option Addr) (n c : Nat) (xs : List PtX) (hr : TRow encP w (.slice p n c) xs) (hn : n = xs.length) (hl : n ≤ 2000) :
  Calls Try.prog 13 #[.agg #[.int .i64 me, .int .i64 N, .slice p n c]] w fun y w' => ∃ p' n' c', y = .returned (.slice p' n' c') ∧ n' = (waitL xs).length ∧ Below w.heap.size w w' := by
 have HR := Lib.hid hr
 have HN : Hid (n = xs.length ∧ n ≤ 2000) := Lib.hid ⟨hn, hl⟩
 clear hr hn hl
 have HB0 : Hid (Below w.heap.size w (w.alloc (.cells #[.int .i64 me, .int .i64 N, .slice p n c] 36))) := Lib.hid ((oneB w _))
 have Hp0 : Hid (Blk (w.alloc (.cells #[.int .i64 me, .int .i64 N, .slice p n c] 36)) w.heap.size #[.int .i64 me, .int .i64 N, .slice p n c] 36) := Lib.hid (Blk.new w #[.int .i64 me, .int .i64 N, .slice p n c] 36)
 have HZ0 : Hid (w.heap.size ≤ (w.alloc (.cells #[.int .i64 me, .int .i64 N, .slice p n c] 36)).heap.size) := Lib.hid HB0.out.size
 go_enter Try.func13, Try.ntmps13
 go_upto_region 2 with fail
 generalize (w.alloc (.cells #[.int .i64 me, .int .i64 N, .slice p n c] 36)) = W at *
 have HREL : Hid (Blk W w.heap.size #[.int .i64 me, .int .i64 N, .slice p n c] 36 ∧ Own .i64 W (w.heap.size + 1) 3 (.slice none 0 0) (waitL (xs.take 0)) ∧ Below w.heap.size w W) := ⟨Hp0.out, Own.nil_ _ _ _ _, HB0.out⟩
 have a2 : W.cell? ⟨w.heap.size, 2, none⟩ = some (.slice p n c) := Hp0.out.cell 2
 go_wp2_with fail
 clear a2 Hp0 HB0 HZ0
 go_loopw [3, 9] (fun v i wr => ∃ k : Nat, k ≤ n ∧ i = .int .i64 k ∧ Hid (Blk wr w.heap.size #[.int .i64 me, .int .i64 N, .slice p n c] 36 ∧ Own .i64 wr (w.heap.size + 1) 3 v (waitL (xs.take k)) ∧ Below w.heap.size w wr)) (fun _ i _ => n - (intOf i).toNat)
 case atStart => exact ⟨0, by omega, rfl, HREL⟩
 case round =>
  clear HREL
  obtain ⟨k, hk, rfl, HK⟩ := hrel
  obtain ⟨pz, cz, hvz⟩ := HK.out.2.1.form
  have HLZ : Hid ((waitL (xs.take k)).length ≤ k) := by show _ ≤ _; have := waitL_len (xs.take k); rw [List.length_take] at this; omega
  generalize hmz : (waitL (xs.take k)).length = mz at *
  subst hvz
  have HMZ := Lib.hid hmz
  clear hmz
  by_cases hlt : k < n
  ·skip
   have hkl : k < xs.length := by have := HN.out; omega
   have hltI : (k : Int) < (n : Int) := by omega
   have hk9 : k + 1 ≤ 2001 := by have := HN.out; omega
   have HWT := Lib.hid (waitL_take hkl)
   have HRK := Lib.hid (HR.out.kept HK.out.2.2)
   obtain ⟨b, o, rfl, hbl, hcs⟩ := HRK.out.at_ k hkl
   clear HRK
   generalize xs[k] = x at *
   have c0 : wr.cell? ⟨b, o + k * 4, none⟩ = some (.int .i64 x.cy) := hcs 0 (by decide)
   have c1 : wr.cell? ⟨b, o + k * 4 + 1, none⟩ = some (.int .i64 x.cu) := hcs 1 (by decide)
   have c2 : wr.cell? ⟨b, o + k * 4 + 2, none⟩ = some (.int .i64 x.st) := hcs 2 (by decide)
   have c3 : wr.cell? ⟨b, o + k * 4 + 3, none⟩ = some (.slice x.p x.ls.length x.c) := hcs 3 (by decide)
   have HX := Lib.hid (Blk.new wr #[.int .i64 x.cy, .int .i64 x.cu, .int .i64 x.st, .slice x.p x.ls.length x.c] 58)
   have HO := Lib.hid (HK.out.2.1.later (oneB wr (.cells #[.int .i64 x.cy, .int .i64 x.cu, .int .i64 x.st, .slice x.p x.ls.length x.c] 58)))
   have HP := Lib.hid (HK.out.1.alloc (.cells #[.int .i64 x.cy, .int .i64 x.cu, .int .i64 x.st, .slice x.p x.ls.length x.c] 58))
   have HB1 := Lib.hid (HK.out.2.2.alloc HK.out.2.2.size (.cells #[.int .i64 x.cy, .int .i64 x.cu, .int .i64 x.st, .slice x.p x.ls.length x.c] 58))
   clear hcs HK
   go_upto_region 5 with fail
   clear c0 c1 c2 c3
   generalize (wr.alloc (.cells #[.int .i64 x.cy, .int .i64 x.cu, .int .i64 x.st, .slice x.p x.ls.length x.c] 58)) = W2 at *
   generalize wr.heap.size = gx at *
   have HG := Lib.hid (decided_any x W2)
   unfold PtX.v at HG
   have c0 : W2.cell? ⟨gx, 0, none⟩ = some (.int .i64 x.cy) := HX.out.cell 0
   have c1 : W2.cell? ⟨gx, 1, none⟩ = some (.int .i64 x.cu) := HX.out.cell 1
   have c2 : W2.cell? ⟨gx, 2, none⟩ = some (.int .i64 x.st) := HX.out.cell 2
   have c3 : W2.cell? ⟨gx, 3, none⟩ = some (.slice x.p x.ls.length x.c) := HX.out.cell 3
   go_wp2_with fail
   clear c0 c1 c2 c3
   refine HG.out.mono ?_
   rintro y9 w3 ⟨rfl, hb⟩
   clear HG
   have HX3 := kbq HX hb
   have HO3 := Lib.hid (HO.out.later hb)
   have HP3 := kbq HP hb
   have HB3 := ktq HB1 hb
   clear hb HX HO HP HB1
   cases hd : decB x
   ·skip
    have HFL : Hid (waitL (xs.take (k + 1)) = waitL (xs.take k) ++ [x.cy]) := by show _ = _; rw [HWT.out, hd]; rfl
    clear HWT hd
    have c0 : w3.cell? ⟨gx, 0, none⟩ = some (.int .i64 x.cy) := HX3.out.cell 0
    go_wp2_with (at_builtin; with_reducible refine stop_appendI (.tmp 16) (.tmp 19) 63 rfl ?_)
    clear c0
    refine wpList_append_row rfl (.tmp 16) (.tmp 19) 63 rfl 3 .i64 8 (w.heap.size + 1) eltIn (.slice pz mz cz) (.slice (some ⟨w3.heap.size, 0, none⟩) 1 1) (waitL (xs.take k)) [x.cy] rfl rfl (HO3.out.alloc (.cells #[.int .i64 x.cy] 3)) ⟨some ⟨w3.heap.size, 0, none⟩, 1, rfl, Nat.le_refl _, .inr ⟨w3.heap.size, 0, rfl, fun i hi => ?_⟩⟩ (by rw [HMZ.out]; have := HLZ.out; simp; omega) (by rw [HMZ.out]; have := HLZ.out; simp; omega) (by have h1 := HP3.out.lt; have h2 := (oneB w3 (.cells #[.int .i64 x.cy] 3)).size; omega) (waitL (xs.take k) ++ [x.cy]) (mz + 1) rfl (by rw [List.length_append, HMZ.out]; rfl) ?_
    ·obtain rfl : i = 0 := by simp at hi; omega
     exact (Blk.new w3 #[.int .i64 x.cy] 3).cell 0
    intro p9 c9 w9 ho9 hb9
    have HNX : Hid (Blk w9 w.heap.size #[.int .i64 me, .int .i64 N, .slice (some ⟨b, o, none⟩) n c] 36 ∧ Own .i64 w9 (w.heap.size + 1) 3 (.slice p9 (mz + 1) c9) (waitL (xs.take (k + 1))) ∧ Below w.heap.size w w9) := ⟨(HP3.out.alloc _).below hb9 (by omega), by rw [HFL.out]; exact ho9, HB3.out.trans (((Below.refl _ _).alloc HB3.out.size _).trans (hb9.mono (by omega)))⟩
    clear ho9 hb9
    go_wp2_with fail
    go_roundw
    case rel => exact ⟨k + 1, by omega, by go_num, HNX⟩
    case measure => simp [intOf]; omega
   ·skip
    have HFL : Hid (waitL (xs.take (k + 1)) = waitL (xs.take k)) := by show _ = _; rw [HWT.out, hd]; simp
    clear HWT hd
    have HNX : Hid (Blk w3 w.heap.size #[.int .i64 me, .int .i64 N, .slice (some ⟨b, o, none⟩) n c] 36 ∧ Own .i64 w3 (w.heap.size + 1) 3 (.slice pz mz cz) (waitL (xs.take (k + 1))) ∧ Below w.heap.size w w3) := ⟨HP3.out, by rw [HFL.out]; exact HO3.out, HB3.out⟩
    go_wp2_with fail
    go_roundw
    case rel => exact ⟨k + 1, by omega, by go_num, HNX⟩
    case measure => simp [intOf]; omega
  ·have hltI : ¬ (k : Int) < (n : Int) := by omega
   have HTK : Hid (xs.take k = xs) := by show _ = _; rw [List.take_of_length_le (by have := HN.out; omega)]
   go_wp2_with fail
   go_ret
   exact ⟨_, _, ⟨_, rfl⟩, by rw [← HMZ.out, HTK.out], HK.out.2.2⟩
set_option linter.unusedSimpArgs false in
set_option maxHeartbeats 4000000 in
set_option maxRecDepth 100000 in
theorem vget_any (w : World) (me N : Int) (p : Option Addr) (n c : Nat) (xs : List PtX) (cy : Int) (P : Nat → Prop) (hr : PtsR P w (.slice p n c) xs) (hn : n = xs.length) (hl : xs.length ≤ 2000) (hql : ∀ z ∈ xs, z.ls.length ≤ 2000) :
  Calls Try.prog 11 #[.agg #[.int .i64 me, .int .i64 N, .slice p n c], .int .i64 cy] w fun y w' => (match findC xs cy with | none => y = .returned (.tuple #[.agg #[.int .i64 0, .int .i64 0, .int .i64 0, .slice none 0 0], .bool false]) | some q => ∃ p' c', y = .returned (.tuple #[.agg #[.int .i64 q.cy, .int .i64 q.cu, .int .i64 q.st, .slice p' q.ls.length c'], .bool true])) ∧ Below w.heap.size w w' := by
 obtain ⟨A, mid, B, hA⟩ := aroundF_of_sorted posC ⟨cy, 0, 0⟩ xs hr.srt
 rw [findC_around hA]
 have HR := Lib.hid hr.row
 have HN : Hid (n = xs.length ∧ xs.length ≤ 2000) := ⟨hn, hl⟩
 have hm := hA.mid1
 have HA := Lib.hid hA
 clear hn hl hA
 rcases hm with rfl | ⟨q, rfl, _⟩
 ·show Calls _ _ _ _ (fun y w' => y = .returned (.tuple #[.agg #[.int .i64 0, .int .i64 0, .int .i64 0, .slice none 0 0], .bool false]) ∧ Below w.heap.size w w')
  clear hr hql
  have HB0 : Hid (Below w.heap.size w ((w.alloc (.cells #[.int .i64 me, .int .i64 N, .slice p n c] 36)).alloc (.cells #[.int .i64 0, .int .i64 0, .int .i64 0, .slice none 0 0] 58))) := Lib.hid (((oneB w _).alloc (by simp <;> omega) _))
  have Hp0 : Hid (Blk ((w.alloc (.cells #[.int .i64 me, .int .i64 N, .slice p n c] 36)).alloc (.cells #[.int .i64 0, .int .i64 0, .int .i64 0, .slice none 0 0] 58)) w.heap.size #[.int .i64 me, .int .i64 N, .slice p n c] 36) := Lib.hid ((Blk.new w #[.int .i64 me, .int .i64 N, .slice p n c] 36).alloc _)
  have Hr0 : Hid (Blk ((w.alloc (.cells #[.int .i64 me, .int .i64 N, .slice p n c] 36)).alloc (.cells #[.int .i64 0, .int .i64 0, .int .i64 0, .slice none 0 0] 58)) (w.heap.size + 1) #[.int .i64 0, .int .i64 0, .int .i64 0, .slice none 0 0] 58) := Lib.hid (Blk.new' (w.alloc (.cells #[.int .i64 me, .int .i64 N, .slice p n c] 36)) #[.int .i64 0, .int .i64 0, .int .i64 0, .slice none 0 0] 58 (by simp))
  have HZ0 : Hid (w.heap.size ≤ ((w.alloc (.cells #[.int .i64 me, .int .i64 N, .slice p n c] 36)).alloc (.cells #[.int .i64 0, .int .i64 0, .int .i64 0, .slice none 0 0] 58)).heap.size) := Lib.hid HB0.out.size
  go_enter Try.func11, Try.ntmps11
  go_upto_region 1 with fail
  generalize ((w.alloc (.cells #[.int .i64 me, .int .i64 N, .slice p n c] 36)).alloc (.cells #[.int .i64 0, .int .i64 0, .int .i64 0, .slice none 0 0] 58)) = W at *
  have HG := Lib.hid (find_any W me N p n c xs A [] B cy (HR.out.kept HB0.out) HN.out.1 HN.out.2 HA.out)
  rw [show decide (([] : List PtX) ≠ []) = false by simp] at HG
  have a0 : W.cell? ⟨w.heap.size, 0, none⟩ = some (.int .i64 me) := Hp0.out.cell 0
  have a1 : W.cell? ⟨w.heap.size, 1, none⟩ = some (.int .i64 N) := Hp0.out.cell 1
  have a2 : W.cell? ⟨w.heap.size, 2, none⟩ = some (.slice p n c) := Hp0.out.cell 2
  go_wp2_with fail
  clear a0 a1 a2
  refine HG.out.mono ?_
  rintro y9 w1 ⟨rfl, hb⟩
  clear HG
  have Hp1 := kbq Hp0 hb
  have Hr1 := kbq Hr0 hb
  have HB1 := ktq HB0 hb
  have HZ1 := kzq HZ0 hb.size
  clear Hp0 Hr0 HB0 HZ0
  clear hb
  go_upto_region 3 with fail
  go_wp2_with (with_reducible refine stop_storeT 58 (.tmp 4) (.tmp 17) rfl ?_)
  have HTH : Hid (w1.there (w.heap.size + 1) 0 4) := Hr1.out.thereAt
  have hch : Hid (Chg (w.heap.size + 1) w1 (w1.setCells (w.heap.size + 1) 0 (#[.int .i64 0, .int .i64 0, .int .i64 0, .slice none 0 0] : Array Value).toList)) := Lib.hid (chg_putL _ _ _ _ _ (Chg.refl _ w1))
  have Hr2 : Hid (Blk (w1.setCells (w.heap.size + 1) 0 (#[.int .i64 0, .int .i64 0, .int .i64 0, .slice none 0 0] : Array Value).toList) (w.heap.size + 1) #[.int .i64 0, .int .i64 0, .int .i64 0, .slice none 0 0] 58) := Lib.hid (blk_put_all Hr1.out _ rfl)
  have HB2 : Hid (Below w.heap.size w (w1.setCells (w.heap.size + 1) 0 (#[.int .i64 0, .int .i64 0, .int .i64 0, .slice none 0 0] : Array Value).toList)) := Lib.hid (below_put (by omega) _ _ _ _ HB1.out)
  have HZ2 := kzq HZ1 hch.out.size
  have Hp2 := kcq Hp1 hch (by omega)
  clear hch Hp1 Hr1 HB1 HZ1
  refine wpList_store_mid rfl 58 (.tmp 4) (.tmp 17) rfl (w.heap.size + 1) 0 #[.int .i64 0, .int .i64 0, .int .i64 0, .slice none 0 0] rfl rfl HTH.out (infoQ4 rfl) (all_oneCell_toArray (by intro u hu; simp at hu; rcases hu with rfl | rfl | rfl | rfl <;> rfl)) ?_
  generalize (w1.setCells (w.heap.size + 1) 0 (#[.int .i64 0, .int .i64 0, .int .i64 0, .slice none 0 0] : Array Value).toList) = W8 at *
  clear HTH
  go_wp2_with fail
  have hfr := Hr2.out
  refine bodyPost_ret (v := .tuple #[.agg #[.int .i64 0, .int .i64 0, .int .i64 0, .slice none 0 0], .bool false]) (by simp [results, Try.results11, go_sem, hfr.cell 0, hfr.cell 1, hfr.cell 2, hfr.cell 3]) rfl ⟨rfl, HB2.out⟩
 ·have hqm : q ∈ xs := by rw [HA.out.all]; simp
  have HQR := Lib.hid (hr.ls q hqm).1
  have HQL := Lib.hid (hql q hqm)
  have HIX : Hid (A.length < xs.length) := by show _ < _; have e := HA.out.all; rw [e]; simp <;> omega
  clear hr hql hqm
  show Calls _ _ _ _ (fun y w' => (∃ p' c', y = .returned (.tuple #[.agg #[.int .i64 q.cy, .int .i64 q.cu, .int .i64 q.st, .slice p' q.ls.length c'], .bool true])) ∧ Below w.heap.size w w')
  have HB0 : Hid (Below w.heap.size w ((w.alloc (.cells #[.int .i64 me, .int .i64 N, .slice p n c] 36)).alloc (.cells #[.int .i64 0, .int .i64 0, .int .i64 0, .slice none 0 0] 58))) := Lib.hid (((oneB w _).alloc (by simp <;> omega) _))
  have Hp0 : Hid (Blk ((w.alloc (.cells #[.int .i64 me, .int .i64 N, .slice p n c] 36)).alloc (.cells #[.int .i64 0, .int .i64 0, .int .i64 0, .slice none 0 0] 58)) w.heap.size #[.int .i64 me, .int .i64 N, .slice p n c] 36) := Lib.hid ((Blk.new w #[.int .i64 me, .int .i64 N, .slice p n c] 36).alloc _)
  have Hr0 : Hid (Blk ((w.alloc (.cells #[.int .i64 me, .int .i64 N, .slice p n c] 36)).alloc (.cells #[.int .i64 0, .int .i64 0, .int .i64 0, .slice none 0 0] 58)) (w.heap.size + 1) #[.int .i64 0, .int .i64 0, .int .i64 0, .slice none 0 0] 58) := Lib.hid (Blk.new' (w.alloc (.cells #[.int .i64 me, .int .i64 N, .slice p n c] 36)) #[.int .i64 0, .int .i64 0, .int .i64 0, .slice none 0 0] 58 (by simp))
  have HZ0 : Hid (w.heap.size ≤ ((w.alloc (.cells #[.int .i64 me, .int .i64 N, .slice p n c] 36)).alloc (.cells #[.int .i64 0, .int .i64 0, .int .i64 0, .slice none 0 0] 58)).heap.size) := Lib.hid HB0.out.size
  go_enter Try.func11, Try.ntmps11
  go_upto_region 1 with fail
  generalize ((w.alloc (.cells #[.int .i64 me, .int .i64 N, .slice p n c] 36)).alloc (.cells #[.int .i64 0, .int .i64 0, .int .i64 0, .slice none 0 0] 58)) = W at *
  have HG := Lib.hid (find_any W me N p n c xs A [q] B cy (HR.out.kept HB0.out) HN.out.1 HN.out.2 HA.out)
  rw [show decide (([q] : List PtX) ≠ []) = true by simp] at HG
  have a0 : W.cell? ⟨w.heap.size, 0, none⟩ = some (.int .i64 me) := Hp0.out.cell 0
  have a1 : W.cell? ⟨w.heap.size, 1, none⟩ = some (.int .i64 N) := Hp0.out.cell 1
  have a2 : W.cell? ⟨w.heap.size, 2, none⟩ = some (.slice p n c) := Hp0.out.cell 2
  go_wp2_with fail
  clear a0 a1 a2
  refine HG.out.mono ?_
  rintro y9 w1 ⟨rfl, hb⟩
  clear HG
  have Hp1 := kbq Hp0 hb
  have Hr1 := kbq Hr0 hb
  have HB1 := ktq HB0 hb
  have HZ1 := kzq HZ0 hb.size
  clear Hp0 Hr0 HB0 HZ0
  clear hb
  obtain ⟨b, o, rfl, hbl, hcs⟩ := (HR.out.kept HB1.out).at_ A.length HIX.out
  have hq : xs[A.length]'HIX.out = q := by have e := HA.out.all; subst e; simp
  rw [hq] at hcs
  clear hq
  have hcapI : (A.length : Int) < (n : Int) := by have := HIX.out; have := HN.out; omega
  have c0 : w1.cell? ⟨b, o + A.length * 4, none⟩ = some (.int .i64 q.cy) := hcs 0 (by decide)
  have c1 : w1.cell? ⟨b, o + A.length * 4 + 1, none⟩ = some (.int .i64 q.cu) := hcs 1 (by decide)
  have c2 : w1.cell? ⟨b, o + A.length * 4 + 2, none⟩ = some (.int .i64 q.st) := hcs 2 (by decide)
  have c3 : w1.cell? ⟨b, o + A.length * 4 + 3, none⟩ = some (.slice q.p q.ls.length q.c) := hcs 3 (by decide)
  clear hcs
  have a2 : w1.cell? ⟨w.heap.size, 2, none⟩ = some (.slice (some ⟨b, o, none⟩) n c) := Hp1.out.cell 2
  have HLR := Lib.hid ((HQR.out.kept HB1.out).kept (oneB w1 (.cells #[.int .i64 q.cy, .int .i64 q.cu, .int .i64 q.st, .slice q.p q.ls.length q.c] 58)))
  have HLX : Hid (w.heap.size + 1 < w1.heap.size) := Lib.hid Hr1.out.lt
  have hba := oneB w1 (.cells #[.int .i64 q.cy, .int .i64 q.cu, .int .i64 q.st, .slice q.p q.ls.length q.c] 58)
  have Hp2 := kbq Hp1 hba
  have Hr2 := kbq Hr1 hba
  have Hx2 := Lib.hid (Blk.new w1 #[.int .i64 q.cy, .int .i64 q.cu, .int .i64 q.st, .slice q.p q.ls.length q.c] 58)
  have HB2 := Lib.hid (HB1.out.alloc HB1.out.size (.cells #[.int .i64 q.cy, .int .i64 q.cu, .int .i64 q.st, .slice q.p q.ls.length q.c] 58))
  have HZ2 := kzq HZ1 hba.size
  have HGgx : Hid (w.heap.size ≤ w1.heap.size) := Lib.hid HB1.out.size
  clear hba Hp1 Hr1 HB1 HZ1
  go_upto_region 5 with fail
  clear a2 c0 c1 c2 c3 hcapI
  generalize (w1.alloc (.cells #[.int .i64 q.cy, .int .i64 q.cu, .int .i64 q.st, .slice q.p q.ls.length q.c] 58)) = W2 at *
  generalize hggx : w1.heap.size = gx at *
  clear hggx
  have HG := Lib.hid (cloneLn_any W2 _ _ HLR.out HQL.out)
  have a3 : W2.cell? ⟨gx, 3, none⟩ = some (.slice q.p q.ls.length q.c) := Hx2.out.cell 3
  go_wp2_with fail
  clear a3
  refine HG.out.mono ?_
  rintro y9 w3 ⟨v3, rfl, ho, hb⟩
  clear HG
  obtain ⟨p3, c3, rfl⟩ := ho.form
  clear ho
  have Hp3 := kbq Hp2 hb
  have Hr3 := kbq Hr2 hb
  have Hx3 := kbq Hx2 hb
  have HB3 := ktq HB2 hb
  have HZ3 := kzq HZ2 hb.size
  clear Hp2 Hr2 Hx2 HB2 HZ2
  clear hb
  have z3 : w3.cell? ⟨gx, 3, none⟩ = some (.slice q.p q.ls.length q.c) := Hx3.out.cell 3
  have f3 := Hx3.out.free 3
  go_upto_region 6 with fail
  clear z3 f3
  have hch : Hid (Chg gx w3 (w3.setCell ⟨gx, 3, none⟩ (.slice p3 q.ls.length c3))) := Lib.hid ((Chg.refl gx w3).set 3 _)
  have Hx4 : Hid (Blk _ gx #[.int .i64 q.cy, .int .i64 q.cu, .int .i64 q.st, .slice p3 q.ls.length c3] 58) := Lib.hid (Hx3.out.set 3 _)
  have HB4 := ksq HB3 hch (by show w.heap.size ≤ gx; have := HGgx.out; omega)
  have HZ4 : Hid (w.heap.size ≤ (w3.setCell ⟨gx, 3, none⟩ (.slice p3 q.ls.length c3)).heap.size) := Lib.hid HB4.out.size
  have Hp4 := kcq Hp3 hch (by have h9 := HLX.out; omega)
  have Hr4 := kcq Hr3 hch (by have h9 := HLX.out; omega)
  clear hch Hp3 Hr3 Hx3 HB3 HZ3
  generalize (w3.setCell ⟨gx, 3, none⟩ (.slice p3 q.ls.length c3)) = W4 at *
  have a0 : W4.cell? ⟨gx, 0, none⟩ = some (.int .i64 q.cy) := Hx4.out.cell 0
  have a1 : W4.cell? ⟨gx, 1, none⟩ = some (.int .i64 q.cu) := Hx4.out.cell 1
  have a2 : W4.cell? ⟨gx, 2, none⟩ = some (.int .i64 q.st) := Hx4.out.cell 2
  have a3 : W4.cell? ⟨gx, 3, none⟩ = some (.slice p3 q.ls.length c3) := Hx4.out.cell 3
  go_wp2_with (with_reducible refine stop_storeT 58 (.tmp 4) (.tmp 27) rfl ?_)
  clear a0 a1 a2 a3
  have HTH : Hid (W4.there (w.heap.size + 1) 0 4) := Hr4.out.thereAt
  have hch : Hid (Chg (w.heap.size + 1) W4 (W4.setCells (w.heap.size + 1) 0 (#[.int .i64 q.cy, .int .i64 q.cu, .int .i64 q.st, .slice p3 q.ls.length c3] : Array Value).toList)) := Lib.hid (chg_putL _ _ _ _ _ (Chg.refl _ W4))
  have Hr5 : Hid (Blk (W4.setCells (w.heap.size + 1) 0 (#[.int .i64 q.cy, .int .i64 q.cu, .int .i64 q.st, .slice p3 q.ls.length c3] : Array Value).toList) (w.heap.size + 1) #[.int .i64 q.cy, .int .i64 q.cu, .int .i64 q.st, .slice p3 q.ls.length c3] 58) := Lib.hid (blk_put_all Hr4.out _ rfl)
  have HB5 : Hid (Below w.heap.size w (W4.setCells (w.heap.size + 1) 0 (#[.int .i64 q.cy, .int .i64 q.cu, .int .i64 q.st, .slice p3 q.ls.length c3] : Array Value).toList)) := Lib.hid (below_put (by have h9 := HLX.out; omega) _ _ _ _ HB4.out)
  have HZ5 := kzq HZ4 hch.out.size
  have Hp5 := kcq Hp4 hch (by have h9 := HLX.out; omega)
  have Hx5 := kcq Hx4 hch (by have h9 := HLX.out; omega)
  clear hch Hp4 Hr4 Hx4 HB4 HZ4
  refine wpList_store_mid rfl 58 (.tmp 4) (.tmp 27) rfl (w.heap.size + 1) 0 #[.int .i64 q.cy, .int .i64 q.cu, .int .i64 q.st, .slice p3 q.ls.length c3] rfl rfl HTH.out (infoQ4 rfl) (all_oneCell_toArray (by intro u hu; simp at hu; rcases hu with rfl | rfl | rfl | rfl <;> rfl)) ?_
  generalize (W4.setCells (w.heap.size + 1) 0 (#[.int .i64 q.cy, .int .i64 q.cu, .int .i64 q.st, .slice p3 q.ls.length c3] : Array Value).toList) = W8 at *
  clear HTH
  go_wp2_with fail
  have hfr := Hr5.out
  refine bodyPost_ret (v := .tuple #[.agg #[.int .i64 q.cy, .int .i64 q.cu, .int .i64 q.st, .slice p3 q.ls.length c3], .bool true]) (by simp [results, Try.results11, go_sem, hfr.cell 0, hfr.cell 1, hfr.cell 2, hfr.cell 3]) rfl ⟨⟨p3, c3, rfl⟩, HB5.out⟩
end Go.Proofs.Ytmhocihajobkkaa
namespace Go.Proofs.Ytmhocihajobkkaa
open Go.RowKit
/-- Something that is said to a node, as it lies in cells. -/
structure SdX where
 tw : Int
 x : MsgX
def SdX.cells (y : SdX) : List Value := .int .i64 y.tw :: y.x.cells
def encS : Enc SdX := ⟨12, SdX.cells, by decide, fun _ => rfl, by
 intro y u hu
 simp only [SdX.cells, List.mem_cons] at hu
 rcases hu with rfl | hu
 ·rfl
 ·exact encM.one y.x u hu⟩
def zeroVS : Value := .agg #[.int .i64 0, .int .i64 0, .int .i64 0, .int .i64 0, .int .i64 0, .int .i64 0, .int .i64 0, .int .i64 0, .int .i64 0, .bool false, .slice none 0 0, .slice none 0 0]
theorem eltS : EltT encS Try.prog 37 48 zeroVS 128 := eltT_mk Try.underlying37 (by kernel_rfl)
/-- A message without lists. -/
def msgX0 (m : Msg) : MsgX := ⟨m, none, 0, none, 0⟩
end Go.Proofs.Ytmhocihajobkkaa
namespace Go.Proofs.Ytmhocihajobkkaa
open Go.RowKit
/-- An item and an error's number as what a call answers. -/
def ansI (p : Itm × Int) : Ending := .returned (.tuple #[p.1.v, .int .i64 p.2])
theorem retA {p q : Itm × Int} (h : p = q) : ansI p = ansI q := by rw [h]
/-- A whole item stored into block b. -/
abbrev set8 (w : World) (b : Nat) (x : Itm) : World := ((((((((w.setCell ⟨b, 0, none⟩ (.int .i64 x.s)).setCell ⟨b, 1, none⟩ (.int .i64 x.n)).setCell ⟨b, 2, none⟩ (.int .i64 x.b)).setCell ⟨b, 3, none⟩ (.int .i64 x.c)).setCell ⟨b, 4, none⟩ (.int .i64 x.a)).setCell ⟨b, 5, none⟩ (.int .i64 x.r)).setCell ⟨b, 6, none⟩ (.int .i64 x.t)).setCell ⟨b, 7, none⟩ (.int .i64 x.y))
abbrev Itm.row (x : Itm) : Array Value := #[.int .i64 x.s, .int .i64 x.n, .int .i64 x.b, .int .i64 x.c, .int .i64 x.a, .int .i64 x.r, .int .i64 x.t, .int .i64 x.y]
abbrev zeroI : Itm := ⟨0, 0, 0, 0, 0, 0, 0, 0⟩
theorem blk_set8 {w : World} {b : Nat} {z : Itm} {t : TypeId} (h : Blk w b z.row t) (x : Itm) : Blk (set8 w b x) b x.row t := by
 have h0 : Blk (w.setCell ⟨b, 0, none⟩ (.int .i64 x.s)) b #[.int .i64 x.s, .int .i64 z.n, .int .i64 z.b, .int .i64 z.c, .int .i64 z.a, .int .i64 z.r, .int .i64 z.t, .int .i64 z.y] t := h.set 0 (.int .i64 x.s)
 have h1 : Blk ((w.setCell ⟨b, 0, none⟩ (.int .i64 x.s)).setCell ⟨b, 1, none⟩ (.int .i64 x.n)) b #[.int .i64 x.s, .int .i64 x.n, .int .i64 z.b, .int .i64 z.c, .int .i64 z.a, .int .i64 z.r, .int .i64 z.t, .int .i64 z.y] t := h0.set 1 (.int .i64 x.n)
 have h2 : Blk (((w.setCell ⟨b, 0, none⟩ (.int .i64 x.s)).setCell ⟨b, 1, none⟩ (.int .i64 x.n)).setCell ⟨b, 2, none⟩ (.int .i64 x.b)) b #[.int .i64 x.s, .int .i64 x.n, .int .i64 x.b, .int .i64 z.c, .int .i64 z.a, .int .i64 z.r, .int .i64 z.t, .int .i64 z.y] t := h1.set 2 (.int .i64 x.b)
 have h3 : Blk ((((w.setCell ⟨b, 0, none⟩ (.int .i64 x.s)).setCell ⟨b, 1, none⟩ (.int .i64 x.n)).setCell ⟨b, 2, none⟩ (.int .i64 x.b)).setCell ⟨b, 3, none⟩ (.int .i64 x.c)) b #[.int .i64 x.s, .int .i64 x.n, .int .i64 x.b, .int .i64 x.c, .int .i64 z.a, .int .i64 z.r, .int .i64 z.t, .int .i64 z.y] t := h2.set 3 (.int .i64 x.c)
 have h4 : Blk (((((w.setCell ⟨b, 0, none⟩ (.int .i64 x.s)).setCell ⟨b, 1, none⟩ (.int .i64 x.n)).setCell ⟨b, 2, none⟩ (.int .i64 x.b)).setCell ⟨b, 3, none⟩ (.int .i64 x.c)).setCell ⟨b, 4, none⟩ (.int .i64 x.a)) b #[.int .i64 x.s, .int .i64 x.n, .int .i64 x.b, .int .i64 x.c, .int .i64 x.a, .int .i64 z.r, .int .i64 z.t, .int .i64 z.y] t := h3.set 4 (.int .i64 x.a)
 have h5 : Blk ((((((w.setCell ⟨b, 0, none⟩ (.int .i64 x.s)).setCell ⟨b, 1, none⟩ (.int .i64 x.n)).setCell ⟨b, 2, none⟩ (.int .i64 x.b)).setCell ⟨b, 3, none⟩ (.int .i64 x.c)).setCell ⟨b, 4, none⟩ (.int .i64 x.a)).setCell ⟨b, 5, none⟩ (.int .i64 x.r)) b #[.int .i64 x.s, .int .i64 x.n, .int .i64 x.b, .int .i64 x.c, .int .i64 x.a, .int .i64 x.r, .int .i64 z.t, .int .i64 z.y] t := h4.set 5 (.int .i64 x.r)
 have h6 : Blk (((((((w.setCell ⟨b, 0, none⟩ (.int .i64 x.s)).setCell ⟨b, 1, none⟩ (.int .i64 x.n)).setCell ⟨b, 2, none⟩ (.int .i64 x.b)).setCell ⟨b, 3, none⟩ (.int .i64 x.c)).setCell ⟨b, 4, none⟩ (.int .i64 x.a)).setCell ⟨b, 5, none⟩ (.int .i64 x.r)).setCell ⟨b, 6, none⟩ (.int .i64 x.t)) b #[.int .i64 x.s, .int .i64 x.n, .int .i64 x.b, .int .i64 x.c, .int .i64 x.a, .int .i64 x.r, .int .i64 x.t, .int .i64 z.y] t := h5.set 6 (.int .i64 x.t)
 have h7 : Blk ((((((((w.setCell ⟨b, 0, none⟩ (.int .i64 x.s)).setCell ⟨b, 1, none⟩ (.int .i64 x.n)).setCell ⟨b, 2, none⟩ (.int .i64 x.b)).setCell ⟨b, 3, none⟩ (.int .i64 x.c)).setCell ⟨b, 4, none⟩ (.int .i64 x.a)).setCell ⟨b, 5, none⟩ (.int .i64 x.r)).setCell ⟨b, 6, none⟩ (.int .i64 x.t)).setCell ⟨b, 7, none⟩ (.int .i64 x.y)) b #[.int .i64 x.s, .int .i64 x.n, .int .i64 x.b, .int .i64 x.c, .int .i64 x.a, .int .i64 x.r, .int .i64 x.t, .int .i64 x.y] t := h6.set 7 (.int .i64 x.y)
 exact h7
theorem below_set8 {B : Nat} {w w1 : World} {b : Nat} (h : Below B w w1) (hb : B ≤ b) (x : Itm) : Below B w (set8 w1 b x) := h |>.setCell (p := ⟨b, 0, none⟩) hb (.int .i64 x.s) |>.setCell (p := ⟨b, 1, none⟩) hb (.int .i64 x.n) |>.setCell (p := ⟨b, 2, none⟩) hb (.int .i64 x.b) |>.setCell (p := ⟨b, 3, none⟩) hb (.int .i64 x.c) |>.setCell (p := ⟨b, 4, none⟩) hb (.int .i64 x.a) |>.setCell (p := ⟨b, 5, none⟩) hb (.int .i64 x.r) |>.setCell (p := ⟨b, 6, none⟩) hb (.int .i64 x.t) |>.setCell (p := ⟨b, 7, none⟩) hb (.int .i64 x.y)
theorem blk_set8other {w : World} {b g : Nat} {cs : Array Value} {t : TypeId} (h : Blk w g cs t) (hb : b ≠ g) (x : Itm) : Blk (set8 w b x) g cs t := h |>.setOther (a := ⟨b, 0, none⟩) hb (.int .i64 x.s) |>.setOther (a := ⟨b, 1, none⟩) hb (.int .i64 x.n) |>.setOther (a := ⟨b, 2, none⟩) hb (.int .i64 x.b) |>.setOther (a := ⟨b, 3, none⟩) hb (.int .i64 x.c) |>.setOther (a := ⟨b, 4, none⟩) hb (.int .i64 x.a) |>.setOther (a := ⟨b, 5, none⟩) hb (.int .i64 x.r) |>.setOther (a := ⟨b, 6, none⟩) hb (.int .i64 x.t) |>.setOther (a := ⟨b, 7, none⟩) hb (.int .i64 x.y)
end Go.Proofs.Ytmhocihajobkkaa
namespace Go.Proofs.Ytmhocihajobkkaa
open Go.RowKit
theorem locked_any (x : Itm) (w : World) : Calls Try.prog 72 #[x.v] w fun e w' => e = .returned (.bool (decide (x.t = 3 ∧ x.y ≠ 0))) ∧ Below w.heap.size w w' := by
 unfold Itm.v at *
 by_cases h4 : x.t = 3
 ·have e4 : (x.t == 3) = true := by simpa using h4
  by_cases h5 : x.y = 0
  ·have e5 : (x.y != 0) = false := by simpa using h5
   have HC : Hid (¬ (x.t = 3 ∧ x.y ≠ 0)) := fun h => h.2 h5
   clear h4 h5
   go_enter Try.func72, Try.ntmps72
   go_wp2
   go_ret
   exact ⟨retN HC.out, oneB w _⟩
  ·have e5 : (x.y != 0) = true := by simpa using h5
   have HC : Hid (x.t = 3 ∧ x.y ≠ 0) := ⟨h4, h5⟩
   clear h4 h5
   go_enter Try.func72, Try.ntmps72
   go_wp2
   go_ret
   exact ⟨retD HC.out, oneB w _⟩
 ·have e4 : (x.t == 3) = false := by simpa using h4
  have HC : Hid (¬ (x.t = 3 ∧ x.y ≠ 0)) := fun h => h4 h.1
  clear h4
  go_enter Try.func72, Try.ntmps72
  go_wp2
  go_ret
  exact ⟨retN HC.out, oneB w _⟩
end Go.Proofs.Ytmhocihajobkkaa
namespace Go.Proofs.Ytmhocihajobkkaa
open Go.RowKit
set_option maxHeartbeats 1000000 in
theorem free_any (x : Itm) (w : World) : Calls Try.prog 59 #[x.v] w fun e w' => e = ansI (freeI x) ∧ Below w.heap.size w w' := by
 have HL := Lib.hid (fun w => locked_any x w)
 have HB2 := Lib.hid ((oneB w (.cells #[.int .i64 x.s, .int .i64 x.n, .int .i64 x.b, .int .i64 x.c, .int .i64 x.a, .int .i64 x.r, .int .i64 x.t, .int .i64 x.y] 54)).alloc (by simp) (.cells #[.int .i64 0, .int .i64 0, .int .i64 0, .int .i64 0, .int .i64 0, .int .i64 0, .int .i64 0, .int .i64 0] 54))
 have HR := Lib.hid (Blk.new' (w.alloc (.cells #[.int .i64 x.s, .int .i64 x.n, .int .i64 x.b, .int .i64 x.c, .int .i64 x.a, .int .i64 x.r, .int .i64 x.t, .int .i64 x.y] 54)) #[.int .i64 0, .int .i64 0, .int .i64 0, .int .i64 0, .int .i64 0, .int .i64 0, .int .i64 0, .int .i64 0] 54 (b := w.heap.size + 1) (by simp))
 have HX := Lib.hid ((Blk.new w #[.int .i64 x.s, .int .i64 x.n, .int .i64 x.b, .int .i64 x.c, .int .i64 x.a, .int .i64 x.r, .int .i64 x.t, .int .i64 x.y] 54).alloc (.cells #[.int .i64 0, .int .i64 0, .int .i64 0, .int .i64 0, .int .i64 0, .int .i64 0, .int .i64 0, .int .i64 0] 54))
 by_cases h : x.t = 3 ∧ x.y ≠ 0
 ·rw [decide_eq_true h] at HL
  have HC : Hid (freeI x = ({ x with y := 0 }, 0)) := if_pos h
  clear h
  unfold Itm.v at *
  go_enter Try.func59, Try.ntmps59
  go_wp2_with fail
  refine (HL.out _).mono ?_
  rintro z w1 ⟨rfl, hb1⟩
  have hr1 := HR.out.below hb1 HR.out.lt
  have hx1 := HX.out.below hb1 HX.out.lt
  have HB := ktq HB2 hb1
  have HR1 := Lib.hid hr1
  have HX1 := Lib.hid hx1
  have r0 : (w1).cell? ⟨w.heap.size + 1, 0, none⟩ = some (.int .i64 0) := hr1.cell 0
  have rf0 := hr1.free 0
  have r1 : (w1).cell? ⟨w.heap.size + 1, 1, none⟩ = some (.int .i64 0) := hr1.cell 1
  have rf1 := hr1.free 1
  have r2 : (w1).cell? ⟨w.heap.size + 1, 2, none⟩ = some (.int .i64 0) := hr1.cell 2
  have rf2 := hr1.free 2
  have r3 : (w1).cell? ⟨w.heap.size + 1, 3, none⟩ = some (.int .i64 0) := hr1.cell 3
  have rf3 := hr1.free 3
  have r4 : (w1).cell? ⟨w.heap.size + 1, 4, none⟩ = some (.int .i64 0) := hr1.cell 4
  have rf4 := hr1.free 4
  have r5 : (w1).cell? ⟨w.heap.size + 1, 5, none⟩ = some (.int .i64 0) := hr1.cell 5
  have rf5 := hr1.free 5
  have r6 : (w1).cell? ⟨w.heap.size + 1, 6, none⟩ = some (.int .i64 0) := hr1.cell 6
  have rf6 := hr1.free 6
  have r7 : (w1).cell? ⟨w.heap.size + 1, 7, none⟩ = some (.int .i64 0) := hr1.cell 7
  have rf7 := hr1.free 7
  have lr := hr1.lt
  have x0 : (w1).cell? ⟨w.heap.size, 0, none⟩ = some (.int .i64 x.s) := hx1.cell 0
  have xf0 := hx1.free 0
  have x1 : (w1).cell? ⟨w.heap.size, 1, none⟩ = some (.int .i64 x.n) := hx1.cell 1
  have xf1 := hx1.free 1
  have x2 : (w1).cell? ⟨w.heap.size, 2, none⟩ = some (.int .i64 x.b) := hx1.cell 2
  have xf2 := hx1.free 2
  have x3 : (w1).cell? ⟨w.heap.size, 3, none⟩ = some (.int .i64 x.c) := hx1.cell 3
  have xf3 := hx1.free 3
  have x4 : (w1).cell? ⟨w.heap.size, 4, none⟩ = some (.int .i64 x.a) := hx1.cell 4
  have xf4 := hx1.free 4
  have x5 : (w1).cell? ⟨w.heap.size, 5, none⟩ = some (.int .i64 x.r) := hx1.cell 5
  have xf5 := hx1.free 5
  have x6 : (w1).cell? ⟨w.heap.size, 6, none⟩ = some (.int .i64 x.t) := hx1.cell 6
  have xf6 := hx1.free 6
  have x7 : (w1).cell? ⟨w.heap.size, 7, none⟩ = some (.int .i64 x.y) := hx1.cell 7
  have xf7 := hx1.free 7
  have lx := hx1.lt
  clear hb1 hr1 hx1
  go_wp2_with fail
  have HR2 := Lib.hid (HR1.out.setOther (a := ⟨w.heap.size, 7, none⟩) (by simp) (.int .i64 0))
  have HB3 := Lib.hid (HB.out.setCell (p := ⟨w.heap.size, 7, none⟩) (Nat.le_refl _) (.int .i64 0))
  have hf := blk_set8 (z := zeroI) HR2.out { x with y := 0 }
  refine bodyPost_ret (v := .tuple #[Itm.v ({ x with y := 0 }), .int .i64 0]) (by simp [results, Try.results59, go_sem, Itm.v, hf.cell 0, hf.cell 1, hf.cell 2, hf.cell 3, hf.cell 4, hf.cell 5, hf.cell 6, hf.cell 7]) rfl ⟨retA HC.out.symm, below_set8 HB3.out (Nat.le_succ _) { x with y := 0 }⟩
 ·rw [decide_eq_false h] at HL
  have HC : Hid (freeI x = (x, 90)) := if_neg h
  clear h
  unfold Itm.v at *
  go_enter Try.func59, Try.ntmps59
  go_wp2_with fail
  refine (HL.out _).mono ?_
  rintro z w1 ⟨rfl, hb1⟩
  have hr1 := HR.out.below hb1 HR.out.lt
  have hx1 := HX.out.below hb1 HX.out.lt
  have HB := ktq HB2 hb1
  have HR1 := Lib.hid hr1
  have HX1 := Lib.hid hx1
  have r0 : (w1).cell? ⟨w.heap.size + 1, 0, none⟩ = some (.int .i64 0) := hr1.cell 0
  have rf0 := hr1.free 0
  have r1 : (w1).cell? ⟨w.heap.size + 1, 1, none⟩ = some (.int .i64 0) := hr1.cell 1
  have rf1 := hr1.free 1
  have r2 : (w1).cell? ⟨w.heap.size + 1, 2, none⟩ = some (.int .i64 0) := hr1.cell 2
  have rf2 := hr1.free 2
  have r3 : (w1).cell? ⟨w.heap.size + 1, 3, none⟩ = some (.int .i64 0) := hr1.cell 3
  have rf3 := hr1.free 3
  have r4 : (w1).cell? ⟨w.heap.size + 1, 4, none⟩ = some (.int .i64 0) := hr1.cell 4
  have rf4 := hr1.free 4
  have r5 : (w1).cell? ⟨w.heap.size + 1, 5, none⟩ = some (.int .i64 0) := hr1.cell 5
  have rf5 := hr1.free 5
  have r6 : (w1).cell? ⟨w.heap.size + 1, 6, none⟩ = some (.int .i64 0) := hr1.cell 6
  have rf6 := hr1.free 6
  have r7 : (w1).cell? ⟨w.heap.size + 1, 7, none⟩ = some (.int .i64 0) := hr1.cell 7
  have rf7 := hr1.free 7
  have lr := hr1.lt
  have x0 : (w1).cell? ⟨w.heap.size, 0, none⟩ = some (.int .i64 x.s) := hx1.cell 0
  have xf0 := hx1.free 0
  have x1 : (w1).cell? ⟨w.heap.size, 1, none⟩ = some (.int .i64 x.n) := hx1.cell 1
  have xf1 := hx1.free 1
  have x2 : (w1).cell? ⟨w.heap.size, 2, none⟩ = some (.int .i64 x.b) := hx1.cell 2
  have xf2 := hx1.free 2
  have x3 : (w1).cell? ⟨w.heap.size, 3, none⟩ = some (.int .i64 x.c) := hx1.cell 3
  have xf3 := hx1.free 3
  have x4 : (w1).cell? ⟨w.heap.size, 4, none⟩ = some (.int .i64 x.a) := hx1.cell 4
  have xf4 := hx1.free 4
  have x5 : (w1).cell? ⟨w.heap.size, 5, none⟩ = some (.int .i64 x.r) := hx1.cell 5
  have xf5 := hx1.free 5
  have x6 : (w1).cell? ⟨w.heap.size, 6, none⟩ = some (.int .i64 x.t) := hx1.cell 6
  have xf6 := hx1.free 6
  have x7 : (w1).cell? ⟨w.heap.size, 7, none⟩ = some (.int .i64 x.y) := hx1.cell 7
  have xf7 := hx1.free 7
  have lx := hx1.lt
  clear hb1 hr1 hx1
  go_wp2_with fail
  have hf := blk_set8 (z := zeroI) HR1.out x
  refine bodyPost_ret (v := .tuple #[Itm.v (x), .int .i64 90]) (by simp [results, Try.results59, go_sem, Itm.v, hf.cell 0, hf.cell 1, hf.cell 2, hf.cell 3, hf.cell 4, hf.cell 5, hf.cell 6, hf.cell 7]) rfl ⟨retA HC.out.symm, below_set8 HB.out (Nat.le_succ _) x⟩
set_option maxHeartbeats 1000000 in
theorem settle_any (x : Itm) (w : World) : Calls Try.prog 58 #[x.v] w fun e w' => e = ansI (settleI x) ∧ Below w.heap.size w w' := by
 have HL := Lib.hid (fun w => locked_any x w)
 have HB2 := Lib.hid ((oneB w (.cells #[.int .i64 x.s, .int .i64 x.n, .int .i64 x.b, .int .i64 x.c, .int .i64 x.a, .int .i64 x.r, .int .i64 x.t, .int .i64 x.y] 54)).alloc (by simp) (.cells #[.int .i64 0, .int .i64 0, .int .i64 0, .int .i64 0, .int .i64 0, .int .i64 0, .int .i64 0, .int .i64 0] 54))
 have HR := Lib.hid (Blk.new' (w.alloc (.cells #[.int .i64 x.s, .int .i64 x.n, .int .i64 x.b, .int .i64 x.c, .int .i64 x.a, .int .i64 x.r, .int .i64 x.t, .int .i64 x.y] 54)) #[.int .i64 0, .int .i64 0, .int .i64 0, .int .i64 0, .int .i64 0, .int .i64 0, .int .i64 0, .int .i64 0] 54 (b := w.heap.size + 1) (by simp))
 have HX := Lib.hid ((Blk.new w #[.int .i64 x.s, .int .i64 x.n, .int .i64 x.b, .int .i64 x.c, .int .i64 x.a, .int .i64 x.r, .int .i64 x.t, .int .i64 x.y] 54).alloc (.cells #[.int .i64 0, .int .i64 0, .int .i64 0, .int .i64 0, .int .i64 0, .int .i64 0, .int .i64 0, .int .i64 0] 54))
 by_cases h : x.t = 3 ∧ x.y ≠ 0
 ·rw [decide_eq_true h] at HL
  have HC : Hid (settleI x = ({ x with t := 5 }, 0)) := if_pos h
  clear h
  unfold Itm.v at *
  go_enter Try.func58, Try.ntmps58
  go_wp2_with fail
  refine (HL.out _).mono ?_
  rintro z w1 ⟨rfl, hb1⟩
  have hr1 := HR.out.below hb1 HR.out.lt
  have hx1 := HX.out.below hb1 HX.out.lt
  have HB := ktq HB2 hb1
  have HR1 := Lib.hid hr1
  have HX1 := Lib.hid hx1
  have r0 : (w1).cell? ⟨w.heap.size + 1, 0, none⟩ = some (.int .i64 0) := hr1.cell 0
  have rf0 := hr1.free 0
  have r1 : (w1).cell? ⟨w.heap.size + 1, 1, none⟩ = some (.int .i64 0) := hr1.cell 1
  have rf1 := hr1.free 1
  have r2 : (w1).cell? ⟨w.heap.size + 1, 2, none⟩ = some (.int .i64 0) := hr1.cell 2
  have rf2 := hr1.free 2
  have r3 : (w1).cell? ⟨w.heap.size + 1, 3, none⟩ = some (.int .i64 0) := hr1.cell 3
  have rf3 := hr1.free 3
  have r4 : (w1).cell? ⟨w.heap.size + 1, 4, none⟩ = some (.int .i64 0) := hr1.cell 4
  have rf4 := hr1.free 4
  have r5 : (w1).cell? ⟨w.heap.size + 1, 5, none⟩ = some (.int .i64 0) := hr1.cell 5
  have rf5 := hr1.free 5
  have r6 : (w1).cell? ⟨w.heap.size + 1, 6, none⟩ = some (.int .i64 0) := hr1.cell 6
  have rf6 := hr1.free 6
  have r7 : (w1).cell? ⟨w.heap.size + 1, 7, none⟩ = some (.int .i64 0) := hr1.cell 7
  have rf7 := hr1.free 7
  have lr := hr1.lt
  have x0 : (w1).cell? ⟨w.heap.size, 0, none⟩ = some (.int .i64 x.s) := hx1.cell 0
  have xf0 := hx1.free 0
  have x1 : (w1).cell? ⟨w.heap.size, 1, none⟩ = some (.int .i64 x.n) := hx1.cell 1
  have xf1 := hx1.free 1
  have x2 : (w1).cell? ⟨w.heap.size, 2, none⟩ = some (.int .i64 x.b) := hx1.cell 2
  have xf2 := hx1.free 2
  have x3 : (w1).cell? ⟨w.heap.size, 3, none⟩ = some (.int .i64 x.c) := hx1.cell 3
  have xf3 := hx1.free 3
  have x4 : (w1).cell? ⟨w.heap.size, 4, none⟩ = some (.int .i64 x.a) := hx1.cell 4
  have xf4 := hx1.free 4
  have x5 : (w1).cell? ⟨w.heap.size, 5, none⟩ = some (.int .i64 x.r) := hx1.cell 5
  have xf5 := hx1.free 5
  have x6 : (w1).cell? ⟨w.heap.size, 6, none⟩ = some (.int .i64 x.t) := hx1.cell 6
  have xf6 := hx1.free 6
  have x7 : (w1).cell? ⟨w.heap.size, 7, none⟩ = some (.int .i64 x.y) := hx1.cell 7
  have xf7 := hx1.free 7
  have lx := hx1.lt
  clear hb1 hr1 hx1
  go_wp2_with fail
  have HR2 := Lib.hid (HR1.out.setOther (a := ⟨w.heap.size, 6, none⟩) (by simp) (.int .i64 5))
  have HB3 := Lib.hid (HB.out.setCell (p := ⟨w.heap.size, 6, none⟩) (Nat.le_refl _) (.int .i64 5))
  have hf := blk_set8 (z := zeroI) HR2.out { x with t := 5 }
  refine bodyPost_ret (v := .tuple #[Itm.v ({ x with t := 5 }), .int .i64 0]) (by simp [results, Try.results58, go_sem, Itm.v, hf.cell 0, hf.cell 1, hf.cell 2, hf.cell 3, hf.cell 4, hf.cell 5, hf.cell 6, hf.cell 7]) rfl ⟨retA HC.out.symm, below_set8 HB3.out (Nat.le_succ _) { x with t := 5 }⟩
 ·rw [decide_eq_false h] at HL
  have HC : Hid (settleI x = (x, 90)) := if_neg h
  clear h
  unfold Itm.v at *
  go_enter Try.func58, Try.ntmps58
  go_wp2_with fail
  refine (HL.out _).mono ?_
  rintro z w1 ⟨rfl, hb1⟩
  have hr1 := HR.out.below hb1 HR.out.lt
  have hx1 := HX.out.below hb1 HX.out.lt
  have HB := ktq HB2 hb1
  have HR1 := Lib.hid hr1
  have HX1 := Lib.hid hx1
  have r0 : (w1).cell? ⟨w.heap.size + 1, 0, none⟩ = some (.int .i64 0) := hr1.cell 0
  have rf0 := hr1.free 0
  have r1 : (w1).cell? ⟨w.heap.size + 1, 1, none⟩ = some (.int .i64 0) := hr1.cell 1
  have rf1 := hr1.free 1
  have r2 : (w1).cell? ⟨w.heap.size + 1, 2, none⟩ = some (.int .i64 0) := hr1.cell 2
  have rf2 := hr1.free 2
  have r3 : (w1).cell? ⟨w.heap.size + 1, 3, none⟩ = some (.int .i64 0) := hr1.cell 3
  have rf3 := hr1.free 3
  have r4 : (w1).cell? ⟨w.heap.size + 1, 4, none⟩ = some (.int .i64 0) := hr1.cell 4
  have rf4 := hr1.free 4
  have r5 : (w1).cell? ⟨w.heap.size + 1, 5, none⟩ = some (.int .i64 0) := hr1.cell 5
  have rf5 := hr1.free 5
  have r6 : (w1).cell? ⟨w.heap.size + 1, 6, none⟩ = some (.int .i64 0) := hr1.cell 6
  have rf6 := hr1.free 6
  have r7 : (w1).cell? ⟨w.heap.size + 1, 7, none⟩ = some (.int .i64 0) := hr1.cell 7
  have rf7 := hr1.free 7
  have lr := hr1.lt
  have x0 : (w1).cell? ⟨w.heap.size, 0, none⟩ = some (.int .i64 x.s) := hx1.cell 0
  have xf0 := hx1.free 0
  have x1 : (w1).cell? ⟨w.heap.size, 1, none⟩ = some (.int .i64 x.n) := hx1.cell 1
  have xf1 := hx1.free 1
  have x2 : (w1).cell? ⟨w.heap.size, 2, none⟩ = some (.int .i64 x.b) := hx1.cell 2
  have xf2 := hx1.free 2
  have x3 : (w1).cell? ⟨w.heap.size, 3, none⟩ = some (.int .i64 x.c) := hx1.cell 3
  have xf3 := hx1.free 3
  have x4 : (w1).cell? ⟨w.heap.size, 4, none⟩ = some (.int .i64 x.a) := hx1.cell 4
  have xf4 := hx1.free 4
  have x5 : (w1).cell? ⟨w.heap.size, 5, none⟩ = some (.int .i64 x.r) := hx1.cell 5
  have xf5 := hx1.free 5
  have x6 : (w1).cell? ⟨w.heap.size, 6, none⟩ = some (.int .i64 x.t) := hx1.cell 6
  have xf6 := hx1.free 6
  have x7 : (w1).cell? ⟨w.heap.size, 7, none⟩ = some (.int .i64 x.y) := hx1.cell 7
  have xf7 := hx1.free 7
  have lx := hx1.lt
  clear hb1 hr1 hx1
  go_wp2_with fail
  have hf := blk_set8 (z := zeroI) HR1.out x
  refine bodyPost_ret (v := .tuple #[Itm.v (x), .int .i64 90]) (by simp [results, Try.results58, go_sem, Itm.v, hf.cell 0, hf.cell 1, hf.cell 2, hf.cell 3, hf.cell 4, hf.cell 5, hf.cell 6, hf.cell 7]) rfl ⟨retA HC.out.symm, below_set8 HB.out (Nat.le_succ _) x⟩
set_option maxHeartbeats 1000000 in
theorem lock_any (x : Itm) (n : Int) (w : World) : Calls Try.prog 48 #[x.v, .int .i64 n] w fun e w' => e = ansI (lockI x n) ∧ Below w.heap.size w w' := by
 have HB2 : Hid (∀ a b, Below w.heap.size w ((w.alloc a).alloc b)) := fun a b => (oneB w a).alloc (by simp) b
 have HW := Lib.hid (fun w => within_any n 1 1048576 w)
 by_cases h3 : x.t = 3
 ·have e3 : (x.t != 3) = false := by simpa using h3
  by_cases h0 : x.y = 0
  ·have e0 : (x.y != 0) = false := by simpa using h0
   cases hw : inB n 1 1048576
   ·rw [hw] at HW
    have HC : Hid (lockI x n = (x, 1)) := by show _ = _; unfold lockI; rw [if_pos ⟨h3, h0⟩, if_neg (inB_no hw)]
    clear h3 h0 hw
    unfold Itm.v at *
    go_enter Try.func48, Try.ntmps48
    go_wp2_with fail
    refine (HW.out _).mono ?_
    rintro z w1 ⟨rfl, rfl⟩
    go_wp2_with fail
    refine bodyPost_ret (v := .tuple #[Itm.v (x), .int .i64 1]) (by simp [results, Try.results48, go_sem, Itm.v]) rfl ⟨retA HC.out.symm, HB2.out _ _⟩
   ·rw [hw] at HW
    have HC : Hid (lockI x n = ({ x with y := n }, 0)) := by show _ = _; unfold lockI; rw [if_pos ⟨h3, h0⟩, if_pos (inB_yes hw)]
    clear h3 h0 hw
    unfold Itm.v at *
    go_enter Try.func48, Try.ntmps48
    go_wp2_with fail
    refine (HW.out _).mono ?_
    rintro z w1 ⟨rfl, rfl⟩
    go_wp2_with fail
    refine bodyPost_ret (v := .tuple #[Itm.v ({ x with y := n }), .int .i64 0]) (by simp [results, Try.results48, go_sem, Itm.v]) rfl ⟨retA HC.out.symm, HB2.out _ _⟩
  ·have e0 : (x.y != 0) = true := by simpa using h0
   have HC : Hid (lockI x n = (x, 90)) := if_neg (fun h => h0 h.2)
   clear h3 h0
   unfold Itm.v at *
   go_enter Try.func48, Try.ntmps48
   go_wp2_with fail
   refine bodyPost_ret (v := .tuple #[Itm.v (x), .int .i64 90]) (by simp [results, Try.results48, go_sem, Itm.v]) rfl ⟨retA HC.out.symm, HB2.out _ _⟩
 ·have e3 : (x.t != 3) = true := by simpa using h3
  have HC : Hid (lockI x n = (x, 90)) := if_neg (fun h => h3 h.1)
  clear h3
  unfold Itm.v at *
  go_enter Try.func48, Try.ntmps48
  go_wp2_with fail
  refine bodyPost_ret (v := .tuple #[Itm.v (x), .int .i64 90]) (by simp [results, Try.results48, go_sem, Itm.v]) rfl ⟨retA HC.out.symm, HB2.out _ _⟩
end Go.Proofs.Ytmhocihajobkkaa
namespace Go.Proofs.Ytmhocihajobkkaa
open Go.RowKit
set_option linter.unusedSimpArgs false in
set_option maxHeartbeats 2000000 in
theorem line_any (x : Itm) (w : World) : Calls Try.prog 49 #[x.v] w fun e w' => e = .returned (.agg #[.int .i64 x.s, .int .i64 x.n, .int .i64 x.b, .int .i64 x.a]) ∧ Below w.heap.size w w' := by
 unfold Itm.v
 go_enter Try.func49, Try.ntmps49
 go_wp2_with fail
 refine bodyPost_ret (v := .agg #[.int .i64 x.s, .int .i64 x.n, .int .i64 x.b, .int .i64 x.a]) (by simp [results, Try.results49, go_sem]) rfl ⟨rfl, (oneB w _).trans ((oneB _ _).mono (by simp))⟩
end Go.Proofs.Ytmhocihajobkkaa
namespace Go.Proofs.Ytmhocihajobkkaa
open Go.RowKit
def linEq (x y : Lin) : Bool := x.s == y.s && x.n == y.n && x.b == y.b && x.a == y.a
theorem linEq_iff {x y : Lin} : linEq x y = true ↔ x = y := by
 unfold linEq
 simp only [Bool.and_eq_true, beq_iff_eq]
 constructor
 ·rintro ⟨⟨⟨h1, h2⟩, h3⟩, h4⟩
  cases x; cases y
  simp only at h1 h2 h3 h4
  rw [h1, h2, h3, h4]
 ·rintro rfl
  exact ⟨⟨⟨rfl, rfl⟩, rfl⟩, rfl⟩
instance : DecidableEq Lin := fun x y => decidable_of_iff (linEq x y = true) linEq_iff
theorem linEq_dec (x y : Lin) : linEq x y = decide (x = y) := by
 rw [Bool.eq_iff_iff, linEq_iff, decide_eq_true_eq]
theorem line_eq (x y : Lin) (w : World) : (Op.equalIn 10000 50 (.agg #[.int .i64 x.s, .int .i64 x.n, .int .i64 x.b, .int .i64 x.a]) (.agg #[.int .i64 y.s, .int .i64 y.n, .int .i64 y.b, .int .i64 y.a])).run Try.prog w = .ok (linEq x y) w := by
 cases h1 : x.s == y.s
 ·have e : linEq x y = false := by unfold linEq; rw [h1]; rfl
  rw [e]
  go_simp
 cases h2 : x.n == y.n
 ·have e : linEq x y = false := by unfold linEq; rw [h1, h2]; rfl
  rw [e]
  go_simp
 cases h3 : x.b == y.b
 ·have e : linEq x y = false := by unfold linEq; rw [h1, h2, h3]; rfl
  rw [e]
  go_simp
 cases h4 : x.a == y.a
 ·have e : linEq x y = false := by unfold linEq; rw [h1, h2, h3, h4]; rfl
  rw [e]
  go_simp
 ·have e : linEq x y = true := by unfold linEq; rw [h1, h2, h3, h4]; rfl
  rw [e]
  go_simp
end Go.Proofs.Ytmhocihajobkkaa
namespace Go.Proofs.Ytmhocihajobkkaa
open Go.RowKit
set_option linter.unusedSimpArgs false
set_option linter.unusedSimpArgs false in
set_option maxHeartbeats 4000000 in
set_option maxRecDepth 100000 in
theorem says_any (w : World) (me N : Int) (p : Option Addr) (n c : Nat) (y : MsgX) :
  Calls Try.prog 51 #[.agg #[.int .i64 me, .int .i64 N, .slice p n c], y.m.v (.slice y.pl y.m.ls.length y.cl) (.slice y.pn y.m.ns.length y.cn)] w fun e w' => ∃ v', e = .returned v' ∧ OwnT encS w' w.heap.size 48 v' [⟨N, y⟩] ∧ Below w.heap.size w w' := by
 unfold Msg.v
 have HB0 : Hid (Below w.heap.size w ((w.alloc (.cells #[.int .i64 me, .int .i64 N, .slice p n c] 36)).alloc (.cells #[.int .i64 y.m.k, .int .i64 y.m.s, .int .i64 y.m.n, .int .i64 y.m.b, .int .i64 y.m.c, .int .i64 y.m.r, .int .i64 y.m.y, .int .i64 y.m.a, .bool y.m.t, .slice y.pl y.m.ls.length y.cl, .slice y.pn y.m.ns.length y.cn] 46))) := Lib.hid (((oneB w _).alloc (by simp <;> omega) _))
 have Hp0 : Hid (Blk ((w.alloc (.cells #[.int .i64 me, .int .i64 N, .slice p n c] 36)).alloc (.cells #[.int .i64 y.m.k, .int .i64 y.m.s, .int .i64 y.m.n, .int .i64 y.m.b, .int .i64 y.m.c, .int .i64 y.m.r, .int .i64 y.m.y, .int .i64 y.m.a, .bool y.m.t, .slice y.pl y.m.ls.length y.cl, .slice y.pn y.m.ns.length y.cn] 46)) w.heap.size #[.int .i64 me, .int .i64 N, .slice p n c] 36) := Lib.hid ((Blk.new w #[.int .i64 me, .int .i64 N, .slice p n c] 36).alloc _)
 have Hm0 : Hid (Blk ((w.alloc (.cells #[.int .i64 me, .int .i64 N, .slice p n c] 36)).alloc (.cells #[.int .i64 y.m.k, .int .i64 y.m.s, .int .i64 y.m.n, .int .i64 y.m.b, .int .i64 y.m.c, .int .i64 y.m.r, .int .i64 y.m.y, .int .i64 y.m.a, .bool y.m.t, .slice y.pl y.m.ls.length y.cl, .slice y.pn y.m.ns.length y.cn] 46)) (w.heap.size + 1) #[.int .i64 y.m.k, .int .i64 y.m.s, .int .i64 y.m.n, .int .i64 y.m.b, .int .i64 y.m.c, .int .i64 y.m.r, .int .i64 y.m.y, .int .i64 y.m.a, .bool y.m.t, .slice y.pl y.m.ls.length y.cl, .slice y.pn y.m.ns.length y.cn] 46) := Lib.hid (Blk.new' (w.alloc (.cells #[.int .i64 me, .int .i64 N, .slice p n c] 36)) #[.int .i64 y.m.k, .int .i64 y.m.s, .int .i64 y.m.n, .int .i64 y.m.b, .int .i64 y.m.c, .int .i64 y.m.r, .int .i64 y.m.y, .int .i64 y.m.a, .bool y.m.t, .slice y.pl y.m.ls.length y.cl, .slice y.pn y.m.ns.length y.cn] 46 (by simp))
 have HZ0 : Hid (w.heap.size ≤ ((w.alloc (.cells #[.int .i64 me, .int .i64 N, .slice p n c] 36)).alloc (.cells #[.int .i64 y.m.k, .int .i64 y.m.s, .int .i64 y.m.n, .int .i64 y.m.b, .int .i64 y.m.c, .int .i64 y.m.r, .int .i64 y.m.y, .int .i64 y.m.a, .bool y.m.t, .slice y.pl y.m.ls.length y.cl, .slice y.pn y.m.ns.length y.cn] 46)).heap.size) := Lib.hid HB0.out.size
 go_enter Try.func51, Try.ntmps51
 go_upto_region 1 with fail
 generalize ((w.alloc (.cells #[.int .i64 me, .int .i64 N, .slice p n c] 36)).alloc (.cells #[.int .i64 y.m.k, .int .i64 y.m.s, .int .i64 y.m.n, .int .i64 y.m.b, .int .i64 y.m.c, .int .i64 y.m.r, .int .i64 y.m.y, .int .i64 y.m.a, .bool y.m.t, .slice y.pl y.m.ls.length y.cl, .slice y.pn y.m.ns.length y.cn] 46)) = W at *
 have a1 : W.cell? ⟨w.heap.size, 1, none⟩ = some (.int .i64 N) := Hp0.out.cell 1
 have c0 : W.cell? ⟨(w.heap.size + 1), 0, none⟩ = some (.int .i64 y.m.k) := Hm0.out.cell 0
 have c1 : W.cell? ⟨(w.heap.size + 1), 1, none⟩ = some (.int .i64 y.m.s) := Hm0.out.cell 1
 have c2 : W.cell? ⟨(w.heap.size + 1), 2, none⟩ = some (.int .i64 y.m.n) := Hm0.out.cell 2
 have c3 : W.cell? ⟨(w.heap.size + 1), 3, none⟩ = some (.int .i64 y.m.b) := Hm0.out.cell 3
 have c4 : W.cell? ⟨(w.heap.size + 1), 4, none⟩ = some (.int .i64 y.m.c) := Hm0.out.cell 4
 have c5 : W.cell? ⟨(w.heap.size + 1), 5, none⟩ = some (.int .i64 y.m.r) := Hm0.out.cell 5
 have c6 : W.cell? ⟨(w.heap.size + 1), 6, none⟩ = some (.int .i64 y.m.y) := Hm0.out.cell 6
 have c7 : W.cell? ⟨(w.heap.size + 1), 7, none⟩ = some (.int .i64 y.m.a) := Hm0.out.cell 7
 have c8 : W.cell? ⟨(w.heap.size + 1), 8, none⟩ = some (.bool y.m.t) := Hm0.out.cell 8
 have c9 : W.cell? ⟨(w.heap.size + 1), 9, none⟩ = some (.slice y.pl y.m.ls.length y.cl) := Hm0.out.cell 9
 have c10 : W.cell? ⟨(w.heap.size + 1), 10, none⟩ = some (.slice y.pn y.m.ns.length y.cn) := Hm0.out.cell 10
 go_wp2_with fail
 go_ret
 refine ⟨_, rfl, OwnT.mk' (g := W.heap.size) (cur := #[.int .i64 N, .int .i64 y.m.k, .int .i64 y.m.s, .int .i64 y.m.n, .int .i64 y.m.b, .int .i64 y.m.c, .int .i64 y.m.r, .int .i64 y.m.y, .int .i64 y.m.a, .bool y.m.t, .slice y.pl y.m.ls.length y.cl, .slice y.pn y.m.ns.length y.cn]) rfl HB0.out.size (Blk.new W _ _) (by decide) (by decide) rfl rfl, HB0.out.alloc HB0.out.size _⟩
set_option linter.unusedSimpArgs false in
set_option maxHeartbeats 4000000 in
set_option maxRecDepth 100000 in
theorem first_any (w : World) (p : Option Addr) (n c : Nat) (xs : List Itm) (hr : TRow encI w (.slice p n c) xs) (hn : n = xs.length) (hl : n ≤ 2000) :
  Calls Try.prog 45 #[.slice p n c, .int .i64 128] w fun e w' => ∃ m c', e = .returned (.slice p m c') ∧ TRow encI w' (.slice p m c') (xs.take 128) ∧ Below w.heap.size w w' := by
 have hc := hr.cap
 by_cases h : n ≤ 128
 ·have h1 : ¬ (128 : Int) < (n : Int) := by omega
  have h2 : (n : Int) ≤ (128 : Int) := by omega
  have h3 : (n : Int) ≤ (c : Int) := by omega
  have HR : Hid (TRow encI w (.slice p n n) (xs.take 128)) := by
   show TRow _ _ _ _
   rw [List.take_of_length_le (by omega)]
   obtain ⟨p', c', e1, _, h9⟩ := hr
   cases e1
   exact ⟨p, _, rfl, Nat.le_refl _, h9⟩
  clear hr hn hc
  go_enter Try.func45, Try.ntmps45
  go_wp2_with fail
  go_ret
  exact ⟨_, _, rfl, HR.out, Below.refl _ _⟩
 ·have h1 : (128 : Int) < (n : Int) := by omega
  have h2 : ¬ (n : Int) ≤ (128 : Int) := by omega
  have h3 : (128 : Int) ≤ (c : Int) := by omega
  have HR : Hid (TRow encI w (.slice p 128 128) (xs.take 128)) := by
   have h8 := hr.take 128 (by omega)
   obtain ⟨p', c', e1, _, h9⟩ := h8
   obtain ⟨e2, e3, _⟩ := Value.slice.inj e1
   subst e2
   exact ⟨p, 128, by rw [← e3], by rw [← e3]; exact Nat.le_refl _, h9⟩
  clear hr hn hc
  go_enter Try.func45, Try.ntmps45
  go_wp2_with fail
  go_ret
  exact ⟨_, _, rfl, HR.out, Below.refl _ _⟩
set_option linter.unusedSimpArgs false in
set_option maxHeartbeats 4000000 in
set_option maxRecDepth 100000 in
theorem askc_any (w : World) (x : Itm) (cy : Int) (bm : Nat) (hm : w.cell? ⟨bm, 6, none⟩ = some (.int .i64 cy)) :
  Calls Try.prog 47 #[x.v, .pointer (some ⟨bm, 0, none⟩)] w fun e w' => e = ansI (lockI x cy) ∧ Below w.heap.size w w' := by
 unfold Itm.v
 obtain ⟨⟨q, f⟩, hr⟩ : ∃ r, lockI x cy = r := ⟨_, rfl⟩
 rw [hr]
 have HB0 : Hid (Below w.heap.size w ((w.alloc (.cells #[.int .i64 x.s, .int .i64 x.n, .int .i64 x.b, .int .i64 x.c, .int .i64 x.a, .int .i64 x.r, .int .i64 x.t, .int .i64 x.y] 54)).alloc (.cells #[.int .i64 0, .int .i64 0, .int .i64 0, .int .i64 0, .int .i64 0, .int .i64 0, .int .i64 0, .int .i64 0] 54))) := Lib.hid (((oneB w _).alloc (by simp <;> omega) _))
 have Hx0 : Hid (Blk ((w.alloc (.cells #[.int .i64 x.s, .int .i64 x.n, .int .i64 x.b, .int .i64 x.c, .int .i64 x.a, .int .i64 x.r, .int .i64 x.t, .int .i64 x.y] 54)).alloc (.cells #[.int .i64 0, .int .i64 0, .int .i64 0, .int .i64 0, .int .i64 0, .int .i64 0, .int .i64 0, .int .i64 0] 54)) w.heap.size #[.int .i64 x.s, .int .i64 x.n, .int .i64 x.b, .int .i64 x.c, .int .i64 x.a, .int .i64 x.r, .int .i64 x.t, .int .i64 x.y] 54) := Lib.hid ((Blk.new w #[.int .i64 x.s, .int .i64 x.n, .int .i64 x.b, .int .i64 x.c, .int .i64 x.a, .int .i64 x.r, .int .i64 x.t, .int .i64 x.y] 54).alloc _)
 have Hr0 : Hid (Blk ((w.alloc (.cells #[.int .i64 x.s, .int .i64 x.n, .int .i64 x.b, .int .i64 x.c, .int .i64 x.a, .int .i64 x.r, .int .i64 x.t, .int .i64 x.y] 54)).alloc (.cells #[.int .i64 0, .int .i64 0, .int .i64 0, .int .i64 0, .int .i64 0, .int .i64 0, .int .i64 0, .int .i64 0] 54)) (w.heap.size + 1) #[.int .i64 0, .int .i64 0, .int .i64 0, .int .i64 0, .int .i64 0, .int .i64 0, .int .i64 0, .int .i64 0] 54) := Lib.hid (Blk.new' (w.alloc (.cells #[.int .i64 x.s, .int .i64 x.n, .int .i64 x.b, .int .i64 x.c, .int .i64 x.a, .int .i64 x.r, .int .i64 x.t, .int .i64 x.y] 54)) #[.int .i64 0, .int .i64 0, .int .i64 0, .int .i64 0, .int .i64 0, .int .i64 0, .int .i64 0, .int .i64 0] 54 (by simp))
 have HZ0 : Hid (w.heap.size ≤ ((w.alloc (.cells #[.int .i64 x.s, .int .i64 x.n, .int .i64 x.b, .int .i64 x.c, .int .i64 x.a, .int .i64 x.r, .int .i64 x.t, .int .i64 x.y] 54)).alloc (.cells #[.int .i64 0, .int .i64 0, .int .i64 0, .int .i64 0, .int .i64 0, .int .i64 0, .int .i64 0, .int .i64 0] 54)).heap.size) := Lib.hid HB0.out.size
 have HBM := Lib.hid (World.block_lt_of_cell? w _ hm)
 have HM := Lib.hid hm
 clear hm
 go_enter Try.func47, Try.ntmps47
 go_upto_region 1 with fail
 generalize ((w.alloc (.cells #[.int .i64 x.s, .int .i64 x.n, .int .i64 x.b, .int .i64 x.c, .int .i64 x.a, .int .i64 x.r, .int .i64 x.t, .int .i64 x.y] 54)).alloc (.cells #[.int .i64 0, .int .i64 0, .int .i64 0, .int .i64 0, .int .i64 0, .int .i64 0, .int .i64 0, .int .i64 0] 54)) = W at *
 have HG := Lib.hid (lock_any x cy W)
 rw [hr] at HG
 clear hr
 unfold ansI Itm.v at HG
 have m5 : W.cell? ⟨bm, 6, none⟩ = some (.int .i64 cy) := (HB0.out.cell (p := ⟨bm, 6, none⟩) HBM.out).trans HM.out
 have x0 : W.cell? ⟨w.heap.size, 0, none⟩ = some (.int .i64 x.s) := Hx0.out.cell 0
 have x1 : W.cell? ⟨w.heap.size, 1, none⟩ = some (.int .i64 x.n) := Hx0.out.cell 1
 have x2 : W.cell? ⟨w.heap.size, 2, none⟩ = some (.int .i64 x.b) := Hx0.out.cell 2
 have x3 : W.cell? ⟨w.heap.size, 3, none⟩ = some (.int .i64 x.c) := Hx0.out.cell 3
 have x4 : W.cell? ⟨w.heap.size, 4, none⟩ = some (.int .i64 x.a) := Hx0.out.cell 4
 have x5 : W.cell? ⟨w.heap.size, 5, none⟩ = some (.int .i64 x.r) := Hx0.out.cell 5
 have x6 : W.cell? ⟨w.heap.size, 6, none⟩ = some (.int .i64 x.t) := Hx0.out.cell 6
 have x7 : W.cell? ⟨w.heap.size, 7, none⟩ = some (.int .i64 x.y) := Hx0.out.cell 7
 go_wp2_with fail
 clear m5 x0 x1 x2 x3 x4 x5 x6 x7
 refine HG.out.mono ?_
 rintro y w1 ⟨rfl, hb⟩
 clear HG
 have Hx1 := kbq Hx0 hb
 have Hr1 := kbq Hr0 hb
 have HB1 := ktq HB0 hb
 have HZ1 := kzq HZ0 hb.size
 clear Hx0 Hr0 HB0 HZ0
 clear hb
 go_wp2_with (with_reducible refine stop_storeT 54 (.tmp 3) (.tmp 9) rfl ?_)
 have HTH : Hid (w1.there (w.heap.size + 1) 0 8) := Hr1.out.thereAt
 have hch : Hid (Chg (w.heap.size + 1) w1 (w1.setCells (w.heap.size + 1) 0 (#[.int .i64 q.s, .int .i64 q.n, .int .i64 q.b, .int .i64 q.c, .int .i64 q.a, .int .i64 q.r, .int .i64 q.t, .int .i64 q.y] : Array Value).toList)) := Lib.hid (chg_putL _ _ _ _ _ (Chg.refl _ w1))
 have Hr2 : Hid (Blk (w1.setCells (w.heap.size + 1) 0 (#[.int .i64 q.s, .int .i64 q.n, .int .i64 q.b, .int .i64 q.c, .int .i64 q.a, .int .i64 q.r, .int .i64 q.t, .int .i64 q.y] : Array Value).toList) (w.heap.size + 1) #[.int .i64 q.s, .int .i64 q.n, .int .i64 q.b, .int .i64 q.c, .int .i64 q.a, .int .i64 q.r, .int .i64 q.t, .int .i64 q.y] 54) := Lib.hid (blk_put_all Hr1.out _ rfl)
 have HB2 : Hid (Below w.heap.size w (w1.setCells (w.heap.size + 1) 0 (#[.int .i64 q.s, .int .i64 q.n, .int .i64 q.b, .int .i64 q.c, .int .i64 q.a, .int .i64 q.r, .int .i64 q.t, .int .i64 q.y] : Array Value).toList)) := Lib.hid (below_put (by omega) _ _ _ _ HB1.out)
 have HZ2 := kzq HZ1 hch.out.size
 have Hx2 := kcq Hx1 hch (by omega)
 clear hch Hx1 Hr1 HB1 HZ1
 refine wpList_store_mid rfl 54 (.tmp 3) (.tmp 9) rfl (w.heap.size + 1) 0 #[.int .i64 q.s, .int .i64 q.n, .int .i64 q.b, .int .i64 q.c, .int .i64 q.a, .int .i64 q.r, .int .i64 q.t, .int .i64 q.y] rfl rfl HTH.out (infoI8 rfl) (all_oneCell_toArray (by intro u hu; simp at hu; rcases hu with rfl | rfl | rfl | rfl | rfl | rfl | rfl | rfl <;> rfl)) ?_
 generalize (w1.setCells (w.heap.size + 1) 0 (#[.int .i64 q.s, .int .i64 q.n, .int .i64 q.b, .int .i64 q.c, .int .i64 q.a, .int .i64 q.r, .int .i64 q.t, .int .i64 q.y] : Array Value).toList) = W2 at *
 clear HTH
 go_wp2_with fail
 have hf := Hr2.out
 refine bodyPost_ret (v := .tuple #[.agg #[.int .i64 q.s, .int .i64 q.n, .int .i64 q.b, .int .i64 q.c, .int .i64 q.a, .int .i64 q.r, .int .i64 q.t, .int .i64 q.y], .int .i64 f]) (by simp [results, Try.results47, go_sem, hf.cell 0, hf.cell 1, hf.cell 2, hf.cell 3, hf.cell 4, hf.cell 5, hf.cell 6, hf.cell 7]) rfl ⟨rfl, HB2.out⟩
end Go.Proofs.Ytmhocihajobkkaa
namespace Go.Proofs.Ytmhocihajobkkaa
open Go.RowKit
set_option linter.unusedSimpArgs false
/-- The book's items with something done to some. -/
def eachX (f : Itm → Itm × Int) (X its : List Itm) : List Itm := its.foldl (fun Y x => insX Y (f x).1) X
theorem eachX_take {f : Itm → Itm × Int} {X its : List Itm} {k : Nat} (hk : k < its.length) : eachX f X (its.take (k + 1)) = insX (eachX f X (its.take k)) (f its[k]).1 := by
 unfold eachX
 rw [List.take_succ_eq_append_getElem hk, List.foldl_append]
 rfl
theorem eachX_sort {f : Itm → Itm × Int} : ∀ {its X : List Itm}, SortX X → SortX (eachX f X its)
 | [], _, h => h
 | _ :: l, _, h => eachX_sort (its := l) (ins_sorted h)
theorem eachX_len {f : Itm → Itm × Int} : ∀ {its X : List Itm}, SortX X → (eachX f X its).length ≤ X.length + its.length
 | [], _, _ => Nat.le_refl _
 | x :: l, X, h => by
  have h1 := eachX_len (f := f) (its := l) (ins_sorted (x := (f x).1) h)
  have h2 := insX_len (x := (f x).1) h
  show (eachX f (insX X (f x).1) l).length ≤ X.length + (l.length + 1)
  omega
set_option linter.unusedSimpArgs false in
set_option maxHeartbeats 4000000 in
set_option maxRecDepth 100000 in
theorem each_ask (w : World) (me : Int) (pi po : Option Addr) (ni ci no co : Nat) (xs its : List Itm) (p : Option Addr) (m c : Nat) (f : Itm → Itm × Int) (P : Nat → Prop) (bm : Nat) (hr : TRow encI w (.slice pi ni ci) xs) (hni : ni = xs.length) (hat : At P (.slice pi ni ci) ni) (hw0 : ∀ b, P b → b < w.heap.size) (hs : SortX xs) (hi : TRow encI w (.slice p m c) its) (hm : m = its.length) (hl : xs.length + its.length ≤ 1000) (hok : ∀ x ∈ its, (f x).2 = 0 ∧ chkI (f x).1 = 0 ∧ ((f x).1.s = me ∨ (f x).1.b = me))
  (hS : ∀ W, Below w.heap.size w W → ∀ x : Itm, Calls Try.prog 47 #[x.v, .pointer (some ⟨bm, 0, none⟩)] W fun e w' => e = ansI (f x) ∧ Below W.heap.size W w') :
  Calls Try.prog 46 #[bookV me (.slice pi ni ci) (.slice po no co), .slice p m c, (.func (.func 47) #[] #[.pointer (some ⟨bm, 0, none⟩)])] w fun e w' => ∃ pi' ci', e = .returned (.tuple #[bookV me (.slice pi' (eachX f xs its).length ci') (.slice po no co), .int .i64 0]) ∧ TRow encI w' (.slice pi' (eachX f xs its).length ci') (eachX f xs its) ∧ At (fun b => P b ∨ w.heap.size ≤ b) (.slice pi' (eachX f xs its).length ci') (eachX f xs its).length ∧ Below w.heap.size w w' := by
 unfold bookV Itm.v at *
 have HB0 : Hid (Below w.heap.size w ((w.alloc (.cells #[.int .i64 me, .slice pi ni ci, .slice po no co] 28)).alloc (.cells #[.int .i64 0, .slice none 0 0, .slice none 0 0] 28))) := Lib.hid (((oneB w _).alloc (by simp <;> omega) _))
 have Hb0 : Hid (Blk ((w.alloc (.cells #[.int .i64 me, .slice pi ni ci, .slice po no co] 28)).alloc (.cells #[.int .i64 0, .slice none 0 0, .slice none 0 0] 28)) w.heap.size #[.int .i64 me, .slice pi ni ci, .slice po no co] 28) := Lib.hid ((Blk.new w #[.int .i64 me, .slice pi ni ci, .slice po no co] 28).alloc _)
 have Hr0 : Hid (Blk ((w.alloc (.cells #[.int .i64 me, .slice pi ni ci, .slice po no co] 28)).alloc (.cells #[.int .i64 0, .slice none 0 0, .slice none 0 0] 28)) (w.heap.size + 1) #[.int .i64 0, .slice none 0 0, .slice none 0 0] 28) := Lib.hid (Blk.new' (w.alloc (.cells #[.int .i64 me, .slice pi ni ci, .slice po no co] 28)) #[.int .i64 0, .slice none 0 0, .slice none 0 0] 28 (by simp))
 have HZ0 : Hid (w.heap.size ≤ ((w.alloc (.cells #[.int .i64 me, .slice pi ni ci, .slice po no co] 28)).alloc (.cells #[.int .i64 0, .slice none 0 0, .slice none 0 0] 28)).heap.size) := Lib.hid HB0.out.size
 have HS := Lib.hid hS
 have HI := Lib.hid hi
 have HOK := Lib.hid hok
 have HW0 := Lib.hid hw0
 have HSX := Lib.hid hs
 have HLL : Hid (xs.length + its.length ≤ 1000 ∧ m = its.length) := ⟨hl, hm⟩
 have HR0 := Lib.hid (hr.kept HB0.out)
 have HA0 := Lib.hid hat
 have HNI := Lib.hid hni
 clear hS hi hok hw0 hs hl hm hr hat hni
 go_enter Try.func46, Try.ntmps46
 go_upto_region 1 with fail
 generalize ((w.alloc (.cells #[.int .i64 me, .slice pi ni ci, .slice po no co] 28)).alloc (.cells #[.int .i64 0, .slice none 0 0, .slice none 0 0] 28)) = W at *
 go_wp2_with fail
 go_loopw [14] (fun i wr => ∃ (k : Nat) (pi' : Option Addr) (ci' : Nat), k ≤ m ∧ i = .int .i64 k ∧ Hid (Blk wr w.heap.size #[.int .i64 me, .slice pi' (eachX f xs (its.take k)).length ci', .slice po no co] 28) ∧ Hid (TRow encI wr (.slice pi' (eachX f xs (its.take k)).length ci') (eachX f xs (its.take k)) ∧ At (fun b => P b ∨ w.heap.size + 1 < b) (.slice pi' (eachX f xs (its.take k)).length ci') (eachX f xs (its.take k)).length) ∧ Hid (Blk wr (w.heap.size + 1) #[.int .i64 0, .slice none 0 0, .slice none 0 0] 28) ∧ Hid (Below w.heap.size w wr)) (fun i _ => m - (intOf i).toNat)
 case atStart =>
  have hn0 := HNI.out
  refine ⟨0, pi, ci, by omega, rfl, ?_, ?_, Hr0, HB0⟩
  ·rw [hn0] at Hb0; exact Hb0
  ·have h1 := HR0.out
   have h2 := HA0.out
   rw [hn0] at h1 h2
   exact ⟨h1, h2.imp (fun _ h => .inl h)⟩
 case round =>
  obtain ⟨k, pi', ci', hk, rfl, Hb90, HK, Hr90, HB90⟩ := hrel
  clear Hb0 Hr0 HB0 HZ0
  have HZ90 : Hid (w.heap.size ≤ wr.heap.size) := Lib.hid HB90.out.size
  by_cases hlt : k < m
  ·have hltI : (k : Int) < (m : Int) := by omega
   have hk41 : k + 1 ≤ 1001 := by have := HLL.out; omega
   have HKM : Hid (k < its.length ∧ k < m) := ⟨by have := HLL.out; omega, hlt⟩
   obtain ⟨b, o, rfl, hbl, hcs⟩ := (HI.out.kept HB90.out).at_ k HKM.out.1
   have c0 : wr.cell? ⟨b, o + k * 8, none⟩ = some (.int .i64 (its[k]'HKM.out.1).s) := hcs 0 (by decide)
   have c1 : wr.cell? ⟨b, o + k * 8 + 1, none⟩ = some (.int .i64 (its[k]'HKM.out.1).n) := hcs 1 (by decide)
   have c2 : wr.cell? ⟨b, o + k * 8 + 2, none⟩ = some (.int .i64 (its[k]'HKM.out.1).b) := hcs 2 (by decide)
   have c3 : wr.cell? ⟨b, o + k * 8 + 3, none⟩ = some (.int .i64 (its[k]'HKM.out.1).c) := hcs 3 (by decide)
   have c4 : wr.cell? ⟨b, o + k * 8 + 4, none⟩ = some (.int .i64 (its[k]'HKM.out.1).a) := hcs 4 (by decide)
   have c5 : wr.cell? ⟨b, o + k * 8 + 5, none⟩ = some (.int .i64 (its[k]'HKM.out.1).r) := hcs 5 (by decide)
   have c6 : wr.cell? ⟨b, o + k * 8 + 6, none⟩ = some (.int .i64 (its[k]'HKM.out.1).t) := hcs 6 (by decide)
   have c7 : wr.cell? ⟨b, o + k * 8 + 7, none⟩ = some (.int .i64 (its[k]'HKM.out.1).y) := hcs 7 (by decide)
   have HOKX := Lib.hid (HOK.out _ (List.getElem_mem HKM.out.1))
   have HNX := Lib.hid (eachX_take (f := f) (X := xs) HKM.out.1)
   have HSS := Lib.hid (eachX_sort (f := f) (its := its.take k) HSX.out)
   have HLS := Lib.hid (eachX_len (f := f) (its := its.take k) HSX.out)
   clear hcs hbl
   generalize its[k]'HKM.out.1 = x at *
   generalize hX : eachX f xs (its.take k) = X at *
   clear hX
   have hKA := oneB wr (.cells #[.int .i64 x.s, .int .i64 x.n, .int .i64 x.b, .int .i64 x.c, .int .i64 x.a, .int .i64 x.r, .int .i64 x.t, .int .i64 x.y] 54)
   have HK2 : Hid (TRow encI (wr.alloc (.cells #[.int .i64 x.s, .int .i64 x.n, .int .i64 x.b, .int .i64 x.c, .int .i64 x.a, .int .i64 x.r, .int .i64 x.t, .int .i64 x.y] 54)) (.slice pi' X.length ci') X ∧ At (fun b => P b ∨ w.heap.size + 1 < b) (.slice pi' X.length ci') X.length) := ⟨HK.out.1.kept hKA, HK.out.2⟩
   clear HK hKA
   have Hb91 := Lib.hid (Hb90.out.alloc (.cells #[.int .i64 x.s, .int .i64 x.n, .int .i64 x.b, .int .i64 x.c, .int .i64 x.a, .int .i64 x.r, .int .i64 x.t, .int .i64 x.y] 54))
   have Hr91 := Lib.hid (Hr90.out.alloc (.cells #[.int .i64 x.s, .int .i64 x.n, .int .i64 x.b, .int .i64 x.c, .int .i64 x.a, .int .i64 x.r, .int .i64 x.t, .int .i64 x.y] 54))
   have Hx91 := Lib.hid (Blk.new wr #[.int .i64 x.s, .int .i64 x.n, .int .i64 x.b, .int .i64 x.c, .int .i64 x.a, .int .i64 x.r, .int .i64 x.t, .int .i64 x.y] 54)
   have HB91 := Lib.hid (HB90.out.alloc HB90.out.size (.cells #[.int .i64 x.s, .int .i64 x.n, .int .i64 x.b, .int .i64 x.c, .int .i64 x.a, .int .i64 x.r, .int .i64 x.t, .int .i64 x.y] 54))
   have HZ91 := kzq HZ90 (oneB wr (.cells #[.int .i64 x.s, .int .i64 x.n, .int .i64 x.b, .int .i64 x.c, .int .i64 x.a, .int .i64 x.r, .int .i64 x.t, .int .i64 x.y] 54)).size
   clear Hb90 Hr90 HB90 HZ90
   go_upto_region 4 with fail
   clear c0 c1 c2 c3 c4 c5 c6 c7
   generalize (wr.alloc (.cells #[.int .i64 x.s, .int .i64 x.n, .int .i64 x.b, .int .i64 x.c, .int .i64 x.a, .int .i64 x.r, .int .i64 x.t, .int .i64 x.y] 54)) = wX at *
   generalize hggx : wr.heap.size = gx at *
   have HG := Lib.hid (HS.out wX HB91.out x)
   have HFX : Hid ((f x).2 = 0) := Lib.hid HOKX.out.1
   obtain ⟨q, hq⟩ : ∃ q, f x = (q, 0) := ⟨(f x).1, by rw [← HFX.out]⟩
   rw [hq] at HG HOKX HNX
   have HOKQ : Hid (chkI q = 0 ∧ (q.s = me ∨ q.b = me)) := HOKX.out.2
   have HNQ : Hid (eachX f xs (its.take (k + 1)) = insX X q) := HNX
   clear hq HFX HOKX HNX
   unfold ansI Itm.v at HG
   have x0 : wX.cell? ⟨gx, 0, none⟩ = some (.int .i64 x.s) := Hx91.out.cell 0
   have x1 : wX.cell? ⟨gx, 1, none⟩ = some (.int .i64 x.n) := Hx91.out.cell 1
   have x2 : wX.cell? ⟨gx, 2, none⟩ = some (.int .i64 x.b) := Hx91.out.cell 2
   have x3 : wX.cell? ⟨gx, 3, none⟩ = some (.int .i64 x.c) := Hx91.out.cell 3
   have x4 : wX.cell? ⟨gx, 4, none⟩ = some (.int .i64 x.a) := Hx91.out.cell 4
   have x5 : wX.cell? ⟨gx, 5, none⟩ = some (.int .i64 x.r) := Hx91.out.cell 5
   have x6 : wX.cell? ⟨gx, 6, none⟩ = some (.int .i64 x.t) := Hx91.out.cell 6
   have x7 : wX.cell? ⟨gx, 7, none⟩ = some (.int .i64 x.y) := Hx91.out.cell 7
   go_wp2_with fail
   clear x0 x1 x2 x3 x4 x5 x6 x7
   refine HG.out.mono ?_
   rintro y w1 ⟨rfl, hb⟩
   clear HG
   have HK3 : Hid (TRow encI w1 (.slice pi' X.length ci') X ∧ At (fun b => P b ∨ w.heap.size + 1 < b) (.slice pi' X.length ci') X.length) := ⟨HK2.out.1.kept hb, HK2.out.2⟩
   clear HK2
   clear Hx91
   have Hb92 := kbq Hb91 hb
   have Hr92 := kbq Hr91 hb
   have HB92 := ktq HB91 hb
   have HZ92 := kzq HZ91 hb.size
   clear Hb91 Hr91 HB91 HZ91
   clear hb
   have hKA := oneB w1 (.cells #[.int .i64 q.s, .int .i64 q.n, .int .i64 q.b, .int .i64 q.c, .int .i64 q.a, .int .i64 q.r, .int .i64 q.t, .int .i64 q.y] 54)
   have HK4 : Hid (TRow encI (w1.alloc (.cells #[.int .i64 q.s, .int .i64 q.n, .int .i64 q.b, .int .i64 q.c, .int .i64 q.a, .int .i64 q.r, .int .i64 q.t, .int .i64 q.y] 54)) (.slice pi' X.length ci') X ∧ At (fun b => P b ∨ w.heap.size + 1 < b) (.slice pi' X.length ci') X.length) := ⟨HK3.out.1.kept hKA, HK3.out.2⟩
   clear HK3 hKA
   have Hb93 := Lib.hid (Hb92.out.alloc (.cells #[.int .i64 q.s, .int .i64 q.n, .int .i64 q.b, .int .i64 q.c, .int .i64 q.a, .int .i64 q.r, .int .i64 q.t, .int .i64 q.y] 54))
   have Hr93 := Lib.hid (Hr92.out.alloc (.cells #[.int .i64 q.s, .int .i64 q.n, .int .i64 q.b, .int .i64 q.c, .int .i64 q.a, .int .i64 q.r, .int .i64 q.t, .int .i64 q.y] 54))
   have Hq93 := Lib.hid (Blk.new w1 #[.int .i64 q.s, .int .i64 q.n, .int .i64 q.b, .int .i64 q.c, .int .i64 q.a, .int .i64 q.r, .int .i64 q.t, .int .i64 q.y] 54)
   have HB93 := Lib.hid (HB92.out.alloc HB92.out.size (.cells #[.int .i64 q.s, .int .i64 q.n, .int .i64 q.b, .int .i64 q.c, .int .i64 q.a, .int .i64 q.r, .int .i64 q.t, .int .i64 q.y] 54))
   have HZ93 := kzq HZ92 (oneB w1 (.cells #[.int .i64 q.s, .int .i64 q.n, .int .i64 q.b, .int .i64 q.c, .int .i64 q.a, .int .i64 q.r, .int .i64 q.t, .int .i64 q.y] 54)).size
   clear Hb92 Hr92 HB92 HZ92
   go_upto_region 6 with fail
   generalize (w1.alloc (.cells #[.int .i64 q.s, .int .i64 q.n, .int .i64 q.b, .int .i64 q.c, .int .i64 q.a, .int .i64 q.r, .int .i64 q.t, .int .i64 q.y] 54)) = wQ at *
   generalize hggq : w1.heap.size = gq at *
   have HG := Lib.hid (dput_any wQ me pi' po X.length ci' no co q X (fun b => P b ∨ w.heap.size + 1 < b) HK4.out.1 rfl HSS.out (by have := HLS.out; have := HLL.out; have := HKM.out; rw [List.length_take] at *; omega) HOKQ.out.1 HOKQ.out.2 HK4.out.2)
   unfold bookV Itm.v at HG
   rw [← HNQ.out] at HG
   have a0 : wQ.cell? ⟨w.heap.size, 0, none⟩ = some (.int .i64 me) := Hb93.out.cell 0
   have a1 : wQ.cell? ⟨w.heap.size, 1, none⟩ = some (.slice pi' X.length ci') := Hb93.out.cell 1
   have a2 : wQ.cell? ⟨w.heap.size, 2, none⟩ = some (.slice po no co) := Hb93.out.cell 2
   have x0 : wQ.cell? ⟨gq, 0, none⟩ = some (.int .i64 q.s) := Hq93.out.cell 0
   have x1 : wQ.cell? ⟨gq, 1, none⟩ = some (.int .i64 q.n) := Hq93.out.cell 1
   have x2 : wQ.cell? ⟨gq, 2, none⟩ = some (.int .i64 q.b) := Hq93.out.cell 2
   have x3 : wQ.cell? ⟨gq, 3, none⟩ = some (.int .i64 q.c) := Hq93.out.cell 3
   have x4 : wQ.cell? ⟨gq, 4, none⟩ = some (.int .i64 q.a) := Hq93.out.cell 4
   have x5 : wQ.cell? ⟨gq, 5, none⟩ = some (.int .i64 q.r) := Hq93.out.cell 5
   have x6 : wQ.cell? ⟨gq, 6, none⟩ = some (.int .i64 q.t) := Hq93.out.cell 6
   have x7 : wQ.cell? ⟨gq, 7, none⟩ = some (.int .i64 q.y) := Hq93.out.cell 7
   go_wp2_with fail
   clear a0 a1 a2 x0 x1 x2 x3 x4 x5 x6 x7
   refine HG.out.mono ?_
   rintro y w2 ⟨pi2, ci2, rfl, hr2, hat2, hb⟩
   clear HG HK4 Hq93
   have hwq : w.heap.size + 1 < wQ.heap.size := Hr93.out.lt
   have HR2 := Lib.hid hr2
   have HA2 : Hid (At (fun b => P b ∨ w.heap.size + 1 < b) (.slice pi2 (eachX f xs (its.take (k + 1))).length ci2) (eachX f xs (its.take (k + 1))).length) := hat2.imp (fun b hb => hb.elim id (fun h => .inr (by omega)))
   clear hr2 hat2 hwq
   have Hb94 := kbq Hb93 hb
   have Hr94 := kbq Hr93 hb
   have HB94 := ktq HB93 hb
   have HZ94 := kzq HZ93 hb.size
   clear Hb93 Hr93 HB93 HZ93
   clear hb
   go_wp2_with (with_reducible refine stop_storeT 28 (.tmp 3) (.tmp 30) rfl ?_)
   have HTH : Hid (w2.there w.heap.size 0 3) := Hb94.out.thereAt
   have hch : Hid (Chg w.heap.size w2 (w2.setCells w.heap.size 0 (#[.int .i64 me, .slice pi2 (eachX f xs (its.take (k + 1))).length ci2, .slice po no co] : Array Value).toList)) := Lib.hid (chg_putL _ _ _ _ _ (Chg.refl _ w2))
   have Hb95 : Hid (Blk (w2.setCells w.heap.size 0 (#[.int .i64 me, .slice pi2 (eachX f xs (its.take (k + 1))).length ci2, .slice po no co] : Array Value).toList) w.heap.size #[.int .i64 me, .slice pi2 (eachX f xs (its.take (k + 1))).length ci2, .slice po no co] 28) := Lib.hid (blk_put_all Hb94.out _ rfl)
   have HB95 : Hid (Below w.heap.size w (w2.setCells w.heap.size 0 (#[.int .i64 me, .slice pi2 (eachX f xs (its.take (k + 1))).length ci2, .slice po no co] : Array Value).toList)) := Lib.hid (below_put (by omega) _ _ _ _ HB94.out)
   have HZ95 := kzq HZ94 hch.out.size
   have Hr95 := kcq Hr94 hch (by omega)
   have HR3 := Lib.hid (HR2.out.keepP HA2.out (KeepP.of_chg hch.out (by have := HW0.out; rintro (h | h); exact absurd (this _ h) (Nat.lt_irrefl _); omega)))
   clear HR2 hch Hb94 Hr94 HB94 HZ94
   refine wpList_store_mid rfl 28 (.tmp 3) (.tmp 30) rfl w.heap.size 0 #[.int .i64 me, .slice pi2 (eachX f xs (its.take (k + 1))).length ci2, .slice po no co] rfl rfl HTH.out (infoB3 rfl) (all_oneCell_toArray (by intro u hu; simp at hu; rcases hu with rfl | rfl | rfl <;> rfl)) ?_
   generalize (w2.setCells w.heap.size 0 (#[.int .i64 me, .slice pi2 (eachX f xs (its.take (k + 1))).length ci2, .slice po no co] : Array Value).toList) = W5 at *
   clear HTH
   go_wp2_with fail
   go_roundw
   case rel => exact ⟨k + 1, pi2, ci2, by have := HKM.out; omega, by go_num, Hb95, ⟨HR3.out, HA2.out⟩, Hr95, HB95⟩
   case measure => have := HKM.out; simp [intOf]; omega
  ·skip
   have hltI : ¬ (k : Int) < (m : Int) := by omega
   have hkk : its.take k = its := List.take_of_length_le (by have := HLL.out; omega)
   rw [hkk] at Hb90 HK
   clear hkk
   have a0 : wr.cell? ⟨w.heap.size, 0, none⟩ = some (.int .i64 me) := Hb90.out.cell 0
   have a1 : wr.cell? ⟨w.heap.size, 1, none⟩ = some (.slice pi' (eachX f xs its).length ci') := Hb90.out.cell 1
   have a2 : wr.cell? ⟨w.heap.size, 2, none⟩ = some (.slice po no co) := Hb90.out.cell 2
   go_wp2_with (with_reducible refine stop_storeT 28 (.tmp 6) (.tmp 37) rfl ?_)
   clear a0 a1 a2
   have HTH : Hid (wr.there (w.heap.size + 1) 0 3) := Hr90.out.thereAt
   have hch : Hid (Chg (w.heap.size + 1) wr (wr.setCells (w.heap.size + 1) 0 (#[.int .i64 me, .slice pi' (eachX f xs its).length ci', .slice po no co] : Array Value).toList)) := Lib.hid (chg_putL _ _ _ _ _ (Chg.refl _ wr))
   have Hr91 : Hid (Blk (wr.setCells (w.heap.size + 1) 0 (#[.int .i64 me, .slice pi' (eachX f xs its).length ci', .slice po no co] : Array Value).toList) (w.heap.size + 1) #[.int .i64 me, .slice pi' (eachX f xs its).length ci', .slice po no co] 28) := Lib.hid (blk_put_all Hr90.out _ rfl)
   have HB91 : Hid (Below w.heap.size w (wr.setCells (w.heap.size + 1) 0 (#[.int .i64 me, .slice pi' (eachX f xs its).length ci', .slice po no co] : Array Value).toList)) := Lib.hid (below_put (by omega) _ _ _ _ HB90.out)
   have HZ91 := kzq HZ90 hch.out.size
   have Hb91 := kcq Hb90 hch (by omega)
   have HK2 : Hid (TRow encI _ (.slice pi' (eachX f xs its).length ci') (eachX f xs its)) := Lib.hid (HK.out.1.keepP HK.out.2 (KeepP.of_chg hch.out (by have := HW0.out; rintro (h | h); (have h9 := this _ h; omega); omega)))
   clear hch Hb90 Hr90 HB90 HZ90
   refine wpList_store_mid rfl 28 (.tmp 6) (.tmp 37) rfl (w.heap.size + 1) 0 #[.int .i64 me, .slice pi' (eachX f xs its).length ci', .slice po no co] rfl rfl HTH.out (infoB3 rfl) (all_oneCell_toArray (by intro u hu; simp at hu; rcases hu with rfl | rfl | rfl <;> rfl)) ?_
   generalize (wr.setCells (w.heap.size + 1) 0 (#[.int .i64 me, .slice pi' (eachX f xs its).length ci', .slice po no co] : Array Value).toList) = W5 at *
   clear HTH
   go_wp2_with fail
   have hf := Hr91.out
   refine bodyPost_ret (v := .tuple #[.agg #[.int .i64 me, .slice pi' (eachX f xs its).length ci', .slice po no co], .int .i64 0]) (by simp [results, Try.results46, go_sem, hf.cell 0, hf.cell 1, hf.cell 2]) rfl ⟨pi', ci', rfl, HK2.out, HK.out.2.imp (fun b hb => hb.imp id (fun h => by omega)), HB91.out⟩
set_option linter.unusedSimpArgs false in
set_option maxHeartbeats 4000000 in
set_option maxRecDepth 100000 in
theorem each_decide (w : World) (me : Int) (pi po : Option Addr) (ni ci no co : Nat) (xs its : List Itm) (p : Option Addr) (m c : Nat) (f : Itm → Itm × Int) (P : Nat → Prop) (bm bq : Nat) (hr : TRow encI w (.slice pi ni ci) xs) (hni : ni = xs.length) (hat : At P (.slice pi ni ci) ni) (hw0 : ∀ b, P b → b < w.heap.size) (hs : SortX xs) (hi : TRow encI w (.slice p m c) its) (hm : m = its.length) (hl : xs.length + its.length ≤ 1000) (hok : ∀ x ∈ its, (f x).2 = 0 ∧ chkI (f x).1 = 0 ∧ ((f x).1.s = me ∨ (f x).1.b = me))
  (hS : ∀ W, Below w.heap.size w W → ∀ x : Itm, Calls Try.prog 56 #[x.v, .pointer (some ⟨bm, 0, none⟩), .pointer (some ⟨bq, 0, none⟩)] W fun e w' => e = ansI (f x) ∧ Below W.heap.size W w') :
  Calls Try.prog 46 #[bookV me (.slice pi ni ci) (.slice po no co), .slice p m c, (.func (.func 56) #[] #[.pointer (some ⟨bm, 0, none⟩), .pointer (some ⟨bq, 0, none⟩)])] w fun e w' => ∃ pi' ci', e = .returned (.tuple #[bookV me (.slice pi' (eachX f xs its).length ci') (.slice po no co), .int .i64 0]) ∧ TRow encI w' (.slice pi' (eachX f xs its).length ci') (eachX f xs its) ∧ At (fun b => P b ∨ w.heap.size ≤ b) (.slice pi' (eachX f xs its).length ci') (eachX f xs its).length ∧ Below w.heap.size w w' := by
 unfold bookV Itm.v at *
 have HB0 : Hid (Below w.heap.size w ((w.alloc (.cells #[.int .i64 me, .slice pi ni ci, .slice po no co] 28)).alloc (.cells #[.int .i64 0, .slice none 0 0, .slice none 0 0] 28))) := Lib.hid (((oneB w _).alloc (by simp <;> omega) _))
 have Hb0 : Hid (Blk ((w.alloc (.cells #[.int .i64 me, .slice pi ni ci, .slice po no co] 28)).alloc (.cells #[.int .i64 0, .slice none 0 0, .slice none 0 0] 28)) w.heap.size #[.int .i64 me, .slice pi ni ci, .slice po no co] 28) := Lib.hid ((Blk.new w #[.int .i64 me, .slice pi ni ci, .slice po no co] 28).alloc _)
 have Hr0 : Hid (Blk ((w.alloc (.cells #[.int .i64 me, .slice pi ni ci, .slice po no co] 28)).alloc (.cells #[.int .i64 0, .slice none 0 0, .slice none 0 0] 28)) (w.heap.size + 1) #[.int .i64 0, .slice none 0 0, .slice none 0 0] 28) := Lib.hid (Blk.new' (w.alloc (.cells #[.int .i64 me, .slice pi ni ci, .slice po no co] 28)) #[.int .i64 0, .slice none 0 0, .slice none 0 0] 28 (by simp))
 have HZ0 : Hid (w.heap.size ≤ ((w.alloc (.cells #[.int .i64 me, .slice pi ni ci, .slice po no co] 28)).alloc (.cells #[.int .i64 0, .slice none 0 0, .slice none 0 0] 28)).heap.size) := Lib.hid HB0.out.size
 have HS := Lib.hid hS
 have HI := Lib.hid hi
 have HOK := Lib.hid hok
 have HW0 := Lib.hid hw0
 have HSX := Lib.hid hs
 have HLL : Hid (xs.length + its.length ≤ 1000 ∧ m = its.length) := ⟨hl, hm⟩
 have HR0 := Lib.hid (hr.kept HB0.out)
 have HA0 := Lib.hid hat
 have HNI := Lib.hid hni
 clear hS hi hok hw0 hs hl hm hr hat hni
 go_enter Try.func46, Try.ntmps46
 go_upto_region 1 with fail
 generalize ((w.alloc (.cells #[.int .i64 me, .slice pi ni ci, .slice po no co] 28)).alloc (.cells #[.int .i64 0, .slice none 0 0, .slice none 0 0] 28)) = W at *
 go_wp2_with fail
 go_loopw [14] (fun i wr => ∃ (k : Nat) (pi' : Option Addr) (ci' : Nat), k ≤ m ∧ i = .int .i64 k ∧ Hid (Blk wr w.heap.size #[.int .i64 me, .slice pi' (eachX f xs (its.take k)).length ci', .slice po no co] 28) ∧ Hid (TRow encI wr (.slice pi' (eachX f xs (its.take k)).length ci') (eachX f xs (its.take k)) ∧ At (fun b => P b ∨ w.heap.size + 1 < b) (.slice pi' (eachX f xs (its.take k)).length ci') (eachX f xs (its.take k)).length) ∧ Hid (Blk wr (w.heap.size + 1) #[.int .i64 0, .slice none 0 0, .slice none 0 0] 28) ∧ Hid (Below w.heap.size w wr)) (fun i _ => m - (intOf i).toNat)
 case atStart =>
  have hn0 := HNI.out
  refine ⟨0, pi, ci, by omega, rfl, ?_, ?_, Hr0, HB0⟩
  ·rw [hn0] at Hb0; exact Hb0
  ·have h1 := HR0.out
   have h2 := HA0.out
   rw [hn0] at h1 h2
   exact ⟨h1, h2.imp (fun _ h => .inl h)⟩
 case round =>
  obtain ⟨k, pi', ci', hk, rfl, Hb90, HK, Hr90, HB90⟩ := hrel
  clear Hb0 Hr0 HB0 HZ0
  have HZ90 : Hid (w.heap.size ≤ wr.heap.size) := Lib.hid HB90.out.size
  by_cases hlt : k < m
  ·have hltI : (k : Int) < (m : Int) := by omega
   have hk41 : k + 1 ≤ 1001 := by have := HLL.out; omega
   have HKM : Hid (k < its.length ∧ k < m) := ⟨by have := HLL.out; omega, hlt⟩
   obtain ⟨b, o, rfl, hbl, hcs⟩ := (HI.out.kept HB90.out).at_ k HKM.out.1
   have c0 : wr.cell? ⟨b, o + k * 8, none⟩ = some (.int .i64 (its[k]'HKM.out.1).s) := hcs 0 (by decide)
   have c1 : wr.cell? ⟨b, o + k * 8 + 1, none⟩ = some (.int .i64 (its[k]'HKM.out.1).n) := hcs 1 (by decide)
   have c2 : wr.cell? ⟨b, o + k * 8 + 2, none⟩ = some (.int .i64 (its[k]'HKM.out.1).b) := hcs 2 (by decide)
   have c3 : wr.cell? ⟨b, o + k * 8 + 3, none⟩ = some (.int .i64 (its[k]'HKM.out.1).c) := hcs 3 (by decide)
   have c4 : wr.cell? ⟨b, o + k * 8 + 4, none⟩ = some (.int .i64 (its[k]'HKM.out.1).a) := hcs 4 (by decide)
   have c5 : wr.cell? ⟨b, o + k * 8 + 5, none⟩ = some (.int .i64 (its[k]'HKM.out.1).r) := hcs 5 (by decide)
   have c6 : wr.cell? ⟨b, o + k * 8 + 6, none⟩ = some (.int .i64 (its[k]'HKM.out.1).t) := hcs 6 (by decide)
   have c7 : wr.cell? ⟨b, o + k * 8 + 7, none⟩ = some (.int .i64 (its[k]'HKM.out.1).y) := hcs 7 (by decide)
   have HOKX := Lib.hid (HOK.out _ (List.getElem_mem HKM.out.1))
   have HNX := Lib.hid (eachX_take (f := f) (X := xs) HKM.out.1)
   have HSS := Lib.hid (eachX_sort (f := f) (its := its.take k) HSX.out)
   have HLS := Lib.hid (eachX_len (f := f) (its := its.take k) HSX.out)
   clear hcs hbl
   generalize its[k]'HKM.out.1 = x at *
   generalize hX : eachX f xs (its.take k) = X at *
   clear hX
   have hKA := oneB wr (.cells #[.int .i64 x.s, .int .i64 x.n, .int .i64 x.b, .int .i64 x.c, .int .i64 x.a, .int .i64 x.r, .int .i64 x.t, .int .i64 x.y] 54)
   have HK2 : Hid (TRow encI (wr.alloc (.cells #[.int .i64 x.s, .int .i64 x.n, .int .i64 x.b, .int .i64 x.c, .int .i64 x.a, .int .i64 x.r, .int .i64 x.t, .int .i64 x.y] 54)) (.slice pi' X.length ci') X ∧ At (fun b => P b ∨ w.heap.size + 1 < b) (.slice pi' X.length ci') X.length) := ⟨HK.out.1.kept hKA, HK.out.2⟩
   clear HK hKA
   have Hb91 := Lib.hid (Hb90.out.alloc (.cells #[.int .i64 x.s, .int .i64 x.n, .int .i64 x.b, .int .i64 x.c, .int .i64 x.a, .int .i64 x.r, .int .i64 x.t, .int .i64 x.y] 54))
   have Hr91 := Lib.hid (Hr90.out.alloc (.cells #[.int .i64 x.s, .int .i64 x.n, .int .i64 x.b, .int .i64 x.c, .int .i64 x.a, .int .i64 x.r, .int .i64 x.t, .int .i64 x.y] 54))
   have Hx91 := Lib.hid (Blk.new wr #[.int .i64 x.s, .int .i64 x.n, .int .i64 x.b, .int .i64 x.c, .int .i64 x.a, .int .i64 x.r, .int .i64 x.t, .int .i64 x.y] 54)
   have HB91 := Lib.hid (HB90.out.alloc HB90.out.size (.cells #[.int .i64 x.s, .int .i64 x.n, .int .i64 x.b, .int .i64 x.c, .int .i64 x.a, .int .i64 x.r, .int .i64 x.t, .int .i64 x.y] 54))
   have HZ91 := kzq HZ90 (oneB wr (.cells #[.int .i64 x.s, .int .i64 x.n, .int .i64 x.b, .int .i64 x.c, .int .i64 x.a, .int .i64 x.r, .int .i64 x.t, .int .i64 x.y] 54)).size
   clear Hb90 Hr90 HB90 HZ90
   go_upto_region 4 with fail
   clear c0 c1 c2 c3 c4 c5 c6 c7
   generalize (wr.alloc (.cells #[.int .i64 x.s, .int .i64 x.n, .int .i64 x.b, .int .i64 x.c, .int .i64 x.a, .int .i64 x.r, .int .i64 x.t, .int .i64 x.y] 54)) = wX at *
   generalize hggx : wr.heap.size = gx at *
   have HG := Lib.hid (HS.out wX HB91.out x)
   have HFX : Hid ((f x).2 = 0) := Lib.hid HOKX.out.1
   obtain ⟨q, hq⟩ : ∃ q, f x = (q, 0) := ⟨(f x).1, by rw [← HFX.out]⟩
   rw [hq] at HG HOKX HNX
   have HOKQ : Hid (chkI q = 0 ∧ (q.s = me ∨ q.b = me)) := HOKX.out.2
   have HNQ : Hid (eachX f xs (its.take (k + 1)) = insX X q) := HNX
   clear hq HFX HOKX HNX
   unfold ansI Itm.v at HG
   have x0 : wX.cell? ⟨gx, 0, none⟩ = some (.int .i64 x.s) := Hx91.out.cell 0
   have x1 : wX.cell? ⟨gx, 1, none⟩ = some (.int .i64 x.n) := Hx91.out.cell 1
   have x2 : wX.cell? ⟨gx, 2, none⟩ = some (.int .i64 x.b) := Hx91.out.cell 2
   have x3 : wX.cell? ⟨gx, 3, none⟩ = some (.int .i64 x.c) := Hx91.out.cell 3
   have x4 : wX.cell? ⟨gx, 4, none⟩ = some (.int .i64 x.a) := Hx91.out.cell 4
   have x5 : wX.cell? ⟨gx, 5, none⟩ = some (.int .i64 x.r) := Hx91.out.cell 5
   have x6 : wX.cell? ⟨gx, 6, none⟩ = some (.int .i64 x.t) := Hx91.out.cell 6
   have x7 : wX.cell? ⟨gx, 7, none⟩ = some (.int .i64 x.y) := Hx91.out.cell 7
   go_wp2_with fail
   clear x0 x1 x2 x3 x4 x5 x6 x7
   refine HG.out.mono ?_
   rintro y w1 ⟨rfl, hb⟩
   clear HG
   have HK3 : Hid (TRow encI w1 (.slice pi' X.length ci') X ∧ At (fun b => P b ∨ w.heap.size + 1 < b) (.slice pi' X.length ci') X.length) := ⟨HK2.out.1.kept hb, HK2.out.2⟩
   clear HK2
   clear Hx91
   have Hb92 := kbq Hb91 hb
   have Hr92 := kbq Hr91 hb
   have HB92 := ktq HB91 hb
   have HZ92 := kzq HZ91 hb.size
   clear Hb91 Hr91 HB91 HZ91
   clear hb
   have hKA := oneB w1 (.cells #[.int .i64 q.s, .int .i64 q.n, .int .i64 q.b, .int .i64 q.c, .int .i64 q.a, .int .i64 q.r, .int .i64 q.t, .int .i64 q.y] 54)
   have HK4 : Hid (TRow encI (w1.alloc (.cells #[.int .i64 q.s, .int .i64 q.n, .int .i64 q.b, .int .i64 q.c, .int .i64 q.a, .int .i64 q.r, .int .i64 q.t, .int .i64 q.y] 54)) (.slice pi' X.length ci') X ∧ At (fun b => P b ∨ w.heap.size + 1 < b) (.slice pi' X.length ci') X.length) := ⟨HK3.out.1.kept hKA, HK3.out.2⟩
   clear HK3 hKA
   have Hb93 := Lib.hid (Hb92.out.alloc (.cells #[.int .i64 q.s, .int .i64 q.n, .int .i64 q.b, .int .i64 q.c, .int .i64 q.a, .int .i64 q.r, .int .i64 q.t, .int .i64 q.y] 54))
   have Hr93 := Lib.hid (Hr92.out.alloc (.cells #[.int .i64 q.s, .int .i64 q.n, .int .i64 q.b, .int .i64 q.c, .int .i64 q.a, .int .i64 q.r, .int .i64 q.t, .int .i64 q.y] 54))
   have Hq93 := Lib.hid (Blk.new w1 #[.int .i64 q.s, .int .i64 q.n, .int .i64 q.b, .int .i64 q.c, .int .i64 q.a, .int .i64 q.r, .int .i64 q.t, .int .i64 q.y] 54)
   have HB93 := Lib.hid (HB92.out.alloc HB92.out.size (.cells #[.int .i64 q.s, .int .i64 q.n, .int .i64 q.b, .int .i64 q.c, .int .i64 q.a, .int .i64 q.r, .int .i64 q.t, .int .i64 q.y] 54))
   have HZ93 := kzq HZ92 (oneB w1 (.cells #[.int .i64 q.s, .int .i64 q.n, .int .i64 q.b, .int .i64 q.c, .int .i64 q.a, .int .i64 q.r, .int .i64 q.t, .int .i64 q.y] 54)).size
   clear Hb92 Hr92 HB92 HZ92
   go_upto_region 6 with fail
   generalize (w1.alloc (.cells #[.int .i64 q.s, .int .i64 q.n, .int .i64 q.b, .int .i64 q.c, .int .i64 q.a, .int .i64 q.r, .int .i64 q.t, .int .i64 q.y] 54)) = wQ at *
   generalize hggq : w1.heap.size = gq at *
   have HG := Lib.hid (dput_any wQ me pi' po X.length ci' no co q X (fun b => P b ∨ w.heap.size + 1 < b) HK4.out.1 rfl HSS.out (by have := HLS.out; have := HLL.out; have := HKM.out; rw [List.length_take] at *; omega) HOKQ.out.1 HOKQ.out.2 HK4.out.2)
   unfold bookV Itm.v at HG
   rw [← HNQ.out] at HG
   have a0 : wQ.cell? ⟨w.heap.size, 0, none⟩ = some (.int .i64 me) := Hb93.out.cell 0
   have a1 : wQ.cell? ⟨w.heap.size, 1, none⟩ = some (.slice pi' X.length ci') := Hb93.out.cell 1
   have a2 : wQ.cell? ⟨w.heap.size, 2, none⟩ = some (.slice po no co) := Hb93.out.cell 2
   have x0 : wQ.cell? ⟨gq, 0, none⟩ = some (.int .i64 q.s) := Hq93.out.cell 0
   have x1 : wQ.cell? ⟨gq, 1, none⟩ = some (.int .i64 q.n) := Hq93.out.cell 1
   have x2 : wQ.cell? ⟨gq, 2, none⟩ = some (.int .i64 q.b) := Hq93.out.cell 2
   have x3 : wQ.cell? ⟨gq, 3, none⟩ = some (.int .i64 q.c) := Hq93.out.cell 3
   have x4 : wQ.cell? ⟨gq, 4, none⟩ = some (.int .i64 q.a) := Hq93.out.cell 4
   have x5 : wQ.cell? ⟨gq, 5, none⟩ = some (.int .i64 q.r) := Hq93.out.cell 5
   have x6 : wQ.cell? ⟨gq, 6, none⟩ = some (.int .i64 q.t) := Hq93.out.cell 6
   have x7 : wQ.cell? ⟨gq, 7, none⟩ = some (.int .i64 q.y) := Hq93.out.cell 7
   go_wp2_with fail
   clear a0 a1 a2 x0 x1 x2 x3 x4 x5 x6 x7
   refine HG.out.mono ?_
   rintro y w2 ⟨pi2, ci2, rfl, hr2, hat2, hb⟩
   clear HG HK4 Hq93
   have hwq : w.heap.size + 1 < wQ.heap.size := Hr93.out.lt
   have HR2 := Lib.hid hr2
   have HA2 : Hid (At (fun b => P b ∨ w.heap.size + 1 < b) (.slice pi2 (eachX f xs (its.take (k + 1))).length ci2) (eachX f xs (its.take (k + 1))).length) := hat2.imp (fun b hb => hb.elim id (fun h => .inr (by omega)))
   clear hr2 hat2 hwq
   have Hb94 := kbq Hb93 hb
   have Hr94 := kbq Hr93 hb
   have HB94 := ktq HB93 hb
   have HZ94 := kzq HZ93 hb.size
   clear Hb93 Hr93 HB93 HZ93
   clear hb
   go_wp2_with (with_reducible refine stop_storeT 28 (.tmp 3) (.tmp 30) rfl ?_)
   have HTH : Hid (w2.there w.heap.size 0 3) := Hb94.out.thereAt
   have hch : Hid (Chg w.heap.size w2 (w2.setCells w.heap.size 0 (#[.int .i64 me, .slice pi2 (eachX f xs (its.take (k + 1))).length ci2, .slice po no co] : Array Value).toList)) := Lib.hid (chg_putL _ _ _ _ _ (Chg.refl _ w2))
   have Hb95 : Hid (Blk (w2.setCells w.heap.size 0 (#[.int .i64 me, .slice pi2 (eachX f xs (its.take (k + 1))).length ci2, .slice po no co] : Array Value).toList) w.heap.size #[.int .i64 me, .slice pi2 (eachX f xs (its.take (k + 1))).length ci2, .slice po no co] 28) := Lib.hid (blk_put_all Hb94.out _ rfl)
   have HB95 : Hid (Below w.heap.size w (w2.setCells w.heap.size 0 (#[.int .i64 me, .slice pi2 (eachX f xs (its.take (k + 1))).length ci2, .slice po no co] : Array Value).toList)) := Lib.hid (below_put (by omega) _ _ _ _ HB94.out)
   have HZ95 := kzq HZ94 hch.out.size
   have Hr95 := kcq Hr94 hch (by omega)
   have HR3 := Lib.hid (HR2.out.keepP HA2.out (KeepP.of_chg hch.out (by have := HW0.out; rintro (h | h); exact absurd (this _ h) (Nat.lt_irrefl _); omega)))
   clear HR2 hch Hb94 Hr94 HB94 HZ94
   refine wpList_store_mid rfl 28 (.tmp 3) (.tmp 30) rfl w.heap.size 0 #[.int .i64 me, .slice pi2 (eachX f xs (its.take (k + 1))).length ci2, .slice po no co] rfl rfl HTH.out (infoB3 rfl) (all_oneCell_toArray (by intro u hu; simp at hu; rcases hu with rfl | rfl | rfl <;> rfl)) ?_
   generalize (w2.setCells w.heap.size 0 (#[.int .i64 me, .slice pi2 (eachX f xs (its.take (k + 1))).length ci2, .slice po no co] : Array Value).toList) = W5 at *
   clear HTH
   go_wp2_with fail
   go_roundw
   case rel => exact ⟨k + 1, pi2, ci2, by have := HKM.out; omega, by go_num, Hb95, ⟨HR3.out, HA2.out⟩, Hr95, HB95⟩
   case measure => have := HKM.out; simp [intOf]; omega
  ·skip
   have hltI : ¬ (k : Int) < (m : Int) := by omega
   have hkk : its.take k = its := List.take_of_length_le (by have := HLL.out; omega)
   rw [hkk] at Hb90 HK
   clear hkk
   have a0 : wr.cell? ⟨w.heap.size, 0, none⟩ = some (.int .i64 me) := Hb90.out.cell 0
   have a1 : wr.cell? ⟨w.heap.size, 1, none⟩ = some (.slice pi' (eachX f xs its).length ci') := Hb90.out.cell 1
   have a2 : wr.cell? ⟨w.heap.size, 2, none⟩ = some (.slice po no co) := Hb90.out.cell 2
   go_wp2_with (with_reducible refine stop_storeT 28 (.tmp 6) (.tmp 37) rfl ?_)
   clear a0 a1 a2
   have HTH : Hid (wr.there (w.heap.size + 1) 0 3) := Hr90.out.thereAt
   have hch : Hid (Chg (w.heap.size + 1) wr (wr.setCells (w.heap.size + 1) 0 (#[.int .i64 me, .slice pi' (eachX f xs its).length ci', .slice po no co] : Array Value).toList)) := Lib.hid (chg_putL _ _ _ _ _ (Chg.refl _ wr))
   have Hr91 : Hid (Blk (wr.setCells (w.heap.size + 1) 0 (#[.int .i64 me, .slice pi' (eachX f xs its).length ci', .slice po no co] : Array Value).toList) (w.heap.size + 1) #[.int .i64 me, .slice pi' (eachX f xs its).length ci', .slice po no co] 28) := Lib.hid (blk_put_all Hr90.out _ rfl)
   have HB91 : Hid (Below w.heap.size w (wr.setCells (w.heap.size + 1) 0 (#[.int .i64 me, .slice pi' (eachX f xs its).length ci', .slice po no co] : Array Value).toList)) := Lib.hid (below_put (by omega) _ _ _ _ HB90.out)
   have HZ91 := kzq HZ90 hch.out.size
   have Hb91 := kcq Hb90 hch (by omega)
   have HK2 : Hid (TRow encI _ (.slice pi' (eachX f xs its).length ci') (eachX f xs its)) := Lib.hid (HK.out.1.keepP HK.out.2 (KeepP.of_chg hch.out (by have := HW0.out; rintro (h | h); (have h9 := this _ h; omega); omega)))
   clear hch Hb90 Hr90 HB90 HZ90
   refine wpList_store_mid rfl 28 (.tmp 6) (.tmp 37) rfl (w.heap.size + 1) 0 #[.int .i64 me, .slice pi' (eachX f xs its).length ci', .slice po no co] rfl rfl HTH.out (infoB3 rfl) (all_oneCell_toArray (by intro u hu; simp at hu; rcases hu with rfl | rfl | rfl <;> rfl)) ?_
   generalize (wr.setCells (w.heap.size + 1) 0 (#[.int .i64 me, .slice pi' (eachX f xs its).length ci', .slice po no co] : Array Value).toList) = W5 at *
   clear HTH
   go_wp2_with fail
   have hf := Hr91.out
   refine bodyPost_ret (v := .tuple #[.agg #[.int .i64 me, .slice pi' (eachX f xs its).length ci', .slice po no co], .int .i64 0]) (by simp [results, Try.results46, go_sem, hf.cell 0, hf.cell 1, hf.cell 2]) rfl ⟨pi', ci', rfl, HK2.out, HK.out.2.imp (fun b hb => hb.imp id (fun h => by omega)), HB91.out⟩
end Go.Proofs.Ytmhocihajobkkaa
namespace Go.Proofs.Ytmhocihajobkkaa
open Go.RowKit
/-- Are two items one, by their names? -/
def sameN (x y : Itm) : Prop := x.s = y.s ∧ x.n = y.n
theorem sort_ne {X : List Itm} (h : SortX X) : X.Pairwise (fun x y => ¬ sameN x y) := by
 unfold SortX SortedP at h
 rw [List.pairwise_map] at h
 refine h.imp ?_
 intro a b hab hs
 rw [ordP_lt] at hab
 unfold posI at hab
 unfold sameN at hs
 dsimp only at hab
 omega
theorem find_pw {X : List Itm} (h : X.Pairwise (fun x y => ¬ sameN x y)) {x : Itm} (hx : x ∈ X) : findX X x.s x.n = some x := by
 induction X with
 | nil => cases hx
 | cons y X ih =>
  rw [List.pairwise_cons] at h
  unfold findX
  rw [List.find?_cons]
  rcases List.mem_cons.1 hx with rfl | hx
  ·simp
  ·have hn : ¬ (y.s = x.s ∧ y.n = x.n) := h.1 x hx
   rw [show decide (y.s = x.s ∧ y.n = x.n) = false from decide_eq_false hn]
   exact ih h.2 hx
theorem find_sort {X : List Itm} (h : SortX X) {x : Itm} (hx : x ∈ X) : findX X x.s x.n = some x := find_pw (sort_ne h) hx
theorem findX_inj {X : List Itm} {s n : Int} {q : Itm} (h : findX X s n = some q) : q ∈ X ∧ q.s = s ∧ q.n = n := by
 unfold findX at h
 have h2 := List.find?_some h
 exact ⟨List.mem_of_find?_eq_some h, of_decide_eq_true h2⟩
theorem find_filter_all {X : List Itm} {p q : Itm → Bool} (h : ∀ x ∈ X, q x = true → p x = true) : (X.filter p).find? q = X.find? q := by
 induction X with
 | nil => rfl
 | cons x X ih =>
  have ih := ih (fun y hy => h y (List.mem_cons_of_mem _ hy))
  by_cases hp : p x = true
  ·rw [List.filter_cons_of_pos hp, List.find?_cons, List.find?_cons, ih]
  ·rw [List.filter_cons_of_neg hp, List.find?_cons]
   have hq : q x = false := by
    cases hqx : q x
    ·rfl
    ·exact absurd (h x (List.mem_cons_self ..) hqx) hp
   rw [hq, ih]
theorem find_insX (X : List Itm) (x : Itm) (s n : Int) : findX (insX X x) s n = if x.s = s ∧ x.n = n then some x else findX X s n := by
 unfold findX insX
 rw [List.append_assoc, List.find?_append, List.find?_append]
 by_cases hx : x.s = s ∧ x.n = n
 ·rw [if_pos hx]
  have h1 : (X.filter (fun z => decide (ordP (posI z) (posI x) < 0))).find? (fun z => decide (z.s = s ∧ z.n = n)) = none := by
   rw [List.find?_eq_none]
   intro z hz
   have h2 := of_decide_eq_true (List.mem_filter.1 hz).2
   rw [ordP_lt] at h2
   simp only [decide_eq_true_eq, not_and]
   unfold posI at h2
   dsimp only at h2
   omega
  rw [h1]
  simp [hx]
 ·rw [if_neg hx]
  have h3 : [x].find? (fun z => decide (z.s = s ∧ z.n = n)) = none := by
   rw [List.find?_eq_none]
   intro z hz
   rw [List.mem_singleton.1 hz]
   simpa using hx
  rw [h3, Option.none_or]
  by_cases hlt : ordP ⟨s, n, 0⟩ (posI x) < 0
  ·rw [find_filter_all (fun z _ hz => by
    have h5 := of_decide_eq_true hz
    apply decide_eq_true
    rw [ordP_lt] at hlt ⊢
    unfold posI at *
    dsimp only at *
    omega)]
   cases hf : X.find? (fun z => decide (z.s = s ∧ z.n = n)) with
   | some q => rfl
   | none =>
    rw [Option.none_or, List.find?_eq_none]
    rw [List.find?_eq_none] at hf
    exact fun z hz => hf z (List.mem_filter.1 hz).1
  ·rw [show (X.filter (fun z => decide (ordP (posI z) (posI x) < 0))).find? (fun z => decide (z.s = s ∧ z.n = n)) = none from by
    rw [List.find?_eq_none]
    intro z hz h5
    have h6 := of_decide_eq_true (List.mem_filter.1 hz).2
    have h5 := of_decide_eq_true h5
    rw [ordP_lt] at hlt h6
    unfold posI at *
    dsimp only at *
    omega]
   rw [Option.none_or]
   refine find_filter_all (fun z _ hz => ?_)
   have h5 := of_decide_eq_true hz
   apply decide_eq_true
   rw [ordP_gt]
   rw [ordP_lt] at hlt
   unfold posI at *
   dsimp only at *
   omega
/-- What is found behind all that was put. -/
theorem find_each {f : Itm → Itm × Int} : ∀ {its X : List Itm} (s n : Int), (∀ x ∈ its, (f x).1.s = x.s ∧ (f x).1.n = x.n) → its.Pairwise (fun x y => ¬ sameN x y) → findX (eachX f X its) s n = match findX its s n with | some x => some (f x).1 | none => findX X s n
 | [], _, _, _, _, _ => rfl
 | x :: its, X, s, n, hf, hp => by
  rw [List.pairwise_cons] at hp
  have e : eachX f X (x :: its) = eachX f (insX X (f x).1) its := rfl
  rw [e, find_each s n (fun y hy => hf y (List.mem_cons_of_mem _ hy)) hp.2, find_insX]
  have hfx := hf x (List.mem_cons_self ..)
  rw [hfx.1, hfx.2]
  unfold findX
  rw [List.find?_cons]
  by_cases hx : x.s = s ∧ x.n = n
  ·rw [show decide (x.s = s ∧ x.n = n) = true from decide_eq_true hx]
   have h0 : its.find? (fun z => decide (z.s = s ∧ z.n = n)) = none := by
    rw [List.find?_eq_none]
    intro z hz h5
    have h5 := of_decide_eq_true h5
    exact hp.1 z hz ⟨hx.1.trans h5.1.symm, hx.2.trans h5.2.symm⟩
   rw [h0, if_pos hx]
  ·rw [show decide (x.s = s ∧ x.n = n) = false from decide_eq_false hx, if_neg hx]
/-- Of a book's item, what it is behind it: it was among those, or stays. -/
theorem each_item {f : Itm → Itm × Int} {X its : List Itm} (hs : SortX X) (hsub : its.Sublist X) (hf : ∀ x ∈ its, (f x).1.s = x.s ∧ (f x).1.n = x.n) {x : Itm} (hx : x ∈ X) :
  (x ∈ its ∧ findX (eachX f X its) x.s x.n = some (f x).1) ∨ (x ∉ its ∧ findX (eachX f X its) x.s x.n = some x) := by
 have hpw := (sort_ne hs).sublist hsub
 by_cases hi : x ∈ its
 ·refine .inl ⟨hi, ?_⟩
  rw [find_each x.s x.n hf hpw, find_pw hpw hi]
 ·refine .inr ⟨hi, ?_⟩
  rw [find_each x.s x.n hf hpw]
  cases hq : findX its x.s x.n with
  | none => exact find_sort hs hx
  | some q =>
   obtain ⟨h1, h2, h3⟩ := findX_inj hq
   have h4 := find_sort hs (hsub.subset h1)
   rw [h2, h3, find_sort hs hx] at h4
   exact absurd (by rw [Option.some.inj h4]; exact h1) hi
theorem ins_len_eq {X : List Itm} {x z : Itm} (hs : SortX X) (hz : z ∈ X) (hn : sameN x z) : (insX X x).length = X.length := by
 obtain ⟨A, mid, B, hA⟩ := aroundF_of_sorted posI (posI x) X hs
 have h1 := (ins_around hA).1
 have h2 := hA.all
 have hm : mid.length = 1 := by
  have hp := hA.pos.there
  rcases hp with hp | ⟨q, hq, _⟩
  ·exfalso
   have hm0 : mid = [] := List.map_eq_nil_iff.1 hp
   rw [h2, hm0] at hz
   simp only [List.append_nil, List.mem_append] at hz
   rcases hz with hz | hz
   ·have := hA.pos.ahead _ (List.mem_map_of_mem hz)
    rw [ordP_lt] at this
    unfold posI sameN at *
    dsimp only at *
    omega
   ·have := hA.pos.behind _ (List.mem_map_of_mem hz)
    rw [ordP_gt] at this
    unfold posI sameN at *
    dsimp only at *
    omega
  ·have := congrArg List.length hq
   rw [List.length_map] at this
   exact this
 rw [← h1, h2]
 simp only [List.length_append, List.length_cons, List.length_nil]
 omega
theorem ins_has {X : List Itm} {x z : Itm} (hz : z ∈ X) : ∃ y ∈ insX X x, sameN y z := by
 unfold insX
 by_cases h1 : ordP (posI z) (posI x) < 0
 ·exact ⟨z, List.mem_append_left _ (List.mem_append_left _ (List.mem_filter.2 ⟨hz, decide_eq_true h1⟩)), rfl, rfl⟩
 ·by_cases h2 : 0 < ordP (posI z) (posI x)
  ·exact ⟨z, List.mem_append_right _ (List.mem_filter.2 ⟨hz, decide_eq_true h2⟩), rfl, rfl⟩
  ·refine ⟨x, List.mem_append_left _ (List.mem_append_right _ (List.mem_singleton.2 rfl)), ?_⟩
   have h3 : ordP (posI z) (posI x) = 0 := by omega
   rw [ordP_eq] at h3
   exact ⟨h3.1.symm, h3.2.symm⟩
theorem each_len_eq {f : Itm → Itm × Int} : ∀ {its X : List Itm}, SortX X → (∀ x ∈ its, ∃ z ∈ X, sameN (f x).1 z) → (eachX f X its).length = X.length
 | [], _, _, _ => rfl
 | x :: its, X, hs, h => by
  have e : eachX f X (x :: its) = eachX f (insX X (f x).1) its := rfl
  obtain ⟨z, hz, hn⟩ := h x (List.mem_cons_self ..)
  rw [e, each_len_eq (ins_sorted hs) (fun y hy => by
   obtain ⟨z2, hz2, hn2⟩ := h y (List.mem_cons_of_mem _ hy)
   obtain ⟨z3, hz3, hn3⟩ := ins_has (x := (f x).1) hz2
   exact ⟨z3, hz3, hn2.1.trans hn3.1.symm, hn2.2.trans hn3.2.symm⟩), ins_len_eq hs hz hn]
theorem each_good {me : Int} {f : Itm → Itm × Int} : ∀ {its X : List Itm}, GoodB me X → (∀ x ∈ its, chkI (f x).1 = 0 ∧ ((f x).1.s = me ∨ (f x).1.b = me)) → GoodB me (eachX f X its)
 | [], _, h, _ => h
 | x :: its, X, h, hf => by
  have e : eachX f X (x :: its) = eachX f (insX X (f x).1) its := rfl
  rw [e]
  refine each_good ⟨ins_sorted h.1, fun z hz => (ins_mem hz).elim (fun e => e ▸ hf x (List.mem_cons_self ..)) (h.2 z)⟩ (fun y hy => hf y (List.mem_cons_of_mem _ hy))
end Go.Proofs.Ytmhocihajobkkaa
namespace Go.Proofs.Ytmhocihajobkkaa
open Go.RowKit
def zeroVP : Value := .agg #[.int .i64 0, .int .i64 0, .int .i64 0, .slice none 0 0]
theorem eltP : EltT encP Try.prog 34 58 zeroVP 48 := eltT_mk Try.underlying34 (by kernel_rfl)
set_option maxHeartbeats 1000000 in
set_option maxRecDepth 100000 in
theorem growP_nil (n : Nat) (w : World) (hn : n ≤ 1000000) :
  Calls Try.prog 74 #[.slice none 0 0, .int .i64 n] w fun e w' => ∃ v, e = .returned v ∧ OwnT encP w' w.heap.size 58 v [] ∧ Below w.heap.size w w' := by
 obtain ⟨i0, _, hi, hz, hs, hby⟩ := eltP
 by_cases h0 : n = 0
 ·subst h0
  go_enter Try.func74, Try.ntmps74
  go_wp2
  go_ret
  exact ⟨_, rfl, OwnT.nil_ encP _ _ _, Below.refl _ _⟩
 ·have hpos : (0 : Int) < (n : Int) := by omega
  have happ := Lib.run_append_nil_zeros (P := Try.prog) w 34 3 34 58 i0 zeroVP .i64 .i64 Try.underlying34 Try.underlying3 hi hz n (by omega) (by rw [hs]; decide) (by omega) (by rw [hby]; omega)
  generalize hcap : grownCap w n 0 58 = cap2 at happ
  have hcapge : n ≤ cap2 := by rw [← hcap]; exact grownCap_ge w _ 0 58
  have hcaple : cap2 ≤ maxLen := by rw [← hcap]; exact grownCap_le_maxLen w _ 0 58 (by unfold maxLen; omega)
  generalize hZ : (Builtin.zeroCells zeroVP.cells n ++ Builtin.zeroCells zeroVP.cells (cap2 - n)) = Z at happ
  have hZs : Z.size = cap2 * 4 := by rw [← hZ]; simp [Builtin.zeroCells, Value.cells, zeroVP]; omega
  clear hcap hZ h0
  have HG := Lib.hid hcapge
  have HL := Lib.hid hcaple
  have HS := Lib.hid hZs
  clear hcapge hcaple hZs
  go_enter Try.func74, Try.ntmps74
  go_wp2_with (at_builtin; refine Lib.wpList_append_run _ rfl _ _ _ _ rfl _ _ rfl rfl _ _ happ ?_)
  go_ret
  exact ⟨_, rfl, ⟨by simp, .inr ⟨w.heap.size, cap2, Z, rfl, Nat.le_refl _, heap_alloc_new w.drew _, Nat.zero_le _, HL.out, HS.out, by simp⟩⟩, (Below.refl _ _).drew.alloc (Nat.le_refl _) _⟩
set_option maxHeartbeats 2000000 in
set_option maxRecDepth 100000 in
theorem concatP_any (b o m c : Nat) (vs : List Value) (pss : List (List PtX)) (w : World) (hR : RowsT encP w b o vs pss) (hm : m = pss.length) (hmc : m ≤ 1000) (hbig : pss.flatten.length ≤ 100000) :
  Calls Try.prog 66 #[.slice (some ⟨b, o, none⟩) m c] w fun e w' => ∃ v, e = .returned v ∧ OwnT encP w' w.heap.size 58 v pss.flatten ∧ Below w.heap.size w w' := by
 have HR := Lib.hid hR.2
 have HM := Lib.hid hm
 have HSB : Hid (∀ k, (catT pss k).length ≤ 100000) := fun k => Nat.le_trans (catT_le pss k) hbig
 clear hR hm
 go_enter Try.func66, Try.ntmps66
 go_wp2
 go_loop [3, 11] (fun s i => ∃ (k : Nat), k ≤ m ∧ i = .int .i64 k ∧ s = .int .i64 ((catT pss k).length : Nat)) (fun _ i => m - (intOf i).toNat)
 case atStart => exact ⟨0, by omega, rfl, rfl⟩
 case round =>
  obtain ⟨k, hk, rfl, rfl⟩ := hrel
  by_cases hlt : k < m
  ·obtain ⟨hc, hrow⟩ := HR.out k (by rw [← HM.out]; exact hlt)
   obtain ⟨p1, c1, hv⟩ := hrow.shape
   rw [hv] at hc
   have hs := Lib.hid (catT_len pss k (by rw [← HM.out]; exact hlt))
   have hsb := HSB.out (k + 1)
   rw [hs.out] at hsb
   clear hv hrow
   generalize (pss.getD k []).length = L at *
   go_wp2
   go_round
   case rel => exact ⟨k + 1, by omega, by go_num, by rw [hs.out]; go_num⟩
   case measure => simp [intOf]; omega
  ·have hkm : (m : Int) ≤ (k : Int) := by omega
   have hsb := HSB.out k
   go_wp2_with fail
   refine (growP_nil _ _ (by omega)).mono ?_
   rintro e w1 ⟨v1, rfl, ho1, hb1⟩
   have hstart : CatRelT encP 58 w pss 0 v1 w1 := ⟨by simpa [catT] using ho1, hb1⟩
   have HST := Lib.hid hstart
   clear hstart ho1 hb1
   go_wp2_with fail
   go_loopw [6, 27] (fun v i wr => ∃ (j : Nat), j ≤ m ∧ i = .int .i64 j ∧ Hid (CatRelT encP 58 w pss j v wr)) (fun _ i _ => m - (intOf i).toNat)
   case atStart => exact ⟨0, by omega, rfl, HST⟩
   case round =>
    obtain ⟨j, hj, rfl, HJ⟩ := hrel
    by_cases hlt : j < m
    ·have hlz : j < pss.length := by rw [← HM.out]; exact hlt
     obtain ⟨hc, hrow⟩ := HR.out j hlz
     obtain ⟨p1, c1, hv⟩ := hrow.shape
     have hbl := World.block_lt_of_cell? w _ hc
     have HRW := Lib.hid hrow
     rw [hv] at hc HRW
     have hcw := (HJ.out.2.cell (p := ⟨b, o + j, none⟩) hbl).trans hc
     have HLEN : Hid ((catT pss j).length + (pss.getD j []).length ≤ 100000) := by have h := HSB.out (j + 1); rw [catT_len pss j hlz] at h; exact h
     have HLZ := Lib.hid hlz
     clear hv hrow hc hbl hlz
     obtain ⟨p0, c0, hv0⟩ := HJ.out.1.form
     have HJ2 := HJ.out
     rw [hv0] at HJ2
     have HJ3 := Lib.hid HJ2
     subst hv0
     clear HJ2
     go_wp2_with (at_builtin; go_loud (refine wpList_append_t rfl _ _ 34 rfl 58 zeroVP 48 w.heap.size eltP rfl (by decide) _ _ (catT pss j) (pss.getD j []) rfl rfl HJ3.out.1 (HRW.out.kept (HJ3.out.2)) (by have h : _ ≤ _ := HLEN.out; omega) HJ3.out.2.size (catT pss (j + 1)) ((catT pss (j + 1)).length) (catT_succ pss j HLZ.out) rfl ?_; intro p2 c2 w2 ho2 _ hb2; have HN := Lib.hid (show CatRelT encP 58 w pss (j + 1) _ w2 from ⟨ho2, HJ3.out.2.trans hb2⟩); clear ho2 hb2))
     go_roundw
     case rel => exact ⟨j + 1, by omega, by go_num, HN⟩
     case measure => simp [intOf]; omega
    ·have hjm : (m : Int) ≤ (j : Int) := by omega
     have hjz : j = pss.length := by rw [← HM.out]; omega
     have hE := HJ.out
     rw [hjz] at hE
     have HE := Lib.hid hE
     clear hjz hE
     go_wp2
     go_ret
     exact ⟨_, rfl, by have := HE.out.1; unfold catT at this; rwa [List.take_length] at this, HE.out.2⟩
end Go.Proofs.Ytmhocihajobkkaa
