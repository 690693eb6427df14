/- contraref11.Same by contract: a message is the same as itself. chief's Do in a law that writes into what is said: where the cycles lie, and where what is said. What all have to have comes to nought. ChiefOne: one decision: what is decided stays so, all are told the same, and yes only if all said yes, to nets that come to nought. A map of truths by number, as a set that is filled. Maps of ChiefOne: truths by number, asked with 'known'; arrays of three truths by number. contralaw18.fits by contract. Plain numbers: decimal digits, the least one first; no program is named here. Plain numbers: sums, differences and the order of numbers that are written out in digits. contraref01.From: a whole number, written out in digits. contraref01.trim and less: noughts at the end; the order of numbers that are written out. contraref01.plus and minus: digits together, and digits less others. contraref01.minus: digits less others. contraref01.Plus: two numbers together. contraref01.Fits: a number as a whole one of 64 bits. contraref01.Sum: all together, as a number of any size. ChiefOne: nets stay amounts; what the law's maps are set to. -/
import Derived.Test.YteogdfpkcoodlaaR1
import Derived.Deep.RegionHeld3
import Derived.Deep.CutRange
import Derived.Deep.CutBlock
import Derived.Test.YteogdfpkcoodlaaR4
import Derived.Test.YteogdfpkcoodlaaR2
import Derived.Maps.OwnSet
import Derived.WalkArith
import Derived.RowKit
import Derived.BigQuiet
import Derived.Deep.QuietTactic
import Derived.BigGuard
import Derived.Deep.RegionWith
import Derived.Maps.RangeWalk
namespace Go.Proofs.Yteogdfpkcoodlaa
open Go.RowKit
set_option linter.unusedSimpArgs false
theorem rowi_at {k : IntKind} {w : World} {p : Option Addr} {n c : Nat} {zs : List Int} (h : Row k w (.slice p n c) zs) (j : Nat) (hj : j < zs.length) : ∃ b o, p = some ⟨b, o, none⟩ ∧ w.cell? ⟨b, o + j, none⟩ = some (.int k (zs.getD j 0)) := by
 obtain ⟨p', c', e1, _, h⟩ := h
 cases e1
 rcases h with h | ⟨b, o, hp, h⟩
 ·subst h; simp at hj
 ·exact ⟨b, o, hp, h j hj⟩
set_option maxHeartbeats 8000000 in
set_option maxRecDepth 100000 in
theorem msame_any (m : Msg) (va vb ua ub : Value) (w : World) (ha : TRow encN w va m.ls) (hb : Row .i64 w vb m.ns) (hc : TRow encN w ua m.ls) (hd : Row .i64 w ub m.ns) (hl : m.ls.length ≤ 9000000000000000000) (hn : m.ns.length ≤ 9000000000000000000) :
  Calls Try.prog 9 #[m.v va vb, m.v ua ub] w fun e w' => e = .returned (.bool true) ∧ Below w.heap.size w w' := by
 obtain ⟨pa, ca, rfl⟩ := ha.shape
 obtain ⟨pb, cb, rfl⟩ := hb.shape
 obtain ⟨qa, da, rfl⟩ := hc.shape
 obtain ⟨qb, db, rfl⟩ := hd.shape
 have HA := Lib.hid ha
 have HB := Lib.hid hb
 have HC := Lib.hid hc
 have HD := Lib.hid hd
 clear ha hb hc hd
 generalize hll : m.ls.length = nl at *
 generalize hnl : m.ns.length = nn at *
 have HLL := Lib.hid hll
 have HNN := Lib.hid hnl
 clear hll hnl
 unfold Msg.v
 go_enter Try.func9, Try.ntmps9
 go_wp2_with fail
 have s1 : (w.alloc (.cells #[.int .i64 m.k, .int .i64 m.s, .int .i64 m.n, .int .i64 m.b, .int .i64 m.c, .int .i64 m.r, .int .i64 m.y, .int .i64 m.a, .bool m.t, .slice pa nl ca, .slice pb nn cb] 36)).heap.size = w.heap.size + 1 := by simp
 have HB2 : Hid (Below w.heap.size w ((w.alloc (.cells #[.int .i64 m.k, .int .i64 m.s, .int .i64 m.n, .int .i64 m.b, .int .i64 m.c, .int .i64 m.r, .int .i64 m.y, .int .i64 m.a, .bool m.t, .slice pa nl ca, .slice pb nn cb] 36)).alloc (.cells #[.int .i64 m.k, .int .i64 m.s, .int .i64 m.n, .int .i64 m.b, .int .i64 m.c, .int .i64 m.r, .int .i64 m.y, .int .i64 m.a, .bool m.t, .slice qa nl da, .slice qb nn db] 36))) := (oneB w _).trans ((oneB _ _).mono (by omega))
 have HK1 := Lib.hid ((Blk.new w (#[.int .i64 m.k, .int .i64 m.s, .int .i64 m.n, .int .i64 m.b, .int .i64 m.c, .int .i64 m.r, .int .i64 m.y, .int .i64 m.a, .bool m.t, .slice pa nl ca, .slice pb nn cb]) 36).alloc (.cells #[.int .i64 m.k, .int .i64 m.s, .int .i64 m.n, .int .i64 m.b, .int .i64 m.c, .int .i64 m.r, .int .i64 m.y, .int .i64 m.a, .bool m.t, .slice qa nl da, .slice qb nn db] 36))
 have HK2 : Hid (Blk ((w.alloc (.cells #[.int .i64 m.k, .int .i64 m.s, .int .i64 m.n, .int .i64 m.b, .int .i64 m.c, .int .i64 m.r, .int .i64 m.y, .int .i64 m.a, .bool m.t, .slice pa nl ca, .slice pb nn cb] 36)).alloc (.cells #[.int .i64 m.k, .int .i64 m.s, .int .i64 m.n, .int .i64 m.b, .int .i64 m.c, .int .i64 m.r, .int .i64 m.y, .int .i64 m.a, .bool m.t, .slice qa nl da, .slice qb nn db] 36)) (w.heap.size + 1) #[.int .i64 m.k, .int .i64 m.s, .int .i64 m.n, .int .i64 m.b, .int .i64 m.c, .int .i64 m.r, .int .i64 m.y, .int .i64 m.a, .bool m.t, .slice qa nl da, .slice qb nn db] 36) := by
  show Blk _ _ _ _
  rw [← s1]; exact Blk.new _ _ _
 generalize hW2 : (w.alloc (.cells #[.int .i64 m.k, .int .i64 m.s, .int .i64 m.n, .int .i64 m.b, .int .i64 m.c, .int .i64 m.r, .int .i64 m.y, .int .i64 m.a, .bool m.t, .slice pa nl ca, .slice pb nn cb] 36)).alloc (.cells #[.int .i64 m.k, .int .i64 m.s, .int .i64 m.n, .int .i64 m.b, .int .i64 m.c, .int .i64 m.r, .int .i64 m.y, .int .i64 m.a, .bool m.t, .slice qa nl da, .slice qb nn db] 36) = W2 at *
 clear hW2 s1
 generalize hg1 : w.heap.size = g1 at *
 have HG1 := Lib.hid hg1
 clear hg1
 generalize hg2 : g1 + 1 = g2 at *
 clear hg2
 go_loopw [5] (fun i wr => ∃ k : Nat, k ≤ nl ∧ i = .int .i64 k ∧ Hid (Below W2.heap.size W2 wr)) (fun i _ => nl - (intOf i).toNat)
 case atStart => exact ⟨0, by omega, rfl, Below.refl _ _⟩
 case round =>
  obtain ⟨k, hk, rfl, HW⟩ := hrel
  have a9 : wr.cell? ⟨g1, 9, none⟩ = some (.slice pa nl ca) := (HK1.out.below HW.out HK1.out.lt).cell 9
  have b9 : wr.cell? ⟨g2, 9, none⟩ = some (.slice qa nl da) := (HK2.out.below HW.out HK2.out.lt).cell 9
  by_cases hlt : k < nl
  ·have hltI : (k : Int) < (nl : Int) := by omega
   have hkl : k < m.ls.length := by rw [HLL.out]; exact hlt
   obtain ⟨b, o, rfl, hbl, hcs⟩ := ((HA.out.kept (HG1.out.symm ▸ HB2.out)).kept HW.out).at_ k hkl
   obtain ⟨b', o', rfl, hbl', hcs'⟩ := ((HC.out.kept (HG1.out.symm ▸ HB2.out)).kept HW.out).at_ k hkl
   generalize m.ls[k] = x at *
   have c0 : wr.cell? ⟨b, o + k * 4, none⟩ = some (.int .i64 x.s) := hcs 0 (by decide)
   have c1 : wr.cell? ⟨b, o + k * 4 + 1, none⟩ = some (.int .i64 x.n) := hcs 1 (by decide)
   have c2 : wr.cell? ⟨b, o + k * 4 + 2, none⟩ = some (.int .i64 x.b) := hcs 2 (by decide)
   have c3 : wr.cell? ⟨b, o + k * 4 + 3, none⟩ = some (.int .i64 x.a) := hcs 3 (by decide)
   have d0 : wr.cell? ⟨b', o' + k * 4, none⟩ = some (.int .i64 x.s) := hcs' 0 (by decide)
   have d1 : wr.cell? ⟨b', o' + k * 4 + 1, none⟩ = some (.int .i64 x.n) := hcs' 1 (by decide)
   have d2 : wr.cell? ⟨b', o' + k * 4 + 2, none⟩ = some (.int .i64 x.b) := hcs' 2 (by decide)
   have d3 : wr.cell? ⟨b', o' + k * 4 + 3, none⟩ = some (.int .i64 x.a) := hcs' 3 (by decide)
   clear hcs hcs'
   go_upto_region 6 with fail
   refine wp_region_held_drew (S := fun w' => w' = wr.drew) (by kernel_rfl) rfl (fun hS0 => ?_)
   refine wpAnyH_take (i := 0) (v := ?_) rfl (by kernel_rfl) (by kernel_rfl) (by kernel_rfl) (fun _ _ _ h => h) (Or.inl ⟨by kernel_rfl, ?_⟩) (by first | assumption | trivial) ?_
   rotate_left
   ·intro w hSw
    try dsimp only at hSw
    subst hSw
    first | (go_simp; done) | (go_simp; with_reducible rfl)
   try simp only [Act.put, List.getElem_toArray, List.getElem_cons_succ, List.getElem_cons_zero, List.setIfInBounds_toArray, List.set_cons_zero, List.set_cons_succ]
   refine wpAnyH_take (i := 1) (v := ?_) rfl (by kernel_rfl) (by kernel_rfl) (by kernel_rfl) (fun _ _ _ h => h) (Or.inl ⟨by kernel_rfl, ?_⟩) (by first | assumption | trivial) ?_
   rotate_left
   ·intro w hSw
    try dsimp only at hSw
    subst hSw
    first | (go_simp; done) | (go_simp; with_reducible rfl)
   try simp only [Act.put, List.getElem_toArray, List.getElem_cons_succ, List.getElem_cons_zero, List.setIfInBounds_toArray, List.set_cons_zero, List.set_cons_succ]
   refine wpAnyH_take (i := 2) (v := ?_) rfl (by kernel_rfl) (by kernel_rfl) (by kernel_rfl) (fun _ _ _ h => h) (Or.inl ⟨by kernel_rfl, ?_⟩) (by first | assumption | trivial) ?_
   rotate_left
   ·intro w hSw
    try dsimp only at hSw
    subst hSw
    first | (go_simp; done) | (go_simp; with_reducible rfl)
   try simp only [Act.put, List.getElem_toArray, List.getElem_cons_succ, List.getElem_cons_zero, List.setIfInBounds_toArray, List.set_cons_zero, List.set_cons_succ]
   refine wpAnyH_take (i := 3) (v := ?_) rfl (by kernel_rfl) (by kernel_rfl) (by kernel_rfl) (fun _ _ _ h => h) (Or.inl ⟨by kernel_rfl, ?_⟩) (by first | assumption | trivial) ?_
   rotate_left
   ·intro w hSw
    try dsimp only at hSw
    subst hSw
    first | (go_simp; done) | (go_simp; with_reducible rfl)
   try simp only [Act.put, List.getElem_toArray, List.getElem_cons_succ, List.getElem_cons_zero, List.setIfInBounds_toArray, List.set_cons_zero, List.set_cons_succ]
   refine wpAnyH_take (i := 4) (v := ?_) rfl (by kernel_rfl) (by kernel_rfl) (by kernel_rfl) (fun _ _ _ h => h) (Or.inl ⟨by kernel_rfl, ?_⟩) (by first | assumption | trivial) ?_
   rotate_left
   ·intro w hSw
    try dsimp only at hSw
    subst hSw
    first | (go_simp; done) | (go_simp; with_reducible rfl)
   try simp only [Act.put, List.getElem_toArray, List.getElem_cons_succ, List.getElem_cons_zero, List.setIfInBounds_toArray, List.set_cons_zero, List.set_cons_succ]
   refine wpAnyH_take (i := 5) (v := ?_) rfl (by kernel_rfl) (by kernel_rfl) (by kernel_rfl) (fun _ _ _ h => h) (Or.inl ⟨by kernel_rfl, ?_⟩) (by first | assumption | trivial) ?_
   rotate_left
   ·intro w hSw
    try dsimp only at hSw
    subst hSw
    first | (go_simp; done) | (go_simp; with_reducible rfl)
   try simp only [Act.put, List.getElem_toArray, List.getElem_cons_succ, List.getElem_cons_zero, List.setIfInBounds_toArray, List.set_cons_zero, List.set_cons_succ]
   refine wpAnyH_take (i := 6) (v := ?_) rfl (by kernel_rfl) (by kernel_rfl) (by kernel_rfl) (fun _ _ _ h => h) (Or.inl ⟨by kernel_rfl, ?_⟩) (by first | assumption | trivial) ?_
   rotate_left
   ·intro w hSw
    try dsimp only at hSw
    subst hSw
    first | (go_simp; done) | (go_simp; with_reducible rfl)
   try simp only [Act.put, List.getElem_toArray, List.getElem_cons_succ, List.getElem_cons_zero, List.setIfInBounds_toArray, List.set_cons_zero, List.set_cons_succ]
   refine wpAnyH_take (i := 7) (v := ?_) rfl (by kernel_rfl) (by kernel_rfl) (by kernel_rfl) (fun _ _ _ h => h) (Or.inl ⟨by kernel_rfl, ?_⟩) (by first | assumption | trivial) ?_
   rotate_left
   ·intro w hSw
    try dsimp only at hSw
    subst hSw
    first | (go_simp; done) | (go_simp; with_reducible rfl)
   try simp only [Act.put, List.getElem_toArray, List.getElem_cons_succ, List.getElem_cons_zero, List.setIfInBounds_toArray, List.set_cons_zero, List.set_cons_succ]
   refine wpAnyH_take (i := 8) (v := ?_) rfl (by kernel_rfl) (by kernel_rfl) (by kernel_rfl) (fun _ _ _ h => h) (Or.inl ⟨by kernel_rfl, ?_⟩) (by first | assumption | trivial) ?_
   rotate_left
   ·intro w hSw
    try dsimp only at hSw
    subst hSw
    first | (go_simp; done) | (go_simp; with_reducible rfl)
   try simp only [Act.put, List.getElem_toArray, List.getElem_cons_succ, List.getElem_cons_zero, List.setIfInBounds_toArray, List.set_cons_zero, List.set_cons_succ]
   refine wpAnyH_take (i := 9) (v := ?_) rfl (by kernel_rfl) (by kernel_rfl) (by kernel_rfl) (fun _ _ _ h => h) (Or.inl ⟨by kernel_rfl, ?_⟩) (by first | assumption | trivial) ?_
   rotate_left
   ·intro w hSw
    try dsimp only at hSw
    subst hSw
    first | (go_simp; done) | (go_simp; with_reducible rfl)
   try simp only [Act.put, List.getElem_toArray, List.getElem_cons_succ, List.getElem_cons_zero, List.setIfInBounds_toArray, List.set_cons_zero, List.set_cons_succ]
   refine wpAnyH_take (i := 10) (v := ?_) rfl (by kernel_rfl) (by kernel_rfl) (by kernel_rfl) (fun _ _ _ h => h) (Or.inl ⟨by kernel_rfl, ?_⟩) (by first | assumption | trivial) ?_
   rotate_left
   ·intro w hSw
    try dsimp only at hSw
    subst hSw
    first | (go_simp; done) | (go_simp; with_reducible rfl)
   try simp only [Act.put, List.getElem_toArray, List.getElem_cons_succ, List.getElem_cons_zero, List.setIfInBounds_toArray, List.set_cons_zero, List.set_cons_succ]
   refine wpAnyH_done (by kernel_rfl) ?_ _
   go_wp2_with fail
   go_roundw
   case rel => exact ⟨k + 1, by omega, by go_num, HW.out.drew⟩
   case measure => simp [intOf]; omega
  ·have hle : (nl : Int) ≤ (k : Int) := by omega
   have HW3 := HW
   go_wp2_with fail
   go_loopw [6] (fun i wr => ∃ k : Nat, k ≤ nn ∧ i = .int .i64 k ∧ Hid (Below W2.heap.size W2 wr)) (fun i _ => nn - (intOf i).toNat)
   case atStart => exact ⟨0, by omega, rfl, HW3.out⟩
   case round =>
    obtain ⟨j, hj, rfl, HW⟩ := hrel
    have a10 : wr.cell? ⟨g1, 10, none⟩ = some (.slice pb nn cb) := (HK1.out.below HW.out HK1.out.lt).cell 10
    have b10 : wr.cell? ⟨g2, 10, none⟩ = some (.slice qb nn db) := (HK2.out.below HW.out HK2.out.lt).cell 10
    by_cases hlt : j < nn
    ·have hltI : (j : Int) < (nn : Int) := by omega
     have hjl : j < m.ns.length := by rw [HNN.out]; exact hlt
     obtain ⟨b, o, rfl, c0⟩ := rowi_at ((HB.out.kept (HG1.out.symm ▸ HB2.out)).kept HW.out) j hjl
     obtain ⟨b', o', rfl, d0⟩ := rowi_at ((HD.out.kept (HG1.out.symm ▸ HB2.out)).kept HW.out) j hjl
     generalize m.ns.getD j 0 = z at *
     go_upto_region 11 with fail
     refine wp_region_held_drew (S := fun w' => w' = wr.drew) (by kernel_rfl) rfl (fun hS0 => ?_)
     refine wpAnyH_take (i := 0) (v := ?_) rfl (by kernel_rfl) (by kernel_rfl) (by kernel_rfl) (fun _ _ _ h => h) (Or.inl ⟨by kernel_rfl, ?_⟩) (by first | assumption | trivial) ?_
     rotate_left
     ·intro w hSw
      try dsimp only at hSw
      subst hSw
      first | (go_simp; done) | (go_simp; with_reducible rfl)
     try simp only [Act.put, List.getElem_toArray, List.getElem_cons_succ, List.getElem_cons_zero, List.setIfInBounds_toArray, List.set_cons_zero, List.set_cons_succ]
     refine wpAnyH_take (i := 1) (v := ?_) rfl (by kernel_rfl) (by kernel_rfl) (by kernel_rfl) (fun _ _ _ h => h) (Or.inl ⟨by kernel_rfl, ?_⟩) (by first | assumption | trivial) ?_
     rotate_left
     ·intro w hSw
      try dsimp only at hSw
      subst hSw
      first | (go_simp; done) | (go_simp; with_reducible rfl)
     try simp only [Act.put, List.getElem_toArray, List.getElem_cons_succ, List.getElem_cons_zero, List.setIfInBounds_toArray, List.set_cons_zero, List.set_cons_succ]
     refine wpAnyH_take (i := 2) (v := ?_) rfl (by kernel_rfl) (by kernel_rfl) (by kernel_rfl) (fun _ _ _ h => h) (Or.inl ⟨by kernel_rfl, ?_⟩) (by first | assumption | trivial) ?_
     rotate_left
     ·intro w hSw
      try dsimp only at hSw
      subst hSw
      first | (go_simp; done) | (go_simp; with_reducible rfl)
     try simp only [Act.put, List.getElem_toArray, List.getElem_cons_succ, List.getElem_cons_zero, List.setIfInBounds_toArray, List.set_cons_zero, List.set_cons_succ]
     refine wpAnyH_take (i := 3) (v := ?_) rfl (by kernel_rfl) (by kernel_rfl) (by kernel_rfl) (fun _ _ _ h => h) (Or.inl ⟨by kernel_rfl, ?_⟩) (by first | assumption | trivial) ?_
     rotate_left
     ·intro w hSw
      try dsimp only at hSw
      subst hSw
      first | (go_simp; done) | (go_simp; with_reducible rfl)
     try simp only [Act.put, List.getElem_toArray, List.getElem_cons_succ, List.getElem_cons_zero, List.setIfInBounds_toArray, List.set_cons_zero, List.set_cons_succ]
     refine wpAnyH_take (i := 4) (v := ?_) rfl (by kernel_rfl) (by kernel_rfl) (by kernel_rfl) (fun _ _ _ h => h) (Or.inl ⟨by kernel_rfl, ?_⟩) (by first | assumption | trivial) ?_
     rotate_left
     ·intro w hSw
      try dsimp only at hSw
      subst hSw
      first | (go_simp; done) | (go_simp; with_reducible rfl)
     try simp only [Act.put, List.getElem_toArray, List.getElem_cons_succ, List.getElem_cons_zero, List.setIfInBounds_toArray, List.set_cons_zero, List.set_cons_succ]
     refine wpAnyH_take (i := 5) (v := ?_) rfl (by kernel_rfl) (by kernel_rfl) (by kernel_rfl) (fun _ _ _ h => h) (Or.inl ⟨by kernel_rfl, ?_⟩) (by first | assumption | trivial) ?_
     rotate_left
     ·intro w hSw
      try dsimp only at hSw
      subst hSw
      first | (go_simp; done) | (go_simp; with_reducible rfl)
     try simp only [Act.put, List.getElem_toArray, List.getElem_cons_succ, List.getElem_cons_zero, List.setIfInBounds_toArray, List.set_cons_zero, List.set_cons_succ]
     refine wpAnyH_take (i := 6) (v := ?_) rfl (by kernel_rfl) (by kernel_rfl) (by kernel_rfl) (fun _ _ _ h => h) (Or.inl ⟨by kernel_rfl, ?_⟩) (by first | assumption | trivial) ?_
     rotate_left
     ·intro w hSw
      try dsimp only at hSw
      subst hSw
      first | (go_simp; done) | (go_simp; with_reducible rfl)
     try simp only [Act.put, List.getElem_toArray, List.getElem_cons_succ, List.getElem_cons_zero, List.setIfInBounds_toArray, List.set_cons_zero, List.set_cons_succ]
     refine wpAnyH_take (i := 7) (v := ?_) rfl (by kernel_rfl) (by kernel_rfl) (by kernel_rfl) (fun _ _ _ h => h) (Or.inl ⟨by kernel_rfl, ?_⟩) (by first | assumption | trivial) ?_
     rotate_left
     ·intro w hSw
      try dsimp only at hSw
      subst hSw
      first | (go_simp; done) | (go_simp; with_reducible rfl)
     try simp only [Act.put, List.getElem_toArray, List.getElem_cons_succ, List.getElem_cons_zero, List.setIfInBounds_toArray, List.set_cons_zero, List.set_cons_succ]
     refine wpAnyH_take (i := 8) (v := ?_) rfl (by kernel_rfl) (by kernel_rfl) (by kernel_rfl) (fun _ _ _ h => h) (Or.inl ⟨by kernel_rfl, ?_⟩) (by first | assumption | trivial) ?_
     rotate_left
     ·intro w hSw
      try dsimp only at hSw
      subst hSw
      first | (go_simp; done) | (go_simp; with_reducible rfl)
     try simp only [Act.put, List.getElem_toArray, List.getElem_cons_succ, List.getElem_cons_zero, List.setIfInBounds_toArray, List.set_cons_zero, List.set_cons_succ]
     refine wpAnyH_take (i := 9) (v := ?_) rfl (by kernel_rfl) (by kernel_rfl) (by kernel_rfl) (fun _ _ _ h => h) (Or.inl ⟨by kernel_rfl, ?_⟩) (by first | assumption | trivial) ?_
     rotate_left
     ·intro w hSw
      try dsimp only at hSw
      subst hSw
      first | (go_simp; done) | (go_simp; with_reducible rfl)
     try simp only [Act.put, List.getElem_toArray, List.getElem_cons_succ, List.getElem_cons_zero, List.setIfInBounds_toArray, List.set_cons_zero, List.set_cons_succ]
     refine wpAnyH_take (i := 10) (v := ?_) rfl (by kernel_rfl) (by kernel_rfl) (by kernel_rfl) (fun _ _ _ h => h) (Or.inl ⟨by kernel_rfl, ?_⟩) (by first | assumption | trivial) ?_
     rotate_left
     ·intro w hSw
      try dsimp only at hSw
      subst hSw
      first | (go_simp; done) | (go_simp; with_reducible rfl)
     try simp only [Act.put, List.getElem_toArray, List.getElem_cons_succ, List.getElem_cons_zero, List.setIfInBounds_toArray, List.set_cons_zero, List.set_cons_succ]
     refine wpAnyH_done (by kernel_rfl) ?_ _
     go_wp2_with fail
     go_roundw
     case rel => exact ⟨j + 1, by omega, by go_num, HW.out.drew⟩
     case measure => simp [intOf]; omega
    ·have hle : (nn : Int) ≤ (j : Int) := by omega
     go_wp2_with fail
     go_ret
     rw [HG1.out]
     exact ⟨rfl, HB2.out.trans (HW.out.mono (by have := HK1.out.lt; omega))⟩
end Go.Proofs.Yteogdfpkcoodlaa
namespace Go.Proofs.Yteogdfpkcoodlaa
open Go.RowKit
set_option linter.unusedSimpArgs false
theorem Ct.imp {P Q : Nat → Prop} {w : World} {N : Nat} {p : Option Addr} {n c : Nat} {rs : List Rn} (h : Ct P w N p n c rs) (hq : ∀ b, P b → Q b) : Ct Q w N p n c rs := ⟨h.rs.imp hq, h.n, h.ok⟩
theorem Ct.keepP {P : Nat → Prop} {w w' : World} {N : Nat} {p : Option Addr} {n c : Nat} {rs : List Rn} (h : Ct P w N p n c rs) (hk : KeepP P w w') : Ct P w' N p n c rs := ⟨h.rs.keepP hk, h.n, h.ok⟩
theorem Blk.keepP {P : Nat → Prop} {w w' : World} {b : Nat} {cs : Array Value} {t : TypeId} (h : Blk w b cs t) (hk : KeepP P w w') (hb : P b) : Blk w' b cs t := (hk.2 b h.lt hb).trans h
theorem cdo_o (w : World) (Q : Nat → Prop) (N : Nat) (NI : Int) (hNI : NI = (N : Int)) (p : Option Addr) (n c : Nat) (rs : List Rn) (y : MsgX) (fro : Int) (h : Ct Q w N p n c rs) (hq : ∀ b, Q b → b < w.heap.size) (hl : n ≤ 1000) (hN1 : 1 ≤ N) (hN8 : N ≤ 8) (Pm : Nat → Prop) (hy : y.InP Pm w) (hyl : y.m.ls.length ≤ 60) (rs2 : List Rn) (out : List (Int × Msg)) (err : Int) (hA : doC N rs y.m fro = (rs2, out, err)) :
  Calls Try.prog 7 #[.agg #[.int .i64 NI, .slice p n c], y.m.v (.slice y.pl y.m.ls.length y.cl) (.slice y.pn y.m.ns.length y.cn), .int .i64 fro] w fun a w' =>
   Below w.heap.size w w' ∧ ∃ p2 n2 c2 pv nv cv B, a = .returned (.tuple #[.agg #[.int .i64 NI, .slice p2 n2 c2], .slice pv nv cv, .int .i64 err]) ∧ w.heap.size ≤ B ∧ Ct (fun b => Q b ∨ (w.heap.size ≤ b ∧ b < B)) w' N p2 n2 c2 rs2 ∧ nv = out.length ∧ SaidL w' B (.slice pv nv cv) out := by
 subst hNI
 have ho := do_ok h.ok hN8 y.m hyl fro
 refine (cdo_any w Q N p n c rs y fro h.rs hq h.n hl hN1 hN8 h.ok.1 Pm hy hyl).mono ?_
 rintro a w' ⟨p2, n2, c2, pv, nv, cv, B, rfl, hn2, hnv, hB, hr, hs, hb⟩
 rw [hA] at hn2 hnv hr hs ho
 rw [hA]
 exact ⟨hb, p2, n2, c2, pv, nv, cv, B, rfl, hB, ⟨hr, hn2, ho.1⟩, hnv, hs⟩
/-- The cells of a list of numbers, free to be written. -/
def IntsAt (w : World) (p : Option Addr) (len k : Nat) : Prop := ∀ b o, p = some ⟨b, o, none⟩ → ∀ j, j < len * k → (∃ v, w.cell? ⟨b, o + j, none⟩ = some (.int .i64 v)) ∧ w.frozen? ⟨b, o + j, none⟩ = false
theorem IntsAt.set {w : World} {p : Option Addr} {len k : Nat} (h : IntsAt w p len k) (g i : Nat) (v : Int) : IntsAt (w.setCell ⟨g, i, none⟩ (.int .i64 v)) p len k := by
 intro b o e j hj
 obtain ⟨⟨u, hu⟩, hf⟩ := h b o e j hj
 refine ⟨?_, by rw [World.frozen?_setCell]; exact hf⟩
 by_cases hbg : (⟨g, i, none⟩ : Addr) = ⟨b, o + j, none⟩
 ·cases hbg
  exact ⟨v, World.cell?_setCell_same _ _ _ hu⟩
 ·exact ⟨u, by rw [World.cell?_setCell_other (h := hbg)]; exact hu⟩
theorem IntsAt.kept {w w' : World} {p : Option Addr} {len k : Nat} (h : IntsAt w p len k) (hb : Below w.heap.size w w') : IntsAt w' p len k := by
 intro b o e j hj
 obtain ⟨⟨u, hu⟩, hf⟩ := h b o e j hj
 have hlt := World.block_lt_of_cell? w _ hu
 have he : w'.heap[b]? = w.heap[b]? := hb.block b hlt
 exact ⟨⟨u, (World.cell?_of_block (a := ⟨b, o + j, none⟩) he).trans hu⟩, by unfold World.frozen? at hf ⊢; rw [he]; exact hf⟩
theorem TRow.ints {w : World} {p : Option Addr} {c : Nat} {xs : List Lin} (h : TRow encN w (.slice p xs.length c) xs) (hf : Fre w p xs.length) : IntsAt w p xs.length 4 := by
 intro b o e j hj
 subst e
 have hn : 0 < xs.length := by omega
 obtain ⟨cs, t, hB⟩ := hf b o rfl hn
 have hi : j / 4 < xs.length := by omega
 have hm : j % 4 < 4 := by omega
 obtain ⟨b2, o2, e2, _, hc⟩ := h.at_ (j / 4) hi
 cases e2
 have h1 := hc (j % 4) hm
 have e3 : o + j / 4 * 4 + j % 4 = o + j := by omega
 rw [show encN.k = 4 from rfl, e3] at h1
 refine ⟨?_, hB.free _⟩
 rw [h1]
 have : j % 4 = 0 ∨ j % 4 = 1 ∨ j % 4 = 2 ∨ j % 4 = 3 := by omega
 rcases this with h | h | h | h <;> rw [h] <;> exact ⟨_, rfl⟩
theorem Row.ints {w : World} {p : Option Addr} {c : Nat} {xs : List Int} (h : Row .i64 w (.slice p xs.length c) xs) (hf : Fre w p xs.length) : IntsAt w p xs.length 1 := by
 intro b o e j hj
 subst e
 have hn : 0 < xs.length := by omega
 obtain ⟨cs, t, hB⟩ := hf b o rfl hn
 obtain ⟨b2, o2, e2, _, hc⟩ := Row.atc h j (by omega)
 cases e2
 exact ⟨⟨_, hc⟩, hB.free _⟩
theorem TRow.some_ {α : Type} {e : Enc α} {w : World} {p : Option Addr} {n c : Nat} {xs : List α} (h : TRow e w (.slice p n c) xs) (hn : 0 < xs.length) : ∃ b o, p = some ⟨b, o, none⟩ := by
 obtain ⟨b, o, e, _⟩ := h.at_ 0 hn
 exact ⟨b, o, e⟩
/-- What Get answers, whether there is a cycle or not. -/
theorem GetP.uni {w : World} {base : Nat} {rs : List Rn} {k : Int} {x : RunX} {b : Bool} (h : GetP w base rs k x b) : x.r = (if b then rnAt rs k else noRun.r) ∧ x.In (fun b => base ≤ b) w ∧ Fre w x.pl x.r.ls.length := by
 cases b with
 | true => exact h.1 rfl
 | false =>
  have h1 := h.2 rfl
  subst h1
  exact ⟨rfl, ⟨HsR.nil_ _ _, TRow.nil_ _ _, At.nil_ _ _, Row.nil_ _ _ 0, At.nil_ _ _⟩, Fre.none_ _ _⟩
theorem get_sizes {N : Nat} {rs : List Rn} {k : Int} {b : Bool} (h : LOk N rs) (hb : hasB rs k = b) : (∀ q ∈ (if b then rnAt rs k else noRun.r).hs, q.ls.length ≤ 60) ∧ (if b then rnAt rs k else noRun.r).ls.length ≤ 480 ∧ (if b then rnAt rs k else noRun.r).ns.length ≤ 8 ∧ (if b then rnAt rs k else noRun.r).hs.length ≤ N := by
 cases b with
 | true =>
  have h1 := rnAt_mem hb
  exact ⟨fun q hq => ((h.1 _ h1).2 q hq).2, (h.2 _ h1).1, (h.2 _ h1).2, Nat.le_of_eq (h.1 _ h1).1⟩
 | false => exact ⟨(fun _ h => nomatch h), by show 0 ≤ 480; decide, by show 0 ≤ 8; decide, Nat.zero_le _⟩
theorem IntsAt.keepP {P : Nat → Prop} {w w' : World} {p : Option Addr} {len k : Nat} (h : IntsAt w p len k) (hk : KeepP P w w') (hP : ∀ b o, p = some ⟨b, o, none⟩ → P b) : IntsAt w' p len k := by
 intro b o e j hj
 obtain ⟨⟨u, hu⟩, hf⟩ := h b o e j hj
 have hlt := World.block_lt_of_cell? w _ hu
 have he : w'.heap[b]? = w.heap[b]? := hk.2 b hlt (hP b o e)
 exact ⟨⟨u, (World.cell?_of_block (a := ⟨b, o + j, none⟩) he).trans hu⟩, by unfold World.frozen? at hf ⊢; rw [he]; exact hf⟩
theorem IntsAt.keepG {g : Nat} {w w' : World} {p : Option Addr} {len k : Nat} (h : IntsAt w p len k) (hc : Chg g w w') (hP : ∀ b o, p = some ⟨b, o, none⟩ → b ≠ g) : IntsAt w' p len k := h.keepP (P := fun b => b ≠ g) (KeepP.of_chg hc (fun h => h rfl)) hP
/-- A list of numbers that may be written, in a block of P. -/
def LW (P : Nat → Prop) (p : Option Addr) (len k : Nat) (w : World) : Prop := (0 < len → ∃ b o, p = some ⟨b, o, none⟩ ∧ P b) ∧ IntsAt w p len k
theorem LW.set {P : Nat → Prop} {p : Option Addr} {len k : Nat} {w : World} (h : LW P p len k w) (g i : Nat) (v : Int) : LW P p len k (w.setCell ⟨g, i, none⟩ (.int .i64 v)) := ⟨h.1, h.2.set g i v⟩
theorem LW.kept {P : Nat → Prop} {p : Option Addr} {len k : Nat} {w w' : World} (h : LW P p len k w) (hb : Below w.heap.size w w') : LW P p len k w' := ⟨h.1, h.2.kept hb⟩
theorem LW.at_ {P : Nat → Prop} {p : Option Addr} {len k : Nat} {w : World} (h : LW P p len k w) (j q : Nat) (hj : j < len) (hq : q < k) : ∃ b o v, p = some ⟨b, o, none⟩ ∧ P b ∧ w.cell? ⟨b, o + j * k + q, none⟩ = some (.int .i64 v) ∧ w.frozen? ⟨b, o + j * k + q, none⟩ = false := by
 obtain ⟨b, o, e, hp⟩ := h.1 (by omega)
 have hlt : j * k + q < len * k := by
  have h1 : (j + 1) * k ≤ len * k := Nat.mul_le_mul_right k hj
  rw [Nat.succ_mul] at h1
  omega
 obtain ⟨⟨v, hv⟩, hf⟩ := h.2 b o e (j * k + q) hlt
 rw [← Nat.add_assoc] at hv hf
 exact ⟨b, o, v, e, hp, hv, hf⟩
theorem LW.at1 {P : Nat → Prop} {p : Option Addr} {len : Nat} {w : World} (h : LW P p len 1 w) (j : Nat) (hj : j < len) : ∃ b o v, p = some ⟨b, o, none⟩ ∧ P b ∧ w.cell? ⟨b, o + j, none⟩ = some (.int .i64 v) ∧ w.frozen? ⟨b, o + j, none⟩ = false := by
 obtain ⟨b, o, v, e, hp, h1, h2⟩ := h.at_ j 0 hj (by decide)
 rw [Nat.mul_one, Nat.add_zero] at h1 h2
 exact ⟨b, o, v, e, hp, h1, h2⟩
theorem LW.chg {P : Nat → Prop} {p : Option Addr} {len k g : Nat} {w w' : World} (h : LW P p len k w) (hc : Chg g w w') (hg : ¬ P g) : LW P p len k w' := by
 refine ⟨h.1, fun b o e j hj => ?_⟩
 have h0 : 0 < len := by
  rcases Nat.eq_zero_or_pos len with h0 | h0
  ·rw [h0, Nat.zero_mul] at hj
   exact absurd hj (Nat.not_lt_zero _)
  ·exact h0
 obtain ⟨b2, o2, e2, hp⟩ := h.1 h0
 refine (h.2.keepG hc (fun b' o' e' => ?_)) b o e j hj
 cases e'.symm.trans e2
 exact fun e3 => hg (e3 ▸ hp)
/-- Only blocks outside P have changed, and none that was there when the law began. -/
def Wr (P : Nat → Prop) (w W0 wr : World) : Prop := KeepP P W0 wr ∧ Below w.heap.size w wr
theorem Wr.set {P : Nat → Prop} {w W0 wr : World} {g : Nat} (h : Wr P w W0 wr) (hp : ¬ P g) (hg : w.heap.size ≤ g) (i : Nat) (v : Value) : Wr P w W0 (wr.setCell ⟨g, i, none⟩ v) :=
 ⟨h.1.trans (KeepP.of_chg ((Chg.refl g wr).set i v) hp), h.2.setCell (p := ⟨g, i, none⟩) hg v⟩
theorem Wr.kept {P : Nat → Prop} {w W0 wr w' : World} (h : Wr P w W0 wr) (hb : Below wr.heap.size wr w') : Wr P w W0 w' := ⟨h.1.trans (KeepP.of_below hb), h.2.trans (hb.mono h.2.size)⟩
theorem Wr.start {P : Nat → Prop} {w W0 : World} (h : Below w.heap.size w W0) : Wr P w W0 W0 := ⟨KeepP.refl _ _, h⟩
def InS (B S : Nat) (pv : Option Addr) (nv cv : Nat) (b : Nat) : Prop := B ≤ b ∧ b < S ∧ (Value.slice pv nv cv).ownBlock ≠ some b
/-- What is said, its numbers being written. -/
def Sdw (B S : Nat) (pv : Option Addr) (nv cv : Nat) (xs : List SdX) (w W0 wr : World) : Prop :=
 (OwnT encS wr B 47 (.slice pv nv cv) xs ∧ ∀ z ∈ xs, LW (InS B S pv nv cv) z.x.pl z.x.m.ls.length 4 wr ∧ LW (InS B S pv nv cv) z.x.pn z.x.m.ns.length 1 wr ∧ z.x.m.Sz) ∧ Wr (fun b => ¬ (B ≤ b ∧ b < S)) w W0 wr ∧ w.heap.size ≤ B
theorem Sdw.set {B S : Nat} {pv : Option Addr} {nv cv : Nat} {xs : List SdX} {w W0 wr : World} {g : Nat} (h : Sdw B S pv nv cv xs w W0 wr) (hg : InS B S pv nv cv g) (i : Nat) (v : Int) : Sdw B S pv nv cv xs w W0 (wr.setCell ⟨g, i, none⟩ (.int .i64 v)) :=
 ⟨⟨h.1.1.stay (fun b hb => ((Chg.refl g wr).set i (.int .i64 v)).2 b (h.1.1.lt b hb) (fun e => hg.2.2 (e ▸ hb))), fun z hz => ⟨(h.1.2 z hz).1.set _ _ _, (h.1.2 z hz).2.1.set _ _ _, (h.1.2 z hz).2.2⟩⟩, h.2.1.set (fun hn => hn ⟨hg.1, hg.2.1⟩) (Nat.le_trans h.2.2 hg.1) i _, h.2.2⟩
theorem Sdw.kept {B S : Nat} {pv : Option Addr} {nv cv : Nat} {xs : List SdX} {w W0 wr w' : World} (h : Sdw B S pv nv cv xs w W0 wr) (hb : Below wr.heap.size wr w') : Sdw B S pv nv cv xs w W0 w' :=
 ⟨⟨h.1.1.later hb, fun z hz => ⟨(h.1.2 z hz).1.kept hb, (h.1.2 z hz).2.1.kept hb, (h.1.2 z hz).2.2⟩⟩, h.2.1.kept hb, h.2.2⟩
theorem lw_lines {P : Nat → Prop} {w : World} {p : Option Addr} {c : Nat} {xs : List Lin} (h : TRow encN w (.slice p xs.length c) xs) (ha : At P (.slice p xs.length c) xs.length) (hf : Fre w p xs.length) : LW P p xs.length 4 w :=
 ⟨fun hn => by
  obtain ⟨b, o, e⟩ := h.some_ hn
  exact ⟨b, o, e, ha b o _ _ (by rw [e]) hn⟩, h.ints hf⟩
theorem lw_nums {P : Nat → Prop} {w : World} {p : Option Addr} {c : Nat} {xs : List Int} (h : Row .i64 w (.slice p xs.length c) xs) (ha : At P (.slice p xs.length c) xs.length) (hf : Fre w p xs.length) : LW P p xs.length 1 w :=
 ⟨fun hn => by
  obtain ⟨b, o, e, _⟩ := Row.atc h 0 hn
  exact ⟨b, o, e, ha b o _ _ (by rw [e]) hn⟩, h.ints hf⟩
/-- What each has said, read. -/
theorem HsR.at_ {P : Nat → Prop} {w : World} {p : Option Addr} {n c : Nat} {hs : List Hd} (h : HsR P w (.slice p n c) hs) (k : Nat) (hk : k < hs.length) : ∃ b o pq cq, p = some ⟨b, o, none⟩ ∧ w.cell? ⟨b, o + k * 3 + 2, none⟩ = some (.slice pq hs[k].ls.length cq) ∧ TRow encN w (.slice pq hs[k].ls.length cq) hs[k].ls := by
 obtain ⟨xs, h1, h2, h3, rfl⟩ := h
 have hk2 : k < xs.length := by rw [List.length_map] at hk; exact hk
 obtain ⟨b, o, e, _, hc⟩ := h1.at_ k hk2
 refine ⟨b, o, xs[k].p, xs[k].c, e, ?_, ?_⟩
 ·simp only [List.getElem_map]
  exact hc 2 (by decide)
 ·simp only [List.getElem_map]
  exact (h3 _ (List.getElem_mem hk2)).1
theorem do_out (rs : List Rn) (m : Msg) (fro : Int) : (doC 3 rs m fro).2.1.length ≤ 3 := by
 have h : ∀ (c : Prop) (_ : Decidable c) (a b : CAns), a.2.1.length ≤ 3 → b.2.1.length ≤ 3 → (if c then a else b).2.1.length ≤ 3 := by
  intro c _ a b ha hb
  split <;> assumption
 unfold doC startC dueC queryC offerC voteC
 repeat' (with_reducible refine h _ _ _ _ ?_ ?_)
 all_goals first | (show 0 ≤ 3; decide) | (show 1 ≤ 3; decide) | (show (toAllL 3 _).length ≤ 3; rw [toAllL_len]; decide)
/-- One cell. -/
def CellIs (b i : Nat) (v : Value) (w : World) : Prop := w.cell? ⟨b, i, none⟩ = some v
theorem CellIs.kept {b i : Nat} {v : Value} {w w' : World} (h : CellIs b i v w) (hb : Below w.heap.size w w') : CellIs b i v w' := (hb.cell (p := ⟨b, i, none⟩) (World.block_lt_of_cell? w _ h)).trans h
end Go.Proofs.Yteogdfpkcoodlaa
namespace Go.Proofs.Yteogdfpkcoodlaa
open Go.RowKit
def part (me : Int) (x : Lin) : Int := if mineB me x then gives me x else 0
theorem netS_cons (me : Int) (x : Lin) (xs : List Lin) : netS me (x :: xs) = part me x + netS me xs := by
 unfold netS netL mineL part
 rw [List.filter_cons]
 cases h : mineB me x <;> simp
theorem netS_nil (me : Int) : netS me [] = 0 := rfl
theorem netS_append (me : Int) : ∀ xs ys : List Lin, netS me (xs ++ ys) = netS me xs + netS me ys
 | [], ys => by rw [netS_nil, List.nil_append]; omega
 | x :: xs, ys => by rw [List.cons_append, netS_cons, netS_cons, netS_append me xs ys]; omega
theorem part_val (me : Int) (x : Lin) (h : x.s ≠ x.b) : part me x = (if me = x.s then x.a else 0) - (if me = x.b then x.a else 0) := by
 unfold part mineB gives
 by_cases h1 : x.s = me
 ·have h2 : ¬ me = x.b := fun e => h (by rw [h1, e])
  rw [decide_eq_true (.inl h1), if_pos rfl, if_pos h1, if_pos h1.symm, if_neg h2]; omega
 ·by_cases h2 : x.b = me
  ·rw [decide_eq_true (.inr h2), if_pos rfl, if_neg h1, if_neg (fun e => h1 e.symm), if_pos h2.symm]; omega
  ·rw [decide_eq_false (by omega), if_neg (by decide), if_neg (fun e => h1 e.symm), if_neg (fun e => h2 e.symm)]; omega
/-- The sum of f over 0 .. n - 1. -/
def sumTo (f : Nat → Int) : Nat → Int
 | 0 => 0
 | n + 1 => sumTo f n + f n
theorem sum_range (f : Nat → Int) (n : Nat) : ((List.range n).map f).sum = sumTo f n := by
 induction n with
 | zero => rfl
 | succ n ih => rw [List.range_succ, List.map_append, List.sum_append, ih]; simp [sumTo]
theorem sumTo_add (f g : Nat → Int) (n : Nat) : sumTo (fun i => f i + g i) n = sumTo f n + sumTo g n := by
 induction n with
 | zero => rfl
 | succ n ih => simp only [sumTo, ih]; omega
theorem sumTo_one (q : Nat) (a : Int) : ∀ n, sumTo (fun i => if (i : Int) = (q : Int) then a else 0) n = if q < n then a else 0
 | 0 => by simp [sumTo]
 | n + 1 => by
  rw [sumTo, sumTo_one q a n]
  by_cases h : n = q
  ·subst h; simp
  ·have h2 : ¬ ((n : Int) = (q : Int)) := by omega
   rw [if_neg h2]
   by_cases h3 : q < n
   ·rw [if_pos h3, if_pos (by omega)]; omega
   ·rw [if_neg h3, if_neg (by omega)]; omega
theorem sumTo_neg (f : Nat → Int) (n : Nat) : sumTo (fun i => - f i) n = - sumTo f n := by
 induction n with
 | zero => rfl
 | succ n ih => simp only [sumTo, ih]; omega
theorem sumTo_part (n : Nat) (x : Lin) (h : withinB (n : Int) x = true) : sumTo (fun i => part (i : Int) x) n = 0 := by
 unfold withinB at h
 have hw := of_decide_eq_true h
 obtain ⟨s, hs⟩ : ∃ s : Nat, x.s = (s : Int) := ⟨x.s.toNat, by omega⟩
 obtain ⟨b, hb⟩ : ∃ b : Nat, x.b = (b : Int) := ⟨x.b.toNat, by omega⟩
 have e : (fun i : Nat => part (i : Int) x) = fun i : Nat => (if (i : Int) = (s : Int) then x.a else 0) + - (if (i : Int) = (b : Int) then x.a else 0) := by
  funext i
  rw [part_val _ _ hw.2.2.2.2.1, hs, hb]
  omega
 rw [e, sumTo_add, sumTo_one, sumTo_neg, sumTo_one, if_pos (by omega), if_pos (by omega)]
 omega
theorem nets_zero (n : Nat) : ∀ xs : List Lin, (∀ x ∈ xs, withinB (n : Int) x = true) → (netsL n xs).sum = 0
 | [], _ => by
  unfold netsL
  rw [sum_range]
  have : ∀ n, sumTo (fun i => netS (i : Int) []) n = 0 := fun n => by
   induction n with
   | zero => rfl
   | succ n ih => rw [sumTo, ih, netS_nil]; rfl
  exact this n
 | x :: xs, h => by
  have ih := nets_zero n xs (fun y hy => h y (List.mem_cons_of_mem _ hy))
  unfold netsL at *
  rw [sum_range] at *
  have e : (fun i : Nat => netS (i : Int) (x :: xs)) = fun i : Nat => part (i : Int) x + netS (i : Int) xs := by funext i; rw [netS_cons]
  rw [e, sumTo_add, sumTo_part n x (h x (by simp)), ih]
  rfl
end Go.Proofs.Yteogdfpkcoodlaa
namespace Go.Proofs.Yteogdfpkcoodlaa
open Go.RowKit
set_option linter.unusedSimpArgs false
/-- A cycle of three, as the law knows it: d: what was told of it; y: who said yes to what was prepared. -/
structure One1 (r : Rn) (d : Option Bool) (y : Nat → Bool) : Prop where
 st : r.st = 1 ∨ r.st = 2 ∨ r.st = 3 ∨ r.st = 4
 d1 : d = some true → r.st = 3
 d0 : d = some false → r.st = 4
 v1 : r.st = 1 → ∀ j, j < 3 → (r.hs.getD j hd0).t = false
 v2 : r.st = 2 → ∀ j, j < 3 → (r.hs.getD j hd0).t = true → y j = true
 v3 : r.st = 3 → ∀ j, j < 3 → y j = true
 ns : r.st = 2 ∨ r.st = 3 → r.ns.sum = 0
def OneInv (rs : List Rn) (d : Int → Option Bool) (y : Int → Nat → Bool) : Prop := (∀ i (h : i < rs.length), One1 rs[i] (d ((i : Int) + 1)) (y ((i : Int) + 1))) ∧ ∀ n : Int, (d n).isSome = true → 1 ≤ n ∧ n ≤ (rs.length : Int)
def updD (d : Int → Option Bool) (n : Int) (b : Bool) : Int → Option Bool := fun k => if k = n then some b else d k
def updY (y : Int → Nat → Bool) (n : Int) (j : Nat) : Int → Nat → Bool := fun k i => if k = n ∧ i = j then true else y k i
theorem One1.mono {r : Rn} {d : Option Bool} {y y' : Nat → Bool} (h : One1 r d y) (hy : ∀ j, y j = true → y' j = true) : One1 r d y' := ⟨h.st, h.d1, h.d0, h.v1, fun h1 j hj h2 => hy j (h.v2 h1 j hj h2), fun h1 j hj => hy j (h.v3 h1 j hj), h.ns⟩
theorem updY_mono (y : Int → Nat → Bool) (n : Int) (j : Nat) (k : Int) (i : Nat) (h : y k i = true) : updY y n j k i = true := by
 unfold updY
 split
 ·rfl
 ·exact h
theorem OneInv.mono {rs : List Rn} {d : Int → Option Bool} {y y' : Int → Nat → Bool} (h : OneInv rs d y) (hy : ∀ k j, y k j = true → y' k j = true) : OneInv rs d y' := ⟨fun i hi => (h.1 i hi).mono (hy _), h.2⟩
/-- A cycle of number k is there: what the law knows of it. -/
theorem OneInv.at_ {rs : List Rn} {d : Int → Option Bool} {y : Int → Nat → Bool} (h : OneInv rs d y) {k : Int} (hk : hasB rs k = true) : One1 (rnAt rs k) (d k) (y k) := by
 unfold hasB at hk
 have hk := of_decide_eq_true hk
 have hi : (k - 1).toNat < rs.length := by omega
 have h1 := h.1 _ hi
 have e : (((k - 1).toNat : Nat) : Int) + 1 = k := by omega
 rw [e] at h1
 unfold rnAt
 rw [List.getElem?_eq_getElem hi]
 exact h1
/-- A cycle is set anew, and perhaps it is told what became of it. -/
theorem OneInv.set {rs : List Rn} {d d' : Int → Option Bool} {y : Int → Nat → Bool} (h : OneInv rs d y) {k : Int} (hk : hasB rs k = true) (q : Rn) (hd : ∀ n, n ≠ k → d' n = d n) (hq : One1 q (d' k) (y k)) : OneInv (rs.set (k - 1).toNat q) d' y := by
 unfold hasB at hk
 have hk := of_decide_eq_true hk
 have e : (((k - 1).toNat : Nat) : Int) + 1 = k := by omega
 refine ⟨fun i hi => ?_, fun n hn => ?_⟩
 ·rw [List.length_set] at hi
  by_cases hik : i = (k - 1).toNat
  ·subst hik
   rw [List.getElem_set_self, e]
   exact hq
  ·rw [List.getElem_set_ne (Ne.symm hik), hd _ (by omega)]
   exact h.1 i hi
 ·rw [List.length_set]
  by_cases hnk : n = k
  ·subst hnk
   exact hk
  ·rw [hd n hnk] at hn
   exact h.2 n hn
theorem OneInv.told {rs : List Rn} {d : Int → Option Bool} {y : Int → Nat → Bool} (h : OneInv rs d y) {k : Int} (hk : hasB rs k = true) (b : Bool) (hb : (rnAt rs k).st = if b then 3 else 4) : OneInv rs (updD d k b) y := by
 have h1 := h.at_ hk
 have hk := of_decide_eq_true hk
 refine ⟨fun i hi => ?_, fun n hn => ?_⟩
 ·by_cases hik : (i : Int) + 1 = k
  ·have e : rs[i] = rnAt rs k := by
    unfold rnAt
    rw [show (k - 1).toNat = i by omega, List.getElem?_eq_getElem hi]
    rfl
   rw [e, hik]
   have hu : updD d k b k = some b := by unfold updD; rw [if_pos rfl]
   rw [hu]
   refine ⟨h1.st, fun e => ?_, fun e => ?_, h1.v1, h1.v2, h1.v3, h1.ns⟩
   ·cases e; exact hb
   ·cases e; exact hb
  ·have hu : updD d k b ((i : Int) + 1) = d ((i : Int) + 1) := by unfold updD; rw [if_neg hik]
   rw [hu]
   exact h.1 i hi
 ·unfold updD at hn
  split at hn
  ·next e => subst e; exact hk
  ·exact h.2 n hn
theorem hasB_set {rs : List Rn} {k : Int} (q : Rn) (hk : hasB rs k = true) : hasB (rs.set (k - 1).toNat q) k = true ∧ rnAt (rs.set (k - 1).toNat q) k = q := by
 have hk2 := of_decide_eq_true hk
 refine ⟨by unfold hasB; rw [List.length_set]; exact hk, ?_⟩
 unfold rnAt
 rw [List.getElem?_set_self (by omega)]
 rfl
theorem all_dec {N : Nat} {k : Int} {r : Rn} : ∀ s ∈ toAllL N (decM k r), s.2.k = 14 → some (r.st == 3) = some s.2.t ∧ s.2.y = k := by
 intro s hs _
 unfold toAllL at hs
 obtain ⟨i, _, rfl⟩ := List.mem_map.1 hs
 exact ⟨rfl, rfl⟩
theorem all_no {N : Nat} {m : Msg} (hm : m.k ≠ 14) (o : Option Bool) (k : Int) : ∀ s ∈ toAllL N m, s.2.k = 14 → o = some s.2.t ∧ s.2.y = k := by
 intro s hs he
 unfold toAllL at hs
 obtain ⟨i, _, rfl⟩ := List.mem_map.1 hs
 exact absurd he hm
/-- What one message does to what the law knows. -/
def OneStep (rs2 : List Rn) (out : List (Int × Msg)) (d : Int → Option Bool) (y : Int → Nat → Bool) (k : Int) : Prop :=
 ∃ o : Option Bool, (∀ s ∈ out, s.2.k = 14 → o = some s.2.t ∧ s.2.y = k) ∧ OneInv rs2 d y ∧ ∀ b, o = some b → hasB rs2 k = true ∧ (rnAt rs2 k).st = if b then 3 else 4
theorem OneStep.no {rs : List Rn} {d : Int → Option Bool} {y : Int → Nat → Bool} {k : Int} (h : OneInv rs d y) : OneStep rs [] d y k := ⟨none, (fun _ h => nomatch h), h, (fun _ h => nomatch h)⟩
/-- An open cycle is decided. -/
theorem OneStep.end_ {rs : List Rn} {d : Int → Option Bool} {y : Int → Nat → Bool} {k : Int} (h : OneInv rs d y) (hk : hasB rs k = true) (q : Rn) (hq : One1 q (d k) (y k)) (hs : q.st = 3 ∨ q.st = 4) : OneStep (rs.set (k - 1).toNat q) (toAllL 3 (decM k q)) d y k := by
 refine ⟨some (q.st == 3), all_dec, h.set hk q (fun _ _ => rfl) hq, fun b hb => ⟨(hasB_set q hk).1, ?_⟩⟩
 rw [(hasB_set q hk).2]
 cases hb
 rcases hs with hs | hs <;> rw [hs] <;> rfl
theorem one_open {r : Rn} {d : Option Bool} {y : Nat → Bool} (h : One1 r d y) (ho : r.st = 1 ∨ r.st = 2) : d = none := by
 match d, h with
 | none, _ => rfl
 | some true, h => have := h.d1 rfl; omega
 | some false, h => have := h.d0 rfl; omega
theorem one_abort {r : Rn} {d : Option Bool} {y : Nat → Bool} (h : One1 r d y) (ho : r.st = 1 ∨ r.st = 2) (q : Rn) (hq : q.st = 4) : One1 q d y := by
 have e := one_open h ho
 subst e
 exact ⟨.inr (.inr (.inr hq)), (fun h => nomatch h), (fun h => nomatch h), (fun h => by omega), (fun h => by omega), (fun h => by omega), (fun h => by omega)⟩
theorem one_start {rs : List Rn} {d : Int → Option Bool} {y : Int → Nat → Bool} (h : OneInv rs d y) (m : Msg) : OneStep (startC 3 rs m).1 (startC 3 rs m).2.1 d y m.y := by
 unfold startC
 split
 ·exact OneStep.no h
 ·split
  ·exact OneStep.no h
  ·refine ⟨none, all_no (by show (10 : Int) ≠ 14; decide) _ _, ⟨fun i hi => ?_, fun n hn => ?_⟩, (fun _ h => nomatch h)⟩
   ·have hi : i < (rs ++ [rn0 3 m.c]).length := hi
    show One1 (rs ++ [rn0 3 m.c])[i] _ _
    by_cases hr : i < rs.length
    ·rw [List.getElem_append_left hr]
     exact h.1 i hr
    ·have e : i = rs.length := by simp at hi; omega
     subst e
     rw [List.getElem_append_right (Nat.le_refl _)]
     simp only [Nat.sub_self, List.getElem_cons_zero]
     have hd : d ((rs.length : Int) + 1) = none := by
      cases hdd : d ((rs.length : Int) + 1) with
      | none => rfl
      | some b =>
       have := h.2 _ (by rw [hdd]; rfl)
       omega
     rw [hd]
     exact ⟨.inl rfl, (fun h => nomatch h), (fun h => nomatch h), (fun _ j hj => by
      match j, hj with
      | 0, _ => rfl
      | 1, _ => rfl
      | 2, _ => rfl), (fun h => nomatch h), (fun h => nomatch h), (fun h => by rcases h with h | h <;> cases h)⟩
   ·have := h.2 n hn
    show 1 ≤ n ∧ n ≤ ((rs ++ [rn0 3 m.c]).length : Int)
    simp
    omega
theorem openB_st {r : Rn} (h : openB r = true) : r.st = 1 ∨ r.st = 2 := by
 unfold openB at h
 simpa using h
theorem one_due {rs : List Rn} {d : Int → Option Bool} {y : Int → Nat → Bool} (h : OneInv rs d y) (m : Msg) (hk : hasB rs m.y = true) : OneStep (dueC 3 rs m).1 (dueC 3 rs m).2.1 d y m.y := by
 unfold dueC
 split
 ·next ho => exact OneStep.end_ h hk _ (one_abort (h.at_ hk) (openB_st ho) _ rfl) (.inr rfl)
 ·exact OneStep.no h
theorem one_query {rs : List Rn} {d : Int → Option Bool} {y : Int → Nat → Bool} (h : OneInv rs d y) (m : Msg) (fro : Int) (hk : hasB rs m.y = true) : OneStep (queryC rs m fro).1 (queryC rs m fro).2.1 d y m.y := by
 unfold queryC
 split
 ·exact OneStep.no h
 ·next ho =>
  refine ⟨some ((rnAt rs m.y).st == 3), fun s hs _ => ?_, h, fun b hb => ⟨hk, ?_⟩⟩
  ·obtain rfl := List.mem_singleton.1 hs
   exact ⟨rfl, rfl⟩
  ·cases hb
   have h1 := (h.at_ hk).st
   have h2 : ¬ ((rnAt rs m.y).st = 1 ∨ (rnAt rs m.y).st = 2) := fun h => ho (by unfold openB; simpa using h)
   have h3 : (rnAt rs m.y).st = 3 ∨ (rnAt rs m.y).st = 4 := by omega
   rcases h3 with h3 | h3 <;> rw [h3] <;> rfl
theorem getD_set3 (l : List Hd) (j i : Nat) (x : Hd) (hj : j < l.length) : (l.set j x).getD i hd0 = if i = j then x else l.getD i hd0 := by
 rw [List.getD_eq_getElem?_getD, List.getD_eq_getElem?_getD]
 by_cases h : i = j
 ·subst h
  rw [if_pos rfl, List.getElem?_set_self hj]
  rfl
 ·rw [if_neg h, List.getElem?_set_ne (Ne.symm h)]
theorem one_vote {rs : List Rn} {d : Int → Option Bool} {y : Int → Nat → Bool} (h : OneInv rs d y) (hok : LOk 3 rs) (m : Msg) (j : Nat) (hj : j < 3) (hk : hasB rs m.y = true) (hy : (voteC 3 rs m j).2.2 = 0 → m.t = true → (rnAt rs m.y).st = 2 → y m.y j = true) : OneStep (voteC 3 rs m j).1 (voteC 3 rs m j).2.1 d y m.y := by
 unfold voteC at hy ⊢
 by_cases h1 : ((rnAt rs m.y).st != 2) = true
 ·rw [if_pos h1]; exact OneStep.no h
 rw [if_neg h1] at hy ⊢
 have hs : (rnAt rs m.y).st = 2 := by simpa using h1
 by_cases h2 : ((rnAt rs m.y).hs.getD j hd0).t = true
 ·rw [if_pos h2]; exact OneStep.no h
 rw [if_neg h2] at hy ⊢
 have ho := h.at_ hk
 have hd := one_open ho (.inr hs)
 by_cases h3 : m.t = false
 ·rw [if_pos h3]; exact OneStep.end_ h hk _ (one_abort ho (.inr hs) _ rfl) (.inr rfl)
 rw [if_neg h3] at hy ⊢
 have ht : m.t = true := by
  cases hm : m.t with
  | true => rfl
  | false => exact absurd hm h3
 have hlen : (rnAt rs m.y).hs.length = 3 := (hok.1 _ (rnAt_mem hk)).1
 have hv : y m.y j = true → ∀ i, i < 3 → ((((rnAt rs m.y).vote j).hs).getD i hd0).t = true → y m.y i = true := by
  intro hyj i hi hti
  unfold Rn.vote at hti
  rw [getD_set3 _ _ _ _ (by omega)] at hti
  split at hti
  ·next e => rw [e]; exact hyj
  ·exact ho.v2 hs i hi hti
 by_cases h4 : ((rnAt rs m.y).vote j).hs.any (fun h => !h.t) = true
 ·rw [if_pos h4] at hy ⊢
  have hyj := hy rfl ht hs
  refine ⟨none, (fun _ h => nomatch h), h.set hk _ (fun _ _ => rfl) ?_, (fun _ h => nomatch h)⟩
  rw [hd]
  exact ⟨.inr (.inl hs), (fun h => nomatch h), (fun h => nomatch h), (fun h => by have h : (rnAt rs m.y).st = 1 := h; omega), (fun _ => hv hyj), (fun h => by have h : (rnAt rs m.y).st = 3 := h; omega), (fun _ => ho.ns (.inl hs))⟩
 ·rw [if_neg h4] at hy ⊢
  have hyj := hy rfl ht hs
  refine OneStep.end_ h hk _ ?_ (.inl rfl)
  rw [hd]
  refine ⟨.inr (.inr (.inl rfl)), (fun h => nomatch h), (fun h => nomatch h), (fun h => absurd h (by show ¬ (3 : Int) = 1; decide)), (fun h => absurd h (by show ¬ (3 : Int) = 2; decide)), fun _ i hi => hv hyj i hi ?_, (fun _ => ho.ns (.inl hs))⟩
  have hl : i < ((rnAt rs m.y).vote j).hs.length := by unfold Rn.vote; rw [List.length_set]; omega
  rw [List.getD_eq_getElem?_getD, List.getElem?_eq_getElem hl]
  have h5 : ((rnAt rs m.y).vote j).hs.any (fun h => !h.t) = false := by simpa using h4
  rw [List.any_eq_false] at h5
  have h6 := h5 _ (List.getElem_mem hl)
  simpa using h6
theorem one_offer {rs : List Rn} {d : Int → Option Bool} {y : Int → Nat → Bool} (h : OneInv rs d y) (hok : LOk 3 rs) (m : Msg) (j : Nat) (hj : j < 3) (hk : hasB rs m.y = true) : OneStep (offerC 3 rs m j).1 (offerC 3 rs m j).2.1 d y m.y := by
 unfold offerC
 by_cases h1 : ((rnAt rs m.y).st != 1) = true
 ·rw [if_pos h1]; exact OneStep.no h
 rw [if_neg h1]
 have hs : (rnAt rs m.y).st = 1 := by simpa using h1
 by_cases h2 : ((rnAt rs m.y).hs.getD j hd0).o = true
 ·rw [if_pos h2]; exact OneStep.no h
 rw [if_neg h2]
 by_cases h3 : (mineL (j : Int) m.ls).length < m.ls.length
 ·rw [if_pos h3]; exact OneStep.no h
 rw [if_neg h3]
 by_cases h4 : fitE ((3 : Nat) : Int) m.ls ≠ 0
 ·rw [if_pos h4]; exact OneStep.no h
 rw [if_neg h4]
 have hf : fitE ((3 : Nat) : Int) m.ls = 0 := Decidable.not_not.1 h4
 have ho := h.at_ hk
 have hd := one_open ho (.inl hs)
 have hlen : (rnAt rs m.y).hs.length = 3 := (hok.1 _ (rnAt_mem hk)).1
 have hv : ∀ i, i < 3 → ((((rnAt rs m.y).offer j m.ls).hs).getD i hd0).t = false := by
  intro i hi
  unfold Rn.offer
  rw [getD_set3 _ _ _ _ (by omega)]
  split
  ·next e => exact ho.v1 hs j hj
  ·exact ho.v1 hs i hi
 by_cases h5 : ((rnAt rs m.y).offer j m.ls).hs.any (fun h => !h.o) = true
 ·rw [if_pos h5]
  refine ⟨none, (fun _ h => nomatch h), h.set hk _ (fun _ _ => rfl) ?_, (fun _ h => nomatch h)⟩
  rw [hd]
  exact ⟨.inl hs, (fun h => nomatch h), (fun h => nomatch h), (fun _ => hv), (fun h => by have h : (rnAt rs m.y).st = 2 := h; omega), (fun h => by have h : (rnAt rs m.y).st = 3 := h; omega), (fun h => by have h : (rnAt rs m.y).st = 2 ∨ (rnAt rs m.y).st = 3 := h; omega)⟩
 ·rw [if_neg h5]
  refine ⟨none, all_no (by show (12 : Int) ≠ 14; decide) _ _, h.set hk _ (fun _ _ => rfl) ?_, (fun _ h => nomatch h)⟩
  rw [hd]
  refine ⟨.inr (.inl rfl), (fun h => nomatch h), (fun h => nomatch h), (fun h => absurd h (by show ¬ (2 : Int) = 1; decide)), (fun _ i hi ht => by
   have ht : ((((rnAt rs m.y).offer j m.ls).hs).getD i hd0).t = true := ht
   rw [hv i hi] at ht
   cases ht), (fun h => absurd h (by show ¬ (2 : Int) = 3; decide)), fun _ => ?_⟩
  show (netsL 3 (bothL (((rnAt rs m.y).offer j m.ls).hs.map Hd.ls) 3)).sum = 0
  refine nets_zero 3 _ (fun x hx => fit_within (bothL_fits ((3 : Nat) : Int) (fun o ho => ?_) 3) x hx)
  obtain ⟨q, hq, rfl⟩ := List.mem_map.1 ho
  unfold Rn.offer at hq
  rcases List.mem_or_eq_of_mem_set hq with h6 | h6
  ·exact ((hok.1 _ (rnAt_mem hk)).2 q h6).1
  ·rw [h6]; exact hf
/-- One message, whatever it is. -/
theorem one_step {rs : List Rn} {d : Int → Option Bool} {y y' : Int → Nat → Bool} (h : OneInv rs d y) (hok : LOk 3 rs) (m : Msg) (fro : Int) (hm : ∀ k j, y k j = true → y' k j = true) (hy : (doC 3 rs m fro).2.2 = 0 → m.k = 13 → m.t = true → hasB rs m.y = true → (rnAt rs m.y).st = 2 → y' m.y fro.toNat = true) : OneStep (doC 3 rs m fro).1 (doC 3 rs m fro).2.1 d y' m.y := by
 have h := h.mono hm
 unfold doC at hy ⊢
 by_cases h1 : fro = -1
 ·rw [if_pos h1]
  by_cases h2 : m.k = 5
  ·rw [if_pos h2]; exact one_start h m
  rw [if_neg h2]
  by_cases h3 : m.k = 16
  ·rw [if_pos h3]
   by_cases h4 : hasB rs m.y = true
   ·rw [if_pos h4]; exact one_due h m h4
   ·rw [if_neg h4]; exact OneStep.no h
  ·rw [if_neg h3]; exact OneStep.no h
 rw [if_neg h1] at hy ⊢
 by_cases h2 : m.k = 11 ∨ m.k = 13 ∨ m.k = 15
 ·rw [if_pos h2] at hy ⊢
  by_cases h3 : fro < 0 ∨ ((3 : Nat) : Int) ≤ fro
  ·rw [if_pos h3]; exact OneStep.no h
  rw [if_neg h3] at hy ⊢
  by_cases h4 : hasB rs m.y = false
  ·rw [if_pos h4]; exact OneStep.no h
  rw [if_neg h4] at hy ⊢
  have hk : hasB rs m.y = true := by simpa using h4
  by_cases h5 : m.k = 11
  ·rw [if_pos h5]; exact one_offer h hok m _ (by omega) hk
  rw [if_neg h5] at hy ⊢
  by_cases h6 : m.k = 13
  ·rw [if_pos h6] at hy ⊢; exact one_vote h hok m _ (by omega) hk (fun e ht hs => hy e h6 ht hk hs)
  ·rw [if_neg h6]; exact one_query h m fro hk
 ·rw [if_neg h2]; exact OneStep.no h
end Go.Proofs.Yteogdfpkcoodlaa
namespace Go.Proofs.Yteogdfpkcoodlaa
open Go.RowKit Go.Maps
set_option linter.unusedSimpArgs false
theorem lawInt : Keyed Try.prog 3 := int_keyed Try.underlying3
/-- Block b is a map of at most n entries, of sz keys, that has j just if f j. -/
def MpB (Q : Nat → Prop) (b n : Nat) (f : Int → Bool) (sz : Nat) (w : World) : Prop := Q b ∧ ∃ D : DataW Unit, w.ownsMap Try.prog 3 (plainElem Try.prog 4) b n D ∧ (∀ j : Int, Maps.has D (.int .i64 j) = f j) ∧ Maps.size D = sz
theorem ownsMap_block {w w' : World} {P : Program} {k : TypeId} {R : Value → Option (DataW Unit × List MemPlace)} {b n : Nat} {D : DataW Unit} (h : w.ownsMap P k R b n D) (hb : w'.heap[b]? = w.heap[b]?) : w'.ownsMap P k R b n D := by
 obtain ⟨es, clock, h1, h2⟩ := h
 exact ⟨es, clock, hb.trans h1, h2⟩
theorem MpB.kept {Q : Nat → Prop} {b n : Nat} {f : Int → Bool} {sz : Nat} {w w' : World} (h : MpB Q b n f sz w) (hb : Below w.heap.size w w') : MpB Q b n f sz w' := by
 obtain ⟨hq, D, h1, h2⟩ := h
 exact ⟨hq, D, ownsMap_block h1 (hb.block b h1.lt), h2⟩
theorem MpB.chg {Q : Nat → Prop} {b n : Nat} {f : Int → Bool} {sz : Nat} {w w' : World} {g : Nat} (h : MpB Q b n f sz w) (hc : Chg g w w') (hg : ¬ Q g) : MpB Q b n f sz w' := by
 obtain ⟨hq, D, h1, h2⟩ := h
 exact ⟨hq, D, ownsMap_block h1 (hc.2 b h1.lt (fun e => hg (e ▸ hq))), h2⟩
theorem MpB.lt {Q : Nat → Prop} {b n : Nat} {f : Int → Bool} {sz : Nat} {w : World} (h : MpB Q b n f sz w) : b < w.heap.size := by
 obtain ⟨_, D, h1, _⟩ := h
 exact h1.lt
theorem MpB.mono {Q : Nat → Prop} {b n m : Nat} {f : Int → Bool} {sz : Nat} {w : World} (h : MpB Q b n f sz w) (hm : n ≤ m) : MpB Q b m f sz w := by
 obtain ⟨hq, D, h1, h2⟩ := h
 exact ⟨hq, D, h1.mono hm, h2⟩
theorem MpB.made (Q : Nat → Prop) (w : World) (hq : Q w.heap.size) : MpB Q w.heap.size 0 (fun _ => false) 0 (w.alloc (.map #[] 0)) := ⟨hq, .map [], World.ownsMap_made _ _ _ _, fun _ => rfl, rfl⟩
theorem MpB.len {Q : Nat → Prop} {b n : Nat} {f : Int → Bool} {sz : Nat} {w : World} (h : MpB Q b n f sz w) (ty : TypeId) : (Builtin.len_ #[52] ty #[.map (some b)]).run Try.prog w = .ok (.int .i64 (sz : Int)) w := by
 obtain ⟨_, D, h1, _, rfl⟩ := h
 exact h1.len Try.underlying52 ty
/-- A key is put in. -/
theorem MpB.put {Q : Nat → Prop} {b n : Nat} {f : Int → Bool} {sz : Nat} {w' : World} {D : DataW Unit} {i : Int} (hq : Q b) (h0 : ∀ j : Int, Maps.has D (.int .i64 j) = f j) (hs : Maps.size D = sz) (ht : Maps.Tidy D) (h : w'.ownsMap Try.prog 3 (plainElem Try.prog 4) b n (D.put (.int .i64 i) (.lit (.bool true)))) : MpB Q b n (fun j => f j || j == i) (if f i then sz else sz + 1) w' := by
 refine ⟨hq, _, h, fun j => ?_, ?_⟩
 ·by_cases hj : j = i
  ·subst hj
   rw [Maps.has_put_same ht.isMap (by constructor)]
   simp
  ·rw [Maps.has_put_other (by intro e; cases e; exact hj rfl), h0]
   have : (j == i) = false := by simpa using hj
   show f j = (f j || j == i)
   rw [this, Bool.or_false]
 ·rw [Maps.size_put ht, h0, hs]
end Go.Proofs.Yteogdfpkcoodlaa
namespace Go.Proofs.Yteogdfpkcoodlaa
open Go.RowKit Go.Maps
set_option linter.unusedSimpArgs false
theorem zeroBool (w : World) : (zeroValue 4).run Try.prog w = .ok (.bool false) w := by kernel_rfl
theorem boolElem_inv {P : Program} {e : TypeId} (he : P.underlying e = some .bool) {v : Value} {z : DataW Unit × List MemPlace} (h : plainElem P e v = some z) : ∃ x, v = .bool x ∧ z = (.lit (.bool x), []) := by
 unfold plainElem at h
 rw [he] at h
 cases v <;> simp at h
 subst h
 exact ⟨_, rfl, rfl⟩
theorem keyI {j : Int} (h : -9223372036854775808 ≤ j ∧ j ≤ 9223372036854775807) : keyOf Try.prog 3 (.int .i64 j) = some (.int .i64 j) := keyOf_int_mk Try.underlying3 (WalkArith.wf_i64 h)
/-- Block b is a map of at most n entries, that has d j at j, if anything. -/
def MpO (Q : Nat → Prop) (b n : Nat) (d : Int → Option Bool) (w : World) : Prop := Q b ∧ ∃ D : DataW Unit, w.ownsMap Try.prog 3 (plainElem Try.prog 4) b n D ∧ ∀ j : Int, Maps.has D (.int .i64 j) = (d j).isSome ∧ D.atKey (.int .i64 j) (.lit (.bool false)) = .lit (.bool ((d j).getD false))
theorem MpO.kept {Q : Nat → Prop} {b n : Nat} {d : Int → Option Bool} {w w' : World} (h : MpO Q b n d w) (hb : Below w.heap.size w w') : MpO Q b n d w' := by
 obtain ⟨hq, D, h1, h2⟩ := h
 exact ⟨hq, D, ownsMap_block h1 (hb.block b h1.lt), h2⟩
theorem MpO.chg {Q : Nat → Prop} {b n : Nat} {d : Int → Option Bool} {w w' : World} {g : Nat} (h : MpO Q b n d w) (hc : Chg g w w') (hg : ¬ Q g) : MpO Q b n d w' := by
 obtain ⟨hq, D, h1, h2⟩ := h
 exact ⟨hq, D, ownsMap_block h1 (hc.2 b h1.lt (fun e => hg (e ▸ hq))), h2⟩
theorem MpO.lt {Q : Nat → Prop} {b n : Nat} {d : Int → Option Bool} {w : World} (h : MpO Q b n d w) : b < w.heap.size := by
 obtain ⟨_, D, h1, _⟩ := h
 exact h1.lt
theorem MpO.mono {Q : Nat → Prop} {b n m : Nat} {d : Int → Option Bool} {w : World} (h : MpO Q b n d w) (hm : n ≤ m) : MpO Q b m d w := by
 obtain ⟨hq, D, h1, h2⟩ := h
 exact ⟨hq, D, h1.mono hm, h2⟩
theorem MpO.made (Q : Nat → Prop) (w : World) (hq : Q w.heap.size) : MpO Q w.heap.size 0 (fun _ => none) (w.alloc (.map #[] 0)) := ⟨hq, .map [], World.ownsMap_made _ _ _ _, fun _ => ⟨rfl, rfl⟩⟩
theorem MpO.look {Q : Nat → Prop} {b n : Nat} {d : Int → Option Bool} {w : World} (h : MpO Q b n d w) (j : Int) (hj : -9223372036854775808 ≤ j ∧ j ≤ 9223372036854775807) : (Instr.lookup 52 (.map (some b)) (.int .i64 j) true).run Try.prog w = .ok (.tuple #[.bool ((d j).getD false), .bool (d j).isSome]) w := by
 obtain ⟨_, D, h1, h2⟩ := h
 obtain ⟨v, ps, hrun, hv⟩ := h1.look_ok lawInt Try.underlying52 (zeroBool w) (plainElem_bool Try.underlying4 false) (keyI hj)
 obtain ⟨x, rfl, hx⟩ := boolElem_inv Try.underlying4 hv
 have hx := congrArg Prod.fst hx
 dsimp only at hx
 rw [(h2 j).2] at hx
 cases hx
 rw [(h2 j).1] at hrun
 exact hrun
theorem MpO.put {Q : Nat → Prop} {b n : Nat} {d : Int → Option Bool} {w' : World} {D : DataW Unit} {i : Int} {v : Bool} (hq : Q b) (h0 : ∀ j : Int, Maps.has D (.int .i64 j) = (d j).isSome ∧ D.atKey (.int .i64 j) (.lit (.bool false)) = .lit (.bool ((d j).getD false))) (ht : Maps.IsMap D) (h : w'.ownsMap Try.prog 3 (plainElem Try.prog 4) b n (D.put (.int .i64 i) (.lit (.bool v)))) : MpO Q b n (fun j => if j = i then some v else d j) w' := by
 refine ⟨hq, _, h, fun j => ?_⟩
 by_cases hj : j = i
 ·subst hj
  rw [Maps.has_put_same ht (by constructor), Maps.atKey_put_same ht (by constructor)]
  simp
 ·rw [Maps.has_put_other (by intro e; cases e; exact hj rfl), Maps.atKey_put_other (by intro e; cases e; exact hj rfl)]
  simp only [if_neg hj]
  exact h0 j
/-- How an array of three truths reads. -/
def rd3 (v : Value) : Option (DataW Unit × List MemPlace) :=
 match v with
 | .agg ⟨[.bool x, .bool y, .bool z]⟩ => some (.lit (.int .i64 ((if x then 1 else 0) + (if y then 2 else 0) + (if z then 4 else 0))), [])
 | _ => none
def n3 (f : Nat → Bool) : Int := (if f 0 then 1 else 0) + (if f 1 then 2 else 0) + (if f 2 then 4 else 0)
def v3 (f : Nat → Bool) : Value := .agg #[.bool (f 0), .bool (f 1), .bool (f 2)]
theorem rd3_v (f : Nat → Bool) : rd3 (v3 f) = some (.lit (.int .i64 (n3 f)), []) := rfl
theorem rd3_inv {v : Value} {ps : List MemPlace} (f : Nat → Bool) (h : rd3 v = some (.lit (.int .i64 (n3 f)), ps)) : v = v3 f := by
 unfold rd3 at h
 split at h
 ·next x y z =>
  simp only [Option.some.injEq, Prod.mk.injEq] at h
  have h1 := h.1
  simp only [DataW.lit.injEq, Lit.int.injEq, true_and] at h1
  unfold n3 at h1
  unfold v3
  cases x <;> cases y <;> cases z <;> cases h0 : f 0 <;> cases h2 : f 1 <;> cases h3 : f 2 <;> rw [h0, h2, h3] at h1 <;> first | rfl | (exfalso; revert h1; decide)
 ·cases h
theorem zero3 (w : World) : (zeroValue 59).run Try.prog w = .ok (v3 (fun _ => false)) w := by kernel_rfl
/-- Block b is a map of at most n entries, that has the truths y j at j. -/
def MpA (Q : Nat → Prop) (b n : Nat) (y : Int → Nat → Bool) (w : World) : Prop := Q b ∧ ∃ D : DataW Unit, w.ownsMap Try.prog 3 rd3 b n D ∧ ∀ j : Int, D.atKey (.int .i64 j) (.lit (.int .i64 0)) = .lit (.int .i64 (n3 (y j)))
theorem MpA.kept {Q : Nat → Prop} {b n : Nat} {y : Int → Nat → Bool} {w w' : World} (h : MpA Q b n y w) (hb : Below w.heap.size w w') : MpA Q b n y w' := by
 obtain ⟨hq, D, h1, h2⟩ := h
 exact ⟨hq, D, ownsMap_block h1 (hb.block b h1.lt), h2⟩
theorem MpA.chg {Q : Nat → Prop} {b n : Nat} {y : Int → Nat → Bool} {w w' : World} {g : Nat} (h : MpA Q b n y w) (hc : Chg g w w') (hg : ¬ Q g) : MpA Q b n y w' := by
 obtain ⟨hq, D, h1, h2⟩ := h
 exact ⟨hq, D, ownsMap_block h1 (hc.2 b h1.lt (fun e => hg (e ▸ hq))), h2⟩
theorem MpA.lt {Q : Nat → Prop} {b n : Nat} {y : Int → Nat → Bool} {w : World} (h : MpA Q b n y w) : b < w.heap.size := by
 obtain ⟨_, D, h1, _⟩ := h
 exact h1.lt
theorem MpA.mono {Q : Nat → Prop} {b n m : Nat} {y : Int → Nat → Bool} {w : World} (h : MpA Q b n y w) (hm : n ≤ m) : MpA Q b m y w := by
 obtain ⟨hq, D, h1, h2⟩ := h
 exact ⟨hq, D, h1.mono hm, h2⟩
theorem MpA.made (Q : Nat → Prop) (w : World) (hq : Q w.heap.size) : MpA Q w.heap.size 0 (fun _ _ => false) (w.alloc (.map #[] 0)) := ⟨hq, .map [], World.ownsMap_made _ _ _ _, fun _ => rfl⟩
theorem MpA.look {Q : Nat → Prop} {b n : Nat} {y : Int → Nat → Bool} {w : World} (h : MpA Q b n y w) (j : Int) (hj : -9223372036854775808 ≤ j ∧ j ≤ 9223372036854775807) : (Instr.lookup 53 (.map (some b)) (.int .i64 j) false).run Try.prog w = .ok (v3 (y j)) w := by
 obtain ⟨_, D, h1, h2⟩ := h
 obtain ⟨v, ps, hrun, hv⟩ := h1.lookup lawInt Try.underlying53 (zero3 w) (rd3_v (fun _ => false)) (keyI hj)
 have e : (DataW.lit (.int .i64 (n3 (fun _ => false))) : DataW Unit) = .lit (.int .i64 0) := rfl
 rw [e, h2 j] at hv
 rw [rd3_inv (y j) hv] at hrun
 exact hrun
theorem MpA.put {Q : Nat → Prop} {b n : Nat} {y : Int → Nat → Bool} {w' : World} {D : DataW Unit} {i : Int} {f : Nat → Bool} (hq : Q b) (h0 : ∀ j : Int, D.atKey (.int .i64 j) (.lit (.int .i64 0)) = .lit (.int .i64 (n3 (y j)))) (ht : Maps.IsMap D) (h : w'.ownsMap Try.prog 3 rd3 b n (D.put (.int .i64 i) (.lit (.int .i64 (n3 f))))) : MpA Q b n (fun j => if j = i then f else y j) w' := by
 refine ⟨hq, _, h, fun j => ?_⟩
 by_cases hj : j = i
 ·subst hj
  rw [Maps.atKey_put_same ht (by constructor)]
  simp
 ·rw [Maps.atKey_put_other (by intro e; cases e; exact hj rfl)]
  simp only [if_neg hj]
  exact h0 j
end Go.Proofs.Yteogdfpkcoodlaa
namespace Go.Proofs.Yteogdfpkcoodlaa
open Go.RowKit
set_option linter.unusedSimpArgs false
def fitZ (z : SdX) : Bool := decide (z.x.m.ls.length ≤ 60) && decide (z.x.m.ns.length ≤ 12)
def fitsC (ws : List SdX) : Bool := decide (ws.length ≤ 60) && ws.all fitZ
theorem fitsC_ok {ws : List SdX} (h : fitsC ws = true) : ws.length ≤ 60 ∧ ∀ z ∈ ws, z.x.m.ls.length ≤ 60 ∧ z.x.m.ns.length ≤ 12 := by
 unfold fitsC fitZ at h
 simp only [Bool.and_eq_true, decide_eq_true_eq, List.all_eq_true] at h
 exact ⟨h.1, h.2⟩
set_option linter.unusedSimpArgs false in
set_option maxHeartbeats 4000000 in
set_option maxRecDepth 100000 in
theorem cfits_any (w : World) (vw : Value) (ws : List SdX) (hw : TRow encS w vw ws) :
  Calls Try.prog 6 #[vw] w fun e w' => e = .returned (.bool (fitsC ws)) ∧ Below w.heap.size w w' := by
 obtain ⟨p2, c2, rfl⟩ := hw.shape
 by_cases h2 : 60 < ws.length
 ·have e : fitsC ws = false := by unfold fitsC; rw [show decide (ws.length ≤ 60) = false by simp; omega]; rfl
  rw [e]
  have hI : (60 : Int) < (ws.length : Int) := by omega
  clear hw h2 e
  go_enter Try.func6, Try.ntmps6
  go_wp2_with fail
  go_ret
  exact ⟨rfl, Below.refl _ _⟩
 have e2 : decide (ws.length ≤ 60) = true := by simp; omega
 have hI2 : ¬ (60 : Int) < (ws.length : Int) := by omega
 have HE : Hid (fitsC ws = ws.all fitZ) := by show _ = _; unfold fitsC; rw [e2]; rfl
 have HW := Lib.hid hw
 have HWN : Hid (ws.length ≤ 60) := by show _ ≤ _; omega
 clear hw h2 e2
 generalize hn : ws.length = n at *
 have HL : Hid (ws.length = n) := Lib.hid hn
 clear hn
 have HREL : Hid (Below w.heap.size w w ∧ (ws.take 0).all fitZ = true) := ⟨Below.refl _ _, rfl⟩
 go_enter Try.func6, Try.ntmps6
 go_upto_region 3 with fail
 clear hI2
 go_wp2_with fail
 go_loopw [10] (fun i wr => ∃ k : Nat, k ≤ n ∧ i = .int .i64 k ∧ Hid (Below w.heap.size w wr ∧ (ws.take k).all fitZ = true)) (fun i _ => n - (intOf i).toNat)
 case atStart => exact ⟨0, by omega, rfl, HREL⟩
 case round =>
  clear HREL
  obtain ⟨k, hk, rfl, HK⟩ := hrel
  have hk9 : k + 1 ≤ 61 := by have := HWN.out; omega
  by_cases hlt : k < n
  ·have hkl : k < ws.length := by rw [HL.out]; exact hlt
   have hltI : (k : Int) < (n : Int) := by omega
   have HTA : Hid ((ws.take (k + 1)).all fitZ = fitZ ws[k]) := by show _ = _; rw [List.take_succ_eq_append_getElem hkl, List.all_append, HK.out.2]; simp
   have HNO : Hid (fitZ ws[k] = false → ws.all fitZ = false) := fun h => by
    cases ha : ws.all fitZ
    ·rfl
    ·rw [List.all_eq_true] at ha
     rw [ha _ (List.getElem_mem hkl)] at h
     cases h
   obtain ⟨b, o, rfl, hbl, hcs⟩ := (HW.out.kept HK.out.1).at_ k hkl
   generalize ws[k] = z at *
   have c0 : wr.cell? ⟨b, o + k * 12, none⟩ = some (.int .i64 z.tw) := hcs 0 (by decide)
   have c1 : wr.cell? ⟨b, o + k * 12 + 1, none⟩ = some (.int .i64 z.x.m.k) := hcs 1 (by decide)
   have c2 : wr.cell? ⟨b, o + k * 12 + 2, none⟩ = some (.int .i64 z.x.m.s) := hcs 2 (by decide)
   have c3 : wr.cell? ⟨b, o + k * 12 + 3, none⟩ = some (.int .i64 z.x.m.n) := hcs 3 (by decide)
   have c4 : wr.cell? ⟨b, o + k * 12 + 4, none⟩ = some (.int .i64 z.x.m.b) := hcs 4 (by decide)
   have c5 : wr.cell? ⟨b, o + k * 12 + 5, none⟩ = some (.int .i64 z.x.m.c) := hcs 5 (by decide)
   have c6 : wr.cell? ⟨b, o + k * 12 + 6, none⟩ = some (.int .i64 z.x.m.r) := hcs 6 (by decide)
   have c7 : wr.cell? ⟨b, o + k * 12 + 7, none⟩ = some (.int .i64 z.x.m.y) := hcs 7 (by decide)
   have c8 : wr.cell? ⟨b, o + k * 12 + 8, none⟩ = some (.int .i64 z.x.m.a) := hcs 8 (by decide)
   have c9 : wr.cell? ⟨b, o + k * 12 + 9, none⟩ = some (.bool z.x.m.t) := hcs 9 (by decide)
   have c10 : wr.cell? ⟨b, o + k * 12 + 10, none⟩ = some (.slice z.x.pl z.x.m.ls.length z.x.cl) := hcs 10 (by decide)
   have c11 : wr.cell? ⟨b, o + k * 12 + 11, none⟩ = some (.slice z.x.pn z.x.m.ns.length z.x.cn) := hcs 11 (by decide)
   have HX := Lib.hid (Blk.new wr #[.int .i64 z.tw, .int .i64 z.x.m.k, .int .i64 z.x.m.s, .int .i64 z.x.m.n, .int .i64 z.x.m.b, .int .i64 z.x.m.c, .int .i64 z.x.m.r, .int .i64 z.x.m.y, .int .i64 z.x.m.a, .bool z.x.m.t, .slice z.x.pl z.x.m.ls.length z.x.cl, .slice z.x.pn z.x.m.ns.length z.x.cn] 38)
   have HB1 := Lib.hid (HK.out.1.alloc HK.out.1.size (.cells #[.int .i64 z.tw, .int .i64 z.x.m.k, .int .i64 z.x.m.s, .int .i64 z.x.m.n, .int .i64 z.x.m.b, .int .i64 z.x.m.c, .int .i64 z.x.m.r, .int .i64 z.x.m.y, .int .i64 z.x.m.a, .bool z.x.m.t, .slice z.x.pl z.x.m.ls.length z.x.cl, .slice z.x.pn z.x.m.ns.length z.x.cn] 38))
   clear hcs
   go_upto_region 6 with fail
   clear c0 c1 c2 c3 c4 c5 c6 c7 c8 c9 c10 c11
   generalize (wr.alloc (.cells #[.int .i64 z.tw, .int .i64 z.x.m.k, .int .i64 z.x.m.s, .int .i64 z.x.m.n, .int .i64 z.x.m.b, .int .i64 z.x.m.c, .int .i64 z.x.m.r, .int .i64 z.x.m.y, .int .i64 z.x.m.a, .bool z.x.m.t, .slice z.x.pl z.x.m.ls.length z.x.cl, .slice z.x.pn z.x.m.ns.length z.x.cn] 38)) = W2 at *
   generalize wr.heap.size = gx at *
   have c10 : W2.cell? ⟨gx, 10, none⟩ = some (.slice z.x.pl z.x.m.ls.length z.x.cl) := HX.out.cell 10
   have c11 : W2.cell? ⟨gx, 11, none⟩ = some (.slice z.x.pn z.x.m.ns.length z.x.cn) := HX.out.cell 11
   by_cases hl : 60 < z.x.m.ls.length
   ·have hlI : (60 : Int) < (z.x.m.ls.length : Int) := by omega
    have HF : Hid (fitsC ws = false) := by
     show _ = _
     rw [HE.out, HNO.out (by unfold fitZ; rw [show decide (z.x.m.ls.length ≤ 60) = false by simp; omega]; rfl)]
    clear hl
    go_wp2_with fail
    go_ret
    exact ⟨by rw [HF.out]; rfl, HB1.out⟩
   ·have hlI : ¬ (60 : Int) < (z.x.m.ls.length : Int) := by omega
    by_cases hm : 12 < z.x.m.ns.length
    ·have hmI : (12 : Int) < (z.x.m.ns.length : Int) := by omega
     have HF : Hid (fitsC ws = false) := by
      show _ = _
      rw [HE.out, HNO.out (by unfold fitZ; rw [show decide (z.x.m.ns.length ≤ 12) = false by simp; omega, Bool.and_false])]
     clear hl hm
     go_wp2_with fail
     go_ret
     exact ⟨by rw [HF.out]; rfl, HB1.out⟩
    ·have hmI : ¬ (12 : Int) < (z.x.m.ns.length : Int) := by omega
     have HNX : Hid (Below w.heap.size w W2 ∧ (ws.take (k + 1)).all fitZ = true) := ⟨HB1.out, by rw [HTA.out]; unfold fitZ; rw [show decide (z.x.m.ls.length ≤ 60) = true by simp; omega, show decide (z.x.m.ns.length ≤ 12) = true by simp; omega]; rfl⟩
     clear hl hm
     go_wp2_with fail
     go_roundw
     case rel => exact ⟨k + 1, by omega, by go_num, HNX⟩
     case measure => simp [intOf]; omega
  ·have hltI : ¬ (k : Int) < (n : Int) := by omega
   have HF : Hid (fitsC ws = true) := by
    show _ = _
    rw [HE.out, ← HK.out.2, List.take_of_length_le (by rw [HL.out]; omega)]
   go_wp2_with fail
   go_ret
   exact ⟨by rw [HF.out]; rfl, HK.out.1⟩
end Go.Proofs.Yteogdfpkcoodlaa
namespace Go.Proofs.Yteogdfpkcoodlaa

/-- The decimal digits of a number, the least one first, no nought at the end. -/
def digs (n : Nat) : List Int := if n = 0 then [] else ((n % 10 : Nat) : Int) :: digs (n / 10)
termination_by n
decreasing_by omega
theorem digs_zero : digs 0 = [] := by rw [digs]; rfl
theorem digs_pos {n : Nat} (h : n ≠ 0) : digs n = ((n % 10 : Nat) : Int) :: digs (n / 10) := by rw [digs, if_neg h]

/-- The number of digits. -/
def val : List Int → Int
 | [] => 0
 | d :: t => d + 10 * val t
/-- Each is a digit. -/
def IsDigs (l : List Int) : Prop := ∀ d ∈ l, 0 ≤ d ∧ d ≤ 9
/-- Digits, and no nought at the end. -/
def Norm (l : List Int) : Prop := IsDigs l ∧ l.getLast? ≠ some 0

theorem IsDigs.cons {d : Int} {t : List Int} (h : IsDigs (d :: t)) : (0 ≤ d ∧ d ≤ 9) ∧ IsDigs t := ⟨h d (by simp), fun x hx => h x (by simp [hx])⟩
theorem val_nonneg {l : List Int} (h : IsDigs l) : 0 ≤ val l := by
 induction l with
 | nil => simp [val]
 | cons d t ih => obtain ⟨h1, h2⟩ := h.cons; have := ih h2; simp only [val]; omega
theorem val_digs (n : Nat) : val (digs n) = n := by
 induction n using Nat.strongRecOn with
 | _ n ih =>
  by_cases h : n = 0
  ·subst h; simp [digs_zero, val]
  ·rw [digs_pos h, val, ih (n / 10) (by omega)]; omega
theorem digs_isDigs (n : Nat) : IsDigs (digs n) := by
 induction n using Nat.strongRecOn with
 | _ n ih =>
  by_cases h : n = 0
  ·subst h; intro d hd; simp [digs_zero] at hd
  ·rw [digs_pos h]
   intro d hd
   rcases List.mem_cons.1 hd with rfl | hd
   ·omega
   ·exact ih (n / 10) (by omega) d hd
theorem digs_nil {n : Nat} : digs n = [] ↔ n = 0 := by
 constructor
 ·intro h
  by_cases e : n = 0
  ·exact e
  ·rw [digs_pos e] at h; cases h
 ·rintro rfl; exact digs_zero
theorem Norm.tail {d : Int} {t : List Int} (h : Norm (d :: t)) : Norm t := by
 refine ⟨h.1.cons.2, fun e => ?_⟩
 have h2 := h.2
 cases t with
 | nil => simp at e
 | cons x s => rw [List.getLast?_cons_cons] at h2; exact h2 e
theorem digs_norm (n : Nat) : Norm (digs n) := by
 refine ⟨digs_isDigs n, ?_⟩
 induction n using Nat.strongRecOn with
 | _ n ih =>
  by_cases h : n = 0
  ·subst h; simp [digs_zero]
  ·rw [digs_pos h]
   by_cases h10 : n / 10 = 0
   ·rw [h10, digs_zero]; simp; omega
   ·have := ih (n / 10) (by omega)
    rw [digs_pos h10] at this ⊢
    rw [List.getLast?_cons_cons]; exact this
/-- There is one way alone to write a number. -/
theorem norm_digs {l : List Int} (h : Norm l) : l = digs (val l).toNat := by
 induction l with
 | nil => simp [val, digs_zero]
 | cons d t ih =>
  have it := ih h.tail
  obtain ⟨⟨h1, h2⟩, h3⟩ := h.1.cons
  have hv := val_nonneg h3
  have hne : (val (d :: t)).toNat ≠ 0 := by
   simp only [val]
   intro e
   have h0 : val t = 0 := by omega
   have hd : d = 0 := by omega
   rw [h0] at it
   simp [digs_zero] at it
   subst it
   exact h.2 (by simp [hd])
  rw [digs_pos hne]
  simp only [val]
  rw [show ((((d + 10 * val t).toNat % 10 : Nat)) : Int) = d by omega, show (d + 10 * val t).toNat / 10 = (val t).toNat by omega, ← it]

theorem val_append (a b : List Int) : val (a ++ b) = val a + 10 ^ a.length * val b := by
 induction a with
 | nil => simp [val]
 | cons d t ih =>
  rw [List.cons_append, val, ih, val, List.length_cons, Int.pow_succ, Int.mul_add, Int.mul_comm (10 ^ t.length) 10, ← Int.mul_assoc, Int.add_assoc]
theorem val_lt {l : List Int} (h : IsDigs l) : val l < 10 ^ l.length := by
 induction l with
 | nil => simp [val]
 | cons d t ih =>
  obtain ⟨h1, h2⟩ := h.cons
  have := ih h2
  rw [val, List.length_cons, Int.pow_succ]; omega
theorem digs_length (n k : Nat) (h : n < 10 ^ k) : (digs n).length ≤ k := by
 induction k generalizing n with
 | zero =>
  have : n = 0 := by simpa using h
  subst this; simp [digs_zero]
 | succ k ih =>
  by_cases e : n = 0
  ·subst e; simp [digs_zero]
  ·rw [digs_pos e, List.length_cons]
   have := ih (n / 10) (by rw [Nat.pow_succ] at h; omega)
   omega

/-- Without noughts at the end. -/
def trimL (l : List Int) : List Int := (l.reverse.dropWhile (· == 0)).reverse
theorem trimL_snoc_zero (l : List Int) : trimL (l ++ [0]) = trimL l := by simp [trimL]
theorem trimL_snoc {d : Int} (l : List Int) (h : d ≠ 0) : trimL (l ++ [d]) = l ++ [d] := by simp [trimL, h]
theorem trimL_nil : trimL [] = [] := rfl
theorem snoc_cases (l : List Int) : l = [] ∨ ∃ t d, l = t ++ [d] := by
 rcases l.eq_nil_or_concat with h | ⟨t, d, h⟩
 ·exact .inl h
 ·exact .inr ⟨t, d, by simpa using h⟩
theorem trimL_spec (n : Nat) : ∀ l : List Int, l.length = n → IsDigs l → Norm (trimL l) ∧ val (trimL l) = val l ∧ (trimL l).length ≤ n := by
 induction n with
 | zero => intro l hl _; rw [List.length_eq_zero_iff] at hl; subst hl; simp [trimL_nil, Norm, IsDigs]
 | succ n ih =>
  intro l hl hd
  rcases snoc_cases l with rfl | ⟨t, d, rfl⟩
  ·simp at hl
  ·have ht : IsDigs t := fun x hx => hd x (by simp [hx])
   by_cases h0 : d = 0
   ·subst h0
    rw [trimL_snoc_zero]
    obtain ⟨a, b, c⟩ := ih t (by simpa using hl) ht
    exact ⟨a, by rw [b, val_append]; simp [val], by omega⟩
   ·rw [trimL_snoc t h0]
    exact ⟨⟨hd, by simpa using h0⟩, rfl, by omega⟩
end Go.Proofs.Yteogdfpkcoodlaa
namespace Go.Proofs.Yteogdfpkcoodlaa

def plusC : List Int → List Int → Int → List Int
 | [], [], c => if c = 0 then [] else [c]
 | x :: a, [], c => ((c + x) % 10) :: plusC a [] ((c + x) / 10)
 | [], y :: b, c => ((c + y) % 10) :: plusC [] b ((c + y) / 10)
 | x :: a, y :: b, c => ((c + x + y) % 10) :: plusC a b ((c + x + y) / 10)

theorem plusC_spec : ∀ (a b : List Int) (c : Int), IsDigs a → IsDigs b → 0 ≤ c → c ≤ 1 →
  IsDigs (plusC a b c) ∧ val (plusC a b c) = val a + val b + c ∧ (plusC a b c).length ≤ a.length + b.length + 1
 | [], [], c, _, _, h0, h1 => by
  unfold plusC
  split
  ·simp [IsDigs, val]; omega
  ·simp [IsDigs, val]; omega
 | x :: a, [], c, ha, hb, h0, h1 => by
  obtain ⟨hx, ha'⟩ := ha.cons
  obtain ⟨r1, r2, r3⟩ := plusC_spec a [] ((c + x) / 10) ha' hb (by omega) (by omega)
  unfold plusC
  refine ⟨fun d hd => ?_, ?_, ?_⟩
  ·rcases List.mem_cons.1 hd with rfl | hd
   ·omega
   ·exact r1 d hd
  ·simp only [val] at r2 ⊢; omega
  ·simp only [List.length_cons, List.length_nil] at r3 ⊢; omega
 | [], y :: b, c, ha, hb, h0, h1 => by
  obtain ⟨hy, hb'⟩ := hb.cons
  obtain ⟨r1, r2, r3⟩ := plusC_spec [] b ((c + y) / 10) ha hb' (by omega) (by omega)
  unfold plusC
  refine ⟨fun d hd => ?_, ?_, ?_⟩
  ·rcases List.mem_cons.1 hd with rfl | hd
   ·omega
   ·exact r1 d hd
  ·simp only [val] at r2 ⊢; omega
  ·simp only [List.length_cons, List.length_nil] at r3 ⊢; omega
 | x :: a, y :: b, c, ha, hb, h0, h1 => by
  obtain ⟨hx, ha'⟩ := ha.cons
  obtain ⟨hy, hb'⟩ := hb.cons
  obtain ⟨r1, r2, r3⟩ := plusC_spec a b ((c + x + y) / 10) ha' hb' (by omega) (by omega)
  unfold plusC
  refine ⟨fun d hd => ?_, ?_, ?_⟩
  ·rcases List.mem_cons.1 hd with rfl | hd
   ·omega
   ·exact r1 d hd
  ·simp only [val] at r2 ⊢; omega
  ·simp only [List.length_cons] at r3 ⊢; omega

theorem drop_cases (a : List Int) (i : Nat) : (i < a.length ∧ a.drop i = a.getD i 0 :: a.drop (i + 1)) ∨ (a.length ≤ i ∧ a.drop i = [] ∧ a.drop (i + 1) = [] ∧ a.getD i 0 = 0) := by
 by_cases h : i < a.length
 ·left
  refine ⟨h, ?_⟩
  rw [List.getD_eq_getElem?_getD, List.getElem?_eq_getElem h]
  exact List.drop_eq_getElem_cons h
 ·right
  refine ⟨by omega, by rw [List.drop_eq_nil_iff]; omega, by rw [List.drop_eq_nil_iff]; omega, ?_⟩
  rw [List.getD_eq_getElem?_getD, List.getElem?_eq_none (by omega)]; rfl

/-- A round of the sum. -/
theorem plusC_step (a b : List Int) (i : Nat) (c : Int) (h0 : 0 ≤ c) (h1 : c ≤ 1) (h : i < a.length ∨ i < b.length ∨ 0 < c) :
  plusC (a.drop i) (b.drop i) c = ((c + a.getD i 0 + b.getD i 0) % 10) :: plusC (a.drop (i + 1)) (b.drop (i + 1)) ((c + a.getD i 0 + b.getD i 0) / 10) := by
 rcases drop_cases a i with ⟨ha, ea⟩ | ⟨ha, ea, ea', ga⟩ <;> rcases drop_cases b i with ⟨hb, eb⟩ | ⟨hb, eb, eb', gb⟩
 ·rw [ea, eb, plusC]
 ·rw [ea, eb, eb', gb, plusC, Int.add_zero]
 ·rw [ea, eb, ea', ga, plusC, Int.add_zero]
 ·obtain rfl : c = 1 := by omega
  rw [ea, eb, ea', eb', ga, gb]; simp [plusC]
theorem plusC_stop (a b : List Int) (i : Nat) (ha : a.length ≤ i) (hb : b.length ≤ i) : plusC (a.drop i) (b.drop i) 0 = [] := by
 rw [List.drop_eq_nil_iff.2 ha, List.drop_eq_nil_iff.2 hb]; simp [plusC]

def minusC : List Int → List Int → Int → List Int
 | [], _, _ => []
 | x :: a, b, c => (if x - c - b.headD 0 < 0 then x - c - b.headD 0 + 10 else x - c - b.headD 0) :: minusC a b.tail (if x - c - b.headD 0 < 0 then 1 else 0)

theorem minusC_length : ∀ (a b : List Int) (c : Int), (minusC a b c).length = a.length
 | [], _, _ => rfl
 | x :: a, b, c => by rw [minusC, List.length_cons, List.length_cons, minusC_length]
theorem headD_tail {b : List Int} (h : IsDigs b) : 0 ≤ b.headD 0 ∧ b.headD 0 ≤ 9 ∧ IsDigs b.tail ∧ val b = b.headD 0 + 10 * val b.tail := by
 cases b with
 | nil => simp [val, IsDigs]
 | cons y t => obtain ⟨h1, h2⟩ := h.cons; exact ⟨h1.1, h1.2, h2, rfl⟩
theorem minusC_spec : ∀ (a b : List Int) (c : Int), IsDigs a → IsDigs b → 0 ≤ c → c ≤ 1 → val b + c ≤ val a →
  IsDigs (minusC a b c) ∧ val (minusC a b c) = val a - val b - c
 | [], b, c, _, hb, h0, h1, h => by
  have := val_nonneg hb
  simp only [minusC, val] at *
  exact ⟨fun _ h => by simp at h, by omega⟩
 | x :: a, b, c, ha, hb, h0, h1, h => by
  obtain ⟨hx, ha'⟩ := ha.cons
  obtain ⟨y0, y1, hb', ev⟩ := headD_tail hb
  rw [ev] at h ⊢
  have hva := val_nonneg ha'
  have hvb := val_nonneg hb'
  simp only [val] at h
  obtain ⟨r1, r2⟩ := minusC_spec a b.tail (if x - c - b.headD 0 < 0 then 1 else 0) ha' hb' (by split <;> omega) (by split <;> omega) (by split <;> omega)
  rw [minusC]
  refine ⟨fun d hd => ?_, ?_⟩
  ·rcases List.mem_cons.1 hd with rfl | hd
   ·split <;> omega
   ·exact r1 d hd
  ·simp only [val]; rw [r2]; split <;> omega
/-- A round of the difference. -/
theorem minusC_step (a b : List Int) (i : Nat) (c : Int) (h : i < a.length) :
  minusC (a.drop i) (b.drop i) c = (if a.getD i 0 - c - b.getD i 0 < 0 then a.getD i 0 - c - b.getD i 0 + 10 else a.getD i 0 - c - b.getD i 0) ::
   minusC (a.drop (i + 1)) (b.drop (i + 1)) (if a.getD i 0 - c - b.getD i 0 < 0 then 1 else 0) := by
 rcases drop_cases a i with ⟨ha, ea⟩ | ⟨ha, _⟩
 ·rw [ea, minusC]
  have e1 : (b.drop i).headD 0 = b.getD i 0 := by
   rcases drop_cases b i with ⟨_, eb⟩ | ⟨_, eb, _, gb⟩
   ·rw [eb]; rfl
   ·rw [eb, gb]; rfl
  rw [e1, List.tail_drop]
 ·omega
theorem minusC_stop (a b : List Int) (i : Nat) (c : Int) (ha : a.length ≤ i) : minusC (a.drop i) (b.drop i) c = [] := by
 rw [List.drop_eq_nil_iff.2 ha]; rfl

theorem norm_ge {l : List Int} (h : Norm l) (hl : l ≠ []) : (10 : Int) ^ (l.length - 1) ≤ val l := by
 rcases snoc_cases l with rfl | ⟨t, d, rfl⟩
 ·exact absurd rfl hl
 ·have hd := h.1 d (by simp)
  have hne : d ≠ 0 := fun e => h.2 (by simp [e])
  have ht : IsDigs t := fun x hx => h.1 x (by simp [hx])
  have := val_nonneg ht
  rw [val_append]
  simp only [val, List.length_append, List.length_cons, List.length_nil, Nat.zero_add, Nat.add_sub_cancel]
  have hp : (0 : Int) ≤ 10 ^ t.length := Int.pow_nonneg (by decide)
  have h2 : (10 : Int) ^ t.length * 1 ≤ 10 ^ t.length * (d + 10 * 0) := Int.mul_le_mul_of_nonneg_left (by omega) hp
  omega
theorem pow10_mono {m n : Nat} (h : m ≤ n) : (10 : Int) ^ m ≤ 10 ^ n := by
 obtain ⟨k, rfl⟩ := Nat.exists_eq_add_of_le h
 rw [Int.pow_add]
 have h1 : (0 : Int) ≤ 10 ^ m := Int.pow_nonneg (by decide)
 have h2 : (1 : Int) ≤ 10 ^ k := by have := Int.pow_pos (n := 10) (m := k) (by decide); omega
 have := Int.mul_le_mul_of_nonneg_left h2 h1
 omega
/-- Shorter is less. -/
theorem less_short {a b : List Int} (ha : Norm a) (hb : Norm b) (h : a.length < b.length) : val a < val b := by
 have h1 := val_lt ha.1
 have h2 := norm_ge hb (by rintro rfl; simp at h)
 have h3 := pow10_mono (m := a.length) (n := b.length - 1) (by omega)
 omega
/-- Alike from i + 1 on, unlike at i: that digit decides. -/
theorem less_at {a b : List Int} (ha : IsDigs a) (hb : IsDigs b) (i : Nat) (h : i < a.length) (hl : a.length = b.length) (ht : a.drop (i + 1) = b.drop (i + 1)) (hne : a.getD i 0 < b.getD i 0) : val a < val b := by
 have ea : a = a.take i ++ (a.getD i 0 :: a.drop (i + 1)) := by
  rcases drop_cases a i with ⟨_, e⟩ | ⟨e, _⟩
  ·rw [← e, List.take_append_drop]
  ·omega
 have eb : b = b.take i ++ (b.getD i 0 :: b.drop (i + 1)) := by
  rcases drop_cases b i with ⟨_, e⟩ | ⟨e, _⟩
  ·rw [← e, List.take_append_drop]
  ·omega
 have la : (a.take i).length = i := by rw [List.length_take]; omega
 have lb : (b.take i).length = i := by rw [List.length_take]; omega
 have da : IsDigs (a.take i) := fun d hd => ha d (List.mem_of_mem_take hd)
 have db : IsDigs (b.take i) := fun d hd => hb d (List.mem_of_mem_take hd)
 have va := val_lt da
 have vb := val_nonneg db
 rw [ea, eb, val_append, val_append, la, lb, ht]
 rw [la] at va
 simp only [val]
 have hp : (0 : Int) ≤ 10 ^ i := Int.pow_nonneg (by decide)
 have h2 : (10 : Int) ^ i * (a.getD i 0 + 10 * val (b.drop (i + 1)) + 1) ≤ 10 ^ i * (b.getD i 0 + 10 * val (b.drop (i + 1))) := Int.mul_le_mul_of_nonneg_left (by omega) hp
 rw [Int.mul_add, Int.mul_one] at h2
 omega
end Go.Proofs.Yteogdfpkcoodlaa
namespace Go.Proofs.Yteogdfpkcoodlaa
open Go.RowKit

theorem info_int : (Try.prog.info? 3).map (fun i => (i.zero, i.size, i.bytes)) = some (some (.int .i64 0), 1, 8) := by kernel_rfl

/-- What the slice owns is read as a row. -/
theorem Row.owned {w : World} {B : Nat} {T : TypeId} {v : Value} {zs : List Int} (h : w.ownsRow B T 1 v zs.length (zs.map (Value.int .i64))) : Row .i64 w v zs := by
 obtain ⟨h1, h2 | ⟨g, cap, cur, rfl, hb, hg, hn, hm, hs, ht⟩⟩ := h
 ·obtain ⟨rfl, h2⟩ := h2
  exact ⟨none, 0, by rw [h2], by omega, .inl (List.length_eq_zero_iff.1 h2)⟩
 ·refine ⟨_, cap, rfl, hn, .inr ⟨g, 0, rfl, fun i hi => ?_⟩⟩
  rw [Nat.mul_one] at ht
  rw [cell_of_row w g (0 + i) cur T (0, 0) hg, Nat.zero_add]
  have := congrArg (fun l => l[i]?) ht
  simp only [List.getElem?_take, List.getElem?_map, if_pos hi] at this
  rw [List.getElem?_eq_getElem hi] at this
  rw [List.getD_eq_getElem?_getD, List.getElem?_eq_getElem hi]
  simpa using this

/-- The number x, written out: whether it is below 0, and its digits. -/
def IsBig (w : World) (v : Value) (x : Int) : Prop := ∃ s, v = .agg #[.bool (decide (x < 0)), s] ∧ Row .i64 w s (digs x.natAbs)

/-- What the loop keeps: the digits so far, what is left, the block of the answer. -/
def FromRel (a : Int) (H : Nat) (w : World) (m : Nat) (s : Value) (xs : List Int) (wr : World) : Prop :=
 digs a.natAbs = xs ++ digs m ∧ Blk wr (H + 1) #[.bool (decide (a < 0)), s] 85 ∧ Blk wr H #[.bool false, .slice none 0 0] 85 ∧
  wr.ownsRow (H + 2) 3 1 s xs.length (xs.map (Value.int .i64)) ∧ Below H w wr

theorem FromRel.step {a : Int} {H : Nat} {w wr w1 : World} {m : Nat} {s s' : Value} {xs : List Int} (h : FromRel a H w m s xs wr) (hm : m ≠ 0) (o : Obj)
  (hown : w1.ownsRow (H + 2) 3 1 s' (xs.length + 1) (xs.map (Value.int .i64) ++ [.int .i64 ((m % 10 : Nat) : Int)])) (hg : (wr.alloc o).grownBy w1 s.ownBlock) :
  FromRel a H w (m / 10) s' (xs ++ [((m % 10 : Nat) : Int)]) (w1.setCell ⟨H + 1, 1, none⟩ s') := by
 obtain ⟨h1, h2, h3, h4, h5⟩ := h
 have g2 := (h2.alloc o).grown hg (ownBlock_ne h4 (by omega))
 have g3 := (h3.alloc o).grown hg (ownBlock_ne h4 (by omega))
 refine ⟨by rw [h1, digs_pos hm]; simp, g2.set 1 s', g3.setOther (by simp) s', ?_, ?_⟩
 ·have := ownsRow_setCell_below hown (a := ⟨H + 1, 1, none⟩) (by simp) s'
  simpa using this
 ·have hH := h3.lt
  have b1 := (h5.alloc (by omega) o).grown hg (by have := hH; simp; omega) (fun k hk => by have := (h4.lt k hk).1; omega)
  exact b1.setCell (by simp) _

theorem digs_len_of {n k : Nat} {xs : List Int} {m : Nat} (h : digs n = xs ++ digs m) (hn : n < 10 ^ k) : xs.length ≤ k := by
 have h1 := digs_length n k hn
 rw [h, List.length_append] at h1
 omega

set_option maxHeartbeats 1000000 in
set_option maxRecDepth 100000 in
theorem from_pos (a : Int) (w : World) (h0 : 0 ≤ a) (h1 : a ≤ 9223372036854775807) :
  Calls Try.prog 26 #[.int .i64 a] w fun e w' => ∃ v, e = .returned v ∧ IsBig w' v a ∧ Below w.heap.size w w' := by
 obtain ⟨i0, hi, hz0, hz1, hz2⟩ := info_parts info_int
 have hneg : decide (a < 0) = false := by simpa using h0
 have hn : Hid (a.natAbs < 10 ^ 19) := by show a.natAbs < 10 ^ 19; omega
 go_enter Try.func26, Try.ntmps26
 go_wp2
 go_loopw [0] (fun va wr => ∃ (m : Nat) (xs : List Int) (s : Value), va = .int .i64 m ∧ (m : Int) ≤ 9223372036854775807 ∧ FromRel a w.heap.size w m s xs wr) (fun va _ => (intOf va).toNat)
 case atStart =>
  refine ⟨a.natAbs, [], .slice none 0 0, ?_, by omega, rfl, ?_, ?_, World.ownsRow_nil _ _ _ _, ?_⟩
  ·congr 1; omega
  ·rw [hneg]; exact Blk.new' _ _ _ (by simp)
  ·exact (Blk.new _ _ _).alloc _
  ·exact ((Below.refl _ _).alloc (Nat.le_refl _) _).alloc (by simp) _
 case round =>
  obtain ⟨m, xs, s, rfl, hm, hR⟩ := hrel
  have hc0 : wr.cell? ⟨w.heap.size + 1, 0, none⟩ = some (.bool false) := by rw [hR.2.1.cell 0, hneg]; rfl
  have hc1 : wr.cell? ⟨w.heap.size + 1, 1, none⟩ = some s := hR.2.1.cell 1
  have hfr := hR.2.1.free 1
  have ha0 : wr.cell? ⟨w.heap.size, 0, none⟩ = some (.bool false) := hR.2.2.1.cell 0
  have ha1 : wr.cell? ⟨w.heap.size, 1, none⟩ = some (.slice none 0 0) := hR.2.2.1.cell 1
  have hf0 := hR.2.2.1.free 0
  have hf1 := hR.2.2.1.free 1
  have hlen := digs_len_of hR.1 hn.out
  have hsz := hR.2.1.lt
  have HR := Lib.hid hR
  clear hR
  obtain ⟨p, c, rfl⟩ := owned_slice HR.out.2.2.2.1
  by_cases hz : m = 0
  ·subst hz
   go_wp2
   have hR := HR.out
   have hf : Blk ((wr.setCell ⟨w.heap.size, 0, none⟩ (.bool false)).setCell ⟨w.heap.size, 1, none⟩ (.slice p xs.length c)) w.heap.size #[.bool false, .slice p xs.length c] 85 := (hR.2.2.1.set 0 _).set 1 _
   refine bodyPost_ret (v := .agg #[.bool false, .slice p xs.length c]) (by simp [results, Try.results26, go_sem, hf.cell 0, hf.cell 1]) rfl ?_
   have hb := ((hR.2.2.2.2.setCell (p := ⟨w.heap.size, 0, none⟩) (by simp) (.bool false)).setCell (p := ⟨w.heap.size, 1, none⟩) (by simp) (.slice p xs.length c))
   refine ⟨_, rfl, ⟨_, by rw [hneg], ?_⟩, hb⟩
   have hd : digs a.natAbs = xs := by rw [hR.1, digs_zero, List.append_nil]
   rw [hd]
   exact Row.owned (ownsRow_setCell_below (ownsRow_setCell_below hR.2.2.2.1 (a := ⟨w.heap.size, 0, none⟩) (by simp) _) (a := ⟨w.heap.size, 1, none⟩) (by simp) _)
  ·have hzb : ((m : Int) != 0) = true := by simpa using hz
   go_wp2_with (at_builtin; refine wpList_append_own _ rfl _ _ 65 rfl (w.heap.size + 2) 3 i0 (.int .i64 0) 1 8 Try.underlying65 hi hz0 hz1 hz2 rfl (by decide) _ _ _ rfl (HR.out.2.2.2.1.alloc _) ⟨wr.heap.size, 0, none⟩ 1 1 [.int .i64 ((m : Int) % 10)] rfl rfl ?c1 ?c2 ?c3 ?c4 ?c5 ?_)
   case c1 => exact one_new _ _ _
   case c2 => exact one_cells _ _
   case c3 => unfold maxLen; omega
   case c4 => omega
   case c5 => simp; omega
   ·intro v' w1 hown hgrow _
    have hst := HR.out.step hz _ hown hgrow
    obtain ⟨p', c', rfl⟩ := owned_slice hown
    have hb1 := (HR.out.2.1.alloc (.cells #[.int .i64 ((m : Int) % 10)] 3)).grown hgrow (ownBlock_ne HR.out.2.2.2.1 (by omega))
    have hcw : w1.cell? ⟨w.heap.size + 1, 1, none⟩ = some (.slice p xs.length c) := hb1.cell 1
    have hfw := hb1.free 1
    have HST := Lib.hid hst
    clear hst hown hgrow hb1
    go_wp2
    go_roundw
    case rel => exact ⟨m / 10, xs ++ [((m % 10 : Nat) : Int)], _, by go_num, by omega, by simpa using HST.out⟩
    case measure => simp [intOf]; omega
set_option maxHeartbeats 1000000 in
set_option maxRecDepth 100000 in
theorem from_neg (a : Int) (w : World) (h0 : a < 0) (h1 : -9223372036854775808 ≤ a) :
  Calls Try.prog 26 #[.int .i64 a] w fun e w' => ∃ v, e = .returned v ∧ IsBig w' v a ∧ Below w.heap.size w w' := by
 obtain ⟨i0, hi, hz0, hz1, hz2⟩ := info_parts info_int
 have hneg : decide (a < 0) = true := by simpa using h0
 have hn : Hid (a.natAbs < 10 ^ 19) := by show a.natAbs < 10 ^ 19; omega
 go_enter Try.func26, Try.ntmps26
 go_wp2
 go_loopw [0] (fun va wr => ∃ (m : Nat) (xs : List Int) (s : Value), va = .int .i64 (-(m : Int)) ∧ (m : Int) ≤ 9223372036854775808 ∧ FromRel a w.heap.size w m s xs wr) (fun va _ => (intOf va).natAbs)
 case atStart =>
  refine ⟨a.natAbs, [], .slice none 0 0, ?_, by omega, rfl, ?_, ?_, World.ownsRow_nil _ _ _ _, ?_⟩
  ·congr 1; omega
  ·rw [hneg]; exact Blk.new' _ _ _ (by simp)
  ·exact (Blk.new _ _ _).alloc _
  ·exact ((Below.refl _ _).alloc (Nat.le_refl _) _).alloc (by simp) _
 case round =>
  obtain ⟨m, xs, s, rfl, hm, hR⟩ := hrel
  have hc0 : wr.cell? ⟨w.heap.size + 1, 0, none⟩ = some (.bool true) := by rw [hR.2.1.cell 0, hneg]; rfl
  have hc1 : wr.cell? ⟨w.heap.size + 1, 1, none⟩ = some s := hR.2.1.cell 1
  have hfr := hR.2.1.free 1
  have ha0 : wr.cell? ⟨w.heap.size, 0, none⟩ = some (.bool false) := hR.2.2.1.cell 0
  have ha1 : wr.cell? ⟨w.heap.size, 1, none⟩ = some (.slice none 0 0) := hR.2.2.1.cell 1
  have hf0 := hR.2.2.1.free 0
  have hf1 := hR.2.2.1.free 1
  have hlen := digs_len_of hR.1 hn.out
  have hsz := hR.2.1.lt
  have HR := Lib.hid hR
  clear hR
  obtain ⟨p, c, rfl⟩ := owned_slice HR.out.2.2.2.1
  by_cases hz : m = 0
  ·subst hz
   go_wp2
   have hR := HR.out
   have hf : Blk ((wr.setCell ⟨w.heap.size, 0, none⟩ (.bool true)).setCell ⟨w.heap.size, 1, none⟩ (.slice p xs.length c)) w.heap.size #[.bool true, .slice p xs.length c] 85 := (hR.2.2.1.set 0 _).set 1 _
   refine bodyPost_ret (v := .agg #[.bool true, .slice p xs.length c]) (by simp [results, Try.results26, go_sem, hf.cell 0, hf.cell 1]) rfl ?_
   have hb := ((hR.2.2.2.2.setCell (p := ⟨w.heap.size, 0, none⟩) (by simp) (.bool true)).setCell (p := ⟨w.heap.size, 1, none⟩) (by simp) (.slice p xs.length c))
   refine ⟨_, rfl, ⟨_, by rw [hneg], ?_⟩, hb⟩
   have hd : digs a.natAbs = xs := by rw [hR.1, digs_zero, List.append_nil]
   rw [hd]
   exact Row.owned (ownsRow_setCell_below (ownsRow_setCell_below hR.2.2.2.1 (a := ⟨w.heap.size, 0, none⟩) (by simp) _) (a := ⟨w.heap.size, 1, none⟩) (by simp) _)
  ·have hzb : (-(m : Int) != 0) = true := by simpa using hz
   have hdiv : (-(m : Int)).tdiv 10 = -((m : Int) / 10) := by rw [Int.neg_tdiv, Int.tdiv_eq_ediv_of_nonneg (by omega)]
   have hmod : (-(m : Int)).tmod 10 = -((m : Int) % 10) := by rw [Int.neg_tmod, Int.tmod_eq_emod_of_nonneg (by omega)]
   by_cases h10 : (m : Int) % 10 = 0
   ·have hmod0 : (-(m : Int)).tmod 10 = 0 := by rw [hmod, h10]; rfl
    clear hmod
    go_wp2_with (at_builtin; refine wpList_append_own _ rfl _ _ 65 rfl (w.heap.size + 2) 3 i0 (.int .i64 0) 1 8 Try.underlying65 hi hz0 hz1 hz2 rfl (by decide) _ _ _ rfl (HR.out.2.2.2.1.alloc _) ⟨wr.heap.size, 0, none⟩ 1 1 [.int .i64 0] rfl rfl ?c1 ?c2 ?c3 ?c4 ?c5 ?_)
    case c1 => exact one_new _ _ _
    case c2 => exact one_cells _ _
    case c3 => unfold maxLen; omega
    case c4 => omega
    case c5 => simp; omega
    intro v' w1 hown hgrow _
    have hst := HR.out.step hz (.cells #[.int .i64 0] 3) (by rw [show ((m % 10 : Nat) : Int) = 0 by omega]; exact hown) hgrow
    obtain ⟨p', c', rfl⟩ := owned_slice hown
    have hb1 := (HR.out.2.1.alloc (.cells #[.int .i64 0] 3)).grown hgrow (ownBlock_ne HR.out.2.2.2.1 (by omega))
    have hcw : w1.cell? ⟨w.heap.size + 1, 1, none⟩ = some (.slice p xs.length c) := hb1.cell 1
    have hfw := hb1.free 1
    have HST := Lib.hid hst
    clear hst hown hgrow hb1
    go_wp2
    go_roundw
    case rel => exact ⟨m / 10, xs ++ [((m % 10 : Nat) : Int)], _, by go_num, by omega, by simpa using HST.out⟩
    case measure => simp [intOf]; omega
   ·have hpos : 0 < (m : Int) % 10 := by omega
    go_wp2_with (at_builtin; refine wpList_append_own _ rfl _ _ 65 rfl (w.heap.size + 2) 3 i0 (.int .i64 0) 1 8 Try.underlying65 hi hz0 hz1 hz2 rfl (by decide) _ _ _ rfl (HR.out.2.2.2.1.alloc _) ⟨wr.heap.size, 0, none⟩ 1 1 [.int .i64 ((m : Int) % 10)] rfl rfl ?c1 ?c2 ?c3 ?c4 ?c5 ?_)
    case c1 => exact one_new _ _ _
    case c2 => exact one_cells _ _
    case c3 => unfold maxLen; omega
    case c4 => omega
    case c5 => simp; omega
    intro v' w1 hown hgrow _
    have hst := HR.out.step hz (.cells #[.int .i64 ((m : Int) % 10)] 3) (by rw [show ((m % 10 : Nat) : Int) = ((m : Int) % 10) by omega]; exact hown) hgrow
    obtain ⟨p', c', rfl⟩ := owned_slice hown
    have hb1 := (HR.out.2.1.alloc (.cells #[.int .i64 ((m : Int) % 10)] 3)).grown hgrow (ownBlock_ne HR.out.2.2.2.1 (by omega))
    have hcw : w1.cell? ⟨w.heap.size + 1, 1, none⟩ = some (.slice p xs.length c) := hb1.cell 1
    have hfw := hb1.free 1
    have HST := Lib.hid hst
    clear hst hown hgrow hb1
    go_wp2
    go_roundw
    case rel => exact ⟨m / 10, xs ++ [((m % 10 : Nat) : Int)], _, by go_num, by omega, by simpa using HST.out⟩
    case measure => simp [intOf]; omega
theorem from_any (a : Int) (w : World) (ha : Fits a) :
  Calls Try.prog 26 #[.int .i64 a] w fun e w' => ∃ v, e = .returned v ∧ IsBig w' v a ∧ Below w.heap.size w w' := by
 by_cases h : 0 ≤ a
 ·exact from_pos a w h ha.2
 ·exact from_neg a w (by omega) ha.1
end Go.Proofs.Yteogdfpkcoodlaa
namespace Go.Proofs.Yteogdfpkcoodlaa
open Go.RowKit

theorem Row.take {k : IntKind} {w : World} {p : Option Addr} {c n : Nat} {zs : List Int} (h : Row k w (.slice p zs.length c) zs) (hn : n ≤ zs.length) : Row k w (.slice p n c) (zs.take n) := by
 obtain ⟨p', c', e, hc, h⟩ := h
 cases e
 have hl : (zs.take n).length = n := by rw [List.length_take]; omega
 refine ⟨p, c, by rw [hl], by omega, ?_⟩
 rcases h with h | ⟨b, o, rfl, h⟩
 ·subst h; simp
 ·by_cases h0 : n = 0
  ·left; subst h0; simp
  ·refine .inr ⟨b, o, rfl, fun i hi => ?_⟩
   rw [hl] at hi
   rw [h i (by omega), List.getD_eq_getElem?_getD, List.getD_eq_getElem?_getD, List.getElem?_take, if_pos hi]

/-- What a row of ints holds at i, where it has such a place. -/
theorem Row.at {k : IntKind} {w : World} {p : Option Addr} {c n : Nat} {zs : List Int} (h : Row k w (.slice p n c) zs) (i : Nat) (hi : i < zs.length) : ∃ b o, p = some ⟨b, o, none⟩ ∧ w.cell? ⟨b, o + i, none⟩ = some (.int k (zs.getD i 0)) := by
 obtain ⟨p', c', e, _, h⟩ := h
 cases e
 rcases h with rfl | ⟨b, o, rfl, h⟩
 ·simp at hi
 ·exact ⟨b, o, rfl, h i hi⟩

theorem trimL_of {l : List Int} (n : Nat) (h : n ≤ l.length) (hz : ∀ j, n ≤ j → j < l.length → l.getD j 0 = 0) : trimL l = trimL (l.take n) := by
 obtain ⟨k, hk⟩ := Nat.exists_eq_add_of_le h
 induction k generalizing n with
 | zero => rw [List.take_of_length_le (by omega)]
 | succ k ih =>
  rw [ih (n + 1) (by omega) (fun j a b => hz j (by omega) b) (by omega)]
  have : l.take (n + 1) = l.take n ++ [0] := by
   rw [List.take_succ_eq_append_getElem (by omega)]
   have := hz n (Nat.le_refl _) (by omega)
   rw [List.getD_eq_getElem?_getD, List.getElem?_eq_getElem (by omega)] at this
   rw [show l[n] = 0 by simpa using this]
  rw [this, trimL_snoc_zero]
theorem trimL_take {l : List Int} (n : Nat) (h : n ≤ l.length) (hn : n = 0 ∨ l.getD (n - 1) 0 ≠ 0) : trimL (l.take n) = l.take n := by
 rcases hn with rfl | hn
 ·simp [trimL_nil]
 ·by_cases h0 : n = 0
  ·subst h0; simp [trimL_nil]
  ·obtain ⟨m, rfl⟩ : ∃ m, n = m + 1 := ⟨n - 1, by omega⟩
   rw [List.take_succ_eq_append_getElem (by omega)]
   apply trimL_snoc
   rw [List.getD_eq_getElem?_getD, Nat.add_sub_cancel, List.getElem?_eq_getElem (by omega)] at hn
   simpa using hn

theorem trim_any (v : Value) (zs : List Int) (w : World) (hm : zs.length ≤ 1000000) (hrow : Row .i64 w v zs) :
  Calls Try.prog 39 #[v] w fun e w' => ∃ v', e = .returned v' ∧ Row .i64 w v' (trimL zs) ∧ w = w' := by
 obtain ⟨p, c, rfl, hcap, _⟩ := id hrow
 have HR := Lib.hid hrow
 clear hrow
 generalize hn : zs.length = n at *
 have HN := Lib.hid hn
 clear hn
 go_enter Try.func39, Try.ntmps39
 go_wp2
 go_loop [3] (fun vn => ∃ k : Nat, k ≤ n ∧ vn = .int .i64 k ∧ Hid (∀ j, k ≤ j → j < n → zs.getD j 0 = 0)) (fun vn => (intOf vn).toNat)
 case atStart => exact ⟨n, Nat.le_refl _, rfl, fun j a b => by omega⟩
 case round =>
  obtain ⟨k, hk, rfl, hz⟩ := hrel
  have fin : (k = 0 ∨ zs.getD (k - 1) 0 ≠ 0) → Row .i64 w (.slice p k c) (trimL zs) := fun h => by
   have hn := HN.out
   rw [trimL_of k (by omega) (fun j a b => hz.out j a (by omega)), trimL_take k (by omega) h]
   exact Row.take (by rw [hn]; exact HR.out) (by omega)
  have FIN := Lib.hid fin
  clear fin
  by_cases h0 : k = 0
  ·subst h0
   go_wp2
   go_ret
   exact ⟨_, rfl, FIN.out (by simp), rfl⟩
  ·obtain ⟨b, o, rfl, hc⟩ := HR.out.at (k - 1) (by rw [HN.out]; omega)
   by_cases hd : zs.getD (k - 1) 0 = 0
   ·have HD := Lib.hid hd
    rw [hd] at hc
    clear hd
    go_wp2
    go_round
    case rel => exact ⟨k - 1, by omega, by go_num, fun j a b => by
     by_cases e : j = k - 1
     ·rw [e]; exact HD.out
     ·exact hz.out j (by omega) b⟩
    case measure => simp [intOf]; omega
   ·have HD := Lib.hid hd
    have hb : (zs.getD (k - 1) 0 == 0) = false := by simpa using hd
    generalize zs.getD (k - 1) 0 = d at *
    clear hd
    go_wp2
    go_ret
    exact ⟨_, rfl, FIN.out (.inr HD.out), rfl⟩

theorem drop_eq {a b : List Int} {i : Nat} (ha : i < a.length) (hl : a.length = b.length) (ht : a.drop (i + 1) = b.drop (i + 1)) (he : a.getD i 0 = b.getD i 0) : a.drop i = b.drop i := by
 rcases drop_cases a i with ⟨_, ea⟩ | ⟨h, _⟩
 ·rcases drop_cases b i with ⟨_, eb⟩ | ⟨h, _⟩
  ·rw [ea, eb, ht, he]
  ·omega
 ·omega

/-- The order of two numbers that are written out. -/
def lessB (x y : Int) : Bool := decide (x < y)
def LessRel (a b : List Int) (k : Nat) : Prop := a.drop k = b.drop k

set_option maxHeartbeats 1000000 in
theorem less_any (u v : Value) (a b : List Int) (w : World) (ha : Norm a) (hb : Norm b) (hm : a.length ≤ 1000000) (_hm' : b.length ≤ 1000000) (hu : Row .i64 w u a) (hv : Row .i64 w v b) :
  Calls Try.prog 41 #[u, v] w fun e w' => e = .returned (.bool (lessB (val a) (val b))) ∧ Below w.heap.size w w' := by
 obtain ⟨p, c, rfl, _, _⟩ := id hu
 obtain ⟨q, d, rfl, _, _⟩ := id hv
 have HU := Lib.hid hu
 have HV := Lib.hid hv
 clear hu hv
 by_cases hlen : a.length = b.length
 ·generalize hn : a.length = n at *
  have hnb : ((n : Int) != (n : Int)) = false := by simp
  have HN := Lib.hid hn
  have HB := Lib.hid hlen
  clear hn
  rw [← hlen]
  clear hlen
  go_enter Try.func41, Try.ntmps41
  go_wp2
  go_loopw [5] (fun vi wr => ∃ (j : Int) (nd : Nat), -1 ≤ j ∧ j < n ∧ vi = .int .i64 j ∧ Hid (a.drop (j + 1).toNat = b.drop (j + 1).toNat) ∧ wr = w.drewN nd) (fun vi _ => (intOf vi + 1).toNat)
  case atStart =>
   refine ⟨(n : Int) - 1, 0, by omega, by omega, rfl, ?_, rfl⟩
   show _ = _
   rw [show ((n : Int) - 1 + 1).toNat = n by omega]
   rw [List.drop_eq_nil_iff.2 (by rw [HN.out]; exact Nat.le_refl _), List.drop_eq_nil_iff.2 (by rw [← HB.out]; exact Nat.le_refl _)]
  case round =>
   obtain ⟨j, nd, hj0, hj1, rfl, hd, rfl⟩ := hrel
   by_cases h0 : j < 0
   ·obtain rfl : j = -1 := by omega
    have hfin : Hid (lessB (val a) (val b) = false) := by
     have := hd.out
     simp at this
     show _ = _
     rw [this]; simp [lessB]
    go_wp2
    go_ret
    exact ⟨by rw [hfin.out]; rfl, drewN_below _ _ _⟩
   ·obtain ⟨m, rfl⟩ : ∃ m : Nat, j = m := ⟨j.toNat, by omega⟩
    have hd' : Hid (a.drop (m + 1) = b.drop (m + 1)) := by
     have := hd.out
     rw [show ((m : Int) + 1).toNat = m + 1 by omega] at this
     exact this
    clear hd
    obtain ⟨x, o, rfl, hc⟩ := HU.out.at m (by rw [HN.out]; omega)
    obtain ⟨x', o', rfl, hc'⟩ := HV.out.at m (by rw [← HB.out]; omega)
    by_cases he : a.getD m 0 = b.getD m 0
    ·have HE : Hid (a.drop m = b.drop m) := drop_eq (by rw [HN.out]; omega) (HN.out.trans HB.out) hd'.out he
     have hbb : (a.getD m 0 != b.getD m 0) = false := by simpa using he
     generalize a.getD m 0 = aa at *
     generalize b.getD m 0 = bb at *
     clear he
     go_wp2_with fail
     go_quiet (fail)
     go_wp2
     go_roundw
     case rel => exact ⟨(m : Int) - 1, _, by omega, by omega, rfl, by
      show _ = _
      rw [show ((m : Int) - 1 + 1).toNat = m by omega]
      exact HE.out, rfl⟩
     case measure => simp [intOf]
    ·have hfin : Hid (lessB (val a) (val b) = decide (a.getD m 0 < b.getD m 0)) := by
      show _ = _
      unfold lessB
      rw [decide_eq_decide]
      constructor
      ·intro h
       by_cases e : b.getD m 0 < a.getD m 0
       ·have := less_at hb.1 ha.1 m (by rw [← HB.out]; omega) (HB.out.symm.trans HN.out.symm) hd'.out.symm e; omega
       ·omega
      ·exact less_at ha.1 hb.1 m (by rw [HN.out]; omega) (HN.out.trans HB.out) hd'.out
     have hbb : (a.getD m 0 != b.getD m 0) = true := by simpa using he
     generalize a.getD m 0 = aa at *
     generalize b.getD m 0 = bb at *
     clear he
     go_wp2_with fail
     go_quiet (fail)
     go_wp2_with fail
     go_quiet (fail)
     go_wp2
     go_ret
     exact ⟨by rw [hfin.out]; rfl, below_drewN (below_drewN (drewN_below _ _ _) _) _⟩
 ·have hnb : ((a.length : Int) != (b.length : Int)) = true := by simp; omega
  go_enter Try.func41, Try.ntmps41
  go_wp2
  have hfin : Hid (lessB (val a) (val b) = decide (a.length < b.length)) := by
   show _ = _
   unfold lessB
   rw [decide_eq_decide]
   constructor
   ·intro h
    by_cases e : b.length < a.length
    ·have := less_short hb ha e; omega
    ·omega
   ·exact less_short ha hb
  go_ret
  exact ⟨by rw [hfin.out]; rfl, Below.refl _ _⟩
end Go.Proofs.Yteogdfpkcoodlaa
namespace Go.Proofs.Yteogdfpkcoodlaa
open Go.RowKit

/-- What the loop of the sum keeps. -/
def PlusRel (a b : List Int) (w : World) (i : Nat) (c : Int) (xs : List Int) (v : Value) (wr : World) : Prop :=
 plusC a b 0 = xs ++ plusC (a.drop i) (b.drop i) c ∧ xs.length = i ∧ wr.ownsRow w.heap.size 3 1 v xs.length (xs.map (Value.int .i64)) ∧ Below w.heap.size w wr
theorem PlusRel.start (a b : List Int) (w : World) : PlusRel a b w 0 0 [] (.slice none 0 0) w := ⟨by simp, rfl, World.ownsRow_nil _ _ _ _, Below.refl _ _⟩
theorem PlusRel.step {a b : List Int} {w wr w1 : World} {i : Nat} {c : Int} {xs : List Int} {v v' : Value} (h : PlusRel a b w i c xs v wr) (s : Int) (hs : s = c + a.getD i 0 + b.getD i 0)
  (h0 : 0 ≤ c) (h1 : c ≤ 1) (hin : i < a.length ∨ i < b.length ∨ 0 < c) (o : Obj)
  (hown : w1.ownsRow w.heap.size 3 1 v' (xs.length + 1) (xs.map (Value.int .i64) ++ [.int .i64 (s % 10)])) (hg : (wr.alloc o).grownBy w1 v.ownBlock) :
  PlusRel a b w (i + 1) (s / 10) (xs ++ [s % 10]) v' w1 := by
 obtain ⟨e1, e2, e3, e4⟩ := h
 have hb := e4.size
 refine ⟨?_, by simp [e2], by simpa using hown, (e4.alloc hb o).grown hg (by simp; omega) (fun k hk => (e3.lt k hk).1)⟩
 rw [e1, plusC_step a b i c h0 h1 hin, ← hs, List.append_assoc]; rfl
theorem PlusRel.len {a b : List Int} {w wr : World} {i : Nat} {c : Int} {xs : List Int} {v : Value} (h : PlusRel a b w i c xs v wr) (ha : IsDigs a) (hb : IsDigs b) : i ≤ a.length + b.length + 1 := by
 have h1 := (plusC_spec a b 0 ha hb (by decide) (by decide)).2.2
 rw [h.1, List.length_append, h.2.1] at h1
 omega
theorem digs_getD {a : List Int} (ha : IsDigs a) (i : Nat) : 0 ≤ a.getD i 0 ∧ a.getD i 0 ≤ 9 := by
 rw [List.getD_eq_getElem?_getD]
 by_cases hi : i < a.length
 ·rw [List.getElem?_eq_getElem hi]; exact ha _ (List.getElem_mem hi)
 ·rw [List.getElem?_eq_none (by omega)]; simp
theorem getD_out {a : List Int} {i : Nat} (h : a.length ≤ i) : a.getD i 0 = 0 := by rw [List.getD_eq_getElem?_getD, List.getElem?_eq_none h]; rfl

set_option maxHeartbeats 2000000 in
set_option maxRecDepth 100000 in
theorem plus_any (u v : Value) (a b : List Int) (w : World) (ha : IsDigs a) (hb : IsDigs b) (hma : a.length ≤ 1000000) (hmb : b.length ≤ 1000000) (hu : Row .i64 w u a) (hv : Row .i64 w v b) :
  Calls Try.prog 40 #[u, v] w fun e w' => ∃ v', e = .returned v' ∧ Row .i64 w' v' (plusC a b 0) ∧ Below w.heap.size w w' := by
 obtain ⟨i0, hi, hz0, hz1, hz2⟩ := info_parts info_int
 obtain ⟨p, ca, rfl, _, hp⟩ := id hu
 obtain ⟨q, cb, rfl, _, hq⟩ := id hv
 have HU := Lib.hid hu
 have HV := Lib.hid hv
 clear hu hv hp hq
 generalize hla : a.length = la at *
 generalize hlb : b.length = lb at *
 have HLA := Lib.hid hla
 have HLB := Lib.hid hlb
 clear hla hlb
 go_enter Try.func40, Try.ntmps40
 go_wp2
 go_loopw [5, 6, 7] (fun vo vc vi wr => ∃ (i : Nat) (c : Int) (xs : List Int) (po : Option Addr) (co : Nat), vi = .int .i64 i ∧ vc = .int .i64 c ∧ vo = .slice po xs.length co ∧ 0 ≤ c ∧ c ≤ 1 ∧ Hid (PlusRel a b w i c xs (.slice po xs.length co) wr)) (fun _ _ vi _ => la + lb + 2 - (intOf vi).toNat)
 case atStart => exact ⟨0, 0, [], none, 0, rfl, rfl, rfl, by decide, by decide, PlusRel.start a b w⟩
 case round =>
  obtain ⟨i, c, xs, po, co, rfl, rfl, rfl, h0, h1, HR⟩ := hrel
  have hil := HR.out.len ha hb
  rw [HLA.out, HLB.out] at hil
  have hxl : Hid (xs.length = i) := HR.out.2.1
  have C3 : Hid (xs.length + 1 ≤ maxLen) := by have := hxl.out; show _ ≤ _; unfold maxLen; omega
  have C4 : Hid ((xs.length + 1) * 8 ≤ 140737488355328) := by have := hxl.out; show _ ≤ _; omega
  have C5 : Hid (∀ o : Obj, w.heap.size ≤ (wr.alloc o).heap.size) := fun o => by have := HR.out.2.2.2.size; simp; omega
  have hbel := HR.out.2.2.2
  have hx := digs_getD ha i
  have hy := digs_getD hb i
  have hsz := hbel.size
  have HX0 : la ≤ i → a.getD i 0 = 0 := fun h => getD_out (by rw [HLA.out]; exact h)
  have HY0 : lb ≤ i → b.getD i 0 = 0 := fun h => getD_out (by rw [HLB.out]; exact h)
  have cx : i < la → ∃ x o, p = some ⟨x, o, none⟩ ∧ wr.cell? ⟨x, o + i, none⟩ = some (.int .i64 (a.getD i 0)) := fun h => by
   obtain ⟨x, o, e, hc⟩ := HU.out.at i (by rw [HLA.out]; exact h)
   exact ⟨x, o, e, by rw [hbel.cell (p := ⟨x, o + i, none⟩) (World.block_lt_of_cell? w _ hc)]; exact hc⟩
  have cy : i < lb → ∃ x o, q = some ⟨x, o, none⟩ ∧ wr.cell? ⟨x, o + i, none⟩ = some (.int .i64 (b.getD i 0)) := fun h => by
   obtain ⟨x, o, e, hc⟩ := HV.out.at i (by rw [HLB.out]; exact h)
   exact ⟨x, o, e, by rw [hbel.cell (p := ⟨x, o + i, none⟩) (World.block_lt_of_cell? w _ hc)]; exact hc⟩
  have step : ∀ (s : Int) (w1 : World) (v' : Value) (hs : s = c + a.getD i 0 + b.getD i 0) (hin : i < la ∨ i < lb ∨ 0 < c) (o : Obj)
    (hown : w1.ownsRow w.heap.size 3 1 v' (xs.length + 1) (xs.map (Value.int .i64) ++ [.int .i64 (s % 10)])) (hg : (wr.alloc o).grownBy w1 (Value.slice po xs.length co).ownBlock),
    PlusRel a b w (i + 1) (s / 10) (xs ++ [s % 10]) v' w1 := fun s w1 v' hs hin o hown hg => HR.out.step s hs h0 h1 (by rw [HLA.out, HLB.out]; exact hin) o hown hg
  have STEP := Lib.hid step
  have HX := Lib.hid HX0
  have HY := Lib.hid HY0
  have CX := Lib.hid cx
  have CY := Lib.hid cy
  have HBEL := Lib.hid hbel
  clear step HX0 HY0 cx cy hbel
  generalize a.getD i 0 = x at *
  generalize b.getD i 0 = y at *
  by_cases hia : i < la
  ·obtain ⟨bx, ox, rfl, hcx⟩ := CX.out hia
   by_cases hib : i < lb
   ·obtain ⟨by', oy, rfl, hcy⟩ := CY.out hib
    clear CX CY
    go_wp2_with (at_builtin; refine wpList_append_own _ rfl _ _ 65 rfl w.heap.size 3 i0 (.int .i64 0) 1 8 Try.underlying65 hi hz0 hz1 hz2 rfl (by decide) _ _ _ rfl (HR.out.2.2.1.alloc _) ⟨wr.heap.size, 0, none⟩ 1 1 [.int .i64 ((c + x + y) % 10)] rfl rfl (one_new _ _ _) (one_cells _ _) C3.out C4.out (C5.out _) ?_)
    intro v' w1 hown hgrow _
    have hst := STEP.out (c + x + y) w1 v' rfl (.inl hia) _ hown hgrow
    obtain ⟨p', c', rfl⟩ := owned_slice hown
    have HST := Lib.hid hst
    clear hst hown hgrow
    go_wp2
    go_roundw
    case rel => exact ⟨i + 1, (c + x + y) / 10, xs ++ [(c + x + y) % 10], p', c', by go_num, rfl, by simp, by omega, by omega, by show PlusRel _ _ _ _ _ _ _ _; rw [List.length_append]; exact HST.out⟩
    case measure => simp [intOf]; omega
   ·have hy0 := HY.out (by omega)
    subst hy0
    clear CX CY HY
    go_wp2_with (at_builtin; refine wpList_append_own _ rfl _ _ 65 rfl w.heap.size 3 i0 (.int .i64 0) 1 8 Try.underlying65 hi hz0 hz1 hz2 rfl (by decide) _ _ _ rfl (HR.out.2.2.1.alloc _) ⟨wr.heap.size, 0, none⟩ 1 1 [.int .i64 ((c + x) % 10)] rfl rfl (one_new _ _ _) (one_cells _ _) C3.out C4.out (C5.out _) ?_)
    intro v' w1 hown hgrow _
    have hst := STEP.out (c + x) w1 v' (by omega) (.inl hia) _ hown hgrow
    obtain ⟨p', c', rfl⟩ := owned_slice hown
    have HST := Lib.hid hst
    clear hst hown hgrow
    go_wp2
    go_roundw
    case rel => exact ⟨i + 1, (c + x) / 10, xs ++ [(c + x) % 10], p', c', by go_num, rfl, by simp, by omega, by omega, by show PlusRel _ _ _ _ _ _ _ _; rw [List.length_append]; exact HST.out⟩
    case measure => simp [intOf]; omega
  ·have hx0 := HX.out (by omega)
   subst hx0
   by_cases hib : i < lb
   ·obtain ⟨by', oy, rfl, hcy⟩ := CY.out hib
    clear CX CY HX
    go_wp2_with (at_builtin; refine wpList_append_own _ rfl _ _ 65 rfl w.heap.size 3 i0 (.int .i64 0) 1 8 Try.underlying65 hi hz0 hz1 hz2 rfl (by decide) _ _ _ rfl (HR.out.2.2.1.alloc _) ⟨wr.heap.size, 0, none⟩ 1 1 [.int .i64 ((c + y) % 10)] rfl rfl (one_new _ _ _) (one_cells _ _) C3.out C4.out (C5.out _) ?_)
    intro v' w1 hown hgrow _
    have hst := STEP.out (c + y) w1 v' (by omega) (.inr (.inl hib)) _ hown hgrow
    obtain ⟨p', c', rfl⟩ := owned_slice hown
    have HST := Lib.hid hst
    clear hst hown hgrow
    go_wp2
    go_roundw
    case rel => exact ⟨i + 1, (c + y) / 10, xs ++ [(c + y) % 10], p', c', by go_num, rfl, by simp, by omega, by omega, by show PlusRel _ _ _ _ _ _ _ _; rw [List.length_append]; exact HST.out⟩
    case measure => simp [intOf]; omega
   ·have hy0 := HY.out (by omega)
    subst hy0
    by_cases hc : 0 < c
    ·clear CX CY HX HY
     go_wp2_with (at_builtin; refine wpList_append_own _ rfl _ _ 65 rfl w.heap.size 3 i0 (.int .i64 0) 1 8 Try.underlying65 hi hz0 hz1 hz2 rfl (by decide) _ _ _ rfl (HR.out.2.2.1.alloc _) ⟨wr.heap.size, 0, none⟩ 1 1 [.int .i64 ((c) % 10)] rfl rfl (one_new _ _ _) (one_cells _ _) C3.out C4.out (C5.out _) ?_)
     intro v' w1 hown hgrow _
     have hst := STEP.out (c) w1 v' (by omega) (.inr (.inr hc)) _ hown hgrow
     obtain ⟨p', c', rfl⟩ := owned_slice hown
     have HST := Lib.hid hst
     clear hst hown hgrow
     go_wp2
     go_roundw
     case rel => exact ⟨i + 1, (c) / 10, xs ++ [(c) % 10], p', c', by go_num, rfl, by simp, by omega, by omega, by show PlusRel _ _ _ _ _ _ _ _; rw [List.length_append]; exact HST.out⟩
     case measure => simp [intOf]; omega
    ·obtain rfl : c = 0 := by omega
     go_wp2
     go_ret
     have hR := HR.out
     have e : plusC a b 0 = xs := by rw [hR.1, plusC_stop a b i (by rw [HLA.out]; omega) (by rw [HLB.out]; omega), List.append_nil]
     exact ⟨_, rfl, by rw [e]; exact Row.owned hR.2.2.1, hR.2.2.2⟩
end Go.Proofs.Yteogdfpkcoodlaa
namespace Go.Proofs.Yteogdfpkcoodlaa
open Go.RowKit

/-- What the loop of the difference keeps. -/
def MinusRel (a b : List Int) (w : World) (i : Nat) (c : Int) (xs : List Int) (v : Value) (wr : World) : Prop :=
 minusC a b 0 = xs ++ minusC (a.drop i) (b.drop i) c ∧ xs.length = i ∧ wr.ownsRow w.heap.size 3 1 v xs.length (xs.map (Value.int .i64)) ∧ Below w.heap.size w wr
theorem MinusRel.start (a b : List Int) (w : World) : MinusRel a b w 0 0 [] (.slice none 0 0) w := ⟨by simp, rfl, World.ownsRow_nil _ _ _ _, Below.refl _ _⟩
theorem MinusRel.step {a b : List Int} {w wr w1 : World} {i : Nat} {c : Int} {xs : List Int} {v v' : Value} (h : MinusRel a b w i c xs v wr) (s r c' : Int) (hs : s = a.getD i 0 - c - b.getD i 0)
  (hr : r = if s < 0 then s + 10 else s) (hc : c' = if s < 0 then 1 else 0) (hin : i < a.length) (o : Obj)
  (hown : w1.ownsRow w.heap.size 3 1 v' (xs.length + 1) (xs.map (Value.int .i64) ++ [.int .i64 r])) (hg : (wr.alloc o).grownBy w1 v.ownBlock) :
  MinusRel a b w (i + 1) c' (xs ++ [r]) v' w1 := by
 obtain ⟨e1, e2, e3, e4⟩ := h
 have hb := e4.size
 refine ⟨?_, by simp [e2], by simpa using hown, (e4.alloc hb o).grown hg (by simp; omega) (fun k hk => (e3.lt k hk).1)⟩
 rw [e1, minusC_step a b i c hin, ← hs, ← hr, ← hc, List.append_assoc]; rfl

set_option maxHeartbeats 2000000 in
set_option maxRecDepth 100000 in
theorem minus_any (u v : Value) (a b : List Int) (w : World) (ha : IsDigs a) (hb : IsDigs b) (hma : a.length ≤ 1000000) (_hmb : b.length ≤ 1000000) (hu : Row .i64 w u a) (hv : Row .i64 w v b) :
  Calls Try.prog 42 #[u, v] w fun e w' => ∃ v', e = .returned v' ∧ Row .i64 w' v' (trimL (minusC a b 0)) ∧ Below w.heap.size w w' := by
 obtain ⟨i0, hi, hz0, hz1, hz2⟩ := info_parts info_int
 obtain ⟨p, ca, rfl, _, hp⟩ := id hu
 obtain ⟨q, cb, rfl, _, hq⟩ := id hv
 have HU := Lib.hid hu
 have HV := Lib.hid hv
 clear hu hv hp hq
 generalize hla : a.length = la at *
 generalize hlb : b.length = lb at *
 have HLA := Lib.hid hla
 have HLB := Lib.hid hlb
 clear hla hlb
 go_enter Try.func42, Try.ntmps42
 go_wp2
 go_loopw [5, 6, 7] (fun vo vc vi wr => ∃ (i : Nat) (c : Int) (xs : List Int) (po : Option Addr) (co : Nat), i ≤ la ∧ vi = .int .i64 i ∧ vc = .int .i64 c ∧ vo = .slice po xs.length co ∧ 0 ≤ c ∧ c ≤ 1 ∧ Hid (MinusRel a b w i c xs (.slice po xs.length co) wr)) (fun _ _ vi _ => la - (intOf vi).toNat)
 case atStart => exact ⟨0, 0, [], none, 0, Nat.zero_le _, rfl, rfl, rfl, by decide, by decide, MinusRel.start a b w⟩
 case round =>
  obtain ⟨i, c, xs, po, co, hil, rfl, rfl, rfl, h0, h1, HR⟩ := hrel
  have hxl : Hid (xs.length = i) := HR.out.2.1
  have C3 : Hid (xs.length + 1 ≤ maxLen) := by have := hxl.out; show _ ≤ _; unfold maxLen; omega
  have C4 : Hid ((xs.length + 1) * 8 ≤ 140737488355328) := by have := hxl.out; show _ ≤ _; omega
  have C5 : Hid (∀ o : Obj, w.heap.size ≤ (wr.alloc o).heap.size) := fun o => by have := HR.out.2.2.2.size; simp; omega
  have hbel := HR.out.2.2.2
  have hx := digs_getD ha i
  have hy := digs_getD hb i
  have hsz := hbel.size
  have HY0 : lb ≤ i → b.getD i 0 = 0 := fun h => getD_out (by rw [HLB.out]; exact h)
  have cx : i < la → ∃ x o, p = some ⟨x, o, none⟩ ∧ wr.cell? ⟨x, o + i, none⟩ = some (.int .i64 (a.getD i 0)) := fun h => by
   obtain ⟨x, o, e, hc⟩ := HU.out.at i (by rw [HLA.out]; exact h)
   exact ⟨x, o, e, by rw [hbel.cell (p := ⟨x, o + i, none⟩) (World.block_lt_of_cell? w _ hc)]; exact hc⟩
  have cy : i < lb → ∃ x o, q = some ⟨x, o, none⟩ ∧ wr.cell? ⟨x, o + i, none⟩ = some (.int .i64 (b.getD i 0)) := fun h => by
   obtain ⟨x, o, e, hc⟩ := HV.out.at i (by rw [HLB.out]; exact h)
   exact ⟨x, o, e, by rw [hbel.cell (p := ⟨x, o + i, none⟩) (World.block_lt_of_cell? w _ hc)]; exact hc⟩
  have step : ∀ (s r c' : Int) (w1 : World) (v' : Value) (hs : s = a.getD i 0 - c - b.getD i 0) (hr : r = if s < 0 then s + 10 else s) (hc : c' = if s < 0 then 1 else 0) (hin : i < la) (o : Obj)
    (hown : w1.ownsRow w.heap.size 3 1 v' (xs.length + 1) (xs.map (Value.int .i64) ++ [.int .i64 r])) (hg : (wr.alloc o).grownBy w1 (Value.slice po xs.length co).ownBlock),
    MinusRel a b w (i + 1) c' (xs ++ [r]) v' w1 := fun s r c' w1 v' hs hr hc hin o hown hg => HR.out.step s r c' hs hr hc (by rw [HLA.out]; exact hin) o hown hg
  have STEP := Lib.hid step
  have HY := Lib.hid HY0
  have CX := Lib.hid cx
  have CY := Lib.hid cy
  have HBEL := Lib.hid hbel
  clear step HY0 cx cy hbel
  generalize a.getD i 0 = x at *
  generalize b.getD i 0 = y at *
  by_cases hia : i < la
  ·obtain ⟨bx, ox, rfl, hcx⟩ := CX.out hia
   by_cases hib : i < lb
   ·obtain ⟨by', oy, rfl, hcy⟩ := CY.out hib
    clear CX CY HY
    by_cases hs : x - c - y < 0
    ·go_wp2_with (at_builtin; refine wpList_append_own _ rfl _ _ 65 rfl w.heap.size 3 i0 (.int .i64 0) 1 8 Try.underlying65 hi hz0 hz1 hz2 rfl (by decide) _ _ _ rfl (HR.out.2.2.1.alloc _) ⟨wr.heap.size, 0, none⟩ 1 1 [.int .i64 (x - c - y + 10)] rfl rfl (one_new _ _ _) (one_cells _ _) C3.out C4.out (C5.out _) ?_)
     intro v' w1 hown hgrow _
     have hst := STEP.out (x - c - y) (x - c - y + 10) 1 w1 v' rfl (by rw [if_pos hs]) (by rw [if_pos hs]) hia _ hown hgrow
     obtain ⟨p', c', rfl⟩ := owned_slice hown
     have HST := Lib.hid hst
     clear hst hown hgrow
     go_wp2
     go_roundw
     case rel => exact ⟨i + 1, 1, xs ++ [x - c - y + 10], p', c', by omega, by go_num, rfl, by simp, by omega, by omega, by show MinusRel _ _ _ _ _ _ _ _; rw [List.length_append]; exact HST.out⟩
     case measure => simp [intOf]; omega
    ·go_wp2_with (at_builtin; refine wpList_append_own _ rfl _ _ 65 rfl w.heap.size 3 i0 (.int .i64 0) 1 8 Try.underlying65 hi hz0 hz1 hz2 rfl (by decide) _ _ _ rfl (HR.out.2.2.1.alloc _) ⟨wr.heap.size, 0, none⟩ 1 1 [.int .i64 (x - c - y)] rfl rfl (one_new _ _ _) (one_cells _ _) C3.out C4.out (C5.out _) ?_)
     intro v' w1 hown hgrow _
     have hst := STEP.out (x - c - y) (x - c - y) 0 w1 v' rfl (by rw [if_neg (by omega)]) (by rw [if_neg (by omega)]) hia _ hown hgrow
     obtain ⟨p', c', rfl⟩ := owned_slice hown
     have HST := Lib.hid hst
     clear hst hown hgrow
     go_wp2
     go_roundw
     case rel => exact ⟨i + 1, 0, xs ++ [x - c - y], p', c', by omega, by go_num, rfl, by simp, by omega, by omega, by show MinusRel _ _ _ _ _ _ _ _; rw [List.length_append]; exact HST.out⟩
     case measure => simp [intOf]; omega
   ·have hy0 := HY.out (by omega)
    subst hy0
    clear CX CY HY
    by_cases hs : x - c < 0
    ·go_wp2_with (at_builtin; refine wpList_append_own _ rfl _ _ 65 rfl w.heap.size 3 i0 (.int .i64 0) 1 8 Try.underlying65 hi hz0 hz1 hz2 rfl (by decide) _ _ _ rfl (HR.out.2.2.1.alloc _) ⟨wr.heap.size, 0, none⟩ 1 1 [.int .i64 (x - c + 10)] rfl rfl (one_new _ _ _) (one_cells _ _) C3.out C4.out (C5.out _) ?_)
     intro v' w1 hown hgrow _
     have hst := STEP.out (x - c) (x - c + 10) 1 w1 v' (by omega) (by rw [if_pos hs]) (by rw [if_pos hs]) hia _ hown hgrow
     obtain ⟨p', c', rfl⟩ := owned_slice hown
     have HST := Lib.hid hst
     clear hst hown hgrow
     go_wp2
     go_roundw
     case rel => exact ⟨i + 1, 1, xs ++ [x - c + 10], p', c', by omega, by go_num, rfl, by simp, by omega, by omega, by show MinusRel _ _ _ _ _ _ _ _; rw [List.length_append]; exact HST.out⟩
     case measure => simp [intOf]; omega
    ·go_wp2_with (at_builtin; refine wpList_append_own _ rfl _ _ 65 rfl w.heap.size 3 i0 (.int .i64 0) 1 8 Try.underlying65 hi hz0 hz1 hz2 rfl (by decide) _ _ _ rfl (HR.out.2.2.1.alloc _) ⟨wr.heap.size, 0, none⟩ 1 1 [.int .i64 (x - c)] rfl rfl (one_new _ _ _) (one_cells _ _) C3.out C4.out (C5.out _) ?_)
     intro v' w1 hown hgrow _
     have hst := STEP.out (x - c) (x - c) 0 w1 v' (by omega) (by rw [if_neg (by omega)]) (by rw [if_neg (by omega)]) hia _ hown hgrow
     obtain ⟨p', c', rfl⟩ := owned_slice hown
     have HST := Lib.hid hst
     clear hst hown hgrow
     go_wp2
     go_roundw
     case rel => exact ⟨i + 1, 0, xs ++ [x - c], p', c', by omega, by go_num, rfl, by simp, by omega, by omega, by show MinusRel _ _ _ _ _ _ _ _; rw [List.length_append]; exact HST.out⟩
     case measure => simp [intOf]; omega
  ·have hR := HR.out
   have e : minusC a b 0 = xs := by rw [hR.1, minusC_stop a b i c (by rw [HLA.out]; omega), List.append_nil]
   have hrow : Row .i64 wr (.slice po xs.length co) (minusC a b 0) := by rw [e]; exact Row.owned hR.2.2.1
   have hbel := hR.2.2.2
   have hlen : xs.length ≤ 1000000 := by have := hxl.out; omega
   have hlm : (minusC a b 0).length ≤ 1000000 := by rw [e]; exact hlen
   have HBL := Lib.hid hbel
   have HE := Lib.hid e
   clear CX CY HY hR STEP e hbel HR
   go_wp2_with (go_at_call 39; refine (trim_any _ _ _ hlm hrow).mono ?_; rintro e w' ⟨v', rfl, hrow', rfl⟩)
   go_ret
   exact ⟨_, rfl, hrow', HBL.out⟩
end Go.Proofs.Yteogdfpkcoodlaa
namespace Go.Proofs.Yteogdfpkcoodlaa
open Go.RowKit

theorem Row.below {k : IntKind} {w w' : World} {v : Value} {zs : List Int} {B : Nat} (h : Row k w v zs) (hb : Below B w w') (hB : w.heap.size ≤ B) : Row k w' v zs := h.kept (hb.mono hB)

theorem Row.form {k : IntKind} {w : World} {v : Value} {zs : List Int} (h : Row k w v zs) : ∃ p c, v = .slice p zs.length c := by obtain ⟨p, c, e, _⟩ := h; exact ⟨p, c, e⟩

/-- What a cell holds, whatever that is. -/
def peek (w : World) (a : Addr) : Value := (w.cell? a).getD undef
theorem peek_ok {w : World} {a : Addr} {v : Value} (h : w.cell? a = some v) : w.cell? a = some (peek w a) := by unfold peek; rw [h]; rfl
theorem set2_cell {w : World} {b : Nat} {x y : Value} {a : Addr} (h : a.block ≠ b) : ((w.setCell ⟨b, 0, none⟩ x).setCell ⟨b, 1, none⟩ y).cell? a = w.cell? a := by
 rw [World.cell?_of_block (w := w.setCell ⟨b, 0, none⟩ x) (Below.heap_setCell _ _ _ _ h), World.cell?_of_block (w := w) (Below.heap_setCell _ _ _ _ h)]
theorem set2_peek {w : World} {b : Nat} {x y u v : Value} (h0 : w.cell? ⟨b, 0, none⟩ = some u) (h1 : w.cell? ⟨b, 1, none⟩ = some v) :
  ((w.setCell ⟨b, 0, none⟩ x).setCell ⟨b, 1, none⟩ y).cell? ⟨b, 0, none⟩ = some (peek ((w.setCell ⟨b, 0, none⟩ x).setCell ⟨b, 1, none⟩ y) ⟨b, 0, none⟩) ∧
  ((w.setCell ⟨b, 0, none⟩ x).setCell ⟨b, 1, none⟩ y).cell? ⟨b, 1, none⟩ = some (peek ((w.setCell ⟨b, 0, none⟩ x).setCell ⟨b, 1, none⟩ y) ⟨b, 1, none⟩) := by
 constructor
 ·refine peek_ok (v := x) ?_
  rw [World.cell?_setCell_other _ _ _ _ (by simp)]
  exact World.cell?_setCell_same _ _ _ h0
 ·have h2 : (w.setCell ⟨b, 0, none⟩ x).cell? ⟨b, 1, none⟩ = some v := by rw [World.cell?_setCell_other _ _ _ _ (by simp)]; exact h1
  exact peek_ok (World.cell?_setCell_same _ _ _ h2)

/-- A row stays when a cell is written that holds no number of its kind. -/
theorem Row.set {k : IntKind} {w : World} {v : Value} {zs : List Int} (h : Row k w v zs) {a : Addr} {x : Value} (hx : w.cell? a = some x) (hne : ∀ n, x ≠ .int k n) (u : Value) : Row k (w.setCell a u) v zs := by
 obtain ⟨p, c, rfl, hc, h⟩ := h
 refine ⟨p, c, rfl, hc, ?_⟩
 rcases h with h | ⟨b, o, rfl, h⟩
 ·exact .inl h
 ·refine .inr ⟨b, o, rfl, fun i hi => ?_⟩
  have h1 := h i hi
  rw [World.cell?_setCell_other _ _ _ _ (fun e => by
   rw [e, h1] at hx
   exact hne _ (Option.some.inj hx).symm)]
  exact h1

/-- What a region holds while it calls: the two numbers' cells, and a place for the answer. -/
abbrev Held (h : Nat) (m s n t : Value) (w : World) : Prop :=
 w.cell? ⟨h, 0, none⟩ = some m ∧ w.cell? ⟨h, 1, none⟩ = some s ∧ w.cell? ⟨h + 1, 0, none⟩ = some n ∧ w.cell? ⟨h + 1, 1, none⟩ = some t ∧
 w.cell? ⟨h + 1 + 1, 0, none⟩ = some (peek w ⟨h + 1 + 1, 0, none⟩) ∧ w.cell? ⟨h + 1 + 1, 1, none⟩ = some (peek w ⟨h + 1 + 1, 1, none⟩) ∧
 w.frozen? ⟨h + 1 + 1, 0, none⟩ = false ∧ w.frozen? ⟨h + 1 + 1, 1, none⟩ = false
theorem held_call {h : Nat} {m s n t : Value} {w w' : World} (H : Held h m s n t w) (hb : Below w.heap.size w w') : Held h m s n t w' := by
 obtain ⟨h1, h2, h0, h3, h4, h5, h6, h7⟩ := H
 have l := World.block_lt_of_cell? w _ h4
 simp only at l
 refine ⟨?_, ?_, ?_, ?_, ?_, ?_, ?_, ?_⟩
 ·rw [hb.cell (p := ⟨h, 0, none⟩) (by simp; omega)]; exact h1
 ·rw [hb.cell (p := ⟨h, 1, none⟩) (by simp; omega)]; exact h2
 ·rw [hb.cell (p := ⟨h + 1, 0, none⟩) (by simp; omega)]; exact h0
 ·rw [hb.cell (p := ⟨h + 1, 1, none⟩) (by simp; omega)]; exact h3
 ·refine peek_ok (v := peek w ⟨h + 1 + 1, 0, none⟩) ?_; rw [hb.cell (p := ⟨h + 1 + 1, 0, none⟩) (by simp; omega)]; exact h4
 ·refine peek_ok (v := peek w ⟨h + 1 + 1, 1, none⟩) ?_; rw [hb.cell (p := ⟨h + 1 + 1, 1, none⟩) (by simp; omega)]; exact h5
 ·rw [hb.frozen (p := ⟨h + 1 + 1, 0, none⟩) (by simp; omega)]; exact h6
 ·rw [hb.frozen (p := ⟨h + 1 + 1, 1, none⟩) (by simp; omega)]; exact h7
theorem held_set {h : Nat} {m s n t : Value} {w : World} (H : Held h m s n t w) (x y : Value) : Held h m s n t ((w.setCell ⟨h + 1 + 1, 0, none⟩ x).setCell ⟨h + 1 + 1, 1, none⟩ y) := by
 obtain ⟨h1, h2, h0, h3, h4, h5, h6, h7⟩ := H
 exact ⟨by rw [set2_cell (by simp; omega)]; exact h1, by rw [set2_cell (by simp; omega)]; exact h2, by rw [set2_cell (by simp)]; exact h0, by rw [set2_cell (by simp)]; exact h3, (set2_peek h4 h5).1, (set2_peek h4 h5).2, by simpa using h6, by simpa using h7⟩
theorem held_drew {h : Nat} {m s n t : Value} {w : World} (H : Held h m s n t w) : Held h m s n t w.drew := H

set_option maxHeartbeats 2000000 in
theorem bigplus_same (s t : Value) (m n : Bool) (da db : List Int) (w : World) (ha : Norm da) (hb : Norm db) (hla : da.length ≤ 1000) (hlb : db.length ≤ 1000) (hs : Row .i64 w s da) (ht : Row .i64 w t db) (hmm : (m == n) = true) :
  Calls Try.prog 25 #[.agg #[.bool m, s], .agg #[.bool n, t]] w fun e w' => ∃ v, e = .returned (.agg #[.bool m, v]) ∧ Row .i64 w' v (trimL (plusC da db 0)) ∧ Below w.heap.size w w' := by
 have hl : (plusC da db 0).length ≤ 1000000 := by have := (plusC_spec da db 0 ha.1 hb.1 (by decide) (by decide)).2.2; omega
 obtain ⟨p, ca, rfl⟩ := hs.form
 obtain ⟨q, cb, rfl⟩ := ht.form
 have HS := Lib.hid hs
 have HT := Lib.hid ht
 clear hs ht
 go_enter Try.func25, Try.ntmps25
 go_wp2_with fail
 have b0 : Blk (((w.alloc (.cells #[.bool m, .slice p da.length ca] 85)).alloc (.cells #[.bool n, .slice q db.length cb] 85)).alloc (.cells #[.bool false, .slice none 0 0] 85)) w.heap.size _ _ := ((Blk.new w _ _).alloc _).alloc _
 have b1 : Blk (((w.alloc (.cells #[.bool m, .slice p da.length ca] 85)).alloc (.cells #[.bool n, .slice q db.length cb] 85)).alloc (.cells #[.bool false, .slice none 0 0] 85)) (w.heap.size + 1) _ _ := (Blk.new' _ _ _ (by simp)).alloc _
 have b2 : Blk (((w.alloc (.cells #[.bool m, .slice p da.length ca] 85)).alloc (.cells #[.bool n, .slice q db.length cb] 85)).alloc (.cells #[.bool false, .slice none 0 0] 85)) (w.heap.size + 1 + 1) _ _ := Blk.new' _ _ _ (by simp)
 have hbw : Below w.heap.size w (((w.alloc (.cells #[.bool m, .slice p da.length ca] 85)).alloc (.cells #[.bool n, .slice q db.length cb] 85)).alloc (.cells #[.bool false, .slice none 0 0] 85)) := (((Below.refl _ _).alloc (Nat.le_refl _) _).alloc (by simp) _).alloc (by simp; omega) _
 generalize (((w.alloc (.cells #[.bool m, .slice p da.length ca] 85)).alloc (.cells #[.bool n, .slice q db.length cb] 85)).alloc (.cells #[.bool false, .slice none 0 0] 85)) = W at *
 have hsW := b2.lt
 have c00 : W.cell? ⟨w.heap.size, 0, none⟩ = some (.bool m) := b0.cell 0
 have c01 : W.cell? ⟨w.heap.size, 1, none⟩ = some (.slice p da.length ca) := b0.cell 1
 have c10 : W.cell? ⟨w.heap.size + 1, 0, none⟩ = some (.bool n) := b1.cell 0
 have c11 : W.cell? ⟨w.heap.size + 1, 1, none⟩ = some (.slice q db.length cb) := b1.cell 1
 have c20 := peek_ok (show W.cell? ⟨w.heap.size + 1 + 1, 0, none⟩ = some (.bool false) from b2.cell 0)
 have c21 := peek_ok (show W.cell? ⟨w.heap.size + 1 + 1, 1, none⟩ = some (.slice none 0 0) from b2.cell 1)
 have f20 := b2.free 0
 have f21 := b2.free 1
 have RA := Lib.hid (fun (W' : World) (h : Below w.heap.size W W') => HS.out.below (hbw.trans h) (Nat.le_refl _))
 have RB := Lib.hid (fun (W' : World) (h : Below w.heap.size W W') => HT.out.below (hbw.trans h) (Nat.le_refl _))
 have HBW := Lib.hid hbw
 have B2 := Lib.hid b2
 clear b0 b1 b2 hbw HS HT
 go_region_held3 (fun w' => w'.cell? ⟨w.heap.size, 0, none⟩ = some (.bool m) ∧ w'.cell? ⟨w.heap.size, 1, none⟩ = some (.slice p da.length ca) ∧ w'.cell? ⟨w.heap.size + 1, 0, none⟩ = some (.bool n) ∧ w'.cell? ⟨w.heap.size + 1, 1, none⟩ = some (.slice q db.length cb) ∧ w'.cell? ⟨w.heap.size + 1 + 1, 0, none⟩ = some (peek w' ⟨w.heap.size + 1 + 1, 0, none⟩) ∧ w'.cell? ⟨w.heap.size + 1 + 1, 1, none⟩ = some (peek w' ⟨w.heap.size + 1 + 1, 1, none⟩) ∧ w'.frozen? ⟨w.heap.size + 1 + 1, 0, none⟩ = false ∧ w'.frozen? ⟨w.heap.size + 1 + 1, 1, none⟩ = false)
  (first | (refine held_set ?_ _ _; assumption) | (refine held_call ?_ hb1; assumption) | assumption | (refine held_drew ⟨?_, ?_, ?_, ?_, ?_, ?_, ?_, ?_⟩ <;> assumption))
  (first
   | (go_at_call 40; refine (plus_any _ _ da db _ ha.1 hb.1 (by omega) (by omega) (RA.out _ ?_) (RB.out _ ?_)).mono ?_; (exact Below.drew (Below.refl _ _)); (exact Below.drew (Below.refl _ _)); rintro e w1 ⟨v1, rfl, hrow1, hb1⟩; obtain ⟨p1, c1, rfl⟩ := hrow1.form)
   | (go_at_call 39; refine (trim_any _ _ _ hl (hrow1.kept ?_)).mono ?_; (first | exact Below.refl _ _ | exact Below.drew (Below.refl _ _)); rintro e w2 ⟨v2, rfl, hrow2, rfl⟩; obtain ⟨p2, c2, rfl⟩ := hrow2.form))
 go_wp2
 have e3 := B2.out.drew.below hb1 hsW
 have hf := (e3.set 0 (.bool m)).set 1 (.slice p2 (trimL (plusC da db 0)).length c2)
 refine bodyPost_ret (v := .agg #[.bool m, .slice p2 (trimL (plusC da db 0)).length c2]) (by simp [results, Try.results25, go_sem, hf.cell 0, hf.cell 1]) rfl ?_
 have r1 := hrow2.set (e3.cell 0) (by intro n; simp) (.bool m)
 have r2 := r1.set ((e3.set 0 (.bool m)).cell 1) (by intro n; simp) (.slice p2 (trimL (plusC da db 0)).length c2)
 exact ⟨_, rfl, r2, (((HBW.out.drew.trans (hb1.mono (by simp; omega))).setCell (p := ⟨w.heap.size + 1 + 1, 0, none⟩) (by simp; omega) _).setCell (p := ⟨w.heap.size + 1 + 1, 1, none⟩) (by simp; omega) _)⟩

set_option maxHeartbeats 2000000 in
theorem bigplus_less (s t : Value) (m n : Bool) (da db : List Int) (w : World) (ha : Norm da) (hb : Norm db) (hla : da.length ≤ 1000) (hlb : db.length ≤ 1000) (hs : Row .i64 w s da) (ht : Row .i64 w t db) (hmm : (m == n) = false) (hless : lessB (val da) (val db) = true) :
  Calls Try.prog 25 #[.agg #[.bool m, s], .agg #[.bool n, t]] w fun e w' => ∃ v, e = .returned (.agg #[.bool n, v]) ∧ Row .i64 w' v (trimL (minusC db da 0)) ∧ Below w.heap.size w w' := by
 obtain ⟨p, ca, rfl⟩ := hs.form
 obtain ⟨q, cb, rfl⟩ := ht.form
 have HS := Lib.hid hs
 have HT := Lib.hid ht
 clear hs ht
 go_enter Try.func25, Try.ntmps25
 go_wp2_with fail
 have b0 : Blk (((w.alloc (.cells #[.bool m, .slice p da.length ca] 85)).alloc (.cells #[.bool n, .slice q db.length cb] 85)).alloc (.cells #[.bool false, .slice none 0 0] 85)) w.heap.size _ _ := ((Blk.new w _ _).alloc _).alloc _
 have b1 : Blk (((w.alloc (.cells #[.bool m, .slice p da.length ca] 85)).alloc (.cells #[.bool n, .slice q db.length cb] 85)).alloc (.cells #[.bool false, .slice none 0 0] 85)) (w.heap.size + 1) _ _ := (Blk.new' _ _ _ (by simp)).alloc _
 have b2 : Blk (((w.alloc (.cells #[.bool m, .slice p da.length ca] 85)).alloc (.cells #[.bool n, .slice q db.length cb] 85)).alloc (.cells #[.bool false, .slice none 0 0] 85)) (w.heap.size + 1 + 1) _ _ := Blk.new' _ _ _ (by simp)
 have hbw : Below w.heap.size w (((w.alloc (.cells #[.bool m, .slice p da.length ca] 85)).alloc (.cells #[.bool n, .slice q db.length cb] 85)).alloc (.cells #[.bool false, .slice none 0 0] 85)) := (((Below.refl _ _).alloc (Nat.le_refl _) _).alloc (by simp) _).alloc (by simp; omega) _
 generalize (((w.alloc (.cells #[.bool m, .slice p da.length ca] 85)).alloc (.cells #[.bool n, .slice q db.length cb] 85)).alloc (.cells #[.bool false, .slice none 0 0] 85)) = W at *
 have hsW := b2.lt
 have c00 : W.cell? ⟨w.heap.size, 0, none⟩ = some (.bool m) := b0.cell 0
 have c01 : W.cell? ⟨w.heap.size, 1, none⟩ = some (.slice p da.length ca) := b0.cell 1
 have c10 : W.cell? ⟨w.heap.size + 1, 0, none⟩ = some (.bool n) := b1.cell 0
 have c11 : W.cell? ⟨w.heap.size + 1, 1, none⟩ = some (.slice q db.length cb) := b1.cell 1
 have c20 := peek_ok (show W.cell? ⟨w.heap.size + 1 + 1, 0, none⟩ = some (.bool false) from b2.cell 0)
 have c21 := peek_ok (show W.cell? ⟨w.heap.size + 1 + 1, 1, none⟩ = some (.slice none 0 0) from b2.cell 1)
 have f20 := b2.free 0
 have f21 := b2.free 1
 have RA := Lib.hid (fun (W' : World) (h : Below w.heap.size W W') => HS.out.below (hbw.trans h) (Nat.le_refl _))
 have RB := Lib.hid (fun (W' : World) (h : Below w.heap.size W W') => HT.out.below (hbw.trans h) (Nat.le_refl _))
 have HBW := Lib.hid hbw
 have B2 := Lib.hid b2
 clear b0 b1 b2 hbw HS HT
 go_wp2_with (go_at_call 41; refine (less_any _ _ da db _ ha hb (by omega) (by omega) (RA.out _ (Below.refl _ _)) (RB.out _ (Below.refl _ _))).mono ?_; rintro e w0 ⟨rfl, hb0⟩; rw [hless])
 obtain ⟨d00, d01, d10, d11, d20, d21, g20, g21⟩ := held_call ⟨c00, c01, c10, c11, c20, c21, f20, f21⟩ hb0
 have hs0 := hb0.size
 clear c00 c01 c10 c11 c20 c21 f20 f21
 go_region_held3 (fun w' => w'.cell? ⟨w.heap.size, 0, none⟩ = some (.bool m) ∧ w'.cell? ⟨w.heap.size, 1, none⟩ = some (.slice p da.length ca) ∧ w'.cell? ⟨w.heap.size + 1, 0, none⟩ = some (.bool n) ∧ w'.cell? ⟨w.heap.size + 1, 1, none⟩ = some (.slice q db.length cb) ∧ w'.cell? ⟨w.heap.size + 1 + 1, 0, none⟩ = some (peek w' ⟨w.heap.size + 1 + 1, 0, none⟩) ∧ w'.cell? ⟨w.heap.size + 1 + 1, 1, none⟩ = some (peek w' ⟨w.heap.size + 1 + 1, 1, none⟩) ∧ w'.frozen? ⟨w.heap.size + 1 + 1, 0, none⟩ = false ∧ w'.frozen? ⟨w.heap.size + 1 + 1, 1, none⟩ = false)
  (first | (refine held_set ?_ _ _; assumption) | (refine held_call ?_ hb1; assumption) | assumption | (refine held_drew ⟨?_, ?_, ?_, ?_, ?_, ?_, ?_, ?_⟩ <;> assumption))
  (first
   | (go_at_call 42; refine (minus_any _ _ db da _ hb.1 ha.1 (by omega) (by omega) (RB.out _ ?_) (RA.out _ ?_)).mono ?_; (exact (hb0.mono (by omega)).drew); (exact (hb0.mono (by omega)).drew); rintro e w1 ⟨v2, rfl, hrow2, hb1⟩; obtain ⟨p2, c2, rfl⟩ := hrow2.form))
 go_wp2
 have e3 := (B2.out.below hb0 hsW).drew.below hb1 (by simp; omega)
 have hf := (e3.set 0 (.bool n)).set 1 (.slice p2 (trimL (minusC db da 0)).length c2)
 refine bodyPost_ret (v := .agg #[.bool n, .slice p2 (trimL (minusC db da 0)).length c2]) (by simp [results, Try.results25, go_sem, hf.cell 0, hf.cell 1]) rfl ?_
 have r1 := hrow2.set (e3.cell 0) (by intro n; simp) (.bool n)
 have r2 := r1.set ((e3.set 0 (.bool n)).cell 1) (by intro n; simp) (.slice p2 (trimL (minusC db da 0)).length c2)
 exact ⟨_, rfl, r2, ((((HBW.out.trans (hb0.mono (by omega))).drew.trans (hb1.mono (by simp; omega))).setCell (p := ⟨w.heap.size + 1 + 1, 0, none⟩) (by simp; omega) _).setCell (p := ⟨w.heap.size + 1 + 1, 1, none⟩) (by simp; omega) _)⟩

set_option maxHeartbeats 2000000 in
theorem bigplus_more_no (s t : Value) (n : Bool) (da db : List Int) (w : World) (ha : Norm da) (hb : Norm db) (hla : da.length ≤ 1000) (hlb : db.length ≤ 1000) (hs : Row .i64 w s da) (ht : Row .i64 w t db) (hmm : (false == n) = false) (hless : lessB (val da) (val db) = false) :
  Calls Try.prog 25 #[.agg #[.bool false, s], .agg #[.bool n, t]] w fun e w' => ∃ v, e = .returned (.agg #[.bool false, v]) ∧ Row .i64 w' v (trimL (minusC da db 0)) ∧ Below w.heap.size w w' := by
 obtain ⟨p, ca, rfl⟩ := hs.form
 obtain ⟨q, cb, rfl⟩ := ht.form
 have HS := Lib.hid hs
 have HT := Lib.hid ht
 clear hs ht
 go_enter Try.func25, Try.ntmps25
 go_wp2_with fail
 have b0 : Blk (((w.alloc (.cells #[.bool false, .slice p da.length ca] 85)).alloc (.cells #[.bool n, .slice q db.length cb] 85)).alloc (.cells #[.bool false, .slice none 0 0] 85)) w.heap.size _ _ := ((Blk.new w _ _).alloc _).alloc _
 have b1 : Blk (((w.alloc (.cells #[.bool false, .slice p da.length ca] 85)).alloc (.cells #[.bool n, .slice q db.length cb] 85)).alloc (.cells #[.bool false, .slice none 0 0] 85)) (w.heap.size + 1) _ _ := (Blk.new' _ _ _ (by simp)).alloc _
 have b2 : Blk (((w.alloc (.cells #[.bool false, .slice p da.length ca] 85)).alloc (.cells #[.bool n, .slice q db.length cb] 85)).alloc (.cells #[.bool false, .slice none 0 0] 85)) (w.heap.size + 1 + 1) _ _ := Blk.new' _ _ _ (by simp)
 have hbw : Below w.heap.size w (((w.alloc (.cells #[.bool false, .slice p da.length ca] 85)).alloc (.cells #[.bool n, .slice q db.length cb] 85)).alloc (.cells #[.bool false, .slice none 0 0] 85)) := (((Below.refl _ _).alloc (Nat.le_refl _) _).alloc (by simp) _).alloc (by simp; omega) _
 generalize (((w.alloc (.cells #[.bool false, .slice p da.length ca] 85)).alloc (.cells #[.bool n, .slice q db.length cb] 85)).alloc (.cells #[.bool false, .slice none 0 0] 85)) = W at *
 have hsW := b2.lt
 have c00 : W.cell? ⟨w.heap.size, 0, none⟩ = some (.bool false) := b0.cell 0
 have c01 : W.cell? ⟨w.heap.size, 1, none⟩ = some (.slice p da.length ca) := b0.cell 1
 have c10 : W.cell? ⟨w.heap.size + 1, 0, none⟩ = some (.bool n) := b1.cell 0
 have c11 : W.cell? ⟨w.heap.size + 1, 1, none⟩ = some (.slice q db.length cb) := b1.cell 1
 have c20 := peek_ok (show W.cell? ⟨w.heap.size + 1 + 1, 0, none⟩ = some (.bool false) from b2.cell 0)
 have c21 := peek_ok (show W.cell? ⟨w.heap.size + 1 + 1, 1, none⟩ = some (.slice none 0 0) from b2.cell 1)
 have f20 := b2.free 0
 have f21 := b2.free 1
 have RA := Lib.hid (fun (W' : World) (h : Below w.heap.size W W') => HS.out.below (hbw.trans h) (Nat.le_refl _))
 have RB := Lib.hid (fun (W' : World) (h : Below w.heap.size W W') => HT.out.below (hbw.trans h) (Nat.le_refl _))
 have HBW := Lib.hid hbw
 have B2 := Lib.hid b2
 clear b0 b1 b2 hbw HS HT
 clear hmm
 go_wp2_with (first
  | (go_at_call 41; refine (less_any _ _ da db _ ha hb (by omega) (by omega) (RA.out _ (Below.refl _ _)) (RB.out _ (Below.refl _ _))).mono ?_; rintro e w0 ⟨rfl, hb0⟩; rw [hless]; obtain ⟨d00, d01, d10, d11, d20, d21, g20, g21⟩ := held_call ⟨c00, c01, c10, c11, c20, c21, f20, f21⟩ hb0; have hs0 := hb0.size; clear c00 c01 c10 c11 c20 c21 f20 f21)
  | (go_at_call 42; refine (minus_any _ _ da db _ ha.1 hb.1 (by omega) (by omega) (RA.out _ (hb0.mono (by omega))) (RB.out _ (hb0.mono (by omega)))).mono ?_; rintro e w1 ⟨v2, rfl, hrow2, hb1⟩; obtain ⟨p2, c2, rfl⟩ := hrow2.form; obtain ⟨e00, e01, e10, e11, e20, e21, h20, h21⟩ := held_call ⟨d00, d01, d10, d11, d20, d21, g20, g21⟩ hb1; clear d00 d01 d10 d11 d20 d21 g20 g21))
 have e3 := (B2.out.below hb0 hsW).below hb1 (by omega)
 have hf := (e3.set 0 (.bool false)).set 1 (.slice p2 (trimL (minusC da db 0)).length c2)
 refine bodyPost_ret (v := .agg #[.bool false, .slice p2 (trimL (minusC da db 0)).length c2]) (by simp [results, Try.results25, go_sem, hf.cell 0, hf.cell 1]) rfl ?_
 have r1 := hrow2.set (e3.cell 0) (by intro n; simp) (.bool false)
 have r2 := r1.set ((e3.set 0 (.bool false)).cell 1) (by intro n; simp) (.slice p2 (trimL (minusC da db 0)).length c2)
 exact ⟨_, rfl, r2, ((((HBW.out.trans (hb0.mono (by omega))).trans (hb1.mono (by omega))).setCell (p := ⟨w.heap.size + 1 + 1, 0, none⟩) (by simp; omega) _).setCell (p := ⟨w.heap.size + 1 + 1, 1, none⟩) (by simp; omega) _)⟩

set_option maxHeartbeats 2000000 in
theorem bigplus_more_yes (s t : Value) (n : Bool) (da db : List Int) (w : World) (ha : Norm da) (hb : Norm db) (hla : da.length ≤ 1000) (hlb : db.length ≤ 1000) (hs : Row .i64 w s da) (ht : Row .i64 w t db) (hmm : (true == n) = false) (hless : lessB (val da) (val db) = false) (h0 : 0 < (trimL (minusC da db 0)).length) :
  Calls Try.prog 25 #[.agg #[.bool true, s], .agg #[.bool n, t]] w fun e w' => ∃ v, e = .returned (.agg #[.bool true, v]) ∧ Row .i64 w' v (trimL (minusC da db 0)) ∧ Below w.heap.size w w' := by
 obtain ⟨p, ca, rfl⟩ := hs.form
 obtain ⟨q, cb, rfl⟩ := ht.form
 have HS := Lib.hid hs
 have HT := Lib.hid ht
 clear hs ht
 go_enter Try.func25, Try.ntmps25
 go_wp2_with fail
 have b0 : Blk (((w.alloc (.cells #[.bool true, .slice p da.length ca] 85)).alloc (.cells #[.bool n, .slice q db.length cb] 85)).alloc (.cells #[.bool false, .slice none 0 0] 85)) w.heap.size _ _ := ((Blk.new w _ _).alloc _).alloc _
 have b1 : Blk (((w.alloc (.cells #[.bool true, .slice p da.length ca] 85)).alloc (.cells #[.bool n, .slice q db.length cb] 85)).alloc (.cells #[.bool false, .slice none 0 0] 85)) (w.heap.size + 1) _ _ := (Blk.new' _ _ _ (by simp)).alloc _
 have b2 : Blk (((w.alloc (.cells #[.bool true, .slice p da.length ca] 85)).alloc (.cells #[.bool n, .slice q db.length cb] 85)).alloc (.cells #[.bool false, .slice none 0 0] 85)) (w.heap.size + 1 + 1) _ _ := Blk.new' _ _ _ (by simp)
 have hbw : Below w.heap.size w (((w.alloc (.cells #[.bool true, .slice p da.length ca] 85)).alloc (.cells #[.bool n, .slice q db.length cb] 85)).alloc (.cells #[.bool false, .slice none 0 0] 85)) := (((Below.refl _ _).alloc (Nat.le_refl _) _).alloc (by simp) _).alloc (by simp; omega) _
 generalize (((w.alloc (.cells #[.bool true, .slice p da.length ca] 85)).alloc (.cells #[.bool n, .slice q db.length cb] 85)).alloc (.cells #[.bool false, .slice none 0 0] 85)) = W at *
 have hsW := b2.lt
 have c00 : W.cell? ⟨w.heap.size, 0, none⟩ = some (.bool true) := b0.cell 0
 have c01 : W.cell? ⟨w.heap.size, 1, none⟩ = some (.slice p da.length ca) := b0.cell 1
 have c10 : W.cell? ⟨w.heap.size + 1, 0, none⟩ = some (.bool n) := b1.cell 0
 have c11 : W.cell? ⟨w.heap.size + 1, 1, none⟩ = some (.slice q db.length cb) := b1.cell 1
 have c20 := peek_ok (show W.cell? ⟨w.heap.size + 1 + 1, 0, none⟩ = some (.bool false) from b2.cell 0)
 have c21 := peek_ok (show W.cell? ⟨w.heap.size + 1 + 1, 1, none⟩ = some (.slice none 0 0) from b2.cell 1)
 have f20 := b2.free 0
 have f21 := b2.free 1
 have RA := Lib.hid (fun (W' : World) (h : Below w.heap.size W W') => HS.out.below (hbw.trans h) (Nat.le_refl _))
 have RB := Lib.hid (fun (W' : World) (h : Below w.heap.size W W') => HT.out.below (hbw.trans h) (Nat.le_refl _))
 have HBW := Lib.hid hbw
 have B2 := Lib.hid b2
 clear b0 b1 b2 hbw HS HT
 clear hmm
 go_wp2_with (first
  | (go_at_call 41; refine (less_any _ _ da db _ ha hb (by omega) (by omega) (RA.out _ (Below.refl _ _)) (RB.out _ (Below.refl _ _))).mono ?_; rintro e w0 ⟨rfl, hb0⟩; rw [hless]; obtain ⟨d00, d01, d10, d11, d20, d21, g20, g21⟩ := held_call ⟨c00, c01, c10, c11, c20, c21, f20, f21⟩ hb0; have hs0 := hb0.size; clear c00 c01 c10 c11 c20 c21 f20 f21)
  | (go_at_call 42; refine (minus_any _ _ da db _ ha.1 hb.1 (by omega) (by omega) (RA.out _ (hb0.mono (by omega))) (RB.out _ (hb0.mono (by omega)))).mono ?_; rintro e w1 ⟨v2, rfl, hrow2, hb1⟩; obtain ⟨p2, c2, rfl⟩ := hrow2.form; obtain ⟨e00, e01, e10, e11, e20, e21, h20, h21⟩ := held_call ⟨d00, d01, d10, d11, d20, d21, g20, g21⟩ hb1; clear d00 d01 d10 d11 d20 d21 g20 g21))
 have e3 := (B2.out.below hb0 hsW).below hb1 (by omega)
 have hf := (e3.set 0 (.bool true)).set 1 (.slice p2 (trimL (minusC da db 0)).length c2)
 refine bodyPost_ret (v := .agg #[.bool true, .slice p2 (trimL (minusC da db 0)).length c2]) (by simp [results, Try.results25, go_sem, hf.cell 0, hf.cell 1]) rfl ?_
 have r1 := hrow2.set (e3.cell 0) (by intro n; simp) (.bool true)
 have r2 := r1.set ((e3.set 0 (.bool true)).cell 1) (by intro n; simp) (.slice p2 (trimL (minusC da db 0)).length c2)
 exact ⟨_, rfl, r2, ((((HBW.out.trans (hb0.mono (by omega))).trans (hb1.mono (by omega))).setCell (p := ⟨w.heap.size + 1 + 1, 0, none⟩) (by simp; omega) _).setCell (p := ⟨w.heap.size + 1 + 1, 1, none⟩) (by simp; omega) _)⟩

set_option maxHeartbeats 2000000 in
theorem bigplus_more_nil (s t : Value) (n : Bool) (da db : List Int) (w : World) (ha : Norm da) (hb : Norm db) (hla : da.length ≤ 1000) (hlb : db.length ≤ 1000) (hs : Row .i64 w s da) (ht : Row .i64 w t db) (hmm : (true == n) = false) (hless : lessB (val da) (val db) = false) (h0 : decide (0 < (trimL (minusC da db 0)).length) = false) :
  Calls Try.prog 25 #[.agg #[.bool true, s], .agg #[.bool n, t]] w fun e w' => ∃ v, e = .returned (.agg #[.bool false, v]) ∧ Row .i64 w' v (trimL (minusC da db 0)) ∧ Below w.heap.size w w' := by
 obtain ⟨p, ca, rfl⟩ := hs.form
 obtain ⟨q, cb, rfl⟩ := ht.form
 have HS := Lib.hid hs
 have HT := Lib.hid ht
 clear hs ht
 go_enter Try.func25, Try.ntmps25
 go_wp2_with fail
 have b0 : Blk (((w.alloc (.cells #[.bool true, .slice p da.length ca] 85)).alloc (.cells #[.bool n, .slice q db.length cb] 85)).alloc (.cells #[.bool false, .slice none 0 0] 85)) w.heap.size _ _ := ((Blk.new w _ _).alloc _).alloc _
 have b1 : Blk (((w.alloc (.cells #[.bool true, .slice p da.length ca] 85)).alloc (.cells #[.bool n, .slice q db.length cb] 85)).alloc (.cells #[.bool false, .slice none 0 0] 85)) (w.heap.size + 1) _ _ := (Blk.new' _ _ _ (by simp)).alloc _
 have b2 : Blk (((w.alloc (.cells #[.bool true, .slice p da.length ca] 85)).alloc (.cells #[.bool n, .slice q db.length cb] 85)).alloc (.cells #[.bool false, .slice none 0 0] 85)) (w.heap.size + 1 + 1) _ _ := Blk.new' _ _ _ (by simp)
 have hbw : Below w.heap.size w (((w.alloc (.cells #[.bool true, .slice p da.length ca] 85)).alloc (.cells #[.bool n, .slice q db.length cb] 85)).alloc (.cells #[.bool false, .slice none 0 0] 85)) := (((Below.refl _ _).alloc (Nat.le_refl _) _).alloc (by simp) _).alloc (by simp; omega) _
 generalize (((w.alloc (.cells #[.bool true, .slice p da.length ca] 85)).alloc (.cells #[.bool n, .slice q db.length cb] 85)).alloc (.cells #[.bool false, .slice none 0 0] 85)) = W at *
 have hsW := b2.lt
 have c00 : W.cell? ⟨w.heap.size, 0, none⟩ = some (.bool true) := b0.cell 0
 have c01 : W.cell? ⟨w.heap.size, 1, none⟩ = some (.slice p da.length ca) := b0.cell 1
 have c10 : W.cell? ⟨w.heap.size + 1, 0, none⟩ = some (.bool n) := b1.cell 0
 have c11 : W.cell? ⟨w.heap.size + 1, 1, none⟩ = some (.slice q db.length cb) := b1.cell 1
 have c20 := peek_ok (show W.cell? ⟨w.heap.size + 1 + 1, 0, none⟩ = some (.bool false) from b2.cell 0)
 have c21 := peek_ok (show W.cell? ⟨w.heap.size + 1 + 1, 1, none⟩ = some (.slice none 0 0) from b2.cell 1)
 have f20 := b2.free 0
 have f21 := b2.free 1
 have RA := Lib.hid (fun (W' : World) (h : Below w.heap.size W W') => HS.out.below (hbw.trans h) (Nat.le_refl _))
 have RB := Lib.hid (fun (W' : World) (h : Below w.heap.size W W') => HT.out.below (hbw.trans h) (Nat.le_refl _))
 have HBW := Lib.hid hbw
 have B2 := Lib.hid b2
 clear b0 b1 b2 hbw HS HT
 clear hmm
 go_wp2_with (first
  | (go_at_call 41; refine (less_any _ _ da db _ ha hb (by omega) (by omega) (RA.out _ (Below.refl _ _)) (RB.out _ (Below.refl _ _))).mono ?_; rintro e w0 ⟨rfl, hb0⟩; rw [hless]; obtain ⟨d00, d01, d10, d11, d20, d21, g20, g21⟩ := held_call ⟨c00, c01, c10, c11, c20, c21, f20, f21⟩ hb0; have hs0 := hb0.size; clear c00 c01 c10 c11 c20 c21 f20 f21)
  | (go_at_call 42; refine (minus_any _ _ da db _ ha.1 hb.1 (by omega) (by omega) (RA.out _ (hb0.mono (by omega))) (RB.out _ (hb0.mono (by omega)))).mono ?_; rintro e w1 ⟨v2, rfl, hrow2, hb1⟩; obtain ⟨p2, c2, rfl⟩ := hrow2.form; obtain ⟨e00, e01, e10, e11, e20, e21, h20, h21⟩ := held_call ⟨d00, d01, d10, d11, d20, d21, g20, g21⟩ hb1; clear d00 d01 d10 d11 d20 d21 g20 g21))
 have e3 := (B2.out.below hb0 hsW).below hb1 (by omega)
 have hf := (e3.set 0 (.bool false)).set 1 (.slice p2 (trimL (minusC da db 0)).length c2)
 refine bodyPost_ret (v := .agg #[.bool false, .slice p2 (trimL (minusC da db 0)).length c2]) (by simp [results, Try.results25, go_sem, hf.cell 0, hf.cell 1]) rfl ?_
 have r1 := hrow2.set (e3.cell 0) (by intro n; simp) (.bool false)
 have r2 := r1.set ((e3.set 0 (.bool false)).cell 1) (by intro n; simp) (.slice p2 (trimL (minusC da db 0)).length c2)
 exact ⟨_, rfl, r2, ((((HBW.out.trans (hb0.mono (by omega))).trans (hb1.mono (by omega))).setCell (p := ⟨w.heap.size + 1 + 1, 0, none⟩) (by simp; omega) _).setCell (p := ⟨w.heap.size + 1 + 1, 1, none⟩) (by simp; omega) _)⟩

/-- Of at most forty digits. -/
def Small (x : Int) : Prop := x.natAbs < 10 ^ 40
theorem Small.len {x : Int} (h : Small x) : (digs x.natAbs).length ≤ 1000 := Nat.le_trans (digs_length _ 40 h) (by decide)
theorem digs_plus {x y : Int} (h : decide (x < 0) = decide (y < 0)) : trimL (plusC (digs x.natAbs) (digs y.natAbs) 0) = digs (x + y).natAbs ∧ decide (x < 0) = decide (x + y < 0) := by
 obtain ⟨s1, s2, _⟩ := plusC_spec (digs x.natAbs) (digs y.natAbs) 0 (digs_isDigs _) (digs_isDigs _) (by decide) (by decide)
 obtain ⟨t1, t2, _⟩ := trimL_spec _ _ rfl s1
 rw [decide_eq_decide] at h
 refine ⟨?_, by rw [decide_eq_decide]; omega⟩
 rw [norm_digs t1, t2, s2, val_digs, val_digs]
 congr 1; omega
theorem digs_minus {x y : Int} (hle : y.natAbs ≤ x.natAbs) : trimL (minusC (digs x.natAbs) (digs y.natAbs) 0) = digs (x.natAbs - y.natAbs) := by
 obtain ⟨s1, s2⟩ := minusC_spec (digs x.natAbs) (digs y.natAbs) 0 (digs_isDigs _) (digs_isDigs _) (by decide) (by decide) (by rw [val_digs, val_digs]; omega)
 obtain ⟨t1, t2, _⟩ := trimL_spec _ _ rfl s1
 rw [norm_digs t1, t2, s2, val_digs, val_digs]
 congr 1; omega

/-- The contract: two numbers together. -/
theorem bigplus_any (u v : Value) (x y : Int) (w : World) (hx : Small x) (hy : Small y) (hu : IsBig w u x) (hv : IsBig w v y) :
  Calls Try.prog 25 #[u, v] w fun e w' => ∃ r, e = .returned r ∧ IsBig w' r (x + y) ∧ Below w.heap.size w w' := by
 obtain ⟨s, rfl, hs⟩ := hu
 obtain ⟨t, rfl, ht⟩ := hv
 by_cases hsg : decide (x < 0) = decide (y < 0)
 ·refine (bigplus_same s t _ _ _ _ w (digs_norm _) (digs_norm _) hx.len hy.len hs ht (by rw [hsg]; simp)).mono ?_
  rintro e w' ⟨r, rfl, hr, hb⟩
  obtain ⟨e1, e2⟩ := digs_plus hsg
  exact ⟨_, rfl, ⟨r, by rw [e2], by rw [← e1]; exact hr⟩, hb⟩
 ·have hmn : (decide (x < 0) == decide (y < 0)) = false := by rw [beq_eq_false_iff_ne]; exact hsg
  have hne : ¬ (x < 0 ↔ y < 0) := fun h => hsg (by rw [decide_eq_decide]; exact h)
  by_cases hl : x.natAbs < y.natAbs
  ·have hless : lessB (val (digs x.natAbs)) (val (digs y.natAbs)) = true := by unfold lessB; rw [val_digs, val_digs, decide_eq_true_eq]; omega
   refine (bigplus_less s t _ _ _ _ w (digs_norm _) (digs_norm _) hx.len hy.len hs ht hmn hless).mono ?_
   rintro e w' ⟨r, rfl, hr, hb⟩
   rw [digs_minus (by omega)] at hr
   refine ⟨_, rfl, ⟨r, ?_, ?_⟩, hb⟩
   ·rw [show decide (y < 0) = decide (x + y < 0) by rw [decide_eq_decide]; omega]
   ·rw [show (x + y).natAbs = y.natAbs - x.natAbs by omega]; exact hr
  ·have hless : lessB (val (digs x.natAbs)) (val (digs y.natAbs)) = false := by unfold lessB; rw [val_digs, val_digs, decide_eq_false_iff_not]; omega
   have hd := digs_minus (x := x) (y := y) (by omega)
   have ea : (x + y).natAbs = x.natAbs - y.natAbs := by omega
   by_cases hx0 : x < 0
   ·have hmn' : (true == decide (y < 0)) = false := by rw [← hmn]; simp [hx0]
    by_cases h0 : 0 < (trimL (minusC (digs x.natAbs) (digs y.natAbs) 0)).length
    ·have hpos : x.natAbs - y.natAbs ≠ 0 := fun e => by rw [hd, e, digs_zero] at h0; simp at h0
     rw [show decide (x < 0) = true by simpa using hx0]
     refine (bigplus_more_yes s t _ _ _ w (digs_norm _) (digs_norm _) hx.len hy.len hs ht hmn' hless h0).mono ?_
     rintro e w' ⟨r, rfl, hr, hb⟩
     rw [hd] at hr
     refine ⟨_, rfl, ⟨r, ?_, by rw [ea]; exact hr⟩, hb⟩
     rw [show decide (x + y < 0) = true by rw [decide_eq_true_eq]; omega]
    ·have hz : x.natAbs - y.natAbs = 0 := by
      rw [hd] at h0
      exact digs_nil.1 (List.length_eq_zero_iff.1 (by omega))
     rw [show decide (x < 0) = true by simpa using hx0]
     refine (bigplus_more_nil s t _ _ _ w (digs_norm _) (digs_norm _) hx.len hy.len hs ht hmn' hless (by simpa using h0)).mono ?_
     rintro e w' ⟨r, rfl, hr, hb⟩
     rw [hd] at hr
     refine ⟨_, rfl, ⟨r, ?_, by rw [ea]; exact hr⟩, hb⟩
     rw [show decide (x + y < 0) = false by rw [decide_eq_false_iff_not]; omega]
   ·have hmn' : (false == decide (y < 0)) = false := by simp [show y < 0 by omega]
    rw [show decide (x < 0) = false by simpa using hx0]
    refine (bigplus_more_no s t _ _ _ w (digs_norm _) (digs_norm _) hx.len hy.len hs ht hmn' hless).mono ?_
    rintro e w' ⟨r, rfl, hr, hb⟩
    rw [hd] at hr
    refine ⟨_, rfl, ⟨r, ?_, by rw [ea]; exact hr⟩, hb⟩
    rw [show decide (x + y < 0) = false by rw [decide_eq_false_iff_not]; omega]
end Go.Proofs.Yteogdfpkcoodlaa
namespace Go.Proofs.Yteogdfpkcoodlaa
open Go.RowKit

def mostP : List Int := [7, 0, 8, 5, 7, 7, 4, 5, 8, 6, 3, 0, 2, 7, 3, 3, 2, 2, 9]
def mostM : List Int := [8, 0, 8, 5, 7, 7, 4, 5, 8, 6, 3, 0, 2, 7, 3, 3, 2, 2, 9]
theorem mostP_norm : Norm mostP := by unfold Norm IsDigs mostP; decide
theorem mostM_norm : Norm mostM := by unfold Norm IsDigs mostM; decide
theorem mostP_val : val mostP = 9223372036854775807 := by decide
theorem mostM_val : val mostM = 9223372036854775808 := by decide

/-- A row of its own, all cells known. -/
theorem Row.lit (w : World) (T : TypeId) (zs : List Int) (n : Nat) (hn : n = zs.length) {b : Nat} (hb : b = w.heap.size) (cs : Array Value) (hcs : cs = (zs.map (Value.int .i64)).toArray) :
  Row .i64 (w.alloc (.cells cs T)) (.slice (some ⟨b, 0, none⟩) n n) zs := by
 subst hn hb hcs
 refine ⟨_, _, rfl, Nat.le_refl _, .inr ⟨_, _, rfl, fun i hi => ?_⟩⟩
 rw [World.cell?_alloc_at _ _ _ _ rfl, List.getD_eq_getElem?_getD, List.getElem?_eq_getElem hi]
 simp [hi]

theorem val_drop {l : List Int} (h : IsDigs l) (k : Nat) : 0 ≤ val (l.drop k) ∧ val (l.drop k) ≤ val l := by
 induction k generalizing l with
 | zero => exact ⟨val_nonneg h, Int.le_refl _⟩
 | succ k ih =>
  cases l with
  | nil => simp [val]
  | cons d t =>
   obtain ⟨h1, h2⟩ := h.cons
   obtain ⟨a, b⟩ := ih h2
   have := val_nonneg h2
   rw [List.drop_succ_cons]
   simp only [val]; omega
theorem val_drop_step {l : List Int} (m : Nat) (h : m < l.length) : val (l.drop m) = l.getD m 0 + 10 * val (l.drop (m + 1)) := by
 rcases drop_cases l m with ⟨_, e⟩ | ⟨e, _⟩
 ·rw [e, val]
 ·omega
theorem ret_two {a b : Int} {c d : Bool} (h : a = b) (h' : c = d) : Ending.returned (.tuple #[.int .i64 a, .bool c]) = .returned (.tuple #[.int .i64 b, .bool d]) := by rw [h, h']
/-- Do they fit, as a number, with this sign? -/
def fitsB (x : Int) : Bool := decide (Fits x)

set_option maxHeartbeats 2000000 in
set_option maxRecDepth 100000 in
theorem fits_pos (s : Value) (da : List Int) (w : World) (ha : Norm da) (hla : da.length ≤ 1000) (hs : Row .i64 w s da) :
  Calls Try.prog 27 #[.agg #[.bool false, s]] w fun e w' => e = .returned (.tuple #[.int .i64 (sumN (val da)), .bool (fitsB (val da))]) ∧ Below w.heap.size w w' := by
 obtain ⟨p, ca, rfl⟩ := hs.form
 have hv0 := val_nonneg ha.1
 go_enter Try.func27, Try.ntmps27
 go_wp2_with fail
 have b0 : Blk ((w.alloc (.cells #[.bool false, .slice p da.length ca] 85)).alloc (.cells #[.int .i64 7, .int .i64 0, .int .i64 8, .int .i64 5, .int .i64 7, .int .i64 7, .int .i64 4, .int .i64 5, .int .i64 8, .int .i64 6, .int .i64 3, .int .i64 0, .int .i64 2, .int .i64 7, .int .i64 3, .int .i64 3, .int .i64 2, .int .i64 2, .int .i64 9] 3)) w.heap.size _ _ := (Blk.new w _ _).alloc _
 have hbw : Below w.heap.size w ((w.alloc (.cells #[.bool false, .slice p da.length ca] 85)).alloc (.cells #[.int .i64 7, .int .i64 0, .int .i64 8, .int .i64 5, .int .i64 7, .int .i64 7, .int .i64 4, .int .i64 5, .int .i64 8, .int .i64 6, .int .i64 3, .int .i64 0, .int .i64 2, .int .i64 7, .int .i64 3, .int .i64 3, .int .i64 2, .int .i64 2, .int .i64 9] 3)) := ((Below.refl _ _).alloc (Nat.le_refl _) _).alloc (by simp) _
 have hrm : Row .i64 ((w.alloc (.cells #[.bool false, .slice p da.length ca] 85)).alloc (.cells #[.int .i64 7, .int .i64 0, .int .i64 8, .int .i64 5, .int .i64 7, .int .i64 7, .int .i64 4, .int .i64 5, .int .i64 8, .int .i64 6, .int .i64 3, .int .i64 0, .int .i64 2, .int .i64 7, .int .i64 3, .int .i64 3, .int .i64 2, .int .i64 2, .int .i64 9] 3)) (.slice (some ⟨w.heap.size + 1, 0, none⟩) 19 19) mostP := Row.lit _ _ mostP 19 rfl (by simp) _ rfl
 generalize ((w.alloc (.cells #[.bool false, .slice p da.length ca] 85)).alloc (.cells #[.int .i64 7, .int .i64 0, .int .i64 8, .int .i64 5, .int .i64 7, .int .i64 7, .int .i64 4, .int .i64 5, .int .i64 8, .int .i64 6, .int .i64 3, .int .i64 0, .int .i64 2, .int .i64 7, .int .i64 3, .int .i64 3, .int .i64 2, .int .i64 2, .int .i64 9] 3)) = W at *
 have HR := Lib.hid (fun (W' : World) (h : Below w.heap.size W W') => hs.below (hbw.trans h) (Nat.le_refl _))
 have hless := less_any _ _ mostP da W mostP_norm ha (by decide) (by omega) hrm (HR.out W (Below.refl _ _))
 rw [mostP_val] at hless
 have HBW := Lib.hid hbw
 have B0 := Lib.hid b0
 have hsz := b0.lt
 clear hs hbw b0 hrm
 by_cases hf : val da ≤ 9223372036854775807
 ·have hl : lessB 9223372036854775807 (val da) = false := by unfold lessB; rw [decide_eq_false_iff_not]; omega
  have hfit : Fits (val da) := by unfold Fits; omega
  have h1 : Hid (sumN (val da) = val da) := sumN_yes hfit
  have h2 : Hid (fitsB (val da) = true) := by show _ = _; unfold fitsB; simpa using hfit
  rw [hl] at hless
  clear hfit hl
  refine hless.mono ?_
  rintro e w1 ⟨rfl, hb1⟩
  have B1 := B0.out.below hb1 hsz
  have c0 : w1.cell? ⟨w.heap.size, 0, none⟩ = some (.bool false) := B1.cell 0
  have c1 : w1.cell? ⟨w.heap.size, 1, none⟩ = some (.slice p da.length ca) := B1.cell 1
  have R1 := Lib.hid (HR.out w1 (hb1.mono (by omega)))
  have HB := Lib.hid (HBW.out.trans (hb1.mono (by omega)))
  clear hless B1 hb1 HR HBW B0
  go_wp2
  go_loop [5, 6] (fun vn vi => ∃ j V : Int, -1 ≤ j ∧ j < (da.length : Int) ∧ vi = .int .i64 j ∧ vn = .int .i64 (V) ∧ Hid (V = val (da.drop (j + 1).toNat))) (fun _ vi => (intOf vi + 1).toNat)
  case atStart =>
   refine ⟨(da.length : Int) - 1, 0, by omega, by omega, rfl, rfl, ?_⟩
   show _ = _
   rw [List.drop_eq_nil_iff.2 (by omega)]; rfl
  case round =>
   obtain ⟨j, V, hj0, hj1, rfl, rfl, hV⟩ := hrel
   by_cases h0 : j < 0
   ·obtain rfl : j = -1 := by omega
    have hV' : Hid (V = val da) := by have := hV.out; simp at this; exact this
    clear hV
    go_wp2
    go_ret2
    exact ⟨ret_two (by rw [h1.out, hV'.out]) (by rw [h2.out]), HB.out⟩
   ·obtain ⟨k, rfl⟩ : ∃ k : Nat, j = k := ⟨j.toNat, by omega⟩
    have hV' : V = val (da.drop (k + 1)) := by have := hV.out; rw [show ((k : Int) + 1).toNat = k + 1 by omega] at this; exact this
    clear hV
    obtain ⟨b, o, rfl, hc⟩ := R1.out.at k (by omega)
    have hst := val_drop_step (l := da) k (by omega)
    rw [← hV'] at hst
    have hbd := val_drop ha.1 k
    have hbv := (val_drop ha.1 (k + 1)).1
    rw [← hV'] at hbv
    rw [hst] at hbd
    have hdg := digs_getD ha.1 k
    have HST := Lib.hid hst
    generalize da.getD k 0 = d at *
    have hm0 : 0 ≤ d + 10 * V := hbd.1
    have hm1 : d + 10 * V ≤ 9223372036854775807 := Int.le_trans hbd.2 hf
    clear hst hbd hV'
    go_wp2
    go_round
    case rel => exact ⟨(k : Int) - 1, d + 10 * V, by omega, by omega, rfl, by first | rfl | (congr 1; omega), by show _ = _; rw [show ((k : Int) - 1 + 1).toNat = k by omega]; exact HST.out.symm⟩
    case measure => simp [intOf]
 ·have hl : lessB 9223372036854775807 (val da) = true := by unfold lessB; rw [decide_eq_true_eq]; omega
  have hfit : ¬ Fits (val da) := by unfold Fits; omega
  have h1 : Hid (sumN (val da) = 0) := sumN_no hfit
  have h2 : Hid (fitsB (val da) = false) := by show _ = _; unfold fitsB; simpa using hfit
  rw [hl] at hless
  clear hfit hl hf
  refine hless.mono ?_
  rintro e w1 ⟨rfl, hb1⟩
  have HB := Lib.hid (HBW.out.trans (hb1.mono (by omega)))
  clear hless hb1
  go_wp2
  go_ret2
  exact ⟨ret_two (by rw [h1.out]) (by rw [h2.out]), HB.out⟩

set_option maxHeartbeats 2000000 in
set_option maxRecDepth 100000 in
theorem fits_neg (s : Value) (da : List Int) (w : World) (ha : Norm da) (hla : da.length ≤ 1000) (hs : Row .i64 w s da) :
  Calls Try.prog 27 #[.agg #[.bool true, s]] w fun e w' => e = .returned (.tuple #[.int .i64 (sumN (-val da)), .bool (fitsB (-val da))]) ∧ Below w.heap.size w w' := by
 obtain ⟨p, ca, rfl⟩ := hs.form
 have hv0 := val_nonneg ha.1
 go_enter Try.func27, Try.ntmps27
 go_wp2_with fail
 have b0 : Blk (((w.alloc (.cells #[.bool true, .slice p da.length ca] 85)).alloc (.cells #[.int .i64 7, .int .i64 0, .int .i64 8, .int .i64 5, .int .i64 7, .int .i64 7, .int .i64 4, .int .i64 5, .int .i64 8, .int .i64 6, .int .i64 3, .int .i64 0, .int .i64 2, .int .i64 7, .int .i64 3, .int .i64 3, .int .i64 2, .int .i64 2, .int .i64 9] 3)).alloc (.cells #[.int .i64 8, .int .i64 0, .int .i64 8, .int .i64 5, .int .i64 7, .int .i64 7, .int .i64 4, .int .i64 5, .int .i64 8, .int .i64 6, .int .i64 3, .int .i64 0, .int .i64 2, .int .i64 7, .int .i64 3, .int .i64 3, .int .i64 2, .int .i64 2, .int .i64 9] 3)) w.heap.size _ _ := ((Blk.new w _ _).alloc _).alloc _
 have hbw : Below w.heap.size w (((w.alloc (.cells #[.bool true, .slice p da.length ca] 85)).alloc (.cells #[.int .i64 7, .int .i64 0, .int .i64 8, .int .i64 5, .int .i64 7, .int .i64 7, .int .i64 4, .int .i64 5, .int .i64 8, .int .i64 6, .int .i64 3, .int .i64 0, .int .i64 2, .int .i64 7, .int .i64 3, .int .i64 3, .int .i64 2, .int .i64 2, .int .i64 9] 3)).alloc (.cells #[.int .i64 8, .int .i64 0, .int .i64 8, .int .i64 5, .int .i64 7, .int .i64 7, .int .i64 4, .int .i64 5, .int .i64 8, .int .i64 6, .int .i64 3, .int .i64 0, .int .i64 2, .int .i64 7, .int .i64 3, .int .i64 3, .int .i64 2, .int .i64 2, .int .i64 9] 3)) := (((Below.refl _ _).alloc (Nat.le_refl _) _).alloc (by simp) _).alloc (by simp; omega) _
 have hrm : Row .i64 (((w.alloc (.cells #[.bool true, .slice p da.length ca] 85)).alloc (.cells #[.int .i64 7, .int .i64 0, .int .i64 8, .int .i64 5, .int .i64 7, .int .i64 7, .int .i64 4, .int .i64 5, .int .i64 8, .int .i64 6, .int .i64 3, .int .i64 0, .int .i64 2, .int .i64 7, .int .i64 3, .int .i64 3, .int .i64 2, .int .i64 2, .int .i64 9] 3)).alloc (.cells #[.int .i64 8, .int .i64 0, .int .i64 8, .int .i64 5, .int .i64 7, .int .i64 7, .int .i64 4, .int .i64 5, .int .i64 8, .int .i64 6, .int .i64 3, .int .i64 0, .int .i64 2, .int .i64 7, .int .i64 3, .int .i64 3, .int .i64 2, .int .i64 2, .int .i64 9] 3)) (.slice (some ⟨w.heap.size + 1 + 1, 0, none⟩) 19 19) mostM := Row.lit _ _ mostM 19 rfl (by simp) _ rfl
 generalize (((w.alloc (.cells #[.bool true, .slice p da.length ca] 85)).alloc (.cells #[.int .i64 7, .int .i64 0, .int .i64 8, .int .i64 5, .int .i64 7, .int .i64 7, .int .i64 4, .int .i64 5, .int .i64 8, .int .i64 6, .int .i64 3, .int .i64 0, .int .i64 2, .int .i64 7, .int .i64 3, .int .i64 3, .int .i64 2, .int .i64 2, .int .i64 9] 3)).alloc (.cells #[.int .i64 8, .int .i64 0, .int .i64 8, .int .i64 5, .int .i64 7, .int .i64 7, .int .i64 4, .int .i64 5, .int .i64 8, .int .i64 6, .int .i64 3, .int .i64 0, .int .i64 2, .int .i64 7, .int .i64 3, .int .i64 3, .int .i64 2, .int .i64 2, .int .i64 9] 3)) = W at *
 have HR := Lib.hid (fun (W' : World) (h : Below w.heap.size W W') => hs.below (hbw.trans h) (Nat.le_refl _))
 have hless := less_any _ _ mostM da W mostM_norm ha (by decide) (by omega) hrm (HR.out W (Below.refl _ _))
 rw [mostM_val] at hless
 have HBW := Lib.hid hbw
 have B0 := Lib.hid b0
 have hsz := b0.lt
 clear hs hbw b0 hrm
 by_cases hf : val da ≤ 9223372036854775808
 ·have hl : lessB 9223372036854775808 (val da) = false := by unfold lessB; rw [decide_eq_false_iff_not]; omega
  have hfit : Fits (-val da) := by unfold Fits; omega
  have h1 : Hid (sumN (-val da) = -val da) := sumN_yes hfit
  have h2 : Hid (fitsB (-val da) = true) := by show _ = _; unfold fitsB; simpa using hfit
  rw [hl] at hless
  clear hfit hl
  refine hless.mono ?_
  rintro e w1 ⟨rfl, hb1⟩
  have B1 := B0.out.below hb1 hsz
  have c0 : w1.cell? ⟨w.heap.size, 0, none⟩ = some (.bool true) := B1.cell 0
  have c1 : w1.cell? ⟨w.heap.size, 1, none⟩ = some (.slice p da.length ca) := B1.cell 1
  have R1 := Lib.hid (HR.out w1 (hb1.mono (by omega)))
  have HB := Lib.hid (HBW.out.trans (hb1.mono (by omega)))
  clear hless B1 hb1 HR HBW B0
  go_wp2
  go_loop [5, 6] (fun vn vi => ∃ j V : Int, -1 ≤ j ∧ j < (da.length : Int) ∧ vi = .int .i64 j ∧ vn = .int .i64 (-V) ∧ Hid (V = val (da.drop (j + 1).toNat))) (fun _ vi => (intOf vi + 1).toNat)
  case atStart =>
   refine ⟨(da.length : Int) - 1, 0, by omega, by omega, rfl, by simp, ?_⟩
   show _ = _
   rw [List.drop_eq_nil_iff.2 (by omega)]; rfl
  case round =>
   obtain ⟨j, V, hj0, hj1, rfl, rfl, hV⟩ := hrel
   by_cases h0 : j < 0
   ·obtain rfl : j = -1 := by omega
    have hV' : Hid (V = val da) := by have := hV.out; simp at this; exact this
    clear hV
    go_wp2
    go_ret2
    exact ⟨ret_two (by rw [h1.out, hV'.out]) (by rw [h2.out]), HB.out⟩
   ·obtain ⟨k, rfl⟩ : ∃ k : Nat, j = k := ⟨j.toNat, by omega⟩
    have hV' : V = val (da.drop (k + 1)) := by have := hV.out; rw [show ((k : Int) + 1).toNat = k + 1 by omega] at this; exact this
    clear hV
    obtain ⟨b, o, rfl, hc⟩ := R1.out.at k (by omega)
    have hst := val_drop_step (l := da) k (by omega)
    rw [← hV'] at hst
    have hbd := val_drop ha.1 k
    have hbv := (val_drop ha.1 (k + 1)).1
    rw [← hV'] at hbv
    rw [hst] at hbd
    have hdg := digs_getD ha.1 k
    have HST := Lib.hid hst
    generalize da.getD k 0 = d at *
    have hm0 : 0 ≤ d + 10 * V := hbd.1
    have hm1 : d + 10 * V ≤ 9223372036854775808 := Int.le_trans hbd.2 hf
    clear hst hbd hV'
    go_wp2
    go_round
    case rel => exact ⟨(k : Int) - 1, d + 10 * V, by omega, by omega, rfl, by first | rfl | (congr 1; omega), by show _ = _; rw [show ((k : Int) - 1 + 1).toNat = k by omega]; exact HST.out.symm⟩
    case measure => simp [intOf]
 ·have hl : lessB 9223372036854775808 (val da) = true := by unfold lessB; rw [decide_eq_true_eq]; omega
  have hfit : ¬ Fits (-val da) := by unfold Fits; omega
  have h1 : Hid (sumN (-val da) = 0) := sumN_no hfit
  have h2 : Hid (fitsB (-val da) = false) := by show _ = _; unfold fitsB; simpa using hfit
  rw [hl] at hless
  clear hfit hl hf
  refine hless.mono ?_
  rintro e w1 ⟨rfl, hb1⟩
  have HB := Lib.hid (HBW.out.trans (hb1.mono (by omega)))
  clear hless hb1
  go_wp2
  go_ret2
  exact ⟨ret_two (by rw [h1.out]) (by rw [h2.out]), HB.out⟩

theorem fits_any (v : Value) (x : Int) (w : World) (hx : Small x) (hv : IsBig w v x) :
  Calls Try.prog 27 #[v] w fun e w' => e = .returned (.tuple #[.int .i64 (sumN x), .bool (fitsB x)]) ∧ Below w.heap.size w w' := by
 obtain ⟨s, rfl, hs⟩ := hv
 by_cases h : x < 0
 ·rw [show decide (x < 0) = true by simpa using h]
  have := fits_neg s _ w (digs_norm _) hx.len hs
  rw [val_digs, show -((x.natAbs : Nat) : Int) = x by omega] at this
  exact this
 ·rw [show decide (x < 0) = false by simpa using h]
  have := fits_pos s _ w (digs_norm _) hx.len hs
  rw [val_digs, show ((x.natAbs : Nat) : Int) = x by omega] at this
  exact this
end Go.Proofs.Yteogdfpkcoodlaa
namespace Go.Proofs.Yteogdfpkcoodlaa
open Go.RowKit

theorem IsBig.kept {w w' : World} {v : Value} {x : Int} (h : IsBig w v x) (hb : Below w.heap.size w w') : IsBig w' v x := by
 obtain ⟨s, e, hr⟩ := h
 exact ⟨s, e, hr.kept hb⟩
theorem IsBig.form {w : World} {v : Value} {x : Int} (h : IsBig w v x) : ∃ p n c, v = .agg #[.bool (decide (x < 0)), .slice p n c] := by
 obtain ⟨s, e, hr⟩ := h
 obtain ⟨p, c, rfl⟩ := hr.form
 exact ⟨p, _, c, e⟩
theorem IsBig.set {w : World} {v : Value} {x : Int} (h : IsBig w v x) {a : Addr} {y : Value} (hx : w.cell? a = some y) (hne : ∀ n, y ≠ .int .i64 n) (u : Value) : IsBig (w.setCell a u) v x := by
 obtain ⟨s, e, hr⟩ := h
 exact ⟨s, e, hr.set hx hne u⟩
theorem small_sum {zs : List Int} (h : All64 zs) (hl : zs.length ≤ 1000) (k : Nat) : Small (zs.take k).sum := by
 have h1 := sum_bound (zs.take k) (fun a ha => h a (List.mem_of_mem_take ha))
 have h2 : (zs.take k).length ≤ 1000 := by rw [List.length_take]; omega
 unfold Small
 omega
theorem small_one {a : Int} (h : Fits a) : Small a := by unfold Fits at h; unfold Small; omega

/-- What the loop keeps. -/
def SumRel (zs : List Int) (w : World) (k : Nat) (p : Option Addr) (n c : Nat) (wr : World) : Prop :=
 Blk wr w.heap.size #[.bool (decide ((zs.take k).sum < 0)), .slice p n c] 85 ∧ IsBig wr (.agg #[.bool (decide ((zs.take k).sum < 0)), .slice p n c]) (zs.take k).sum ∧ Below w.heap.size w wr

theorem SumRel.step {zs : List Int} {w w2 : World} {k : Nat} {p p' : Option Addr} {n n' c c' : Nat} {mm : Bool} {y : Int} (hB : Blk w2 w.heap.size #[.bool mm, .slice p n c] 85)
  (hy : (zs.take (k + 1)).sum = y) (hbr : IsBig w2 (.agg #[.bool (decide (y < 0)), .slice p' n' c']) y) (hb : Below w.heap.size w w2) :
  SumRel zs w (k + 1) p' n' c' ((w2.setCell ⟨w.heap.size, 0, none⟩ (.bool (decide (y < 0)))).setCell ⟨w.heap.size, 1, none⟩ (.slice p' n' c')) := by
 subst hy
 refine ⟨(hB.set 0 _).set 1 _, ?_, (hb.setCell (by simp) _).setCell (by simp) _⟩
 exact (hbr.set (hB.cell 0) (by intro n; simp) _).set ((hB.set 0 _).cell 1) (by intro n; simp) _

set_option maxHeartbeats 2000000 in
theorem refsum_any (v : Value) (zs : List Int) (w : World) (hm : zs.length ≤ 1000) (h64 : All64 zs) (hrow : Row .i64 w v zs) :
  Calls Try.prog 12 #[v] w fun e w' => e = .returned (.tuple #[.int .i64 (sumN zs.sum), .int .i64 (sumE zs.sum)]) ∧ Below w.heap.size w w' := by
 obtain ⟨p0, c0, rfl⟩ := hrow.form
 have HR := Lib.hid hrow
 have HS : Hid (zs.sum = (zs.take zs.length).sum) := by show _ = _; rw [List.take_length]
 clear hrow
 generalize hn : zs.length = n0 at *
 have HN := Lib.hid hn
 clear hn
 go_enter Try.func12, Try.ntmps12
 go_wp2
 go_loopw [5] (fun vi wr => ∃ (k : Nat) (p : Option Addr) (n c : Nat), k ≤ n0 ∧ vi = .int .i64 k ∧ Hid (SumRel zs w k p n c wr)) (fun vi _ => n0 - (intOf vi).toNat)
 case atStart =>
  refine ⟨0, none, 0, 0, Nat.zero_le _, rfl, ?_, ?_, ?_⟩
  ·simpa using Blk.new w _ _
  ·refine ⟨.slice none 0 0, rfl, none, 0, ?_, ?_, .inl ?_⟩ <;> simp [digs_zero]
  ·exact (Below.refl _ _).alloc (Nat.le_refl _) _
 case round =>
  obtain ⟨k, p, n, c, hk, rfl, HREL⟩ := hrel
  by_cases hlt : k < n0
  ·obtain ⟨b, o, rfl, hc⟩ := HR.out.at k (by rw [HN.out]; exact hlt)
   have hB := HREL.out.1
   have HBIG := Lib.hid HREL.out.2.1
   have hbel := HREL.out.2.2
   have hcl : wr.cell? ⟨b, o + k, none⟩ = some (.int .i64 (zs.getD k 0)) := (hbel.cell (p := ⟨b, o + k, none⟩) (World.block_lt_of_cell? w _ hc)).trans hc
   have ha : Fits (zs.getD k 0) := h64.getD k
   have hsx := small_sum h64 (by rw [HN.out]; exact hm) k
   have hts : Hid ((zs.take (k + 1)).sum = (zs.take k).sum + zs.getD k 0) := take_succ_sum zs k (by rw [HN.out]; exact hlt)
   have c0 : wr.cell? ⟨w.heap.size, 0, none⟩ = some (.bool (decide ((zs.take k).sum < 0))) := hB.cell 0
   have c1 : wr.cell? ⟨w.heap.size, 1, none⟩ = some (.slice p n c) := hB.cell 1
   have hsz := hB.lt
   have HBB := Lib.hid hB
   have HBEL := Lib.hid hbel
   clear hB hbel hc
   generalize (zs.take k).sum = x at *
   generalize zs.getD k 0 = a at *
   have hsa := small_one ha
   generalize hmm : decide (x < 0) = mm at *
   clear hmm
   go_wp2_with fail
   go_region_with (first
    | (go_at_call 26; refine (from_any a _ ha).mono ?_; rintro e w1 ⟨vf, rfl, hbf, hb1⟩; have HB1 : Hid (Below wr.heap.size wr w1) := (by first | exact hb1 | exact (Below.refl _ _).drew.trans hb1); have k0 : w1.cell? ⟨w.heap.size, 0, none⟩ = some (.bool mm) := (HB1.out.cell (p := ⟨w.heap.size, 0, none⟩) hsz).trans c0; have k1 : w1.cell? ⟨w.heap.size, 1, none⟩ = some (.slice p n c) := (HB1.out.cell (p := ⟨w.heap.size, 1, none⟩) hsz).trans c1)
    | (go_at_call 25; refine (bigplus_any _ _ x a _ hsx hsa (HBIG.out.kept ?_) (hbf.kept ?_)).mono ?_; (first | exact HB1.out | exact HB1.out.drew); (first | exact Below.refl _ _ | exact (Below.refl _ _).drew); rintro e w2 ⟨r, rfl, hbr, hb2⟩; have HB2 : Hid (Below wr.heap.size wr w2) := (by first | exact HB1.out.trans (hb2.mono HB1.out.size) | exact HB1.out.drew.trans (hb2.mono HB1.out.size)); have B2 := HBB.out.below HB2.out hsz; have m0 : w2.cell? ⟨w.heap.size, 0, none⟩ = some (.bool mm) := B2.cell 0; have m1 : w2.cell? ⟨w.heap.size, 1, none⟩ = some (.slice p n c) := B2.cell 1; have f0 := B2.free 0; have f1 := B2.free 1; obtain ⟨pr, nr, cr, rfl⟩ := hbr.form))
   all_goals
    go_wp2
    have hst := SumRel.step B2 hts.out hbr (HBEL.out.trans (HB2.out.mono (by omega)))
    go_roundw
    case rel => exact ⟨k + 1, pr, nr, cr, by omega, by go_num, hst⟩
    case measure => simp [intOf]; omega
  ·obtain rfl : k = n0 := by omega
   have hB := HREL.out.1
   have hbig := HREL.out.2.1
   have HBEL := Lib.hid HREL.out.2.2
   have hsx := small_sum h64 (by rw [HN.out]; exact hm) k
   rw [← HS.out] at hB hbig hsx
   have c0 : wr.cell? ⟨w.heap.size, 0, none⟩ = some (.bool (decide (zs.sum < 0))) := hB.cell 0
   have c1 : wr.cell? ⟨w.heap.size, 1, none⟩ = some (.slice p n c) := hB.cell 1
   have hfit := fits_any _ zs.sum wr hsx hbig
   obtain ⟨x, hx⟩ : ∃ x, x = zs.sum := ⟨_, rfl⟩
   rw [← hx] at c0 hfit
   have HX := Lib.hid hx
   clear hx
   generalize decide (x < 0) = mm at *
   have HF : Hid ((fitsB x = true → sumE x = 0) ∧ (fitsB x = false → sumE x = 10 ∧ sumN x = 0)) := by
    constructor
    ·intro h; exact sumE_yes (by simpa [fitsB] using h)
    ·intro h; have h' : ¬ Fits x := by simpa [fitsB] using h
     exact ⟨sumE_no h', sumN_no h'⟩
   have hsz := hB.lt
   clear hB hbig hsx HREL HS
   have HFT := Lib.hid hfit
   clear hfit
   cases hfb : fitsB x with
   | true =>
    have e1 : Hid (sumE x = 0) := HF.out.1 hfb
    go_wp2_with (go_at_call 27; refine HFT.out.mono ?_; rintro e w1 ⟨rfl, hb1⟩; rw [hfb])
    go_ret2
    exact ⟨by rw [← HX.out, e1.out]; rfl, HBEL.out.trans (hb1.mono (by omega))⟩
   | false =>
    have e1 : Hid (sumE x = 10) := (HF.out.2 hfb).1
    have e2 : Hid (sumN x = 0) := (HF.out.2 hfb).2
    go_wp2_with (go_at_call 27; refine HFT.out.mono ?_; rintro e w1 ⟨rfl, hb1⟩; rw [hfb])
    go_ret2
    exact ⟨by rw [← HX.out, e1.out, e2.out]; rfl, HBEL.out.trans (hb1.mono (by omega))⟩
end Go.Proofs.Yteogdfpkcoodlaa
namespace Go.Proofs.Yteogdfpkcoodlaa
open Go.RowKit Go.Maps
set_option linter.unusedSimpArgs false
theorem net_small1 {n me : Int} {xs : List Lin} (h : ∀ x ∈ xs, withinB n x = true) (hl : xs.length ≤ 1000) : -1125899906842624000 ≤ netS me xs ∧ netS me xs ≤ 1125899906842624000 := by
 have h1 := sum_small (netL_64 (me := me) h)
 have h2 := netL_len me xs
 unfold netS
 have h3 : (1125899906842624 : Int) * ((netL me xs).length : Int) ≤ 1125899906842624 * 1000 := Int.mul_le_mul_of_nonneg_left (by omega) (by omega)
 omega
def NsB (rs : List Rn) : Prop := ∀ r ∈ rs, All64 r.ns
theorem nets_64 {N : Nat} {xs : List Lin} (h : ∀ x ∈ xs, withinB (N : Int) x = true) (hl : xs.length ≤ 1000) : All64 (netsL N xs) := by
 intro a ha
 unfold netsL at ha
 obtain ⟨i, _, rfl⟩ := List.mem_map.1 ha
 have := net_small1 (me := (i : Int)) h hl
 omega
theorem NsB.set {rs : List Rn} (h : NsB rs) (i : Nat) (q : Rn) (hq : All64 q.ns) : NsB (rs.set i q) := fun r hr => by
 rcases List.mem_or_eq_of_mem_set hr with h1 | h1
 ·exact h r h1
 ·subst h1; exact hq
theorem ns_step {rs : List Rn} (h : NsB rs) (hok : LOk 3 rs) (m : Msg) (fro : Int) (hm : m.ls.length ≤ 60) : NsB (doC 3 rs m fro).1 := by
 unfold doC
 split
 ·split
  ·unfold startC
   split
   ·exact h
   ·split
    ·exact h
    ·intro r hr
     rcases List.mem_append.1 hr with h1 | h1
     ·exact h r h1
     ·obtain rfl := List.mem_singleton.1 h1
      exact fun _ h => nomatch h
  ·split
   ·split
    ·next hh =>
     unfold dueC
     split
     ·exact h.set _ _ (h (rnAt rs m.y) (rnAt_mem hh))
     ·exact h
    ·exact h
   ·exact h
 ·split
  ·split
   ·exact h
   ·split
    ·exact h
    ·next hh =>
     have hh : hasB rs m.y = true := by simpa using hh
     have hr := rnAt_mem hh
     split
     ·unfold offerC
      split
      ·exact h
      ·split
       ·exact h
       ·split
        ·exact h
        ·split
         ·exact h
         ·next hfe =>
          have hfe : fitE ((3 : Nat) : Int) m.ls = 0 := Decidable.not_not.1 hfe
          have hq : ∀ q ∈ ((rnAt rs m.y).offer fro.toNat m.ls).hs, fitE ((3 : Nat) : Int) q.ls = 0 ∧ q.ls.length ≤ 60 := fun q hq => by
           rcases List.mem_or_eq_of_mem_set hq with h' | h'
           ·exact (hok.1 _ hr).2 q h'
           ·subst h'; exact ⟨hfe, hm⟩
          split
          ·exact h.set _ _ (h (rnAt rs m.y) hr)
          ·refine h.set _ _ (nets_64 (fun x hx => fit_within (bothL_fits ((3 : Nat) : Int) (fun o ho => ?_) 3) x hx) (Nat.le_trans (bothL_len _ (fun o ho => ?_) 3) (by decide)))
           ·obtain ⟨q, h1, rfl⟩ := List.mem_map.1 ho
            exact (hq q h1).1
           ·obtain ⟨q, h1, rfl⟩ := List.mem_map.1 ho
            exact (hq q h1).2
     ·split
      ·unfold voteC
       split
       ·exact h
       ·split
        ·exact h
        ·split
         ·exact h.set _ _ (h (rnAt rs m.y) hr)
         ·split
          ·exact h.set _ _ (h (rnAt rs m.y) hr)
          ·exact h.set _ _ (h (rnAt rs m.y) hr)
      ·unfold queryC
       split
       ·exact h
       ·exact h
  ·exact h
def putY (y : Int → Nat → Bool) (n : Int) (j : Nat) : Int → Nat → Bool := fun k => if k = n then (fun i => if i = j then true else y n i) else y k
theorem putY_mono (y : Int → Nat → Bool) (n : Int) (j : Nat) (k : Int) (i : Nat) (h : y k i = true) : putY y n j k i = true := by
 unfold putY
 split
 ·next e =>
  subst e
  show (if i = j then true else y k i) = true
  split
  ·rfl
  ·exact h
 ·exact h
theorem putY_at (y : Int → Nat → Bool) (n : Int) (j : Nat) : putY y n j n j = true := by
 unfold putY
 rw [if_pos rfl]
 show (if j = j then true else y n j) = true
 rw [if_pos rfl]
/-- Who votes well is one of the three. -/
theorem vote_from {rs : List Rn} {m : Msg} {fro : Int} (he : (doC 3 rs m fro).2.2 = 0) (hk : m.k = 13) : 0 ≤ fro ∧ fro < 3 := by
 unfold doC at he
 by_cases h1 : fro = -1
 ·rw [if_pos h1, if_neg (by omega), if_neg (by omega)] at he
  have he : (110 : Int) = 0 := he
  omega
 ·rw [if_neg h1, if_pos (.inr (.inl hk))] at he
  by_cases h2 : fro < 0 ∨ ((3 : Nat) : Int) ≤ fro
  ·rw [if_pos h2] at he
   have he : (140 : Int) = 0 := he
   omega
  ·omega
/-- A map that is ranged over. -/
def Rg (b r n : Nat) (D : DataW Unit) (left : Lit → Bool) (cnt : Nat) (w : World) : Prop := w.ranges Try.prog 3 (plainElem Try.prog 4) b r n D left cnt
theorem Rg.kept {b r n : Nat} {D : DataW Unit} {left : Lit → Bool} {cnt : Nat} {w w' : World} (h : Rg b r n D left cnt w) (hb : Below w.heap.size w w') : Rg b r n D left cnt w' := by
 have h1 := World.ranges.owns h
 have h2 := World.ranges.lt h
 obtain ⟨es, clock, since, seen, c0, h3, F, hs, hD, h4, rest⟩ := h
 exact ⟨es, clock, since, seen, c0, (hb.block b h1.lt).trans h3, F, hs, hD, (hb.block r h2).trans h4, rest⟩
theorem invK1 (key : Value) (kl : Lit) (h : keyOf Try.prog 3 key = some kl) : ∃ x, key = Value.int .i64 x := by
 obtain ⟨x, rfl, _⟩ := Maps.keyOf_int_inv Try.underlying3 h
 exact ⟨x, rfl⟩
theorem invV1 (v : Value) (y : DataW Unit × List MemPlace) (h : plainElem Try.prog 4 v = some y) : ∃ c : Int, v = (fun n : Int => Value.bool (n == 1)) c := by
 obtain ⟨c, rfl, _⟩ := boolElem_inv Try.underlying4 h
 exact ⟨if c then 1 else 0, by cases c <;> rfl⟩
theorem entry_kl {x : Int} {kl : Lit} (h : keyOf Try.prog 3 (.int .i64 x) = some kl) : kl = .int .i64 x := by
 obtain ⟨q, e, rfl, _⟩ := Maps.keyOf_int_inv Try.underlying3 h
 cases e
 rfl
theorem entry_y {c : Bool} {y : DataW Unit × List MemPlace} (h : plainElem Try.prog 4 (.bool c) = some y) : y.1 = .lit (.bool c) := by
 obtain ⟨q, e, rfl⟩ := boolElem_inv Try.underlying4 h
 cases e
 rfl
theorem yes3 {y : Int → Nat → Bool} {n : Int} (h : ∀ j, j < 3 → y n j = true) : v3 (y n) = .agg #[.bool true, .bool true, .bool true] := by
 unfold v3
 rw [h 0 (by decide), h 1 (by decide), h 2 (by decide)]
theorem yes3_eq (w : World) : (Op.equalIn 10000 59 (.agg #[.bool true, .bool true, .bool true]) (.agg #[.bool true, .bool true, .bool true])).run Try.prog w = .ok true w := by
 first | kernel_rfl | go_simp
theorem one_there {rs : List Rn} {d : Int → Option Bool} {y : Int → Nat → Bool} (h : OneInv rs d y) {k : Int} {b : Bool} (hd : d k = some b) : hasB rs k = true ∧ (rnAt rs k).st = (if b then 3 else 4) ∧ (b = true → (rnAt rs k).ns.sum = 0) := by
 have h1 : hasB rs k = true := by
  unfold hasB
  exact decide_eq_true (h.2 k (by rw [hd]; rfl))
 have h2 := h.at_ h1
 cases b with
 | true => exact ⟨h1, h2.d1 hd, fun _ => h2.ns (.inr (h2.d1 hd))⟩
 | false => exact ⟨h1, h2.d0 hd, fun h => nomatch h⟩
theorem Ct.wk {Q : Nat → Prop} {B : Nat} {w : World} {N : Nat} {p : Option Addr} {n c : Nat} {rs : List Rn} (h : Ct (fun b => Q b ∧ b < B) w N p n c rs) : Ct Q w N p n c rs := ⟨h.rs.imp (fun _ h => h.1), h.n, h.ok⟩
theorem SdR.wk {Q : Nat → Prop} {B : Nat} {w : World} {v : Value} {l : List (Int × Msg)} (h : SdR (fun b => Q b ∧ b < B) w v l) : SdR Q w v l := by
 obtain ⟨xs, h1, h2, h3⟩ := h
 exact ⟨xs, h1.imp (fun _ _ h => h.1), fun z hz => (h2 z hz).mono (fun _ _ h => h.1), h3⟩
theorem SdR.lt {Q : Nat → Prop} {w : World} {v : Value} {l : List (Int × Msg)} (h : SdR Q w v l) : SdR (fun b => Q b ∧ b < w.heap.size) w v l := by
 obtain ⟨xs, h1, h2, h3⟩ := h
 exact ⟨xs, ⟨h1.1, h1.lt.imp (fun _ h => ⟨h.2, h.1⟩)⟩, fun z hz => ⟨(h2 z hz).ls, (h2 z hz).ns, ((h2 z hz).al.ltT (h2 z hz).ls), ((h2 z hz).an.ltR (h2 z hz).ns), (h2 z hz).sz⟩, h3⟩
end Go.Proofs.Yteogdfpkcoodlaa
