/- contraref11.Same by contract: a message is the same as itself. chief's Do in a law that writes into what is said: where the cycles lie, and where what is said. contralaw18.fits by contract. ChiefOwn: its walk. A word of a law, read, with what its lists hold. -/
import Derived.Test.YtpddmcimmkepfaaQ1
import Derived.Deep.RegionHeld3
import Derived.Deep.CutRange
import Derived.Deep.CutBlock
import Derived.Test.YtpddmcimmkepfaaQ4
import Derived.Test.YtpddmcimmkepfaaQ2
namespace Go.Proofs.Ytpddmcimmkepfaa
open Go.RowKit
set_option linter.unusedSimpArgs false
theorem rowi_at {k : IntKind} {w : World} {p : Option Addr} {n c : Nat} {zs : List Int} (h : Row k w (.slice p n c) zs) (j : Nat) (hj : j < zs.length) : ∃ b o, p = some ⟨b, o, none⟩ ∧ w.cell? ⟨b, o + j, none⟩ = some (.int k (zs.getD j 0)) := by
 obtain ⟨p', c', e1, _, h⟩ := h
 cases e1
 rcases h with h | ⟨b, o, hp, h⟩
 ·subst h; simp at hj
 ·exact ⟨b, o, hp, h j hj⟩
set_option maxHeartbeats 8000000 in
set_option maxRecDepth 100000 in
theorem msame_any (m : Msg) (va vb ua ub : Value) (w : World) (ha : TRow encN w va m.ls) (hb : Row .i64 w vb m.ns) (hc : TRow encN w ua m.ls) (hd : Row .i64 w ub m.ns) (hl : m.ls.length ≤ 9000000000000000000) (hn : m.ns.length ≤ 9000000000000000000) :
  Calls Try.prog 12 #[m.v va vb, m.v ua ub] w fun e w' => e = .returned (.bool true) ∧ Below w.heap.size w w' := by
 obtain ⟨pa, ca, rfl⟩ := ha.shape
 obtain ⟨pb, cb, rfl⟩ := hb.shape
 obtain ⟨qa, da, rfl⟩ := hc.shape
 obtain ⟨qb, db, rfl⟩ := hd.shape
 have HA := Lib.hid ha
 have HB := Lib.hid hb
 have HC := Lib.hid hc
 have HD := Lib.hid hd
 clear ha hb hc hd
 generalize hll : m.ls.length = nl at *
 generalize hnl : m.ns.length = nn at *
 have HLL := Lib.hid hll
 have HNN := Lib.hid hnl
 clear hll hnl
 unfold Msg.v
 go_enter Try.func12, Try.ntmps12
 go_wp2_with fail
 have s1 : (w.alloc (.cells #[.int .i64 m.k, .int .i64 m.s, .int .i64 m.n, .int .i64 m.b, .int .i64 m.c, .int .i64 m.r, .int .i64 m.y, .int .i64 m.a, .bool m.t, .slice pa nl ca, .slice pb nn cb] 36)).heap.size = w.heap.size + 1 := by simp
 have HB2 : Hid (Below w.heap.size w ((w.alloc (.cells #[.int .i64 m.k, .int .i64 m.s, .int .i64 m.n, .int .i64 m.b, .int .i64 m.c, .int .i64 m.r, .int .i64 m.y, .int .i64 m.a, .bool m.t, .slice pa nl ca, .slice pb nn cb] 36)).alloc (.cells #[.int .i64 m.k, .int .i64 m.s, .int .i64 m.n, .int .i64 m.b, .int .i64 m.c, .int .i64 m.r, .int .i64 m.y, .int .i64 m.a, .bool m.t, .slice qa nl da, .slice qb nn db] 36))) := (oneB w _).trans ((oneB _ _).mono (by omega))
 have HK1 := Lib.hid ((Blk.new w (#[.int .i64 m.k, .int .i64 m.s, .int .i64 m.n, .int .i64 m.b, .int .i64 m.c, .int .i64 m.r, .int .i64 m.y, .int .i64 m.a, .bool m.t, .slice pa nl ca, .slice pb nn cb]) 36).alloc (.cells #[.int .i64 m.k, .int .i64 m.s, .int .i64 m.n, .int .i64 m.b, .int .i64 m.c, .int .i64 m.r, .int .i64 m.y, .int .i64 m.a, .bool m.t, .slice qa nl da, .slice qb nn db] 36))
 have HK2 : Hid (Blk ((w.alloc (.cells #[.int .i64 m.k, .int .i64 m.s, .int .i64 m.n, .int .i64 m.b, .int .i64 m.c, .int .i64 m.r, .int .i64 m.y, .int .i64 m.a, .bool m.t, .slice pa nl ca, .slice pb nn cb] 36)).alloc (.cells #[.int .i64 m.k, .int .i64 m.s, .int .i64 m.n, .int .i64 m.b, .int .i64 m.c, .int .i64 m.r, .int .i64 m.y, .int .i64 m.a, .bool m.t, .slice qa nl da, .slice qb nn db] 36)) (w.heap.size + 1) #[.int .i64 m.k, .int .i64 m.s, .int .i64 m.n, .int .i64 m.b, .int .i64 m.c, .int .i64 m.r, .int .i64 m.y, .int .i64 m.a, .bool m.t, .slice qa nl da, .slice qb nn db] 36) := by
  show Blk _ _ _ _
  rw [← s1]; exact Blk.new _ _ _
 generalize hW2 : (w.alloc (.cells #[.int .i64 m.k, .int .i64 m.s, .int .i64 m.n, .int .i64 m.b, .int .i64 m.c, .int .i64 m.r, .int .i64 m.y, .int .i64 m.a, .bool m.t, .slice pa nl ca, .slice pb nn cb] 36)).alloc (.cells #[.int .i64 m.k, .int .i64 m.s, .int .i64 m.n, .int .i64 m.b, .int .i64 m.c, .int .i64 m.r, .int .i64 m.y, .int .i64 m.a, .bool m.t, .slice qa nl da, .slice qb nn db] 36) = W2 at *
 clear hW2 s1
 generalize hg1 : w.heap.size = g1 at *
 have HG1 := Lib.hid hg1
 clear hg1
 generalize hg2 : g1 + 1 = g2 at *
 clear hg2
 go_loopw [5] (fun i wr => ∃ k : Nat, k ≤ nl ∧ i = .int .i64 k ∧ Hid (Below W2.heap.size W2 wr)) (fun i _ => nl - (intOf i).toNat)
 case atStart => exact ⟨0, by omega, rfl, Below.refl _ _⟩
 case round =>
  obtain ⟨k, hk, rfl, HW⟩ := hrel
  have a9 : wr.cell? ⟨g1, 9, none⟩ = some (.slice pa nl ca) := (HK1.out.below HW.out HK1.out.lt).cell 9
  have b9 : wr.cell? ⟨g2, 9, none⟩ = some (.slice qa nl da) := (HK2.out.below HW.out HK2.out.lt).cell 9
  by_cases hlt : k < nl
  ·have hltI : (k : Int) < (nl : Int) := by omega
   have hkl : k < m.ls.length := by rw [HLL.out]; exact hlt
   obtain ⟨b, o, rfl, hbl, hcs⟩ := ((HA.out.kept (HG1.out.symm ▸ HB2.out)).kept HW.out).at_ k hkl
   obtain ⟨b', o', rfl, hbl', hcs'⟩ := ((HC.out.kept (HG1.out.symm ▸ HB2.out)).kept HW.out).at_ k hkl
   generalize m.ls[k] = x at *
   have c0 : wr.cell? ⟨b, o + k * 4, none⟩ = some (.int .i64 x.s) := hcs 0 (by decide)
   have c1 : wr.cell? ⟨b, o + k * 4 + 1, none⟩ = some (.int .i64 x.n) := hcs 1 (by decide)
   have c2 : wr.cell? ⟨b, o + k * 4 + 2, none⟩ = some (.int .i64 x.b) := hcs 2 (by decide)
   have c3 : wr.cell? ⟨b, o + k * 4 + 3, none⟩ = some (.int .i64 x.a) := hcs 3 (by decide)
   have d0 : wr.cell? ⟨b', o' + k * 4, none⟩ = some (.int .i64 x.s) := hcs' 0 (by decide)
   have d1 : wr.cell? ⟨b', o' + k * 4 + 1, none⟩ = some (.int .i64 x.n) := hcs' 1 (by decide)
   have d2 : wr.cell? ⟨b', o' + k * 4 + 2, none⟩ = some (.int .i64 x.b) := hcs' 2 (by decide)
   have d3 : wr.cell? ⟨b', o' + k * 4 + 3, none⟩ = some (.int .i64 x.a) := hcs' 3 (by decide)
   clear hcs hcs'
   go_upto_region 6 with fail
   refine wp_region_held_drew (S := fun w' => w' = wr.drew) (by kernel_rfl) rfl (fun hS0 => ?_)
   refine wpAnyH_take (i := 0) (v := ?_) rfl (by kernel_rfl) (by kernel_rfl) (by kernel_rfl) (fun _ _ _ h => h) (Or.inl ⟨by kernel_rfl, ?_⟩) (by first | assumption | trivial) ?_
   rotate_left
   ·intro w hSw
    try dsimp only at hSw
    subst hSw
    first | (go_simp; done) | (go_simp; with_reducible rfl)
   try simp only [Act.put, List.getElem_toArray, List.getElem_cons_succ, List.getElem_cons_zero, List.setIfInBounds_toArray, List.set_cons_zero, List.set_cons_succ]
   refine wpAnyH_take (i := 1) (v := ?_) rfl (by kernel_rfl) (by kernel_rfl) (by kernel_rfl) (fun _ _ _ h => h) (Or.inl ⟨by kernel_rfl, ?_⟩) (by first | assumption | trivial) ?_
   rotate_left
   ·intro w hSw
    try dsimp only at hSw
    subst hSw
    first | (go_simp; done) | (go_simp; with_reducible rfl)
   try simp only [Act.put, List.getElem_toArray, List.getElem_cons_succ, List.getElem_cons_zero, List.setIfInBounds_toArray, List.set_cons_zero, List.set_cons_succ]
   refine wpAnyH_take (i := 2) (v := ?_) rfl (by kernel_rfl) (by kernel_rfl) (by kernel_rfl) (fun _ _ _ h => h) (Or.inl ⟨by kernel_rfl, ?_⟩) (by first | assumption | trivial) ?_
   rotate_left
   ·intro w hSw
    try dsimp only at hSw
    subst hSw
    first | (go_simp; done) | (go_simp; with_reducible rfl)
   try simp only [Act.put, List.getElem_toArray, List.getElem_cons_succ, List.getElem_cons_zero, List.setIfInBounds_toArray, List.set_cons_zero, List.set_cons_succ]
   refine wpAnyH_take (i := 3) (v := ?_) rfl (by kernel_rfl) (by kernel_rfl) (by kernel_rfl) (fun _ _ _ h => h) (Or.inl ⟨by kernel_rfl, ?_⟩) (by first | assumption | trivial) ?_
   rotate_left
   ·intro w hSw
    try dsimp only at hSw
    subst hSw
    first | (go_simp; done) | (go_simp; with_reducible rfl)
   try simp only [Act.put, List.getElem_toArray, List.getElem_cons_succ, List.getElem_cons_zero, List.setIfInBounds_toArray, List.set_cons_zero, List.set_cons_succ]
   refine wpAnyH_take (i := 4) (v := ?_) rfl (by kernel_rfl) (by kernel_rfl) (by kernel_rfl) (fun _ _ _ h => h) (Or.inl ⟨by kernel_rfl, ?_⟩) (by first | assumption | trivial) ?_
   rotate_left
   ·intro w hSw
    try dsimp only at hSw
    subst hSw
    first | (go_simp; done) | (go_simp; with_reducible rfl)
   try simp only [Act.put, List.getElem_toArray, List.getElem_cons_succ, List.getElem_cons_zero, List.setIfInBounds_toArray, List.set_cons_zero, List.set_cons_succ]
   refine wpAnyH_take (i := 5) (v := ?_) rfl (by kernel_rfl) (by kernel_rfl) (by kernel_rfl) (fun _ _ _ h => h) (Or.inl ⟨by kernel_rfl, ?_⟩) (by first | assumption | trivial) ?_
   rotate_left
   ·intro w hSw
    try dsimp only at hSw
    subst hSw
    first | (go_simp; done) | (go_simp; with_reducible rfl)
   try simp only [Act.put, List.getElem_toArray, List.getElem_cons_succ, List.getElem_cons_zero, List.setIfInBounds_toArray, List.set_cons_zero, List.set_cons_succ]
   refine wpAnyH_take (i := 6) (v := ?_) rfl (by kernel_rfl) (by kernel_rfl) (by kernel_rfl) (fun _ _ _ h => h) (Or.inl ⟨by kernel_rfl, ?_⟩) (by first | assumption | trivial) ?_
   rotate_left
   ·intro w hSw
    try dsimp only at hSw
    subst hSw
    first | (go_simp; done) | (go_simp; with_reducible rfl)
   try simp only [Act.put, List.getElem_toArray, List.getElem_cons_succ, List.getElem_cons_zero, List.setIfInBounds_toArray, List.set_cons_zero, List.set_cons_succ]
   refine wpAnyH_take (i := 7) (v := ?_) rfl (by kernel_rfl) (by kernel_rfl) (by kernel_rfl) (fun _ _ _ h => h) (Or.inl ⟨by kernel_rfl, ?_⟩) (by first | assumption | trivial) ?_
   rotate_left
   ·intro w hSw
    try dsimp only at hSw
    subst hSw
    first | (go_simp; done) | (go_simp; with_reducible rfl)
   try simp only [Act.put, List.getElem_toArray, List.getElem_cons_succ, List.getElem_cons_zero, List.setIfInBounds_toArray, List.set_cons_zero, List.set_cons_succ]
   refine wpAnyH_take (i := 8) (v := ?_) rfl (by kernel_rfl) (by kernel_rfl) (by kernel_rfl) (fun _ _ _ h => h) (Or.inl ⟨by kernel_rfl, ?_⟩) (by first | assumption | trivial) ?_
   rotate_left
   ·intro w hSw
    try dsimp only at hSw
    subst hSw
    first | (go_simp; done) | (go_simp; with_reducible rfl)
   try simp only [Act.put, List.getElem_toArray, List.getElem_cons_succ, List.getElem_cons_zero, List.setIfInBounds_toArray, List.set_cons_zero, List.set_cons_succ]
   refine wpAnyH_take (i := 9) (v := ?_) rfl (by kernel_rfl) (by kernel_rfl) (by kernel_rfl) (fun _ _ _ h => h) (Or.inl ⟨by kernel_rfl, ?_⟩) (by first | assumption | trivial) ?_
   rotate_left
   ·intro w hSw
    try dsimp only at hSw
    subst hSw
    first | (go_simp; done) | (go_simp; with_reducible rfl)
   try simp only [Act.put, List.getElem_toArray, List.getElem_cons_succ, List.getElem_cons_zero, List.setIfInBounds_toArray, List.set_cons_zero, List.set_cons_succ]
   refine wpAnyH_take (i := 10) (v := ?_) rfl (by kernel_rfl) (by kernel_rfl) (by kernel_rfl) (fun _ _ _ h => h) (Or.inl ⟨by kernel_rfl, ?_⟩) (by first | assumption | trivial) ?_
   rotate_left
   ·intro w hSw
    try dsimp only at hSw
    subst hSw
    first | (go_simp; done) | (go_simp; with_reducible rfl)
   try simp only [Act.put, List.getElem_toArray, List.getElem_cons_succ, List.getElem_cons_zero, List.setIfInBounds_toArray, List.set_cons_zero, List.set_cons_succ]
   refine wpAnyH_done (by kernel_rfl) ?_ _
   go_wp2_with fail
   go_roundw
   case rel => exact ⟨k + 1, by omega, by go_num, HW.out.drew⟩
   case measure => simp [intOf]; omega
  ·have hle : (nl : Int) ≤ (k : Int) := by omega
   have HW3 := HW
   go_wp2_with fail
   go_loopw [6] (fun i wr => ∃ k : Nat, k ≤ nn ∧ i = .int .i64 k ∧ Hid (Below W2.heap.size W2 wr)) (fun i _ => nn - (intOf i).toNat)
   case atStart => exact ⟨0, by omega, rfl, HW3.out⟩
   case round =>
    obtain ⟨j, hj, rfl, HW⟩ := hrel
    have a10 : wr.cell? ⟨g1, 10, none⟩ = some (.slice pb nn cb) := (HK1.out.below HW.out HK1.out.lt).cell 10
    have b10 : wr.cell? ⟨g2, 10, none⟩ = some (.slice qb nn db) := (HK2.out.below HW.out HK2.out.lt).cell 10
    by_cases hlt : j < nn
    ·have hltI : (j : Int) < (nn : Int) := by omega
     have hjl : j < m.ns.length := by rw [HNN.out]; exact hlt
     obtain ⟨b, o, rfl, c0⟩ := rowi_at ((HB.out.kept (HG1.out.symm ▸ HB2.out)).kept HW.out) j hjl
     obtain ⟨b', o', rfl, d0⟩ := rowi_at ((HD.out.kept (HG1.out.symm ▸ HB2.out)).kept HW.out) j hjl
     generalize m.ns.getD j 0 = z at *
     go_upto_region 11 with fail
     refine wp_region_held_drew (S := fun w' => w' = wr.drew) (by kernel_rfl) rfl (fun hS0 => ?_)
     refine wpAnyH_take (i := 0) (v := ?_) rfl (by kernel_rfl) (by kernel_rfl) (by kernel_rfl) (fun _ _ _ h => h) (Or.inl ⟨by kernel_rfl, ?_⟩) (by first | assumption | trivial) ?_
     rotate_left
     ·intro w hSw
      try dsimp only at hSw
      subst hSw
      first | (go_simp; done) | (go_simp; with_reducible rfl)
     try simp only [Act.put, List.getElem_toArray, List.getElem_cons_succ, List.getElem_cons_zero, List.setIfInBounds_toArray, List.set_cons_zero, List.set_cons_succ]
     refine wpAnyH_take (i := 1) (v := ?_) rfl (by kernel_rfl) (by kernel_rfl) (by kernel_rfl) (fun _ _ _ h => h) (Or.inl ⟨by kernel_rfl, ?_⟩) (by first | assumption | trivial) ?_
     rotate_left
     ·intro w hSw
      try dsimp only at hSw
      subst hSw
      first | (go_simp; done) | (go_simp; with_reducible rfl)
     try simp only [Act.put, List.getElem_toArray, List.getElem_cons_succ, List.getElem_cons_zero, List.setIfInBounds_toArray, List.set_cons_zero, List.set_cons_succ]
     refine wpAnyH_take (i := 2) (v := ?_) rfl (by kernel_rfl) (by kernel_rfl) (by kernel_rfl) (fun _ _ _ h => h) (Or.inl ⟨by kernel_rfl, ?_⟩) (by first | assumption | trivial) ?_
     rotate_left
     ·intro w hSw
      try dsimp only at hSw
      subst hSw
      first | (go_simp; done) | (go_simp; with_reducible rfl)
     try simp only [Act.put, List.getElem_toArray, List.getElem_cons_succ, List.getElem_cons_zero, List.setIfInBounds_toArray, List.set_cons_zero, List.set_cons_succ]
     refine wpAnyH_take (i := 3) (v := ?_) rfl (by kernel_rfl) (by kernel_rfl) (by kernel_rfl) (fun _ _ _ h => h) (Or.inl ⟨by kernel_rfl, ?_⟩) (by first | assumption | trivial) ?_
     rotate_left
     ·intro w hSw
      try dsimp only at hSw
      subst hSw
      first | (go_simp; done) | (go_simp; with_reducible rfl)
     try simp only [Act.put, List.getElem_toArray, List.getElem_cons_succ, List.getElem_cons_zero, List.setIfInBounds_toArray, List.set_cons_zero, List.set_cons_succ]
     refine wpAnyH_take (i := 4) (v := ?_) rfl (by kernel_rfl) (by kernel_rfl) (by kernel_rfl) (fun _ _ _ h => h) (Or.inl ⟨by kernel_rfl, ?_⟩) (by first | assumption | trivial) ?_
     rotate_left
     ·intro w hSw
      try dsimp only at hSw
      subst hSw
      first | (go_simp; done) | (go_simp; with_reducible rfl)
     try simp only [Act.put, List.getElem_toArray, List.getElem_cons_succ, List.getElem_cons_zero, List.setIfInBounds_toArray, List.set_cons_zero, List.set_cons_succ]
     refine wpAnyH_take (i := 5) (v := ?_) rfl (by kernel_rfl) (by kernel_rfl) (by kernel_rfl) (fun _ _ _ h => h) (Or.inl ⟨by kernel_rfl, ?_⟩) (by first | assumption | trivial) ?_
     rotate_left
     ·intro w hSw
      try dsimp only at hSw
      subst hSw
      first | (go_simp; done) | (go_simp; with_reducible rfl)
     try simp only [Act.put, List.getElem_toArray, List.getElem_cons_succ, List.getElem_cons_zero, List.setIfInBounds_toArray, List.set_cons_zero, List.set_cons_succ]
     refine wpAnyH_take (i := 6) (v := ?_) rfl (by kernel_rfl) (by kernel_rfl) (by kernel_rfl) (fun _ _ _ h => h) (Or.inl ⟨by kernel_rfl, ?_⟩) (by first | assumption | trivial) ?_
     rotate_left
     ·intro w hSw
      try dsimp only at hSw
      subst hSw
      first | (go_simp; done) | (go_simp; with_reducible rfl)
     try simp only [Act.put, List.getElem_toArray, List.getElem_cons_succ, List.getElem_cons_zero, List.setIfInBounds_toArray, List.set_cons_zero, List.set_cons_succ]
     refine wpAnyH_take (i := 7) (v := ?_) rfl (by kernel_rfl) (by kernel_rfl) (by kernel_rfl) (fun _ _ _ h => h) (Or.inl ⟨by kernel_rfl, ?_⟩) (by first | assumption | trivial) ?_
     rotate_left
     ·intro w hSw
      try dsimp only at hSw
      subst hSw
      first | (go_simp; done) | (go_simp; with_reducible rfl)
     try simp only [Act.put, List.getElem_toArray, List.getElem_cons_succ, List.getElem_cons_zero, List.setIfInBounds_toArray, List.set_cons_zero, List.set_cons_succ]
     refine wpAnyH_take (i := 8) (v := ?_) rfl (by kernel_rfl) (by kernel_rfl) (by kernel_rfl) (fun _ _ _ h => h) (Or.inl ⟨by kernel_rfl, ?_⟩) (by first | assumption | trivial) ?_
     rotate_left
     ·intro w hSw
      try dsimp only at hSw
      subst hSw
      first | (go_simp; done) | (go_simp; with_reducible rfl)
     try simp only [Act.put, List.getElem_toArray, List.getElem_cons_succ, List.getElem_cons_zero, List.setIfInBounds_toArray, List.set_cons_zero, List.set_cons_succ]
     refine wpAnyH_take (i := 9) (v := ?_) rfl (by kernel_rfl) (by kernel_rfl) (by kernel_rfl) (fun _ _ _ h => h) (Or.inl ⟨by kernel_rfl, ?_⟩) (by first | assumption | trivial) ?_
     rotate_left
     ·intro w hSw
      try dsimp only at hSw
      subst hSw
      first | (go_simp; done) | (go_simp; with_reducible rfl)
     try simp only [Act.put, List.getElem_toArray, List.getElem_cons_succ, List.getElem_cons_zero, List.setIfInBounds_toArray, List.set_cons_zero, List.set_cons_succ]
     refine wpAnyH_take (i := 10) (v := ?_) rfl (by kernel_rfl) (by kernel_rfl) (by kernel_rfl) (fun _ _ _ h => h) (Or.inl ⟨by kernel_rfl, ?_⟩) (by first | assumption | trivial) ?_
     rotate_left
     ·intro w hSw
      try dsimp only at hSw
      subst hSw
      first | (go_simp; done) | (go_simp; with_reducible rfl)
     try simp only [Act.put, List.getElem_toArray, List.getElem_cons_succ, List.getElem_cons_zero, List.setIfInBounds_toArray, List.set_cons_zero, List.set_cons_succ]
     refine wpAnyH_done (by kernel_rfl) ?_ _
     go_wp2_with fail
     go_roundw
     case rel => exact ⟨j + 1, by omega, by go_num, HW.out.drew⟩
     case measure => simp [intOf]; omega
    ·have hle : (nn : Int) ≤ (j : Int) := by omega
     go_wp2_with fail
     go_ret
     rw [HG1.out]
     exact ⟨rfl, HB2.out.trans (HW.out.mono (by have := HK1.out.lt; omega))⟩
end Go.Proofs.Ytpddmcimmkepfaa
namespace Go.Proofs.Ytpddmcimmkepfaa
open Go.RowKit
set_option linter.unusedSimpArgs false
theorem Ct.imp {P Q : Nat → Prop} {w : World} {N : Nat} {p : Option Addr} {n c : Nat} {rs : List Rn} (h : Ct P w N p n c rs) (hq : ∀ b, P b → Q b) : Ct Q w N p n c rs := ⟨h.rs.imp hq, h.n, h.ok⟩
theorem Ct.keepP {P : Nat → Prop} {w w' : World} {N : Nat} {p : Option Addr} {n c : Nat} {rs : List Rn} (h : Ct P w N p n c rs) (hk : KeepP P w w') : Ct P w' N p n c rs := ⟨h.rs.keepP hk, h.n, h.ok⟩
theorem Blk.keepP {P : Nat → Prop} {w w' : World} {b : Nat} {cs : Array Value} {t : TypeId} (h : Blk w b cs t) (hk : KeepP P w w') (hb : P b) : Blk w' b cs t := (hk.2 b h.lt hb).trans h
theorem cdo_o (w : World) (Q : Nat → Prop) (N : Nat) (NI : Int) (hNI : NI = (N : Int)) (p : Option Addr) (n c : Nat) (rs : List Rn) (y : MsgX) (fro : Int) (h : Ct Q w N p n c rs) (hq : ∀ b, Q b → b < w.heap.size) (hl : n ≤ 1000) (hN1 : 1 ≤ N) (hN8 : N ≤ 8) (Pm : Nat → Prop) (hy : y.InP Pm w) (hyl : y.m.ls.length ≤ 60) (rs2 : List Rn) (out : List (Int × Msg)) (err : Int) (hA : doC N rs y.m fro = (rs2, out, err)) :
  Calls Try.prog 10 #[.agg #[.int .i64 NI, .slice p n c], y.m.v (.slice y.pl y.m.ls.length y.cl) (.slice y.pn y.m.ns.length y.cn), .int .i64 fro] w fun a w' =>
   Below w.heap.size w w' ∧ ∃ p2 n2 c2 pv nv cv B, a = .returned (.tuple #[.agg #[.int .i64 NI, .slice p2 n2 c2], .slice pv nv cv, .int .i64 err]) ∧ w.heap.size ≤ B ∧ Ct (fun b => Q b ∨ (w.heap.size ≤ b ∧ b < B)) w' N p2 n2 c2 rs2 ∧ nv = out.length ∧ SaidL w' B (.slice pv nv cv) out := by
 subst hNI
 have ho := do_ok h.ok hN8 y.m hyl fro
 refine (cdo_any w Q N p n c rs y fro h.rs hq h.n hl hN1 hN8 h.ok.1 Pm hy hyl).mono ?_
 rintro a w' ⟨p2, n2, c2, pv, nv, cv, B, rfl, hn2, hnv, hB, hr, hs, hb⟩
 rw [hA] at hn2 hnv hr hs ho
 rw [hA]
 exact ⟨hb, p2, n2, c2, pv, nv, cv, B, rfl, hB, ⟨hr, hn2, ho.1⟩, hnv, hs⟩
/-- The cells of a list of numbers, free to be written. -/
def IntsAt (w : World) (p : Option Addr) (len k : Nat) : Prop := ∀ b o, p = some ⟨b, o, none⟩ → ∀ j, j < len * k → (∃ v, w.cell? ⟨b, o + j, none⟩ = some (.int .i64 v)) ∧ w.frozen? ⟨b, o + j, none⟩ = false
theorem IntsAt.set {w : World} {p : Option Addr} {len k : Nat} (h : IntsAt w p len k) (g i : Nat) (v : Int) : IntsAt (w.setCell ⟨g, i, none⟩ (.int .i64 v)) p len k := by
 intro b o e j hj
 obtain ⟨⟨u, hu⟩, hf⟩ := h b o e j hj
 refine ⟨?_, by rw [World.frozen?_setCell]; exact hf⟩
 by_cases hbg : (⟨g, i, none⟩ : Addr) = ⟨b, o + j, none⟩
 ·cases hbg
  exact ⟨v, World.cell?_setCell_same _ _ _ hu⟩
 ·exact ⟨u, by rw [World.cell?_setCell_other (h := hbg)]; exact hu⟩
theorem IntsAt.kept {w w' : World} {p : Option Addr} {len k : Nat} (h : IntsAt w p len k) (hb : Below w.heap.size w w') : IntsAt w' p len k := by
 intro b o e j hj
 obtain ⟨⟨u, hu⟩, hf⟩ := h b o e j hj
 have hlt := World.block_lt_of_cell? w _ hu
 have he : w'.heap[b]? = w.heap[b]? := hb.block b hlt
 exact ⟨⟨u, (World.cell?_of_block (a := ⟨b, o + j, none⟩) he).trans hu⟩, by unfold World.frozen? at hf ⊢; rw [he]; exact hf⟩
theorem TRow.ints {w : World} {p : Option Addr} {c : Nat} {xs : List Lin} (h : TRow encN w (.slice p xs.length c) xs) (hf : Fre w p xs.length) : IntsAt w p xs.length 4 := by
 intro b o e j hj
 subst e
 have hn : 0 < xs.length := by omega
 obtain ⟨cs, t, hB⟩ := hf b o rfl hn
 have hi : j / 4 < xs.length := by omega
 have hm : j % 4 < 4 := by omega
 obtain ⟨b2, o2, e2, _, hc⟩ := h.at_ (j / 4) hi
 cases e2
 have h1 := hc (j % 4) hm
 have e3 : o + j / 4 * 4 + j % 4 = o + j := by omega
 rw [show encN.k = 4 from rfl, e3] at h1
 refine ⟨?_, hB.free _⟩
 rw [h1]
 have : j % 4 = 0 ∨ j % 4 = 1 ∨ j % 4 = 2 ∨ j % 4 = 3 := by omega
 rcases this with h | h | h | h <;> rw [h] <;> exact ⟨_, rfl⟩
theorem Row.ints {w : World} {p : Option Addr} {c : Nat} {xs : List Int} (h : Row .i64 w (.slice p xs.length c) xs) (hf : Fre w p xs.length) : IntsAt w p xs.length 1 := by
 intro b o e j hj
 subst e
 have hn : 0 < xs.length := by omega
 obtain ⟨cs, t, hB⟩ := hf b o rfl hn
 obtain ⟨b2, o2, e2, _, hc⟩ := Row.atc h j (by omega)
 cases e2
 exact ⟨⟨_, hc⟩, hB.free _⟩
theorem TRow.some_ {α : Type} {e : Enc α} {w : World} {p : Option Addr} {n c : Nat} {xs : List α} (h : TRow e w (.slice p n c) xs) (hn : 0 < xs.length) : ∃ b o, p = some ⟨b, o, none⟩ := by
 obtain ⟨b, o, e, _⟩ := h.at_ 0 hn
 exact ⟨b, o, e⟩
/-- What Get answers, whether there is a cycle or not. -/
theorem GetP.uni {w : World} {base : Nat} {rs : List Rn} {k : Int} {x : RunX} {b : Bool} (h : GetP w base rs k x b) : x.r = (if b then rnAt rs k else noRun.r) ∧ x.In (fun b => base ≤ b) w ∧ Fre w x.pl x.r.ls.length := by
 cases b with
 | true => exact h.1 rfl
 | false =>
  have h1 := h.2 rfl
  subst h1
  exact ⟨rfl, ⟨HsR.nil_ _ _, TRow.nil_ _ _, At.nil_ _ _, Row.nil_ _ _ 0, At.nil_ _ _⟩, Fre.none_ _ _⟩
theorem get_sizes {N : Nat} {rs : List Rn} {k : Int} {b : Bool} (h : LOk N rs) (hb : hasB rs k = b) : (∀ q ∈ (if b then rnAt rs k else noRun.r).hs, q.ls.length ≤ 60) ∧ (if b then rnAt rs k else noRun.r).ls.length ≤ 480 ∧ (if b then rnAt rs k else noRun.r).ns.length ≤ 8 ∧ (if b then rnAt rs k else noRun.r).hs.length ≤ N := by
 cases b with
 | true =>
  have h1 := rnAt_mem hb
  exact ⟨fun q hq => ((h.1 _ h1).2 q hq).2, (h.2 _ h1).1, (h.2 _ h1).2, Nat.le_of_eq (h.1 _ h1).1⟩
 | false => exact ⟨(fun _ h => nomatch h), by show 0 ≤ 480; decide, by show 0 ≤ 8; decide, Nat.zero_le _⟩
theorem IntsAt.keepP {P : Nat → Prop} {w w' : World} {p : Option Addr} {len k : Nat} (h : IntsAt w p len k) (hk : KeepP P w w') (hP : ∀ b o, p = some ⟨b, o, none⟩ → P b) : IntsAt w' p len k := by
 intro b o e j hj
 obtain ⟨⟨u, hu⟩, hf⟩ := h b o e j hj
 have hlt := World.block_lt_of_cell? w _ hu
 have he : w'.heap[b]? = w.heap[b]? := hk.2 b hlt (hP b o e)
 exact ⟨⟨u, (World.cell?_of_block (a := ⟨b, o + j, none⟩) he).trans hu⟩, by unfold World.frozen? at hf ⊢; rw [he]; exact hf⟩
theorem IntsAt.keepG {g : Nat} {w w' : World} {p : Option Addr} {len k : Nat} (h : IntsAt w p len k) (hc : Chg g w w') (hP : ∀ b o, p = some ⟨b, o, none⟩ → b ≠ g) : IntsAt w' p len k := h.keepP (P := fun b => b ≠ g) (KeepP.of_chg hc (fun h => h rfl)) hP
/-- A list of numbers that may be written, in a block of P. -/
def LW (P : Nat → Prop) (p : Option Addr) (len k : Nat) (w : World) : Prop := (0 < len → ∃ b o, p = some ⟨b, o, none⟩ ∧ P b) ∧ IntsAt w p len k
theorem LW.set {P : Nat → Prop} {p : Option Addr} {len k : Nat} {w : World} (h : LW P p len k w) (g i : Nat) (v : Int) : LW P p len k (w.setCell ⟨g, i, none⟩ (.int .i64 v)) := ⟨h.1, h.2.set g i v⟩
theorem LW.kept {P : Nat → Prop} {p : Option Addr} {len k : Nat} {w w' : World} (h : LW P p len k w) (hb : Below w.heap.size w w') : LW P p len k w' := ⟨h.1, h.2.kept hb⟩
theorem LW.at_ {P : Nat → Prop} {p : Option Addr} {len k : Nat} {w : World} (h : LW P p len k w) (j q : Nat) (hj : j < len) (hq : q < k) : ∃ b o v, p = some ⟨b, o, none⟩ ∧ P b ∧ w.cell? ⟨b, o + j * k + q, none⟩ = some (.int .i64 v) ∧ w.frozen? ⟨b, o + j * k + q, none⟩ = false := by
 obtain ⟨b, o, e, hp⟩ := h.1 (by omega)
 have hlt : j * k + q < len * k := by
  have h1 : (j + 1) * k ≤ len * k := Nat.mul_le_mul_right k hj
  rw [Nat.succ_mul] at h1
  omega
 obtain ⟨⟨v, hv⟩, hf⟩ := h.2 b o e (j * k + q) hlt
 rw [← Nat.add_assoc] at hv hf
 exact ⟨b, o, v, e, hp, hv, hf⟩
theorem LW.at1 {P : Nat → Prop} {p : Option Addr} {len : Nat} {w : World} (h : LW P p len 1 w) (j : Nat) (hj : j < len) : ∃ b o v, p = some ⟨b, o, none⟩ ∧ P b ∧ w.cell? ⟨b, o + j, none⟩ = some (.int .i64 v) ∧ w.frozen? ⟨b, o + j, none⟩ = false := by
 obtain ⟨b, o, v, e, hp, h1, h2⟩ := h.at_ j 0 hj (by decide)
 rw [Nat.mul_one, Nat.add_zero] at h1 h2
 exact ⟨b, o, v, e, hp, h1, h2⟩
theorem LW.chg {P : Nat → Prop} {p : Option Addr} {len k g : Nat} {w w' : World} (h : LW P p len k w) (hc : Chg g w w') (hg : ¬ P g) : LW P p len k w' := by
 refine ⟨h.1, fun b o e j hj => ?_⟩
 have h0 : 0 < len := by
  rcases Nat.eq_zero_or_pos len with h0 | h0
  ·rw [h0, Nat.zero_mul] at hj
   exact absurd hj (Nat.not_lt_zero _)
  ·exact h0
 obtain ⟨b2, o2, e2, hp⟩ := h.1 h0
 refine (h.2.keepG hc (fun b' o' e' => ?_)) b o e j hj
 cases e'.symm.trans e2
 exact fun e3 => hg (e3 ▸ hp)
/-- Only blocks outside P have changed, and none that was there when the law began. -/
def Wr (P : Nat → Prop) (w W0 wr : World) : Prop := KeepP P W0 wr ∧ Below w.heap.size w wr
theorem Wr.set {P : Nat → Prop} {w W0 wr : World} {g : Nat} (h : Wr P w W0 wr) (hp : ¬ P g) (hg : w.heap.size ≤ g) (i : Nat) (v : Value) : Wr P w W0 (wr.setCell ⟨g, i, none⟩ v) :=
 ⟨h.1.trans (KeepP.of_chg ((Chg.refl g wr).set i v) hp), h.2.setCell (p := ⟨g, i, none⟩) hg v⟩
theorem Wr.kept {P : Nat → Prop} {w W0 wr w' : World} (h : Wr P w W0 wr) (hb : Below wr.heap.size wr w') : Wr P w W0 w' := ⟨h.1.trans (KeepP.of_below hb), h.2.trans (hb.mono h.2.size)⟩
theorem Wr.start {P : Nat → Prop} {w W0 : World} (h : Below w.heap.size w W0) : Wr P w W0 W0 := ⟨KeepP.refl _ _, h⟩
def InS (B S : Nat) (pv : Option Addr) (nv cv : Nat) (b : Nat) : Prop := B ≤ b ∧ b < S ∧ (Value.slice pv nv cv).ownBlock ≠ some b
/-- What is said, its numbers being written. -/
def Sdw (B S : Nat) (pv : Option Addr) (nv cv : Nat) (xs : List SdX) (w W0 wr : World) : Prop :=
 (OwnT encS wr B 47 (.slice pv nv cv) xs ∧ ∀ z ∈ xs, LW (InS B S pv nv cv) z.x.pl z.x.m.ls.length 4 wr ∧ LW (InS B S pv nv cv) z.x.pn z.x.m.ns.length 1 wr ∧ z.x.m.Sz) ∧ Wr (fun b => ¬ (B ≤ b ∧ b < S)) w W0 wr ∧ w.heap.size ≤ B
theorem Sdw.set {B S : Nat} {pv : Option Addr} {nv cv : Nat} {xs : List SdX} {w W0 wr : World} {g : Nat} (h : Sdw B S pv nv cv xs w W0 wr) (hg : InS B S pv nv cv g) (i : Nat) (v : Int) : Sdw B S pv nv cv xs w W0 (wr.setCell ⟨g, i, none⟩ (.int .i64 v)) :=
 ⟨⟨h.1.1.stay (fun b hb => ((Chg.refl g wr).set i (.int .i64 v)).2 b (h.1.1.lt b hb) (fun e => hg.2.2 (e ▸ hb))), fun z hz => ⟨(h.1.2 z hz).1.set _ _ _, (h.1.2 z hz).2.1.set _ _ _, (h.1.2 z hz).2.2⟩⟩, h.2.1.set (fun hn => hn ⟨hg.1, hg.2.1⟩) (Nat.le_trans h.2.2 hg.1) i _, h.2.2⟩
theorem Sdw.kept {B S : Nat} {pv : Option Addr} {nv cv : Nat} {xs : List SdX} {w W0 wr w' : World} (h : Sdw B S pv nv cv xs w W0 wr) (hb : Below wr.heap.size wr w') : Sdw B S pv nv cv xs w W0 w' :=
 ⟨⟨h.1.1.later hb, fun z hz => ⟨(h.1.2 z hz).1.kept hb, (h.1.2 z hz).2.1.kept hb, (h.1.2 z hz).2.2⟩⟩, h.2.1.kept hb, h.2.2⟩
theorem lw_lines {P : Nat → Prop} {w : World} {p : Option Addr} {c : Nat} {xs : List Lin} (h : TRow encN w (.slice p xs.length c) xs) (ha : At P (.slice p xs.length c) xs.length) (hf : Fre w p xs.length) : LW P p xs.length 4 w :=
 ⟨fun hn => by
  obtain ⟨b, o, e⟩ := h.some_ hn
  exact ⟨b, o, e, ha b o _ _ (by rw [e]) hn⟩, h.ints hf⟩
theorem lw_nums {P : Nat → Prop} {w : World} {p : Option Addr} {c : Nat} {xs : List Int} (h : Row .i64 w (.slice p xs.length c) xs) (ha : At P (.slice p xs.length c) xs.length) (hf : Fre w p xs.length) : LW P p xs.length 1 w :=
 ⟨fun hn => by
  obtain ⟨b, o, e, _⟩ := Row.atc h 0 hn
  exact ⟨b, o, e, ha b o _ _ (by rw [e]) hn⟩, h.ints hf⟩
/-- What each has said, read. -/
theorem HsR.at_ {P : Nat → Prop} {w : World} {p : Option Addr} {n c : Nat} {hs : List Hd} (h : HsR P w (.slice p n c) hs) (k : Nat) (hk : k < hs.length) : ∃ b o pq cq, p = some ⟨b, o, none⟩ ∧ w.cell? ⟨b, o + k * 3 + 2, none⟩ = some (.slice pq hs[k].ls.length cq) ∧ TRow encN w (.slice pq hs[k].ls.length cq) hs[k].ls := by
 obtain ⟨xs, h1, h2, h3, rfl⟩ := h
 have hk2 : k < xs.length := by rw [List.length_map] at hk; exact hk
 obtain ⟨b, o, e, _, hc⟩ := h1.at_ k hk2
 refine ⟨b, o, xs[k].p, xs[k].c, e, ?_, ?_⟩
 ·simp only [List.getElem_map]
  exact hc 2 (by decide)
 ·simp only [List.getElem_map]
  exact (h3 _ (List.getElem_mem hk2)).1
theorem do_out (rs : List Rn) (m : Msg) (fro : Int) : (doC 3 rs m fro).2.1.length ≤ 3 := by
 have h : ∀ (c : Prop) (_ : Decidable c) (a b : CAns), a.2.1.length ≤ 3 → b.2.1.length ≤ 3 → (if c then a else b).2.1.length ≤ 3 := by
  intro c _ a b ha hb
  split <;> assumption
 unfold doC startC dueC queryC offerC voteC
 repeat' (with_reducible refine h _ _ _ _ ?_ ?_)
 all_goals first | (show 0 ≤ 3; decide) | (show 1 ≤ 3; decide) | (show (toAllL 3 _).length ≤ 3; rw [toAllL_len]; decide)
/-- One cell. -/
def CellIs (b i : Nat) (v : Value) (w : World) : Prop := w.cell? ⟨b, i, none⟩ = some v
theorem CellIs.kept {b i : Nat} {v : Value} {w w' : World} (h : CellIs b i v w) (hb : Below w.heap.size w w') : CellIs b i v w' := (hb.cell (p := ⟨b, i, none⟩) (World.block_lt_of_cell? w _ h)).trans h
end Go.Proofs.Ytpddmcimmkepfaa
namespace Go.Proofs.Ytpddmcimmkepfaa
open Go.RowKit
set_option linter.unusedSimpArgs false
def fitZ (z : SdX) : Bool := decide (z.x.m.ls.length ≤ 60) && decide (z.x.m.ns.length ≤ 12)
def fitsC (ws : List SdX) : Bool := decide (ws.length ≤ 60) && ws.all fitZ
theorem fitsC_ok {ws : List SdX} (h : fitsC ws = true) : ws.length ≤ 60 ∧ ∀ z ∈ ws, z.x.m.ls.length ≤ 60 ∧ z.x.m.ns.length ≤ 12 := by
 unfold fitsC fitZ at h
 simp only [Bool.and_eq_true, decide_eq_true_eq, List.all_eq_true] at h
 exact ⟨h.1, h.2⟩
set_option linter.unusedSimpArgs false in
set_option maxHeartbeats 4000000 in
set_option maxRecDepth 100000 in
theorem cfits_any (w : World) (vw : Value) (ws : List SdX) (hw : TRow encS w vw ws) :
  Calls Try.prog 9 #[vw] w fun e w' => e = .returned (.bool (fitsC ws)) ∧ Below w.heap.size w w' := by
 obtain ⟨p2, c2, rfl⟩ := hw.shape
 by_cases h2 : 60 < ws.length
 ·have e : fitsC ws = false := by unfold fitsC; rw [show decide (ws.length ≤ 60) = false by simp; omega]; rfl
  rw [e]
  have hI : (60 : Int) < (ws.length : Int) := by omega
  clear hw h2 e
  go_enter Try.func9, Try.ntmps9
  go_wp2_with fail
  go_ret
  exact ⟨rfl, Below.refl _ _⟩
 have e2 : decide (ws.length ≤ 60) = true := by simp; omega
 have hI2 : ¬ (60 : Int) < (ws.length : Int) := by omega
 have HE : Hid (fitsC ws = ws.all fitZ) := by show _ = _; unfold fitsC; rw [e2]; rfl
 have HW := Lib.hid hw
 have HWN : Hid (ws.length ≤ 60) := by show _ ≤ _; omega
 clear hw h2 e2
 generalize hn : ws.length = n at *
 have HL : Hid (ws.length = n) := Lib.hid hn
 clear hn
 have HREL : Hid (Below w.heap.size w w ∧ (ws.take 0).all fitZ = true) := ⟨Below.refl _ _, rfl⟩
 go_enter Try.func9, Try.ntmps9
 go_upto_region 3 with fail
 clear hI2
 go_wp2_with fail
 go_loopw [10] (fun i wr => ∃ k : Nat, k ≤ n ∧ i = .int .i64 k ∧ Hid (Below w.heap.size w wr ∧ (ws.take k).all fitZ = true)) (fun i _ => n - (intOf i).toNat)
 case atStart => exact ⟨0, by omega, rfl, HREL⟩
 case round =>
  clear HREL
  obtain ⟨k, hk, rfl, HK⟩ := hrel
  have hk9 : k + 1 ≤ 61 := by have := HWN.out; omega
  by_cases hlt : k < n
  ·have hkl : k < ws.length := by rw [HL.out]; exact hlt
   have hltI : (k : Int) < (n : Int) := by omega
   have HTA : Hid ((ws.take (k + 1)).all fitZ = fitZ ws[k]) := by show _ = _; rw [List.take_succ_eq_append_getElem hkl, List.all_append, HK.out.2]; simp
   have HNO : Hid (fitZ ws[k] = false → ws.all fitZ = false) := fun h => by
    cases ha : ws.all fitZ
    ·rfl
    ·rw [List.all_eq_true] at ha
     rw [ha _ (List.getElem_mem hkl)] at h
     cases h
   obtain ⟨b, o, rfl, hbl, hcs⟩ := (HW.out.kept HK.out.1).at_ k hkl
   generalize ws[k] = z at *
   have c0 : wr.cell? ⟨b, o + k * 12, none⟩ = some (.int .i64 z.tw) := hcs 0 (by decide)
   have c1 : wr.cell? ⟨b, o + k * 12 + 1, none⟩ = some (.int .i64 z.x.m.k) := hcs 1 (by decide)
   have c2 : wr.cell? ⟨b, o + k * 12 + 2, none⟩ = some (.int .i64 z.x.m.s) := hcs 2 (by decide)
   have c3 : wr.cell? ⟨b, o + k * 12 + 3, none⟩ = some (.int .i64 z.x.m.n) := hcs 3 (by decide)
   have c4 : wr.cell? ⟨b, o + k * 12 + 4, none⟩ = some (.int .i64 z.x.m.b) := hcs 4 (by decide)
   have c5 : wr.cell? ⟨b, o + k * 12 + 5, none⟩ = some (.int .i64 z.x.m.c) := hcs 5 (by decide)
   have c6 : wr.cell? ⟨b, o + k * 12 + 6, none⟩ = some (.int .i64 z.x.m.r) := hcs 6 (by decide)
   have c7 : wr.cell? ⟨b, o + k * 12 + 7, none⟩ = some (.int .i64 z.x.m.y) := hcs 7 (by decide)
   have c8 : wr.cell? ⟨b, o + k * 12 + 8, none⟩ = some (.int .i64 z.x.m.a) := hcs 8 (by decide)
   have c9 : wr.cell? ⟨b, o + k * 12 + 9, none⟩ = some (.bool z.x.m.t) := hcs 9 (by decide)
   have c10 : wr.cell? ⟨b, o + k * 12 + 10, none⟩ = some (.slice z.x.pl z.x.m.ls.length z.x.cl) := hcs 10 (by decide)
   have c11 : wr.cell? ⟨b, o + k * 12 + 11, none⟩ = some (.slice z.x.pn z.x.m.ns.length z.x.cn) := hcs 11 (by decide)
   have HX := Lib.hid (Blk.new wr #[.int .i64 z.tw, .int .i64 z.x.m.k, .int .i64 z.x.m.s, .int .i64 z.x.m.n, .int .i64 z.x.m.b, .int .i64 z.x.m.c, .int .i64 z.x.m.r, .int .i64 z.x.m.y, .int .i64 z.x.m.a, .bool z.x.m.t, .slice z.x.pl z.x.m.ls.length z.x.cl, .slice z.x.pn z.x.m.ns.length z.x.cn] 38)
   have HB1 := Lib.hid (HK.out.1.alloc HK.out.1.size (.cells #[.int .i64 z.tw, .int .i64 z.x.m.k, .int .i64 z.x.m.s, .int .i64 z.x.m.n, .int .i64 z.x.m.b, .int .i64 z.x.m.c, .int .i64 z.x.m.r, .int .i64 z.x.m.y, .int .i64 z.x.m.a, .bool z.x.m.t, .slice z.x.pl z.x.m.ls.length z.x.cl, .slice z.x.pn z.x.m.ns.length z.x.cn] 38))
   clear hcs
   go_upto_region 6 with fail
   clear c0 c1 c2 c3 c4 c5 c6 c7 c8 c9 c10 c11
   generalize (wr.alloc (.cells #[.int .i64 z.tw, .int .i64 z.x.m.k, .int .i64 z.x.m.s, .int .i64 z.x.m.n, .int .i64 z.x.m.b, .int .i64 z.x.m.c, .int .i64 z.x.m.r, .int .i64 z.x.m.y, .int .i64 z.x.m.a, .bool z.x.m.t, .slice z.x.pl z.x.m.ls.length z.x.cl, .slice z.x.pn z.x.m.ns.length z.x.cn] 38)) = W2 at *
   generalize wr.heap.size = gx at *
   have c10 : W2.cell? ⟨gx, 10, none⟩ = some (.slice z.x.pl z.x.m.ls.length z.x.cl) := HX.out.cell 10
   have c11 : W2.cell? ⟨gx, 11, none⟩ = some (.slice z.x.pn z.x.m.ns.length z.x.cn) := HX.out.cell 11
   by_cases hl : 60 < z.x.m.ls.length
   ·have hlI : (60 : Int) < (z.x.m.ls.length : Int) := by omega
    have HF : Hid (fitsC ws = false) := by
     show _ = _
     rw [HE.out, HNO.out (by unfold fitZ; rw [show decide (z.x.m.ls.length ≤ 60) = false by simp; omega]; rfl)]
    clear hl
    go_wp2_with fail
    go_ret
    exact ⟨by rw [HF.out]; rfl, HB1.out⟩
   ·have hlI : ¬ (60 : Int) < (z.x.m.ls.length : Int) := by omega
    by_cases hm : 12 < z.x.m.ns.length
    ·have hmI : (12 : Int) < (z.x.m.ns.length : Int) := by omega
     have HF : Hid (fitsC ws = false) := by
      show _ = _
      rw [HE.out, HNO.out (by unfold fitZ; rw [show decide (z.x.m.ns.length ≤ 12) = false by simp; omega, Bool.and_false])]
     clear hl hm
     go_wp2_with fail
     go_ret
     exact ⟨by rw [HF.out]; rfl, HB1.out⟩
    ·have hmI : ¬ (12 : Int) < (z.x.m.ns.length : Int) := by omega
     have HNX : Hid (Below w.heap.size w W2 ∧ (ws.take (k + 1)).all fitZ = true) := ⟨HB1.out, by rw [HTA.out]; unfold fitZ; rw [show decide (z.x.m.ls.length ≤ 60) = true by simp; omega, show decide (z.x.m.ns.length ≤ 12) = true by simp; omega]; rfl⟩
     clear hl hm
     go_wp2_with fail
     go_roundw
     case rel => exact ⟨k + 1, by omega, by go_num, HNX⟩
     case measure => simp [intOf]; omega
  ·have hltI : ¬ (k : Int) < (n : Int) := by omega
   have HF : Hid (fitsC ws = true) := by
    show _ = _
    rw [HE.out, ← HK.out.2, List.take_of_length_le (by rw [HL.out]; omega)]
   go_wp2_with fail
   go_ret
   exact ⟨by rw [HF.out]; rfl, HK.out.1⟩
end Go.Proofs.Ytpddmcimmkepfaa
namespace Go.Proofs.Ytpddmcimmkepfaa
open Go.RowKit
set_option linter.unusedSimpArgs false
/-- What is said, where it may be written. -/
def SdO (B S : Nat) (pv : Option Addr) (nv cv : Nat) (xs : List SdX) (w : World) : Prop := OwnT encS w B 47 (.slice pv nv cv) xs ∧ ∀ z ∈ xs, z.x.InF (InS B S pv nv cv) w
theorem SdO.kept {B S : Nat} {pv : Option Addr} {nv cv : Nat} {xs : List SdX} {w w' : World} (h : SdO B S pv nv cv xs w) (hb : Below w.heap.size w w') : SdO B S pv nv cv xs w' := ⟨h.1.later hb, fun z hz => (h.2 z hz).kept hb⟩
theorem SdO.keepP {B S : Nat} {pv : Option Addr} {nv cv : Nat} {xs : List SdX} {w w' : World} (h : SdO B S pv nv cv xs w) (hk : KeepP (fun b => B ≤ b) w w') : SdO B S pv nv cv xs w' :=
 ⟨h.1.stay (fun g hg => hk.2 g (h.1.lt g hg) (h.1.block_ge g hg)), fun z hz => (h.2 z hz).keepP (hk.weak (fun _ hb => hb.1))⟩
theorem SdO.chg {B S : Nat} {pv : Option Addr} {nv cv : Nat} {xs : List SdX} {g : Nat} {w w' : World} (h : SdO B S pv nv cv xs w) (hc : Chg g w w') (hg : ¬ B ≤ g) : SdO B S pv nv cv xs w' := h.keepP (KeepP.of_chg hc hg)
theorem SdO.of {B : Nat} {pv : Option Addr} {nv cv : Nat} {out : List (Int × Msg)} {w : World} (h : SaidL w B (.slice pv nv cv) out) : ∃ xs, SdO B w.heap.size pv nv cv xs w ∧ xs.length = out.length := by
 obtain ⟨xs, h1, h2, h3⟩ := h
 refine ⟨xs, ⟨h1, fun z hz => ⟨⟨(h2 z hz).i.ls, (h2 z hz).i.ns, ?_, ?_, (h2 z hz).i.sz⟩, (h2 z hz).fl, (h2 z hz).fn⟩⟩, by rw [← h3, List.length_map]⟩
 ·exact ((h2 z hz).i.al.ltT (h2 z hz).i.ls).imp (fun b h => ⟨h.1.1, h.2, h.1.2⟩)
 ·exact ((h2 z hz).i.an.ltR (h2 z hz).i.ns).imp (fun b h => ⟨h.1.1, h.2, h.1.2⟩)
theorem SdO.toW {B S : Nat} {pv : Option Addr} {nv cv : Nat} {xs : List SdX} {w W0 : World} (h : SdO B S pv nv cv xs W0) (hb : Below w.heap.size w W0) (hB : w.heap.size ≤ B) : Sdw B S pv nv cv xs w W0 W0 :=
 ⟨⟨h.1, fun z hz => ⟨lw_lines (h.2 z hz).i.ls (h.2 z hz).i.al (h.2 z hz).fl, lw_nums (h.2 z hz).i.ns (h.2 z hz).i.an (h.2 z hz).fn, (h.2 z hz).i.sz⟩⟩, Wr.start hb, hB⟩
theorem RunX.In.chg {P : Nat → Prop} {w w' : World} {x : RunX} {g : Nat} (h : x.In P w) (hc : Chg g w w') (hg : ¬ P g) : x.In P w' := h.keepP (KeepP.of_chg hc hg)
set_option linter.unusedSimpArgs false in
set_option maxHeartbeats 4000000 in
set_option maxRecDepth 100000 in
theorem own_walk (v : Value) (ws : List SdX) (nn : Int) (w : World) (hw : TRow encS w v ws) (hin : ∀ z ∈ ws, z.x.In w) (_hnn : -9223372036854775808 ≤ nn ∧ nn ≤ 9223372036854775807) :
  Calls Try.prog 5 #[v, .int .i64 nn] w fun e w' => e = .returned (.bool true) ∧ Below w.heap.size w w' := by
 obtain ⟨wp, wc, hv⟩ := hw.shape
 generalize hwn : ws.length = wn at hv
 subst hv
 have HWR := Lib.hid hw
 have HWI := Lib.hid hin
 have HWN : Hid (ws.length = wn) := Lib.hid hwn
 clear hw hin hwn _hnn
 have HL := Lib.hid (fun W => leads_any W)
 go_enter Try.func5, Try.ntmps5
 go_wp2_with fail
 refine (HL.out w).mono ?_
 rintro y9 W ⟨rfl, hb⟩
 clear HL
 have HB0 := Lib.hid hb
 have HG := Lib.hid (cfits_any W (.slice wp wn wc) ws (HWR.out.kept hb))
 clear hb
 obtain ⟨bf, hbf⟩ : ∃ bf, fitsC ws = bf := ⟨_, rfl⟩
 rw [hbf] at HG
 have HBF := Lib.hid hbf
 clear hbf
 go_wp2_with fail
 refine HG.out.mono ?_
 rintro y9 W1 ⟨rfl, hb⟩
 clear HG
 have HB1 := ktq HB0 hb
 clear hb HB0
 cases bf
 ·go_wp2_with fail
  go_ret
  exact ⟨rfl, HB1.out⟩
 have HFT := Lib.hid (fitsC_ok HBF.out)
 have HN60 : Hid (wn ≤ 60) := Lib.hid (by have := HFT.out.1; have := HWN.out; omega)
 clear HBF
 go_upto_region 5 with fail
 have HZ1 : Hid (w.heap.size ≤ W1.heap.size) := Lib.hid HB1.out.size
 have hba := oneB W1 (.cells #[.int .i64 3, .slice none 0 0] 27)
 have Hc2 := Lib.hid (Blk.new W1 #[.int .i64 3, .slice none 0 0] 27)
 have HB2 := Lib.hid (HB1.out.alloc HB1.out.size (.cells #[.int .i64 3, .slice none 0 0] 27))
 have HZ2 := kzq HZ1 hba.size
 have HGgc : Hid (w.heap.size ≤ W1.heap.size) := Lib.hid HB1.out.size
 clear hba HB1 HZ1
 go_upto_region 6 with fail
 generalize (W1.alloc (.cells #[.int .i64 3, .slice none 0 0] 27)) = W2 at *
 generalize hggc : W1.heap.size = gc at *
 clear hggc
 have HREL : Hid (∃ (rs : List Rn) (p : Option Addr) (m c : Nat), Blk W2 gc #[.int .i64 3, .slice p m c] 27 ∧ Ct (NotIn [gc]) W2 3 p m c rs ∧ rs.length ≤ 0 ∧ Below w.heap.size w W2) := Lib.hid ⟨[], none, 0, 0, Hc2.out, Ct.nil_ _ _ _, Nat.le_refl _, HB2.out⟩
 clear Hc2 HB2 HZ2
 go_wp2_with fail
 go_loopw [33] (fun i wr => ∃ k : Nat, k ≤ wn ∧ i = .int .i64 k ∧ Hid (∃ (rs : List Rn) (p : Option Addr) (m c : Nat), Blk wr gc #[.int .i64 3, .slice p m c] 27 ∧ Ct (NotIn [gc]) wr 3 p m c rs ∧ rs.length ≤ k ∧ Below w.heap.size w wr)) (fun i _ => wn - (intOf i).toNat)
 case atStart => exact ⟨0, by omega, rfl, HREL⟩
 case round =>
  clear HREL
  obtain ⟨k, hk, rfl, HK⟩ := hrel
  have hk9 : k + 1 ≤ 61 := by have := HN60.out; omega
  by_cases hlt : k < wn
  ·skip
   have hltI : (k : Int) < (wn : Int) := by omega
   have HLT : Hid (k < wn) := Lib.hid hlt
   obtain ⟨rs, p0, m0, q0, hk1, hk2, hk5, hk4⟩ := HK.out
   have Hc20 := Lib.hid hk1
   have Qc20 : Hid (Ct (fun b => (NotIn [gc]) b ∧ b < wr.heap.size) wr 3 p0 m0 q0 rs) := Lib.hid ⟨hk2.rs.lt, hk2.n, hk2.ok⟩
   have HRL := Lib.hid hk5
   have HB20 := Lib.hid hk4
   have HZ20 : Hid (w.heap.size ≤ wr.heap.size) := Lib.hid hk4.size
   clear HK hk1 hk2 hk4 hk5
   have hkl : k < ws.length := by have := HWN.out; omega
   obtain ⟨zb, zo, hzp, hzl, hzc⟩ := (HWR.out.kept HB20.out).at_ k hkl
   subst hzp
   have HZI : Hid (ws[k].x.In w) := Lib.hid (HWI.out _ (List.getElem_mem hkl))
   have HZF := Lib.hid (HFT.out.2 _ (List.getElem_mem hkl))
   generalize ws[k] = z at *
   clear hkl hlt hk hzl
   have c0 : wr.cell? ⟨zb, zo + k * 12, none⟩ = some (.int .i64 z.tw) := hzc 0 (by decide)
   have c1 : wr.cell? ⟨zb, zo + k * 12 + 1, none⟩ = some (.int .i64 z.x.m.k) := hzc 1 (by decide)
   have c2 : wr.cell? ⟨zb, zo + k * 12 + 2, none⟩ = some (.int .i64 z.x.m.s) := hzc 2 (by decide)
   have c3 : wr.cell? ⟨zb, zo + k * 12 + 3, none⟩ = some (.int .i64 z.x.m.n) := hzc 3 (by decide)
   have c4 : wr.cell? ⟨zb, zo + k * 12 + 4, none⟩ = some (.int .i64 z.x.m.b) := hzc 4 (by decide)
   have c5 : wr.cell? ⟨zb, zo + k * 12 + 5, none⟩ = some (.int .i64 z.x.m.c) := hzc 5 (by decide)
   have c6 : wr.cell? ⟨zb, zo + k * 12 + 6, none⟩ = some (.int .i64 z.x.m.r) := hzc 6 (by decide)
   have c7 : wr.cell? ⟨zb, zo + k * 12 + 7, none⟩ = some (.int .i64 z.x.m.y) := hzc 7 (by decide)
   have c8 : wr.cell? ⟨zb, zo + k * 12 + 8, none⟩ = some (.int .i64 z.x.m.a) := hzc 8 (by decide)
   have c9 : wr.cell? ⟨zb, zo + k * 12 + 9, none⟩ = some (.bool z.x.m.t) := hzc 9 (by decide)
   have c10 : wr.cell? ⟨zb, zo + k * 12 + 10, none⟩ = some (.slice z.x.pl z.x.m.ls.length z.x.cl) := hzc 10 (by decide)
   have c11 : wr.cell? ⟨zb, zo + k * 12 + 11, none⟩ = some (.slice z.x.pn z.x.m.ns.length z.x.cn) := hzc 11 (by decide)
   clear hzc
   have HGZ : Hid (gc < wr.heap.size) := Lib.hid Hc20.out.lt
   have hba := oneB wr (.cells #[.int .i64 z.tw, .int .i64 z.x.m.k, .int .i64 z.x.m.s, .int .i64 z.x.m.n, .int .i64 z.x.m.b, .int .i64 z.x.m.c, .int .i64 z.x.m.r, .int .i64 z.x.m.y, .int .i64 z.x.m.a, .bool z.x.m.t, .slice z.x.pl z.x.m.ls.length z.x.cl, .slice z.x.pn z.x.m.ns.length z.x.cn] 38)
   have Hc21 := kbq Hc20 hba
   have Qc21 := Lib.hid (Qc20.out.kept hba)
   have Hz21 := Lib.hid (Blk.new wr #[.int .i64 z.tw, .int .i64 z.x.m.k, .int .i64 z.x.m.s, .int .i64 z.x.m.n, .int .i64 z.x.m.b, .int .i64 z.x.m.c, .int .i64 z.x.m.r, .int .i64 z.x.m.y, .int .i64 z.x.m.a, .bool z.x.m.t, .slice z.x.pl z.x.m.ls.length z.x.cl, .slice z.x.pn z.x.m.ns.length z.x.cn] 38)
   have HB21 := Lib.hid (HB20.out.alloc HB20.out.size (.cells #[.int .i64 z.tw, .int .i64 z.x.m.k, .int .i64 z.x.m.s, .int .i64 z.x.m.n, .int .i64 z.x.m.b, .int .i64 z.x.m.c, .int .i64 z.x.m.r, .int .i64 z.x.m.y, .int .i64 z.x.m.a, .bool z.x.m.t, .slice z.x.pl z.x.m.ls.length z.x.cl, .slice z.x.pn z.x.m.ns.length z.x.cn] 38))
   have HZ21 := kzq HZ20 hba.size
   have HGgz : Hid (w.heap.size ≤ wr.heap.size) := Lib.hid HB20.out.size
   clear hba Hc20 Qc20 HB20 HZ20
   go_upto_region 9 with fail
   clear hltI c0 c1 c2 c3 c4 c5 c6 c7 c8 c9 c10 c11
   generalize (wr.alloc (.cells #[.int .i64 z.tw, .int .i64 z.x.m.k, .int .i64 z.x.m.s, .int .i64 z.x.m.n, .int .i64 z.x.m.b, .int .i64 z.x.m.c, .int .i64 z.x.m.r, .int .i64 z.x.m.y, .int .i64 z.x.m.a, .bool z.x.m.t, .slice z.x.pl z.x.m.ls.length z.x.cl, .slice z.x.pn z.x.m.ns.length z.x.cn] 38)) = W3 at *
   generalize hggz : wr.heap.size = gz at *
   clear hggz
   have z0 : W3.cell? ⟨gz, 0, none⟩ = some (.int .i64 z.tw) := Hz21.out.cell 0
   have z1 : W3.cell? ⟨gz, 1, none⟩ = some (.int .i64 z.x.m.k) := Hz21.out.cell 1
   have z2 : W3.cell? ⟨gz, 2, none⟩ = some (.int .i64 z.x.m.s) := Hz21.out.cell 2
   have z3 : W3.cell? ⟨gz, 3, none⟩ = some (.int .i64 z.x.m.n) := Hz21.out.cell 3
   have z4 : W3.cell? ⟨gz, 4, none⟩ = some (.int .i64 z.x.m.b) := Hz21.out.cell 4
   have z5 : W3.cell? ⟨gz, 5, none⟩ = some (.int .i64 z.x.m.c) := Hz21.out.cell 5
   have z6 : W3.cell? ⟨gz, 6, none⟩ = some (.int .i64 z.x.m.r) := Hz21.out.cell 6
   have z7 : W3.cell? ⟨gz, 7, none⟩ = some (.int .i64 z.x.m.y) := Hz21.out.cell 7
   have z8 : W3.cell? ⟨gz, 8, none⟩ = some (.int .i64 z.x.m.a) := Hz21.out.cell 8
   have z9 : W3.cell? ⟨gz, 9, none⟩ = some (.bool z.x.m.t) := Hz21.out.cell 9
   have z10 : W3.cell? ⟨gz, 10, none⟩ = some (.slice z.x.pl z.x.m.ls.length z.x.cl) := Hz21.out.cell 10
   have z11 : W3.cell? ⟨gz, 11, none⟩ = some (.slice z.x.pn z.x.m.ns.length z.x.cn) := Hz21.out.cell 11
   have HGM : Hid (gz < W3.heap.size) := Lib.hid Hz21.out.lt
   have hba := oneB W3 (.cells #[.int .i64 z.x.m.k, .int .i64 z.x.m.s, .int .i64 z.x.m.n, .int .i64 z.x.m.b, .int .i64 z.x.m.c, .int .i64 z.x.m.r, .int .i64 z.x.m.y, .int .i64 z.x.m.a, .bool z.x.m.t, .slice z.x.pl z.x.m.ls.length z.x.cl, .slice z.x.pn z.x.m.ns.length z.x.cn] 36)
   have Hc22 := kbq Hc21 hba
   have Hz22 := kbq Hz21 hba
   have Qc22 := Lib.hid (Qc21.out.kept hba)
   have Hm22 := Lib.hid (Blk.new W3 #[.int .i64 z.x.m.k, .int .i64 z.x.m.s, .int .i64 z.x.m.n, .int .i64 z.x.m.b, .int .i64 z.x.m.c, .int .i64 z.x.m.r, .int .i64 z.x.m.y, .int .i64 z.x.m.a, .bool z.x.m.t, .slice z.x.pl z.x.m.ls.length z.x.cl, .slice z.x.pn z.x.m.ns.length z.x.cn] 36)
   have HB22 := Lib.hid (HB21.out.alloc HB21.out.size (.cells #[.int .i64 z.x.m.k, .int .i64 z.x.m.s, .int .i64 z.x.m.n, .int .i64 z.x.m.b, .int .i64 z.x.m.c, .int .i64 z.x.m.r, .int .i64 z.x.m.y, .int .i64 z.x.m.a, .bool z.x.m.t, .slice z.x.pl z.x.m.ls.length z.x.cl, .slice z.x.pn z.x.m.ns.length z.x.cn] 36))
   have HZ22 := kzq HZ21 hba.size
   have HGgm : Hid (w.heap.size ≤ W3.heap.size) := Lib.hid HB21.out.size
   clear hba Hc21 Hz21 Qc21 HB21 HZ21
   go_upto_region 10 with fail
   clear z0 z1 z2 z3 z4 z5 z6 z7 z8 z9 z10 z11
   generalize (W3.alloc (.cells #[.int .i64 z.x.m.k, .int .i64 z.x.m.s, .int .i64 z.x.m.n, .int .i64 z.x.m.b, .int .i64 z.x.m.c, .int .i64 z.x.m.r, .int .i64 z.x.m.y, .int .i64 z.x.m.a, .bool z.x.m.t, .slice z.x.pl z.x.m.ls.length z.x.cl, .slice z.x.pn z.x.m.ns.length z.x.cn] 36)) = W4 at *
   generalize hggm : W3.heap.size = gm at *
   clear hggm
   have HM := Lib.hid (OwnT.madeE encN W4 W4.heap.size 64 (Nat.le_refl _))
   have HBE := Lib.hid (oneB W4 (.cells #[] 64))
   have HGM4 : Hid (gm < W4.heap.size) := Lib.hid Hm22.out.lt
   have z10 : (W4.alloc (.cells #[] 64)).cell? ⟨gz, 10, none⟩ = some (.slice z.x.pl z.x.m.ls.length z.x.cl) := (Hz22.out.below HBE.out Hz22.out.lt).cell 10
   go_wp2_with (at_builtin; with_reducible refine stop_appendT (.tmp 39) (.tmp 42) 33 rfl ?_)
   clear z10
   refine wpList_append_tb rfl (.tmp 39) (.tmp 42) 33 rfl 64 (.agg #[.int .i64 0, .int .i64 0, .int .i64 0, .int .i64 0]) 32 W4.heap.size elt_cloneN_any rfl (.slice (some ⟨W4.heap.size, 0, none⟩) 0 0) (.slice z.x.pl z.x.m.ls.length z.x.cl) [] z.x.m.ls rfl rfl HM.out ((HZI.out.ls.kept HB22.out).kept HBE.out) (by have := HZF.out.1; simp; omega) (by have := HZF.out.1; simp; omega) HBE.out.size z.x.m.ls z.x.m.ls.length (List.nil_append _) rfl ?_
   intro pm cm w5 hom _ hb5
   have HOM := Lib.hid hom
   have hb := HBE.out.trans hb5
   clear hom hb5 HM HBE
   have Hc23 := kbq Hc22 hb
   have Hz23 := kbq Hz22 hb
   have Hm23 := kbq Hm22 hb
   have Qc23 := Lib.hid (Qc22.out.kept hb)
   have HB23 := ktq HB22 hb
   have HZ23 := kzq HZ22 hb.size
   clear Hc22 Hz22 Hm22 Qc22 HB22 HZ22
   clear hb
   have z9 : w5.cell? ⟨gm, 9, none⟩ = some (.slice z.x.pl z.x.m.ls.length z.x.cl) := Hm23.out.cell 9
   have f9 := Hm23.out.free 9
   go_upto_region 11 with fail
   clear z9 f9
   have hch := Lib.hid ((Chg.refl gm w5).set 9 (.slice pm z.x.m.ls.length cm))
   have Hm24 : Hid (Blk _ gm #[.int .i64 z.x.m.k, .int .i64 z.x.m.s, .int .i64 z.x.m.n, .int .i64 z.x.m.b, .int .i64 z.x.m.c, .int .i64 z.x.m.r, .int .i64 z.x.m.y, .int .i64 z.x.m.a, .bool z.x.m.t, .slice pm z.x.m.ls.length cm, .slice z.x.pn z.x.m.ns.length z.x.cn] 36) := Lib.hid (Hm23.out.set 9 (.slice pm z.x.m.ls.length cm))
   have HB24 := ksq HB23 hch (by show w.heap.size ≤ gm; have := HGgc.out; have := HGZ.out; have := HGM.out; omega)
   have HZ24 := kzq HZ23 hch.out.size
   have Hc24 := kcq Hc23 hch (by have := HGgc.out; have := HGZ.out; have := HGM.out; omega)
   have Hz24 := kcq Hz23 hch (by have := HGgc.out; have := HGZ.out; have := HGM.out; omega)
   have Qc24 := Lib.hid (Qc23.out.chg hch.out (fun h => by have := HGM.out; have := h.2; omega))
   have HOM := Lib.hid (HOM.out.stay (fun g hg => hch.out.2 g (HOM.out.lt g hg) (by have h1 := HOM.out.block_ge g hg; have := HGM4.out; omega)))
   clear hch Hc23 Hz23 Hm23 Qc23 HB23 HZ23
   generalize (w5.setCell ⟨gm, 9, none⟩ (.slice pm z.x.m.ls.length cm)) = W6 at *
   obtain ⟨⟨rs2, out2, e2⟩, hA⟩ : ∃ A, doC 3 rs z.x.m z.tw = A := ⟨_, rfl⟩
   have HA := Lib.hid hA
   have HRL2 : Hid (rs2.length ≤ k + 1) := Lib.hid (by have h := (do_ok Qc24.out.ok (by decide) z.x.m HZF.out.1 z.tw).2.2; rw [hA] at h; have h : rs2.length ≤ rs.length + 1 := h; have := HRL.out; omega)
   have HW46 : Hid (gm < W6.heap.size) := Lib.hid Hm24.out.lt
   have HPM : Hid (∀ b o, pm = some ⟨b, o, none⟩ → gm < b ∧ b < W6.heap.size) := Lib.hid (fun b o e => by
    subst e
    have h1 := HOM.out
    rcases h1.2 with ⟨h2, _⟩ | ⟨g, cap, cur, h2, h3, _⟩
    ·cases h2
    ·cases h2
     exact ⟨by have := HGM4.out; omega, h1.lt _ rfl⟩)
   have HGF : Hid (z.x.m.ls.length ≤ 60) := Lib.hid HZF.out.1
   have Qi24 : Hid (LW (fun b => gm < b ∧ b < W6.heap.size) pm z.x.m.ls.length 4 W6) := Lib.hid ⟨fun hn => by
    obtain ⟨b, o, e⟩ := HOM.out.row.some_ hn
    exact ⟨b, o, e, HPM.out b o e⟩, HOM.out.row.ints HOM.out.fre⟩
   have HNV3 : Hid (out2.length ≤ 3) := Lib.hid (by have h := do_out rs z.x.m z.tw; rw [hA] at h; exact h)
   clear hA
   have HG := Lib.hid (cdo_o W6 (fun b => (NotIn [gc]) b ∧ b < gz) 3 3 rfl p0 m0 q0 rs (⟨z.x.m, pm, cm, z.x.pn, z.x.cn⟩ : MsgX) z.tw Qc24.out (fun b hb => by have := Hz24.out.lt; have := hb.2; omega) (by rw [Qc24.out.n]; have := HRL.out; have := HN60.out; have := HLT.out; omega) (by decide) (by decide) (fun _ => True) ⟨HOM.out.row, (HZI.out.ns.kept HB24.out), fun _ _ _ _ _ _ => trivial, fun _ _ _ _ _ _ => trivial, ⟨by show z.x.m.ls.length * 32 ≤ _; have := HZF.out.1; omega, by show z.x.m.ns.length * 8 ≤ _; have := HZF.out.2; omega⟩⟩ HZF.out.1 rs2 out2 e2 HA.out)
   simp only [Msg.v] at HG
   have a0 : W6.cell? ⟨gc, 0, none⟩ = some (.int .i64 3) := Hc24.out.cell 0
   have a1 : W6.cell? ⟨gc, 1, none⟩ = some (.slice p0 m0 q0) := Hc24.out.cell 1
   have m0 : W6.cell? ⟨gm, 0, none⟩ = some (.int .i64 z.x.m.k) := Hm24.out.cell 0
   have m1 : W6.cell? ⟨gm, 1, none⟩ = some (.int .i64 z.x.m.s) := Hm24.out.cell 1
   have m2 : W6.cell? ⟨gm, 2, none⟩ = some (.int .i64 z.x.m.n) := Hm24.out.cell 2
   have m3 : W6.cell? ⟨gm, 3, none⟩ = some (.int .i64 z.x.m.b) := Hm24.out.cell 3
   have m4 : W6.cell? ⟨gm, 4, none⟩ = some (.int .i64 z.x.m.c) := Hm24.out.cell 4
   have m5 : W6.cell? ⟨gm, 5, none⟩ = some (.int .i64 z.x.m.r) := Hm24.out.cell 5
   have m6 : W6.cell? ⟨gm, 6, none⟩ = some (.int .i64 z.x.m.y) := Hm24.out.cell 6
   have m7 : W6.cell? ⟨gm, 7, none⟩ = some (.int .i64 z.x.m.a) := Hm24.out.cell 7
   have m8 : W6.cell? ⟨gm, 8, none⟩ = some (.bool z.x.m.t) := Hm24.out.cell 8
   have m9 : W6.cell? ⟨gm, 9, none⟩ = some (.slice pm z.x.m.ls.length cm) := Hm24.out.cell 9
   have m10 : W6.cell? ⟨gm, 10, none⟩ = some (.slice z.x.pn z.x.m.ns.length z.x.cn) := Hm24.out.cell 10
   have z0 : W6.cell? ⟨gz, 0, none⟩ = some (.int .i64 z.tw) := Hz24.out.cell 0
   go_wp2_with fail
   clear a0 a1 m0 m1 m2 m3 m4 m5 m6 m7 m8 m9 m10 z0
   refine HG.out.mono ?_
   rintro y9 w7 ⟨hb, p4, n4, c4, pv4, nv4, cv4, B4, rfl, hB4, hc, hnv, hsd⟩
   obtain ⟨xs, hxs, hxl⟩ := SdO.of hsd
   have HXL : Hid (xs.length = nv4) := Lib.hid (by rw [hxl, hnv])
   have HBQ4 : Hid (W6.heap.size ≤ B4) := Lib.hid hB4
   have HS67 : Hid (W6.heap.size ≤ w7.heap.size) := Lib.hid hb.size
   have HNV3 : Hid (nv4 ≤ 3) := Lib.hid (by rw [hnv]; exact HNV3.out)
   clear HG HA HRL Qc24 HZI HZF HOM hnv hsd hxl hB4
   have Hc25 := kbq Hc24 hb
   have Hz25 := kbq Hz24 hb
   have Hm25 := kbq Hm24 hb
   have Qi25 := Lib.hid (Qi24.out.kept hb)
   have HB25 := ktq HB24 hb
   have HZ25 := kzq HZ24 hb.size
   clear Hc24 Hz24 Hm24 Qi24 HB24 HZ24
   clear hb
   have Qc25 := Lib.hid hc
   have Qd25 := Lib.hid hxs
   clear hc hxs
   have HGN : Hid (gz < w7.heap.size ∧ gm < w7.heap.size) := Lib.hid ⟨Hz25.out.lt, Hm25.out.lt⟩
   clear Hz25
   obtain ⟨S7, hS7⟩ : ∃ S, w7.heap.size = S := ⟨_, rfl⟩
   rw [hS7] at Qd25
   have HS7 := Lib.hid hS7
   clear hS7
   have hba := oneB w7 (.cells #[.int .i64 3, .slice p4 n4 c4] 27)
   have Hc26 := kbq Hc25 hba
   have Hm26 := kbq Hm25 hba
   have Qc26 := Lib.hid (Qc25.out.kept hba)
   have Qd26 := Lib.hid (Qd25.out.kept hba)
   have Qi26 := Lib.hid (Qi25.out.kept hba)
   have Hn26 := Lib.hid (Blk.new w7 #[.int .i64 3, .slice p4 n4 c4] 27)
   have HB26 := Lib.hid (HB25.out.alloc HB25.out.size (.cells #[.int .i64 3, .slice p4 n4 c4] 27))
   have HZ26 := kzq HZ25 hba.size
   have HGgn : Hid (w.heap.size ≤ w7.heap.size) := Lib.hid HB25.out.size
   clear hba Hc25 Hm25 Qc25 Qd25 Qi25 HB25 HZ25
   go_upto_region 12 with fail
   generalize (w7.alloc (.cells #[.int .i64 3, .slice p4 n4 c4] 27)) = W8 at *
   generalize hggn : w7.heap.size = gn at *
   clear hggn
   have n0 : W8.cell? ⟨gn, 0, none⟩ = some (.int .i64 3) := Hn26.out.cell 0
   have n1 : W8.cell? ⟨gn, 1, none⟩ = some (.slice p4 n4 c4) := Hn26.out.cell 1
   go_wp2_with (with_reducible refine stop_storeT 27 (.tmp 5) (.tmp 54) rfl ?_)
   clear n0 n1
   have HTH : Hid (W8.there gc 0 2) := Hc26.out.thereAt
   have hch : Hid (Chg gc W8 (W8.setCells gc 0 (#[.int .i64 3, .slice p4 n4 c4] : Array Value).toList)) := Lib.hid (chg_putL _ _ _ _ _ (Chg.refl _ W8))
   have Hc27 : Hid (Blk (W8.setCells gc 0 (#[.int .i64 3, .slice p4 n4 c4] : Array Value).toList) gc #[.int .i64 3, .slice p4 n4 c4] 27) := Lib.hid (blk_put_all Hc26.out _ rfl)
   have HB27 : Hid (Below w.heap.size w (W8.setCells gc 0 (#[.int .i64 3, .slice p4 n4 c4] : Array Value).toList)) := Lib.hid (below_put (by have := HGgc.out; have := HGZ.out; have := HGM.out; have := HGN.out; omega) _ _ _ _ HB26.out)
   have HZ27 := kzq HZ26 hch.out.size
   have Hm27 := kcq Hm26 hch (by have := HGgc.out; have := HGZ.out; have := HGM.out; have := HGN.out; omega)
   have Hn27 := kcq Hn26 hch (by have := HGgc.out; have := HGZ.out; have := HGM.out; have := HGN.out; omega)
   have Qc27 := Lib.hid (Qc26.out.chg hch.out (by intro h; (try dsimp only at h); have h2 := HBQ4.out; have h3 := HGZ.out; have h4 := HGM.out; have h5 := HGM4.out; have h6 := HW46.out; first | omega | (rcases h with h | h; exact h.1 (by simp); omega)))
   have Qd27 := Lib.hid (Qd26.out.chg hch.out (by intro h; (try dsimp only at h); have h2 := HBQ4.out; have h3 := HGZ.out; have h4 := HGM.out; have h5 := HGM4.out; have h6 := HW46.out; first | omega | (rcases h with h | h; exact h.1 (by simp); omega)))
   have Qi27 := Lib.hid (Qi26.out.chg hch.out (by intro h; (try dsimp only at h); have h2 := HBQ4.out; have h3 := HGZ.out; have h4 := HGM.out; have h5 := HGM4.out; have h6 := HW46.out; first | omega | (rcases h with h | h; exact h.1 (by simp); omega)))
   clear hch Hc26 Hm26 Hn26 Qc26 Qd26 Qi26 HB26 HZ26
   refine wpList_store_mid rfl 27 (.tmp 5) (.tmp 54) rfl gc 0 #[.int .i64 3, .slice p4 n4 c4] rfl rfl HTH.out (infoC2 rfl) (all_oneCell_toArray (by intro u hu; simp at hu; rcases hu with rfl | rfl <;> rfl)) ?_
   generalize (W8.setCells gc 0 (#[.int .i64 3, .slice p4 n4 c4] : Array Value).toList) = W9 at *
   clear HTH
   have HN9 : Hid (gn < W9.heap.size) := Lib.hid Hn27.out.lt
   clear Hn27
   obtain ⟨bh, hbh⟩ : ∃ bh, hasB rs2 nn = bh := ⟨_, rfl⟩
   have HBH := Lib.hid hbh
   clear hbh
   obtain ⟨r0, hr0⟩ : ∃ r0, (if bh then rnAt rs2 nn else noRun.r) = r0 := ⟨_, rfl⟩
   have HR0 := Lib.hid hr0
   clear hr0
   have HSZ : Hid ((∀ q ∈ r0.hs, q.ls.length ≤ 60) ∧ r0.ls.length ≤ 480 ∧ r0.ns.length ≤ 8 ∧ r0.hs.length ≤ 3) := Lib.hid (by have h := get_sizes Qc27.out.ok HBH.out; rw [HR0.out] at h; exact h)
   have HS79 : Hid (S7 ≤ W9.heap.size) := Lib.hid (by have := HS7.out; have := HN9.out; omega)
   have HW69 : Hid (W6.heap.size ≤ W9.heap.size) := Lib.hid (by have := HS79.out; have := HS67.out; have := HS7.out; omega)
   have HG := Lib.hid (cget_q W9 (fun b => ((NotIn [gc]) b ∧ b < gz) ∨ (W6.heap.size ≤ b ∧ b < B4)) 3 3 rfl nn p4 n4 c4 rs2 Qc27.out (by rw [Qc27.out.n]; have := HRL2.out; have := HN60.out; have := HLT.out; omega) (by decide) (by decide) bh HBH.out)
   have a0 : W9.cell? ⟨gc, 0, none⟩ = some (.int .i64 3) := Hc27.out.cell 0
   have a1 : W9.cell? ⟨gc, 1, none⟩ = some (.slice p4 n4 c4) := Hc27.out.cell 1
   go_wp2_with fail
   clear a0 a1
   refine HG.out.mono ?_
   rintro y9 w10 ⟨hb, ⟨rx, pf1, cf1, pl1, cl1, pn1, cn1⟩, rfl, hg⟩
   clear HG
   obtain ⟨hg1, hg2, hg3⟩ := hg.uni
   replace hg1 : r0 = rx := (by have h : rx = _ := hg1; rw [h, HR0.out])
   subst hg1
   have Qx128 : Hid ((⟨r0, pf1, cf1, pl1, cl1, pn1, cn1⟩ : RunX).In (fun b => W9.heap.size ≤ b ∧ b < w10.heap.size) w10) := Lib.hid hg2.lt
   have HS1 : Hid (W9.heap.size ≤ w10.heap.size) := Lib.hid hb.size
   clear hg hg2 hg3
   rw [RunX.v_mk]
   have Hc28 := kbq Hc27 hb
   have Hm28 := kbq Hm27 hb
   have Qc28 := Lib.hid (Qc27.out.kept hb)
   have Qd28 := Lib.hid (Qd27.out.kept hb)
   have Qi28 := Lib.hid (Qi27.out.kept hb)
   have HB28 := ktq HB27 hb
   have HZ28 := kzq HZ27 hb.size
   clear Hc27 Hm27 Qc27 Qd27 Qi27 HB27 HZ27
   clear hb
   have hba := oneB w10 (.cells #[.int .i64 r0.cu, .int .i64 r0.st, .slice pf1 r0.hs.length cf1, .slice pl1 r0.ls.length cl1, .slice pn1 r0.ns.length cn1] 56)
   have Hc29 := kbq Hc28 hba
   have Hm29 := kbq Hm28 hba
   have Qc29 := Lib.hid (Qc28.out.kept hba)
   have Qd29 := Lib.hid (Qd28.out.kept hba)
   have Qi29 := Lib.hid (Qi28.out.kept hba)
   have Qx129 := Lib.hid (Qx128.out.kept hba)
   have Hx29 := Lib.hid (Blk.new w10 #[.int .i64 r0.cu, .int .i64 r0.st, .slice pf1 r0.hs.length cf1, .slice pl1 r0.ls.length cl1, .slice pn1 r0.ns.length cn1] 56)
   have HB29 := Lib.hid (HB28.out.alloc HB28.out.size (.cells #[.int .i64 r0.cu, .int .i64 r0.st, .slice pf1 r0.hs.length cf1, .slice pl1 r0.ls.length cl1, .slice pn1 r0.ns.length cn1] 56))
   have HZ29 := kzq HZ28 hba.size
   have HGgx : Hid (w.heap.size ≤ w10.heap.size) := Lib.hid HB28.out.size
   clear hba Hc28 Hm28 Qc28 Qd28 Qi28 Qx128 HB28 HZ28
   go_upto_region 14 with fail
   generalize (w10.alloc (.cells #[.int .i64 r0.cu, .int .i64 r0.st, .slice pf1 r0.hs.length cf1, .slice pl1 r0.ls.length cl1, .slice pn1 r0.ns.length cn1] 56)) = W11 at *
   generalize hggx : w10.heap.size = gx at *
   clear hggx
   have HREL : Hid (LW (fun b => gm < b ∧ b < W6.heap.size) pm z.x.m.ls.length 4 W11 ∧ Wr (fun b => ¬ (gm < b ∧ b < W6.heap.size)) w W11 W11) := Lib.hid ⟨Qi29.out, Wr.start HB29.out⟩
   clear Qi29
   have m9 : W11.cell? ⟨gm, 9, none⟩ = some (.slice pm z.x.m.ls.length cm) := Hm29.out.cell 9
   go_wp2_with fail
   clear m9
   go_loopw [64] (fun i wr => ∃ j2 : Nat, j2 ≤ z.x.m.ls.length ∧ i = .int .i64 j2 ∧ Hid (LW (fun b => gm < b ∧ b < W6.heap.size) pm z.x.m.ls.length 4 wr ∧ Wr (fun b => ¬ (gm < b ∧ b < W6.heap.size)) w W11 wr)) (fun i _ => z.x.m.ls.length - (intOf i).toNat)
   case atStart => exact ⟨0, by omega, rfl, HREL⟩
   case round =>
    clear HREL
    obtain ⟨j2, hj2, rfl, HKj2⟩ := hrel
    have hj29 : j2 + 1 ≤ 61 := by have := HGF.out; omega
    by_cases hltj2 : j2 < z.x.m.ls.length
    ·have hltIj2 : (j2 : Int) < (z.x.m.ls.length : Int) := by omega
     obtain ⟨bb, ob, vb, hpb, hPB, hcb, hfb⟩ := HKj2.out.1.at_ j2 3 hltj2 (by decide)
     have m9 : wr.cell? ⟨gm, 9, none⟩ = some (.slice (some ⟨bb, ob, none⟩) z.x.m.ls.length cm) := by
      have h1 : wr.cell? ⟨gm, 9, none⟩ = some (.slice pm z.x.m.ls.length cm) := (Hm29.out.keepP HKj2.out.2.1 (fun h => Nat.lt_irrefl _ h.1)).cell 9
      rw [hpb] at h1
      exact h1
     have HNX : Hid (∀ v : Int, LW (fun b => gm < b ∧ b < W6.heap.size) pm z.x.m.ls.length 4 (wr.setCell ⟨bb, ob + j2 * 4 + 3, none⟩ (.int .i64 v)) ∧ Wr (fun b => ¬ (gm < b ∧ b < W6.heap.size)) w W11 (wr.setCell ⟨bb, ob + j2 * 4 + 3, none⟩ (.int .i64 v))) := Lib.hid (fun v => ⟨HKj2.out.1.set _ _ _, HKj2.out.2.set (fun h => h hPB) (by have := HGgm.out; have := hPB.1; omega) _ _⟩)
     clear HKj2 hpb hPB
     go_wp2_with fail
     go_roundw
     case rel => exact ⟨j2 + 1, by omega, by go_num, Lib.hid (HNX.out _)⟩
     case measure => simp [intOf]; omega
    ·have hltIj2 : ¬ (j2 : Int) < (z.x.m.ls.length : Int) := by omega
     have hkp := HKj2.out.2.1
     have hbb := HKj2.out.2.2
     clear HKj2 hj2 hltj2 hj29
     clear Hm29
     have Hc30 := Lib.hid (Hc29.out.keepP hkp (by intro hx; (try dsimp only at hx); have := HBQ4.out; have := HGZ.out; have := HGM.out; have := HGM4.out; have := HW46.out; have := HW69.out; have := HS79.out; have := HS1.out; omega))
     have Hx30 := Lib.hid (Hx29.out.keepP hkp (by intro hx; (try dsimp only at hx); have := HBQ4.out; have := HGZ.out; have := HGM.out; have := HGM4.out; have := HW46.out; have := HW69.out; have := HS79.out; have := HS1.out; omega))
     have Qc30 := Lib.hid (Qc29.out.keepP (hkp.weak (fun b hb => by intro hx; (try dsimp only at hx hb); have := HBQ4.out; have := HGZ.out; have := HGM.out; have := HGM4.out; have := HW46.out; have := HW69.out; have := HS79.out; have := HS1.out; first | omega | (rcases hb with hb | hb <;> (have h9 := hb.2; omega)) | (rcases hb.1 with h8 | h8 <;> (have h9 := h8.2; omega)))))
     have Qd30 := Lib.hid (Qd29.out.keepP (hkp.weak (fun b hb => by intro hx; (try dsimp only at hx hb); have := HBQ4.out; have := HGZ.out; have := HGM.out; have := HGM4.out; have := HW46.out; have := HW69.out; have := HS79.out; have := HS1.out; first | omega | (rcases hb with hb | hb <;> (have h9 := hb.2; omega)) | (rcases hb.1 with h8 | h8 <;> (have h9 := h8.2; omega)))))
     have Qx130 := Lib.hid (Qx129.out.keepP (hkp.weak (fun b hb => by intro hx; (try dsimp only at hx hb); have := HBQ4.out; have := HGZ.out; have := HGM.out; have := HGM4.out; have := HW46.out; have := HW69.out; have := HS79.out; have := HS1.out; first | omega | (rcases hb with hb | hb <;> (have h9 := hb.2; omega)) | (rcases hb.1 with h8 | h8 <;> (have h9 := h8.2; omega)))))
     have HB30 := Lib.hid (hbb)
     have HZ30 : Hid (w.heap.size ≤ wr.heap.size) := Lib.hid HB30.out.size
     clear Hc29 Hx29 Qc29 Qd29 Qx129 HB29 HZ29
     clear hkp hbb
     generalize wr = WA at *
     have HSA : Hid (S7 ≤ WA.heap.size) := Lib.hid (by have := HS79.out; have := HS1.out; have := Hx30.out.lt; omega)
     have HREL : Hid (Sdw B4 S7 pv4 nv4 cv4 xs w WA WA) := Lib.hid (Qd30.out.toW HB30.out (by have := HBQ4.out; have := HGgm.out; have := HW46.out; omega))
     clear Qd30
     go_wp2_with fail
     go_loopw [79] (fun i wr => ∃ j3 : Nat, j3 ≤ nv4 ∧ i = .int .i64 j3 ∧ Hid (Sdw B4 S7 pv4 nv4 cv4 xs w WA wr)) (fun i _ => nv4 - (intOf i).toNat)
     case atStart => exact ⟨0, by omega, rfl, HREL⟩
     case round =>
      clear HREL
      obtain ⟨j3, hj3, rfl, HKj3⟩ := hrel
      have hj39 : j3 + 1 ≤ 4 := by have := HNV3.out; omega
      by_cases hltj3 : j3 < nv4
      ·have hltIj3 : (j3 : Int) < (nv4 : Int) := by omega
       have hjl : j3 < xs.length := by have := HXL.out; omega
       obtain ⟨yb, yo, hyp, hyl, hyc⟩ := HKj3.out.1.1.row.at_ j3 hjl
       subst hyp
       have HYM : Hid (xs[j3] ∈ xs) := Lib.hid (List.getElem_mem hjl)
       generalize xs[j3] = y at *
       have c0 : wr.cell? ⟨yb, yo + j3 * 12, none⟩ = some (.int .i64 y.tw) := hyc 0 (by decide)
       have c1 : wr.cell? ⟨yb, yo + j3 * 12 + 1, none⟩ = some (.int .i64 y.x.m.k) := hyc 1 (by decide)
       have c2 : wr.cell? ⟨yb, yo + j3 * 12 + 2, none⟩ = some (.int .i64 y.x.m.s) := hyc 2 (by decide)
       have c3 : wr.cell? ⟨yb, yo + j3 * 12 + 3, none⟩ = some (.int .i64 y.x.m.n) := hyc 3 (by decide)
       have c4 : wr.cell? ⟨yb, yo + j3 * 12 + 4, none⟩ = some (.int .i64 y.x.m.b) := hyc 4 (by decide)
       have c5 : wr.cell? ⟨yb, yo + j3 * 12 + 5, none⟩ = some (.int .i64 y.x.m.c) := hyc 5 (by decide)
       have c6 : wr.cell? ⟨yb, yo + j3 * 12 + 6, none⟩ = some (.int .i64 y.x.m.r) := hyc 6 (by decide)
       have c7 : wr.cell? ⟨yb, yo + j3 * 12 + 7, none⟩ = some (.int .i64 y.x.m.y) := hyc 7 (by decide)
       have c8 : wr.cell? ⟨yb, yo + j3 * 12 + 8, none⟩ = some (.int .i64 y.x.m.a) := hyc 8 (by decide)
       have c9 : wr.cell? ⟨yb, yo + j3 * 12 + 9, none⟩ = some (.bool y.x.m.t) := hyc 9 (by decide)
       have c10 : wr.cell? ⟨yb, yo + j3 * 12 + 10, none⟩ = some (.slice y.x.pl y.x.m.ls.length y.x.cl) := hyc 10 (by decide)
       have c11 : wr.cell? ⟨yb, yo + j3 * 12 + 11, none⟩ = some (.slice y.x.pn y.x.m.ns.length y.x.cn) := hyc 11 (by decide)
       clear hyc hyl hjl
       have hba := oneB wr (.cells #[.int .i64 y.tw, .int .i64 y.x.m.k, .int .i64 y.x.m.s, .int .i64 y.x.m.n, .int .i64 y.x.m.b, .int .i64 y.x.m.c, .int .i64 y.x.m.r, .int .i64 y.x.m.y, .int .i64 y.x.m.a, .bool y.x.m.t, .slice y.x.pl y.x.m.ls.length y.x.cl, .slice y.x.pn y.x.m.ns.length y.x.cn] 47)
       have HK2 : Hid (Sdw B4 S7 (some ⟨yb, yo, none⟩) nv4 cv4 xs w WA (wr.alloc (.cells #[.int .i64 y.tw, .int .i64 y.x.m.k, .int .i64 y.x.m.s, .int .i64 y.x.m.n, .int .i64 y.x.m.b, .int .i64 y.x.m.c, .int .i64 y.x.m.r, .int .i64 y.x.m.y, .int .i64 y.x.m.a, .bool y.x.m.t, .slice y.x.pl y.x.m.ls.length y.x.cl, .slice y.x.pn y.x.m.ns.length y.x.cn] 47))) := Lib.hid (HKj3.out.kept hba)
       have HGY : Hid (Blk (wr.alloc (.cells #[.int .i64 y.tw, .int .i64 y.x.m.k, .int .i64 y.x.m.s, .int .i64 y.x.m.n, .int .i64 y.x.m.b, .int .i64 y.x.m.c, .int .i64 y.x.m.r, .int .i64 y.x.m.y, .int .i64 y.x.m.a, .bool y.x.m.t, .slice y.x.pl y.x.m.ls.length y.x.cl, .slice y.x.pn y.x.m.ns.length y.x.cn] 47)) wr.heap.size #[.int .i64 y.tw, .int .i64 y.x.m.k, .int .i64 y.x.m.s, .int .i64 y.x.m.n, .int .i64 y.x.m.b, .int .i64 y.x.m.c, .int .i64 y.x.m.r, .int .i64 y.x.m.y, .int .i64 y.x.m.a, .bool y.x.m.t, .slice y.x.pl y.x.m.ls.length y.x.cl, .slice y.x.pn y.x.m.ns.length y.x.cn] 47) := Lib.hid (Blk.new wr #[.int .i64 y.tw, .int .i64 y.x.m.k, .int .i64 y.x.m.s, .int .i64 y.x.m.n, .int .i64 y.x.m.b, .int .i64 y.x.m.c, .int .i64 y.x.m.r, .int .i64 y.x.m.y, .int .i64 y.x.m.a, .bool y.x.m.t, .slice y.x.pl y.x.m.ls.length y.x.cl, .slice y.x.pn y.x.m.ns.length y.x.cn] 47)
       have HSY : Hid (S7 ≤ wr.heap.size) := Lib.hid (by have := HKj3.out.2.1.1.1; have := HSA.out; omega)
       have HSZ4 : Hid y.x.m.Sz := Lib.hid (HKj3.out.1.2 y HYM.out).2.2
       clear hba HKj3
       go_upto_region 22 with fail
       clear c0 c1 c2 c3 c4 c5 c6 c7 c8 c9 c10 c11 hltIj3
       generalize (wr.alloc (.cells #[.int .i64 y.tw, .int .i64 y.x.m.k, .int .i64 y.x.m.s, .int .i64 y.x.m.n, .int .i64 y.x.m.b, .int .i64 y.x.m.c, .int .i64 y.x.m.r, .int .i64 y.x.m.y, .int .i64 y.x.m.a, .bool y.x.m.t, .slice y.x.pl y.x.m.ls.length y.x.cl, .slice y.x.pn y.x.m.ns.length y.x.cn] 47)) = WY at *
       generalize hgy : wr.heap.size = gy at *
       clear hgy
       have HREL : Hid (Sdw B4 S7 (some ⟨yb, yo, none⟩) nv4 cv4 xs w WA WY ∧ Blk WY gy #[.int .i64 y.tw, .int .i64 y.x.m.k, .int .i64 y.x.m.s, .int .i64 y.x.m.n, .int .i64 y.x.m.b, .int .i64 y.x.m.c, .int .i64 y.x.m.r, .int .i64 y.x.m.y, .int .i64 y.x.m.a, .bool y.x.m.t, .slice y.x.pl y.x.m.ls.length y.x.cl, .slice y.x.pn y.x.m.ns.length y.x.cn] 47) := Lib.hid ⟨HK2.out, HGY.out⟩
       have y9 : WY.cell? ⟨gy, 10, none⟩ = some (.slice y.x.pl y.x.m.ls.length y.x.cl) := HGY.out.cell 10
       go_wp2_with fail
       clear y9
       go_loopw [87] (fun i wr => ∃ j4 : Nat, j4 ≤ y.x.m.ls.length ∧ i = .int .i64 j4 ∧ Hid (Sdw B4 S7 (some ⟨yb, yo, none⟩) nv4 cv4 xs w WA wr ∧ Blk wr gy #[.int .i64 y.tw, .int .i64 y.x.m.k, .int .i64 y.x.m.s, .int .i64 y.x.m.n, .int .i64 y.x.m.b, .int .i64 y.x.m.c, .int .i64 y.x.m.r, .int .i64 y.x.m.y, .int .i64 y.x.m.a, .bool y.x.m.t, .slice y.x.pl y.x.m.ls.length y.x.cl, .slice y.x.pn y.x.m.ns.length y.x.cn] 47)) (fun i _ => y.x.m.ls.length - (intOf i).toNat)
       case atStart => exact ⟨0, by omega, rfl, HREL⟩
       case round =>
        clear HREL
        obtain ⟨j4, hj4, rfl, HKj4⟩ := hrel
        have hj49 : j4 + 1 ≤ 30000000000000 := by have := HSZ4.out.1; omega
        by_cases hltj4 : j4 < y.x.m.ls.length
        ·have hltIj4 : (j4 : Int) < (y.x.m.ls.length : Int) := by omega
         obtain ⟨bb, ob, vb, hpb, hPB, hcb, hfb⟩ := (HKj4.out.1.1.2 y HYM.out).1.at_ j4 1 hltj4 (by decide)
         have y9 : wr.cell? ⟨gy, 10, none⟩ = some (.slice (some ⟨bb, ob, none⟩) y.x.m.ls.length y.x.cl) := by
          have h1 : wr.cell? ⟨gy, 10, none⟩ = some (.slice y.x.pl y.x.m.ls.length y.x.cl) := HKj4.out.2.cell 10
          rw [hpb] at h1
          exact h1
         have HNX : Hid (∀ v : Int, Sdw B4 S7 (some ⟨yb, yo, none⟩) nv4 cv4 xs w WA (wr.setCell ⟨bb, ob + j4 * 4 + 1, none⟩ (.int .i64 v)) ∧ Blk (wr.setCell ⟨bb, ob + j4 * 4 + 1, none⟩ (.int .i64 v)) gy #[.int .i64 y.tw, .int .i64 y.x.m.k, .int .i64 y.x.m.s, .int .i64 y.x.m.n, .int .i64 y.x.m.b, .int .i64 y.x.m.c, .int .i64 y.x.m.r, .int .i64 y.x.m.y, .int .i64 y.x.m.a, .bool y.x.m.t, .slice y.x.pl y.x.m.ls.length y.x.cl, .slice y.x.pn y.x.m.ns.length y.x.cn] 47) := Lib.hid (fun v => ⟨HKj4.out.1.set hPB _ _, HKj4.out.2.chg ((Chg.refl bb wr).set _ _) (by have := hPB.2.1; have := HSY.out; omega)⟩)
         clear HKj4 hpb hPB
         go_wp2_with fail
         go_roundw
         case rel => exact ⟨j4 + 1, by omega, by go_num, Lib.hid (HNX.out _)⟩
         case measure => simp [intOf]; omega
        ·have hltIj4 : ¬ (j4 : Int) < (y.x.m.ls.length : Int) := by omega
         clear hj4 hltj4 hj49
         generalize wr = WZ at *
         have HREL : Hid (Sdw B4 S7 (some ⟨yb, yo, none⟩) nv4 cv4 xs w WA WZ ∧ Blk WZ gy #[.int .i64 y.tw, .int .i64 y.x.m.k, .int .i64 y.x.m.s, .int .i64 y.x.m.n, .int .i64 y.x.m.b, .int .i64 y.x.m.c, .int .i64 y.x.m.r, .int .i64 y.x.m.y, .int .i64 y.x.m.a, .bool y.x.m.t, .slice y.x.pl y.x.m.ls.length y.x.cl, .slice y.x.pn y.x.m.ns.length y.x.cn] 47) := Lib.hid HKj4.out
         have y9 : WZ.cell? ⟨gy, 11, none⟩ = some (.slice y.x.pn y.x.m.ns.length y.x.cn) := HKj4.out.2.cell 11
         clear HKj4
         go_wp2_with fail
         clear y9 hltIj4
         go_loopw [107] (fun i wr => ∃ j5 : Nat, j5 ≤ y.x.m.ns.length ∧ i = .int .i64 j5 ∧ Hid (Sdw B4 S7 (some ⟨yb, yo, none⟩) nv4 cv4 xs w WA wr ∧ Blk wr gy #[.int .i64 y.tw, .int .i64 y.x.m.k, .int .i64 y.x.m.s, .int .i64 y.x.m.n, .int .i64 y.x.m.b, .int .i64 y.x.m.c, .int .i64 y.x.m.r, .int .i64 y.x.m.y, .int .i64 y.x.m.a, .bool y.x.m.t, .slice y.x.pl y.x.m.ls.length y.x.cl, .slice y.x.pn y.x.m.ns.length y.x.cn] 47)) (fun i _ => y.x.m.ns.length - (intOf i).toNat)
         case atStart => exact ⟨0, by omega, rfl, HREL⟩
         case round =>
          clear HREL
          obtain ⟨j5, hj5, rfl, HKj5⟩ := hrel
          have hj59 : j5 + 1 ≤ 30000000000000 := by have := HSZ4.out.2; omega
          by_cases hltj5 : j5 < y.x.m.ns.length
          ·have hltIj5 : (j5 : Int) < (y.x.m.ns.length : Int) := by omega
           obtain ⟨bb, ob, vb, hpb, hPB, hcb, hfb⟩ := (HKj5.out.1.1.2 y HYM.out).2.1.at1 j5 hltj5
           have y9 : wr.cell? ⟨gy, 11, none⟩ = some (.slice (some ⟨bb, ob, none⟩) y.x.m.ns.length y.x.cn) := by
            have h1 : wr.cell? ⟨gy, 11, none⟩ = some (.slice y.x.pn y.x.m.ns.length y.x.cn) := HKj5.out.2.cell 11
            rw [hpb] at h1
            exact h1
           have HNX : Hid (∀ v : Int, Sdw B4 S7 (some ⟨yb, yo, none⟩) nv4 cv4 xs w WA (wr.setCell ⟨bb, ob + j5, none⟩ (.int .i64 v)) ∧ Blk (wr.setCell ⟨bb, ob + j5, none⟩ (.int .i64 v)) gy #[.int .i64 y.tw, .int .i64 y.x.m.k, .int .i64 y.x.m.s, .int .i64 y.x.m.n, .int .i64 y.x.m.b, .int .i64 y.x.m.c, .int .i64 y.x.m.r, .int .i64 y.x.m.y, .int .i64 y.x.m.a, .bool y.x.m.t, .slice y.x.pl y.x.m.ls.length y.x.cl, .slice y.x.pn y.x.m.ns.length y.x.cn] 47) := Lib.hid (fun v => ⟨HKj5.out.1.set hPB _ _, HKj5.out.2.chg ((Chg.refl bb wr).set _ _) (by have := hPB.2.1; have := HSY.out; omega)⟩)
           clear HKj5 hpb hPB
           go_wp2_with fail
           go_roundw
           case rel => exact ⟨j5 + 1, by omega, by go_num, Lib.hid (HNX.out _)⟩
           case measure => simp [intOf]; omega
          ·have hltIj5 : ¬ (j5 : Int) < (y.x.m.ns.length : Int) := by omega
           have HNX3 : Hid (Sdw B4 S7 (some ⟨yb, yo, none⟩) nv4 cv4 xs w WA wr) := Lib.hid HKj5.out.1
           clear HKj5 HK2 HGY hltj5 hj5 hj59
           go_wp2_with fail
           go_roundw
           case rel => exact ⟨j3 + 1, by omega, by go_num, HNX3⟩
           case measure => simp [intOf]; omega
      ·have hltIj3 : ¬ (j3 : Int) < (nv4 : Int) := by omega
       have hkp := HKj3.out.2.1.1
       have hbb := HKj3.out.2.1.2
       clear HKj3 hj3 hltj3 hj39
       have Hc31 := Lib.hid (Hc30.out.keepP hkp (by intro hx; (try dsimp only at hx); have := HBQ4.out; have := HGZ.out; have := HGM.out; have := HGM4.out; have := HW46.out; have := HW69.out; have := HS79.out; have := HS1.out; omega))
       have Hx31 := Lib.hid (Hx30.out.keepP hkp (by intro hx; (try dsimp only at hx); have := HBQ4.out; have := HGZ.out; have := HGM.out; have := HGM4.out; have := HW46.out; have := HW69.out; have := HS79.out; have := HS1.out; omega))
       have Qc31 := Lib.hid (Qc30.out.keepP (hkp.weak (fun b hb => by intro hx; (try dsimp only at hx hb); have := HBQ4.out; have := HGZ.out; have := HGM.out; have := HGM4.out; have := HW46.out; have := HW69.out; have := HS79.out; have := HS1.out; first | omega | (rcases hb with hb | hb <;> (have h9 := hb.2; omega)) | (rcases hb.1 with h8 | h8 <;> (have h9 := h8.2; omega)))))
       have Qx131 := Lib.hid (Qx130.out.keepP (hkp.weak (fun b hb => by intro hx; (try dsimp only at hx hb); have := HBQ4.out; have := HGZ.out; have := HGM.out; have := HGM4.out; have := HW46.out; have := HW69.out; have := HS79.out; have := HS1.out; first | omega | (rcases hb with hb | hb <;> (have h9 := hb.2; omega)) | (rcases hb.1 with h8 | h8 <;> (have h9 := h8.2; omega)))))
       have HB31 := Lib.hid (hbb)
       have HZ31 : Hid (w.heap.size ≤ wr.heap.size) := Lib.hid HB31.out.size
       clear Hc30 Hx30 Qc30 Qx130 HB30 HZ30
       clear hkp hbb
       generalize wr = WB at *
       have Qc31 : Hid (Ct (fun b => (fun b => ((NotIn [gc]) b ∧ b < gz) ∨ (W6.heap.size ≤ b ∧ b < B4)) b ∧ b < WB.heap.size) WB 3 p4 n4 c4 rs2) := Lib.hid ⟨Qc31.out.rs.lt, Qc31.out.n, Qc31.out.ok⟩
       have HGXB : Hid (gx < WB.heap.size) := Lib.hid Hx31.out.lt
       have HGCB : Hid (gc < WB.heap.size) := Lib.hid Hc31.out.lt
       have HZB : Hid (w.heap.size ≤ WB.heap.size) := Lib.hid HZ31.out
       have HG := Lib.hid (cget_q WB (fun b => (fun b => ((NotIn [gc]) b ∧ b < gz) ∨ (W6.heap.size ≤ b ∧ b < B4)) b ∧ b < WB.heap.size) 3 3 rfl nn p4 n4 c4 rs2 Qc31.out (by rw [Qc31.out.n]; have := HRL2.out; have := HN60.out; have := HLT.out; omega) (by decide) (by decide) bh HBH.out)
       have a0 : WB.cell? ⟨gc, 0, none⟩ = some (.int .i64 3) := Hc31.out.cell 0
       have a1 : WB.cell? ⟨gc, 1, none⟩ = some (.slice p4 n4 c4) := Hc31.out.cell 1
       go_wp2_with fail
       clear a0 a1
       refine HG.out.mono ?_
       rintro y9 w13 ⟨hb, ⟨rx, pf2, cf2, pl2, cl2, pn2, cn2⟩, rfl, hg⟩
       clear HG
       obtain ⟨hg1, hg2, hg3⟩ := hg.uni
       replace hg1 : r0 = rx := (by have h : rx = _ := hg1; rw [h, HR0.out])
       subst hg1
       have Qx232 : Hid ((⟨r0, pf2, cf2, pl2, cl2, pn2, cn2⟩ : RunX).In (fun b => WB.heap.size ≤ b ∧ b < w13.heap.size) w13) := Lib.hid hg2.lt
       have Qf32 : Hid (Fre w13 pl2 r0.ls.length) := Lib.hid hg3
       have HS2 : Hid (WB.heap.size ≤ w13.heap.size) := Lib.hid hb.size
       clear hg hg2 hg3
       rw [RunX.v_mk]
       have Hc32 := kbq Hc31 hb
       have Hx32 := kbq Hx31 hb
       have Qc32 := Lib.hid (Qc31.out.kept hb)
       have Qx132 := Lib.hid (Qx131.out.kept hb)
       have HB32 := ktq HB31 hb
       have HZ32 := kzq HZ31 hb.size
       clear Hc31 Hx31 Qc31 Qx131 HB31 HZ31
       clear hb
       have hba := oneB w13 (.cells #[.int .i64 r0.cu, .int .i64 r0.st, .slice pf2 r0.hs.length cf2, .slice pl2 r0.ls.length cl2, .slice pn2 r0.ns.length cn2] 56)
       have Hc33 := kbq Hc32 hba
       have Hx33 := kbq Hx32 hba
       have Qc33 := Lib.hid (Qc32.out.kept hba)
       have Qx133 := Lib.hid (Qx132.out.kept hba)
       have Qx233 := Lib.hid (Qx232.out.kept hba)
       have Qf33 := Lib.hid (Qf32.out.kept hba)
       have Hv33 := Lib.hid (Blk.new w13 #[.int .i64 r0.cu, .int .i64 r0.st, .slice pf2 r0.hs.length cf2, .slice pl2 r0.ls.length cl2, .slice pn2 r0.ns.length cn2] 56)
       have HB33 := Lib.hid (HB32.out.alloc HB32.out.size (.cells #[.int .i64 r0.cu, .int .i64 r0.st, .slice pf2 r0.hs.length cf2, .slice pl2 r0.ls.length cl2, .slice pn2 r0.ns.length cn2] 56))
       have HZ33 := kzq HZ32 hba.size
       have HGgv : Hid (w.heap.size ≤ w13.heap.size) := Lib.hid HB32.out.size
       clear hba Hc32 Hx32 Qc32 Qx132 Qx232 Qf32 HB32 HZ32
       go_upto_region 34 with fail
       generalize (w13.alloc (.cells #[.int .i64 r0.cu, .int .i64 r0.st, .slice pf2 r0.hs.length cf2, .slice pl2 r0.ls.length cl2, .slice pn2 r0.ns.length cn2] 56)) = W14 at *
       generalize hggv : w13.heap.size = gv at *
       clear hggv
       have HG := Lib.hid (msame_any ⟨0, 0, 0, 0, 0, 0, 0, 0, false, r0.ls, r0.ns⟩ (.slice pl1 r0.ls.length cl1) (.slice pn1 r0.ns.length cn1) (.slice pl2 r0.ls.length cl2) (.slice pn2 r0.ns.length cn2) W14 Qx133.out.ls Qx133.out.ns Qx233.out.ls Qx233.out.ns (by show r0.ls.length ≤ _; have := HSZ.out.2.1; omega) (by show r0.ns.length ≤ _; have := HSZ.out.2.2.1; omega))
       simp only [Msg.v] at HG
       have hbb : (bh != bh) = false := by simp
       have a3 : W14.cell? ⟨gx, 3, none⟩ = some (.slice pl1 r0.ls.length cl1) := Hx33.out.cell 3
       have a4 : W14.cell? ⟨gx, 4, none⟩ = some (.slice pn1 r0.ns.length cn1) := Hx33.out.cell 4
       have e3 : W14.cell? ⟨gv, 3, none⟩ = some (.slice pl2 r0.ls.length cl2) := Hv33.out.cell 3
       have e4 : W14.cell? ⟨gv, 4, none⟩ = some (.slice pn2 r0.ns.length cn2) := Hv33.out.cell 4
       go_wp2_with fail
       clear a3 a4 e3 e4 hbb
       refine HG.out.mono ?_
       rintro y9 w15 ⟨rfl, hb⟩
       clear HG
       have Hc34 := kbq Hc33 hb
       have Hx34 := kbq Hx33 hb
       have Hv34 := kbq Hv33 hb
       have Qc34 := Lib.hid (Qc33.out.kept hb)
       have Qx134 := Lib.hid (Qx133.out.kept hb)
       have Qx234 := Lib.hid (Qx233.out.kept hb)
       have Qf34 := Lib.hid (Qf33.out.kept hb)
       have HB34 := ktq HB33 hb
       have HZ34 := kzq HZ33 hb.size
       clear Hc33 Hx33 Hv33 Qc33 Qx133 Qx233 Qf33 HB33 HZ33
       clear hb
       have HREL : Hid (Below w15.heap.size w15 w15) := Lib.hid (Below.refl _ _)
       have a2 : w15.cell? ⟨gx, 2, none⟩ = some (.slice pf1 r0.hs.length cf1) := Hx34.out.cell 2
       go_wp2_with fail
       clear a2
       go_loopw [146] (fun i wr => ∃ j6 : Nat, j6 ≤ r0.hs.length ∧ i = .int .i64 j6 ∧ Hid (Below w15.heap.size w15 wr)) (fun i _ => r0.hs.length - (intOf i).toNat)
       case atStart => exact ⟨0, by omega, rfl, HREL⟩
       case round =>
        clear HREL
        obtain ⟨j6, hj6, rfl, HKj6⟩ := hrel
        have hj69 : j6 + 1 ≤ 9 := by have := HSZ.out.2.2.2; omega
        by_cases hltj6 : j6 < r0.hs.length
        ·have hltIj6 : (j6 : Int) < (r0.hs.length : Int) := by omega
         obtain ⟨b1, o1, q1, d1, hp1, hc1, hr1⟩ := (Qx134.out.hs.kept HKj6.out).at_ j6 hltj6
         obtain ⟨b2, o2, q2, d2, hp2, hc2, hr2⟩ := (Qx234.out.hs.kept HKj6.out).at_ j6 hltj6
         dsimp only at hp1 hc1 hr1 hp2 hc2 hr2
         obtain ⟨hq, hhq⟩ : ∃ q, r0.hs[j6] = q := ⟨_, rfl⟩
         have HQS : Hid (hq.ls.length ≤ 60) := Lib.hid (by rw [← hhq]; exact HSZ.out.1 _ (List.getElem_mem hltj6))
         rw [hhq] at hc1 hr1 hc2 hr2
         clear hhq
         have Qca20 : Hid (CellIs gx 2 (.slice (some ⟨b1, o1, none⟩) r0.hs.length cf1) wr) := Lib.hid (by
          have h1 : wr.cell? ⟨gx, 2, none⟩ = some (.slice pf1 r0.hs.length cf1) := (Hx34.out.below HKj6.out Hx34.out.lt).cell 2
          rw [hp1] at h1
          exact h1)
         have Qcb20 : Hid (CellIs gv 2 (.slice (some ⟨b2, o2, none⟩) r0.hs.length cf2) wr) := Lib.hid (by
          have h1 : wr.cell? ⟨gv, 2, none⟩ = some (.slice pf2 r0.hs.length cf2) := (Hv34.out.below HKj6.out Hv34.out.lt).cell 2
          rw [hp2] at h1
          exact h1)
         have Qcc20 : Hid (CellIs b1 (o1 + j6 * 3 + 2) (.slice q1 hq.ls.length d1) wr) := Lib.hid hc1
         have Qcd20 : Hid (CellIs b2 (o2 + j6 * 3 + 2) (.slice q2 hq.ls.length d2) wr) := Lib.hid hc2
         have Qla20 := Lib.hid hr1
         have Qlb20 := Lib.hid hr2
         have HB20 := Lib.hid HKj6.out
         have HZ20 : Hid (w15.heap.size ≤ wr.heap.size) := Lib.hid HKj6.out.size
         clear hp1 hc1 hr1 hp2 hc2 hr2 HKj6
         go_upto_region 39 with fail
         have hbd := (Below.refl wr.heap.size wr).drew
         have Qca21 := Lib.hid (Qca20.out.kept hbd)
         have Qcb21 := Lib.hid (Qcb20.out.kept hbd)
         have Qcc21 := Lib.hid (Qcc20.out.kept hbd)
         have Qcd21 := Lib.hid (Qcd20.out.kept hbd)
         have Qla21 := Lib.hid (Qla20.out.kept hbd)
         have Qlb21 := Lib.hid (Qlb20.out.kept hbd)
         have HB21 := ktq HB20 hbd
         have HZ21 := kzq HZ20 hbd.size
         clear Qca20 Qcb20 Qcc20 Qcd20 Qla20 Qlb20 HB20 HZ20
         refine wp_region_held_drew (S := fun w' => w'.cell? ⟨gx, 2, none⟩ = some (.slice (some ⟨b1, o1, none⟩) r0.hs.length cf1) ∧ w'.cell? ⟨gv, 2, none⟩ = some (.slice (some ⟨b2, o2, none⟩) r0.hs.length cf2) ∧ w'.cell? ⟨b1, o1 + j6 * 3 + 2, none⟩ = some (.slice q1 hq.ls.length d1) ∧ w'.cell? ⟨b2, o2 + j6 * 3 + 2, none⟩ = some (.slice q2 hq.ls.length d2)) (by kernel_rfl) ⟨Qca21.out, Qcb21.out, Qcc21.out, Qcd21.out⟩ (fun hS0 => ?_)
         generalize wr.drew = WD at *
         clear hbd
         refine tkq 0 ?_
         refine tkq 1 ?_
         refine tkq 2 ?_
         refine tkq 3 ?_
         refine tkq 4 ?_
         refine tkq 5 ?_
         refine tkq 6 ?_
         refine tkq 7 ?_
         refine tkq 8 ?_
         refine tkq 9 ?_
         refine tkq 10 ?_
         refine tkq 11 ?_
         refine tkq 12 ?_
         refine tkq 13 ?_
         refine rdq 14 (fun K hK => ?_)
         have HG := Lib.hid (msame_any ⟨0, 0, 0, 0, 0, 0, 0, 0, false, hq.ls, []⟩ (.slice q1 hq.ls.length d1) (.slice none 0 0) (.slice q2 hq.ls.length d2) (.slice none 0 0) WD Qla21.out (Row.nil_ _ _ 0) Qlb21.out (Row.nil_ _ _ 0) (by show hq.ls.length ≤ _; have := HQS.out; omega) (by show 0 ≤ _; decide))
         simp only [Msg.v, List.length_nil] at HG
         go_simp
         go_at_call 12
         refine HG.out.mono ?_
         rintro y9 w16 ⟨rfl, hb⟩
         clear HG
         have Qca22 := Lib.hid (Qca21.out.kept hb)
         have Qcb22 := Lib.hid (Qcb21.out.kept hb)
         have Qcc22 := Lib.hid (Qcc21.out.kept hb)
         have Qcd22 := Lib.hid (Qcd21.out.kept hb)
         have Qla22 := Lib.hid (Qla21.out.kept hb)
         have Qlb22 := Lib.hid (Qlb21.out.kept hb)
         have HB22 := ktq HB21 hb
         have HZ22 := kzq HZ21 hb.size
         clear Qca21 Qcb21 Qcc21 Qcd21 Qla21 Qlb21 HB21 HZ21
         clear hb hS0
         try go_wp2_with fail
         refine hK.out _ _ ⟨Qca22.out, Qcb22.out, Qcc22.out, Qcd22.out⟩ (fun hS0 => ?_)
         clear hK K
         try simp only [Act.put, List.getElem_toArray, List.getElem_cons_succ, List.getElem_cons_zero, List.setIfInBounds_toArray, List.set_cons_zero, List.set_cons_succ]
         refine tkq 15 ?_
         refine wpAnyH_done (by kernel_rfl) ?_ _
         clear hS0
         have HNX : Hid (Below w15.heap.size w15 w16) := Lib.hid HB22.out
         clear Qca22 Qcb22 Qcc22 Qcd22 Qla22 Qlb22 HB22 HZ22
         go_wp2_with fail
         go_roundw
         case rel => exact ⟨j6 + 1, by omega, by go_num, HNX⟩
         case measure => simp [intOf]; omega
        ·have hltIj6 : ¬ (j6 : Int) < (r0.hs.length : Int) := by omega
         have hb := HKj6.out
         clear HKj6 hj6 hltj6 hj69
         have Hc35 := kbq Hc34 hb
         have Hx35 := kbq Hx34 hb
         have Hv35 := kbq Hv34 hb
         have Qc35 := Lib.hid (Qc34.out.kept hb)
         have Qx135 := Lib.hid (Qx134.out.kept hb)
         have Qx235 := Lib.hid (Qx234.out.kept hb)
         have Qf35 := Lib.hid (Qf34.out.kept hb)
         have HB35 := ktq HB34 hb
         have HZ35 := kzq HZ34 hb.size
         clear Hc34 Hx34 Hv34 Qc34 Qx134 Qx234 Qf34 HB34 HZ34
         clear hb
         generalize wr = WC at *
         have HREL : Hid (LW (fun b => WB.heap.size ≤ b ∧ b < gv) pl2 r0.ls.length 4 WC ∧ Wr (fun b => ¬ (WB.heap.size ≤ b ∧ b < gv)) w WC WC) := Lib.hid ⟨lw_lines Qx235.out.ls Qx235.out.al Qf35.out, Wr.start HB35.out⟩
         clear Qf35
         have e3 : WC.cell? ⟨gv, 3, none⟩ = some (.slice pl2 r0.ls.length cl2) := Hv35.out.cell 3
         go_wp2_with fail
         clear e3
         go_loopw [169] (fun i wr => ∃ j7 : Nat, j7 ≤ r0.ls.length ∧ i = .int .i64 j7 ∧ Hid (LW (fun b => WB.heap.size ≤ b ∧ b < gv) pl2 r0.ls.length 4 wr ∧ Wr (fun b => ¬ (WB.heap.size ≤ b ∧ b < gv)) w WC wr)) (fun i _ => r0.ls.length - (intOf i).toNat)
         case atStart => exact ⟨0, by omega, rfl, HREL⟩
         case round =>
          clear HREL
          obtain ⟨j7, hj7, rfl, HKj7⟩ := hrel
          have hj79 : j7 + 1 ≤ 481 := by have := HSZ.out.2.1; omega
          by_cases hltj7 : j7 < r0.ls.length
          ·have hltIj7 : (j7 : Int) < (r0.ls.length : Int) := by omega
           obtain ⟨bb, ob, vb, hpb, hPB, hcb, hfb⟩ := HKj7.out.1.at_ j7 3 hltj7 (by decide)
           have m9 : wr.cell? ⟨gv, 3, none⟩ = some (.slice (some ⟨bb, ob, none⟩) r0.ls.length cl2) := by
            have h1 : wr.cell? ⟨gv, 3, none⟩ = some (.slice pl2 r0.ls.length cl2) := (Hv35.out.keepP HKj7.out.2.1 (fun h => Nat.lt_irrefl _ h.2)).cell 3
            rw [hpb] at h1
            exact h1
           have HNX : Hid (∀ v : Int, LW (fun b => WB.heap.size ≤ b ∧ b < gv) pl2 r0.ls.length 4 (wr.setCell ⟨bb, ob + j7 * 4 + 3, none⟩ (.int .i64 v)) ∧ Wr (fun b => ¬ (WB.heap.size ≤ b ∧ b < gv)) w WC (wr.setCell ⟨bb, ob + j7 * 4 + 3, none⟩ (.int .i64 v))) := Lib.hid (fun v => ⟨HKj7.out.1.set _ _ _, HKj7.out.2.set (fun h => h hPB) (by have := HZB.out; have := hPB.1; omega) _ _⟩)
           clear HKj7 hpb hPB
           go_wp2_with fail
           go_roundw
           case rel => exact ⟨j7 + 1, by omega, by go_num, Lib.hid (HNX.out _)⟩
           case measure => simp [intOf]; omega
          ·have hltIj7 : ¬ (j7 : Int) < (r0.ls.length : Int) := by omega
           have hkp := HKj7.out.2.1
           have hbb := HKj7.out.2.2
           clear HKj7 hj7 hltj7 hj79
           clear Hv35 Qx235
           have Hc36 := Lib.hid (Hc35.out.keepP hkp (by intro hx; (try dsimp only at hx); have := HBQ4.out; have := HGZ.out; have := HGM.out; have := HGM4.out; have := HW46.out; have := HW69.out; have := HS79.out; have := HS1.out; have := HGXB.out; have := HGCB.out; omega))
           have Hx36 := Lib.hid (Hx35.out.keepP hkp (by intro hx; (try dsimp only at hx); have := HBQ4.out; have := HGZ.out; have := HGM.out; have := HGM4.out; have := HW46.out; have := HW69.out; have := HS79.out; have := HS1.out; have := HGXB.out; have := HGCB.out; omega))
           have Qc36 := Lib.hid (Qc35.out.keepP (hkp.weak (fun b hb => by intro hx; (try dsimp only at hx hb); have := HBQ4.out; have := HGZ.out; have := HGM.out; have := HGM4.out; have := HW46.out; have := HW69.out; have := HS79.out; have := HS1.out; have := HGXB.out; have := HGCB.out; first | omega | (rcases hb with hb | hb <;> (have h9 := hb.2; omega)) | (rcases hb.1 with h8 | h8 <;> (have h9 := h8.2; omega)))))
           have Qx136 := Lib.hid (Qx135.out.keepP (hkp.weak (fun b hb => by intro hx; (try dsimp only at hx hb); have := HBQ4.out; have := HGZ.out; have := HGM.out; have := HGM4.out; have := HW46.out; have := HW69.out; have := HS79.out; have := HS1.out; have := HGXB.out; have := HGCB.out; first | omega | (rcases hb with hb | hb <;> (have h9 := hb.2; omega)) | (rcases hb.1 with h8 | h8 <;> (have h9 := h8.2; omega)))))
           have HB36 := Lib.hid (hbb)
           have HZ36 : Hid (w.heap.size ≤ wr.heap.size) := Lib.hid HB36.out.size
           clear Hc35 Hx35 Qc35 Qx135 HB35 HZ35
           clear hkp hbb
           generalize wr = WE at *
           have HG := Lib.hid (cget_q WE (fun b => (fun b => ((NotIn [gc]) b ∧ b < gz) ∨ (W6.heap.size ≤ b ∧ b < B4)) b ∧ b < WB.heap.size) 3 3 rfl nn p4 n4 c4 rs2 Qc36.out (by rw [Qc36.out.n]; have := HRL2.out; have := HN60.out; have := HLT.out; omega) (by decide) (by decide) bh HBH.out)
           have a0 : WE.cell? ⟨gc, 0, none⟩ = some (.int .i64 3) := Hc36.out.cell 0
           have a1 : WE.cell? ⟨gc, 1, none⟩ = some (.slice p4 n4 c4) := Hc36.out.cell 1
           go_wp2_with fail
           clear a0 a1
           refine HG.out.mono ?_
           rintro y9 w18 ⟨hb, ⟨rx, pf3, cf3, pl3, cl3, pn3, cn3⟩, rfl, hg⟩
           clear HG
           obtain ⟨hg1, hg2, hg3⟩ := hg.uni
           replace hg1 : r0 = rx := (by have h : rx = _ := hg1; rw [h, HR0.out])
           subst hg1
           have Qx337 : Hid ((⟨r0, pf3, cf3, pl3, cl3, pn3, cn3⟩ : RunX).In (fun b => WE.heap.size ≤ b ∧ b < w18.heap.size) w18) := Lib.hid hg2.lt
           have HS3 : Hid (WE.heap.size ≤ w18.heap.size) := Lib.hid hb.size
           clear hg hg2 hg3
           rw [RunX.v_mk]
           have Hc37 := kbq Hc36 hb
           have Hx37 := kbq Hx36 hb
           have Qc37 := Lib.hid (Qc36.out.kept hb)
           have Qx137 := Lib.hid (Qx136.out.kept hb)
           have HB37 := ktq HB36 hb
           have HZ37 := kzq HZ36 hb.size
           clear Hc36 Hx36 Qc36 Qx136 HB36 HZ36
           clear hb
           have hba := oneB w18 (.cells #[.int .i64 r0.cu, .int .i64 r0.st, .slice pf3 r0.hs.length cf3, .slice pl3 r0.ls.length cl3, .slice pn3 r0.ns.length cn3] 56)
           have Hc38 := kbq Hc37 hba
           have Hx38 := kbq Hx37 hba
           have Qc38 := Lib.hid (Qc37.out.kept hba)
           have Qx138 := Lib.hid (Qx137.out.kept hba)
           have Qx338 := Lib.hid (Qx337.out.kept hba)
           have Hu38 := Lib.hid (Blk.new w18 #[.int .i64 r0.cu, .int .i64 r0.st, .slice pf3 r0.hs.length cf3, .slice pl3 r0.ls.length cl3, .slice pn3 r0.ns.length cn3] 56)
           have HB38 := Lib.hid (HB37.out.alloc HB37.out.size (.cells #[.int .i64 r0.cu, .int .i64 r0.st, .slice pf3 r0.hs.length cf3, .slice pl3 r0.ls.length cl3, .slice pn3 r0.ns.length cn3] 56))
           have HZ38 := kzq HZ37 hba.size
           have HGgu : Hid (w.heap.size ≤ w18.heap.size) := Lib.hid HB37.out.size
           clear hba Hc37 Hx37 Qc37 Qx137 Qx337 HB37 HZ37
           go_upto_region 48 with fail
           generalize (w18.alloc (.cells #[.int .i64 r0.cu, .int .i64 r0.st, .slice pf3 r0.hs.length cf3, .slice pl3 r0.ls.length cl3, .slice pn3 r0.ns.length cn3] 56)) = W19 at *
           generalize hggu : w18.heap.size = gu at *
           clear hggu
           have HG := Lib.hid (msame_any ⟨0, 0, 0, 0, 0, 0, 0, 0, false, r0.ls, []⟩ (.slice pl1 r0.ls.length cl1) (.slice none 0 0) (.slice pl3 r0.ls.length cl3) (.slice none 0 0) W19 Qx138.out.ls (Row.nil_ _ _ 0) Qx338.out.ls (Row.nil_ _ _ 0) (by show r0.ls.length ≤ _; have := HSZ.out.2.1; omega) (by show 0 ≤ _; decide))
           simp only [Msg.v, List.length_nil] at HG
           have a3 : W19.cell? ⟨gx, 3, none⟩ = some (.slice pl1 r0.ls.length cl1) := Hx38.out.cell 3
           have e3 : W19.cell? ⟨gu, 3, none⟩ = some (.slice pl3 r0.ls.length cl3) := Hu38.out.cell 3
           go_wp2_with fail
           clear a3 e3
           refine HG.out.mono ?_
           rintro y9 w20 ⟨rfl, hb⟩
           clear HG
           have Hc39 := kbq Hc38 hb
           have Hx39 := kbq Hx38 hb
           have Hu39 := kbq Hu38 hb
           have Qc39 := Lib.hid (Qc38.out.kept hb)
           have Qx139 := Lib.hid (Qx138.out.kept hb)
           have Qx339 := Lib.hid (Qx338.out.kept hb)
           have HB39 := ktq HB38 hb
           have HZ39 := kzq HZ38 hb.size
           clear Hc38 Hx38 Hu38 Qc38 Qx138 Qx338 HB38 HZ38
           clear hb
           have HNX : Hid (∃ (rs : List Rn) (p : Option Addr) (m c : Nat), Blk w20 gc #[.int .i64 3, .slice p m c] 27 ∧ Ct (NotIn [gc]) w20 3 p m c rs ∧ rs.length ≤ (k + 1) ∧ Below w.heap.size w w20) := Lib.hid ⟨rs2, p4, n4, c4, Hc39.out, ⟨Qc39.out.rs.imp (fun b hb hm => by
            rcases hb.1 with h | h
            ·exact h.1 hm
            ·simp only [List.mem_cons, List.not_mem_nil, or_false] at hm
             have := HGZ.out
             have := HGM.out
             have := HGM4.out
             have := HW46.out
             omega), Qc39.out.n, Qc39.out.ok⟩, HRL2.out, HB39.out⟩
           go_wp2_with fail
           go_roundw
           case rel => exact ⟨k + 1, by have := HLT.out; omega, by go_num, HNX⟩
           case measure => have := HLT.out; simp [intOf]; omega
  ·have hltI : ¬ (k : Int) < (wn : Int) := by omega
   obtain ⟨rs, p0, m0, q0, hk1, hk2, hk5, hk4⟩ := HK.out
   have HBE := Lib.hid hk4
   clear hk1 hk2 hk4 hk5 HK
   go_wp2_with fail
   go_ret
   exact ⟨rfl, HBE.out⟩
end Go.Proofs.Ytpddmcimmkepfaa
namespace Go.Proofs.Ytpddmcimmkepfaa
open Go.ChangeShapes Go.WideShapes Go.ChangeAt Go.RowKit
section
variable {H : Type} {enc : TypeId × Value → H} {P : Program} {w : World} {base : Nat} {held : Bool}
theorem wd_readI {t tm : TypeId} {f0 fm : Field} (ht : P.underlying t = some (.struct #[f0, fm])) (o0 : f0.offset = 0) (om : fm.offset = 1)
  (u0 : P.underlying f0.type = some (.int .i64)) (tm' : fm.type = tm) (cc : P.cellsOf f0.type = 1 ∧ P.cellsOf tm = 11)
  (rd : ∀ (fuel : Nat) (cs : List Value) (y : DataW H × List MemPlace), cs.length = 11 → DataW.trod enc P w base (fun _ => true) held fuel tm cs = some y → ∃ x : MsgX, cs = x.cells ∧ x.In w)
  (fuel : Nat) (cs : List Value) (y : DataW H × List MemPlace) (hl : cs.length = 12) (hf : DataW.trod enc P w base (fun _ => true) held fuel t cs = some y) : ∃ x : SdX, cs = x.cells ∧ x.x.In w := by
 obtain ⟨c0, cm⟩ := cc
 match cs, hl with
 | v0 :: ms, hl =>
  have hml : ms.length = 11 := by simpa using hl
  obtain ⟨xs, k, hk, hxy, _, hxl, hf⟩ := DataW.trod_struct ht hf
  match xs, hxl with
  | [y0, ym], _ =>
   have g0 := hf 0 f0 rfl
   have gm := hf 1 fm rfl
   subst tm'
   simp [o0, om, c0, cm] at g0 gm
   rw [List.take_of_length_le (by omega)] at gm
   obtain ⟨z0, q0, _, w0⟩ := DataW.trod_int u0 g0
   simp at q0
   obtain ⟨x, rfl, hin⟩ := rd _ _ _ hml gm
   subst q0
   exact ⟨⟨z0, x⟩, rfl, hin⟩
end
end Go.Proofs.Ytpddmcimmkepfaa
