/- (book.Book).Get by contract. -/
import Derived.Test.YtbpfbebebppleaaBookWI
namespace Go.Proofs.Ytbpfbebebppleaa
open Go.RowKit
set_option linter.unusedSimpArgs false in
set_option maxHeartbeats 4000000 in
set_option maxRecDepth 100000 in
theorem get_found (w : World) (me : Int) (pi po : Option Addr) (ni ci no co : Nat) (s n : Int) (xs A B : List Itm) (q : Itm) (hr : TRow encI w (.slice pi ni ci) xs) (hl : xs.length = ni) (hA : AroundF posI ⟨s, n, 0⟩ xs A [q] B) (hn : ni ≤ 2000) :
    Calls Try.prog 16 #[bookV me (.slice pi ni ci) (.slice po no co), idV s n] w fun e w' => e = .returned (.tuple #[q.v, .bool true]) ∧ Below w.heap.size w w' := by
  have hal : A.length < xs.length := by rw [hA.all]; simp <;> omega
  obtain ⟨b, o, hpv, hbl, hcs⟩ := hr.at_ A.length hal
  subst hpv
  have hq : xs[A.length] = q := by have e := hA.all; subst e; simp
  rw [hq] at hcs
  have hcap4 : ((A.length : Nat) : Int) < ((ni : Nat) : Int) := by omega
  have HQB := Lib.hid hbl
  have HQC := Lib.hid hcs
  clear hal hq hbl hcs
  have HF := Lib.hid (fun (W : World) (hb : Below w.heap.size w W) => findI_any W me (.slice (some ⟨b, o, none⟩) ni ci) (.slice po no co) xs A [q] B s n (hr.kept hb) hA (by omega))
  rw [show decide (([q] : List Itm) ≠ []) = true by simp] at HF
  unfold idV bookV at *
  unfold Itm.v
  clear hr hl hA hn
  go_enter Try.func16, Try.ntmps16
  go_wp2_with fail
  generalize hW1 : ((w.alloc (.cells #[.int .i64 me, .slice (some ⟨b, o, none⟩) ni ci, .slice po no co] 27)).alloc (.cells #[.int .i64 s, .int .i64 n] 36)).alloc (.cells #[.int .i64 0, .int .i64 0, .int .i64 0, .int .i64 0, .int .i64 0, .int .i64 0, .int .i64 0, .int .i64 0] 64) = W1
  have HB1 : Hid (Below w.heap.size w W1) := by show Below _ _ _; rw [← hW1]; exact ((oneB w _).alloc (by simp) _).alloc (by simp <;> omega) _
  have HK1 : Hid (Blk W1 w.heap.size #[.int .i64 me, .slice (some ⟨b, o, none⟩) ni ci, .slice po no co] 27) := by show Blk _ _ _ _; rw [← hW1]; exact ((Blk.new w _ _).alloc _).alloc _
  have HX1 : Hid (Blk W1 (w.heap.size + 1) #[.int .i64 s, .int .i64 n] 36) := by show Blk _ _ _ _; rw [← hW1]; exact (Blk.new' _ _ _ (by simp)).alloc _
  have HR1 : Hid (Blk W1 (w.heap.size + 1 + 1) #[.int .i64 0, .int .i64 0, .int .i64 0, .int .i64 0, .int .i64 0, .int .i64 0, .int .i64 0, .int .i64 0] 64) := by show Blk _ _ _ _; rw [← hW1]; exact Blk.new' _ _ _ (by simp)
  clear hW1
  refine (HF.out _ HB1.out).mono ?_
  rintro y w2 ⟨rfl, hb2⟩
  have HK2 := Lib.hid (HK1.out.below hb2 HK1.out.lt)
  have HX2 := Lib.hid (HX1.out.below hb2 HX1.out.lt)
  have HR2 := Lib.hid (HR1.out.below hb2 HR1.out.lt)
  have HB2 := Lib.hid (HB1.out.trans (hb2.mono HB1.out.size))
  clear HF hb2 HK1 HX1 HR1
  have b0 : w2.cell? ⟨w.heap.size, 0, none⟩ = some (.int .i64 me) := HK2.out.cell 0
  have b1 : w2.cell? ⟨w.heap.size, 1, none⟩ = some (.slice (some ⟨b, o, none⟩) ni ci) := HK2.out.cell 1
  have b2 : w2.cell? ⟨w.heap.size, 2, none⟩ = some (.slice po no co) := HK2.out.cell 2
  have r0 : w2.cell? ⟨w.heap.size + 1 + 1, 0, none⟩ = some (.int .i64 0) := HR2.out.cell 0
  have fr0 := HR2.out.free 0
  have r1 : w2.cell? ⟨w.heap.size + 1 + 1, 1, none⟩ = some (.int .i64 0) := HR2.out.cell 1
  have fr1 := HR2.out.free 1
  have r2 : w2.cell? ⟨w.heap.size + 1 + 1, 2, none⟩ = some (.int .i64 0) := HR2.out.cell 2
  have fr2 := HR2.out.free 2
  have r3 : w2.cell? ⟨w.heap.size + 1 + 1, 3, none⟩ = some (.int .i64 0) := HR2.out.cell 3
  have fr3 := HR2.out.free 3
  have r4 : w2.cell? ⟨w.heap.size + 1 + 1, 4, none⟩ = some (.int .i64 0) := HR2.out.cell 4
  have fr4 := HR2.out.free 4
  have r5 : w2.cell? ⟨w.heap.size + 1 + 1, 5, none⟩ = some (.int .i64 0) := HR2.out.cell 5
  have fr5 := HR2.out.free 5
  have r6 : w2.cell? ⟨w.heap.size + 1 + 1, 6, none⟩ = some (.int .i64 0) := HR2.out.cell 6
  have fr6 := HR2.out.free 6
  have r7 : w2.cell? ⟨w.heap.size + 1 + 1, 7, none⟩ = some (.int .i64 0) := HR2.out.cell 7
  have fr7 := HR2.out.free 7
  have q0 : w2.cell? ⟨b, o + A.length * 8, none⟩ = some (.int .i64 q.s) := (HB2.out.cell (p := ⟨b, _, none⟩) HQB.out).trans (HQC.out 0 (by decide))
  have q1 : w2.cell? ⟨b, o + A.length * 8 + 1, none⟩ = some (.int .i64 q.n) := (HB2.out.cell (p := ⟨b, _, none⟩) HQB.out).trans (HQC.out 1 (by decide))
  have q2 : w2.cell? ⟨b, o + A.length * 8 + 2, none⟩ = some (.int .i64 q.b) := (HB2.out.cell (p := ⟨b, _, none⟩) HQB.out).trans (HQC.out 2 (by decide))
  have q3 : w2.cell? ⟨b, o + A.length * 8 + 3, none⟩ = some (.int .i64 q.c) := (HB2.out.cell (p := ⟨b, _, none⟩) HQB.out).trans (HQC.out 3 (by decide))
  have q4 : w2.cell? ⟨b, o + A.length * 8 + 4, none⟩ = some (.int .i64 q.a) := (HB2.out.cell (p := ⟨b, _, none⟩) HQB.out).trans (HQC.out 4 (by decide))
  have q5 : w2.cell? ⟨b, o + A.length * 8 + 5, none⟩ = some (.int .i64 q.r) := (HB2.out.cell (p := ⟨b, _, none⟩) HQB.out).trans (HQC.out 5 (by decide))
  have q6 : w2.cell? ⟨b, o + A.length * 8 + 6, none⟩ = some (.int .i64 q.t) := (HB2.out.cell (p := ⟨b, _, none⟩) HQB.out).trans (HQC.out 6 (by decide))
  have q7 : w2.cell? ⟨b, o + A.length * 8 + 7, none⟩ = some (.int .i64 q.y) := (HB2.out.cell (p := ⟨b, _, none⟩) HQB.out).trans (HQC.out 7 (by decide))
  go_wp2_with fail
  have hf1 := HR2.out.set 0 (.int .i64 q.s)
  have hb1 := HB2.out.setCell (p := ⟨w.heap.size + 1 + 1, 0, none⟩) (by show w.heap.size ≤ w.heap.size + 1 + 1; omega) (.int .i64 q.s)
  have hf2 := hf1.set 1 (.int .i64 q.n)
  have hb2 := hb1.setCell (p := ⟨w.heap.size + 1 + 1, 1, none⟩) (by show w.heap.size ≤ w.heap.size + 1 + 1; omega) (.int .i64 q.n)
  have hf3 := hf2.set 2 (.int .i64 q.b)
  have hb3 := hb2.setCell (p := ⟨w.heap.size + 1 + 1, 2, none⟩) (by show w.heap.size ≤ w.heap.size + 1 + 1; omega) (.int .i64 q.b)
  have hf4 := hf3.set 3 (.int .i64 q.c)
  have hb4 := hb3.setCell (p := ⟨w.heap.size + 1 + 1, 3, none⟩) (by show w.heap.size ≤ w.heap.size + 1 + 1; omega) (.int .i64 q.c)
  have hf5 := hf4.set 4 (.int .i64 q.a)
  have hb5 := hb4.setCell (p := ⟨w.heap.size + 1 + 1, 4, none⟩) (by show w.heap.size ≤ w.heap.size + 1 + 1; omega) (.int .i64 q.a)
  have hf6 := hf5.set 5 (.int .i64 q.r)
  have hb6 := hb5.setCell (p := ⟨w.heap.size + 1 + 1, 5, none⟩) (by show w.heap.size ≤ w.heap.size + 1 + 1; omega) (.int .i64 q.r)
  have hf7 := hf6.set 6 (.int .i64 q.t)
  have hb7 := hb6.setCell (p := ⟨w.heap.size + 1 + 1, 6, none⟩) (by show w.heap.size ≤ w.heap.size + 1 + 1; omega) (.int .i64 q.t)
  have hf8 := hf7.set 7 (.int .i64 q.y)
  have hb8 := hb7.setCell (p := ⟨w.heap.size + 1 + 1, 7, none⟩) (by show w.heap.size ≤ w.heap.size + 1 + 1; omega) (.int .i64 q.y)
  refine bodyPost_ret (v := .tuple #[.agg #[.int .i64 q.s, .int .i64 q.n, .int .i64 q.b, .int .i64 q.c, .int .i64 q.a, .int .i64 q.r, .int .i64 q.t, .int .i64 q.y], .bool true]) (by simp [results, Try.results16, go_sem, hf8.cell 0, hf8.cell 1, hf8.cell 2, hf8.cell 3, hf8.cell 4, hf8.cell 5, hf8.cell 6, hf8.cell 7]) rfl ⟨rfl, hb8⟩
set_option linter.unusedSimpArgs false in
set_option maxHeartbeats 4000000 in
set_option maxRecDepth 100000 in
theorem get_none (w : World) (me : Int) (pi po : Option Addr) (ni ci no co : Nat) (s n : Int) (xs A B : List Itm) (hr : TRow encI w (.slice pi ni ci) xs) (hl : xs.length = ni) (hA : AroundF posI ⟨s, n, 0⟩ xs A [] B) (hn : ni ≤ 2000) :
    Calls Try.prog 16 #[bookV me (.slice pi ni ci) (.slice po no co), idV s n] w fun e w' => e = .returned (.tuple #[.agg #[.int .i64 0, .int .i64 0, .int .i64 0, .int .i64 0, .int .i64 0, .int .i64 0, .int .i64 0, .int .i64 0], .bool false]) ∧ Below w.heap.size w w' := by
  have HF := Lib.hid (fun (W : World) (hb : Below w.heap.size w W) => findI_any W me (.slice pi ni ci) (.slice po no co) xs A [] B s n (hr.kept hb) hA (by omega))
  rw [show decide (([] : List Itm) ≠ []) = false by simp] at HF
  unfold idV bookV at *
  clear hr hl hA hn
  go_enter Try.func16, Try.ntmps16
  go_wp2_with fail
  generalize hW1 : ((w.alloc (.cells #[.int .i64 me, .slice pi ni ci, .slice po no co] 27)).alloc (.cells #[.int .i64 s, .int .i64 n] 36)).alloc (.cells #[.int .i64 0, .int .i64 0, .int .i64 0, .int .i64 0, .int .i64 0, .int .i64 0, .int .i64 0, .int .i64 0] 64) = W1
  have HB1 : Hid (Below w.heap.size w W1) := by show Below _ _ _; rw [← hW1]; exact ((oneB w _).alloc (by simp) _).alloc (by simp <;> omega) _
  have HK1 : Hid (Blk W1 w.heap.size #[.int .i64 me, .slice pi ni ci, .slice po no co] 27) := by show Blk _ _ _ _; rw [← hW1]; exact ((Blk.new w _ _).alloc _).alloc _
  have HX1 : Hid (Blk W1 (w.heap.size + 1) #[.int .i64 s, .int .i64 n] 36) := by show Blk _ _ _ _; rw [← hW1]; exact (Blk.new' _ _ _ (by simp)).alloc _
  have HR1 : Hid (Blk W1 (w.heap.size + 1 + 1) #[.int .i64 0, .int .i64 0, .int .i64 0, .int .i64 0, .int .i64 0, .int .i64 0, .int .i64 0, .int .i64 0] 64) := by show Blk _ _ _ _; rw [← hW1]; exact Blk.new' _ _ _ (by simp)
  clear hW1
  refine (HF.out _ HB1.out).mono ?_
  rintro y w2 ⟨rfl, hb2⟩
  have HK2 := Lib.hid (HK1.out.below hb2 HK1.out.lt)
  have HX2 := Lib.hid (HX1.out.below hb2 HX1.out.lt)
  have HR2 := Lib.hid (HR1.out.below hb2 HR1.out.lt)
  have HB2 := Lib.hid (HB1.out.trans (hb2.mono HB1.out.size))
  clear HF hb2 HK1 HX1 HR1
  have b0 : w2.cell? ⟨w.heap.size, 0, none⟩ = some (.int .i64 me) := HK2.out.cell 0
  have b1 : w2.cell? ⟨w.heap.size, 1, none⟩ = some (.slice pi ni ci) := HK2.out.cell 1
  have b2 : w2.cell? ⟨w.heap.size, 2, none⟩ = some (.slice po no co) := HK2.out.cell 2
  have r0 : w2.cell? ⟨w.heap.size + 1 + 1, 0, none⟩ = some (.int .i64 0) := HR2.out.cell 0
  have fr0 := HR2.out.free 0
  have r1 : w2.cell? ⟨w.heap.size + 1 + 1, 1, none⟩ = some (.int .i64 0) := HR2.out.cell 1
  have fr1 := HR2.out.free 1
  have r2 : w2.cell? ⟨w.heap.size + 1 + 1, 2, none⟩ = some (.int .i64 0) := HR2.out.cell 2
  have fr2 := HR2.out.free 2
  have r3 : w2.cell? ⟨w.heap.size + 1 + 1, 3, none⟩ = some (.int .i64 0) := HR2.out.cell 3
  have fr3 := HR2.out.free 3
  have r4 : w2.cell? ⟨w.heap.size + 1 + 1, 4, none⟩ = some (.int .i64 0) := HR2.out.cell 4
  have fr4 := HR2.out.free 4
  have r5 : w2.cell? ⟨w.heap.size + 1 + 1, 5, none⟩ = some (.int .i64 0) := HR2.out.cell 5
  have fr5 := HR2.out.free 5
  have r6 : w2.cell? ⟨w.heap.size + 1 + 1, 6, none⟩ = some (.int .i64 0) := HR2.out.cell 6
  have fr6 := HR2.out.free 6
  have r7 : w2.cell? ⟨w.heap.size + 1 + 1, 7, none⟩ = some (.int .i64 0) := HR2.out.cell 7
  have fr7 := HR2.out.free 7
  go_wp2_with fail
  have hf1 := HR2.out.set 0 (.int .i64 0)
  have hb1 := HB2.out.setCell (p := ⟨w.heap.size + 1 + 1, 0, none⟩) (by show w.heap.size ≤ w.heap.size + 1 + 1; omega) (.int .i64 0)
  have hf2 := hf1.set 1 (.int .i64 0)
  have hb2 := hb1.setCell (p := ⟨w.heap.size + 1 + 1, 1, none⟩) (by show w.heap.size ≤ w.heap.size + 1 + 1; omega) (.int .i64 0)
  have hf3 := hf2.set 2 (.int .i64 0)
  have hb3 := hb2.setCell (p := ⟨w.heap.size + 1 + 1, 2, none⟩) (by show w.heap.size ≤ w.heap.size + 1 + 1; omega) (.int .i64 0)
  have hf4 := hf3.set 3 (.int .i64 0)
  have hb4 := hb3.setCell (p := ⟨w.heap.size + 1 + 1, 3, none⟩) (by show w.heap.size ≤ w.heap.size + 1 + 1; omega) (.int .i64 0)
  have hf5 := hf4.set 4 (.int .i64 0)
  have hb5 := hb4.setCell (p := ⟨w.heap.size + 1 + 1, 4, none⟩) (by show w.heap.size ≤ w.heap.size + 1 + 1; omega) (.int .i64 0)
  have hf6 := hf5.set 5 (.int .i64 0)
  have hb6 := hb5.setCell (p := ⟨w.heap.size + 1 + 1, 5, none⟩) (by show w.heap.size ≤ w.heap.size + 1 + 1; omega) (.int .i64 0)
  have hf7 := hf6.set 6 (.int .i64 0)
  have hb7 := hb6.setCell (p := ⟨w.heap.size + 1 + 1, 6, none⟩) (by show w.heap.size ≤ w.heap.size + 1 + 1; omega) (.int .i64 0)
  have hf8 := hf7.set 7 (.int .i64 0)
  have hb8 := hb7.setCell (p := ⟨w.heap.size + 1 + 1, 7, none⟩) (by show w.heap.size ≤ w.heap.size + 1 + 1; omega) (.int .i64 0)
  refine bodyPost_ret (v := .tuple #[.agg #[.int .i64 0, .int .i64 0, .int .i64 0, .int .i64 0, .int .i64 0, .int .i64 0, .int .i64 0, .int .i64 0], .bool false]) (by simp [results, Try.results16, go_sem, hf8.cell 0, hf8.cell 1, hf8.cell 2, hf8.cell 3, hf8.cell 4, hf8.cell 5, hf8.cell 6, hf8.cell 7]) rfl ⟨rfl, hb8⟩
end Go.Proofs.Ytbpfbebebppleaa
