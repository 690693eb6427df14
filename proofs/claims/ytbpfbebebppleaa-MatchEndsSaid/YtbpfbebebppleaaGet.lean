/- book.New, (book.Book).Expect, Get, Expected by contract. -/
import Derived.Test.YtbpfbebebppleaaGetI
import Derived.Test.YtbpfbebebppleaaBookWO
namespace Go.Proofs.Ytbpfbebebppleaa
open Go.RowKit
set_option linter.unusedSimpArgs false in
set_option maxHeartbeats 4000000 in
set_option maxRecDepth 100000 in
theorem buys_any (w : World) (me : Int) (pi po : Option Addr) (ni ci no co : Nat) (s n : Int) (h : 0 ≤ s ∧ s < 8 ∧ s ≠ me ∧ 1 ≤ n ∧ n ≤ 1048576) : Calls Try.prog 68 #[bookV me (.slice pi ni ci) (.slice po no co), idV s n] w fun e w' => e = .returned (.bool true) ∧ Below w.heap.size w w' := by
  have h1 : (0 : Int) ≤ s := h.1
  have h2 : s < 8 := h.2.1
  have h3 : (s != me) = true := by simpa using h.2.2.1
  have h4 : (1 : Int) ≤ n := h.2.2.2.1
  have h5 : n ≤ 1048576 := h.2.2.2.2
  unfold bookV idV
  clear h
  go_enter Try.func68, Try.ntmps68
  go_wp2
  go_ret
  exact ⟨rfl, (oneB w _).alloc (by simp) _⟩
set_option linter.unusedSimpArgs false in
set_option maxHeartbeats 4000000 in
set_option maxRecDepth 100000 in
theorem expected_found (w : World) (me : Int) (pi po : Option Addr) (ni ci no co : Nat) (s n : Int) (xs A B : List Ord) (q : Ord) (hr : TRow encO w (.slice po no co) xs) (hl : xs.length = no) (hA : AroundF posO ⟨s, n, 0⟩ xs A [q] B) (hn : no ≤ 2000) :
    Calls Try.prog 24 #[bookV me (.slice pi ni ci) (.slice po no co), idV s n] w fun e w' => e = .returned (.tuple #[.int .i64 q.a, .bool true]) ∧ Below w.heap.size w w' := by
  have hal : A.length < xs.length := by rw [hA.all]; simp <;> omega
  obtain ⟨b, o, hpv, hbl, hcs⟩ := hr.at_ A.length hal
  subst hpv
  have hq : xs[A.length] = q := by have e := hA.all; subst e; simp
  rw [hq] at hcs
  have hcap4 : ((A.length : Nat) : Int) < ((no : Nat) : Int) := by omega
  have HQB := Lib.hid hbl
  have HQC := Lib.hid hcs
  clear hal hq hbl hcs
  have HF := Lib.hid (fun (W : World) (hb : Below w.heap.size w W) => findO_any W me (.slice pi ni ci) (.slice (some ⟨b, o, none⟩) no co) xs A [q] B s n (hr.kept hb) hA (by omega))
  rw [show decide (([q] : List Ord) ≠ []) = true by simp] at HF
  unfold idV bookV at *
  clear hr hl hA hn
  go_enter Try.func24, Try.ntmps24
  go_wp2_with fail
  generalize hW1 : (w.alloc (.cells #[.int .i64 me, .slice pi ni ci, .slice (some ⟨b, o, none⟩) no co] 27)).alloc (.cells #[.int .i64 s, .int .i64 n] 36) = W1
  have HB1 : Hid (Below w.heap.size w W1) := by show Below _ _ _; rw [← hW1]; exact (oneB w _).alloc (by simp) _
  have HK1 : Hid (Blk W1 w.heap.size #[.int .i64 me, .slice pi ni ci, .slice (some ⟨b, o, none⟩) no co] 27) := by show Blk _ _ _ _; rw [← hW1]; exact (Blk.new w _ _).alloc _
  have HX1 : Hid (Blk W1 (w.heap.size + 1) #[.int .i64 s, .int .i64 n] 36) := by show Blk _ _ _ _; rw [← hW1]; exact Blk.new' _ _ _ (by simp)
  clear hW1
  refine (HF.out _ HB1.out).mono ?_
  rintro y w2 ⟨rfl, hb2⟩
  have HK2 := Lib.hid (HK1.out.below hb2 HK1.out.lt)
  have HX2 := Lib.hid (HX1.out.below hb2 HX1.out.lt)
  have HB2 := Lib.hid (HB1.out.trans (hb2.mono HB1.out.size))
  clear HF hb2 HK1 HX1
  have b0 : w2.cell? ⟨w.heap.size, 0, none⟩ = some (.int .i64 me) := HK2.out.cell 0
  have b1 : w2.cell? ⟨w.heap.size, 1, none⟩ = some (.slice pi ni ci) := HK2.out.cell 1
  have b2 : w2.cell? ⟨w.heap.size, 2, none⟩ = some (.slice (some ⟨b, o, none⟩) no co) := HK2.out.cell 2
  have q0 : w2.cell? ⟨b, o + A.length * 3, none⟩ = some (.int .i64 q.s) := (HB2.out.cell (p := ⟨b, _, none⟩) HQB.out).trans (HQC.out 0 (by decide))
  have q1 : w2.cell? ⟨b, o + A.length * 3 + 1, none⟩ = some (.int .i64 q.n) := (HB2.out.cell (p := ⟨b, _, none⟩) HQB.out).trans (HQC.out 1 (by decide))
  have q2 : w2.cell? ⟨b, o + A.length * 3 + 2, none⟩ = some (.int .i64 q.a) := (HB2.out.cell (p := ⟨b, _, none⟩) HQB.out).trans (HQC.out 2 (by decide))
  go_wp2_with fail
  go_ret2
  exact ⟨rfl, HB2.out⟩
set_option linter.unusedSimpArgs false in
set_option maxHeartbeats 4000000 in
set_option maxRecDepth 100000 in
theorem expected_none (w : World) (me : Int) (pi po : Option Addr) (ni ci no co : Nat) (s n : Int) (xs A B : List Ord) (hr : TRow encO w (.slice po no co) xs) (hl : xs.length = no) (hA : AroundF posO ⟨s, n, 0⟩ xs A [] B) (hn : no ≤ 2000) :
    Calls Try.prog 24 #[bookV me (.slice pi ni ci) (.slice po no co), idV s n] w fun e w' => e = .returned (.tuple #[.int .i64 0, .bool false]) ∧ Below w.heap.size w w' := by
  have HF := Lib.hid (fun (W : World) (hb : Below w.heap.size w W) => findO_any W me (.slice pi ni ci) (.slice po no co) xs A [] B s n (hr.kept hb) hA (by omega))
  rw [show decide (([] : List Ord) ≠ []) = false by simp] at HF
  unfold idV bookV at *
  clear hr hl hA hn
  go_enter Try.func24, Try.ntmps24
  go_wp2_with fail
  generalize hW1 : (w.alloc (.cells #[.int .i64 me, .slice pi ni ci, .slice po no co] 27)).alloc (.cells #[.int .i64 s, .int .i64 n] 36) = W1
  have HB1 : Hid (Below w.heap.size w W1) := by show Below _ _ _; rw [← hW1]; exact (oneB w _).alloc (by simp) _
  have HK1 : Hid (Blk W1 w.heap.size #[.int .i64 me, .slice pi ni ci, .slice po no co] 27) := by show Blk _ _ _ _; rw [← hW1]; exact (Blk.new w _ _).alloc _
  have HX1 : Hid (Blk W1 (w.heap.size + 1) #[.int .i64 s, .int .i64 n] 36) := by show Blk _ _ _ _; rw [← hW1]; exact Blk.new' _ _ _ (by simp)
  clear hW1
  refine (HF.out _ HB1.out).mono ?_
  rintro y w2 ⟨rfl, hb2⟩
  have HK2 := Lib.hid (HK1.out.below hb2 HK1.out.lt)
  have HX2 := Lib.hid (HX1.out.below hb2 HX1.out.lt)
  have HB2 := Lib.hid (HB1.out.trans (hb2.mono HB1.out.size))
  clear HF hb2 HK1 HX1
  have b0 : w2.cell? ⟨w.heap.size, 0, none⟩ = some (.int .i64 me) := HK2.out.cell 0
  have b1 : w2.cell? ⟨w.heap.size, 1, none⟩ = some (.slice pi ni ci) := HK2.out.cell 1
  have b2 : w2.cell? ⟨w.heap.size, 2, none⟩ = some (.slice po no co) := HK2.out.cell 2
  go_wp2_with fail
  go_ret2
  exact ⟨rfl, HB2.out⟩
set_option linter.unusedSimpArgs false in
set_option maxHeartbeats 4000000 in
set_option maxRecDepth 100000 in
theorem expect_new (w : World) (me : Int) (pi po : Option Addr) (ni ci no co : Nat) (s n a : Int) (xs A B : List Ord) (hr : TRow encO w (.slice po no co) xs) (hl : xs.length = no) (hA : AroundF posO ⟨s, n, 0⟩ xs A [] B) (hn : no ≤ 1024) (h : 0 ≤ s ∧ s < 8 ∧ s ≠ me ∧ 1 ≤ n ∧ n ≤ 1048576) (h1 : 1 ≤ a ∧ a ≤ 1125899906842624) (h3 : no < 1024) :
    Calls Try.prog 54 #[bookV me (.slice pi ni ci) (.slice po no co), idV s n, .int .i64 a] w fun e w' => ∃ po' no' co', e = .returned (.tuple #[.agg #[.int .i64 me, .slice pi ni ci, .slice po' no' co'], .int .i64 0]) ∧ OwnT encO w' w.heap.size 92 (.slice po' no' co') (A ++ [⟨s, n, a⟩] ++ B) ∧ Below w.heap.size w w' := by
  have HBY := Lib.hid (fun (W : World) => buys_any W me pi po ni ci no co s n h)
  have HF := Lib.hid (fun (W : World) (hb : Below w.heap.size w W) => findO_any W me (.slice pi ni ci) (.slice po no co) xs A [] B s n (hr.kept hb) hA (by omega))
  have HW := Lib.hid (fun (W : World) (hb : Below w.heap.size w W) => withO_any W (.slice po no co) xs A [] B _ ⟨s, n, a⟩ (hr.kept hb) hA (by omega))
  rw [show decide (([] : List Ord) ≠ []) = false by simp] at HF HW
  unfold idV bookV at *
  unfold Ord.v at HW
  have a1 : ¬ a < 1 := by omega
  have a2 : ¬ (1125899906842624 : Int) < a := by omega
  have a3 : ¬ ((1024 : Int) ≤ (no : Int)) := by omega
  clear h3
  clear hr hl hA hn h h1
  go_enter Try.func54, Try.ntmps54
  go_wp2_with fail
  generalize hW1 : ((w.alloc (.cells #[.int .i64 me, .slice pi ni ci, .slice po no co] 27)).alloc (.cells #[.int .i64 s, .int .i64 n] 36)).alloc (.cells #[.int .i64 0, .slice none 0 0, .slice none 0 0] 27) = W1
  have HB1 : Hid (Below w.heap.size w W1) := by show Below _ _ _; rw [← hW1]; exact ((oneB w _).alloc (by simp) _).alloc (by simp <;> omega) _
  have HK1 : Hid (Blk W1 w.heap.size #[.int .i64 me, .slice pi ni ci, .slice po no co] 27) := by show Blk _ _ _ _; rw [← hW1]; exact ((Blk.new w _ _).alloc _).alloc _
  have HX1 : Hid (Blk W1 (w.heap.size + 1) #[.int .i64 s, .int .i64 n] 36) := by show Blk _ _ _ _; rw [← hW1]; exact (Blk.new' _ _ _ (by simp)).alloc _
  have HR1 : Hid (Blk W1 (w.heap.size + 1 + 1) #[.int .i64 0, .slice none 0 0, .slice none 0 0] 27) := by show Blk _ _ _ _; rw [← hW1]; exact Blk.new' _ _ _ (by simp)
  clear hW1
  refine (HBY.out _).mono ?_
  rintro y w2 ⟨rfl, hb2⟩
  have HK2 := Lib.hid (HK1.out.below hb2 HK1.out.lt)
  have HX2 := Lib.hid (HX1.out.below hb2 HX1.out.lt)
  have HR2 := Lib.hid (HR1.out.below hb2 HR1.out.lt)
  have HB2 := Lib.hid (HB1.out.trans (hb2.mono HB1.out.size))
  clear HBY hb2 HK1 HX1 HR1
  have b0 : w2.cell? ⟨w.heap.size, 0, none⟩ = some (.int .i64 me) := HK2.out.cell 0
  have b1 : w2.cell? ⟨w.heap.size, 1, none⟩ = some (.slice pi ni ci) := HK2.out.cell 1
  have b2 : w2.cell? ⟨w.heap.size, 2, none⟩ = some (.slice po no co) := HK2.out.cell 2
  have i0 : w2.cell? ⟨w.heap.size + 1, 0, none⟩ = some (.int .i64 s) := HX2.out.cell 0
  have i1 : w2.cell? ⟨w.heap.size + 1, 1, none⟩ = some (.int .i64 n) := HX2.out.cell 1
  go_wp2_with fail
  refine (HF.out _ HB2.out).mono ?_
  rintro y w3 ⟨rfl, hb3⟩
  have HK3 := Lib.hid (HK2.out.below hb3 HK2.out.lt)
  have HX3 := Lib.hid (HX2.out.below hb3 HX2.out.lt)
  have HR3 := Lib.hid (HR2.out.below hb3 HR2.out.lt)
  have HB3 := Lib.hid (HB2.out.trans (hb3.mono HB2.out.size))
  clear HF hb3 HK2 HX2 HR2 b0 b1 b2 i0 i1
  have b0 : w3.cell? ⟨w.heap.size, 0, none⟩ = some (.int .i64 me) := HK3.out.cell 0
  have b1 : w3.cell? ⟨w.heap.size, 1, none⟩ = some (.slice pi ni ci) := HK3.out.cell 1
  have b2 : w3.cell? ⟨w.heap.size, 2, none⟩ = some (.slice po no co) := HK3.out.cell 2
  have i0 : w3.cell? ⟨w.heap.size + 1, 0, none⟩ = some (.int .i64 s) := HX3.out.cell 0
  have i1 : w3.cell? ⟨w.heap.size + 1, 1, none⟩ = some (.int .i64 n) := HX3.out.cell 1
  go_wp2_with fail
  refine (HW.out _ HB3.out).mono ?_
  rintro y w4 ⟨v4, rfl, ho4, hb4⟩
  obtain ⟨p4, c4, hv4⟩ := ho4.form
  generalize hn4 : (A ++ [(⟨s, n, a⟩ : Ord)] ++ B).length = n4 at hv4
  subst hv4
  have HK4 := Lib.hid (HK3.out.below hb4 HK3.out.lt)
  have HX4 := Lib.hid (HX3.out.below hb4 HX3.out.lt)
  have HR4 := Lib.hid (HR3.out.below hb4 HR3.out.lt)
  have HB4 := Lib.hid (HB3.out.trans (hb4.mono HB3.out.size))
  have HO4 := Lib.hid (ho4.less (show w.heap.size ≤ w3.heap.size from HB3.out.size))
  have HLT := Lib.hid ho4.block_ge
  have HSZ := Lib.hid (show w.heap.size + 1 + 1 < w3.heap.size from HR3.out.lt)
  clear HW hb4 ho4 HK3 HX3 HR3 hn4 b0 b1 b2 i0 i1
  have b0 : w4.cell? ⟨w.heap.size, 0, none⟩ = some (.int .i64 me) := HK4.out.cell 0
  have b1 : w4.cell? ⟨w.heap.size, 1, none⟩ = some (.slice pi ni ci) := HK4.out.cell 1
  have b2 : w4.cell? ⟨w.heap.size, 2, none⟩ = some (.slice po no co) := HK4.out.cell 2
  have r0 : w4.cell? ⟨w.heap.size + 1 + 1, 0, none⟩ = some (.int .i64 0) := HR4.out.cell 0
  have r1 : w4.cell? ⟨w.heap.size + 1 + 1, 1, none⟩ = some (.slice none 0 0) := HR4.out.cell 1
  have r2 : w4.cell? ⟨w.heap.size + 1 + 1, 2, none⟩ = some (.slice none 0 0) := HR4.out.cell 2
  have fr0 := HR4.out.free 0
  have fr1 := HR4.out.free 1
  have fr2 := HR4.out.free 2
  have fb2 := HK4.out.free 2
  go_wp2_with fail
  have hR5 := HR4.out.setOther (a := ⟨w.heap.size, 2, none⟩) (by show w.heap.size ≠ w.heap.size + 1 + 1; omega) (.slice p4 n4 c4)
  have hf := ((hR5.set 0 (.int .i64 me)).set 1 (.slice pi ni ci)).set 2 (.slice p4 n4 c4)
  have hB := HB4.out.setCell (p := ⟨w.heap.size, 2, none⟩) (Nat.le_refl _) (.slice p4 n4 c4) |>.setCell (p := ⟨w.heap.size + 1 + 1, 0, none⟩) (by show w.heap.size ≤ w.heap.size + 1 + 1; omega) (.int .i64 me) |>.setCell (p := ⟨w.heap.size + 1 + 1, 1, none⟩) (by show w.heap.size ≤ w.heap.size + 1 + 1; omega) (.slice pi ni ci) |>.setCell (p := ⟨w.heap.size + 1 + 1, 2, none⟩) (by show w.heap.size ≤ w.heap.size + 1 + 1; omega) (.slice p4 n4 c4)
  have hO : OwnT encO (World.setCell (World.setCell (World.setCell (World.setCell w4 ⟨w.heap.size, 2, none⟩ (.slice p4 n4 c4)) ⟨w.heap.size + 1 + 1, 0, none⟩ (.int .i64 me)) ⟨w.heap.size + 1 + 1, 1, none⟩ (.slice pi ni ci)) ⟨w.heap.size + 1 + 1, 2, none⟩ (.slice p4 n4 c4)) w.heap.size 92 (.slice p4 n4 c4) (A ++ [⟨s, n, a⟩] ++ B) := by
    refine HO4.out.stay (fun g hg => ?_)
    have hge := HLT.out g hg
    have hsz : w.heap.size + 1 + 1 < w3.heap.size := HSZ.out
    rw [Below.heap_setCell _ _ _ g (by show g ≠ w.heap.size + 1 + 1; omega), Below.heap_setCell _ _ _ g (by show g ≠ w.heap.size + 1 + 1; omega), Below.heap_setCell _ _ _ g (by show g ≠ w.heap.size + 1 + 1; omega), Below.heap_setCell _ _ _ g (by show g ≠ w.heap.size; omega)]
  refine bodyPost_ret (v := .tuple #[.agg #[.int .i64 me, .slice pi ni ci, .slice p4 n4 c4], .int .i64 0]) (by simp [results, Try.results54, go_sem, hf.cell 0, hf.cell 1, hf.cell 2]) rfl ⟨_, _, _, rfl, hO, hB⟩
set_option linter.unusedSimpArgs false in
set_option maxHeartbeats 4000000 in
set_option maxRecDepth 100000 in
theorem expect_found (w : World) (me : Int) (pi po : Option Addr) (ni ci no co : Nat) (s n a : Int) (xs A B : List Ord) (q : Ord) (hr : TRow encO w (.slice po no co) xs) (hl : xs.length = no) (hA : AroundF posO ⟨s, n, 0⟩ xs A [q] B) (hn : no ≤ 1024) (h : 0 ≤ s ∧ s < 8 ∧ s ≠ me ∧ 1 ≤ n ∧ n ≤ 1048576) (h1 : 1 ≤ a ∧ a ≤ 1125899906842624) :
    Calls Try.prog 54 #[bookV me (.slice pi ni ci) (.slice po no co), idV s n, .int .i64 a] w fun e w' => ∃ po' no' co', e = .returned (.tuple #[.agg #[.int .i64 me, .slice pi ni ci, .slice po' no' co'], .int .i64 0]) ∧ OwnT encO w' w.heap.size 92 (.slice po' no' co') (A ++ [⟨s, n, a⟩] ++ B) ∧ Below w.heap.size w w' := by
  have HBY := Lib.hid (fun (W : World) => buys_any W me pi po ni ci no co s n h)
  have HF := Lib.hid (fun (W : World) (hb : Below w.heap.size w W) => findO_any W me (.slice pi ni ci) (.slice po no co) xs A [q] B s n (hr.kept hb) hA (by omega))
  have HW := Lib.hid (fun (W : World) (hb : Below w.heap.size w W) => withO_any W (.slice po no co) xs A [q] B _ ⟨s, n, a⟩ (hr.kept hb) hA (by omega))
  rw [show decide (([q] : List Ord) ≠ []) = true by simp] at HF HW
  unfold idV bookV at *
  unfold Ord.v at HW
  have a1 : ¬ a < 1 := by omega
  have a2 : ¬ (1125899906842624 : Int) < a := by omega
  clear hr hl hA hn h h1
  go_enter Try.func54, Try.ntmps54
  go_wp2_with fail
  generalize hW1 : ((w.alloc (.cells #[.int .i64 me, .slice pi ni ci, .slice po no co] 27)).alloc (.cells #[.int .i64 s, .int .i64 n] 36)).alloc (.cells #[.int .i64 0, .slice none 0 0, .slice none 0 0] 27) = W1
  have HB1 : Hid (Below w.heap.size w W1) := by show Below _ _ _; rw [← hW1]; exact ((oneB w _).alloc (by simp) _).alloc (by simp <;> omega) _
  have HK1 : Hid (Blk W1 w.heap.size #[.int .i64 me, .slice pi ni ci, .slice po no co] 27) := by show Blk _ _ _ _; rw [← hW1]; exact ((Blk.new w _ _).alloc _).alloc _
  have HX1 : Hid (Blk W1 (w.heap.size + 1) #[.int .i64 s, .int .i64 n] 36) := by show Blk _ _ _ _; rw [← hW1]; exact (Blk.new' _ _ _ (by simp)).alloc _
  have HR1 : Hid (Blk W1 (w.heap.size + 1 + 1) #[.int .i64 0, .slice none 0 0, .slice none 0 0] 27) := by show Blk _ _ _ _; rw [← hW1]; exact Blk.new' _ _ _ (by simp)
  clear hW1
  refine (HBY.out _).mono ?_
  rintro y w2 ⟨rfl, hb2⟩
  have HK2 := Lib.hid (HK1.out.below hb2 HK1.out.lt)
  have HX2 := Lib.hid (HX1.out.below hb2 HX1.out.lt)
  have HR2 := Lib.hid (HR1.out.below hb2 HR1.out.lt)
  have HB2 := Lib.hid (HB1.out.trans (hb2.mono HB1.out.size))
  clear HBY hb2 HK1 HX1 HR1
  have b0 : w2.cell? ⟨w.heap.size, 0, none⟩ = some (.int .i64 me) := HK2.out.cell 0
  have b1 : w2.cell? ⟨w.heap.size, 1, none⟩ = some (.slice pi ni ci) := HK2.out.cell 1
  have b2 : w2.cell? ⟨w.heap.size, 2, none⟩ = some (.slice po no co) := HK2.out.cell 2
  have i0 : w2.cell? ⟨w.heap.size + 1, 0, none⟩ = some (.int .i64 s) := HX2.out.cell 0
  have i1 : w2.cell? ⟨w.heap.size + 1, 1, none⟩ = some (.int .i64 n) := HX2.out.cell 1
  go_wp2_with fail
  refine (HF.out _ HB2.out).mono ?_
  rintro y w3 ⟨rfl, hb3⟩
  have HK3 := Lib.hid (HK2.out.below hb3 HK2.out.lt)
  have HX3 := Lib.hid (HX2.out.below hb3 HX2.out.lt)
  have HR3 := Lib.hid (HR2.out.below hb3 HR2.out.lt)
  have HB3 := Lib.hid (HB2.out.trans (hb3.mono HB2.out.size))
  clear HF hb3 HK2 HX2 HR2 b0 b1 b2 i0 i1
  have b0 : w3.cell? ⟨w.heap.size, 0, none⟩ = some (.int .i64 me) := HK3.out.cell 0
  have b1 : w3.cell? ⟨w.heap.size, 1, none⟩ = some (.slice pi ni ci) := HK3.out.cell 1
  have b2 : w3.cell? ⟨w.heap.size, 2, none⟩ = some (.slice po no co) := HK3.out.cell 2
  have i0 : w3.cell? ⟨w.heap.size + 1, 0, none⟩ = some (.int .i64 s) := HX3.out.cell 0
  have i1 : w3.cell? ⟨w.heap.size + 1, 1, none⟩ = some (.int .i64 n) := HX3.out.cell 1
  go_wp2_with fail
  refine (HW.out _ HB3.out).mono ?_
  rintro y w4 ⟨v4, rfl, ho4, hb4⟩
  obtain ⟨p4, c4, hv4⟩ := ho4.form
  generalize hn4 : (A ++ [(⟨s, n, a⟩ : Ord)] ++ B).length = n4 at hv4
  subst hv4
  have HK4 := Lib.hid (HK3.out.below hb4 HK3.out.lt)
  have HX4 := Lib.hid (HX3.out.below hb4 HX3.out.lt)
  have HR4 := Lib.hid (HR3.out.below hb4 HR3.out.lt)
  have HB4 := Lib.hid (HB3.out.trans (hb4.mono HB3.out.size))
  have HO4 := Lib.hid (ho4.less (show w.heap.size ≤ w3.heap.size from HB3.out.size))
  have HLT := Lib.hid ho4.block_ge
  have HSZ := Lib.hid (show w.heap.size + 1 + 1 < w3.heap.size from HR3.out.lt)
  clear HW hb4 ho4 HK3 HX3 HR3 hn4 b0 b1 b2 i0 i1
  have b0 : w4.cell? ⟨w.heap.size, 0, none⟩ = some (.int .i64 me) := HK4.out.cell 0
  have b1 : w4.cell? ⟨w.heap.size, 1, none⟩ = some (.slice pi ni ci) := HK4.out.cell 1
  have b2 : w4.cell? ⟨w.heap.size, 2, none⟩ = some (.slice po no co) := HK4.out.cell 2
  have r0 : w4.cell? ⟨w.heap.size + 1 + 1, 0, none⟩ = some (.int .i64 0) := HR4.out.cell 0
  have r1 : w4.cell? ⟨w.heap.size + 1 + 1, 1, none⟩ = some (.slice none 0 0) := HR4.out.cell 1
  have r2 : w4.cell? ⟨w.heap.size + 1 + 1, 2, none⟩ = some (.slice none 0 0) := HR4.out.cell 2
  have fr0 := HR4.out.free 0
  have fr1 := HR4.out.free 1
  have fr2 := HR4.out.free 2
  have fb2 := HK4.out.free 2
  go_wp2_with fail
  have hR5 := HR4.out.setOther (a := ⟨w.heap.size, 2, none⟩) (by show w.heap.size ≠ w.heap.size + 1 + 1; omega) (.slice p4 n4 c4)
  have hf := ((hR5.set 0 (.int .i64 me)).set 1 (.slice pi ni ci)).set 2 (.slice p4 n4 c4)
  have hB := HB4.out.setCell (p := ⟨w.heap.size, 2, none⟩) (Nat.le_refl _) (.slice p4 n4 c4) |>.setCell (p := ⟨w.heap.size + 1 + 1, 0, none⟩) (by show w.heap.size ≤ w.heap.size + 1 + 1; omega) (.int .i64 me) |>.setCell (p := ⟨w.heap.size + 1 + 1, 1, none⟩) (by show w.heap.size ≤ w.heap.size + 1 + 1; omega) (.slice pi ni ci) |>.setCell (p := ⟨w.heap.size + 1 + 1, 2, none⟩) (by show w.heap.size ≤ w.heap.size + 1 + 1; omega) (.slice p4 n4 c4)
  have hO : OwnT encO (World.setCell (World.setCell (World.setCell (World.setCell w4 ⟨w.heap.size, 2, none⟩ (.slice p4 n4 c4)) ⟨w.heap.size + 1 + 1, 0, none⟩ (.int .i64 me)) ⟨w.heap.size + 1 + 1, 1, none⟩ (.slice pi ni ci)) ⟨w.heap.size + 1 + 1, 2, none⟩ (.slice p4 n4 c4)) w.heap.size 92 (.slice p4 n4 c4) (A ++ [⟨s, n, a⟩] ++ B) := by
    refine HO4.out.stay (fun g hg => ?_)
    have hge := HLT.out g hg
    have hsz : w.heap.size + 1 + 1 < w3.heap.size := HSZ.out
    rw [Below.heap_setCell _ _ _ g (by show g ≠ w.heap.size + 1 + 1; omega), Below.heap_setCell _ _ _ g (by show g ≠ w.heap.size + 1 + 1; omega), Below.heap_setCell _ _ _ g (by show g ≠ w.heap.size + 1 + 1; omega), Below.heap_setCell _ _ _ g (by show g ≠ w.heap.size; omega)]
  refine bodyPost_ret (v := .tuple #[.agg #[.int .i64 me, .slice pi ni ci, .slice p4 n4 c4], .int .i64 0]) (by simp [results, Try.results54, go_sem, hf.cell 0, hf.cell 1, hf.cell 2]) rfl ⟨_, _, _, rfl, hO, hB⟩
end Go.Proofs.Ytbpfbebebppleaa
