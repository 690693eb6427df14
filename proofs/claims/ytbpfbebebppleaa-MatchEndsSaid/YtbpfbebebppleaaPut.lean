/- (book.Book).Put by contract. -/
import Derived.Test.YtbpfbebebppleaaBookWI
import Derived.Test.YtbpfbebebppleaaItem2
namespace Go.Proofs.Ytbpfbebebppleaa
open Go.RowKit
theorem ne8 {q x : Itm} (h : q ≠ x) : q.s = x.s → q.n = x.n → q.b = x.b → q.c = x.c → q.a = x.a → q.r = x.r → q.t = x.t → ¬ q.y = x.y := fun h1 h2 h3 h4 h5 h6 h7 h8 => h (by cases q; cases x; simp_all)

set_option linter.unusedSimpArgs false in
set_option maxHeartbeats 4000000 in
set_option maxRecDepth 100000 in
theorem put_chk (w : World) (me : Int) (pi po : Option Addr) (ni ci no co : Nat) (x : Itm) (h : chkI x ≠ 0) :
    Calls Try.prog 66 #[bookV me (.slice pi ni ci) (.slice po no co), x.v] w fun e w' => e = .returned (.tuple #[.agg #[.int .i64 me, .slice pi ni ci, .slice po no co], .int .i64 (chkI x)]) ∧ Below w.heap.size w w' := by
  have HCK := Lib.hid (fun (W : World) => check_any x W)
  have heb : (chkI x != 0) = true := by simpa using h
  clear h
  generalize chkI x = ce at *
  unfold Itm.v bookV at *
  go_enter Try.func66, Try.ntmps66
  go_wp2_with fail
  generalize hW1 : ((w.alloc (.cells #[.int .i64 me, .slice pi ni ci, .slice po no co] 27)).alloc (.cells #[.int .i64 x.s, .int .i64 x.n, .int .i64 x.b, .int .i64 x.c, .int .i64 x.a, .int .i64 x.r, .int .i64 x.t, .int .i64 x.y] 64)).alloc (.cells #[.int .i64 0, .slice none 0 0, .slice none 0 0] 27) = W1
  have HB1 : Hid (Below w.heap.size w W1) := by show Below _ _ _; rw [← hW1]; exact ((oneB w _).alloc (by simp) _).alloc (by simp <;> omega) _
  have HK1 : Hid (Blk W1 w.heap.size #[.int .i64 me, .slice pi ni ci, .slice po no co] 27) := by show Blk _ _ _ _; rw [← hW1]; exact ((Blk.new w _ _).alloc _).alloc _
  have HX1 : Hid (Blk W1 (w.heap.size + 1) #[.int .i64 x.s, .int .i64 x.n, .int .i64 x.b, .int .i64 x.c, .int .i64 x.a, .int .i64 x.r, .int .i64 x.t, .int .i64 x.y] 64) := by show Blk _ _ _ _; rw [← hW1]; exact (Blk.new' _ _ _ (by simp)).alloc _
  have HR1 : Hid (Blk W1 (w.heap.size + 1 + 1) #[.int .i64 0, .slice none 0 0, .slice none 0 0] 27) := by show Blk _ _ _ _; rw [← hW1]; exact Blk.new' _ _ _ (by simp)
  clear hW1
  refine (HCK.out _).mono ?_
  rintro y w2 ⟨rfl, hb2⟩
  have HK2 := Lib.hid (HK1.out.below hb2 HK1.out.lt)
  have HX2 := Lib.hid (HX1.out.below hb2 HX1.out.lt)
  have HR2 := Lib.hid (HR1.out.below hb2 HR1.out.lt)
  have HB2 := Lib.hid (HB1.out.trans (hb2.mono HB1.out.size))
  clear HCK hb2 HK1 HX1 HR1
  have b0 : w2.cell? ⟨w.heap.size, 0, none⟩ = some (.int .i64 me) := HK2.out.cell 0
  have b1 : w2.cell? ⟨w.heap.size, 1, none⟩ = some (.slice pi ni ci) := HK2.out.cell 1
  have b2 : w2.cell? ⟨w.heap.size, 2, none⟩ = some (.slice po no co) := HK2.out.cell 2
  have x0 : w2.cell? ⟨w.heap.size + 1, 0, none⟩ = some (.int .i64 x.s) := HX2.out.cell 0
  have x1 : w2.cell? ⟨w.heap.size + 1, 1, none⟩ = some (.int .i64 x.n) := HX2.out.cell 1
  have x2 : w2.cell? ⟨w.heap.size + 1, 2, none⟩ = some (.int .i64 x.b) := HX2.out.cell 2
  have x3 : w2.cell? ⟨w.heap.size + 1, 3, none⟩ = some (.int .i64 x.c) := HX2.out.cell 3
  have x4 : w2.cell? ⟨w.heap.size + 1, 4, none⟩ = some (.int .i64 x.a) := HX2.out.cell 4
  have x5 : w2.cell? ⟨w.heap.size + 1, 5, none⟩ = some (.int .i64 x.r) := HX2.out.cell 5
  have x6 : w2.cell? ⟨w.heap.size + 1, 6, none⟩ = some (.int .i64 x.t) := HX2.out.cell 6
  have x7 : w2.cell? ⟨w.heap.size + 1, 7, none⟩ = some (.int .i64 x.y) := HX2.out.cell 7
  have r0 : w2.cell? ⟨w.heap.size + 1 + 1, 0, none⟩ = some (.int .i64 0) := HR2.out.cell 0
  have r1 : w2.cell? ⟨w.heap.size + 1 + 1, 1, none⟩ = some (.slice none 0 0) := HR2.out.cell 1
  have r2 : w2.cell? ⟨w.heap.size + 1 + 1, 2, none⟩ = some (.slice none 0 0) := HR2.out.cell 2
  have fr0 := HR2.out.free 0
  have fr1 := HR2.out.free 1
  have fr2 := HR2.out.free 2
  go_wp2_with fail
  have hf := ((HR2.out.set 0 (.int .i64 me)).set 1 (.slice pi ni ci)).set 2 (.slice po no co)
  have hB := HB2.out.setCell (p := ⟨w.heap.size + 1 + 1, 0, none⟩) (by show w.heap.size ≤ w.heap.size + 1 + 1; omega) (.int .i64 me) |>.setCell (p := ⟨w.heap.size + 1 + 1, 1, none⟩) (by show w.heap.size ≤ w.heap.size + 1 + 1; omega) (.slice pi ni ci) |>.setCell (p := ⟨w.heap.size + 1 + 1, 2, none⟩) (by show w.heap.size ≤ w.heap.size + 1 + 1; omega) (.slice po no co)
  refine bodyPost_ret (v := .tuple #[.agg #[.int .i64 me, .slice pi ni ci, .slice po no co], .int .i64 ce]) (by simp [results, Try.results66, go_sem, hf.cell 0, hf.cell 1, hf.cell 2]) rfl ⟨rfl, hB⟩
set_option linter.unusedSimpArgs false in
set_option maxHeartbeats 4000000 in
set_option maxRecDepth 100000 in
theorem put_other (w : World) (me : Int) (pi po : Option Addr) (ni ci no co : Nat) (x : Itm) (h : chkI x = 0) (h1 : x.s ≠ me) (h2 : x.b ≠ me) :
    Calls Try.prog 66 #[bookV me (.slice pi ni ci) (.slice po no co), x.v] w fun e w' => e = .returned (.tuple #[.agg #[.int .i64 me, .slice pi ni ci, .slice po no co], .int .i64 140]) ∧ Below w.heap.size w w' := by
  have HCK := Lib.hid (fun (W : World) => check_any x W)
  have e1 : (x.s != me) = true := by simpa using h1
  have e2 : (x.b != me) = true := by simpa using h2
  rw [h] at HCK
  clear h h1 h2
  unfold Itm.v bookV at *
  go_enter Try.func66, Try.ntmps66
  go_wp2_with fail
  generalize hW1 : ((w.alloc (.cells #[.int .i64 me, .slice pi ni ci, .slice po no co] 27)).alloc (.cells #[.int .i64 x.s, .int .i64 x.n, .int .i64 x.b, .int .i64 x.c, .int .i64 x.a, .int .i64 x.r, .int .i64 x.t, .int .i64 x.y] 64)).alloc (.cells #[.int .i64 0, .slice none 0 0, .slice none 0 0] 27) = W1
  have HB1 : Hid (Below w.heap.size w W1) := by show Below _ _ _; rw [← hW1]; exact ((oneB w _).alloc (by simp) _).alloc (by simp <;> omega) _
  have HK1 : Hid (Blk W1 w.heap.size #[.int .i64 me, .slice pi ni ci, .slice po no co] 27) := by show Blk _ _ _ _; rw [← hW1]; exact ((Blk.new w _ _).alloc _).alloc _
  have HX1 : Hid (Blk W1 (w.heap.size + 1) #[.int .i64 x.s, .int .i64 x.n, .int .i64 x.b, .int .i64 x.c, .int .i64 x.a, .int .i64 x.r, .int .i64 x.t, .int .i64 x.y] 64) := by show Blk _ _ _ _; rw [← hW1]; exact (Blk.new' _ _ _ (by simp)).alloc _
  have HR1 : Hid (Blk W1 (w.heap.size + 1 + 1) #[.int .i64 0, .slice none 0 0, .slice none 0 0] 27) := by show Blk _ _ _ _; rw [← hW1]; exact Blk.new' _ _ _ (by simp)
  clear hW1
  refine (HCK.out _).mono ?_
  rintro y w2 ⟨rfl, hb2⟩
  have HK2 := Lib.hid (HK1.out.below hb2 HK1.out.lt)
  have HX2 := Lib.hid (HX1.out.below hb2 HX1.out.lt)
  have HR2 := Lib.hid (HR1.out.below hb2 HR1.out.lt)
  have HB2 := Lib.hid (HB1.out.trans (hb2.mono HB1.out.size))
  clear HCK hb2 HK1 HX1 HR1
  have b0 : w2.cell? ⟨w.heap.size, 0, none⟩ = some (.int .i64 me) := HK2.out.cell 0
  have b1 : w2.cell? ⟨w.heap.size, 1, none⟩ = some (.slice pi ni ci) := HK2.out.cell 1
  have b2 : w2.cell? ⟨w.heap.size, 2, none⟩ = some (.slice po no co) := HK2.out.cell 2
  have x0 : w2.cell? ⟨w.heap.size + 1, 0, none⟩ = some (.int .i64 x.s) := HX2.out.cell 0
  have x1 : w2.cell? ⟨w.heap.size + 1, 1, none⟩ = some (.int .i64 x.n) := HX2.out.cell 1
  have x2 : w2.cell? ⟨w.heap.size + 1, 2, none⟩ = some (.int .i64 x.b) := HX2.out.cell 2
  have x3 : w2.cell? ⟨w.heap.size + 1, 3, none⟩ = some (.int .i64 x.c) := HX2.out.cell 3
  have x4 : w2.cell? ⟨w.heap.size + 1, 4, none⟩ = some (.int .i64 x.a) := HX2.out.cell 4
  have x5 : w2.cell? ⟨w.heap.size + 1, 5, none⟩ = some (.int .i64 x.r) := HX2.out.cell 5
  have x6 : w2.cell? ⟨w.heap.size + 1, 6, none⟩ = some (.int .i64 x.t) := HX2.out.cell 6
  have x7 : w2.cell? ⟨w.heap.size + 1, 7, none⟩ = some (.int .i64 x.y) := HX2.out.cell 7
  have r0 : w2.cell? ⟨w.heap.size + 1 + 1, 0, none⟩ = some (.int .i64 0) := HR2.out.cell 0
  have r1 : w2.cell? ⟨w.heap.size + 1 + 1, 1, none⟩ = some (.slice none 0 0) := HR2.out.cell 1
  have r2 : w2.cell? ⟨w.heap.size + 1 + 1, 2, none⟩ = some (.slice none 0 0) := HR2.out.cell 2
  have fr0 := HR2.out.free 0
  have fr1 := HR2.out.free 1
  have fr2 := HR2.out.free 2
  go_wp2_with fail
  have hf := ((HR2.out.set 0 (.int .i64 me)).set 1 (.slice pi ni ci)).set 2 (.slice po no co)
  have hB := HB2.out.setCell (p := ⟨w.heap.size + 1 + 1, 0, none⟩) (by show w.heap.size ≤ w.heap.size + 1 + 1; omega) (.int .i64 me) |>.setCell (p := ⟨w.heap.size + 1 + 1, 1, none⟩) (by show w.heap.size ≤ w.heap.size + 1 + 1; omega) (.slice pi ni ci) |>.setCell (p := ⟨w.heap.size + 1 + 1, 2, none⟩) (by show w.heap.size ≤ w.heap.size + 1 + 1; omega) (.slice po no co)
  refine bodyPost_ret (v := .tuple #[.agg #[.int .i64 me, .slice pi ni ci, .slice po no co], .int .i64 140]) (by simp [results, Try.results66, go_sem, hf.cell 0, hf.cell 1, hf.cell 2]) rfl ⟨rfl, hB⟩
set_option linter.unusedSimpArgs false in
set_option maxHeartbeats 4000000 in
set_option maxRecDepth 100000 in
theorem put_full (w : World) (me : Int) (pi po : Option Addr) (ni ci no co : Nat) (x : Itm) (xs A B : List Itm) (hr : TRow encI w (.slice pi ni ci) xs) (hl : xs.length = ni) (hA : AroundF posI ⟨x.s, x.n, 0⟩ xs A [] B) (hn : ni ≤ 1024) (h : chkI x = 0) (h1 : x.s = me ∨ x.b = me) (h3 : 1024 ≤ ni) :
    Calls Try.prog 66 #[bookV me (.slice pi ni ci) (.slice po no co), x.v] w fun e w' => e = .returned (.tuple #[.agg #[.int .i64 me, .slice pi ni ci, .slice po no co], .int .i64 3]) ∧ Below w.heap.size w w' := by
  have HCK := Lib.hid (fun (W : World) => check_any x W)
  rw [h] at HCK
  have HF := Lib.hid (fun (W : World) (hb : Below w.heap.size w W) => findI_any W me (.slice pi ni ci) (.slice po no co) xs A [] B x.s x.n (hr.kept hb) hA (by omega))
  rw [show decide (([] : List Itm) ≠ []) = false by simp] at HF
  unfold idV at HF
  have H1 := Lib.hid h1
  have h3i : (1024 : Int) ≤ (ni : Int) := by omega
  clear h3 hr hl hA hn
  clear h h1
  unfold Itm.v bookV at *
  go_enter Try.func66, Try.ntmps66
  go_wp2_with fail
  generalize hW1 : ((w.alloc (.cells #[.int .i64 me, .slice pi ni ci, .slice po no co] 27)).alloc (.cells #[.int .i64 x.s, .int .i64 x.n, .int .i64 x.b, .int .i64 x.c, .int .i64 x.a, .int .i64 x.r, .int .i64 x.t, .int .i64 x.y] 64)).alloc (.cells #[.int .i64 0, .slice none 0 0, .slice none 0 0] 27) = W1
  have HB1 : Hid (Below w.heap.size w W1) := by show Below _ _ _; rw [← hW1]; exact ((oneB w _).alloc (by simp) _).alloc (by simp <;> omega) _
  have HK1 : Hid (Blk W1 w.heap.size #[.int .i64 me, .slice pi ni ci, .slice po no co] 27) := by show Blk _ _ _ _; rw [← hW1]; exact ((Blk.new w _ _).alloc _).alloc _
  have HX1 : Hid (Blk W1 (w.heap.size + 1) #[.int .i64 x.s, .int .i64 x.n, .int .i64 x.b, .int .i64 x.c, .int .i64 x.a, .int .i64 x.r, .int .i64 x.t, .int .i64 x.y] 64) := by show Blk _ _ _ _; rw [← hW1]; exact (Blk.new' _ _ _ (by simp)).alloc _
  have HR1 : Hid (Blk W1 (w.heap.size + 1 + 1) #[.int .i64 0, .slice none 0 0, .slice none 0 0] 27) := by show Blk _ _ _ _; rw [← hW1]; exact Blk.new' _ _ _ (by simp)
  clear hW1
  refine (HCK.out _).mono ?_
  rintro y w2 ⟨rfl, hb2⟩
  have HK2 := Lib.hid (HK1.out.below hb2 HK1.out.lt)
  have HX2 := Lib.hid (HX1.out.below hb2 HX1.out.lt)
  have HR2 := Lib.hid (HR1.out.below hb2 HR1.out.lt)
  have HB2 := Lib.hid (HB1.out.trans (hb2.mono HB1.out.size))
  clear HCK hb2 HK1 HX1 HR1
  rcases (show x.s = me ∨ (x.s ≠ me ∧ x.b = me) by rcases H1.out with h | h; exact .inl h; by_cases g : x.s = me; exact .inl g; exact .inr ⟨g, h⟩) with g | ⟨g, g2⟩
  · skip
    have e1 : (x.s != me) = false := by simpa using g
    clear g
    have b0 : w2.cell? ⟨w.heap.size, 0, none⟩ = some (.int .i64 me) := HK2.out.cell 0
    have b1 : w2.cell? ⟨w.heap.size, 1, none⟩ = some (.slice pi ni ci) := HK2.out.cell 1
    have b2 : w2.cell? ⟨w.heap.size, 2, none⟩ = some (.slice po no co) := HK2.out.cell 2
    have x0 : w2.cell? ⟨w.heap.size + 1, 0, none⟩ = some (.int .i64 x.s) := HX2.out.cell 0
    have x1 : w2.cell? ⟨w.heap.size + 1, 1, none⟩ = some (.int .i64 x.n) := HX2.out.cell 1
    have x2 : w2.cell? ⟨w.heap.size + 1, 2, none⟩ = some (.int .i64 x.b) := HX2.out.cell 2
    have x3 : w2.cell? ⟨w.heap.size + 1, 3, none⟩ = some (.int .i64 x.c) := HX2.out.cell 3
    have x4 : w2.cell? ⟨w.heap.size + 1, 4, none⟩ = some (.int .i64 x.a) := HX2.out.cell 4
    have x5 : w2.cell? ⟨w.heap.size + 1, 5, none⟩ = some (.int .i64 x.r) := HX2.out.cell 5
    have x6 : w2.cell? ⟨w.heap.size + 1, 6, none⟩ = some (.int .i64 x.t) := HX2.out.cell 6
    have x7 : w2.cell? ⟨w.heap.size + 1, 7, none⟩ = some (.int .i64 x.y) := HX2.out.cell 7
    have r0 : w2.cell? ⟨w.heap.size + 1 + 1, 0, none⟩ = some (.int .i64 0) := HR2.out.cell 0
    have r1 : w2.cell? ⟨w.heap.size + 1 + 1, 1, none⟩ = some (.slice none 0 0) := HR2.out.cell 1
    have r2 : w2.cell? ⟨w.heap.size + 1 + 1, 2, none⟩ = some (.slice none 0 0) := HR2.out.cell 2
    have fr0 := HR2.out.free 0
    have fr1 := HR2.out.free 1
    have fr2 := HR2.out.free 2
    go_wp2_with fail
    refine (HF.out _ HB2.out).mono ?_
    rintro y w3 ⟨rfl, hb3⟩
    have HK3 := Lib.hid (HK2.out.below hb3 HK2.out.lt)
    have HX3 := Lib.hid (HX2.out.below hb3 HX2.out.lt)
    have HR3 := Lib.hid (HR2.out.below hb3 HR2.out.lt)
    have HB3 := Lib.hid (HB2.out.trans (hb3.mono HB2.out.size))
    clear HF hb3 HK2 HX2 HR2 b0 b1 b2 x0 x1 x2 x3 x4 x5 x6 x7 r0 r1 r2 fr0 fr1 fr2
    have b0 : w3.cell? ⟨w.heap.size, 0, none⟩ = some (.int .i64 me) := HK3.out.cell 0
    have b1 : w3.cell? ⟨w.heap.size, 1, none⟩ = some (.slice pi ni ci) := HK3.out.cell 1
    have b2 : w3.cell? ⟨w.heap.size, 2, none⟩ = some (.slice po no co) := HK3.out.cell 2
    have x0 : w3.cell? ⟨w.heap.size + 1, 0, none⟩ = some (.int .i64 x.s) := HX3.out.cell 0
    have x1 : w3.cell? ⟨w.heap.size + 1, 1, none⟩ = some (.int .i64 x.n) := HX3.out.cell 1
    have x2 : w3.cell? ⟨w.heap.size + 1, 2, none⟩ = some (.int .i64 x.b) := HX3.out.cell 2
    have x3 : w3.cell? ⟨w.heap.size + 1, 3, none⟩ = some (.int .i64 x.c) := HX3.out.cell 3
    have x4 : w3.cell? ⟨w.heap.size + 1, 4, none⟩ = some (.int .i64 x.a) := HX3.out.cell 4
    have x5 : w3.cell? ⟨w.heap.size + 1, 5, none⟩ = some (.int .i64 x.r) := HX3.out.cell 5
    have x6 : w3.cell? ⟨w.heap.size + 1, 6, none⟩ = some (.int .i64 x.t) := HX3.out.cell 6
    have x7 : w3.cell? ⟨w.heap.size + 1, 7, none⟩ = some (.int .i64 x.y) := HX3.out.cell 7
    have r0 : w3.cell? ⟨w.heap.size + 1 + 1, 0, none⟩ = some (.int .i64 0) := HR3.out.cell 0
    have r1 : w3.cell? ⟨w.heap.size + 1 + 1, 1, none⟩ = some (.slice none 0 0) := HR3.out.cell 1
    have r2 : w3.cell? ⟨w.heap.size + 1 + 1, 2, none⟩ = some (.slice none 0 0) := HR3.out.cell 2
    have fr0 := HR3.out.free 0
    have fr1 := HR3.out.free 1
    have fr2 := HR3.out.free 2
    go_wp2_with fail
    have hf := ((HR3.out.set 0 (.int .i64 me)).set 1 (.slice pi ni ci)).set 2 (.slice po no co)
    have hB := HB3.out.setCell (p := ⟨w.heap.size + 1 + 1, 0, none⟩) (by show w.heap.size ≤ w.heap.size + 1 + 1; omega) (.int .i64 me) |>.setCell (p := ⟨w.heap.size + 1 + 1, 1, none⟩) (by show w.heap.size ≤ w.heap.size + 1 + 1; omega) (.slice pi ni ci) |>.setCell (p := ⟨w.heap.size + 1 + 1, 2, none⟩) (by show w.heap.size ≤ w.heap.size + 1 + 1; omega) (.slice po no co)
    refine bodyPost_ret (v := .tuple #[.agg #[.int .i64 me, .slice pi ni ci, .slice po no co], .int .i64 3]) (by simp [results, Try.results66, go_sem, hf.cell 0, hf.cell 1, hf.cell 2]) rfl ⟨rfl, hB⟩
  · skip
    have e1 : (x.s != me) = true := by simpa using g
    have e2 : (x.b != me) = false := by simpa using g2
    clear g2
    clear g
    have b0 : w2.cell? ⟨w.heap.size, 0, none⟩ = some (.int .i64 me) := HK2.out.cell 0
    have b1 : w2.cell? ⟨w.heap.size, 1, none⟩ = some (.slice pi ni ci) := HK2.out.cell 1
    have b2 : w2.cell? ⟨w.heap.size, 2, none⟩ = some (.slice po no co) := HK2.out.cell 2
    have x0 : w2.cell? ⟨w.heap.size + 1, 0, none⟩ = some (.int .i64 x.s) := HX2.out.cell 0
    have x1 : w2.cell? ⟨w.heap.size + 1, 1, none⟩ = some (.int .i64 x.n) := HX2.out.cell 1
    have x2 : w2.cell? ⟨w.heap.size + 1, 2, none⟩ = some (.int .i64 x.b) := HX2.out.cell 2
    have x3 : w2.cell? ⟨w.heap.size + 1, 3, none⟩ = some (.int .i64 x.c) := HX2.out.cell 3
    have x4 : w2.cell? ⟨w.heap.size + 1, 4, none⟩ = some (.int .i64 x.a) := HX2.out.cell 4
    have x5 : w2.cell? ⟨w.heap.size + 1, 5, none⟩ = some (.int .i64 x.r) := HX2.out.cell 5
    have x6 : w2.cell? ⟨w.heap.size + 1, 6, none⟩ = some (.int .i64 x.t) := HX2.out.cell 6
    have x7 : w2.cell? ⟨w.heap.size + 1, 7, none⟩ = some (.int .i64 x.y) := HX2.out.cell 7
    have r0 : w2.cell? ⟨w.heap.size + 1 + 1, 0, none⟩ = some (.int .i64 0) := HR2.out.cell 0
    have r1 : w2.cell? ⟨w.heap.size + 1 + 1, 1, none⟩ = some (.slice none 0 0) := HR2.out.cell 1
    have r2 : w2.cell? ⟨w.heap.size + 1 + 1, 2, none⟩ = some (.slice none 0 0) := HR2.out.cell 2
    have fr0 := HR2.out.free 0
    have fr1 := HR2.out.free 1
    have fr2 := HR2.out.free 2
    go_wp2_with fail
    refine (HF.out _ HB2.out).mono ?_
    rintro y w3 ⟨rfl, hb3⟩
    have HK3 := Lib.hid (HK2.out.below hb3 HK2.out.lt)
    have HX3 := Lib.hid (HX2.out.below hb3 HX2.out.lt)
    have HR3 := Lib.hid (HR2.out.below hb3 HR2.out.lt)
    have HB3 := Lib.hid (HB2.out.trans (hb3.mono HB2.out.size))
    clear HF hb3 HK2 HX2 HR2 b0 b1 b2 x0 x1 x2 x3 x4 x5 x6 x7 r0 r1 r2 fr0 fr1 fr2
    have b0 : w3.cell? ⟨w.heap.size, 0, none⟩ = some (.int .i64 me) := HK3.out.cell 0
    have b1 : w3.cell? ⟨w.heap.size, 1, none⟩ = some (.slice pi ni ci) := HK3.out.cell 1
    have b2 : w3.cell? ⟨w.heap.size, 2, none⟩ = some (.slice po no co) := HK3.out.cell 2
    have x0 : w3.cell? ⟨w.heap.size + 1, 0, none⟩ = some (.int .i64 x.s) := HX3.out.cell 0
    have x1 : w3.cell? ⟨w.heap.size + 1, 1, none⟩ = some (.int .i64 x.n) := HX3.out.cell 1
    have x2 : w3.cell? ⟨w.heap.size + 1, 2, none⟩ = some (.int .i64 x.b) := HX3.out.cell 2
    have x3 : w3.cell? ⟨w.heap.size + 1, 3, none⟩ = some (.int .i64 x.c) := HX3.out.cell 3
    have x4 : w3.cell? ⟨w.heap.size + 1, 4, none⟩ = some (.int .i64 x.a) := HX3.out.cell 4
    have x5 : w3.cell? ⟨w.heap.size + 1, 5, none⟩ = some (.int .i64 x.r) := HX3.out.cell 5
    have x6 : w3.cell? ⟨w.heap.size + 1, 6, none⟩ = some (.int .i64 x.t) := HX3.out.cell 6
    have x7 : w3.cell? ⟨w.heap.size + 1, 7, none⟩ = some (.int .i64 x.y) := HX3.out.cell 7
    have r0 : w3.cell? ⟨w.heap.size + 1 + 1, 0, none⟩ = some (.int .i64 0) := HR3.out.cell 0
    have r1 : w3.cell? ⟨w.heap.size + 1 + 1, 1, none⟩ = some (.slice none 0 0) := HR3.out.cell 1
    have r2 : w3.cell? ⟨w.heap.size + 1 + 1, 2, none⟩ = some (.slice none 0 0) := HR3.out.cell 2
    have fr0 := HR3.out.free 0
    have fr1 := HR3.out.free 1
    have fr2 := HR3.out.free 2
    go_wp2_with fail
    have hf := ((HR3.out.set 0 (.int .i64 me)).set 1 (.slice pi ni ci)).set 2 (.slice po no co)
    have hB := HB3.out.setCell (p := ⟨w.heap.size + 1 + 1, 0, none⟩) (by show w.heap.size ≤ w.heap.size + 1 + 1; omega) (.int .i64 me) |>.setCell (p := ⟨w.heap.size + 1 + 1, 1, none⟩) (by show w.heap.size ≤ w.heap.size + 1 + 1; omega) (.slice pi ni ci) |>.setCell (p := ⟨w.heap.size + 1 + 1, 2, none⟩) (by show w.heap.size ≤ w.heap.size + 1 + 1; omega) (.slice po no co)
    refine bodyPost_ret (v := .tuple #[.agg #[.int .i64 me, .slice pi ni ci, .slice po no co], .int .i64 3]) (by simp [results, Try.results66, go_sem, hf.cell 0, hf.cell 1, hf.cell 2]) rfl ⟨rfl, hB⟩
set_option linter.unusedSimpArgs false in
set_option maxHeartbeats 4000000 in
set_option maxRecDepth 100000 in
theorem put_new (w : World) (me : Int) (pi po : Option Addr) (ni ci no co : Nat) (x : Itm) (xs A B : List Itm) (hr : TRow encI w (.slice pi ni ci) xs) (hl : xs.length = ni) (hA : AroundF posI ⟨x.s, x.n, 0⟩ xs A [] B) (hn : ni ≤ 1024) (h : chkI x = 0) (h1 : x.s = me ∨ x.b = me) (h3 : ni < 1024) :
    Calls Try.prog 66 #[bookV me (.slice pi ni ci) (.slice po no co), x.v] w fun e w' => ∃ pi' ni' ci', e = .returned (.tuple #[.agg #[.int .i64 me, .slice pi' ni' ci', .slice po no co], .int .i64 0]) ∧ OwnT encI w' w.heap.size 64 (.slice pi' ni' ci') (A ++ [x] ++ B) ∧ Below w.heap.size w w' := by
  have HCK := Lib.hid (fun (W : World) => check_any x W)
  rw [h] at HCK
  have HF := Lib.hid (fun (W : World) (hb : Below w.heap.size w W) => findI_any W me (.slice pi ni ci) (.slice po no co) xs A [] B x.s x.n (hr.kept hb) hA (by omega))
  rw [show decide (([] : List Itm) ≠ []) = false by simp] at HF
  unfold idV at HF
  have H1 := Lib.hid h1
  have h3i : ¬ ((1024 : Int) ≤ (ni : Int)) := by omega
  have HW := Lib.hid (fun (W : World) (hb : Below w.heap.size w W) => withI_any W (.slice pi ni ci) xs A [] B _ x (hr.kept hb) hA (by omega))
  rw [show decide (([] : List Itm) ≠ []) = false by simp] at HW
  unfold Itm.v at HW
  clear h3 hr hl hA hn
  clear h h1
  unfold Itm.v bookV at *
  go_enter Try.func66, Try.ntmps66
  go_wp2_with fail
  generalize hW1 : ((w.alloc (.cells #[.int .i64 me, .slice pi ni ci, .slice po no co] 27)).alloc (.cells #[.int .i64 x.s, .int .i64 x.n, .int .i64 x.b, .int .i64 x.c, .int .i64 x.a, .int .i64 x.r, .int .i64 x.t, .int .i64 x.y] 64)).alloc (.cells #[.int .i64 0, .slice none 0 0, .slice none 0 0] 27) = W1
  have HB1 : Hid (Below w.heap.size w W1) := by show Below _ _ _; rw [← hW1]; exact ((oneB w _).alloc (by simp) _).alloc (by simp <;> omega) _
  have HK1 : Hid (Blk W1 w.heap.size #[.int .i64 me, .slice pi ni ci, .slice po no co] 27) := by show Blk _ _ _ _; rw [← hW1]; exact ((Blk.new w _ _).alloc _).alloc _
  have HX1 : Hid (Blk W1 (w.heap.size + 1) #[.int .i64 x.s, .int .i64 x.n, .int .i64 x.b, .int .i64 x.c, .int .i64 x.a, .int .i64 x.r, .int .i64 x.t, .int .i64 x.y] 64) := by show Blk _ _ _ _; rw [← hW1]; exact (Blk.new' _ _ _ (by simp)).alloc _
  have HR1 : Hid (Blk W1 (w.heap.size + 1 + 1) #[.int .i64 0, .slice none 0 0, .slice none 0 0] 27) := by show Blk _ _ _ _; rw [← hW1]; exact Blk.new' _ _ _ (by simp)
  clear hW1
  refine (HCK.out _).mono ?_
  rintro y w2 ⟨rfl, hb2⟩
  have HK2 := Lib.hid (HK1.out.below hb2 HK1.out.lt)
  have HX2 := Lib.hid (HX1.out.below hb2 HX1.out.lt)
  have HR2 := Lib.hid (HR1.out.below hb2 HR1.out.lt)
  have HB2 := Lib.hid (HB1.out.trans (hb2.mono HB1.out.size))
  clear HCK hb2 HK1 HX1 HR1
  rcases (show x.s = me ∨ (x.s ≠ me ∧ x.b = me) by rcases H1.out with h | h; exact .inl h; by_cases g : x.s = me; exact .inl g; exact .inr ⟨g, h⟩) with g | ⟨g, g2⟩
  · skip
    have e1 : (x.s != me) = false := by simpa using g
    clear g
    have b0 : w2.cell? ⟨w.heap.size, 0, none⟩ = some (.int .i64 me) := HK2.out.cell 0
    have b1 : w2.cell? ⟨w.heap.size, 1, none⟩ = some (.slice pi ni ci) := HK2.out.cell 1
    have b2 : w2.cell? ⟨w.heap.size, 2, none⟩ = some (.slice po no co) := HK2.out.cell 2
    have x0 : w2.cell? ⟨w.heap.size + 1, 0, none⟩ = some (.int .i64 x.s) := HX2.out.cell 0
    have x1 : w2.cell? ⟨w.heap.size + 1, 1, none⟩ = some (.int .i64 x.n) := HX2.out.cell 1
    have x2 : w2.cell? ⟨w.heap.size + 1, 2, none⟩ = some (.int .i64 x.b) := HX2.out.cell 2
    have x3 : w2.cell? ⟨w.heap.size + 1, 3, none⟩ = some (.int .i64 x.c) := HX2.out.cell 3
    have x4 : w2.cell? ⟨w.heap.size + 1, 4, none⟩ = some (.int .i64 x.a) := HX2.out.cell 4
    have x5 : w2.cell? ⟨w.heap.size + 1, 5, none⟩ = some (.int .i64 x.r) := HX2.out.cell 5
    have x6 : w2.cell? ⟨w.heap.size + 1, 6, none⟩ = some (.int .i64 x.t) := HX2.out.cell 6
    have x7 : w2.cell? ⟨w.heap.size + 1, 7, none⟩ = some (.int .i64 x.y) := HX2.out.cell 7
    have r0 : w2.cell? ⟨w.heap.size + 1 + 1, 0, none⟩ = some (.int .i64 0) := HR2.out.cell 0
    have r1 : w2.cell? ⟨w.heap.size + 1 + 1, 1, none⟩ = some (.slice none 0 0) := HR2.out.cell 1
    have r2 : w2.cell? ⟨w.heap.size + 1 + 1, 2, none⟩ = some (.slice none 0 0) := HR2.out.cell 2
    have fr0 := HR2.out.free 0
    have fr1 := HR2.out.free 1
    have fr2 := HR2.out.free 2
    go_wp2_with fail
    refine (HF.out _ HB2.out).mono ?_
    rintro y w3 ⟨rfl, hb3⟩
    have HK3 := Lib.hid (HK2.out.below hb3 HK2.out.lt)
    have HX3 := Lib.hid (HX2.out.below hb3 HX2.out.lt)
    have HR3 := Lib.hid (HR2.out.below hb3 HR2.out.lt)
    have HB3 := Lib.hid (HB2.out.trans (hb3.mono HB2.out.size))
    clear HF hb3 HK2 HX2 HR2 b0 b1 b2 x0 x1 x2 x3 x4 x5 x6 x7 r0 r1 r2 fr0 fr1 fr2
    have b0 : w3.cell? ⟨w.heap.size, 0, none⟩ = some (.int .i64 me) := HK3.out.cell 0
    have b1 : w3.cell? ⟨w.heap.size, 1, none⟩ = some (.slice pi ni ci) := HK3.out.cell 1
    have b2 : w3.cell? ⟨w.heap.size, 2, none⟩ = some (.slice po no co) := HK3.out.cell 2
    have x0 : w3.cell? ⟨w.heap.size + 1, 0, none⟩ = some (.int .i64 x.s) := HX3.out.cell 0
    have x1 : w3.cell? ⟨w.heap.size + 1, 1, none⟩ = some (.int .i64 x.n) := HX3.out.cell 1
    have x2 : w3.cell? ⟨w.heap.size + 1, 2, none⟩ = some (.int .i64 x.b) := HX3.out.cell 2
    have x3 : w3.cell? ⟨w.heap.size + 1, 3, none⟩ = some (.int .i64 x.c) := HX3.out.cell 3
    have x4 : w3.cell? ⟨w.heap.size + 1, 4, none⟩ = some (.int .i64 x.a) := HX3.out.cell 4
    have x5 : w3.cell? ⟨w.heap.size + 1, 5, none⟩ = some (.int .i64 x.r) := HX3.out.cell 5
    have x6 : w3.cell? ⟨w.heap.size + 1, 6, none⟩ = some (.int .i64 x.t) := HX3.out.cell 6
    have x7 : w3.cell? ⟨w.heap.size + 1, 7, none⟩ = some (.int .i64 x.y) := HX3.out.cell 7
    have r0 : w3.cell? ⟨w.heap.size + 1 + 1, 0, none⟩ = some (.int .i64 0) := HR3.out.cell 0
    have r1 : w3.cell? ⟨w.heap.size + 1 + 1, 1, none⟩ = some (.slice none 0 0) := HR3.out.cell 1
    have r2 : w3.cell? ⟨w.heap.size + 1 + 1, 2, none⟩ = some (.slice none 0 0) := HR3.out.cell 2
    have fr0 := HR3.out.free 0
    have fr1 := HR3.out.free 1
    have fr2 := HR3.out.free 2
    go_wp2_with fail
    refine wp_region_held_drew (S := fun w' => True) (by kernel_rfl) trivial (fun hS0 => ?_)
    refine wpAnyH_take (i := 0) (v := ?_) rfl (by kernel_rfl) (by kernel_rfl) (by kernel_rfl) (fun _ _ _ h => h) (Or.inl ⟨by kernel_rfl, ?_⟩) (by first | assumption | trivial) ?_
    rotate_left
    · intro w hSw
      try dsimp only at hSw
      first | (go_simp; done) | (go_simp; with_reducible rfl)
    try simp only [Act.put, List.getElem_toArray, List.getElem_cons_succ, List.getElem_cons_zero, List.setIfInBounds_toArray, List.set_cons_zero, List.set_cons_succ]
    refine wpAnyH_take (i := 1) (v := ?_) rfl (by kernel_rfl) (by kernel_rfl) (by kernel_rfl) (fun _ _ _ h => h) (Or.inl ⟨by kernel_rfl, ?_⟩) (by first | assumption | trivial) ?_
    rotate_left
    · intro w hSw
      try dsimp only at hSw
      first | (go_simp; done) | (go_simp; with_reducible rfl)
    try simp only [Act.put, List.getElem_toArray, List.getElem_cons_succ, List.getElem_cons_zero, List.setIfInBounds_toArray, List.set_cons_zero, List.set_cons_succ]
    refine wpAnyH_take (i := 2) (v := undef) rfl (by kernel_rfl) (by kernel_rfl) (by kernel_rfl) (fun _ _ _ h => h) (Or.inr ⟨by kernel_rfl, rfl⟩) (by first | assumption | trivial) ?_
    try simp only [Act.put, List.getElem_toArray, List.getElem_cons_succ, List.getElem_cons_zero, List.setIfInBounds_toArray, List.set_cons_zero, List.set_cons_succ]
    refine wpAnyH_take (i := 3) (v := undef) rfl (by kernel_rfl) (by kernel_rfl) (by kernel_rfl) (fun _ _ _ h => h) (Or.inr ⟨by kernel_rfl, rfl⟩) (by first | assumption | trivial) ?_
    try simp only [Act.put, List.getElem_toArray, List.getElem_cons_succ, List.getElem_cons_zero, List.setIfInBounds_toArray, List.set_cons_zero, List.set_cons_succ]
    refine wpAnyH_take (i := 4) (v := undef) rfl (by kernel_rfl) (by kernel_rfl) (by kernel_rfl) (fun _ _ _ h => h) (Or.inr ⟨by kernel_rfl, rfl⟩) (by first | assumption | trivial) ?_
    try simp only [Act.put, List.getElem_toArray, List.getElem_cons_succ, List.getElem_cons_zero, List.setIfInBounds_toArray, List.set_cons_zero, List.set_cons_succ]
    refine wpAnyH_take (i := 5) (v := undef) rfl (by kernel_rfl) (by kernel_rfl) (by kernel_rfl) (fun _ _ _ h => h) (Or.inr ⟨by kernel_rfl, rfl⟩) (by first | assumption | trivial) ?_
    try simp only [Act.put, List.getElem_toArray, List.getElem_cons_succ, List.getElem_cons_zero, List.setIfInBounds_toArray, List.set_cons_zero, List.set_cons_succ]
    refine wpAnyH_take (i := 6) (v := undef) rfl (by kernel_rfl) (by kernel_rfl) (by kernel_rfl) (fun _ _ _ h => h) (Or.inr ⟨by kernel_rfl, rfl⟩) (by first | assumption | trivial) ?_
    try simp only [Act.put, List.getElem_toArray, List.getElem_cons_succ, List.getElem_cons_zero, List.setIfInBounds_toArray, List.set_cons_zero, List.set_cons_succ]
    refine wpAnyH_take (i := 7) (v := undef) rfl (by kernel_rfl) (by kernel_rfl) (by kernel_rfl) (fun _ _ _ h => h) (Or.inr ⟨by kernel_rfl, rfl⟩) (by first | assumption | trivial) ?_
    try simp only [Act.put, List.getElem_toArray, List.getElem_cons_succ, List.getElem_cons_zero, List.setIfInBounds_toArray, List.set_cons_zero, List.set_cons_succ]
    refine wpAnyH_take (i := 8) (v := undef) rfl (by kernel_rfl) (by kernel_rfl) (by kernel_rfl) (fun _ _ _ h => h) (Or.inr ⟨by kernel_rfl, rfl⟩) (by first | assumption | trivial) ?_
    try simp only [Act.put, List.getElem_toArray, List.getElem_cons_succ, List.getElem_cons_zero, List.setIfInBounds_toArray, List.set_cons_zero, List.set_cons_succ]
    refine wpAnyH_take (i := 9) (v := ?_) rfl (by kernel_rfl) (by kernel_rfl) (by kernel_rfl) (fun _ _ _ h => h) (Or.inl ⟨by kernel_rfl, ?_⟩) (by first | assumption | trivial) ?_
    rotate_left
    · intro w hSw
      try dsimp only at hSw
      first | (go_simp; done) | (go_simp; with_reducible rfl)
    try simp only [Act.put, List.getElem_toArray, List.getElem_cons_succ, List.getElem_cons_zero, List.setIfInBounds_toArray, List.set_cons_zero, List.set_cons_succ]
    refine wpAnyH_done (by kernel_rfl) ?_ _
    clear b0 b1 b2 x0 x1 x2 x3 x4 x5 x6 x7 r0 r1 r2 fr0 fr1 fr2
    have b0 : w3.drew.cell? ⟨w.heap.size, 0, none⟩ = some (.int .i64 me) := HK3.out.cell 0
    have b1 : w3.drew.cell? ⟨w.heap.size, 1, none⟩ = some (.slice pi ni ci) := HK3.out.cell 1
    have b2 : w3.drew.cell? ⟨w.heap.size, 2, none⟩ = some (.slice po no co) := HK3.out.cell 2
    have x0 : w3.drew.cell? ⟨w.heap.size + 1, 0, none⟩ = some (.int .i64 x.s) := HX3.out.cell 0
    have x1 : w3.drew.cell? ⟨w.heap.size + 1, 1, none⟩ = some (.int .i64 x.n) := HX3.out.cell 1
    have x2 : w3.drew.cell? ⟨w.heap.size + 1, 2, none⟩ = some (.int .i64 x.b) := HX3.out.cell 2
    have x3 : w3.drew.cell? ⟨w.heap.size + 1, 3, none⟩ = some (.int .i64 x.c) := HX3.out.cell 3
    have x4 : w3.drew.cell? ⟨w.heap.size + 1, 4, none⟩ = some (.int .i64 x.a) := HX3.out.cell 4
    have x5 : w3.drew.cell? ⟨w.heap.size + 1, 5, none⟩ = some (.int .i64 x.r) := HX3.out.cell 5
    have x6 : w3.drew.cell? ⟨w.heap.size + 1, 6, none⟩ = some (.int .i64 x.t) := HX3.out.cell 6
    have x7 : w3.drew.cell? ⟨w.heap.size + 1, 7, none⟩ = some (.int .i64 x.y) := HX3.out.cell 7
    have r0 : w3.drew.cell? ⟨w.heap.size + 1 + 1, 0, none⟩ = some (.int .i64 0) := HR3.out.cell 0
    have r1 : w3.drew.cell? ⟨w.heap.size + 1 + 1, 1, none⟩ = some (.slice none 0 0) := HR3.out.cell 1
    have r2 : w3.drew.cell? ⟨w.heap.size + 1 + 1, 2, none⟩ = some (.slice none 0 0) := HR3.out.cell 2
    have fr0 := HR3.out.free 0
    have fr1 := HR3.out.free 1
    have fr2 := HR3.out.free 2
    go_wp2_with fail
    refine (HW.out w3.drew HB3.out.drew).mono ?_
    rintro y w4 ⟨v4, rfl, ho4, hb4⟩
    obtain ⟨p4, c4, hv4⟩ := ho4.form
    generalize hn4 : (A ++ [x] ++ B).length = n4 at hv4
    subst hv4
    have hb4 : Below w3.heap.size w3 w4 := (Below.refl _ _).drew.trans hb4
    have HK4 := Lib.hid (HK3.out.below hb4 HK3.out.lt)
    have HX4 := Lib.hid (HX3.out.below hb4 HX3.out.lt)
    have HR4 := Lib.hid (HR3.out.below hb4 HR3.out.lt)
    have HB4 := Lib.hid (HB3.out.trans (hb4.mono HB3.out.size))
    have HO4 := Lib.hid (ho4.less (show w.heap.size ≤ w3.drew.heap.size from HB3.out.size))
    have HLT := Lib.hid ho4.block_ge
    have HSZ := Lib.hid (show w.heap.size + 1 + 1 < w3.drew.heap.size from HR3.out.lt)
    clear HW hb4 ho4 HK3 HX3 HR3 hn4 b0 b1 b2 x0 x1 x2 x3 x4 x5 x6 x7 r0 r1 r2 fr0 fr1 fr2
    have b0 : w4.cell? ⟨w.heap.size, 0, none⟩ = some (.int .i64 me) := HK4.out.cell 0
    have b1 : w4.cell? ⟨w.heap.size, 1, none⟩ = some (.slice pi ni ci) := HK4.out.cell 1
    have b2 : w4.cell? ⟨w.heap.size, 2, none⟩ = some (.slice po no co) := HK4.out.cell 2
    have x0 : w4.cell? ⟨w.heap.size + 1, 0, none⟩ = some (.int .i64 x.s) := HX4.out.cell 0
    have x1 : w4.cell? ⟨w.heap.size + 1, 1, none⟩ = some (.int .i64 x.n) := HX4.out.cell 1
    have x2 : w4.cell? ⟨w.heap.size + 1, 2, none⟩ = some (.int .i64 x.b) := HX4.out.cell 2
    have x3 : w4.cell? ⟨w.heap.size + 1, 3, none⟩ = some (.int .i64 x.c) := HX4.out.cell 3
    have x4 : w4.cell? ⟨w.heap.size + 1, 4, none⟩ = some (.int .i64 x.a) := HX4.out.cell 4
    have x5 : w4.cell? ⟨w.heap.size + 1, 5, none⟩ = some (.int .i64 x.r) := HX4.out.cell 5
    have x6 : w4.cell? ⟨w.heap.size + 1, 6, none⟩ = some (.int .i64 x.t) := HX4.out.cell 6
    have x7 : w4.cell? ⟨w.heap.size + 1, 7, none⟩ = some (.int .i64 x.y) := HX4.out.cell 7
    have r0 : w4.cell? ⟨w.heap.size + 1 + 1, 0, none⟩ = some (.int .i64 0) := HR4.out.cell 0
    have r1 : w4.cell? ⟨w.heap.size + 1 + 1, 1, none⟩ = some (.slice none 0 0) := HR4.out.cell 1
    have r2 : w4.cell? ⟨w.heap.size + 1 + 1, 2, none⟩ = some (.slice none 0 0) := HR4.out.cell 2
    have fr0 := HR4.out.free 0
    have fr1 := HR4.out.free 1
    have fr2 := HR4.out.free 2
    have fb1 := HK4.out.free 1
    go_wp2_with fail
    have hK5 := HK4.out.set 1 (.slice p4 n4 c4)
    have hR5 := HR4.out.setOther (a := ⟨w.heap.size, 1, none⟩) (by show w.heap.size ≠ w.heap.size + 1 + 1; omega) (.slice p4 n4 c4)
    have hf := ((hR5.set 0 (.int .i64 me)).set 1 (.slice p4 n4 c4)).set 2 (.slice po no co)
    have hB := HB4.out.setCell (p := ⟨w.heap.size, 1, none⟩) (Nat.le_refl _) (.slice p4 n4 c4) |>.setCell (p := ⟨w.heap.size + 1 + 1, 0, none⟩) (by show w.heap.size ≤ w.heap.size + 1 + 1; omega) (.int .i64 me) |>.setCell (p := ⟨w.heap.size + 1 + 1, 1, none⟩) (by show w.heap.size ≤ w.heap.size + 1 + 1; omega) (.slice p4 n4 c4) |>.setCell (p := ⟨w.heap.size + 1 + 1, 2, none⟩) (by show w.heap.size ≤ w.heap.size + 1 + 1; omega) (.slice po no co)
    have hO : OwnT encI (World.setCell (World.setCell (World.setCell (World.setCell w4 ⟨w.heap.size, 1, none⟩ (.slice p4 n4 c4)) ⟨w.heap.size + 1 + 1, 0, none⟩ (.int .i64 me)) ⟨w.heap.size + 1 + 1, 1, none⟩ (.slice p4 n4 c4)) ⟨w.heap.size + 1 + 1, 2, none⟩ (.slice po no co)) w.heap.size 64 (.slice p4 n4 c4) (A ++ [x] ++ B) := by
      refine HO4.out.stay (fun g hg => ?_)
      have hge := HLT.out g hg
      have hsz : w.heap.size + 1 + 1 < w3.drew.heap.size := HSZ.out
      rw [Below.heap_setCell _ _ _ g (by show g ≠ w.heap.size + 1 + 1; omega), Below.heap_setCell _ _ _ g (by show g ≠ w.heap.size + 1 + 1; omega), Below.heap_setCell _ _ _ g (by show g ≠ w.heap.size + 1 + 1; omega), Below.heap_setCell _ _ _ g (by show g ≠ w.heap.size; omega)]
    refine bodyPost_ret (v := .tuple #[.agg #[.int .i64 me, .slice p4 n4 c4, .slice po no co], .int .i64 0]) (by simp [results, Try.results66, go_sem, hf.cell 0, hf.cell 1, hf.cell 2]) rfl ⟨_, _, _, rfl, hO, hB⟩
  · skip
    have e1 : (x.s != me) = true := by simpa using g
    have e2 : (x.b != me) = false := by simpa using g2
    clear g2
    clear g
    have b0 : w2.cell? ⟨w.heap.size, 0, none⟩ = some (.int .i64 me) := HK2.out.cell 0
    have b1 : w2.cell? ⟨w.heap.size, 1, none⟩ = some (.slice pi ni ci) := HK2.out.cell 1
    have b2 : w2.cell? ⟨w.heap.size, 2, none⟩ = some (.slice po no co) := HK2.out.cell 2
    have x0 : w2.cell? ⟨w.heap.size + 1, 0, none⟩ = some (.int .i64 x.s) := HX2.out.cell 0
    have x1 : w2.cell? ⟨w.heap.size + 1, 1, none⟩ = some (.int .i64 x.n) := HX2.out.cell 1
    have x2 : w2.cell? ⟨w.heap.size + 1, 2, none⟩ = some (.int .i64 x.b) := HX2.out.cell 2
    have x3 : w2.cell? ⟨w.heap.size + 1, 3, none⟩ = some (.int .i64 x.c) := HX2.out.cell 3
    have x4 : w2.cell? ⟨w.heap.size + 1, 4, none⟩ = some (.int .i64 x.a) := HX2.out.cell 4
    have x5 : w2.cell? ⟨w.heap.size + 1, 5, none⟩ = some (.int .i64 x.r) := HX2.out.cell 5
    have x6 : w2.cell? ⟨w.heap.size + 1, 6, none⟩ = some (.int .i64 x.t) := HX2.out.cell 6
    have x7 : w2.cell? ⟨w.heap.size + 1, 7, none⟩ = some (.int .i64 x.y) := HX2.out.cell 7
    have r0 : w2.cell? ⟨w.heap.size + 1 + 1, 0, none⟩ = some (.int .i64 0) := HR2.out.cell 0
    have r1 : w2.cell? ⟨w.heap.size + 1 + 1, 1, none⟩ = some (.slice none 0 0) := HR2.out.cell 1
    have r2 : w2.cell? ⟨w.heap.size + 1 + 1, 2, none⟩ = some (.slice none 0 0) := HR2.out.cell 2
    have fr0 := HR2.out.free 0
    have fr1 := HR2.out.free 1
    have fr2 := HR2.out.free 2
    go_wp2_with fail
    refine (HF.out _ HB2.out).mono ?_
    rintro y w3 ⟨rfl, hb3⟩
    have HK3 := Lib.hid (HK2.out.below hb3 HK2.out.lt)
    have HX3 := Lib.hid (HX2.out.below hb3 HX2.out.lt)
    have HR3 := Lib.hid (HR2.out.below hb3 HR2.out.lt)
    have HB3 := Lib.hid (HB2.out.trans (hb3.mono HB2.out.size))
    clear HF hb3 HK2 HX2 HR2 b0 b1 b2 x0 x1 x2 x3 x4 x5 x6 x7 r0 r1 r2 fr0 fr1 fr2
    have b0 : w3.cell? ⟨w.heap.size, 0, none⟩ = some (.int .i64 me) := HK3.out.cell 0
    have b1 : w3.cell? ⟨w.heap.size, 1, none⟩ = some (.slice pi ni ci) := HK3.out.cell 1
    have b2 : w3.cell? ⟨w.heap.size, 2, none⟩ = some (.slice po no co) := HK3.out.cell 2
    have x0 : w3.cell? ⟨w.heap.size + 1, 0, none⟩ = some (.int .i64 x.s) := HX3.out.cell 0
    have x1 : w3.cell? ⟨w.heap.size + 1, 1, none⟩ = some (.int .i64 x.n) := HX3.out.cell 1
    have x2 : w3.cell? ⟨w.heap.size + 1, 2, none⟩ = some (.int .i64 x.b) := HX3.out.cell 2
    have x3 : w3.cell? ⟨w.heap.size + 1, 3, none⟩ = some (.int .i64 x.c) := HX3.out.cell 3
    have x4 : w3.cell? ⟨w.heap.size + 1, 4, none⟩ = some (.int .i64 x.a) := HX3.out.cell 4
    have x5 : w3.cell? ⟨w.heap.size + 1, 5, none⟩ = some (.int .i64 x.r) := HX3.out.cell 5
    have x6 : w3.cell? ⟨w.heap.size + 1, 6, none⟩ = some (.int .i64 x.t) := HX3.out.cell 6
    have x7 : w3.cell? ⟨w.heap.size + 1, 7, none⟩ = some (.int .i64 x.y) := HX3.out.cell 7
    have r0 : w3.cell? ⟨w.heap.size + 1 + 1, 0, none⟩ = some (.int .i64 0) := HR3.out.cell 0
    have r1 : w3.cell? ⟨w.heap.size + 1 + 1, 1, none⟩ = some (.slice none 0 0) := HR3.out.cell 1
    have r2 : w3.cell? ⟨w.heap.size + 1 + 1, 2, none⟩ = some (.slice none 0 0) := HR3.out.cell 2
    have fr0 := HR3.out.free 0
    have fr1 := HR3.out.free 1
    have fr2 := HR3.out.free 2
    go_wp2_with fail
    refine wp_region_held_drew (S := fun w' => True) (by kernel_rfl) trivial (fun hS0 => ?_)
    refine wpAnyH_take (i := 0) (v := ?_) rfl (by kernel_rfl) (by kernel_rfl) (by kernel_rfl) (fun _ _ _ h => h) (Or.inl ⟨by kernel_rfl, ?_⟩) (by first | assumption | trivial) ?_
    rotate_left
    · intro w hSw
      try dsimp only at hSw
      first | (go_simp; done) | (go_simp; with_reducible rfl)
    try simp only [Act.put, List.getElem_toArray, List.getElem_cons_succ, List.getElem_cons_zero, List.setIfInBounds_toArray, List.set_cons_zero, List.set_cons_succ]
    refine wpAnyH_take (i := 1) (v := ?_) rfl (by kernel_rfl) (by kernel_rfl) (by kernel_rfl) (fun _ _ _ h => h) (Or.inl ⟨by kernel_rfl, ?_⟩) (by first | assumption | trivial) ?_
    rotate_left
    · intro w hSw
      try dsimp only at hSw
      first | (go_simp; done) | (go_simp; with_reducible rfl)
    try simp only [Act.put, List.getElem_toArray, List.getElem_cons_succ, List.getElem_cons_zero, List.setIfInBounds_toArray, List.set_cons_zero, List.set_cons_succ]
    refine wpAnyH_take (i := 2) (v := undef) rfl (by kernel_rfl) (by kernel_rfl) (by kernel_rfl) (fun _ _ _ h => h) (Or.inr ⟨by kernel_rfl, rfl⟩) (by first | assumption | trivial) ?_
    try simp only [Act.put, List.getElem_toArray, List.getElem_cons_succ, List.getElem_cons_zero, List.setIfInBounds_toArray, List.set_cons_zero, List.set_cons_succ]
    refine wpAnyH_take (i := 3) (v := undef) rfl (by kernel_rfl) (by kernel_rfl) (by kernel_rfl) (fun _ _ _ h => h) (Or.inr ⟨by kernel_rfl, rfl⟩) (by first | assumption | trivial) ?_
    try simp only [Act.put, List.getElem_toArray, List.getElem_cons_succ, List.getElem_cons_zero, List.setIfInBounds_toArray, List.set_cons_zero, List.set_cons_succ]
    refine wpAnyH_take (i := 4) (v := undef) rfl (by kernel_rfl) (by kernel_rfl) (by kernel_rfl) (fun _ _ _ h => h) (Or.inr ⟨by kernel_rfl, rfl⟩) (by first | assumption | trivial) ?_
    try simp only [Act.put, List.getElem_toArray, List.getElem_cons_succ, List.getElem_cons_zero, List.setIfInBounds_toArray, List.set_cons_zero, List.set_cons_succ]
    refine wpAnyH_take (i := 5) (v := undef) rfl (by kernel_rfl) (by kernel_rfl) (by kernel_rfl) (fun _ _ _ h => h) (Or.inr ⟨by kernel_rfl, rfl⟩) (by first | assumption | trivial) ?_
    try simp only [Act.put, List.getElem_toArray, List.getElem_cons_succ, List.getElem_cons_zero, List.setIfInBounds_toArray, List.set_cons_zero, List.set_cons_succ]
    refine wpAnyH_take (i := 6) (v := undef) rfl (by kernel_rfl) (by kernel_rfl) (by kernel_rfl) (fun _ _ _ h => h) (Or.inr ⟨by kernel_rfl, rfl⟩) (by first | assumption | trivial) ?_
    try simp only [Act.put, List.getElem_toArray, List.getElem_cons_succ, List.getElem_cons_zero, List.setIfInBounds_toArray, List.set_cons_zero, List.set_cons_succ]
    refine wpAnyH_take (i := 7) (v := undef) rfl (by kernel_rfl) (by kernel_rfl) (by kernel_rfl) (fun _ _ _ h => h) (Or.inr ⟨by kernel_rfl, rfl⟩) (by first | assumption | trivial) ?_
    try simp only [Act.put, List.getElem_toArray, List.getElem_cons_succ, List.getElem_cons_zero, List.setIfInBounds_toArray, List.set_cons_zero, List.set_cons_succ]
    refine wpAnyH_take (i := 8) (v := undef) rfl (by kernel_rfl) (by kernel_rfl) (by kernel_rfl) (fun _ _ _ h => h) (Or.inr ⟨by kernel_rfl, rfl⟩) (by first | assumption | trivial) ?_
    try simp only [Act.put, List.getElem_toArray, List.getElem_cons_succ, List.getElem_cons_zero, List.setIfInBounds_toArray, List.set_cons_zero, List.set_cons_succ]
    refine wpAnyH_take (i := 9) (v := ?_) rfl (by kernel_rfl) (by kernel_rfl) (by kernel_rfl) (fun _ _ _ h => h) (Or.inl ⟨by kernel_rfl, ?_⟩) (by first | assumption | trivial) ?_
    rotate_left
    · intro w hSw
      try dsimp only at hSw
      first | (go_simp; done) | (go_simp; with_reducible rfl)
    try simp only [Act.put, List.getElem_toArray, List.getElem_cons_succ, List.getElem_cons_zero, List.setIfInBounds_toArray, List.set_cons_zero, List.set_cons_succ]
    refine wpAnyH_done (by kernel_rfl) ?_ _
    clear b0 b1 b2 x0 x1 x2 x3 x4 x5 x6 x7 r0 r1 r2 fr0 fr1 fr2
    have b0 : w3.drew.cell? ⟨w.heap.size, 0, none⟩ = some (.int .i64 me) := HK3.out.cell 0
    have b1 : w3.drew.cell? ⟨w.heap.size, 1, none⟩ = some (.slice pi ni ci) := HK3.out.cell 1
    have b2 : w3.drew.cell? ⟨w.heap.size, 2, none⟩ = some (.slice po no co) := HK3.out.cell 2
    have x0 : w3.drew.cell? ⟨w.heap.size + 1, 0, none⟩ = some (.int .i64 x.s) := HX3.out.cell 0
    have x1 : w3.drew.cell? ⟨w.heap.size + 1, 1, none⟩ = some (.int .i64 x.n) := HX3.out.cell 1
    have x2 : w3.drew.cell? ⟨w.heap.size + 1, 2, none⟩ = some (.int .i64 x.b) := HX3.out.cell 2
    have x3 : w3.drew.cell? ⟨w.heap.size + 1, 3, none⟩ = some (.int .i64 x.c) := HX3.out.cell 3
    have x4 : w3.drew.cell? ⟨w.heap.size + 1, 4, none⟩ = some (.int .i64 x.a) := HX3.out.cell 4
    have x5 : w3.drew.cell? ⟨w.heap.size + 1, 5, none⟩ = some (.int .i64 x.r) := HX3.out.cell 5
    have x6 : w3.drew.cell? ⟨w.heap.size + 1, 6, none⟩ = some (.int .i64 x.t) := HX3.out.cell 6
    have x7 : w3.drew.cell? ⟨w.heap.size + 1, 7, none⟩ = some (.int .i64 x.y) := HX3.out.cell 7
    have r0 : w3.drew.cell? ⟨w.heap.size + 1 + 1, 0, none⟩ = some (.int .i64 0) := HR3.out.cell 0
    have r1 : w3.drew.cell? ⟨w.heap.size + 1 + 1, 1, none⟩ = some (.slice none 0 0) := HR3.out.cell 1
    have r2 : w3.drew.cell? ⟨w.heap.size + 1 + 1, 2, none⟩ = some (.slice none 0 0) := HR3.out.cell 2
    have fr0 := HR3.out.free 0
    have fr1 := HR3.out.free 1
    have fr2 := HR3.out.free 2
    go_wp2_with fail
    refine (HW.out w3.drew HB3.out.drew).mono ?_
    rintro y w4 ⟨v4, rfl, ho4, hb4⟩
    obtain ⟨p4, c4, hv4⟩ := ho4.form
    generalize hn4 : (A ++ [x] ++ B).length = n4 at hv4
    subst hv4
    have hb4 : Below w3.heap.size w3 w4 := (Below.refl _ _).drew.trans hb4
    have HK4 := Lib.hid (HK3.out.below hb4 HK3.out.lt)
    have HX4 := Lib.hid (HX3.out.below hb4 HX3.out.lt)
    have HR4 := Lib.hid (HR3.out.below hb4 HR3.out.lt)
    have HB4 := Lib.hid (HB3.out.trans (hb4.mono HB3.out.size))
    have HO4 := Lib.hid (ho4.less (show w.heap.size ≤ w3.drew.heap.size from HB3.out.size))
    have HLT := Lib.hid ho4.block_ge
    have HSZ := Lib.hid (show w.heap.size + 1 + 1 < w3.drew.heap.size from HR3.out.lt)
    clear HW hb4 ho4 HK3 HX3 HR3 hn4 b0 b1 b2 x0 x1 x2 x3 x4 x5 x6 x7 r0 r1 r2 fr0 fr1 fr2
    have b0 : w4.cell? ⟨w.heap.size, 0, none⟩ = some (.int .i64 me) := HK4.out.cell 0
    have b1 : w4.cell? ⟨w.heap.size, 1, none⟩ = some (.slice pi ni ci) := HK4.out.cell 1
    have b2 : w4.cell? ⟨w.heap.size, 2, none⟩ = some (.slice po no co) := HK4.out.cell 2
    have x0 : w4.cell? ⟨w.heap.size + 1, 0, none⟩ = some (.int .i64 x.s) := HX4.out.cell 0
    have x1 : w4.cell? ⟨w.heap.size + 1, 1, none⟩ = some (.int .i64 x.n) := HX4.out.cell 1
    have x2 : w4.cell? ⟨w.heap.size + 1, 2, none⟩ = some (.int .i64 x.b) := HX4.out.cell 2
    have x3 : w4.cell? ⟨w.heap.size + 1, 3, none⟩ = some (.int .i64 x.c) := HX4.out.cell 3
    have x4 : w4.cell? ⟨w.heap.size + 1, 4, none⟩ = some (.int .i64 x.a) := HX4.out.cell 4
    have x5 : w4.cell? ⟨w.heap.size + 1, 5, none⟩ = some (.int .i64 x.r) := HX4.out.cell 5
    have x6 : w4.cell? ⟨w.heap.size + 1, 6, none⟩ = some (.int .i64 x.t) := HX4.out.cell 6
    have x7 : w4.cell? ⟨w.heap.size + 1, 7, none⟩ = some (.int .i64 x.y) := HX4.out.cell 7
    have r0 : w4.cell? ⟨w.heap.size + 1 + 1, 0, none⟩ = some (.int .i64 0) := HR4.out.cell 0
    have r1 : w4.cell? ⟨w.heap.size + 1 + 1, 1, none⟩ = some (.slice none 0 0) := HR4.out.cell 1
    have r2 : w4.cell? ⟨w.heap.size + 1 + 1, 2, none⟩ = some (.slice none 0 0) := HR4.out.cell 2
    have fr0 := HR4.out.free 0
    have fr1 := HR4.out.free 1
    have fr2 := HR4.out.free 2
    have fb1 := HK4.out.free 1
    go_wp2_with fail
    have hK5 := HK4.out.set 1 (.slice p4 n4 c4)
    have hR5 := HR4.out.setOther (a := ⟨w.heap.size, 1, none⟩) (by show w.heap.size ≠ w.heap.size + 1 + 1; omega) (.slice p4 n4 c4)
    have hf := ((hR5.set 0 (.int .i64 me)).set 1 (.slice p4 n4 c4)).set 2 (.slice po no co)
    have hB := HB4.out.setCell (p := ⟨w.heap.size, 1, none⟩) (Nat.le_refl _) (.slice p4 n4 c4) |>.setCell (p := ⟨w.heap.size + 1 + 1, 0, none⟩) (by show w.heap.size ≤ w.heap.size + 1 + 1; omega) (.int .i64 me) |>.setCell (p := ⟨w.heap.size + 1 + 1, 1, none⟩) (by show w.heap.size ≤ w.heap.size + 1 + 1; omega) (.slice p4 n4 c4) |>.setCell (p := ⟨w.heap.size + 1 + 1, 2, none⟩) (by show w.heap.size ≤ w.heap.size + 1 + 1; omega) (.slice po no co)
    have hO : OwnT encI (World.setCell (World.setCell (World.setCell (World.setCell w4 ⟨w.heap.size, 1, none⟩ (.slice p4 n4 c4)) ⟨w.heap.size + 1 + 1, 0, none⟩ (.int .i64 me)) ⟨w.heap.size + 1 + 1, 1, none⟩ (.slice p4 n4 c4)) ⟨w.heap.size + 1 + 1, 2, none⟩ (.slice po no co)) w.heap.size 64 (.slice p4 n4 c4) (A ++ [x] ++ B) := by
      refine HO4.out.stay (fun g hg => ?_)
      have hge := HLT.out g hg
      have hsz : w.heap.size + 1 + 1 < w3.drew.heap.size := HSZ.out
      rw [Below.heap_setCell _ _ _ g (by show g ≠ w.heap.size + 1 + 1; omega), Below.heap_setCell _ _ _ g (by show g ≠ w.heap.size + 1 + 1; omega), Below.heap_setCell _ _ _ g (by show g ≠ w.heap.size + 1 + 1; omega), Below.heap_setCell _ _ _ g (by show g ≠ w.heap.size; omega)]
    refine bodyPost_ret (v := .tuple #[.agg #[.int .i64 me, .slice p4 n4 c4, .slice po no co], .int .i64 0]) (by simp [results, Try.results66, go_sem, hf.cell 0, hf.cell 1, hf.cell 2]) rfl ⟨_, _, _, rfl, hO, hB⟩
set_option linter.unusedSimpArgs false in
set_option maxHeartbeats 4000000 in
set_option maxRecDepth 100000 in
theorem put_same (w : World) (me : Int) (pi po : Option Addr) (ni ci no co : Nat) (x : Itm) (xs A B : List Itm) (q : Itm) (hr : TRow encI w (.slice pi ni ci) xs) (hl : xs.length = ni) (hA : AroundF posI ⟨x.s, x.n, 0⟩ xs A [q] B) (hn : ni ≤ 1024) (h : chkI x = 0) (h1 : x.s = me ∨ x.b = me) (h3 : q = x) :
    Calls Try.prog 66 #[bookV me (.slice pi ni ci) (.slice po no co), x.v] w fun e w' => e = .returned (.tuple #[.agg #[.int .i64 me, .slice pi ni ci, .slice po no co], .int .i64 0]) ∧ Below w.heap.size w w' := by
  have hal : A.length < xs.length := by rw [hA.all]; simp <;> omega
  obtain ⟨b, o, hpv, hbl, hcs⟩ := hr.at_ A.length hal
  subst hpv
  have hq : xs[A.length] = q := by have e := hA.all; subst e; simp
  rw [hq] at hcs
  have hcap4 : ((A.length : Nat) : Int) < (ni : Int) := by omega
  rw [h3] at hcs
  have HQB := Lib.hid hbl
  have HQC := Lib.hid hcs
  clear hal hq hbl hcs
  have HCK := Lib.hid (fun (W : World) => check_any x W)
  rw [h] at HCK
  have HF := Lib.hid (fun (W : World) (hb : Below w.heap.size w W) => findI_any W me (.slice (some ⟨b, o, none⟩) ni ci) (.slice po no co) xs A [q] B x.s x.n (hr.kept hb) hA (by omega))
  rw [show decide (([q] : List Itm) ≠ []) = true by simp] at HF
  unfold idV at HF
  have H1 := Lib.hid h1
  clear hr hl hA hn h3
  clear h h1
  unfold Itm.v bookV at *
  go_enter Try.func66, Try.ntmps66
  go_wp2_with fail
  generalize hW1 : ((w.alloc (.cells #[.int .i64 me, .slice (some ⟨b, o, none⟩) ni ci, .slice po no co] 27)).alloc (.cells #[.int .i64 x.s, .int .i64 x.n, .int .i64 x.b, .int .i64 x.c, .int .i64 x.a, .int .i64 x.r, .int .i64 x.t, .int .i64 x.y] 64)).alloc (.cells #[.int .i64 0, .slice none 0 0, .slice none 0 0] 27) = W1
  have HB1 : Hid (Below w.heap.size w W1) := by show Below _ _ _; rw [← hW1]; exact ((oneB w _).alloc (by simp) _).alloc (by simp <;> omega) _
  have HK1 : Hid (Blk W1 w.heap.size #[.int .i64 me, .slice (some ⟨b, o, none⟩) ni ci, .slice po no co] 27) := by show Blk _ _ _ _; rw [← hW1]; exact ((Blk.new w _ _).alloc _).alloc _
  have HX1 : Hid (Blk W1 (w.heap.size + 1) #[.int .i64 x.s, .int .i64 x.n, .int .i64 x.b, .int .i64 x.c, .int .i64 x.a, .int .i64 x.r, .int .i64 x.t, .int .i64 x.y] 64) := by show Blk _ _ _ _; rw [← hW1]; exact (Blk.new' _ _ _ (by simp)).alloc _
  have HR1 : Hid (Blk W1 (w.heap.size + 1 + 1) #[.int .i64 0, .slice none 0 0, .slice none 0 0] 27) := by show Blk _ _ _ _; rw [← hW1]; exact Blk.new' _ _ _ (by simp)
  clear hW1
  refine (HCK.out _).mono ?_
  rintro y w2 ⟨rfl, hb2⟩
  have HK2 := Lib.hid (HK1.out.below hb2 HK1.out.lt)
  have HX2 := Lib.hid (HX1.out.below hb2 HX1.out.lt)
  have HR2 := Lib.hid (HR1.out.below hb2 HR1.out.lt)
  have HB2 := Lib.hid (HB1.out.trans (hb2.mono HB1.out.size))
  clear HCK hb2 HK1 HX1 HR1
  rcases (show x.s = me ∨ (x.s ≠ me ∧ x.b = me) by rcases H1.out with h | h; exact .inl h; by_cases g : x.s = me; exact .inl g; exact .inr ⟨g, h⟩) with g | ⟨g, g2⟩
  · skip
    have e1 : (x.s != me) = false := by simpa using g
    clear g
    have b0 : w2.cell? ⟨w.heap.size, 0, none⟩ = some (.int .i64 me) := HK2.out.cell 0
    have b1 : w2.cell? ⟨w.heap.size, 1, none⟩ = some (.slice (some ⟨b, o, none⟩) ni ci) := HK2.out.cell 1
    have b2 : w2.cell? ⟨w.heap.size, 2, none⟩ = some (.slice po no co) := HK2.out.cell 2
    have x0 : w2.cell? ⟨w.heap.size + 1, 0, none⟩ = some (.int .i64 x.s) := HX2.out.cell 0
    have x1 : w2.cell? ⟨w.heap.size + 1, 1, none⟩ = some (.int .i64 x.n) := HX2.out.cell 1
    have x2 : w2.cell? ⟨w.heap.size + 1, 2, none⟩ = some (.int .i64 x.b) := HX2.out.cell 2
    have x3 : w2.cell? ⟨w.heap.size + 1, 3, none⟩ = some (.int .i64 x.c) := HX2.out.cell 3
    have x4 : w2.cell? ⟨w.heap.size + 1, 4, none⟩ = some (.int .i64 x.a) := HX2.out.cell 4
    have x5 : w2.cell? ⟨w.heap.size + 1, 5, none⟩ = some (.int .i64 x.r) := HX2.out.cell 5
    have x6 : w2.cell? ⟨w.heap.size + 1, 6, none⟩ = some (.int .i64 x.t) := HX2.out.cell 6
    have x7 : w2.cell? ⟨w.heap.size + 1, 7, none⟩ = some (.int .i64 x.y) := HX2.out.cell 7
    have r0 : w2.cell? ⟨w.heap.size + 1 + 1, 0, none⟩ = some (.int .i64 0) := HR2.out.cell 0
    have r1 : w2.cell? ⟨w.heap.size + 1 + 1, 1, none⟩ = some (.slice none 0 0) := HR2.out.cell 1
    have r2 : w2.cell? ⟨w.heap.size + 1 + 1, 2, none⟩ = some (.slice none 0 0) := HR2.out.cell 2
    have fr0 := HR2.out.free 0
    have fr1 := HR2.out.free 1
    have fr2 := HR2.out.free 2
    go_wp2_with fail
    refine (HF.out _ HB2.out).mono ?_
    rintro y w3 ⟨rfl, hb3⟩
    have HK3 := Lib.hid (HK2.out.below hb3 HK2.out.lt)
    have HX3 := Lib.hid (HX2.out.below hb3 HX2.out.lt)
    have HR3 := Lib.hid (HR2.out.below hb3 HR2.out.lt)
    have HB3 := Lib.hid (HB2.out.trans (hb3.mono HB2.out.size))
    clear HF hb3 HK2 HX2 HR2 b0 b1 b2 x0 x1 x2 x3 x4 x5 x6 x7 r0 r1 r2 fr0 fr1 fr2
    have b0 : w3.cell? ⟨w.heap.size, 0, none⟩ = some (.int .i64 me) := HK3.out.cell 0
    have b1 : w3.cell? ⟨w.heap.size, 1, none⟩ = some (.slice (some ⟨b, o, none⟩) ni ci) := HK3.out.cell 1
    have b2 : w3.cell? ⟨w.heap.size, 2, none⟩ = some (.slice po no co) := HK3.out.cell 2
    have x0 : w3.cell? ⟨w.heap.size + 1, 0, none⟩ = some (.int .i64 x.s) := HX3.out.cell 0
    have x1 : w3.cell? ⟨w.heap.size + 1, 1, none⟩ = some (.int .i64 x.n) := HX3.out.cell 1
    have x2 : w3.cell? ⟨w.heap.size + 1, 2, none⟩ = some (.int .i64 x.b) := HX3.out.cell 2
    have x3 : w3.cell? ⟨w.heap.size + 1, 3, none⟩ = some (.int .i64 x.c) := HX3.out.cell 3
    have x4 : w3.cell? ⟨w.heap.size + 1, 4, none⟩ = some (.int .i64 x.a) := HX3.out.cell 4
    have x5 : w3.cell? ⟨w.heap.size + 1, 5, none⟩ = some (.int .i64 x.r) := HX3.out.cell 5
    have x6 : w3.cell? ⟨w.heap.size + 1, 6, none⟩ = some (.int .i64 x.t) := HX3.out.cell 6
    have x7 : w3.cell? ⟨w.heap.size + 1, 7, none⟩ = some (.int .i64 x.y) := HX3.out.cell 7
    have r0 : w3.cell? ⟨w.heap.size + 1 + 1, 0, none⟩ = some (.int .i64 0) := HR3.out.cell 0
    have r1 : w3.cell? ⟨w.heap.size + 1 + 1, 1, none⟩ = some (.slice none 0 0) := HR3.out.cell 1
    have r2 : w3.cell? ⟨w.heap.size + 1 + 1, 2, none⟩ = some (.slice none 0 0) := HR3.out.cell 2
    have fr0 := HR3.out.free 0
    have fr1 := HR3.out.free 1
    have fr2 := HR3.out.free 2
    go_wp2_with fail
    have q0 : w3.drew.cell? ⟨b, o + A.length * 8, none⟩ = some (.int .i64 x.s) := (HB3.out.cell (p := ⟨b, _, none⟩) HQB.out).trans (HQC.out 0 (by decide))
    have q1 : w3.drew.cell? ⟨b, o + A.length * 8 + 1, none⟩ = some (.int .i64 x.n) := (HB3.out.cell (p := ⟨b, _, none⟩) HQB.out).trans (HQC.out 1 (by decide))
    have q2 : w3.drew.cell? ⟨b, o + A.length * 8 + 2, none⟩ = some (.int .i64 x.b) := (HB3.out.cell (p := ⟨b, _, none⟩) HQB.out).trans (HQC.out 2 (by decide))
    have q3 : w3.drew.cell? ⟨b, o + A.length * 8 + 3, none⟩ = some (.int .i64 x.c) := (HB3.out.cell (p := ⟨b, _, none⟩) HQB.out).trans (HQC.out 3 (by decide))
    have q4 : w3.drew.cell? ⟨b, o + A.length * 8 + 4, none⟩ = some (.int .i64 x.a) := (HB3.out.cell (p := ⟨b, _, none⟩) HQB.out).trans (HQC.out 4 (by decide))
    have q5 : w3.drew.cell? ⟨b, o + A.length * 8 + 5, none⟩ = some (.int .i64 x.r) := (HB3.out.cell (p := ⟨b, _, none⟩) HQB.out).trans (HQC.out 5 (by decide))
    have q6 : w3.drew.cell? ⟨b, o + A.length * 8 + 6, none⟩ = some (.int .i64 x.t) := (HB3.out.cell (p := ⟨b, _, none⟩) HQB.out).trans (HQC.out 6 (by decide))
    have q7 : w3.drew.cell? ⟨b, o + A.length * 8 + 7, none⟩ = some (.int .i64 x.y) := (HB3.out.cell (p := ⟨b, _, none⟩) HQB.out).trans (HQC.out 7 (by decide))
    have hSQ : w3.drew.cell? ⟨w.heap.size, 1, none⟩ = some (.slice (some ⟨b, o, none⟩) ni ci) ∧ w3.drew.cell? ⟨b, o + A.length * 8, none⟩ = some (.int .i64 x.s) ∧ w3.drew.cell? ⟨b, o + A.length * 8 + 1, none⟩ = some (.int .i64 x.n) ∧ w3.drew.cell? ⟨b, o + A.length * 8 + 2, none⟩ = some (.int .i64 x.b) ∧ w3.drew.cell? ⟨b, o + A.length * 8 + 3, none⟩ = some (.int .i64 x.c) ∧ w3.drew.cell? ⟨b, o + A.length * 8 + 4, none⟩ = some (.int .i64 x.a) ∧ w3.drew.cell? ⟨b, o + A.length * 8 + 5, none⟩ = some (.int .i64 x.r) ∧ w3.drew.cell? ⟨b, o + A.length * 8 + 6, none⟩ = some (.int .i64 x.t) ∧ w3.drew.cell? ⟨b, o + A.length * 8 + 7, none⟩ = some (.int .i64 x.y) ∧ w3.drew.cell? ⟨w.heap.size + 1, 0, none⟩ = some (.int .i64 x.s) ∧ w3.drew.cell? ⟨w.heap.size + 1, 1, none⟩ = some (.int .i64 x.n) ∧ w3.drew.cell? ⟨w.heap.size + 1, 2, none⟩ = some (.int .i64 x.b) ∧ w3.drew.cell? ⟨w.heap.size + 1, 3, none⟩ = some (.int .i64 x.c) ∧ w3.drew.cell? ⟨w.heap.size + 1, 4, none⟩ = some (.int .i64 x.a) ∧ w3.drew.cell? ⟨w.heap.size + 1, 5, none⟩ = some (.int .i64 x.r) ∧ w3.drew.cell? ⟨w.heap.size + 1, 6, none⟩ = some (.int .i64 x.t) ∧ w3.drew.cell? ⟨w.heap.size + 1, 7, none⟩ = some (.int .i64 x.y) := ⟨b1, q0, q1, q2, q3, q4, q5, q6, q7, x0, x1, x2, x3, x4, x5, x6, x7⟩
    refine wp_region_held_drew (S := fun w' => w'.cell? ⟨w.heap.size, 1, none⟩ = some (.slice (some ⟨b, o, none⟩) ni ci) ∧ w'.cell? ⟨b, o + A.length * 8, none⟩ = some (.int .i64 x.s) ∧ w'.cell? ⟨b, o + A.length * 8 + 1, none⟩ = some (.int .i64 x.n) ∧ w'.cell? ⟨b, o + A.length * 8 + 2, none⟩ = some (.int .i64 x.b) ∧ w'.cell? ⟨b, o + A.length * 8 + 3, none⟩ = some (.int .i64 x.c) ∧ w'.cell? ⟨b, o + A.length * 8 + 4, none⟩ = some (.int .i64 x.a) ∧ w'.cell? ⟨b, o + A.length * 8 + 5, none⟩ = some (.int .i64 x.r) ∧ w'.cell? ⟨b, o + A.length * 8 + 6, none⟩ = some (.int .i64 x.t) ∧ w'.cell? ⟨b, o + A.length * 8 + 7, none⟩ = some (.int .i64 x.y) ∧ w'.cell? ⟨w.heap.size + 1, 0, none⟩ = some (.int .i64 x.s) ∧ w'.cell? ⟨w.heap.size + 1, 1, none⟩ = some (.int .i64 x.n) ∧ w'.cell? ⟨w.heap.size + 1, 2, none⟩ = some (.int .i64 x.b) ∧ w'.cell? ⟨w.heap.size + 1, 3, none⟩ = some (.int .i64 x.c) ∧ w'.cell? ⟨w.heap.size + 1, 4, none⟩ = some (.int .i64 x.a) ∧ w'.cell? ⟨w.heap.size + 1, 5, none⟩ = some (.int .i64 x.r) ∧ w'.cell? ⟨w.heap.size + 1, 6, none⟩ = some (.int .i64 x.t) ∧ w'.cell? ⟨w.heap.size + 1, 7, none⟩ = some (.int .i64 x.y)) (by kernel_rfl) hSQ (fun hS0 => ?_)
    refine wpAnyH_take (i := 0) (v := ?_) rfl (by kernel_rfl) (by kernel_rfl) (by kernel_rfl) (fun _ _ _ h => h) (Or.inl ⟨by kernel_rfl, ?_⟩) (by first | assumption | trivial) ?_
    rotate_left
    · intro w hSw
      try dsimp only at hSw
      first | (go_simp; done) | (go_simp; with_reducible rfl)
    try simp only [Act.put, List.getElem_toArray, List.getElem_cons_succ, List.getElem_cons_zero, List.setIfInBounds_toArray, List.set_cons_zero, List.set_cons_succ]
    refine wpAnyH_take (i := 1) (v := ?_) rfl (by kernel_rfl) (by kernel_rfl) (by kernel_rfl) (fun _ _ _ h => h) (Or.inl ⟨by kernel_rfl, ?_⟩) (by first | assumption | trivial) ?_
    rotate_left
    · intro w hSw
      try dsimp only at hSw
      first | (go_simp; done) | (go_simp; with_reducible rfl)
    try simp only [Act.put, List.getElem_toArray, List.getElem_cons_succ, List.getElem_cons_zero, List.setIfInBounds_toArray, List.set_cons_zero, List.set_cons_succ]
    refine wpAnyH_take (i := 2) (v := ?_) rfl (by kernel_rfl) (by kernel_rfl) (by kernel_rfl) (fun _ _ _ h => h) (Or.inl ⟨by kernel_rfl, ?_⟩) (by first | assumption | trivial) ?_
    rotate_left
    · intro w hSw
      try dsimp only at hSw
      first | (go_simp; done) | (go_simp; with_reducible rfl)
    try simp only [Act.put, List.getElem_toArray, List.getElem_cons_succ, List.getElem_cons_zero, List.setIfInBounds_toArray, List.set_cons_zero, List.set_cons_succ]
    refine wpAnyH_take (i := 3) (v := ?_) rfl (by kernel_rfl) (by kernel_rfl) (by kernel_rfl) (fun _ _ _ h => h) (Or.inl ⟨by kernel_rfl, ?_⟩) (by first | assumption | trivial) ?_
    rotate_left
    · intro w hSw
      try dsimp only at hSw
      first | (go_simp; done) | (go_simp; with_reducible rfl)
    try simp only [Act.put, List.getElem_toArray, List.getElem_cons_succ, List.getElem_cons_zero, List.setIfInBounds_toArray, List.set_cons_zero, List.set_cons_succ]
    refine wpAnyH_take (i := 4) (v := ?_) rfl (by kernel_rfl) (by kernel_rfl) (by kernel_rfl) (fun _ _ _ h => h) (Or.inl ⟨by kernel_rfl, ?_⟩) (by first | assumption | trivial) ?_
    rotate_left
    · intro w hSw
      try dsimp only at hSw
      first | (go_simp; done) | (go_simp; with_reducible rfl)
    try simp only [Act.put, List.getElem_toArray, List.getElem_cons_succ, List.getElem_cons_zero, List.setIfInBounds_toArray, List.set_cons_zero, List.set_cons_succ]
    refine wpAnyH_take (i := 5) (v := ?_) rfl (by kernel_rfl) (by kernel_rfl) (by kernel_rfl) (fun _ _ _ h => h) (Or.inl ⟨by kernel_rfl, ?_⟩) (by first | assumption | trivial) ?_
    rotate_left
    · intro w hSw
      try dsimp only at hSw
      first | (go_simp; done) | (go_simp; with_reducible rfl)
    try simp only [Act.put, List.getElem_toArray, List.getElem_cons_succ, List.getElem_cons_zero, List.setIfInBounds_toArray, List.set_cons_zero, List.set_cons_succ]
    refine wpAnyH_take (i := 6) (v := ?_) rfl (by kernel_rfl) (by kernel_rfl) (by kernel_rfl) (fun _ _ _ h => h) (Or.inl ⟨by kernel_rfl, ?_⟩) (by first | assumption | trivial) ?_
    rotate_left
    · intro w hSw
      try dsimp only at hSw
      first | (go_simp; done) | (go_simp; with_reducible rfl)
    try simp only [Act.put, List.getElem_toArray, List.getElem_cons_succ, List.getElem_cons_zero, List.setIfInBounds_toArray, List.set_cons_zero, List.set_cons_succ]
    refine wpAnyH_take (i := 7) (v := ?_) rfl (by kernel_rfl) (by kernel_rfl) (by kernel_rfl) (fun _ _ _ h => h) (Or.inl ⟨by kernel_rfl, ?_⟩) (by first | assumption | trivial) ?_
    rotate_left
    · intro w hSw
      try dsimp only at hSw
      first | (go_simp; done) | (go_simp; with_reducible rfl)
    try simp only [Act.put, List.getElem_toArray, List.getElem_cons_succ, List.getElem_cons_zero, List.setIfInBounds_toArray, List.set_cons_zero, List.set_cons_succ]
    refine wpAnyH_take (i := 8) (v := ?_) rfl (by kernel_rfl) (by kernel_rfl) (by kernel_rfl) (fun _ _ _ h => h) (Or.inl ⟨by kernel_rfl, ?_⟩) (by first | assumption | trivial) ?_
    rotate_left
    · intro w hSw
      try dsimp only at hSw
      first | (go_simp; done) | (go_simp; with_reducible rfl)
    try simp only [Act.put, List.getElem_toArray, List.getElem_cons_succ, List.getElem_cons_zero, List.setIfInBounds_toArray, List.set_cons_zero, List.set_cons_succ]
    refine wpAnyH_take (i := 9) (v := ?_) rfl (by kernel_rfl) (by kernel_rfl) (by kernel_rfl) (fun _ _ _ h => h) (Or.inl ⟨by kernel_rfl, ?_⟩) (by first | assumption | trivial) ?_
    rotate_left
    · intro w hSw
      try dsimp only at hSw
      first | (go_simp; done) | (go_simp; with_reducible rfl)
    try simp only [Act.put, List.getElem_toArray, List.getElem_cons_succ, List.getElem_cons_zero, List.setIfInBounds_toArray, List.set_cons_zero, List.set_cons_succ]
    refine wpAnyH_done (by kernel_rfl) ?_ _
    clear hSQ hS0
    clear b0 b1 b2 x0 x1 x2 x3 x4 x5 x6 x7 r0 r1 r2 fr0 fr1 fr2 q0 q1 q2 q3 q4 q5 q6 q7
    have HK4 : Hid (Blk w3.drew w.heap.size #[.int .i64 me, .slice (some ⟨b, o, none⟩) ni ci, .slice po no co] 27) := HK3.out
    have HX4 : Hid (Blk w3.drew (w.heap.size + 1) #[.int .i64 x.s, .int .i64 x.n, .int .i64 x.b, .int .i64 x.c, .int .i64 x.a, .int .i64 x.r, .int .i64 x.t, .int .i64 x.y] 64) := HX3.out
    have HR4 : Hid (Blk w3.drew (w.heap.size + 1 + 1) #[.int .i64 0, .slice none 0 0, .slice none 0 0] 27) := HR3.out
    have HB4 : Hid (Below w.heap.size w w3.drew) := HB3.out.drew
    clear HK3 HX3 HR3 HB3
    generalize w3.drew = w4 at *
    have b0 : w4.cell? ⟨w.heap.size, 0, none⟩ = some (.int .i64 me) := HK4.out.cell 0
    have b1 : w4.cell? ⟨w.heap.size, 1, none⟩ = some (.slice (some ⟨b, o, none⟩) ni ci) := HK4.out.cell 1
    have b2 : w4.cell? ⟨w.heap.size, 2, none⟩ = some (.slice po no co) := HK4.out.cell 2
    have x0 : w4.cell? ⟨w.heap.size + 1, 0, none⟩ = some (.int .i64 x.s) := HX4.out.cell 0
    have x1 : w4.cell? ⟨w.heap.size + 1, 1, none⟩ = some (.int .i64 x.n) := HX4.out.cell 1
    have x2 : w4.cell? ⟨w.heap.size + 1, 2, none⟩ = some (.int .i64 x.b) := HX4.out.cell 2
    have x3 : w4.cell? ⟨w.heap.size + 1, 3, none⟩ = some (.int .i64 x.c) := HX4.out.cell 3
    have x4 : w4.cell? ⟨w.heap.size + 1, 4, none⟩ = some (.int .i64 x.a) := HX4.out.cell 4
    have x5 : w4.cell? ⟨w.heap.size + 1, 5, none⟩ = some (.int .i64 x.r) := HX4.out.cell 5
    have x6 : w4.cell? ⟨w.heap.size + 1, 6, none⟩ = some (.int .i64 x.t) := HX4.out.cell 6
    have x7 : w4.cell? ⟨w.heap.size + 1, 7, none⟩ = some (.int .i64 x.y) := HX4.out.cell 7
    have r0 : w4.cell? ⟨w.heap.size + 1 + 1, 0, none⟩ = some (.int .i64 0) := HR4.out.cell 0
    have r1 : w4.cell? ⟨w.heap.size + 1 + 1, 1, none⟩ = some (.slice none 0 0) := HR4.out.cell 1
    have r2 : w4.cell? ⟨w.heap.size + 1 + 1, 2, none⟩ = some (.slice none 0 0) := HR4.out.cell 2
    have fr0 := HR4.out.free 0
    have fr1 := HR4.out.free 1
    have fr2 := HR4.out.free 2
    go_wp2_with fail
    have hf := ((HR4.out.set 0 (.int .i64 me)).set 1 (.slice (some ⟨b, o, none⟩) ni ci)).set 2 (.slice po no co)
    have hB := HB4.out.setCell (p := ⟨w.heap.size + 1 + 1, 0, none⟩) (by show w.heap.size ≤ w.heap.size + 1 + 1; omega) (.int .i64 me) |>.setCell (p := ⟨w.heap.size + 1 + 1, 1, none⟩) (by show w.heap.size ≤ w.heap.size + 1 + 1; omega) (.slice (some ⟨b, o, none⟩) ni ci) |>.setCell (p := ⟨w.heap.size + 1 + 1, 2, none⟩) (by show w.heap.size ≤ w.heap.size + 1 + 1; omega) (.slice po no co)
    refine bodyPost_ret (v := .tuple #[.agg #[.int .i64 me, .slice (some ⟨b, o, none⟩) ni ci, .slice po no co], .int .i64 0]) (by simp [results, Try.results66, go_sem, hf.cell 0, hf.cell 1, hf.cell 2]) rfl ⟨rfl, hB⟩
  · skip
    have e1 : (x.s != me) = true := by simpa using g
    have e2 : (x.b != me) = false := by simpa using g2
    clear g2
    clear g
    have b0 : w2.cell? ⟨w.heap.size, 0, none⟩ = some (.int .i64 me) := HK2.out.cell 0
    have b1 : w2.cell? ⟨w.heap.size, 1, none⟩ = some (.slice (some ⟨b, o, none⟩) ni ci) := HK2.out.cell 1
    have b2 : w2.cell? ⟨w.heap.size, 2, none⟩ = some (.slice po no co) := HK2.out.cell 2
    have x0 : w2.cell? ⟨w.heap.size + 1, 0, none⟩ = some (.int .i64 x.s) := HX2.out.cell 0
    have x1 : w2.cell? ⟨w.heap.size + 1, 1, none⟩ = some (.int .i64 x.n) := HX2.out.cell 1
    have x2 : w2.cell? ⟨w.heap.size + 1, 2, none⟩ = some (.int .i64 x.b) := HX2.out.cell 2
    have x3 : w2.cell? ⟨w.heap.size + 1, 3, none⟩ = some (.int .i64 x.c) := HX2.out.cell 3
    have x4 : w2.cell? ⟨w.heap.size + 1, 4, none⟩ = some (.int .i64 x.a) := HX2.out.cell 4
    have x5 : w2.cell? ⟨w.heap.size + 1, 5, none⟩ = some (.int .i64 x.r) := HX2.out.cell 5
    have x6 : w2.cell? ⟨w.heap.size + 1, 6, none⟩ = some (.int .i64 x.t) := HX2.out.cell 6
    have x7 : w2.cell? ⟨w.heap.size + 1, 7, none⟩ = some (.int .i64 x.y) := HX2.out.cell 7
    have r0 : w2.cell? ⟨w.heap.size + 1 + 1, 0, none⟩ = some (.int .i64 0) := HR2.out.cell 0
    have r1 : w2.cell? ⟨w.heap.size + 1 + 1, 1, none⟩ = some (.slice none 0 0) := HR2.out.cell 1
    have r2 : w2.cell? ⟨w.heap.size + 1 + 1, 2, none⟩ = some (.slice none 0 0) := HR2.out.cell 2
    have fr0 := HR2.out.free 0
    have fr1 := HR2.out.free 1
    have fr2 := HR2.out.free 2
    go_wp2_with fail
    refine (HF.out _ HB2.out).mono ?_
    rintro y w3 ⟨rfl, hb3⟩
    have HK3 := Lib.hid (HK2.out.below hb3 HK2.out.lt)
    have HX3 := Lib.hid (HX2.out.below hb3 HX2.out.lt)
    have HR3 := Lib.hid (HR2.out.below hb3 HR2.out.lt)
    have HB3 := Lib.hid (HB2.out.trans (hb3.mono HB2.out.size))
    clear HF hb3 HK2 HX2 HR2 b0 b1 b2 x0 x1 x2 x3 x4 x5 x6 x7 r0 r1 r2 fr0 fr1 fr2
    have b0 : w3.cell? ⟨w.heap.size, 0, none⟩ = some (.int .i64 me) := HK3.out.cell 0
    have b1 : w3.cell? ⟨w.heap.size, 1, none⟩ = some (.slice (some ⟨b, o, none⟩) ni ci) := HK3.out.cell 1
    have b2 : w3.cell? ⟨w.heap.size, 2, none⟩ = some (.slice po no co) := HK3.out.cell 2
    have x0 : w3.cell? ⟨w.heap.size + 1, 0, none⟩ = some (.int .i64 x.s) := HX3.out.cell 0
    have x1 : w3.cell? ⟨w.heap.size + 1, 1, none⟩ = some (.int .i64 x.n) := HX3.out.cell 1
    have x2 : w3.cell? ⟨w.heap.size + 1, 2, none⟩ = some (.int .i64 x.b) := HX3.out.cell 2
    have x3 : w3.cell? ⟨w.heap.size + 1, 3, none⟩ = some (.int .i64 x.c) := HX3.out.cell 3
    have x4 : w3.cell? ⟨w.heap.size + 1, 4, none⟩ = some (.int .i64 x.a) := HX3.out.cell 4
    have x5 : w3.cell? ⟨w.heap.size + 1, 5, none⟩ = some (.int .i64 x.r) := HX3.out.cell 5
    have x6 : w3.cell? ⟨w.heap.size + 1, 6, none⟩ = some (.int .i64 x.t) := HX3.out.cell 6
    have x7 : w3.cell? ⟨w.heap.size + 1, 7, none⟩ = some (.int .i64 x.y) := HX3.out.cell 7
    have r0 : w3.cell? ⟨w.heap.size + 1 + 1, 0, none⟩ = some (.int .i64 0) := HR3.out.cell 0
    have r1 : w3.cell? ⟨w.heap.size + 1 + 1, 1, none⟩ = some (.slice none 0 0) := HR3.out.cell 1
    have r2 : w3.cell? ⟨w.heap.size + 1 + 1, 2, none⟩ = some (.slice none 0 0) := HR3.out.cell 2
    have fr0 := HR3.out.free 0
    have fr1 := HR3.out.free 1
    have fr2 := HR3.out.free 2
    go_wp2_with fail
    have q0 : w3.drew.cell? ⟨b, o + A.length * 8, none⟩ = some (.int .i64 x.s) := (HB3.out.cell (p := ⟨b, _, none⟩) HQB.out).trans (HQC.out 0 (by decide))
    have q1 : w3.drew.cell? ⟨b, o + A.length * 8 + 1, none⟩ = some (.int .i64 x.n) := (HB3.out.cell (p := ⟨b, _, none⟩) HQB.out).trans (HQC.out 1 (by decide))
    have q2 : w3.drew.cell? ⟨b, o + A.length * 8 + 2, none⟩ = some (.int .i64 x.b) := (HB3.out.cell (p := ⟨b, _, none⟩) HQB.out).trans (HQC.out 2 (by decide))
    have q3 : w3.drew.cell? ⟨b, o + A.length * 8 + 3, none⟩ = some (.int .i64 x.c) := (HB3.out.cell (p := ⟨b, _, none⟩) HQB.out).trans (HQC.out 3 (by decide))
    have q4 : w3.drew.cell? ⟨b, o + A.length * 8 + 4, none⟩ = some (.int .i64 x.a) := (HB3.out.cell (p := ⟨b, _, none⟩) HQB.out).trans (HQC.out 4 (by decide))
    have q5 : w3.drew.cell? ⟨b, o + A.length * 8 + 5, none⟩ = some (.int .i64 x.r) := (HB3.out.cell (p := ⟨b, _, none⟩) HQB.out).trans (HQC.out 5 (by decide))
    have q6 : w3.drew.cell? ⟨b, o + A.length * 8 + 6, none⟩ = some (.int .i64 x.t) := (HB3.out.cell (p := ⟨b, _, none⟩) HQB.out).trans (HQC.out 6 (by decide))
    have q7 : w3.drew.cell? ⟨b, o + A.length * 8 + 7, none⟩ = some (.int .i64 x.y) := (HB3.out.cell (p := ⟨b, _, none⟩) HQB.out).trans (HQC.out 7 (by decide))
    have hSQ : w3.drew.cell? ⟨w.heap.size, 1, none⟩ = some (.slice (some ⟨b, o, none⟩) ni ci) ∧ w3.drew.cell? ⟨b, o + A.length * 8, none⟩ = some (.int .i64 x.s) ∧ w3.drew.cell? ⟨b, o + A.length * 8 + 1, none⟩ = some (.int .i64 x.n) ∧ w3.drew.cell? ⟨b, o + A.length * 8 + 2, none⟩ = some (.int .i64 x.b) ∧ w3.drew.cell? ⟨b, o + A.length * 8 + 3, none⟩ = some (.int .i64 x.c) ∧ w3.drew.cell? ⟨b, o + A.length * 8 + 4, none⟩ = some (.int .i64 x.a) ∧ w3.drew.cell? ⟨b, o + A.length * 8 + 5, none⟩ = some (.int .i64 x.r) ∧ w3.drew.cell? ⟨b, o + A.length * 8 + 6, none⟩ = some (.int .i64 x.t) ∧ w3.drew.cell? ⟨b, o + A.length * 8 + 7, none⟩ = some (.int .i64 x.y) ∧ w3.drew.cell? ⟨w.heap.size + 1, 0, none⟩ = some (.int .i64 x.s) ∧ w3.drew.cell? ⟨w.heap.size + 1, 1, none⟩ = some (.int .i64 x.n) ∧ w3.drew.cell? ⟨w.heap.size + 1, 2, none⟩ = some (.int .i64 x.b) ∧ w3.drew.cell? ⟨w.heap.size + 1, 3, none⟩ = some (.int .i64 x.c) ∧ w3.drew.cell? ⟨w.heap.size + 1, 4, none⟩ = some (.int .i64 x.a) ∧ w3.drew.cell? ⟨w.heap.size + 1, 5, none⟩ = some (.int .i64 x.r) ∧ w3.drew.cell? ⟨w.heap.size + 1, 6, none⟩ = some (.int .i64 x.t) ∧ w3.drew.cell? ⟨w.heap.size + 1, 7, none⟩ = some (.int .i64 x.y) := ⟨b1, q0, q1, q2, q3, q4, q5, q6, q7, x0, x1, x2, x3, x4, x5, x6, x7⟩
    refine wp_region_held_drew (S := fun w' => w'.cell? ⟨w.heap.size, 1, none⟩ = some (.slice (some ⟨b, o, none⟩) ni ci) ∧ w'.cell? ⟨b, o + A.length * 8, none⟩ = some (.int .i64 x.s) ∧ w'.cell? ⟨b, o + A.length * 8 + 1, none⟩ = some (.int .i64 x.n) ∧ w'.cell? ⟨b, o + A.length * 8 + 2, none⟩ = some (.int .i64 x.b) ∧ w'.cell? ⟨b, o + A.length * 8 + 3, none⟩ = some (.int .i64 x.c) ∧ w'.cell? ⟨b, o + A.length * 8 + 4, none⟩ = some (.int .i64 x.a) ∧ w'.cell? ⟨b, o + A.length * 8 + 5, none⟩ = some (.int .i64 x.r) ∧ w'.cell? ⟨b, o + A.length * 8 + 6, none⟩ = some (.int .i64 x.t) ∧ w'.cell? ⟨b, o + A.length * 8 + 7, none⟩ = some (.int .i64 x.y) ∧ w'.cell? ⟨w.heap.size + 1, 0, none⟩ = some (.int .i64 x.s) ∧ w'.cell? ⟨w.heap.size + 1, 1, none⟩ = some (.int .i64 x.n) ∧ w'.cell? ⟨w.heap.size + 1, 2, none⟩ = some (.int .i64 x.b) ∧ w'.cell? ⟨w.heap.size + 1, 3, none⟩ = some (.int .i64 x.c) ∧ w'.cell? ⟨w.heap.size + 1, 4, none⟩ = some (.int .i64 x.a) ∧ w'.cell? ⟨w.heap.size + 1, 5, none⟩ = some (.int .i64 x.r) ∧ w'.cell? ⟨w.heap.size + 1, 6, none⟩ = some (.int .i64 x.t) ∧ w'.cell? ⟨w.heap.size + 1, 7, none⟩ = some (.int .i64 x.y)) (by kernel_rfl) hSQ (fun hS0 => ?_)
    refine wpAnyH_take (i := 0) (v := ?_) rfl (by kernel_rfl) (by kernel_rfl) (by kernel_rfl) (fun _ _ _ h => h) (Or.inl ⟨by kernel_rfl, ?_⟩) (by first | assumption | trivial) ?_
    rotate_left
    · intro w hSw
      try dsimp only at hSw
      first | (go_simp; done) | (go_simp; with_reducible rfl)
    try simp only [Act.put, List.getElem_toArray, List.getElem_cons_succ, List.getElem_cons_zero, List.setIfInBounds_toArray, List.set_cons_zero, List.set_cons_succ]
    refine wpAnyH_take (i := 1) (v := ?_) rfl (by kernel_rfl) (by kernel_rfl) (by kernel_rfl) (fun _ _ _ h => h) (Or.inl ⟨by kernel_rfl, ?_⟩) (by first | assumption | trivial) ?_
    rotate_left
    · intro w hSw
      try dsimp only at hSw
      first | (go_simp; done) | (go_simp; with_reducible rfl)
    try simp only [Act.put, List.getElem_toArray, List.getElem_cons_succ, List.getElem_cons_zero, List.setIfInBounds_toArray, List.set_cons_zero, List.set_cons_succ]
    refine wpAnyH_take (i := 2) (v := ?_) rfl (by kernel_rfl) (by kernel_rfl) (by kernel_rfl) (fun _ _ _ h => h) (Or.inl ⟨by kernel_rfl, ?_⟩) (by first | assumption | trivial) ?_
    rotate_left
    · intro w hSw
      try dsimp only at hSw
      first | (go_simp; done) | (go_simp; with_reducible rfl)
    try simp only [Act.put, List.getElem_toArray, List.getElem_cons_succ, List.getElem_cons_zero, List.setIfInBounds_toArray, List.set_cons_zero, List.set_cons_succ]
    refine wpAnyH_take (i := 3) (v := ?_) rfl (by kernel_rfl) (by kernel_rfl) (by kernel_rfl) (fun _ _ _ h => h) (Or.inl ⟨by kernel_rfl, ?_⟩) (by first | assumption | trivial) ?_
    rotate_left
    · intro w hSw
      try dsimp only at hSw
      first | (go_simp; done) | (go_simp; with_reducible rfl)
    try simp only [Act.put, List.getElem_toArray, List.getElem_cons_succ, List.getElem_cons_zero, List.setIfInBounds_toArray, List.set_cons_zero, List.set_cons_succ]
    refine wpAnyH_take (i := 4) (v := ?_) rfl (by kernel_rfl) (by kernel_rfl) (by kernel_rfl) (fun _ _ _ h => h) (Or.inl ⟨by kernel_rfl, ?_⟩) (by first | assumption | trivial) ?_
    rotate_left
    · intro w hSw
      try dsimp only at hSw
      first | (go_simp; done) | (go_simp; with_reducible rfl)
    try simp only [Act.put, List.getElem_toArray, List.getElem_cons_succ, List.getElem_cons_zero, List.setIfInBounds_toArray, List.set_cons_zero, List.set_cons_succ]
    refine wpAnyH_take (i := 5) (v := ?_) rfl (by kernel_rfl) (by kernel_rfl) (by kernel_rfl) (fun _ _ _ h => h) (Or.inl ⟨by kernel_rfl, ?_⟩) (by first | assumption | trivial) ?_
    rotate_left
    · intro w hSw
      try dsimp only at hSw
      first | (go_simp; done) | (go_simp; with_reducible rfl)
    try simp only [Act.put, List.getElem_toArray, List.getElem_cons_succ, List.getElem_cons_zero, List.setIfInBounds_toArray, List.set_cons_zero, List.set_cons_succ]
    refine wpAnyH_take (i := 6) (v := ?_) rfl (by kernel_rfl) (by kernel_rfl) (by kernel_rfl) (fun _ _ _ h => h) (Or.inl ⟨by kernel_rfl, ?_⟩) (by first | assumption | trivial) ?_
    rotate_left
    · intro w hSw
      try dsimp only at hSw
      first | (go_simp; done) | (go_simp; with_reducible rfl)
    try simp only [Act.put, List.getElem_toArray, List.getElem_cons_succ, List.getElem_cons_zero, List.setIfInBounds_toArray, List.set_cons_zero, List.set_cons_succ]
    refine wpAnyH_take (i := 7) (v := ?_) rfl (by kernel_rfl) (by kernel_rfl) (by kernel_rfl) (fun _ _ _ h => h) (Or.inl ⟨by kernel_rfl, ?_⟩) (by first | assumption | trivial) ?_
    rotate_left
    · intro w hSw
      try dsimp only at hSw
      first | (go_simp; done) | (go_simp; with_reducible rfl)
    try simp only [Act.put, List.getElem_toArray, List.getElem_cons_succ, List.getElem_cons_zero, List.setIfInBounds_toArray, List.set_cons_zero, List.set_cons_succ]
    refine wpAnyH_take (i := 8) (v := ?_) rfl (by kernel_rfl) (by kernel_rfl) (by kernel_rfl) (fun _ _ _ h => h) (Or.inl ⟨by kernel_rfl, ?_⟩) (by first | assumption | trivial) ?_
    rotate_left
    · intro w hSw
      try dsimp only at hSw
      first | (go_simp; done) | (go_simp; with_reducible rfl)
    try simp only [Act.put, List.getElem_toArray, List.getElem_cons_succ, List.getElem_cons_zero, List.setIfInBounds_toArray, List.set_cons_zero, List.set_cons_succ]
    refine wpAnyH_take (i := 9) (v := ?_) rfl (by kernel_rfl) (by kernel_rfl) (by kernel_rfl) (fun _ _ _ h => h) (Or.inl ⟨by kernel_rfl, ?_⟩) (by first | assumption | trivial) ?_
    rotate_left
    · intro w hSw
      try dsimp only at hSw
      first | (go_simp; done) | (go_simp; with_reducible rfl)
    try simp only [Act.put, List.getElem_toArray, List.getElem_cons_succ, List.getElem_cons_zero, List.setIfInBounds_toArray, List.set_cons_zero, List.set_cons_succ]
    refine wpAnyH_done (by kernel_rfl) ?_ _
    clear hSQ hS0
    clear b0 b1 b2 x0 x1 x2 x3 x4 x5 x6 x7 r0 r1 r2 fr0 fr1 fr2 q0 q1 q2 q3 q4 q5 q6 q7
    have HK4 : Hid (Blk w3.drew w.heap.size #[.int .i64 me, .slice (some ⟨b, o, none⟩) ni ci, .slice po no co] 27) := HK3.out
    have HX4 : Hid (Blk w3.drew (w.heap.size + 1) #[.int .i64 x.s, .int .i64 x.n, .int .i64 x.b, .int .i64 x.c, .int .i64 x.a, .int .i64 x.r, .int .i64 x.t, .int .i64 x.y] 64) := HX3.out
    have HR4 : Hid (Blk w3.drew (w.heap.size + 1 + 1) #[.int .i64 0, .slice none 0 0, .slice none 0 0] 27) := HR3.out
    have HB4 : Hid (Below w.heap.size w w3.drew) := HB3.out.drew
    clear HK3 HX3 HR3 HB3
    generalize w3.drew = w4 at *
    have b0 : w4.cell? ⟨w.heap.size, 0, none⟩ = some (.int .i64 me) := HK4.out.cell 0
    have b1 : w4.cell? ⟨w.heap.size, 1, none⟩ = some (.slice (some ⟨b, o, none⟩) ni ci) := HK4.out.cell 1
    have b2 : w4.cell? ⟨w.heap.size, 2, none⟩ = some (.slice po no co) := HK4.out.cell 2
    have x0 : w4.cell? ⟨w.heap.size + 1, 0, none⟩ = some (.int .i64 x.s) := HX4.out.cell 0
    have x1 : w4.cell? ⟨w.heap.size + 1, 1, none⟩ = some (.int .i64 x.n) := HX4.out.cell 1
    have x2 : w4.cell? ⟨w.heap.size + 1, 2, none⟩ = some (.int .i64 x.b) := HX4.out.cell 2
    have x3 : w4.cell? ⟨w.heap.size + 1, 3, none⟩ = some (.int .i64 x.c) := HX4.out.cell 3
    have x4 : w4.cell? ⟨w.heap.size + 1, 4, none⟩ = some (.int .i64 x.a) := HX4.out.cell 4
    have x5 : w4.cell? ⟨w.heap.size + 1, 5, none⟩ = some (.int .i64 x.r) := HX4.out.cell 5
    have x6 : w4.cell? ⟨w.heap.size + 1, 6, none⟩ = some (.int .i64 x.t) := HX4.out.cell 6
    have x7 : w4.cell? ⟨w.heap.size + 1, 7, none⟩ = some (.int .i64 x.y) := HX4.out.cell 7
    have r0 : w4.cell? ⟨w.heap.size + 1 + 1, 0, none⟩ = some (.int .i64 0) := HR4.out.cell 0
    have r1 : w4.cell? ⟨w.heap.size + 1 + 1, 1, none⟩ = some (.slice none 0 0) := HR4.out.cell 1
    have r2 : w4.cell? ⟨w.heap.size + 1 + 1, 2, none⟩ = some (.slice none 0 0) := HR4.out.cell 2
    have fr0 := HR4.out.free 0
    have fr1 := HR4.out.free 1
    have fr2 := HR4.out.free 2
    go_wp2_with fail
    have hf := ((HR4.out.set 0 (.int .i64 me)).set 1 (.slice (some ⟨b, o, none⟩) ni ci)).set 2 (.slice po no co)
    have hB := HB4.out.setCell (p := ⟨w.heap.size + 1 + 1, 0, none⟩) (by show w.heap.size ≤ w.heap.size + 1 + 1; omega) (.int .i64 me) |>.setCell (p := ⟨w.heap.size + 1 + 1, 1, none⟩) (by show w.heap.size ≤ w.heap.size + 1 + 1; omega) (.slice (some ⟨b, o, none⟩) ni ci) |>.setCell (p := ⟨w.heap.size + 1 + 1, 2, none⟩) (by show w.heap.size ≤ w.heap.size + 1 + 1; omega) (.slice po no co)
    refine bodyPost_ret (v := .tuple #[.agg #[.int .i64 me, .slice (some ⟨b, o, none⟩) ni ci, .slice po no co], .int .i64 0]) (by simp [results, Try.results66, go_sem, hf.cell 0, hf.cell 1, hf.cell 2]) rfl ⟨rfl, hB⟩
set_option linter.unusedSimpArgs false in
set_option maxHeartbeats 4000000 in
set_option maxRecDepth 100000 in
theorem put_other2 (w : World) (me : Int) (pi po : Option Addr) (ni ci no co : Nat) (x : Itm) (xs A B : List Itm) (q : Itm) (hr : TRow encI w (.slice pi ni ci) xs) (hl : xs.length = ni) (hA : AroundF posI ⟨x.s, x.n, 0⟩ xs A [q] B) (hn : ni ≤ 1024) (h : chkI x = 0) (h1 : x.s = me ∨ x.b = me) (h3 : q ≠ x) :
    Calls Try.prog 66 #[bookV me (.slice pi ni ci) (.slice po no co), x.v] w fun e w' => ∃ pi' ni' ci', e = .returned (.tuple #[.agg #[.int .i64 me, .slice pi' ni' ci', .slice po no co], .int .i64 0]) ∧ OwnT encI w' w.heap.size 64 (.slice pi' ni' ci') (A ++ [x] ++ B) ∧ Below w.heap.size w w' := by
  have hal : A.length < xs.length := by rw [hA.all]; simp <;> omega
  obtain ⟨b, o, hpv, hbl, hcs⟩ := hr.at_ A.length hal
  subst hpv
  have hq : xs[A.length] = q := by have e := hA.all; subst e; simp
  rw [hq] at hcs
  have hcap4 : ((A.length : Nat) : Int) < (ni : Int) := by omega
  have HQB := Lib.hid hbl
  have HQC := Lib.hid hcs
  clear hal hq hbl hcs
  have HCK := Lib.hid (fun (W : World) => check_any x W)
  rw [h] at HCK
  have HF := Lib.hid (fun (W : World) (hb : Below w.heap.size w W) => findI_any W me (.slice (some ⟨b, o, none⟩) ni ci) (.slice po no co) xs A [q] B x.s x.n (hr.kept hb) hA (by omega))
  rw [show decide (([q] : List Itm) ≠ []) = true by simp] at HF
  unfold idV at HF
  have H1 := Lib.hid h1
  have HW := Lib.hid (fun (W : World) (hb : Below w.heap.size w W) => withI_any W (.slice (some ⟨b, o, none⟩) ni ci) xs A [q] B _ x (hr.kept hb) hA (by omega))
  rw [show decide (([q] : List Itm) ≠ []) = true by simp] at HW
  unfold Itm.v at HW
  have H3 := Lib.hid h3
  clear hr hl hA hn h3
  clear h h1
  unfold Itm.v bookV at *
  go_enter Try.func66, Try.ntmps66
  go_wp2_with fail
  generalize hW1 : ((w.alloc (.cells #[.int .i64 me, .slice (some ⟨b, o, none⟩) ni ci, .slice po no co] 27)).alloc (.cells #[.int .i64 x.s, .int .i64 x.n, .int .i64 x.b, .int .i64 x.c, .int .i64 x.a, .int .i64 x.r, .int .i64 x.t, .int .i64 x.y] 64)).alloc (.cells #[.int .i64 0, .slice none 0 0, .slice none 0 0] 27) = W1
  have HB1 : Hid (Below w.heap.size w W1) := by show Below _ _ _; rw [← hW1]; exact ((oneB w _).alloc (by simp) _).alloc (by simp <;> omega) _
  have HK1 : Hid (Blk W1 w.heap.size #[.int .i64 me, .slice (some ⟨b, o, none⟩) ni ci, .slice po no co] 27) := by show Blk _ _ _ _; rw [← hW1]; exact ((Blk.new w _ _).alloc _).alloc _
  have HX1 : Hid (Blk W1 (w.heap.size + 1) #[.int .i64 x.s, .int .i64 x.n, .int .i64 x.b, .int .i64 x.c, .int .i64 x.a, .int .i64 x.r, .int .i64 x.t, .int .i64 x.y] 64) := by show Blk _ _ _ _; rw [← hW1]; exact (Blk.new' _ _ _ (by simp)).alloc _
  have HR1 : Hid (Blk W1 (w.heap.size + 1 + 1) #[.int .i64 0, .slice none 0 0, .slice none 0 0] 27) := by show Blk _ _ _ _; rw [← hW1]; exact Blk.new' _ _ _ (by simp)
  clear hW1
  refine (HCK.out _).mono ?_
  rintro y w2 ⟨rfl, hb2⟩
  have HK2 := Lib.hid (HK1.out.below hb2 HK1.out.lt)
  have HX2 := Lib.hid (HX1.out.below hb2 HX1.out.lt)
  have HR2 := Lib.hid (HR1.out.below hb2 HR1.out.lt)
  have HB2 := Lib.hid (HB1.out.trans (hb2.mono HB1.out.size))
  clear HCK hb2 HK1 HX1 HR1
  rcases (show x.s = me ∨ (x.s ≠ me ∧ x.b = me) by rcases H1.out with h | h; exact .inl h; by_cases g : x.s = me; exact .inl g; exact .inr ⟨g, h⟩) with g | ⟨g, g2⟩
  · skip
    have e1 : (x.s != me) = false := by simpa using g
    clear g
    have b0 : w2.cell? ⟨w.heap.size, 0, none⟩ = some (.int .i64 me) := HK2.out.cell 0
    have b1 : w2.cell? ⟨w.heap.size, 1, none⟩ = some (.slice (some ⟨b, o, none⟩) ni ci) := HK2.out.cell 1
    have b2 : w2.cell? ⟨w.heap.size, 2, none⟩ = some (.slice po no co) := HK2.out.cell 2
    have x0 : w2.cell? ⟨w.heap.size + 1, 0, none⟩ = some (.int .i64 x.s) := HX2.out.cell 0
    have x1 : w2.cell? ⟨w.heap.size + 1, 1, none⟩ = some (.int .i64 x.n) := HX2.out.cell 1
    have x2 : w2.cell? ⟨w.heap.size + 1, 2, none⟩ = some (.int .i64 x.b) := HX2.out.cell 2
    have x3 : w2.cell? ⟨w.heap.size + 1, 3, none⟩ = some (.int .i64 x.c) := HX2.out.cell 3
    have x4 : w2.cell? ⟨w.heap.size + 1, 4, none⟩ = some (.int .i64 x.a) := HX2.out.cell 4
    have x5 : w2.cell? ⟨w.heap.size + 1, 5, none⟩ = some (.int .i64 x.r) := HX2.out.cell 5
    have x6 : w2.cell? ⟨w.heap.size + 1, 6, none⟩ = some (.int .i64 x.t) := HX2.out.cell 6
    have x7 : w2.cell? ⟨w.heap.size + 1, 7, none⟩ = some (.int .i64 x.y) := HX2.out.cell 7
    have r0 : w2.cell? ⟨w.heap.size + 1 + 1, 0, none⟩ = some (.int .i64 0) := HR2.out.cell 0
    have r1 : w2.cell? ⟨w.heap.size + 1 + 1, 1, none⟩ = some (.slice none 0 0) := HR2.out.cell 1
    have r2 : w2.cell? ⟨w.heap.size + 1 + 1, 2, none⟩ = some (.slice none 0 0) := HR2.out.cell 2
    have fr0 := HR2.out.free 0
    have fr1 := HR2.out.free 1
    have fr2 := HR2.out.free 2
    go_wp2_with fail
    refine (HF.out _ HB2.out).mono ?_
    rintro y w3 ⟨rfl, hb3⟩
    have HK3 := Lib.hid (HK2.out.below hb3 HK2.out.lt)
    have HX3 := Lib.hid (HX2.out.below hb3 HX2.out.lt)
    have HR3 := Lib.hid (HR2.out.below hb3 HR2.out.lt)
    have HB3 := Lib.hid (HB2.out.trans (hb3.mono HB2.out.size))
    clear HF hb3 HK2 HX2 HR2 b0 b1 b2 x0 x1 x2 x3 x4 x5 x6 x7 r0 r1 r2 fr0 fr1 fr2
    have b0 : w3.cell? ⟨w.heap.size, 0, none⟩ = some (.int .i64 me) := HK3.out.cell 0
    have b1 : w3.cell? ⟨w.heap.size, 1, none⟩ = some (.slice (some ⟨b, o, none⟩) ni ci) := HK3.out.cell 1
    have b2 : w3.cell? ⟨w.heap.size, 2, none⟩ = some (.slice po no co) := HK3.out.cell 2
    have x0 : w3.cell? ⟨w.heap.size + 1, 0, none⟩ = some (.int .i64 x.s) := HX3.out.cell 0
    have x1 : w3.cell? ⟨w.heap.size + 1, 1, none⟩ = some (.int .i64 x.n) := HX3.out.cell 1
    have x2 : w3.cell? ⟨w.heap.size + 1, 2, none⟩ = some (.int .i64 x.b) := HX3.out.cell 2
    have x3 : w3.cell? ⟨w.heap.size + 1, 3, none⟩ = some (.int .i64 x.c) := HX3.out.cell 3
    have x4 : w3.cell? ⟨w.heap.size + 1, 4, none⟩ = some (.int .i64 x.a) := HX3.out.cell 4
    have x5 : w3.cell? ⟨w.heap.size + 1, 5, none⟩ = some (.int .i64 x.r) := HX3.out.cell 5
    have x6 : w3.cell? ⟨w.heap.size + 1, 6, none⟩ = some (.int .i64 x.t) := HX3.out.cell 6
    have x7 : w3.cell? ⟨w.heap.size + 1, 7, none⟩ = some (.int .i64 x.y) := HX3.out.cell 7
    have r0 : w3.cell? ⟨w.heap.size + 1 + 1, 0, none⟩ = some (.int .i64 0) := HR3.out.cell 0
    have r1 : w3.cell? ⟨w.heap.size + 1 + 1, 1, none⟩ = some (.slice none 0 0) := HR3.out.cell 1
    have r2 : w3.cell? ⟨w.heap.size + 1 + 1, 2, none⟩ = some (.slice none 0 0) := HR3.out.cell 2
    have fr0 := HR3.out.free 0
    have fr1 := HR3.out.free 1
    have fr2 := HR3.out.free 2
    go_wp2_with fail
    have q0 : w3.drew.cell? ⟨b, o + A.length * 8, none⟩ = some (.int .i64 q.s) := (HB3.out.cell (p := ⟨b, _, none⟩) HQB.out).trans (HQC.out 0 (by decide))
    have q1 : w3.drew.cell? ⟨b, o + A.length * 8 + 1, none⟩ = some (.int .i64 q.n) := (HB3.out.cell (p := ⟨b, _, none⟩) HQB.out).trans (HQC.out 1 (by decide))
    have q2 : w3.drew.cell? ⟨b, o + A.length * 8 + 2, none⟩ = some (.int .i64 q.b) := (HB3.out.cell (p := ⟨b, _, none⟩) HQB.out).trans (HQC.out 2 (by decide))
    have q3 : w3.drew.cell? ⟨b, o + A.length * 8 + 3, none⟩ = some (.int .i64 q.c) := (HB3.out.cell (p := ⟨b, _, none⟩) HQB.out).trans (HQC.out 3 (by decide))
    have q4 : w3.drew.cell? ⟨b, o + A.length * 8 + 4, none⟩ = some (.int .i64 q.a) := (HB3.out.cell (p := ⟨b, _, none⟩) HQB.out).trans (HQC.out 4 (by decide))
    have q5 : w3.drew.cell? ⟨b, o + A.length * 8 + 5, none⟩ = some (.int .i64 q.r) := (HB3.out.cell (p := ⟨b, _, none⟩) HQB.out).trans (HQC.out 5 (by decide))
    have q6 : w3.drew.cell? ⟨b, o + A.length * 8 + 6, none⟩ = some (.int .i64 q.t) := (HB3.out.cell (p := ⟨b, _, none⟩) HQB.out).trans (HQC.out 6 (by decide))
    have q7 : w3.drew.cell? ⟨b, o + A.length * 8 + 7, none⟩ = some (.int .i64 q.y) := (HB3.out.cell (p := ⟨b, _, none⟩) HQB.out).trans (HQC.out 7 (by decide))
    have hSQ : w3.drew.cell? ⟨w.heap.size, 1, none⟩ = some (.slice (some ⟨b, o, none⟩) ni ci) ∧ w3.drew.cell? ⟨b, o + A.length * 8, none⟩ = some (.int .i64 q.s) ∧ w3.drew.cell? ⟨b, o + A.length * 8 + 1, none⟩ = some (.int .i64 q.n) ∧ w3.drew.cell? ⟨b, o + A.length * 8 + 2, none⟩ = some (.int .i64 q.b) ∧ w3.drew.cell? ⟨b, o + A.length * 8 + 3, none⟩ = some (.int .i64 q.c) ∧ w3.drew.cell? ⟨b, o + A.length * 8 + 4, none⟩ = some (.int .i64 q.a) ∧ w3.drew.cell? ⟨b, o + A.length * 8 + 5, none⟩ = some (.int .i64 q.r) ∧ w3.drew.cell? ⟨b, o + A.length * 8 + 6, none⟩ = some (.int .i64 q.t) ∧ w3.drew.cell? ⟨b, o + A.length * 8 + 7, none⟩ = some (.int .i64 q.y) ∧ w3.drew.cell? ⟨w.heap.size + 1, 0, none⟩ = some (.int .i64 x.s) ∧ w3.drew.cell? ⟨w.heap.size + 1, 1, none⟩ = some (.int .i64 x.n) ∧ w3.drew.cell? ⟨w.heap.size + 1, 2, none⟩ = some (.int .i64 x.b) ∧ w3.drew.cell? ⟨w.heap.size + 1, 3, none⟩ = some (.int .i64 x.c) ∧ w3.drew.cell? ⟨w.heap.size + 1, 4, none⟩ = some (.int .i64 x.a) ∧ w3.drew.cell? ⟨w.heap.size + 1, 5, none⟩ = some (.int .i64 x.r) ∧ w3.drew.cell? ⟨w.heap.size + 1, 6, none⟩ = some (.int .i64 x.t) ∧ w3.drew.cell? ⟨w.heap.size + 1, 7, none⟩ = some (.int .i64 x.y) := ⟨b1, q0, q1, q2, q3, q4, q5, q6, q7, x0, x1, x2, x3, x4, x5, x6, x7⟩
    refine wp_region_held_drew (S := fun w' => w'.cell? ⟨w.heap.size, 1, none⟩ = some (.slice (some ⟨b, o, none⟩) ni ci) ∧ w'.cell? ⟨b, o + A.length * 8, none⟩ = some (.int .i64 q.s) ∧ w'.cell? ⟨b, o + A.length * 8 + 1, none⟩ = some (.int .i64 q.n) ∧ w'.cell? ⟨b, o + A.length * 8 + 2, none⟩ = some (.int .i64 q.b) ∧ w'.cell? ⟨b, o + A.length * 8 + 3, none⟩ = some (.int .i64 q.c) ∧ w'.cell? ⟨b, o + A.length * 8 + 4, none⟩ = some (.int .i64 q.a) ∧ w'.cell? ⟨b, o + A.length * 8 + 5, none⟩ = some (.int .i64 q.r) ∧ w'.cell? ⟨b, o + A.length * 8 + 6, none⟩ = some (.int .i64 q.t) ∧ w'.cell? ⟨b, o + A.length * 8 + 7, none⟩ = some (.int .i64 q.y) ∧ w'.cell? ⟨w.heap.size + 1, 0, none⟩ = some (.int .i64 x.s) ∧ w'.cell? ⟨w.heap.size + 1, 1, none⟩ = some (.int .i64 x.n) ∧ w'.cell? ⟨w.heap.size + 1, 2, none⟩ = some (.int .i64 x.b) ∧ w'.cell? ⟨w.heap.size + 1, 3, none⟩ = some (.int .i64 x.c) ∧ w'.cell? ⟨w.heap.size + 1, 4, none⟩ = some (.int .i64 x.a) ∧ w'.cell? ⟨w.heap.size + 1, 5, none⟩ = some (.int .i64 x.r) ∧ w'.cell? ⟨w.heap.size + 1, 6, none⟩ = some (.int .i64 x.t) ∧ w'.cell? ⟨w.heap.size + 1, 7, none⟩ = some (.int .i64 x.y)) (by kernel_rfl) hSQ (fun hS0 => ?_)
    refine wpAnyH_take (i := 0) (v := ?_) rfl (by kernel_rfl) (by kernel_rfl) (by kernel_rfl) (fun _ _ _ h => h) (Or.inl ⟨by kernel_rfl, ?_⟩) (by first | assumption | trivial) ?_
    rotate_left
    · intro w hSw
      try dsimp only at hSw
      first | (go_simp; done) | (go_simp; with_reducible rfl)
    try simp only [Act.put, List.getElem_toArray, List.getElem_cons_succ, List.getElem_cons_zero, List.setIfInBounds_toArray, List.set_cons_zero, List.set_cons_succ]
    refine wpAnyH_take (i := 1) (v := ?_) rfl (by kernel_rfl) (by kernel_rfl) (by kernel_rfl) (fun _ _ _ h => h) (Or.inl ⟨by kernel_rfl, ?_⟩) (by first | assumption | trivial) ?_
    rotate_left
    · intro w hSw
      try dsimp only at hSw
      first | (go_simp; done) | (go_simp; with_reducible rfl)
    try simp only [Act.put, List.getElem_toArray, List.getElem_cons_succ, List.getElem_cons_zero, List.setIfInBounds_toArray, List.set_cons_zero, List.set_cons_succ]
    refine wpAnyH_take (i := 2) (v := ?_) rfl (by kernel_rfl) (by kernel_rfl) (by kernel_rfl) (fun _ _ _ h => h) (Or.inl ⟨by kernel_rfl, ?_⟩) (by first | assumption | trivial) ?_
    rotate_left
    · intro w hSw
      try dsimp only at hSw
      first | (go_simp; done) | (go_simp; with_reducible rfl)
    try simp only [Act.put, List.getElem_toArray, List.getElem_cons_succ, List.getElem_cons_zero, List.setIfInBounds_toArray, List.set_cons_zero, List.set_cons_succ]
    refine wpAnyH_take (i := 3) (v := ?_) rfl (by kernel_rfl) (by kernel_rfl) (by kernel_rfl) (fun _ _ _ h => h) (Or.inl ⟨by kernel_rfl, ?_⟩) (by first | assumption | trivial) ?_
    rotate_left
    · intro w hSw
      try dsimp only at hSw
      first | (go_simp; done) | (go_simp; with_reducible rfl)
    try simp only [Act.put, List.getElem_toArray, List.getElem_cons_succ, List.getElem_cons_zero, List.setIfInBounds_toArray, List.set_cons_zero, List.set_cons_succ]
    refine wpAnyH_take (i := 4) (v := ?_) rfl (by kernel_rfl) (by kernel_rfl) (by kernel_rfl) (fun _ _ _ h => h) (Or.inl ⟨by kernel_rfl, ?_⟩) (by first | assumption | trivial) ?_
    rotate_left
    · intro w hSw
      try dsimp only at hSw
      first | (go_simp; done) | (go_simp; with_reducible rfl)
    try simp only [Act.put, List.getElem_toArray, List.getElem_cons_succ, List.getElem_cons_zero, List.setIfInBounds_toArray, List.set_cons_zero, List.set_cons_succ]
    refine wpAnyH_take (i := 5) (v := ?_) rfl (by kernel_rfl) (by kernel_rfl) (by kernel_rfl) (fun _ _ _ h => h) (Or.inl ⟨by kernel_rfl, ?_⟩) (by first | assumption | trivial) ?_
    rotate_left
    · intro w hSw
      try dsimp only at hSw
      first | (go_simp; done) | (go_simp; with_reducible rfl)
    try simp only [Act.put, List.getElem_toArray, List.getElem_cons_succ, List.getElem_cons_zero, List.setIfInBounds_toArray, List.set_cons_zero, List.set_cons_succ]
    refine wpAnyH_take (i := 6) (v := ?_) rfl (by kernel_rfl) (by kernel_rfl) (by kernel_rfl) (fun _ _ _ h => h) (Or.inl ⟨by kernel_rfl, ?_⟩) (by first | assumption | trivial) ?_
    rotate_left
    · intro w hSw
      try dsimp only at hSw
      first | (go_simp; done) | (go_simp; with_reducible rfl)
    try simp only [Act.put, List.getElem_toArray, List.getElem_cons_succ, List.getElem_cons_zero, List.setIfInBounds_toArray, List.set_cons_zero, List.set_cons_succ]
    refine wpAnyH_take (i := 7) (v := ?_) rfl (by kernel_rfl) (by kernel_rfl) (by kernel_rfl) (fun _ _ _ h => h) (Or.inl ⟨by kernel_rfl, ?_⟩) (by first | assumption | trivial) ?_
    rotate_left
    · intro w hSw
      try dsimp only at hSw
      first | (go_simp; done) | (go_simp; with_reducible rfl)
    try simp only [Act.put, List.getElem_toArray, List.getElem_cons_succ, List.getElem_cons_zero, List.setIfInBounds_toArray, List.set_cons_zero, List.set_cons_succ]
    refine wpAnyH_take (i := 8) (v := .bool false) rfl (by kernel_rfl) (by kernel_rfl) (by kernel_rfl) (fun _ _ _ h => h) (Or.inl ⟨by kernel_rfl, ?_⟩) (by first | assumption | trivial) ?_
    · intro w hSw
      try dsimp only at hSw
      go_simp
      exact ne8 H3.out
    try simp only [Act.put, List.getElem_toArray, List.getElem_cons_succ, List.getElem_cons_zero, List.setIfInBounds_toArray, List.set_cons_zero, List.set_cons_succ]
    refine wpAnyH_take (i := 9) (v := ?_) rfl (by kernel_rfl) (by kernel_rfl) (by kernel_rfl) (fun _ _ _ h => h) (Or.inl ⟨by kernel_rfl, ?_⟩) (by first | assumption | trivial) ?_
    rotate_left
    · intro w hSw
      try dsimp only at hSw
      first | (go_simp; done) | (go_simp; with_reducible rfl)
    try simp only [Act.put, List.getElem_toArray, List.getElem_cons_succ, List.getElem_cons_zero, List.setIfInBounds_toArray, List.set_cons_zero, List.set_cons_succ]
    refine wpAnyH_done (by kernel_rfl) ?_ _
    clear hSQ hS0
    clear q0 q1 q2 q3 q4 q5 q6 q7
    clear b0 b1 b2 x0 x1 x2 x3 x4 x5 x6 x7 r0 r1 r2 fr0 fr1 fr2
    have b0 : w3.drew.cell? ⟨w.heap.size, 0, none⟩ = some (.int .i64 me) := HK3.out.cell 0
    have b1 : w3.drew.cell? ⟨w.heap.size, 1, none⟩ = some (.slice (some ⟨b, o, none⟩) ni ci) := HK3.out.cell 1
    have b2 : w3.drew.cell? ⟨w.heap.size, 2, none⟩ = some (.slice po no co) := HK3.out.cell 2
    have x0 : w3.drew.cell? ⟨w.heap.size + 1, 0, none⟩ = some (.int .i64 x.s) := HX3.out.cell 0
    have x1 : w3.drew.cell? ⟨w.heap.size + 1, 1, none⟩ = some (.int .i64 x.n) := HX3.out.cell 1
    have x2 : w3.drew.cell? ⟨w.heap.size + 1, 2, none⟩ = some (.int .i64 x.b) := HX3.out.cell 2
    have x3 : w3.drew.cell? ⟨w.heap.size + 1, 3, none⟩ = some (.int .i64 x.c) := HX3.out.cell 3
    have x4 : w3.drew.cell? ⟨w.heap.size + 1, 4, none⟩ = some (.int .i64 x.a) := HX3.out.cell 4
    have x5 : w3.drew.cell? ⟨w.heap.size + 1, 5, none⟩ = some (.int .i64 x.r) := HX3.out.cell 5
    have x6 : w3.drew.cell? ⟨w.heap.size + 1, 6, none⟩ = some (.int .i64 x.t) := HX3.out.cell 6
    have x7 : w3.drew.cell? ⟨w.heap.size + 1, 7, none⟩ = some (.int .i64 x.y) := HX3.out.cell 7
    have r0 : w3.drew.cell? ⟨w.heap.size + 1 + 1, 0, none⟩ = some (.int .i64 0) := HR3.out.cell 0
    have r1 : w3.drew.cell? ⟨w.heap.size + 1 + 1, 1, none⟩ = some (.slice none 0 0) := HR3.out.cell 1
    have r2 : w3.drew.cell? ⟨w.heap.size + 1 + 1, 2, none⟩ = some (.slice none 0 0) := HR3.out.cell 2
    have fr0 := HR3.out.free 0
    have fr1 := HR3.out.free 1
    have fr2 := HR3.out.free 2
    go_wp2_with fail
    refine (HW.out w3.drew HB3.out.drew).mono ?_
    rintro y w4 ⟨v4, rfl, ho4, hb4⟩
    obtain ⟨p4, c4, hv4⟩ := ho4.form
    generalize hn4 : (A ++ [x] ++ B).length = n4 at hv4
    subst hv4
    have hb4 : Below w3.heap.size w3 w4 := (Below.refl _ _).drew.trans hb4
    have HK4 := Lib.hid (HK3.out.below hb4 HK3.out.lt)
    have HX4 := Lib.hid (HX3.out.below hb4 HX3.out.lt)
    have HR4 := Lib.hid (HR3.out.below hb4 HR3.out.lt)
    have HB4 := Lib.hid (HB3.out.trans (hb4.mono HB3.out.size))
    have HO4 := Lib.hid (ho4.less (show w.heap.size ≤ w3.drew.heap.size from HB3.out.size))
    have HLT := Lib.hid ho4.block_ge
    have HSZ := Lib.hid (show w.heap.size + 1 + 1 < w3.drew.heap.size from HR3.out.lt)
    clear HW hb4 ho4 HK3 HX3 HR3 hn4 b0 b1 b2 x0 x1 x2 x3 x4 x5 x6 x7 r0 r1 r2 fr0 fr1 fr2
    have b0 : w4.cell? ⟨w.heap.size, 0, none⟩ = some (.int .i64 me) := HK4.out.cell 0
    have b1 : w4.cell? ⟨w.heap.size, 1, none⟩ = some (.slice (some ⟨b, o, none⟩) ni ci) := HK4.out.cell 1
    have b2 : w4.cell? ⟨w.heap.size, 2, none⟩ = some (.slice po no co) := HK4.out.cell 2
    have x0 : w4.cell? ⟨w.heap.size + 1, 0, none⟩ = some (.int .i64 x.s) := HX4.out.cell 0
    have x1 : w4.cell? ⟨w.heap.size + 1, 1, none⟩ = some (.int .i64 x.n) := HX4.out.cell 1
    have x2 : w4.cell? ⟨w.heap.size + 1, 2, none⟩ = some (.int .i64 x.b) := HX4.out.cell 2
    have x3 : w4.cell? ⟨w.heap.size + 1, 3, none⟩ = some (.int .i64 x.c) := HX4.out.cell 3
    have x4 : w4.cell? ⟨w.heap.size + 1, 4, none⟩ = some (.int .i64 x.a) := HX4.out.cell 4
    have x5 : w4.cell? ⟨w.heap.size + 1, 5, none⟩ = some (.int .i64 x.r) := HX4.out.cell 5
    have x6 : w4.cell? ⟨w.heap.size + 1, 6, none⟩ = some (.int .i64 x.t) := HX4.out.cell 6
    have x7 : w4.cell? ⟨w.heap.size + 1, 7, none⟩ = some (.int .i64 x.y) := HX4.out.cell 7
    have r0 : w4.cell? ⟨w.heap.size + 1 + 1, 0, none⟩ = some (.int .i64 0) := HR4.out.cell 0
    have r1 : w4.cell? ⟨w.heap.size + 1 + 1, 1, none⟩ = some (.slice none 0 0) := HR4.out.cell 1
    have r2 : w4.cell? ⟨w.heap.size + 1 + 1, 2, none⟩ = some (.slice none 0 0) := HR4.out.cell 2
    have fr0 := HR4.out.free 0
    have fr1 := HR4.out.free 1
    have fr2 := HR4.out.free 2
    have fb1 := HK4.out.free 1
    go_wp2_with fail
    have hK5 := HK4.out.set 1 (.slice p4 n4 c4)
    have hR5 := HR4.out.setOther (a := ⟨w.heap.size, 1, none⟩) (by show w.heap.size ≠ w.heap.size + 1 + 1; omega) (.slice p4 n4 c4)
    have hf := ((hR5.set 0 (.int .i64 me)).set 1 (.slice p4 n4 c4)).set 2 (.slice po no co)
    have hB := HB4.out.setCell (p := ⟨w.heap.size, 1, none⟩) (Nat.le_refl _) (.slice p4 n4 c4) |>.setCell (p := ⟨w.heap.size + 1 + 1, 0, none⟩) (by show w.heap.size ≤ w.heap.size + 1 + 1; omega) (.int .i64 me) |>.setCell (p := ⟨w.heap.size + 1 + 1, 1, none⟩) (by show w.heap.size ≤ w.heap.size + 1 + 1; omega) (.slice p4 n4 c4) |>.setCell (p := ⟨w.heap.size + 1 + 1, 2, none⟩) (by show w.heap.size ≤ w.heap.size + 1 + 1; omega) (.slice po no co)
    have hO : OwnT encI (World.setCell (World.setCell (World.setCell (World.setCell w4 ⟨w.heap.size, 1, none⟩ (.slice p4 n4 c4)) ⟨w.heap.size + 1 + 1, 0, none⟩ (.int .i64 me)) ⟨w.heap.size + 1 + 1, 1, none⟩ (.slice p4 n4 c4)) ⟨w.heap.size + 1 + 1, 2, none⟩ (.slice po no co)) w.heap.size 64 (.slice p4 n4 c4) (A ++ [x] ++ B) := by
      refine HO4.out.stay (fun g hg => ?_)
      have hge := HLT.out g hg
      have hsz : w.heap.size + 1 + 1 < w3.drew.heap.size := HSZ.out
      rw [Below.heap_setCell _ _ _ g (by show g ≠ w.heap.size + 1 + 1; omega), Below.heap_setCell _ _ _ g (by show g ≠ w.heap.size + 1 + 1; omega), Below.heap_setCell _ _ _ g (by show g ≠ w.heap.size + 1 + 1; omega), Below.heap_setCell _ _ _ g (by show g ≠ w.heap.size; omega)]
    refine bodyPost_ret (v := .tuple #[.agg #[.int .i64 me, .slice p4 n4 c4, .slice po no co], .int .i64 0]) (by simp [results, Try.results66, go_sem, hf.cell 0, hf.cell 1, hf.cell 2]) rfl ⟨_, _, _, rfl, hO, hB⟩
  · skip
    have e1 : (x.s != me) = true := by simpa using g
    have e2 : (x.b != me) = false := by simpa using g2
    clear g2
    clear g
    have b0 : w2.cell? ⟨w.heap.size, 0, none⟩ = some (.int .i64 me) := HK2.out.cell 0
    have b1 : w2.cell? ⟨w.heap.size, 1, none⟩ = some (.slice (some ⟨b, o, none⟩) ni ci) := HK2.out.cell 1
    have b2 : w2.cell? ⟨w.heap.size, 2, none⟩ = some (.slice po no co) := HK2.out.cell 2
    have x0 : w2.cell? ⟨w.heap.size + 1, 0, none⟩ = some (.int .i64 x.s) := HX2.out.cell 0
    have x1 : w2.cell? ⟨w.heap.size + 1, 1, none⟩ = some (.int .i64 x.n) := HX2.out.cell 1
    have x2 : w2.cell? ⟨w.heap.size + 1, 2, none⟩ = some (.int .i64 x.b) := HX2.out.cell 2
    have x3 : w2.cell? ⟨w.heap.size + 1, 3, none⟩ = some (.int .i64 x.c) := HX2.out.cell 3
    have x4 : w2.cell? ⟨w.heap.size + 1, 4, none⟩ = some (.int .i64 x.a) := HX2.out.cell 4
    have x5 : w2.cell? ⟨w.heap.size + 1, 5, none⟩ = some (.int .i64 x.r) := HX2.out.cell 5
    have x6 : w2.cell? ⟨w.heap.size + 1, 6, none⟩ = some (.int .i64 x.t) := HX2.out.cell 6
    have x7 : w2.cell? ⟨w.heap.size + 1, 7, none⟩ = some (.int .i64 x.y) := HX2.out.cell 7
    have r0 : w2.cell? ⟨w.heap.size + 1 + 1, 0, none⟩ = some (.int .i64 0) := HR2.out.cell 0
    have r1 : w2.cell? ⟨w.heap.size + 1 + 1, 1, none⟩ = some (.slice none 0 0) := HR2.out.cell 1
    have r2 : w2.cell? ⟨w.heap.size + 1 + 1, 2, none⟩ = some (.slice none 0 0) := HR2.out.cell 2
    have fr0 := HR2.out.free 0
    have fr1 := HR2.out.free 1
    have fr2 := HR2.out.free 2
    go_wp2_with fail
    refine (HF.out _ HB2.out).mono ?_
    rintro y w3 ⟨rfl, hb3⟩
    have HK3 := Lib.hid (HK2.out.below hb3 HK2.out.lt)
    have HX3 := Lib.hid (HX2.out.below hb3 HX2.out.lt)
    have HR3 := Lib.hid (HR2.out.below hb3 HR2.out.lt)
    have HB3 := Lib.hid (HB2.out.trans (hb3.mono HB2.out.size))
    clear HF hb3 HK2 HX2 HR2 b0 b1 b2 x0 x1 x2 x3 x4 x5 x6 x7 r0 r1 r2 fr0 fr1 fr2
    have b0 : w3.cell? ⟨w.heap.size, 0, none⟩ = some (.int .i64 me) := HK3.out.cell 0
    have b1 : w3.cell? ⟨w.heap.size, 1, none⟩ = some (.slice (some ⟨b, o, none⟩) ni ci) := HK3.out.cell 1
    have b2 : w3.cell? ⟨w.heap.size, 2, none⟩ = some (.slice po no co) := HK3.out.cell 2
    have x0 : w3.cell? ⟨w.heap.size + 1, 0, none⟩ = some (.int .i64 x.s) := HX3.out.cell 0
    have x1 : w3.cell? ⟨w.heap.size + 1, 1, none⟩ = some (.int .i64 x.n) := HX3.out.cell 1
    have x2 : w3.cell? ⟨w.heap.size + 1, 2, none⟩ = some (.int .i64 x.b) := HX3.out.cell 2
    have x3 : w3.cell? ⟨w.heap.size + 1, 3, none⟩ = some (.int .i64 x.c) := HX3.out.cell 3
    have x4 : w3.cell? ⟨w.heap.size + 1, 4, none⟩ = some (.int .i64 x.a) := HX3.out.cell 4
    have x5 : w3.cell? ⟨w.heap.size + 1, 5, none⟩ = some (.int .i64 x.r) := HX3.out.cell 5
    have x6 : w3.cell? ⟨w.heap.size + 1, 6, none⟩ = some (.int .i64 x.t) := HX3.out.cell 6
    have x7 : w3.cell? ⟨w.heap.size + 1, 7, none⟩ = some (.int .i64 x.y) := HX3.out.cell 7
    have r0 : w3.cell? ⟨w.heap.size + 1 + 1, 0, none⟩ = some (.int .i64 0) := HR3.out.cell 0
    have r1 : w3.cell? ⟨w.heap.size + 1 + 1, 1, none⟩ = some (.slice none 0 0) := HR3.out.cell 1
    have r2 : w3.cell? ⟨w.heap.size + 1 + 1, 2, none⟩ = some (.slice none 0 0) := HR3.out.cell 2
    have fr0 := HR3.out.free 0
    have fr1 := HR3.out.free 1
    have fr2 := HR3.out.free 2
    go_wp2_with fail
    have q0 : w3.drew.cell? ⟨b, o + A.length * 8, none⟩ = some (.int .i64 q.s) := (HB3.out.cell (p := ⟨b, _, none⟩) HQB.out).trans (HQC.out 0 (by decide))
    have q1 : w3.drew.cell? ⟨b, o + A.length * 8 + 1, none⟩ = some (.int .i64 q.n) := (HB3.out.cell (p := ⟨b, _, none⟩) HQB.out).trans (HQC.out 1 (by decide))
    have q2 : w3.drew.cell? ⟨b, o + A.length * 8 + 2, none⟩ = some (.int .i64 q.b) := (HB3.out.cell (p := ⟨b, _, none⟩) HQB.out).trans (HQC.out 2 (by decide))
    have q3 : w3.drew.cell? ⟨b, o + A.length * 8 + 3, none⟩ = some (.int .i64 q.c) := (HB3.out.cell (p := ⟨b, _, none⟩) HQB.out).trans (HQC.out 3 (by decide))
    have q4 : w3.drew.cell? ⟨b, o + A.length * 8 + 4, none⟩ = some (.int .i64 q.a) := (HB3.out.cell (p := ⟨b, _, none⟩) HQB.out).trans (HQC.out 4 (by decide))
    have q5 : w3.drew.cell? ⟨b, o + A.length * 8 + 5, none⟩ = some (.int .i64 q.r) := (HB3.out.cell (p := ⟨b, _, none⟩) HQB.out).trans (HQC.out 5 (by decide))
    have q6 : w3.drew.cell? ⟨b, o + A.length * 8 + 6, none⟩ = some (.int .i64 q.t) := (HB3.out.cell (p := ⟨b, _, none⟩) HQB.out).trans (HQC.out 6 (by decide))
    have q7 : w3.drew.cell? ⟨b, o + A.length * 8 + 7, none⟩ = some (.int .i64 q.y) := (HB3.out.cell (p := ⟨b, _, none⟩) HQB.out).trans (HQC.out 7 (by decide))
    have hSQ : w3.drew.cell? ⟨w.heap.size, 1, none⟩ = some (.slice (some ⟨b, o, none⟩) ni ci) ∧ w3.drew.cell? ⟨b, o + A.length * 8, none⟩ = some (.int .i64 q.s) ∧ w3.drew.cell? ⟨b, o + A.length * 8 + 1, none⟩ = some (.int .i64 q.n) ∧ w3.drew.cell? ⟨b, o + A.length * 8 + 2, none⟩ = some (.int .i64 q.b) ∧ w3.drew.cell? ⟨b, o + A.length * 8 + 3, none⟩ = some (.int .i64 q.c) ∧ w3.drew.cell? ⟨b, o + A.length * 8 + 4, none⟩ = some (.int .i64 q.a) ∧ w3.drew.cell? ⟨b, o + A.length * 8 + 5, none⟩ = some (.int .i64 q.r) ∧ w3.drew.cell? ⟨b, o + A.length * 8 + 6, none⟩ = some (.int .i64 q.t) ∧ w3.drew.cell? ⟨b, o + A.length * 8 + 7, none⟩ = some (.int .i64 q.y) ∧ w3.drew.cell? ⟨w.heap.size + 1, 0, none⟩ = some (.int .i64 x.s) ∧ w3.drew.cell? ⟨w.heap.size + 1, 1, none⟩ = some (.int .i64 x.n) ∧ w3.drew.cell? ⟨w.heap.size + 1, 2, none⟩ = some (.int .i64 x.b) ∧ w3.drew.cell? ⟨w.heap.size + 1, 3, none⟩ = some (.int .i64 x.c) ∧ w3.drew.cell? ⟨w.heap.size + 1, 4, none⟩ = some (.int .i64 x.a) ∧ w3.drew.cell? ⟨w.heap.size + 1, 5, none⟩ = some (.int .i64 x.r) ∧ w3.drew.cell? ⟨w.heap.size + 1, 6, none⟩ = some (.int .i64 x.t) ∧ w3.drew.cell? ⟨w.heap.size + 1, 7, none⟩ = some (.int .i64 x.y) := ⟨b1, q0, q1, q2, q3, q4, q5, q6, q7, x0, x1, x2, x3, x4, x5, x6, x7⟩
    refine wp_region_held_drew (S := fun w' => w'.cell? ⟨w.heap.size, 1, none⟩ = some (.slice (some ⟨b, o, none⟩) ni ci) ∧ w'.cell? ⟨b, o + A.length * 8, none⟩ = some (.int .i64 q.s) ∧ w'.cell? ⟨b, o + A.length * 8 + 1, none⟩ = some (.int .i64 q.n) ∧ w'.cell? ⟨b, o + A.length * 8 + 2, none⟩ = some (.int .i64 q.b) ∧ w'.cell? ⟨b, o + A.length * 8 + 3, none⟩ = some (.int .i64 q.c) ∧ w'.cell? ⟨b, o + A.length * 8 + 4, none⟩ = some (.int .i64 q.a) ∧ w'.cell? ⟨b, o + A.length * 8 + 5, none⟩ = some (.int .i64 q.r) ∧ w'.cell? ⟨b, o + A.length * 8 + 6, none⟩ = some (.int .i64 q.t) ∧ w'.cell? ⟨b, o + A.length * 8 + 7, none⟩ = some (.int .i64 q.y) ∧ w'.cell? ⟨w.heap.size + 1, 0, none⟩ = some (.int .i64 x.s) ∧ w'.cell? ⟨w.heap.size + 1, 1, none⟩ = some (.int .i64 x.n) ∧ w'.cell? ⟨w.heap.size + 1, 2, none⟩ = some (.int .i64 x.b) ∧ w'.cell? ⟨w.heap.size + 1, 3, none⟩ = some (.int .i64 x.c) ∧ w'.cell? ⟨w.heap.size + 1, 4, none⟩ = some (.int .i64 x.a) ∧ w'.cell? ⟨w.heap.size + 1, 5, none⟩ = some (.int .i64 x.r) ∧ w'.cell? ⟨w.heap.size + 1, 6, none⟩ = some (.int .i64 x.t) ∧ w'.cell? ⟨w.heap.size + 1, 7, none⟩ = some (.int .i64 x.y)) (by kernel_rfl) hSQ (fun hS0 => ?_)
    refine wpAnyH_take (i := 0) (v := ?_) rfl (by kernel_rfl) (by kernel_rfl) (by kernel_rfl) (fun _ _ _ h => h) (Or.inl ⟨by kernel_rfl, ?_⟩) (by first | assumption | trivial) ?_
    rotate_left
    · intro w hSw
      try dsimp only at hSw
      first | (go_simp; done) | (go_simp; with_reducible rfl)
    try simp only [Act.put, List.getElem_toArray, List.getElem_cons_succ, List.getElem_cons_zero, List.setIfInBounds_toArray, List.set_cons_zero, List.set_cons_succ]
    refine wpAnyH_take (i := 1) (v := ?_) rfl (by kernel_rfl) (by kernel_rfl) (by kernel_rfl) (fun _ _ _ h => h) (Or.inl ⟨by kernel_rfl, ?_⟩) (by first | assumption | trivial) ?_
    rotate_left
    · intro w hSw
      try dsimp only at hSw
      first | (go_simp; done) | (go_simp; with_reducible rfl)
    try simp only [Act.put, List.getElem_toArray, List.getElem_cons_succ, List.getElem_cons_zero, List.setIfInBounds_toArray, List.set_cons_zero, List.set_cons_succ]
    refine wpAnyH_take (i := 2) (v := ?_) rfl (by kernel_rfl) (by kernel_rfl) (by kernel_rfl) (fun _ _ _ h => h) (Or.inl ⟨by kernel_rfl, ?_⟩) (by first | assumption | trivial) ?_
    rotate_left
    · intro w hSw
      try dsimp only at hSw
      first | (go_simp; done) | (go_simp; with_reducible rfl)
    try simp only [Act.put, List.getElem_toArray, List.getElem_cons_succ, List.getElem_cons_zero, List.setIfInBounds_toArray, List.set_cons_zero, List.set_cons_succ]
    refine wpAnyH_take (i := 3) (v := ?_) rfl (by kernel_rfl) (by kernel_rfl) (by kernel_rfl) (fun _ _ _ h => h) (Or.inl ⟨by kernel_rfl, ?_⟩) (by first | assumption | trivial) ?_
    rotate_left
    · intro w hSw
      try dsimp only at hSw
      first | (go_simp; done) | (go_simp; with_reducible rfl)
    try simp only [Act.put, List.getElem_toArray, List.getElem_cons_succ, List.getElem_cons_zero, List.setIfInBounds_toArray, List.set_cons_zero, List.set_cons_succ]
    refine wpAnyH_take (i := 4) (v := ?_) rfl (by kernel_rfl) (by kernel_rfl) (by kernel_rfl) (fun _ _ _ h => h) (Or.inl ⟨by kernel_rfl, ?_⟩) (by first | assumption | trivial) ?_
    rotate_left
    · intro w hSw
      try dsimp only at hSw
      first | (go_simp; done) | (go_simp; with_reducible rfl)
    try simp only [Act.put, List.getElem_toArray, List.getElem_cons_succ, List.getElem_cons_zero, List.setIfInBounds_toArray, List.set_cons_zero, List.set_cons_succ]
    refine wpAnyH_take (i := 5) (v := ?_) rfl (by kernel_rfl) (by kernel_rfl) (by kernel_rfl) (fun _ _ _ h => h) (Or.inl ⟨by kernel_rfl, ?_⟩) (by first | assumption | trivial) ?_
    rotate_left
    · intro w hSw
      try dsimp only at hSw
      first | (go_simp; done) | (go_simp; with_reducible rfl)
    try simp only [Act.put, List.getElem_toArray, List.getElem_cons_succ, List.getElem_cons_zero, List.setIfInBounds_toArray, List.set_cons_zero, List.set_cons_succ]
    refine wpAnyH_take (i := 6) (v := ?_) rfl (by kernel_rfl) (by kernel_rfl) (by kernel_rfl) (fun _ _ _ h => h) (Or.inl ⟨by kernel_rfl, ?_⟩) (by first | assumption | trivial) ?_
    rotate_left
    · intro w hSw
      try dsimp only at hSw
      first | (go_simp; done) | (go_simp; with_reducible rfl)
    try simp only [Act.put, List.getElem_toArray, List.getElem_cons_succ, List.getElem_cons_zero, List.setIfInBounds_toArray, List.set_cons_zero, List.set_cons_succ]
    refine wpAnyH_take (i := 7) (v := ?_) rfl (by kernel_rfl) (by kernel_rfl) (by kernel_rfl) (fun _ _ _ h => h) (Or.inl ⟨by kernel_rfl, ?_⟩) (by first | assumption | trivial) ?_
    rotate_left
    · intro w hSw
      try dsimp only at hSw
      first | (go_simp; done) | (go_simp; with_reducible rfl)
    try simp only [Act.put, List.getElem_toArray, List.getElem_cons_succ, List.getElem_cons_zero, List.setIfInBounds_toArray, List.set_cons_zero, List.set_cons_succ]
    refine wpAnyH_take (i := 8) (v := .bool false) rfl (by kernel_rfl) (by kernel_rfl) (by kernel_rfl) (fun _ _ _ h => h) (Or.inl ⟨by kernel_rfl, ?_⟩) (by first | assumption | trivial) ?_
    · intro w hSw
      try dsimp only at hSw
      go_simp
      exact ne8 H3.out
    try simp only [Act.put, List.getElem_toArray, List.getElem_cons_succ, List.getElem_cons_zero, List.setIfInBounds_toArray, List.set_cons_zero, List.set_cons_succ]
    refine wpAnyH_take (i := 9) (v := ?_) rfl (by kernel_rfl) (by kernel_rfl) (by kernel_rfl) (fun _ _ _ h => h) (Or.inl ⟨by kernel_rfl, ?_⟩) (by first | assumption | trivial) ?_
    rotate_left
    · intro w hSw
      try dsimp only at hSw
      first | (go_simp; done) | (go_simp; with_reducible rfl)
    try simp only [Act.put, List.getElem_toArray, List.getElem_cons_succ, List.getElem_cons_zero, List.setIfInBounds_toArray, List.set_cons_zero, List.set_cons_succ]
    refine wpAnyH_done (by kernel_rfl) ?_ _
    clear hSQ hS0
    clear q0 q1 q2 q3 q4 q5 q6 q7
    clear b0 b1 b2 x0 x1 x2 x3 x4 x5 x6 x7 r0 r1 r2 fr0 fr1 fr2
    have b0 : w3.drew.cell? ⟨w.heap.size, 0, none⟩ = some (.int .i64 me) := HK3.out.cell 0
    have b1 : w3.drew.cell? ⟨w.heap.size, 1, none⟩ = some (.slice (some ⟨b, o, none⟩) ni ci) := HK3.out.cell 1
    have b2 : w3.drew.cell? ⟨w.heap.size, 2, none⟩ = some (.slice po no co) := HK3.out.cell 2
    have x0 : w3.drew.cell? ⟨w.heap.size + 1, 0, none⟩ = some (.int .i64 x.s) := HX3.out.cell 0
    have x1 : w3.drew.cell? ⟨w.heap.size + 1, 1, none⟩ = some (.int .i64 x.n) := HX3.out.cell 1
    have x2 : w3.drew.cell? ⟨w.heap.size + 1, 2, none⟩ = some (.int .i64 x.b) := HX3.out.cell 2
    have x3 : w3.drew.cell? ⟨w.heap.size + 1, 3, none⟩ = some (.int .i64 x.c) := HX3.out.cell 3
    have x4 : w3.drew.cell? ⟨w.heap.size + 1, 4, none⟩ = some (.int .i64 x.a) := HX3.out.cell 4
    have x5 : w3.drew.cell? ⟨w.heap.size + 1, 5, none⟩ = some (.int .i64 x.r) := HX3.out.cell 5
    have x6 : w3.drew.cell? ⟨w.heap.size + 1, 6, none⟩ = some (.int .i64 x.t) := HX3.out.cell 6
    have x7 : w3.drew.cell? ⟨w.heap.size + 1, 7, none⟩ = some (.int .i64 x.y) := HX3.out.cell 7
    have r0 : w3.drew.cell? ⟨w.heap.size + 1 + 1, 0, none⟩ = some (.int .i64 0) := HR3.out.cell 0
    have r1 : w3.drew.cell? ⟨w.heap.size + 1 + 1, 1, none⟩ = some (.slice none 0 0) := HR3.out.cell 1
    have r2 : w3.drew.cell? ⟨w.heap.size + 1 + 1, 2, none⟩ = some (.slice none 0 0) := HR3.out.cell 2
    have fr0 := HR3.out.free 0
    have fr1 := HR3.out.free 1
    have fr2 := HR3.out.free 2
    go_wp2_with fail
    refine (HW.out w3.drew HB3.out.drew).mono ?_
    rintro y w4 ⟨v4, rfl, ho4, hb4⟩
    obtain ⟨p4, c4, hv4⟩ := ho4.form
    generalize hn4 : (A ++ [x] ++ B).length = n4 at hv4
    subst hv4
    have hb4 : Below w3.heap.size w3 w4 := (Below.refl _ _).drew.trans hb4
    have HK4 := Lib.hid (HK3.out.below hb4 HK3.out.lt)
    have HX4 := Lib.hid (HX3.out.below hb4 HX3.out.lt)
    have HR4 := Lib.hid (HR3.out.below hb4 HR3.out.lt)
    have HB4 := Lib.hid (HB3.out.trans (hb4.mono HB3.out.size))
    have HO4 := Lib.hid (ho4.less (show w.heap.size ≤ w3.drew.heap.size from HB3.out.size))
    have HLT := Lib.hid ho4.block_ge
    have HSZ := Lib.hid (show w.heap.size + 1 + 1 < w3.drew.heap.size from HR3.out.lt)
    clear HW hb4 ho4 HK3 HX3 HR3 hn4 b0 b1 b2 x0 x1 x2 x3 x4 x5 x6 x7 r0 r1 r2 fr0 fr1 fr2
    have b0 : w4.cell? ⟨w.heap.size, 0, none⟩ = some (.int .i64 me) := HK4.out.cell 0
    have b1 : w4.cell? ⟨w.heap.size, 1, none⟩ = some (.slice (some ⟨b, o, none⟩) ni ci) := HK4.out.cell 1
    have b2 : w4.cell? ⟨w.heap.size, 2, none⟩ = some (.slice po no co) := HK4.out.cell 2
    have x0 : w4.cell? ⟨w.heap.size + 1, 0, none⟩ = some (.int .i64 x.s) := HX4.out.cell 0
    have x1 : w4.cell? ⟨w.heap.size + 1, 1, none⟩ = some (.int .i64 x.n) := HX4.out.cell 1
    have x2 : w4.cell? ⟨w.heap.size + 1, 2, none⟩ = some (.int .i64 x.b) := HX4.out.cell 2
    have x3 : w4.cell? ⟨w.heap.size + 1, 3, none⟩ = some (.int .i64 x.c) := HX4.out.cell 3
    have x4 : w4.cell? ⟨w.heap.size + 1, 4, none⟩ = some (.int .i64 x.a) := HX4.out.cell 4
    have x5 : w4.cell? ⟨w.heap.size + 1, 5, none⟩ = some (.int .i64 x.r) := HX4.out.cell 5
    have x6 : w4.cell? ⟨w.heap.size + 1, 6, none⟩ = some (.int .i64 x.t) := HX4.out.cell 6
    have x7 : w4.cell? ⟨w.heap.size + 1, 7, none⟩ = some (.int .i64 x.y) := HX4.out.cell 7
    have r0 : w4.cell? ⟨w.heap.size + 1 + 1, 0, none⟩ = some (.int .i64 0) := HR4.out.cell 0
    have r1 : w4.cell? ⟨w.heap.size + 1 + 1, 1, none⟩ = some (.slice none 0 0) := HR4.out.cell 1
    have r2 : w4.cell? ⟨w.heap.size + 1 + 1, 2, none⟩ = some (.slice none 0 0) := HR4.out.cell 2
    have fr0 := HR4.out.free 0
    have fr1 := HR4.out.free 1
    have fr2 := HR4.out.free 2
    have fb1 := HK4.out.free 1
    go_wp2_with fail
    have hK5 := HK4.out.set 1 (.slice p4 n4 c4)
    have hR5 := HR4.out.setOther (a := ⟨w.heap.size, 1, none⟩) (by show w.heap.size ≠ w.heap.size + 1 + 1; omega) (.slice p4 n4 c4)
    have hf := ((hR5.set 0 (.int .i64 me)).set 1 (.slice p4 n4 c4)).set 2 (.slice po no co)
    have hB := HB4.out.setCell (p := ⟨w.heap.size, 1, none⟩) (Nat.le_refl _) (.slice p4 n4 c4) |>.setCell (p := ⟨w.heap.size + 1 + 1, 0, none⟩) (by show w.heap.size ≤ w.heap.size + 1 + 1; omega) (.int .i64 me) |>.setCell (p := ⟨w.heap.size + 1 + 1, 1, none⟩) (by show w.heap.size ≤ w.heap.size + 1 + 1; omega) (.slice p4 n4 c4) |>.setCell (p := ⟨w.heap.size + 1 + 1, 2, none⟩) (by show w.heap.size ≤ w.heap.size + 1 + 1; omega) (.slice po no co)
    have hO : OwnT encI (World.setCell (World.setCell (World.setCell (World.setCell w4 ⟨w.heap.size, 1, none⟩ (.slice p4 n4 c4)) ⟨w.heap.size + 1 + 1, 0, none⟩ (.int .i64 me)) ⟨w.heap.size + 1 + 1, 1, none⟩ (.slice p4 n4 c4)) ⟨w.heap.size + 1 + 1, 2, none⟩ (.slice po no co)) w.heap.size 64 (.slice p4 n4 c4) (A ++ [x] ++ B) := by
      refine HO4.out.stay (fun g hg => ?_)
      have hge := HLT.out g hg
      have hsz : w.heap.size + 1 + 1 < w3.drew.heap.size := HSZ.out
      rw [Below.heap_setCell _ _ _ g (by show g ≠ w.heap.size + 1 + 1; omega), Below.heap_setCell _ _ _ g (by show g ≠ w.heap.size + 1 + 1; omega), Below.heap_setCell _ _ _ g (by show g ≠ w.heap.size + 1 + 1; omega), Below.heap_setCell _ _ _ g (by show g ≠ w.heap.size; omega)]
    refine bodyPost_ret (v := .tuple #[.agg #[.int .i64 me, .slice p4 n4 c4, .slice po no co], .int .i64 0]) (by simp [results, Try.results66, go_sem, hf.cell 0, hf.cell 1, hf.cell 2]) rfl ⟨_, _, _, rfl, hO, hB⟩
end Go.Proofs.Ytbpfbebebppleaa
