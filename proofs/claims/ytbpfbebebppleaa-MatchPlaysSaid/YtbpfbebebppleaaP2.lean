/- (book.Book).Put by contract. (book.Book).Put of an item that it takes. A message as a value. From what a reading tells of a slice of 64-bit numbers to a row. From what a reading tells of a slice of structs or arrays to a row of them. From what a reading tells of a line, of a slice of lines, to rows. Bytes in a slice: between 0 and 255; as natural numbers. From what a reading tells of a slice of integers to a row, whatever their kind. From what a reading tells of a message by value, of its lists, and of a slice of messages, to models and rows. Slices of structs: append, whatever the length. Values that are handed on: which blocks their rows lie in, and what leaves these alone; messages so. Append that tells which block is the new one. Put over items in the order of their names: it is in, and where the row lies. msg.About, Item by contract. An item and an error as an answer; a whole item stored. item.turn by contract; a whole item stored. What fits into a number of 64 bits. money.Near: whether two amounts are at most so far apart. A desk: its items and orders in the order of their names; Get and Expected over them. match.Desk's sold, between by contract. Put over a desk's items: it is in. match.Desk's follows, expects by contract. Something that is said to a node, as it lies. item.Dispute, Agree, Cancel, Adjust by contract. -/
import Derived.Test.YtbpfbebebppleaaP1
import Derived.ProofKit
import Derived.OpenShut
import Derived.Deep.SlicePairs
import Derived.ChangeSlices
import Derived.ChangeArms
import Derived.Deep.CutRange
import Derived.Deep.CutBlock
namespace Go.Proofs.Ytbpfbebebppleaa
open Go.RowKit
theorem ne8 {q x : Itm} (h : q ≠ x) : q.s = x.s → q.n = x.n → q.b = x.b → q.c = x.c → q.a = x.a → q.r = x.r → q.t = x.t → ¬ q.y = x.y := fun h1 h2 h3 h4 h5 h6 h7 h8 => h (by cases q; cases x; simp_all)

set_option linter.unusedSimpArgs false in
set_option maxHeartbeats 4000000 in
set_option maxRecDepth 100000 in
theorem put_chk (w : World) (me : Int) (pi po : Option Addr) (ni ci no co : Nat) (x : Itm) (h : chkI x ≠ 0) :
  Calls Try.prog 66 #[bookV me (.slice pi ni ci) (.slice po no co), x.v] w fun e w' => e = .returned (.tuple #[.agg #[.int .i64 me, .slice pi ni ci, .slice po no co], .int .i64 (chkI x)]) ∧ Below w.heap.size w w' := by
 have HCK := Lib.hid (fun (W : World) => check_any x W)
 have heb : (chkI x != 0) = true := by simpa using h
 clear h
 generalize chkI x = ce at *
 unfold Itm.v bookV at *
 go_enter Try.func66, Try.ntmps66
 go_wp2_with fail
 generalize hW1 : ((w.alloc (.cells #[.int .i64 me, .slice pi ni ci, .slice po no co] 27)).alloc (.cells #[.int .i64 x.s, .int .i64 x.n, .int .i64 x.b, .int .i64 x.c, .int .i64 x.a, .int .i64 x.r, .int .i64 x.t, .int .i64 x.y] 64)).alloc (.cells #[.int .i64 0, .slice none 0 0, .slice none 0 0] 27) = W1
 have HB1 : Hid (Below w.heap.size w W1) := by show Below _ _ _; rw [← hW1]; exact ((oneB w _).alloc (by simp) _).alloc (by simp <;> omega) _
 have HK1 : Hid (Blk W1 w.heap.size #[.int .i64 me, .slice pi ni ci, .slice po no co] 27) := by show Blk _ _ _ _; rw [← hW1]; exact ((Blk.new w _ _).alloc _).alloc _
 have HX1 : Hid (Blk W1 (w.heap.size + 1) #[.int .i64 x.s, .int .i64 x.n, .int .i64 x.b, .int .i64 x.c, .int .i64 x.a, .int .i64 x.r, .int .i64 x.t, .int .i64 x.y] 64) := by show Blk _ _ _ _; rw [← hW1]; exact (Blk.new' _ _ _ (by simp)).alloc _
 have HR1 : Hid (Blk W1 (w.heap.size + 1 + 1) #[.int .i64 0, .slice none 0 0, .slice none 0 0] 27) := by show Blk _ _ _ _; rw [← hW1]; exact Blk.new' _ _ _ (by simp)
 clear hW1
 refine (HCK.out _).mono ?_
 rintro y w2 ⟨rfl, hb2⟩
 have HK2 := kbq HK1 hb2
 have HX2 := kbq HX1 hb2
 have HR2 := kbq HR1 hb2
 have HB2 := ktq HB1 hb2
 clear HCK hb2 HK1 HX1 HR1
 have b0 : w2.cell? ⟨w.heap.size, 0, none⟩ = some (.int .i64 me) := HK2.out.cell 0
 have b1 : w2.cell? ⟨w.heap.size, 1, none⟩ = some (.slice pi ni ci) := HK2.out.cell 1
 have b2 : w2.cell? ⟨w.heap.size, 2, none⟩ = some (.slice po no co) := HK2.out.cell 2
 have x0 : w2.cell? ⟨w.heap.size + 1, 0, none⟩ = some (.int .i64 x.s) := HX2.out.cell 0
 have x1 : w2.cell? ⟨w.heap.size + 1, 1, none⟩ = some (.int .i64 x.n) := HX2.out.cell 1
 have x2 : w2.cell? ⟨w.heap.size + 1, 2, none⟩ = some (.int .i64 x.b) := HX2.out.cell 2
 have x3 : w2.cell? ⟨w.heap.size + 1, 3, none⟩ = some (.int .i64 x.c) := HX2.out.cell 3
 have x4 : w2.cell? ⟨w.heap.size + 1, 4, none⟩ = some (.int .i64 x.a) := HX2.out.cell 4
 have x5 : w2.cell? ⟨w.heap.size + 1, 5, none⟩ = some (.int .i64 x.r) := HX2.out.cell 5
 have x6 : w2.cell? ⟨w.heap.size + 1, 6, none⟩ = some (.int .i64 x.t) := HX2.out.cell 6
 have x7 : w2.cell? ⟨w.heap.size + 1, 7, none⟩ = some (.int .i64 x.y) := HX2.out.cell 7
 have r0 : w2.cell? ⟨w.heap.size + 1 + 1, 0, none⟩ = some (.int .i64 0) := HR2.out.cell 0
 have r1 : w2.cell? ⟨w.heap.size + 1 + 1, 1, none⟩ = some (.slice none 0 0) := HR2.out.cell 1
 have r2 : w2.cell? ⟨w.heap.size + 1 + 1, 2, none⟩ = some (.slice none 0 0) := HR2.out.cell 2
 have fr0 := HR2.out.free 0
 have fr1 := HR2.out.free 1
 have fr2 := HR2.out.free 2
 go_wp2_with fail
 have hf := ((HR2.out.set 0 (.int .i64 me)).set 1 (.slice pi ni ci)).set 2 (.slice po no co)
 have hB := HB2.out.setCell (p := ⟨w.heap.size + 1 + 1, 0, none⟩) (by show w.heap.size ≤ w.heap.size + 1 + 1; omega) (.int .i64 me) |>.setCell (p := ⟨w.heap.size + 1 + 1, 1, none⟩) (by show w.heap.size ≤ w.heap.size + 1 + 1; omega) (.slice pi ni ci) |>.setCell (p := ⟨w.heap.size + 1 + 1, 2, none⟩) (by show w.heap.size ≤ w.heap.size + 1 + 1; omega) (.slice po no co)
 refine bodyPost_ret (v := .tuple #[.agg #[.int .i64 me, .slice pi ni ci, .slice po no co], .int .i64 ce]) (by simp [results, Try.results66, go_sem, hf.cell 0, hf.cell 1, hf.cell 2]) rfl ⟨rfl, hB⟩
set_option linter.unusedSimpArgs false in
set_option maxHeartbeats 4000000 in
set_option maxRecDepth 100000 in
theorem put_other (w : World) (me : Int) (pi po : Option Addr) (ni ci no co : Nat) (x : Itm) (h : chkI x = 0) (h1 : x.s ≠ me) (h2 : x.b ≠ me) :
  Calls Try.prog 66 #[bookV me (.slice pi ni ci) (.slice po no co), x.v] w fun e w' => e = .returned (.tuple #[.agg #[.int .i64 me, .slice pi ni ci, .slice po no co], .int .i64 140]) ∧ Below w.heap.size w w' := by
 have HCK := Lib.hid (fun (W : World) => check_any x W)
 have e1 : (x.s != me) = true := by simpa using h1
 have e2 : (x.b != me) = true := by simpa using h2
 rw [h] at HCK
 clear h h1 h2
 unfold Itm.v bookV at *
 go_enter Try.func66, Try.ntmps66
 go_wp2_with fail
 generalize hW1 : ((w.alloc (.cells #[.int .i64 me, .slice pi ni ci, .slice po no co] 27)).alloc (.cells #[.int .i64 x.s, .int .i64 x.n, .int .i64 x.b, .int .i64 x.c, .int .i64 x.a, .int .i64 x.r, .int .i64 x.t, .int .i64 x.y] 64)).alloc (.cells #[.int .i64 0, .slice none 0 0, .slice none 0 0] 27) = W1
 have HB1 : Hid (Below w.heap.size w W1) := by show Below _ _ _; rw [← hW1]; exact ((oneB w _).alloc (by simp) _).alloc (by simp <;> omega) _
 have HK1 : Hid (Blk W1 w.heap.size #[.int .i64 me, .slice pi ni ci, .slice po no co] 27) := by show Blk _ _ _ _; rw [← hW1]; exact ((Blk.new w _ _).alloc _).alloc _
 have HX1 : Hid (Blk W1 (w.heap.size + 1) #[.int .i64 x.s, .int .i64 x.n, .int .i64 x.b, .int .i64 x.c, .int .i64 x.a, .int .i64 x.r, .int .i64 x.t, .int .i64 x.y] 64) := by show Blk _ _ _ _; rw [← hW1]; exact (Blk.new' _ _ _ (by simp)).alloc _
 have HR1 : Hid (Blk W1 (w.heap.size + 1 + 1) #[.int .i64 0, .slice none 0 0, .slice none 0 0] 27) := by show Blk _ _ _ _; rw [← hW1]; exact Blk.new' _ _ _ (by simp)
 clear hW1
 refine (HCK.out _).mono ?_
 rintro y w2 ⟨rfl, hb2⟩
 have HK2 := kbq HK1 hb2
 have HX2 := kbq HX1 hb2
 have HR2 := kbq HR1 hb2
 have HB2 := ktq HB1 hb2
 clear HCK hb2 HK1 HX1 HR1
 have b0 : w2.cell? ⟨w.heap.size, 0, none⟩ = some (.int .i64 me) := HK2.out.cell 0
 have b1 : w2.cell? ⟨w.heap.size, 1, none⟩ = some (.slice pi ni ci) := HK2.out.cell 1
 have b2 : w2.cell? ⟨w.heap.size, 2, none⟩ = some (.slice po no co) := HK2.out.cell 2
 have x0 : w2.cell? ⟨w.heap.size + 1, 0, none⟩ = some (.int .i64 x.s) := HX2.out.cell 0
 have x1 : w2.cell? ⟨w.heap.size + 1, 1, none⟩ = some (.int .i64 x.n) := HX2.out.cell 1
 have x2 : w2.cell? ⟨w.heap.size + 1, 2, none⟩ = some (.int .i64 x.b) := HX2.out.cell 2
 have x3 : w2.cell? ⟨w.heap.size + 1, 3, none⟩ = some (.int .i64 x.c) := HX2.out.cell 3
 have x4 : w2.cell? ⟨w.heap.size + 1, 4, none⟩ = some (.int .i64 x.a) := HX2.out.cell 4
 have x5 : w2.cell? ⟨w.heap.size + 1, 5, none⟩ = some (.int .i64 x.r) := HX2.out.cell 5
 have x6 : w2.cell? ⟨w.heap.size + 1, 6, none⟩ = some (.int .i64 x.t) := HX2.out.cell 6
 have x7 : w2.cell? ⟨w.heap.size + 1, 7, none⟩ = some (.int .i64 x.y) := HX2.out.cell 7
 have r0 : w2.cell? ⟨w.heap.size + 1 + 1, 0, none⟩ = some (.int .i64 0) := HR2.out.cell 0
 have r1 : w2.cell? ⟨w.heap.size + 1 + 1, 1, none⟩ = some (.slice none 0 0) := HR2.out.cell 1
 have r2 : w2.cell? ⟨w.heap.size + 1 + 1, 2, none⟩ = some (.slice none 0 0) := HR2.out.cell 2
 have fr0 := HR2.out.free 0
 have fr1 := HR2.out.free 1
 have fr2 := HR2.out.free 2
 go_wp2_with fail
 have hf := ((HR2.out.set 0 (.int .i64 me)).set 1 (.slice pi ni ci)).set 2 (.slice po no co)
 have hB := HB2.out.setCell (p := ⟨w.heap.size + 1 + 1, 0, none⟩) (by show w.heap.size ≤ w.heap.size + 1 + 1; omega) (.int .i64 me) |>.setCell (p := ⟨w.heap.size + 1 + 1, 1, none⟩) (by show w.heap.size ≤ w.heap.size + 1 + 1; omega) (.slice pi ni ci) |>.setCell (p := ⟨w.heap.size + 1 + 1, 2, none⟩) (by show w.heap.size ≤ w.heap.size + 1 + 1; omega) (.slice po no co)
 refine bodyPost_ret (v := .tuple #[.agg #[.int .i64 me, .slice pi ni ci, .slice po no co], .int .i64 140]) (by simp [results, Try.results66, go_sem, hf.cell 0, hf.cell 1, hf.cell 2]) rfl ⟨rfl, hB⟩
set_option linter.unusedSimpArgs false in
set_option maxHeartbeats 4000000 in
set_option maxRecDepth 100000 in
theorem put_full (w : World) (me : Int) (pi po : Option Addr) (ni ci no co : Nat) (x : Itm) (xs A B : List Itm) (hr : TRow encI w (.slice pi ni ci) xs) (hl : xs.length = ni) (hA : AroundF posI ⟨x.s, x.n, 0⟩ xs A [] B) (hn : ni ≤ 1024) (h : chkI x = 0) (h1 : x.s = me ∨ x.b = me) (h3 : 1024 ≤ ni) :
  Calls Try.prog 66 #[bookV me (.slice pi ni ci) (.slice po no co), x.v] w fun e w' => e = .returned (.tuple #[.agg #[.int .i64 me, .slice pi ni ci, .slice po no co], .int .i64 3]) ∧ Below w.heap.size w w' := by
 have HCK := Lib.hid (fun (W : World) => check_any x W)
 rw [h] at HCK
 have HF := Lib.hid (fun (W : World) (hb : Below w.heap.size w W) => findI_any W me (.slice pi ni ci) (.slice po no co) xs A [] B x.s x.n (hr.kept hb) hA (by omega))
 rw [show decide (([] : List Itm) ≠ []) = false by simp] at HF
 unfold idV at HF
 have H1 := Lib.hid h1
 have h3i : (1024 : Int) ≤ (ni : Int) := by omega
 clear h3 hr hl hA hn
 clear h h1
 unfold Itm.v bookV at *
 go_enter Try.func66, Try.ntmps66
 go_wp2_with fail
 generalize hW1 : ((w.alloc (.cells #[.int .i64 me, .slice pi ni ci, .slice po no co] 27)).alloc (.cells #[.int .i64 x.s, .int .i64 x.n, .int .i64 x.b, .int .i64 x.c, .int .i64 x.a, .int .i64 x.r, .int .i64 x.t, .int .i64 x.y] 64)).alloc (.cells #[.int .i64 0, .slice none 0 0, .slice none 0 0] 27) = W1
 have HB1 : Hid (Below w.heap.size w W1) := by show Below _ _ _; rw [← hW1]; exact ((oneB w _).alloc (by simp) _).alloc (by simp <;> omega) _
 have HK1 : Hid (Blk W1 w.heap.size #[.int .i64 me, .slice pi ni ci, .slice po no co] 27) := by show Blk _ _ _ _; rw [← hW1]; exact ((Blk.new w _ _).alloc _).alloc _
 have HX1 : Hid (Blk W1 (w.heap.size + 1) #[.int .i64 x.s, .int .i64 x.n, .int .i64 x.b, .int .i64 x.c, .int .i64 x.a, .int .i64 x.r, .int .i64 x.t, .int .i64 x.y] 64) := by show Blk _ _ _ _; rw [← hW1]; exact (Blk.new' _ _ _ (by simp)).alloc _
 have HR1 : Hid (Blk W1 (w.heap.size + 1 + 1) #[.int .i64 0, .slice none 0 0, .slice none 0 0] 27) := by show Blk _ _ _ _; rw [← hW1]; exact Blk.new' _ _ _ (by simp)
 clear hW1
 refine (HCK.out _).mono ?_
 rintro y w2 ⟨rfl, hb2⟩
 have HK2 := kbq HK1 hb2
 have HX2 := kbq HX1 hb2
 have HR2 := kbq HR1 hb2
 have HB2 := ktq HB1 hb2
 clear HCK hb2 HK1 HX1 HR1
 rcases (show x.s = me ∨ (x.s ≠ me ∧ x.b = me) by rcases H1.out with h | h; exact .inl h; by_cases g : x.s = me; exact .inl g; exact .inr ⟨g, h⟩) with g | ⟨g, g2⟩
 ·skip
  have e1 : (x.s != me) = false := by simpa using g
  clear g
  have b0 : w2.cell? ⟨w.heap.size, 0, none⟩ = some (.int .i64 me) := HK2.out.cell 0
  have b1 : w2.cell? ⟨w.heap.size, 1, none⟩ = some (.slice pi ni ci) := HK2.out.cell 1
  have b2 : w2.cell? ⟨w.heap.size, 2, none⟩ = some (.slice po no co) := HK2.out.cell 2
  have x0 : w2.cell? ⟨w.heap.size + 1, 0, none⟩ = some (.int .i64 x.s) := HX2.out.cell 0
  have x1 : w2.cell? ⟨w.heap.size + 1, 1, none⟩ = some (.int .i64 x.n) := HX2.out.cell 1
  have x2 : w2.cell? ⟨w.heap.size + 1, 2, none⟩ = some (.int .i64 x.b) := HX2.out.cell 2
  have x3 : w2.cell? ⟨w.heap.size + 1, 3, none⟩ = some (.int .i64 x.c) := HX2.out.cell 3
  have x4 : w2.cell? ⟨w.heap.size + 1, 4, none⟩ = some (.int .i64 x.a) := HX2.out.cell 4
  have x5 : w2.cell? ⟨w.heap.size + 1, 5, none⟩ = some (.int .i64 x.r) := HX2.out.cell 5
  have x6 : w2.cell? ⟨w.heap.size + 1, 6, none⟩ = some (.int .i64 x.t) := HX2.out.cell 6
  have x7 : w2.cell? ⟨w.heap.size + 1, 7, none⟩ = some (.int .i64 x.y) := HX2.out.cell 7
  have r0 : w2.cell? ⟨w.heap.size + 1 + 1, 0, none⟩ = some (.int .i64 0) := HR2.out.cell 0
  have r1 : w2.cell? ⟨w.heap.size + 1 + 1, 1, none⟩ = some (.slice none 0 0) := HR2.out.cell 1
  have r2 : w2.cell? ⟨w.heap.size + 1 + 1, 2, none⟩ = some (.slice none 0 0) := HR2.out.cell 2
  have fr0 := HR2.out.free 0
  have fr1 := HR2.out.free 1
  have fr2 := HR2.out.free 2
  go_wp2_with fail
  refine (HF.out _ HB2.out).mono ?_
  rintro y w3 ⟨rfl, hb3⟩
  have HK3 := kbq HK2 hb3
  have HX3 := kbq HX2 hb3
  have HR3 := kbq HR2 hb3
  have HB3 := ktq HB2 hb3
  clear HF hb3 HK2 HX2 HR2 b0 b1 b2 x0 x1 x2 x3 x4 x5 x6 x7 r0 r1 r2 fr0 fr1 fr2
  have b0 : w3.cell? ⟨w.heap.size, 0, none⟩ = some (.int .i64 me) := HK3.out.cell 0
  have b1 : w3.cell? ⟨w.heap.size, 1, none⟩ = some (.slice pi ni ci) := HK3.out.cell 1
  have b2 : w3.cell? ⟨w.heap.size, 2, none⟩ = some (.slice po no co) := HK3.out.cell 2
  have x0 : w3.cell? ⟨w.heap.size + 1, 0, none⟩ = some (.int .i64 x.s) := HX3.out.cell 0
  have x1 : w3.cell? ⟨w.heap.size + 1, 1, none⟩ = some (.int .i64 x.n) := HX3.out.cell 1
  have x2 : w3.cell? ⟨w.heap.size + 1, 2, none⟩ = some (.int .i64 x.b) := HX3.out.cell 2
  have x3 : w3.cell? ⟨w.heap.size + 1, 3, none⟩ = some (.int .i64 x.c) := HX3.out.cell 3
  have x4 : w3.cell? ⟨w.heap.size + 1, 4, none⟩ = some (.int .i64 x.a) := HX3.out.cell 4
  have x5 : w3.cell? ⟨w.heap.size + 1, 5, none⟩ = some (.int .i64 x.r) := HX3.out.cell 5
  have x6 : w3.cell? ⟨w.heap.size + 1, 6, none⟩ = some (.int .i64 x.t) := HX3.out.cell 6
  have x7 : w3.cell? ⟨w.heap.size + 1, 7, none⟩ = some (.int .i64 x.y) := HX3.out.cell 7
  have r0 : w3.cell? ⟨w.heap.size + 1 + 1, 0, none⟩ = some (.int .i64 0) := HR3.out.cell 0
  have r1 : w3.cell? ⟨w.heap.size + 1 + 1, 1, none⟩ = some (.slice none 0 0) := HR3.out.cell 1
  have r2 : w3.cell? ⟨w.heap.size + 1 + 1, 2, none⟩ = some (.slice none 0 0) := HR3.out.cell 2
  have fr0 := HR3.out.free 0
  have fr1 := HR3.out.free 1
  have fr2 := HR3.out.free 2
  go_wp2_with fail
  have hf := ((HR3.out.set 0 (.int .i64 me)).set 1 (.slice pi ni ci)).set 2 (.slice po no co)
  have hB := HB3.out.setCell (p := ⟨w.heap.size + 1 + 1, 0, none⟩) (by show w.heap.size ≤ w.heap.size + 1 + 1; omega) (.int .i64 me) |>.setCell (p := ⟨w.heap.size + 1 + 1, 1, none⟩) (by show w.heap.size ≤ w.heap.size + 1 + 1; omega) (.slice pi ni ci) |>.setCell (p := ⟨w.heap.size + 1 + 1, 2, none⟩) (by show w.heap.size ≤ w.heap.size + 1 + 1; omega) (.slice po no co)
  refine bodyPost_ret (v := .tuple #[.agg #[.int .i64 me, .slice pi ni ci, .slice po no co], .int .i64 3]) (by simp [results, Try.results66, go_sem, hf.cell 0, hf.cell 1, hf.cell 2]) rfl ⟨rfl, hB⟩
 ·skip
  have e1 : (x.s != me) = true := by simpa using g
  have e2 : (x.b != me) = false := by simpa using g2
  clear g2
  clear g
  have b0 : w2.cell? ⟨w.heap.size, 0, none⟩ = some (.int .i64 me) := HK2.out.cell 0
  have b1 : w2.cell? ⟨w.heap.size, 1, none⟩ = some (.slice pi ni ci) := HK2.out.cell 1
  have b2 : w2.cell? ⟨w.heap.size, 2, none⟩ = some (.slice po no co) := HK2.out.cell 2
  have x0 : w2.cell? ⟨w.heap.size + 1, 0, none⟩ = some (.int .i64 x.s) := HX2.out.cell 0
  have x1 : w2.cell? ⟨w.heap.size + 1, 1, none⟩ = some (.int .i64 x.n) := HX2.out.cell 1
  have x2 : w2.cell? ⟨w.heap.size + 1, 2, none⟩ = some (.int .i64 x.b) := HX2.out.cell 2
  have x3 : w2.cell? ⟨w.heap.size + 1, 3, none⟩ = some (.int .i64 x.c) := HX2.out.cell 3
  have x4 : w2.cell? ⟨w.heap.size + 1, 4, none⟩ = some (.int .i64 x.a) := HX2.out.cell 4
  have x5 : w2.cell? ⟨w.heap.size + 1, 5, none⟩ = some (.int .i64 x.r) := HX2.out.cell 5
  have x6 : w2.cell? ⟨w.heap.size + 1, 6, none⟩ = some (.int .i64 x.t) := HX2.out.cell 6
  have x7 : w2.cell? ⟨w.heap.size + 1, 7, none⟩ = some (.int .i64 x.y) := HX2.out.cell 7
  have r0 : w2.cell? ⟨w.heap.size + 1 + 1, 0, none⟩ = some (.int .i64 0) := HR2.out.cell 0
  have r1 : w2.cell? ⟨w.heap.size + 1 + 1, 1, none⟩ = some (.slice none 0 0) := HR2.out.cell 1
  have r2 : w2.cell? ⟨w.heap.size + 1 + 1, 2, none⟩ = some (.slice none 0 0) := HR2.out.cell 2
  have fr0 := HR2.out.free 0
  have fr1 := HR2.out.free 1
  have fr2 := HR2.out.free 2
  go_wp2_with fail
  refine (HF.out _ HB2.out).mono ?_
  rintro y w3 ⟨rfl, hb3⟩
  have HK3 := kbq HK2 hb3
  have HX3 := kbq HX2 hb3
  have HR3 := kbq HR2 hb3
  have HB3 := ktq HB2 hb3
  clear HF hb3 HK2 HX2 HR2 b0 b1 b2 x0 x1 x2 x3 x4 x5 x6 x7 r0 r1 r2 fr0 fr1 fr2
  have b0 : w3.cell? ⟨w.heap.size, 0, none⟩ = some (.int .i64 me) := HK3.out.cell 0
  have b1 : w3.cell? ⟨w.heap.size, 1, none⟩ = some (.slice pi ni ci) := HK3.out.cell 1
  have b2 : w3.cell? ⟨w.heap.size, 2, none⟩ = some (.slice po no co) := HK3.out.cell 2
  have x0 : w3.cell? ⟨w.heap.size + 1, 0, none⟩ = some (.int .i64 x.s) := HX3.out.cell 0
  have x1 : w3.cell? ⟨w.heap.size + 1, 1, none⟩ = some (.int .i64 x.n) := HX3.out.cell 1
  have x2 : w3.cell? ⟨w.heap.size + 1, 2, none⟩ = some (.int .i64 x.b) := HX3.out.cell 2
  have x3 : w3.cell? ⟨w.heap.size + 1, 3, none⟩ = some (.int .i64 x.c) := HX3.out.cell 3
  have x4 : w3.cell? ⟨w.heap.size + 1, 4, none⟩ = some (.int .i64 x.a) := HX3.out.cell 4
  have x5 : w3.cell? ⟨w.heap.size + 1, 5, none⟩ = some (.int .i64 x.r) := HX3.out.cell 5
  have x6 : w3.cell? ⟨w.heap.size + 1, 6, none⟩ = some (.int .i64 x.t) := HX3.out.cell 6
  have x7 : w3.cell? ⟨w.heap.size + 1, 7, none⟩ = some (.int .i64 x.y) := HX3.out.cell 7
  have r0 : w3.cell? ⟨w.heap.size + 1 + 1, 0, none⟩ = some (.int .i64 0) := HR3.out.cell 0
  have r1 : w3.cell? ⟨w.heap.size + 1 + 1, 1, none⟩ = some (.slice none 0 0) := HR3.out.cell 1
  have r2 : w3.cell? ⟨w.heap.size + 1 + 1, 2, none⟩ = some (.slice none 0 0) := HR3.out.cell 2
  have fr0 := HR3.out.free 0
  have fr1 := HR3.out.free 1
  have fr2 := HR3.out.free 2
  go_wp2_with fail
  have hf := ((HR3.out.set 0 (.int .i64 me)).set 1 (.slice pi ni ci)).set 2 (.slice po no co)
  have hB := HB3.out.setCell (p := ⟨w.heap.size + 1 + 1, 0, none⟩) (by show w.heap.size ≤ w.heap.size + 1 + 1; omega) (.int .i64 me) |>.setCell (p := ⟨w.heap.size + 1 + 1, 1, none⟩) (by show w.heap.size ≤ w.heap.size + 1 + 1; omega) (.slice pi ni ci) |>.setCell (p := ⟨w.heap.size + 1 + 1, 2, none⟩) (by show w.heap.size ≤ w.heap.size + 1 + 1; omega) (.slice po no co)
  refine bodyPost_ret (v := .tuple #[.agg #[.int .i64 me, .slice pi ni ci, .slice po no co], .int .i64 3]) (by simp [results, Try.results66, go_sem, hf.cell 0, hf.cell 1, hf.cell 2]) rfl ⟨rfl, hB⟩
set_option linter.unusedSimpArgs false in
set_option maxHeartbeats 4000000 in
set_option maxRecDepth 100000 in
theorem put_new (w : World) (me : Int) (pi po : Option Addr) (ni ci no co : Nat) (x : Itm) (xs A B : List Itm) (hr : TRow encI w (.slice pi ni ci) xs) (hl : xs.length = ni) (hA : AroundF posI ⟨x.s, x.n, 0⟩ xs A [] B) (hn : ni ≤ 1024) (h : chkI x = 0) (h1 : x.s = me ∨ x.b = me) (h3 : ni < 1024) :
  Calls Try.prog 66 #[bookV me (.slice pi ni ci) (.slice po no co), x.v] w fun e w' => ∃ pi' ni' ci', e = .returned (.tuple #[.agg #[.int .i64 me, .slice pi' ni' ci', .slice po no co], .int .i64 0]) ∧ OwnT encI w' w.heap.size 64 (.slice pi' ni' ci') (A ++ [x] ++ B) ∧ Below w.heap.size w w' := by
 have HCK := Lib.hid (fun (W : World) => check_any x W)
 rw [h] at HCK
 have HF := Lib.hid (fun (W : World) (hb : Below w.heap.size w W) => findI_any W me (.slice pi ni ci) (.slice po no co) xs A [] B x.s x.n (hr.kept hb) hA (by omega))
 rw [show decide (([] : List Itm) ≠ []) = false by simp] at HF
 unfold idV at HF
 have H1 := Lib.hid h1
 have h3i : ¬ ((1024 : Int) ≤ (ni : Int)) := by omega
 have HW := Lib.hid (fun (W : World) (hb : Below w.heap.size w W) => withI_any W (.slice pi ni ci) xs A [] B _ x (hr.kept hb) hA (by omega))
 rw [show decide (([] : List Itm) ≠ []) = false by simp] at HW
 unfold Itm.v at HW
 clear h3 hr hl hA hn
 clear h h1
 unfold Itm.v bookV at *
 go_enter Try.func66, Try.ntmps66
 go_wp2_with fail
 generalize hW1 : ((w.alloc (.cells #[.int .i64 me, .slice pi ni ci, .slice po no co] 27)).alloc (.cells #[.int .i64 x.s, .int .i64 x.n, .int .i64 x.b, .int .i64 x.c, .int .i64 x.a, .int .i64 x.r, .int .i64 x.t, .int .i64 x.y] 64)).alloc (.cells #[.int .i64 0, .slice none 0 0, .slice none 0 0] 27) = W1
 have HB1 : Hid (Below w.heap.size w W1) := by show Below _ _ _; rw [← hW1]; exact ((oneB w _).alloc (by simp) _).alloc (by simp <;> omega) _
 have HK1 : Hid (Blk W1 w.heap.size #[.int .i64 me, .slice pi ni ci, .slice po no co] 27) := by show Blk _ _ _ _; rw [← hW1]; exact ((Blk.new w _ _).alloc _).alloc _
 have HX1 : Hid (Blk W1 (w.heap.size + 1) #[.int .i64 x.s, .int .i64 x.n, .int .i64 x.b, .int .i64 x.c, .int .i64 x.a, .int .i64 x.r, .int .i64 x.t, .int .i64 x.y] 64) := by show Blk _ _ _ _; rw [← hW1]; exact (Blk.new' _ _ _ (by simp)).alloc _
 have HR1 : Hid (Blk W1 (w.heap.size + 1 + 1) #[.int .i64 0, .slice none 0 0, .slice none 0 0] 27) := by show Blk _ _ _ _; rw [← hW1]; exact Blk.new' _ _ _ (by simp)
 clear hW1
 refine (HCK.out _).mono ?_
 rintro y w2 ⟨rfl, hb2⟩
 have HK2 := kbq HK1 hb2
 have HX2 := kbq HX1 hb2
 have HR2 := kbq HR1 hb2
 have HB2 := ktq HB1 hb2
 clear HCK hb2 HK1 HX1 HR1
 rcases (show x.s = me ∨ (x.s ≠ me ∧ x.b = me) by rcases H1.out with h | h; exact .inl h; by_cases g : x.s = me; exact .inl g; exact .inr ⟨g, h⟩) with g | ⟨g, g2⟩
 ·skip
  have e1 : (x.s != me) = false := by simpa using g
  clear g
  have b0 : w2.cell? ⟨w.heap.size, 0, none⟩ = some (.int .i64 me) := HK2.out.cell 0
  have b1 : w2.cell? ⟨w.heap.size, 1, none⟩ = some (.slice pi ni ci) := HK2.out.cell 1
  have b2 : w2.cell? ⟨w.heap.size, 2, none⟩ = some (.slice po no co) := HK2.out.cell 2
  have x0 : w2.cell? ⟨w.heap.size + 1, 0, none⟩ = some (.int .i64 x.s) := HX2.out.cell 0
  have x1 : w2.cell? ⟨w.heap.size + 1, 1, none⟩ = some (.int .i64 x.n) := HX2.out.cell 1
  have x2 : w2.cell? ⟨w.heap.size + 1, 2, none⟩ = some (.int .i64 x.b) := HX2.out.cell 2
  have x3 : w2.cell? ⟨w.heap.size + 1, 3, none⟩ = some (.int .i64 x.c) := HX2.out.cell 3
  have x4 : w2.cell? ⟨w.heap.size + 1, 4, none⟩ = some (.int .i64 x.a) := HX2.out.cell 4
  have x5 : w2.cell? ⟨w.heap.size + 1, 5, none⟩ = some (.int .i64 x.r) := HX2.out.cell 5
  have x6 : w2.cell? ⟨w.heap.size + 1, 6, none⟩ = some (.int .i64 x.t) := HX2.out.cell 6
  have x7 : w2.cell? ⟨w.heap.size + 1, 7, none⟩ = some (.int .i64 x.y) := HX2.out.cell 7
  have r0 : w2.cell? ⟨w.heap.size + 1 + 1, 0, none⟩ = some (.int .i64 0) := HR2.out.cell 0
  have r1 : w2.cell? ⟨w.heap.size + 1 + 1, 1, none⟩ = some (.slice none 0 0) := HR2.out.cell 1
  have r2 : w2.cell? ⟨w.heap.size + 1 + 1, 2, none⟩ = some (.slice none 0 0) := HR2.out.cell 2
  have fr0 := HR2.out.free 0
  have fr1 := HR2.out.free 1
  have fr2 := HR2.out.free 2
  go_wp2_with fail
  refine (HF.out _ HB2.out).mono ?_
  rintro y w3 ⟨rfl, hb3⟩
  have HK3 := kbq HK2 hb3
  have HX3 := kbq HX2 hb3
  have HR3 := kbq HR2 hb3
  have HB3 := ktq HB2 hb3
  clear HF hb3 HK2 HX2 HR2 b0 b1 b2 x0 x1 x2 x3 x4 x5 x6 x7 r0 r1 r2 fr0 fr1 fr2
  have b0 : w3.cell? ⟨w.heap.size, 0, none⟩ = some (.int .i64 me) := HK3.out.cell 0
  have b1 : w3.cell? ⟨w.heap.size, 1, none⟩ = some (.slice pi ni ci) := HK3.out.cell 1
  have b2 : w3.cell? ⟨w.heap.size, 2, none⟩ = some (.slice po no co) := HK3.out.cell 2
  have x0 : w3.cell? ⟨w.heap.size + 1, 0, none⟩ = some (.int .i64 x.s) := HX3.out.cell 0
  have x1 : w3.cell? ⟨w.heap.size + 1, 1, none⟩ = some (.int .i64 x.n) := HX3.out.cell 1
  have x2 : w3.cell? ⟨w.heap.size + 1, 2, none⟩ = some (.int .i64 x.b) := HX3.out.cell 2
  have x3 : w3.cell? ⟨w.heap.size + 1, 3, none⟩ = some (.int .i64 x.c) := HX3.out.cell 3
  have x4 : w3.cell? ⟨w.heap.size + 1, 4, none⟩ = some (.int .i64 x.a) := HX3.out.cell 4
  have x5 : w3.cell? ⟨w.heap.size + 1, 5, none⟩ = some (.int .i64 x.r) := HX3.out.cell 5
  have x6 : w3.cell? ⟨w.heap.size + 1, 6, none⟩ = some (.int .i64 x.t) := HX3.out.cell 6
  have x7 : w3.cell? ⟨w.heap.size + 1, 7, none⟩ = some (.int .i64 x.y) := HX3.out.cell 7
  have r0 : w3.cell? ⟨w.heap.size + 1 + 1, 0, none⟩ = some (.int .i64 0) := HR3.out.cell 0
  have r1 : w3.cell? ⟨w.heap.size + 1 + 1, 1, none⟩ = some (.slice none 0 0) := HR3.out.cell 1
  have r2 : w3.cell? ⟨w.heap.size + 1 + 1, 2, none⟩ = some (.slice none 0 0) := HR3.out.cell 2
  have fr0 := HR3.out.free 0
  have fr1 := HR3.out.free 1
  have fr2 := HR3.out.free 2
  go_wp2_with fail
  refine wp_region_held_drew (S := fun w' => True) (by kernel_rfl) trivial (fun hS0 => ?_)
  refine tkq 0 ?_
  refine tkq 1 ?_
  refine tnq 2 ?_
  refine tnq 3 ?_
  refine tnq 4 ?_
  refine tnq 5 ?_
  refine tnq 6 ?_
  refine tnq 7 ?_
  refine tnq 8 ?_
  refine tkq 9 ?_
  refine wpAnyH_done (by kernel_rfl) ?_ _
  clear b0 b1 b2 x0 x1 x2 x3 x4 x5 x6 x7 r0 r1 r2 fr0 fr1 fr2
  have b0 : w3.drew.cell? ⟨w.heap.size, 0, none⟩ = some (.int .i64 me) := HK3.out.cell 0
  have b1 : w3.drew.cell? ⟨w.heap.size, 1, none⟩ = some (.slice pi ni ci) := HK3.out.cell 1
  have b2 : w3.drew.cell? ⟨w.heap.size, 2, none⟩ = some (.slice po no co) := HK3.out.cell 2
  have x0 : w3.drew.cell? ⟨w.heap.size + 1, 0, none⟩ = some (.int .i64 x.s) := HX3.out.cell 0
  have x1 : w3.drew.cell? ⟨w.heap.size + 1, 1, none⟩ = some (.int .i64 x.n) := HX3.out.cell 1
  have x2 : w3.drew.cell? ⟨w.heap.size + 1, 2, none⟩ = some (.int .i64 x.b) := HX3.out.cell 2
  have x3 : w3.drew.cell? ⟨w.heap.size + 1, 3, none⟩ = some (.int .i64 x.c) := HX3.out.cell 3
  have x4 : w3.drew.cell? ⟨w.heap.size + 1, 4, none⟩ = some (.int .i64 x.a) := HX3.out.cell 4
  have x5 : w3.drew.cell? ⟨w.heap.size + 1, 5, none⟩ = some (.int .i64 x.r) := HX3.out.cell 5
  have x6 : w3.drew.cell? ⟨w.heap.size + 1, 6, none⟩ = some (.int .i64 x.t) := HX3.out.cell 6
  have x7 : w3.drew.cell? ⟨w.heap.size + 1, 7, none⟩ = some (.int .i64 x.y) := HX3.out.cell 7
  have r0 : w3.drew.cell? ⟨w.heap.size + 1 + 1, 0, none⟩ = some (.int .i64 0) := HR3.out.cell 0
  have r1 : w3.drew.cell? ⟨w.heap.size + 1 + 1, 1, none⟩ = some (.slice none 0 0) := HR3.out.cell 1
  have r2 : w3.drew.cell? ⟨w.heap.size + 1 + 1, 2, none⟩ = some (.slice none 0 0) := HR3.out.cell 2
  have fr0 := HR3.out.free 0
  have fr1 := HR3.out.free 1
  have fr2 := HR3.out.free 2
  go_wp2_with fail
  refine (HW.out w3.drew HB3.out.drew).mono ?_
  rintro y w4 ⟨v4, rfl, ho4, hb4⟩
  obtain ⟨p4, c4, hv4⟩ := ho4.form
  generalize hn4 : (A ++ [x] ++ B).length = n4 at hv4
  subst hv4
  have hb4 : Below w3.heap.size w3 w4 := (Below.refl _ _).drew.trans hb4
  have HK4 := kbq HK3 hb4
  have HX4 := kbq HX3 hb4
  have HR4 := kbq HR3 hb4
  have HB4 := ktq HB3 hb4
  have HO4 := Lib.hid (ho4.less (show w.heap.size ≤ w3.drew.heap.size from HB3.out.size))
  have HLT := Lib.hid ho4.block_ge
  have HSZ := Lib.hid (show w.heap.size + 1 + 1 < w3.drew.heap.size from HR3.out.lt)
  clear HW hb4 ho4 HK3 HX3 HR3 hn4 b0 b1 b2 x0 x1 x2 x3 x4 x5 x6 x7 r0 r1 r2 fr0 fr1 fr2
  have b0 : w4.cell? ⟨w.heap.size, 0, none⟩ = some (.int .i64 me) := HK4.out.cell 0
  have b1 : w4.cell? ⟨w.heap.size, 1, none⟩ = some (.slice pi ni ci) := HK4.out.cell 1
  have b2 : w4.cell? ⟨w.heap.size, 2, none⟩ = some (.slice po no co) := HK4.out.cell 2
  have x0 : w4.cell? ⟨w.heap.size + 1, 0, none⟩ = some (.int .i64 x.s) := HX4.out.cell 0
  have x1 : w4.cell? ⟨w.heap.size + 1, 1, none⟩ = some (.int .i64 x.n) := HX4.out.cell 1
  have x2 : w4.cell? ⟨w.heap.size + 1, 2, none⟩ = some (.int .i64 x.b) := HX4.out.cell 2
  have x3 : w4.cell? ⟨w.heap.size + 1, 3, none⟩ = some (.int .i64 x.c) := HX4.out.cell 3
  have x4 : w4.cell? ⟨w.heap.size + 1, 4, none⟩ = some (.int .i64 x.a) := HX4.out.cell 4
  have x5 : w4.cell? ⟨w.heap.size + 1, 5, none⟩ = some (.int .i64 x.r) := HX4.out.cell 5
  have x6 : w4.cell? ⟨w.heap.size + 1, 6, none⟩ = some (.int .i64 x.t) := HX4.out.cell 6
  have x7 : w4.cell? ⟨w.heap.size + 1, 7, none⟩ = some (.int .i64 x.y) := HX4.out.cell 7
  have r0 : w4.cell? ⟨w.heap.size + 1 + 1, 0, none⟩ = some (.int .i64 0) := HR4.out.cell 0
  have r1 : w4.cell? ⟨w.heap.size + 1 + 1, 1, none⟩ = some (.slice none 0 0) := HR4.out.cell 1
  have r2 : w4.cell? ⟨w.heap.size + 1 + 1, 2, none⟩ = some (.slice none 0 0) := HR4.out.cell 2
  have fr0 := HR4.out.free 0
  have fr1 := HR4.out.free 1
  have fr2 := HR4.out.free 2
  have fb1 := HK4.out.free 1
  go_wp2_with fail
  have hK5 := HK4.out.set 1 (.slice p4 n4 c4)
  have hR5 := HR4.out.setOther (a := ⟨w.heap.size, 1, none⟩) (by show w.heap.size ≠ w.heap.size + 1 + 1; omega) (.slice p4 n4 c4)
  have hf := ((hR5.set 0 (.int .i64 me)).set 1 (.slice p4 n4 c4)).set 2 (.slice po no co)
  have hB := HB4.out.setCell (p := ⟨w.heap.size, 1, none⟩) (Nat.le_refl _) (.slice p4 n4 c4) |>.setCell (p := ⟨w.heap.size + 1 + 1, 0, none⟩) (by show w.heap.size ≤ w.heap.size + 1 + 1; omega) (.int .i64 me) |>.setCell (p := ⟨w.heap.size + 1 + 1, 1, none⟩) (by show w.heap.size ≤ w.heap.size + 1 + 1; omega) (.slice p4 n4 c4) |>.setCell (p := ⟨w.heap.size + 1 + 1, 2, none⟩) (by show w.heap.size ≤ w.heap.size + 1 + 1; omega) (.slice po no co)
  have hO : OwnT encI (World.setCell (World.setCell (World.setCell (World.setCell w4 ⟨w.heap.size, 1, none⟩ (.slice p4 n4 c4)) ⟨w.heap.size + 1 + 1, 0, none⟩ (.int .i64 me)) ⟨w.heap.size + 1 + 1, 1, none⟩ (.slice p4 n4 c4)) ⟨w.heap.size + 1 + 1, 2, none⟩ (.slice po no co)) w.heap.size 64 (.slice p4 n4 c4) (A ++ [x] ++ B) := by
   refine HO4.out.stay (fun g hg => ?_)
   have hge := HLT.out g hg
   have hsz : w.heap.size + 1 + 1 < w3.drew.heap.size := HSZ.out
   rw [Below.heap_setCell _ _ _ g (by show g ≠ w.heap.size + 1 + 1; omega), Below.heap_setCell _ _ _ g (by show g ≠ w.heap.size + 1 + 1; omega), Below.heap_setCell _ _ _ g (by show g ≠ w.heap.size + 1 + 1; omega), Below.heap_setCell _ _ _ g (by show g ≠ w.heap.size; omega)]
  refine bodyPost_ret (v := .tuple #[.agg #[.int .i64 me, .slice p4 n4 c4, .slice po no co], .int .i64 0]) (by simp [results, Try.results66, go_sem, hf.cell 0, hf.cell 1, hf.cell 2]) rfl ⟨_, _, _, rfl, hO, hB⟩
 ·skip
  have e1 : (x.s != me) = true := by simpa using g
  have e2 : (x.b != me) = false := by simpa using g2
  clear g2
  clear g
  have b0 : w2.cell? ⟨w.heap.size, 0, none⟩ = some (.int .i64 me) := HK2.out.cell 0
  have b1 : w2.cell? ⟨w.heap.size, 1, none⟩ = some (.slice pi ni ci) := HK2.out.cell 1
  have b2 : w2.cell? ⟨w.heap.size, 2, none⟩ = some (.slice po no co) := HK2.out.cell 2
  have x0 : w2.cell? ⟨w.heap.size + 1, 0, none⟩ = some (.int .i64 x.s) := HX2.out.cell 0
  have x1 : w2.cell? ⟨w.heap.size + 1, 1, none⟩ = some (.int .i64 x.n) := HX2.out.cell 1
  have x2 : w2.cell? ⟨w.heap.size + 1, 2, none⟩ = some (.int .i64 x.b) := HX2.out.cell 2
  have x3 : w2.cell? ⟨w.heap.size + 1, 3, none⟩ = some (.int .i64 x.c) := HX2.out.cell 3
  have x4 : w2.cell? ⟨w.heap.size + 1, 4, none⟩ = some (.int .i64 x.a) := HX2.out.cell 4
  have x5 : w2.cell? ⟨w.heap.size + 1, 5, none⟩ = some (.int .i64 x.r) := HX2.out.cell 5
  have x6 : w2.cell? ⟨w.heap.size + 1, 6, none⟩ = some (.int .i64 x.t) := HX2.out.cell 6
  have x7 : w2.cell? ⟨w.heap.size + 1, 7, none⟩ = some (.int .i64 x.y) := HX2.out.cell 7
  have r0 : w2.cell? ⟨w.heap.size + 1 + 1, 0, none⟩ = some (.int .i64 0) := HR2.out.cell 0
  have r1 : w2.cell? ⟨w.heap.size + 1 + 1, 1, none⟩ = some (.slice none 0 0) := HR2.out.cell 1
  have r2 : w2.cell? ⟨w.heap.size + 1 + 1, 2, none⟩ = some (.slice none 0 0) := HR2.out.cell 2
  have fr0 := HR2.out.free 0
  have fr1 := HR2.out.free 1
  have fr2 := HR2.out.free 2
  go_wp2_with fail
  refine (HF.out _ HB2.out).mono ?_
  rintro y w3 ⟨rfl, hb3⟩
  have HK3 := kbq HK2 hb3
  have HX3 := kbq HX2 hb3
  have HR3 := kbq HR2 hb3
  have HB3 := ktq HB2 hb3
  clear HF hb3 HK2 HX2 HR2 b0 b1 b2 x0 x1 x2 x3 x4 x5 x6 x7 r0 r1 r2 fr0 fr1 fr2
  have b0 : w3.cell? ⟨w.heap.size, 0, none⟩ = some (.int .i64 me) := HK3.out.cell 0
  have b1 : w3.cell? ⟨w.heap.size, 1, none⟩ = some (.slice pi ni ci) := HK3.out.cell 1
  have b2 : w3.cell? ⟨w.heap.size, 2, none⟩ = some (.slice po no co) := HK3.out.cell 2
  have x0 : w3.cell? ⟨w.heap.size + 1, 0, none⟩ = some (.int .i64 x.s) := HX3.out.cell 0
  have x1 : w3.cell? ⟨w.heap.size + 1, 1, none⟩ = some (.int .i64 x.n) := HX3.out.cell 1
  have x2 : w3.cell? ⟨w.heap.size + 1, 2, none⟩ = some (.int .i64 x.b) := HX3.out.cell 2
  have x3 : w3.cell? ⟨w.heap.size + 1, 3, none⟩ = some (.int .i64 x.c) := HX3.out.cell 3
  have x4 : w3.cell? ⟨w.heap.size + 1, 4, none⟩ = some (.int .i64 x.a) := HX3.out.cell 4
  have x5 : w3.cell? ⟨w.heap.size + 1, 5, none⟩ = some (.int .i64 x.r) := HX3.out.cell 5
  have x6 : w3.cell? ⟨w.heap.size + 1, 6, none⟩ = some (.int .i64 x.t) := HX3.out.cell 6
  have x7 : w3.cell? ⟨w.heap.size + 1, 7, none⟩ = some (.int .i64 x.y) := HX3.out.cell 7
  have r0 : w3.cell? ⟨w.heap.size + 1 + 1, 0, none⟩ = some (.int .i64 0) := HR3.out.cell 0
  have r1 : w3.cell? ⟨w.heap.size + 1 + 1, 1, none⟩ = some (.slice none 0 0) := HR3.out.cell 1
  have r2 : w3.cell? ⟨w.heap.size + 1 + 1, 2, none⟩ = some (.slice none 0 0) := HR3.out.cell 2
  have fr0 := HR3.out.free 0
  have fr1 := HR3.out.free 1
  have fr2 := HR3.out.free 2
  go_wp2_with fail
  refine wp_region_held_drew (S := fun w' => True) (by kernel_rfl) trivial (fun hS0 => ?_)
  refine tkq 0 ?_
  refine tkq 1 ?_
  refine tnq 2 ?_
  refine tnq 3 ?_
  refine tnq 4 ?_
  refine tnq 5 ?_
  refine tnq 6 ?_
  refine tnq 7 ?_
  refine tnq 8 ?_
  refine tkq 9 ?_
  refine wpAnyH_done (by kernel_rfl) ?_ _
  clear b0 b1 b2 x0 x1 x2 x3 x4 x5 x6 x7 r0 r1 r2 fr0 fr1 fr2
  have b0 : w3.drew.cell? ⟨w.heap.size, 0, none⟩ = some (.int .i64 me) := HK3.out.cell 0
  have b1 : w3.drew.cell? ⟨w.heap.size, 1, none⟩ = some (.slice pi ni ci) := HK3.out.cell 1
  have b2 : w3.drew.cell? ⟨w.heap.size, 2, none⟩ = some (.slice po no co) := HK3.out.cell 2
  have x0 : w3.drew.cell? ⟨w.heap.size + 1, 0, none⟩ = some (.int .i64 x.s) := HX3.out.cell 0
  have x1 : w3.drew.cell? ⟨w.heap.size + 1, 1, none⟩ = some (.int .i64 x.n) := HX3.out.cell 1
  have x2 : w3.drew.cell? ⟨w.heap.size + 1, 2, none⟩ = some (.int .i64 x.b) := HX3.out.cell 2
  have x3 : w3.drew.cell? ⟨w.heap.size + 1, 3, none⟩ = some (.int .i64 x.c) := HX3.out.cell 3
  have x4 : w3.drew.cell? ⟨w.heap.size + 1, 4, none⟩ = some (.int .i64 x.a) := HX3.out.cell 4
  have x5 : w3.drew.cell? ⟨w.heap.size + 1, 5, none⟩ = some (.int .i64 x.r) := HX3.out.cell 5
  have x6 : w3.drew.cell? ⟨w.heap.size + 1, 6, none⟩ = some (.int .i64 x.t) := HX3.out.cell 6
  have x7 : w3.drew.cell? ⟨w.heap.size + 1, 7, none⟩ = some (.int .i64 x.y) := HX3.out.cell 7
  have r0 : w3.drew.cell? ⟨w.heap.size + 1 + 1, 0, none⟩ = some (.int .i64 0) := HR3.out.cell 0
  have r1 : w3.drew.cell? ⟨w.heap.size + 1 + 1, 1, none⟩ = some (.slice none 0 0) := HR3.out.cell 1
  have r2 : w3.drew.cell? ⟨w.heap.size + 1 + 1, 2, none⟩ = some (.slice none 0 0) := HR3.out.cell 2
  have fr0 := HR3.out.free 0
  have fr1 := HR3.out.free 1
  have fr2 := HR3.out.free 2
  go_wp2_with fail
  refine (HW.out w3.drew HB3.out.drew).mono ?_
  rintro y w4 ⟨v4, rfl, ho4, hb4⟩
  obtain ⟨p4, c4, hv4⟩ := ho4.form
  generalize hn4 : (A ++ [x] ++ B).length = n4 at hv4
  subst hv4
  have hb4 : Below w3.heap.size w3 w4 := (Below.refl _ _).drew.trans hb4
  have HK4 := kbq HK3 hb4
  have HX4 := kbq HX3 hb4
  have HR4 := kbq HR3 hb4
  have HB4 := ktq HB3 hb4
  have HO4 := Lib.hid (ho4.less (show w.heap.size ≤ w3.drew.heap.size from HB3.out.size))
  have HLT := Lib.hid ho4.block_ge
  have HSZ := Lib.hid (show w.heap.size + 1 + 1 < w3.drew.heap.size from HR3.out.lt)
  clear HW hb4 ho4 HK3 HX3 HR3 hn4 b0 b1 b2 x0 x1 x2 x3 x4 x5 x6 x7 r0 r1 r2 fr0 fr1 fr2
  have b0 : w4.cell? ⟨w.heap.size, 0, none⟩ = some (.int .i64 me) := HK4.out.cell 0
  have b1 : w4.cell? ⟨w.heap.size, 1, none⟩ = some (.slice pi ni ci) := HK4.out.cell 1
  have b2 : w4.cell? ⟨w.heap.size, 2, none⟩ = some (.slice po no co) := HK4.out.cell 2
  have x0 : w4.cell? ⟨w.heap.size + 1, 0, none⟩ = some (.int .i64 x.s) := HX4.out.cell 0
  have x1 : w4.cell? ⟨w.heap.size + 1, 1, none⟩ = some (.int .i64 x.n) := HX4.out.cell 1
  have x2 : w4.cell? ⟨w.heap.size + 1, 2, none⟩ = some (.int .i64 x.b) := HX4.out.cell 2
  have x3 : w4.cell? ⟨w.heap.size + 1, 3, none⟩ = some (.int .i64 x.c) := HX4.out.cell 3
  have x4 : w4.cell? ⟨w.heap.size + 1, 4, none⟩ = some (.int .i64 x.a) := HX4.out.cell 4
  have x5 : w4.cell? ⟨w.heap.size + 1, 5, none⟩ = some (.int .i64 x.r) := HX4.out.cell 5
  have x6 : w4.cell? ⟨w.heap.size + 1, 6, none⟩ = some (.int .i64 x.t) := HX4.out.cell 6
  have x7 : w4.cell? ⟨w.heap.size + 1, 7, none⟩ = some (.int .i64 x.y) := HX4.out.cell 7
  have r0 : w4.cell? ⟨w.heap.size + 1 + 1, 0, none⟩ = some (.int .i64 0) := HR4.out.cell 0
  have r1 : w4.cell? ⟨w.heap.size + 1 + 1, 1, none⟩ = some (.slice none 0 0) := HR4.out.cell 1
  have r2 : w4.cell? ⟨w.heap.size + 1 + 1, 2, none⟩ = some (.slice none 0 0) := HR4.out.cell 2
  have fr0 := HR4.out.free 0
  have fr1 := HR4.out.free 1
  have fr2 := HR4.out.free 2
  have fb1 := HK4.out.free 1
  go_wp2_with fail
  have hK5 := HK4.out.set 1 (.slice p4 n4 c4)
  have hR5 := HR4.out.setOther (a := ⟨w.heap.size, 1, none⟩) (by show w.heap.size ≠ w.heap.size + 1 + 1; omega) (.slice p4 n4 c4)
  have hf := ((hR5.set 0 (.int .i64 me)).set 1 (.slice p4 n4 c4)).set 2 (.slice po no co)
  have hB := HB4.out.setCell (p := ⟨w.heap.size, 1, none⟩) (Nat.le_refl _) (.slice p4 n4 c4) |>.setCell (p := ⟨w.heap.size + 1 + 1, 0, none⟩) (by show w.heap.size ≤ w.heap.size + 1 + 1; omega) (.int .i64 me) |>.setCell (p := ⟨w.heap.size + 1 + 1, 1, none⟩) (by show w.heap.size ≤ w.heap.size + 1 + 1; omega) (.slice p4 n4 c4) |>.setCell (p := ⟨w.heap.size + 1 + 1, 2, none⟩) (by show w.heap.size ≤ w.heap.size + 1 + 1; omega) (.slice po no co)
  have hO : OwnT encI (World.setCell (World.setCell (World.setCell (World.setCell w4 ⟨w.heap.size, 1, none⟩ (.slice p4 n4 c4)) ⟨w.heap.size + 1 + 1, 0, none⟩ (.int .i64 me)) ⟨w.heap.size + 1 + 1, 1, none⟩ (.slice p4 n4 c4)) ⟨w.heap.size + 1 + 1, 2, none⟩ (.slice po no co)) w.heap.size 64 (.slice p4 n4 c4) (A ++ [x] ++ B) := by
   refine HO4.out.stay (fun g hg => ?_)
   have hge := HLT.out g hg
   have hsz : w.heap.size + 1 + 1 < w3.drew.heap.size := HSZ.out
   rw [Below.heap_setCell _ _ _ g (by show g ≠ w.heap.size + 1 + 1; omega), Below.heap_setCell _ _ _ g (by show g ≠ w.heap.size + 1 + 1; omega), Below.heap_setCell _ _ _ g (by show g ≠ w.heap.size + 1 + 1; omega), Below.heap_setCell _ _ _ g (by show g ≠ w.heap.size; omega)]
  refine bodyPost_ret (v := .tuple #[.agg #[.int .i64 me, .slice p4 n4 c4, .slice po no co], .int .i64 0]) (by simp [results, Try.results66, go_sem, hf.cell 0, hf.cell 1, hf.cell 2]) rfl ⟨_, _, _, rfl, hO, hB⟩
set_option linter.unusedSimpArgs false in
set_option maxHeartbeats 4000000 in
set_option maxRecDepth 100000 in
theorem put_same (w : World) (me : Int) (pi po : Option Addr) (ni ci no co : Nat) (x : Itm) (xs A B : List Itm) (q : Itm) (hr : TRow encI w (.slice pi ni ci) xs) (hl : xs.length = ni) (hA : AroundF posI ⟨x.s, x.n, 0⟩ xs A [q] B) (hn : ni ≤ 1024) (h : chkI x = 0) (h1 : x.s = me ∨ x.b = me) (h3 : q = x) :
  Calls Try.prog 66 #[bookV me (.slice pi ni ci) (.slice po no co), x.v] w fun e w' => e = .returned (.tuple #[.agg #[.int .i64 me, .slice pi ni ci, .slice po no co], .int .i64 0]) ∧ Below w.heap.size w w' := by
 have hal : A.length < xs.length := by rw [hA.all]; simp <;> omega
 obtain ⟨b, o, hpv, hbl, hcs⟩ := hr.at_ A.length hal
 subst hpv
 have hq : xs[A.length] = q := by have e := hA.all; subst e; simp
 rw [hq] at hcs
 have hcap4 : ((A.length : Nat) : Int) < (ni : Int) := by omega
 rw [h3] at hcs
 have HQB := Lib.hid hbl
 have HQC := Lib.hid hcs
 clear hal hq hbl hcs
 have HCK := Lib.hid (fun (W : World) => check_any x W)
 rw [h] at HCK
 have HF := Lib.hid (fun (W : World) (hb : Below w.heap.size w W) => findI_any W me (.slice (some ⟨b, o, none⟩) ni ci) (.slice po no co) xs A [q] B x.s x.n (hr.kept hb) hA (by omega))
 rw [show decide (([q] : List Itm) ≠ []) = true by simp] at HF
 unfold idV at HF
 have H1 := Lib.hid h1
 clear hr hl hA hn h3
 clear h h1
 unfold Itm.v bookV at *
 go_enter Try.func66, Try.ntmps66
 go_wp2_with fail
 generalize hW1 : ((w.alloc (.cells #[.int .i64 me, .slice (some ⟨b, o, none⟩) ni ci, .slice po no co] 27)).alloc (.cells #[.int .i64 x.s, .int .i64 x.n, .int .i64 x.b, .int .i64 x.c, .int .i64 x.a, .int .i64 x.r, .int .i64 x.t, .int .i64 x.y] 64)).alloc (.cells #[.int .i64 0, .slice none 0 0, .slice none 0 0] 27) = W1
 have HB1 : Hid (Below w.heap.size w W1) := by show Below _ _ _; rw [← hW1]; exact ((oneB w _).alloc (by simp) _).alloc (by simp <;> omega) _
 have HK1 : Hid (Blk W1 w.heap.size #[.int .i64 me, .slice (some ⟨b, o, none⟩) ni ci, .slice po no co] 27) := by show Blk _ _ _ _; rw [← hW1]; exact ((Blk.new w _ _).alloc _).alloc _
 have HX1 : Hid (Blk W1 (w.heap.size + 1) #[.int .i64 x.s, .int .i64 x.n, .int .i64 x.b, .int .i64 x.c, .int .i64 x.a, .int .i64 x.r, .int .i64 x.t, .int .i64 x.y] 64) := by show Blk _ _ _ _; rw [← hW1]; exact (Blk.new' _ _ _ (by simp)).alloc _
 have HR1 : Hid (Blk W1 (w.heap.size + 1 + 1) #[.int .i64 0, .slice none 0 0, .slice none 0 0] 27) := by show Blk _ _ _ _; rw [← hW1]; exact Blk.new' _ _ _ (by simp)
 clear hW1
 refine (HCK.out _).mono ?_
 rintro y w2 ⟨rfl, hb2⟩
 have HK2 := kbq HK1 hb2
 have HX2 := kbq HX1 hb2
 have HR2 := kbq HR1 hb2
 have HB2 := ktq HB1 hb2
 clear HCK hb2 HK1 HX1 HR1
 rcases (show x.s = me ∨ (x.s ≠ me ∧ x.b = me) by rcases H1.out with h | h; exact .inl h; by_cases g : x.s = me; exact .inl g; exact .inr ⟨g, h⟩) with g | ⟨g, g2⟩
 ·skip
  have e1 : (x.s != me) = false := by simpa using g
  clear g
  have b0 : w2.cell? ⟨w.heap.size, 0, none⟩ = some (.int .i64 me) := HK2.out.cell 0
  have b1 : w2.cell? ⟨w.heap.size, 1, none⟩ = some (.slice (some ⟨b, o, none⟩) ni ci) := HK2.out.cell 1
  have b2 : w2.cell? ⟨w.heap.size, 2, none⟩ = some (.slice po no co) := HK2.out.cell 2
  have x0 : w2.cell? ⟨w.heap.size + 1, 0, none⟩ = some (.int .i64 x.s) := HX2.out.cell 0
  have x1 : w2.cell? ⟨w.heap.size + 1, 1, none⟩ = some (.int .i64 x.n) := HX2.out.cell 1
  have x2 : w2.cell? ⟨w.heap.size + 1, 2, none⟩ = some (.int .i64 x.b) := HX2.out.cell 2
  have x3 : w2.cell? ⟨w.heap.size + 1, 3, none⟩ = some (.int .i64 x.c) := HX2.out.cell 3
  have x4 : w2.cell? ⟨w.heap.size + 1, 4, none⟩ = some (.int .i64 x.a) := HX2.out.cell 4
  have x5 : w2.cell? ⟨w.heap.size + 1, 5, none⟩ = some (.int .i64 x.r) := HX2.out.cell 5
  have x6 : w2.cell? ⟨w.heap.size + 1, 6, none⟩ = some (.int .i64 x.t) := HX2.out.cell 6
  have x7 : w2.cell? ⟨w.heap.size + 1, 7, none⟩ = some (.int .i64 x.y) := HX2.out.cell 7
  have r0 : w2.cell? ⟨w.heap.size + 1 + 1, 0, none⟩ = some (.int .i64 0) := HR2.out.cell 0
  have r1 : w2.cell? ⟨w.heap.size + 1 + 1, 1, none⟩ = some (.slice none 0 0) := HR2.out.cell 1
  have r2 : w2.cell? ⟨w.heap.size + 1 + 1, 2, none⟩ = some (.slice none 0 0) := HR2.out.cell 2
  have fr0 := HR2.out.free 0
  have fr1 := HR2.out.free 1
  have fr2 := HR2.out.free 2
  go_wp2_with fail
  refine (HF.out _ HB2.out).mono ?_
  rintro y w3 ⟨rfl, hb3⟩
  have HK3 := kbq HK2 hb3
  have HX3 := kbq HX2 hb3
  have HR3 := kbq HR2 hb3
  have HB3 := ktq HB2 hb3
  clear HF hb3 HK2 HX2 HR2 b0 b1 b2 x0 x1 x2 x3 x4 x5 x6 x7 r0 r1 r2 fr0 fr1 fr2
  have b0 : w3.cell? ⟨w.heap.size, 0, none⟩ = some (.int .i64 me) := HK3.out.cell 0
  have b1 : w3.cell? ⟨w.heap.size, 1, none⟩ = some (.slice (some ⟨b, o, none⟩) ni ci) := HK3.out.cell 1
  have b2 : w3.cell? ⟨w.heap.size, 2, none⟩ = some (.slice po no co) := HK3.out.cell 2
  have x0 : w3.cell? ⟨w.heap.size + 1, 0, none⟩ = some (.int .i64 x.s) := HX3.out.cell 0
  have x1 : w3.cell? ⟨w.heap.size + 1, 1, none⟩ = some (.int .i64 x.n) := HX3.out.cell 1
  have x2 : w3.cell? ⟨w.heap.size + 1, 2, none⟩ = some (.int .i64 x.b) := HX3.out.cell 2
  have x3 : w3.cell? ⟨w.heap.size + 1, 3, none⟩ = some (.int .i64 x.c) := HX3.out.cell 3
  have x4 : w3.cell? ⟨w.heap.size + 1, 4, none⟩ = some (.int .i64 x.a) := HX3.out.cell 4
  have x5 : w3.cell? ⟨w.heap.size + 1, 5, none⟩ = some (.int .i64 x.r) := HX3.out.cell 5
  have x6 : w3.cell? ⟨w.heap.size + 1, 6, none⟩ = some (.int .i64 x.t) := HX3.out.cell 6
  have x7 : w3.cell? ⟨w.heap.size + 1, 7, none⟩ = some (.int .i64 x.y) := HX3.out.cell 7
  have r0 : w3.cell? ⟨w.heap.size + 1 + 1, 0, none⟩ = some (.int .i64 0) := HR3.out.cell 0
  have r1 : w3.cell? ⟨w.heap.size + 1 + 1, 1, none⟩ = some (.slice none 0 0) := HR3.out.cell 1
  have r2 : w3.cell? ⟨w.heap.size + 1 + 1, 2, none⟩ = some (.slice none 0 0) := HR3.out.cell 2
  have fr0 := HR3.out.free 0
  have fr1 := HR3.out.free 1
  have fr2 := HR3.out.free 2
  go_wp2_with fail
  have q0 : w3.drew.cell? ⟨b, o + A.length * 8, none⟩ = some (.int .i64 x.s) := (HB3.out.cell (p := ⟨b, _, none⟩) HQB.out).trans (HQC.out 0 (by decide))
  have q1 : w3.drew.cell? ⟨b, o + A.length * 8 + 1, none⟩ = some (.int .i64 x.n) := (HB3.out.cell (p := ⟨b, _, none⟩) HQB.out).trans (HQC.out 1 (by decide))
  have q2 : w3.drew.cell? ⟨b, o + A.length * 8 + 2, none⟩ = some (.int .i64 x.b) := (HB3.out.cell (p := ⟨b, _, none⟩) HQB.out).trans (HQC.out 2 (by decide))
  have q3 : w3.drew.cell? ⟨b, o + A.length * 8 + 3, none⟩ = some (.int .i64 x.c) := (HB3.out.cell (p := ⟨b, _, none⟩) HQB.out).trans (HQC.out 3 (by decide))
  have q4 : w3.drew.cell? ⟨b, o + A.length * 8 + 4, none⟩ = some (.int .i64 x.a) := (HB3.out.cell (p := ⟨b, _, none⟩) HQB.out).trans (HQC.out 4 (by decide))
  have q5 : w3.drew.cell? ⟨b, o + A.length * 8 + 5, none⟩ = some (.int .i64 x.r) := (HB3.out.cell (p := ⟨b, _, none⟩) HQB.out).trans (HQC.out 5 (by decide))
  have q6 : w3.drew.cell? ⟨b, o + A.length * 8 + 6, none⟩ = some (.int .i64 x.t) := (HB3.out.cell (p := ⟨b, _, none⟩) HQB.out).trans (HQC.out 6 (by decide))
  have q7 : w3.drew.cell? ⟨b, o + A.length * 8 + 7, none⟩ = some (.int .i64 x.y) := (HB3.out.cell (p := ⟨b, _, none⟩) HQB.out).trans (HQC.out 7 (by decide))
  have hSQ : w3.drew.cell? ⟨w.heap.size, 1, none⟩ = some (.slice (some ⟨b, o, none⟩) ni ci) ∧ w3.drew.cell? ⟨b, o + A.length * 8, none⟩ = some (.int .i64 x.s) ∧ w3.drew.cell? ⟨b, o + A.length * 8 + 1, none⟩ = some (.int .i64 x.n) ∧ w3.drew.cell? ⟨b, o + A.length * 8 + 2, none⟩ = some (.int .i64 x.b) ∧ w3.drew.cell? ⟨b, o + A.length * 8 + 3, none⟩ = some (.int .i64 x.c) ∧ w3.drew.cell? ⟨b, o + A.length * 8 + 4, none⟩ = some (.int .i64 x.a) ∧ w3.drew.cell? ⟨b, o + A.length * 8 + 5, none⟩ = some (.int .i64 x.r) ∧ w3.drew.cell? ⟨b, o + A.length * 8 + 6, none⟩ = some (.int .i64 x.t) ∧ w3.drew.cell? ⟨b, o + A.length * 8 + 7, none⟩ = some (.int .i64 x.y) ∧ w3.drew.cell? ⟨w.heap.size + 1, 0, none⟩ = some (.int .i64 x.s) ∧ w3.drew.cell? ⟨w.heap.size + 1, 1, none⟩ = some (.int .i64 x.n) ∧ w3.drew.cell? ⟨w.heap.size + 1, 2, none⟩ = some (.int .i64 x.b) ∧ w3.drew.cell? ⟨w.heap.size + 1, 3, none⟩ = some (.int .i64 x.c) ∧ w3.drew.cell? ⟨w.heap.size + 1, 4, none⟩ = some (.int .i64 x.a) ∧ w3.drew.cell? ⟨w.heap.size + 1, 5, none⟩ = some (.int .i64 x.r) ∧ w3.drew.cell? ⟨w.heap.size + 1, 6, none⟩ = some (.int .i64 x.t) ∧ w3.drew.cell? ⟨w.heap.size + 1, 7, none⟩ = some (.int .i64 x.y) := ⟨b1, q0, q1, q2, q3, q4, q5, q6, q7, x0, x1, x2, x3, x4, x5, x6, x7⟩
  refine wp_region_held_drew (S := fun w' => w'.cell? ⟨w.heap.size, 1, none⟩ = some (.slice (some ⟨b, o, none⟩) ni ci) ∧ w'.cell? ⟨b, o + A.length * 8, none⟩ = some (.int .i64 x.s) ∧ w'.cell? ⟨b, o + A.length * 8 + 1, none⟩ = some (.int .i64 x.n) ∧ w'.cell? ⟨b, o + A.length * 8 + 2, none⟩ = some (.int .i64 x.b) ∧ w'.cell? ⟨b, o + A.length * 8 + 3, none⟩ = some (.int .i64 x.c) ∧ w'.cell? ⟨b, o + A.length * 8 + 4, none⟩ = some (.int .i64 x.a) ∧ w'.cell? ⟨b, o + A.length * 8 + 5, none⟩ = some (.int .i64 x.r) ∧ w'.cell? ⟨b, o + A.length * 8 + 6, none⟩ = some (.int .i64 x.t) ∧ w'.cell? ⟨b, o + A.length * 8 + 7, none⟩ = some (.int .i64 x.y) ∧ w'.cell? ⟨w.heap.size + 1, 0, none⟩ = some (.int .i64 x.s) ∧ w'.cell? ⟨w.heap.size + 1, 1, none⟩ = some (.int .i64 x.n) ∧ w'.cell? ⟨w.heap.size + 1, 2, none⟩ = some (.int .i64 x.b) ∧ w'.cell? ⟨w.heap.size + 1, 3, none⟩ = some (.int .i64 x.c) ∧ w'.cell? ⟨w.heap.size + 1, 4, none⟩ = some (.int .i64 x.a) ∧ w'.cell? ⟨w.heap.size + 1, 5, none⟩ = some (.int .i64 x.r) ∧ w'.cell? ⟨w.heap.size + 1, 6, none⟩ = some (.int .i64 x.t) ∧ w'.cell? ⟨w.heap.size + 1, 7, none⟩ = some (.int .i64 x.y)) (by kernel_rfl) hSQ (fun hS0 => ?_)
  refine tkq 0 ?_
  refine tkq 1 ?_
  refine tkq 2 ?_
  refine tkq 3 ?_
  refine tkq 4 ?_
  refine tkq 5 ?_
  refine tkq 6 ?_
  refine tkq 7 ?_
  refine tkq 8 ?_
  refine tkq 9 ?_
  refine wpAnyH_done (by kernel_rfl) ?_ _
  clear hSQ hS0
  clear b0 b1 b2 x0 x1 x2 x3 x4 x5 x6 x7 r0 r1 r2 fr0 fr1 fr2 q0 q1 q2 q3 q4 q5 q6 q7
  have HK4 : Hid (Blk w3.drew w.heap.size #[.int .i64 me, .slice (some ⟨b, o, none⟩) ni ci, .slice po no co] 27) := HK3.out
  have HX4 : Hid (Blk w3.drew (w.heap.size + 1) #[.int .i64 x.s, .int .i64 x.n, .int .i64 x.b, .int .i64 x.c, .int .i64 x.a, .int .i64 x.r, .int .i64 x.t, .int .i64 x.y] 64) := HX3.out
  have HR4 : Hid (Blk w3.drew (w.heap.size + 1 + 1) #[.int .i64 0, .slice none 0 0, .slice none 0 0] 27) := HR3.out
  have HB4 : Hid (Below w.heap.size w w3.drew) := HB3.out.drew
  clear HK3 HX3 HR3 HB3
  generalize w3.drew = w4 at *
  have b0 : w4.cell? ⟨w.heap.size, 0, none⟩ = some (.int .i64 me) := HK4.out.cell 0
  have b1 : w4.cell? ⟨w.heap.size, 1, none⟩ = some (.slice (some ⟨b, o, none⟩) ni ci) := HK4.out.cell 1
  have b2 : w4.cell? ⟨w.heap.size, 2, none⟩ = some (.slice po no co) := HK4.out.cell 2
  have x0 : w4.cell? ⟨w.heap.size + 1, 0, none⟩ = some (.int .i64 x.s) := HX4.out.cell 0
  have x1 : w4.cell? ⟨w.heap.size + 1, 1, none⟩ = some (.int .i64 x.n) := HX4.out.cell 1
  have x2 : w4.cell? ⟨w.heap.size + 1, 2, none⟩ = some (.int .i64 x.b) := HX4.out.cell 2
  have x3 : w4.cell? ⟨w.heap.size + 1, 3, none⟩ = some (.int .i64 x.c) := HX4.out.cell 3
  have x4 : w4.cell? ⟨w.heap.size + 1, 4, none⟩ = some (.int .i64 x.a) := HX4.out.cell 4
  have x5 : w4.cell? ⟨w.heap.size + 1, 5, none⟩ = some (.int .i64 x.r) := HX4.out.cell 5
  have x6 : w4.cell? ⟨w.heap.size + 1, 6, none⟩ = some (.int .i64 x.t) := HX4.out.cell 6
  have x7 : w4.cell? ⟨w.heap.size + 1, 7, none⟩ = some (.int .i64 x.y) := HX4.out.cell 7
  have r0 : w4.cell? ⟨w.heap.size + 1 + 1, 0, none⟩ = some (.int .i64 0) := HR4.out.cell 0
  have r1 : w4.cell? ⟨w.heap.size + 1 + 1, 1, none⟩ = some (.slice none 0 0) := HR4.out.cell 1
  have r2 : w4.cell? ⟨w.heap.size + 1 + 1, 2, none⟩ = some (.slice none 0 0) := HR4.out.cell 2
  have fr0 := HR4.out.free 0
  have fr1 := HR4.out.free 1
  have fr2 := HR4.out.free 2
  go_wp2_with fail
  have hf := ((HR4.out.set 0 (.int .i64 me)).set 1 (.slice (some ⟨b, o, none⟩) ni ci)).set 2 (.slice po no co)
  have hB := HB4.out.setCell (p := ⟨w.heap.size + 1 + 1, 0, none⟩) (by show w.heap.size ≤ w.heap.size + 1 + 1; omega) (.int .i64 me) |>.setCell (p := ⟨w.heap.size + 1 + 1, 1, none⟩) (by show w.heap.size ≤ w.heap.size + 1 + 1; omega) (.slice (some ⟨b, o, none⟩) ni ci) |>.setCell (p := ⟨w.heap.size + 1 + 1, 2, none⟩) (by show w.heap.size ≤ w.heap.size + 1 + 1; omega) (.slice po no co)
  refine bodyPost_ret (v := .tuple #[.agg #[.int .i64 me, .slice (some ⟨b, o, none⟩) ni ci, .slice po no co], .int .i64 0]) (by simp [results, Try.results66, go_sem, hf.cell 0, hf.cell 1, hf.cell 2]) rfl ⟨rfl, hB⟩
 ·skip
  have e1 : (x.s != me) = true := by simpa using g
  have e2 : (x.b != me) = false := by simpa using g2
  clear g2
  clear g
  have b0 : w2.cell? ⟨w.heap.size, 0, none⟩ = some (.int .i64 me) := HK2.out.cell 0
  have b1 : w2.cell? ⟨w.heap.size, 1, none⟩ = some (.slice (some ⟨b, o, none⟩) ni ci) := HK2.out.cell 1
  have b2 : w2.cell? ⟨w.heap.size, 2, none⟩ = some (.slice po no co) := HK2.out.cell 2
  have x0 : w2.cell? ⟨w.heap.size + 1, 0, none⟩ = some (.int .i64 x.s) := HX2.out.cell 0
  have x1 : w2.cell? ⟨w.heap.size + 1, 1, none⟩ = some (.int .i64 x.n) := HX2.out.cell 1
  have x2 : w2.cell? ⟨w.heap.size + 1, 2, none⟩ = some (.int .i64 x.b) := HX2.out.cell 2
  have x3 : w2.cell? ⟨w.heap.size + 1, 3, none⟩ = some (.int .i64 x.c) := HX2.out.cell 3
  have x4 : w2.cell? ⟨w.heap.size + 1, 4, none⟩ = some (.int .i64 x.a) := HX2.out.cell 4
  have x5 : w2.cell? ⟨w.heap.size + 1, 5, none⟩ = some (.int .i64 x.r) := HX2.out.cell 5
  have x6 : w2.cell? ⟨w.heap.size + 1, 6, none⟩ = some (.int .i64 x.t) := HX2.out.cell 6
  have x7 : w2.cell? ⟨w.heap.size + 1, 7, none⟩ = some (.int .i64 x.y) := HX2.out.cell 7
  have r0 : w2.cell? ⟨w.heap.size + 1 + 1, 0, none⟩ = some (.int .i64 0) := HR2.out.cell 0
  have r1 : w2.cell? ⟨w.heap.size + 1 + 1, 1, none⟩ = some (.slice none 0 0) := HR2.out.cell 1
  have r2 : w2.cell? ⟨w.heap.size + 1 + 1, 2, none⟩ = some (.slice none 0 0) := HR2.out.cell 2
  have fr0 := HR2.out.free 0
  have fr1 := HR2.out.free 1
  have fr2 := HR2.out.free 2
  go_wp2_with fail
  refine (HF.out _ HB2.out).mono ?_
  rintro y w3 ⟨rfl, hb3⟩
  have HK3 := kbq HK2 hb3
  have HX3 := kbq HX2 hb3
  have HR3 := kbq HR2 hb3
  have HB3 := ktq HB2 hb3
  clear HF hb3 HK2 HX2 HR2 b0 b1 b2 x0 x1 x2 x3 x4 x5 x6 x7 r0 r1 r2 fr0 fr1 fr2
  have b0 : w3.cell? ⟨w.heap.size, 0, none⟩ = some (.int .i64 me) := HK3.out.cell 0
  have b1 : w3.cell? ⟨w.heap.size, 1, none⟩ = some (.slice (some ⟨b, o, none⟩) ni ci) := HK3.out.cell 1
  have b2 : w3.cell? ⟨w.heap.size, 2, none⟩ = some (.slice po no co) := HK3.out.cell 2
  have x0 : w3.cell? ⟨w.heap.size + 1, 0, none⟩ = some (.int .i64 x.s) := HX3.out.cell 0
  have x1 : w3.cell? ⟨w.heap.size + 1, 1, none⟩ = some (.int .i64 x.n) := HX3.out.cell 1
  have x2 : w3.cell? ⟨w.heap.size + 1, 2, none⟩ = some (.int .i64 x.b) := HX3.out.cell 2
  have x3 : w3.cell? ⟨w.heap.size + 1, 3, none⟩ = some (.int .i64 x.c) := HX3.out.cell 3
  have x4 : w3.cell? ⟨w.heap.size + 1, 4, none⟩ = some (.int .i64 x.a) := HX3.out.cell 4
  have x5 : w3.cell? ⟨w.heap.size + 1, 5, none⟩ = some (.int .i64 x.r) := HX3.out.cell 5
  have x6 : w3.cell? ⟨w.heap.size + 1, 6, none⟩ = some (.int .i64 x.t) := HX3.out.cell 6
  have x7 : w3.cell? ⟨w.heap.size + 1, 7, none⟩ = some (.int .i64 x.y) := HX3.out.cell 7
  have r0 : w3.cell? ⟨w.heap.size + 1 + 1, 0, none⟩ = some (.int .i64 0) := HR3.out.cell 0
  have r1 : w3.cell? ⟨w.heap.size + 1 + 1, 1, none⟩ = some (.slice none 0 0) := HR3.out.cell 1
  have r2 : w3.cell? ⟨w.heap.size + 1 + 1, 2, none⟩ = some (.slice none 0 0) := HR3.out.cell 2
  have fr0 := HR3.out.free 0
  have fr1 := HR3.out.free 1
  have fr2 := HR3.out.free 2
  go_wp2_with fail
  have q0 : w3.drew.cell? ⟨b, o + A.length * 8, none⟩ = some (.int .i64 x.s) := (HB3.out.cell (p := ⟨b, _, none⟩) HQB.out).trans (HQC.out 0 (by decide))
  have q1 : w3.drew.cell? ⟨b, o + A.length * 8 + 1, none⟩ = some (.int .i64 x.n) := (HB3.out.cell (p := ⟨b, _, none⟩) HQB.out).trans (HQC.out 1 (by decide))
  have q2 : w3.drew.cell? ⟨b, o + A.length * 8 + 2, none⟩ = some (.int .i64 x.b) := (HB3.out.cell (p := ⟨b, _, none⟩) HQB.out).trans (HQC.out 2 (by decide))
  have q3 : w3.drew.cell? ⟨b, o + A.length * 8 + 3, none⟩ = some (.int .i64 x.c) := (HB3.out.cell (p := ⟨b, _, none⟩) HQB.out).trans (HQC.out 3 (by decide))
  have q4 : w3.drew.cell? ⟨b, o + A.length * 8 + 4, none⟩ = some (.int .i64 x.a) := (HB3.out.cell (p := ⟨b, _, none⟩) HQB.out).trans (HQC.out 4 (by decide))
  have q5 : w3.drew.cell? ⟨b, o + A.length * 8 + 5, none⟩ = some (.int .i64 x.r) := (HB3.out.cell (p := ⟨b, _, none⟩) HQB.out).trans (HQC.out 5 (by decide))
  have q6 : w3.drew.cell? ⟨b, o + A.length * 8 + 6, none⟩ = some (.int .i64 x.t) := (HB3.out.cell (p := ⟨b, _, none⟩) HQB.out).trans (HQC.out 6 (by decide))
  have q7 : w3.drew.cell? ⟨b, o + A.length * 8 + 7, none⟩ = some (.int .i64 x.y) := (HB3.out.cell (p := ⟨b, _, none⟩) HQB.out).trans (HQC.out 7 (by decide))
  have hSQ : w3.drew.cell? ⟨w.heap.size, 1, none⟩ = some (.slice (some ⟨b, o, none⟩) ni ci) ∧ w3.drew.cell? ⟨b, o + A.length * 8, none⟩ = some (.int .i64 x.s) ∧ w3.drew.cell? ⟨b, o + A.length * 8 + 1, none⟩ = some (.int .i64 x.n) ∧ w3.drew.cell? ⟨b, o + A.length * 8 + 2, none⟩ = some (.int .i64 x.b) ∧ w3.drew.cell? ⟨b, o + A.length * 8 + 3, none⟩ = some (.int .i64 x.c) ∧ w3.drew.cell? ⟨b, o + A.length * 8 + 4, none⟩ = some (.int .i64 x.a) ∧ w3.drew.cell? ⟨b, o + A.length * 8 + 5, none⟩ = some (.int .i64 x.r) ∧ w3.drew.cell? ⟨b, o + A.length * 8 + 6, none⟩ = some (.int .i64 x.t) ∧ w3.drew.cell? ⟨b, o + A.length * 8 + 7, none⟩ = some (.int .i64 x.y) ∧ w3.drew.cell? ⟨w.heap.size + 1, 0, none⟩ = some (.int .i64 x.s) ∧ w3.drew.cell? ⟨w.heap.size + 1, 1, none⟩ = some (.int .i64 x.n) ∧ w3.drew.cell? ⟨w.heap.size + 1, 2, none⟩ = some (.int .i64 x.b) ∧ w3.drew.cell? ⟨w.heap.size + 1, 3, none⟩ = some (.int .i64 x.c) ∧ w3.drew.cell? ⟨w.heap.size + 1, 4, none⟩ = some (.int .i64 x.a) ∧ w3.drew.cell? ⟨w.heap.size + 1, 5, none⟩ = some (.int .i64 x.r) ∧ w3.drew.cell? ⟨w.heap.size + 1, 6, none⟩ = some (.int .i64 x.t) ∧ w3.drew.cell? ⟨w.heap.size + 1, 7, none⟩ = some (.int .i64 x.y) := ⟨b1, q0, q1, q2, q3, q4, q5, q6, q7, x0, x1, x2, x3, x4, x5, x6, x7⟩
  refine wp_region_held_drew (S := fun w' => w'.cell? ⟨w.heap.size, 1, none⟩ = some (.slice (some ⟨b, o, none⟩) ni ci) ∧ w'.cell? ⟨b, o + A.length * 8, none⟩ = some (.int .i64 x.s) ∧ w'.cell? ⟨b, o + A.length * 8 + 1, none⟩ = some (.int .i64 x.n) ∧ w'.cell? ⟨b, o + A.length * 8 + 2, none⟩ = some (.int .i64 x.b) ∧ w'.cell? ⟨b, o + A.length * 8 + 3, none⟩ = some (.int .i64 x.c) ∧ w'.cell? ⟨b, o + A.length * 8 + 4, none⟩ = some (.int .i64 x.a) ∧ w'.cell? ⟨b, o + A.length * 8 + 5, none⟩ = some (.int .i64 x.r) ∧ w'.cell? ⟨b, o + A.length * 8 + 6, none⟩ = some (.int .i64 x.t) ∧ w'.cell? ⟨b, o + A.length * 8 + 7, none⟩ = some (.int .i64 x.y) ∧ w'.cell? ⟨w.heap.size + 1, 0, none⟩ = some (.int .i64 x.s) ∧ w'.cell? ⟨w.heap.size + 1, 1, none⟩ = some (.int .i64 x.n) ∧ w'.cell? ⟨w.heap.size + 1, 2, none⟩ = some (.int .i64 x.b) ∧ w'.cell? ⟨w.heap.size + 1, 3, none⟩ = some (.int .i64 x.c) ∧ w'.cell? ⟨w.heap.size + 1, 4, none⟩ = some (.int .i64 x.a) ∧ w'.cell? ⟨w.heap.size + 1, 5, none⟩ = some (.int .i64 x.r) ∧ w'.cell? ⟨w.heap.size + 1, 6, none⟩ = some (.int .i64 x.t) ∧ w'.cell? ⟨w.heap.size + 1, 7, none⟩ = some (.int .i64 x.y)) (by kernel_rfl) hSQ (fun hS0 => ?_)
  refine tkq 0 ?_
  refine tkq 1 ?_
  refine tkq 2 ?_
  refine tkq 3 ?_
  refine tkq 4 ?_
  refine tkq 5 ?_
  refine tkq 6 ?_
  refine tkq 7 ?_
  refine tkq 8 ?_
  refine tkq 9 ?_
  refine wpAnyH_done (by kernel_rfl) ?_ _
  clear hSQ hS0
  clear b0 b1 b2 x0 x1 x2 x3 x4 x5 x6 x7 r0 r1 r2 fr0 fr1 fr2 q0 q1 q2 q3 q4 q5 q6 q7
  have HK4 : Hid (Blk w3.drew w.heap.size #[.int .i64 me, .slice (some ⟨b, o, none⟩) ni ci, .slice po no co] 27) := HK3.out
  have HX4 : Hid (Blk w3.drew (w.heap.size + 1) #[.int .i64 x.s, .int .i64 x.n, .int .i64 x.b, .int .i64 x.c, .int .i64 x.a, .int .i64 x.r, .int .i64 x.t, .int .i64 x.y] 64) := HX3.out
  have HR4 : Hid (Blk w3.drew (w.heap.size + 1 + 1) #[.int .i64 0, .slice none 0 0, .slice none 0 0] 27) := HR3.out
  have HB4 : Hid (Below w.heap.size w w3.drew) := HB3.out.drew
  clear HK3 HX3 HR3 HB3
  generalize w3.drew = w4 at *
  have b0 : w4.cell? ⟨w.heap.size, 0, none⟩ = some (.int .i64 me) := HK4.out.cell 0
  have b1 : w4.cell? ⟨w.heap.size, 1, none⟩ = some (.slice (some ⟨b, o, none⟩) ni ci) := HK4.out.cell 1
  have b2 : w4.cell? ⟨w.heap.size, 2, none⟩ = some (.slice po no co) := HK4.out.cell 2
  have x0 : w4.cell? ⟨w.heap.size + 1, 0, none⟩ = some (.int .i64 x.s) := HX4.out.cell 0
  have x1 : w4.cell? ⟨w.heap.size + 1, 1, none⟩ = some (.int .i64 x.n) := HX4.out.cell 1
  have x2 : w4.cell? ⟨w.heap.size + 1, 2, none⟩ = some (.int .i64 x.b) := HX4.out.cell 2
  have x3 : w4.cell? ⟨w.heap.size + 1, 3, none⟩ = some (.int .i64 x.c) := HX4.out.cell 3
  have x4 : w4.cell? ⟨w.heap.size + 1, 4, none⟩ = some (.int .i64 x.a) := HX4.out.cell 4
  have x5 : w4.cell? ⟨w.heap.size + 1, 5, none⟩ = some (.int .i64 x.r) := HX4.out.cell 5
  have x6 : w4.cell? ⟨w.heap.size + 1, 6, none⟩ = some (.int .i64 x.t) := HX4.out.cell 6
  have x7 : w4.cell? ⟨w.heap.size + 1, 7, none⟩ = some (.int .i64 x.y) := HX4.out.cell 7
  have r0 : w4.cell? ⟨w.heap.size + 1 + 1, 0, none⟩ = some (.int .i64 0) := HR4.out.cell 0
  have r1 : w4.cell? ⟨w.heap.size + 1 + 1, 1, none⟩ = some (.slice none 0 0) := HR4.out.cell 1
  have r2 : w4.cell? ⟨w.heap.size + 1 + 1, 2, none⟩ = some (.slice none 0 0) := HR4.out.cell 2
  have fr0 := HR4.out.free 0
  have fr1 := HR4.out.free 1
  have fr2 := HR4.out.free 2
  go_wp2_with fail
  have hf := ((HR4.out.set 0 (.int .i64 me)).set 1 (.slice (some ⟨b, o, none⟩) ni ci)).set 2 (.slice po no co)
  have hB := HB4.out.setCell (p := ⟨w.heap.size + 1 + 1, 0, none⟩) (by show w.heap.size ≤ w.heap.size + 1 + 1; omega) (.int .i64 me) |>.setCell (p := ⟨w.heap.size + 1 + 1, 1, none⟩) (by show w.heap.size ≤ w.heap.size + 1 + 1; omega) (.slice (some ⟨b, o, none⟩) ni ci) |>.setCell (p := ⟨w.heap.size + 1 + 1, 2, none⟩) (by show w.heap.size ≤ w.heap.size + 1 + 1; omega) (.slice po no co)
  refine bodyPost_ret (v := .tuple #[.agg #[.int .i64 me, .slice (some ⟨b, o, none⟩) ni ci, .slice po no co], .int .i64 0]) (by simp [results, Try.results66, go_sem, hf.cell 0, hf.cell 1, hf.cell 2]) rfl ⟨rfl, hB⟩
set_option linter.unusedSimpArgs false in
set_option maxHeartbeats 4000000 in
set_option maxRecDepth 100000 in
theorem put_other2 (w : World) (me : Int) (pi po : Option Addr) (ni ci no co : Nat) (x : Itm) (xs A B : List Itm) (q : Itm) (hr : TRow encI w (.slice pi ni ci) xs) (hl : xs.length = ni) (hA : AroundF posI ⟨x.s, x.n, 0⟩ xs A [q] B) (hn : ni ≤ 1024) (h : chkI x = 0) (h1 : x.s = me ∨ x.b = me) (h3 : q ≠ x) :
  Calls Try.prog 66 #[bookV me (.slice pi ni ci) (.slice po no co), x.v] w fun e w' => ∃ pi' ni' ci', e = .returned (.tuple #[.agg #[.int .i64 me, .slice pi' ni' ci', .slice po no co], .int .i64 0]) ∧ OwnT encI w' w.heap.size 64 (.slice pi' ni' ci') (A ++ [x] ++ B) ∧ Below w.heap.size w w' := by
 have hal : A.length < xs.length := by rw [hA.all]; simp <;> omega
 obtain ⟨b, o, hpv, hbl, hcs⟩ := hr.at_ A.length hal
 subst hpv
 have hq : xs[A.length] = q := by have e := hA.all; subst e; simp
 rw [hq] at hcs
 have hcap4 : ((A.length : Nat) : Int) < (ni : Int) := by omega
 have HQB := Lib.hid hbl
 have HQC := Lib.hid hcs
 clear hal hq hbl hcs
 have HCK := Lib.hid (fun (W : World) => check_any x W)
 rw [h] at HCK
 have HF := Lib.hid (fun (W : World) (hb : Below w.heap.size w W) => findI_any W me (.slice (some ⟨b, o, none⟩) ni ci) (.slice po no co) xs A [q] B x.s x.n (hr.kept hb) hA (by omega))
 rw [show decide (([q] : List Itm) ≠ []) = true by simp] at HF
 unfold idV at HF
 have H1 := Lib.hid h1
 have HW := Lib.hid (fun (W : World) (hb : Below w.heap.size w W) => withI_any W (.slice (some ⟨b, o, none⟩) ni ci) xs A [q] B _ x (hr.kept hb) hA (by omega))
 rw [show decide (([q] : List Itm) ≠ []) = true by simp] at HW
 unfold Itm.v at HW
 have H3 := Lib.hid h3
 clear hr hl hA hn h3
 clear h h1
 unfold Itm.v bookV at *
 go_enter Try.func66, Try.ntmps66
 go_wp2_with fail
 generalize hW1 : ((w.alloc (.cells #[.int .i64 me, .slice (some ⟨b, o, none⟩) ni ci, .slice po no co] 27)).alloc (.cells #[.int .i64 x.s, .int .i64 x.n, .int .i64 x.b, .int .i64 x.c, .int .i64 x.a, .int .i64 x.r, .int .i64 x.t, .int .i64 x.y] 64)).alloc (.cells #[.int .i64 0, .slice none 0 0, .slice none 0 0] 27) = W1
 have HB1 : Hid (Below w.heap.size w W1) := by show Below _ _ _; rw [← hW1]; exact ((oneB w _).alloc (by simp) _).alloc (by simp <;> omega) _
 have HK1 : Hid (Blk W1 w.heap.size #[.int .i64 me, .slice (some ⟨b, o, none⟩) ni ci, .slice po no co] 27) := by show Blk _ _ _ _; rw [← hW1]; exact ((Blk.new w _ _).alloc _).alloc _
 have HX1 : Hid (Blk W1 (w.heap.size + 1) #[.int .i64 x.s, .int .i64 x.n, .int .i64 x.b, .int .i64 x.c, .int .i64 x.a, .int .i64 x.r, .int .i64 x.t, .int .i64 x.y] 64) := by show Blk _ _ _ _; rw [← hW1]; exact (Blk.new' _ _ _ (by simp)).alloc _
 have HR1 : Hid (Blk W1 (w.heap.size + 1 + 1) #[.int .i64 0, .slice none 0 0, .slice none 0 0] 27) := by show Blk _ _ _ _; rw [← hW1]; exact Blk.new' _ _ _ (by simp)
 clear hW1
 refine (HCK.out _).mono ?_
 rintro y w2 ⟨rfl, hb2⟩
 have HK2 := kbq HK1 hb2
 have HX2 := kbq HX1 hb2
 have HR2 := kbq HR1 hb2
 have HB2 := ktq HB1 hb2
 clear HCK hb2 HK1 HX1 HR1
 rcases (show x.s = me ∨ (x.s ≠ me ∧ x.b = me) by rcases H1.out with h | h; exact .inl h; by_cases g : x.s = me; exact .inl g; exact .inr ⟨g, h⟩) with g | ⟨g, g2⟩
 ·skip
  have e1 : (x.s != me) = false := by simpa using g
  clear g
  have b0 : w2.cell? ⟨w.heap.size, 0, none⟩ = some (.int .i64 me) := HK2.out.cell 0
  have b1 : w2.cell? ⟨w.heap.size, 1, none⟩ = some (.slice (some ⟨b, o, none⟩) ni ci) := HK2.out.cell 1
  have b2 : w2.cell? ⟨w.heap.size, 2, none⟩ = some (.slice po no co) := HK2.out.cell 2
  have x0 : w2.cell? ⟨w.heap.size + 1, 0, none⟩ = some (.int .i64 x.s) := HX2.out.cell 0
  have x1 : w2.cell? ⟨w.heap.size + 1, 1, none⟩ = some (.int .i64 x.n) := HX2.out.cell 1
  have x2 : w2.cell? ⟨w.heap.size + 1, 2, none⟩ = some (.int .i64 x.b) := HX2.out.cell 2
  have x3 : w2.cell? ⟨w.heap.size + 1, 3, none⟩ = some (.int .i64 x.c) := HX2.out.cell 3
  have x4 : w2.cell? ⟨w.heap.size + 1, 4, none⟩ = some (.int .i64 x.a) := HX2.out.cell 4
  have x5 : w2.cell? ⟨w.heap.size + 1, 5, none⟩ = some (.int .i64 x.r) := HX2.out.cell 5
  have x6 : w2.cell? ⟨w.heap.size + 1, 6, none⟩ = some (.int .i64 x.t) := HX2.out.cell 6
  have x7 : w2.cell? ⟨w.heap.size + 1, 7, none⟩ = some (.int .i64 x.y) := HX2.out.cell 7
  have r0 : w2.cell? ⟨w.heap.size + 1 + 1, 0, none⟩ = some (.int .i64 0) := HR2.out.cell 0
  have r1 : w2.cell? ⟨w.heap.size + 1 + 1, 1, none⟩ = some (.slice none 0 0) := HR2.out.cell 1
  have r2 : w2.cell? ⟨w.heap.size + 1 + 1, 2, none⟩ = some (.slice none 0 0) := HR2.out.cell 2
  have fr0 := HR2.out.free 0
  have fr1 := HR2.out.free 1
  have fr2 := HR2.out.free 2
  go_wp2_with fail
  refine (HF.out _ HB2.out).mono ?_
  rintro y w3 ⟨rfl, hb3⟩
  have HK3 := kbq HK2 hb3
  have HX3 := kbq HX2 hb3
  have HR3 := kbq HR2 hb3
  have HB3 := ktq HB2 hb3
  clear HF hb3 HK2 HX2 HR2 b0 b1 b2 x0 x1 x2 x3 x4 x5 x6 x7 r0 r1 r2 fr0 fr1 fr2
  have b0 : w3.cell? ⟨w.heap.size, 0, none⟩ = some (.int .i64 me) := HK3.out.cell 0
  have b1 : w3.cell? ⟨w.heap.size, 1, none⟩ = some (.slice (some ⟨b, o, none⟩) ni ci) := HK3.out.cell 1
  have b2 : w3.cell? ⟨w.heap.size, 2, none⟩ = some (.slice po no co) := HK3.out.cell 2
  have x0 : w3.cell? ⟨w.heap.size + 1, 0, none⟩ = some (.int .i64 x.s) := HX3.out.cell 0
  have x1 : w3.cell? ⟨w.heap.size + 1, 1, none⟩ = some (.int .i64 x.n) := HX3.out.cell 1
  have x2 : w3.cell? ⟨w.heap.size + 1, 2, none⟩ = some (.int .i64 x.b) := HX3.out.cell 2
  have x3 : w3.cell? ⟨w.heap.size + 1, 3, none⟩ = some (.int .i64 x.c) := HX3.out.cell 3
  have x4 : w3.cell? ⟨w.heap.size + 1, 4, none⟩ = some (.int .i64 x.a) := HX3.out.cell 4
  have x5 : w3.cell? ⟨w.heap.size + 1, 5, none⟩ = some (.int .i64 x.r) := HX3.out.cell 5
  have x6 : w3.cell? ⟨w.heap.size + 1, 6, none⟩ = some (.int .i64 x.t) := HX3.out.cell 6
  have x7 : w3.cell? ⟨w.heap.size + 1, 7, none⟩ = some (.int .i64 x.y) := HX3.out.cell 7
  have r0 : w3.cell? ⟨w.heap.size + 1 + 1, 0, none⟩ = some (.int .i64 0) := HR3.out.cell 0
  have r1 : w3.cell? ⟨w.heap.size + 1 + 1, 1, none⟩ = some (.slice none 0 0) := HR3.out.cell 1
  have r2 : w3.cell? ⟨w.heap.size + 1 + 1, 2, none⟩ = some (.slice none 0 0) := HR3.out.cell 2
  have fr0 := HR3.out.free 0
  have fr1 := HR3.out.free 1
  have fr2 := HR3.out.free 2
  go_wp2_with fail
  have q0 : w3.drew.cell? ⟨b, o + A.length * 8, none⟩ = some (.int .i64 q.s) := (HB3.out.cell (p := ⟨b, _, none⟩) HQB.out).trans (HQC.out 0 (by decide))
  have q1 : w3.drew.cell? ⟨b, o + A.length * 8 + 1, none⟩ = some (.int .i64 q.n) := (HB3.out.cell (p := ⟨b, _, none⟩) HQB.out).trans (HQC.out 1 (by decide))
  have q2 : w3.drew.cell? ⟨b, o + A.length * 8 + 2, none⟩ = some (.int .i64 q.b) := (HB3.out.cell (p := ⟨b, _, none⟩) HQB.out).trans (HQC.out 2 (by decide))
  have q3 : w3.drew.cell? ⟨b, o + A.length * 8 + 3, none⟩ = some (.int .i64 q.c) := (HB3.out.cell (p := ⟨b, _, none⟩) HQB.out).trans (HQC.out 3 (by decide))
  have q4 : w3.drew.cell? ⟨b, o + A.length * 8 + 4, none⟩ = some (.int .i64 q.a) := (HB3.out.cell (p := ⟨b, _, none⟩) HQB.out).trans (HQC.out 4 (by decide))
  have q5 : w3.drew.cell? ⟨b, o + A.length * 8 + 5, none⟩ = some (.int .i64 q.r) := (HB3.out.cell (p := ⟨b, _, none⟩) HQB.out).trans (HQC.out 5 (by decide))
  have q6 : w3.drew.cell? ⟨b, o + A.length * 8 + 6, none⟩ = some (.int .i64 q.t) := (HB3.out.cell (p := ⟨b, _, none⟩) HQB.out).trans (HQC.out 6 (by decide))
  have q7 : w3.drew.cell? ⟨b, o + A.length * 8 + 7, none⟩ = some (.int .i64 q.y) := (HB3.out.cell (p := ⟨b, _, none⟩) HQB.out).trans (HQC.out 7 (by decide))
  have hSQ : w3.drew.cell? ⟨w.heap.size, 1, none⟩ = some (.slice (some ⟨b, o, none⟩) ni ci) ∧ w3.drew.cell? ⟨b, o + A.length * 8, none⟩ = some (.int .i64 q.s) ∧ w3.drew.cell? ⟨b, o + A.length * 8 + 1, none⟩ = some (.int .i64 q.n) ∧ w3.drew.cell? ⟨b, o + A.length * 8 + 2, none⟩ = some (.int .i64 q.b) ∧ w3.drew.cell? ⟨b, o + A.length * 8 + 3, none⟩ = some (.int .i64 q.c) ∧ w3.drew.cell? ⟨b, o + A.length * 8 + 4, none⟩ = some (.int .i64 q.a) ∧ w3.drew.cell? ⟨b, o + A.length * 8 + 5, none⟩ = some (.int .i64 q.r) ∧ w3.drew.cell? ⟨b, o + A.length * 8 + 6, none⟩ = some (.int .i64 q.t) ∧ w3.drew.cell? ⟨b, o + A.length * 8 + 7, none⟩ = some (.int .i64 q.y) ∧ w3.drew.cell? ⟨w.heap.size + 1, 0, none⟩ = some (.int .i64 x.s) ∧ w3.drew.cell? ⟨w.heap.size + 1, 1, none⟩ = some (.int .i64 x.n) ∧ w3.drew.cell? ⟨w.heap.size + 1, 2, none⟩ = some (.int .i64 x.b) ∧ w3.drew.cell? ⟨w.heap.size + 1, 3, none⟩ = some (.int .i64 x.c) ∧ w3.drew.cell? ⟨w.heap.size + 1, 4, none⟩ = some (.int .i64 x.a) ∧ w3.drew.cell? ⟨w.heap.size + 1, 5, none⟩ = some (.int .i64 x.r) ∧ w3.drew.cell? ⟨w.heap.size + 1, 6, none⟩ = some (.int .i64 x.t) ∧ w3.drew.cell? ⟨w.heap.size + 1, 7, none⟩ = some (.int .i64 x.y) := ⟨b1, q0, q1, q2, q3, q4, q5, q6, q7, x0, x1, x2, x3, x4, x5, x6, x7⟩
  refine wp_region_held_drew (S := fun w' => w'.cell? ⟨w.heap.size, 1, none⟩ = some (.slice (some ⟨b, o, none⟩) ni ci) ∧ w'.cell? ⟨b, o + A.length * 8, none⟩ = some (.int .i64 q.s) ∧ w'.cell? ⟨b, o + A.length * 8 + 1, none⟩ = some (.int .i64 q.n) ∧ w'.cell? ⟨b, o + A.length * 8 + 2, none⟩ = some (.int .i64 q.b) ∧ w'.cell? ⟨b, o + A.length * 8 + 3, none⟩ = some (.int .i64 q.c) ∧ w'.cell? ⟨b, o + A.length * 8 + 4, none⟩ = some (.int .i64 q.a) ∧ w'.cell? ⟨b, o + A.length * 8 + 5, none⟩ = some (.int .i64 q.r) ∧ w'.cell? ⟨b, o + A.length * 8 + 6, none⟩ = some (.int .i64 q.t) ∧ w'.cell? ⟨b, o + A.length * 8 + 7, none⟩ = some (.int .i64 q.y) ∧ w'.cell? ⟨w.heap.size + 1, 0, none⟩ = some (.int .i64 x.s) ∧ w'.cell? ⟨w.heap.size + 1, 1, none⟩ = some (.int .i64 x.n) ∧ w'.cell? ⟨w.heap.size + 1, 2, none⟩ = some (.int .i64 x.b) ∧ w'.cell? ⟨w.heap.size + 1, 3, none⟩ = some (.int .i64 x.c) ∧ w'.cell? ⟨w.heap.size + 1, 4, none⟩ = some (.int .i64 x.a) ∧ w'.cell? ⟨w.heap.size + 1, 5, none⟩ = some (.int .i64 x.r) ∧ w'.cell? ⟨w.heap.size + 1, 6, none⟩ = some (.int .i64 x.t) ∧ w'.cell? ⟨w.heap.size + 1, 7, none⟩ = some (.int .i64 x.y)) (by kernel_rfl) hSQ (fun hS0 => ?_)
  refine tkq 0 ?_
  refine tkq 1 ?_
  refine tkq 2 ?_
  refine tkq 3 ?_
  refine tkq 4 ?_
  refine tkq 5 ?_
  refine tkq 6 ?_
  refine tkq 7 ?_
  refine wpAnyH_take (i := 8) (v := .bool false) rfl (by kernel_rfl) (by kernel_rfl) (by kernel_rfl) (fun _ _ _ h => h) (Or.inl ⟨by kernel_rfl, ?_⟩) (by first | assumption | trivial) ?_
  ·intro w hSw
   try dsimp only at hSw
   go_simp
   exact ne8 H3.out
  try simp only [Act.put, List.getElem_toArray, List.getElem_cons_succ, List.getElem_cons_zero, List.setIfInBounds_toArray, List.set_cons_zero, List.set_cons_succ]
  refine tkq 9 ?_
  refine wpAnyH_done (by kernel_rfl) ?_ _
  clear hSQ hS0
  clear q0 q1 q2 q3 q4 q5 q6 q7
  clear b0 b1 b2 x0 x1 x2 x3 x4 x5 x6 x7 r0 r1 r2 fr0 fr1 fr2
  have b0 : w3.drew.cell? ⟨w.heap.size, 0, none⟩ = some (.int .i64 me) := HK3.out.cell 0
  have b1 : w3.drew.cell? ⟨w.heap.size, 1, none⟩ = some (.slice (some ⟨b, o, none⟩) ni ci) := HK3.out.cell 1
  have b2 : w3.drew.cell? ⟨w.heap.size, 2, none⟩ = some (.slice po no co) := HK3.out.cell 2
  have x0 : w3.drew.cell? ⟨w.heap.size + 1, 0, none⟩ = some (.int .i64 x.s) := HX3.out.cell 0
  have x1 : w3.drew.cell? ⟨w.heap.size + 1, 1, none⟩ = some (.int .i64 x.n) := HX3.out.cell 1
  have x2 : w3.drew.cell? ⟨w.heap.size + 1, 2, none⟩ = some (.int .i64 x.b) := HX3.out.cell 2
  have x3 : w3.drew.cell? ⟨w.heap.size + 1, 3, none⟩ = some (.int .i64 x.c) := HX3.out.cell 3
  have x4 : w3.drew.cell? ⟨w.heap.size + 1, 4, none⟩ = some (.int .i64 x.a) := HX3.out.cell 4
  have x5 : w3.drew.cell? ⟨w.heap.size + 1, 5, none⟩ = some (.int .i64 x.r) := HX3.out.cell 5
  have x6 : w3.drew.cell? ⟨w.heap.size + 1, 6, none⟩ = some (.int .i64 x.t) := HX3.out.cell 6
  have x7 : w3.drew.cell? ⟨w.heap.size + 1, 7, none⟩ = some (.int .i64 x.y) := HX3.out.cell 7
  have r0 : w3.drew.cell? ⟨w.heap.size + 1 + 1, 0, none⟩ = some (.int .i64 0) := HR3.out.cell 0
  have r1 : w3.drew.cell? ⟨w.heap.size + 1 + 1, 1, none⟩ = some (.slice none 0 0) := HR3.out.cell 1
  have r2 : w3.drew.cell? ⟨w.heap.size + 1 + 1, 2, none⟩ = some (.slice none 0 0) := HR3.out.cell 2
  have fr0 := HR3.out.free 0
  have fr1 := HR3.out.free 1
  have fr2 := HR3.out.free 2
  go_wp2_with fail
  refine (HW.out w3.drew HB3.out.drew).mono ?_
  rintro y w4 ⟨v4, rfl, ho4, hb4⟩
  obtain ⟨p4, c4, hv4⟩ := ho4.form
  generalize hn4 : (A ++ [x] ++ B).length = n4 at hv4
  subst hv4
  have hb4 : Below w3.heap.size w3 w4 := (Below.refl _ _).drew.trans hb4
  have HK4 := kbq HK3 hb4
  have HX4 := kbq HX3 hb4
  have HR4 := kbq HR3 hb4
  have HB4 := ktq HB3 hb4
  have HO4 := Lib.hid (ho4.less (show w.heap.size ≤ w3.drew.heap.size from HB3.out.size))
  have HLT := Lib.hid ho4.block_ge
  have HSZ := Lib.hid (show w.heap.size + 1 + 1 < w3.drew.heap.size from HR3.out.lt)
  clear HW hb4 ho4 HK3 HX3 HR3 hn4 b0 b1 b2 x0 x1 x2 x3 x4 x5 x6 x7 r0 r1 r2 fr0 fr1 fr2
  have b0 : w4.cell? ⟨w.heap.size, 0, none⟩ = some (.int .i64 me) := HK4.out.cell 0
  have b1 : w4.cell? ⟨w.heap.size, 1, none⟩ = some (.slice (some ⟨b, o, none⟩) ni ci) := HK4.out.cell 1
  have b2 : w4.cell? ⟨w.heap.size, 2, none⟩ = some (.slice po no co) := HK4.out.cell 2
  have x0 : w4.cell? ⟨w.heap.size + 1, 0, none⟩ = some (.int .i64 x.s) := HX4.out.cell 0
  have x1 : w4.cell? ⟨w.heap.size + 1, 1, none⟩ = some (.int .i64 x.n) := HX4.out.cell 1
  have x2 : w4.cell? ⟨w.heap.size + 1, 2, none⟩ = some (.int .i64 x.b) := HX4.out.cell 2
  have x3 : w4.cell? ⟨w.heap.size + 1, 3, none⟩ = some (.int .i64 x.c) := HX4.out.cell 3
  have x4 : w4.cell? ⟨w.heap.size + 1, 4, none⟩ = some (.int .i64 x.a) := HX4.out.cell 4
  have x5 : w4.cell? ⟨w.heap.size + 1, 5, none⟩ = some (.int .i64 x.r) := HX4.out.cell 5
  have x6 : w4.cell? ⟨w.heap.size + 1, 6, none⟩ = some (.int .i64 x.t) := HX4.out.cell 6
  have x7 : w4.cell? ⟨w.heap.size + 1, 7, none⟩ = some (.int .i64 x.y) := HX4.out.cell 7
  have r0 : w4.cell? ⟨w.heap.size + 1 + 1, 0, none⟩ = some (.int .i64 0) := HR4.out.cell 0
  have r1 : w4.cell? ⟨w.heap.size + 1 + 1, 1, none⟩ = some (.slice none 0 0) := HR4.out.cell 1
  have r2 : w4.cell? ⟨w.heap.size + 1 + 1, 2, none⟩ = some (.slice none 0 0) := HR4.out.cell 2
  have fr0 := HR4.out.free 0
  have fr1 := HR4.out.free 1
  have fr2 := HR4.out.free 2
  have fb1 := HK4.out.free 1
  go_wp2_with fail
  have hK5 := HK4.out.set 1 (.slice p4 n4 c4)
  have hR5 := HR4.out.setOther (a := ⟨w.heap.size, 1, none⟩) (by show w.heap.size ≠ w.heap.size + 1 + 1; omega) (.slice p4 n4 c4)
  have hf := ((hR5.set 0 (.int .i64 me)).set 1 (.slice p4 n4 c4)).set 2 (.slice po no co)
  have hB := HB4.out.setCell (p := ⟨w.heap.size, 1, none⟩) (Nat.le_refl _) (.slice p4 n4 c4) |>.setCell (p := ⟨w.heap.size + 1 + 1, 0, none⟩) (by show w.heap.size ≤ w.heap.size + 1 + 1; omega) (.int .i64 me) |>.setCell (p := ⟨w.heap.size + 1 + 1, 1, none⟩) (by show w.heap.size ≤ w.heap.size + 1 + 1; omega) (.slice p4 n4 c4) |>.setCell (p := ⟨w.heap.size + 1 + 1, 2, none⟩) (by show w.heap.size ≤ w.heap.size + 1 + 1; omega) (.slice po no co)
  have hO : OwnT encI (World.setCell (World.setCell (World.setCell (World.setCell w4 ⟨w.heap.size, 1, none⟩ (.slice p4 n4 c4)) ⟨w.heap.size + 1 + 1, 0, none⟩ (.int .i64 me)) ⟨w.heap.size + 1 + 1, 1, none⟩ (.slice p4 n4 c4)) ⟨w.heap.size + 1 + 1, 2, none⟩ (.slice po no co)) w.heap.size 64 (.slice p4 n4 c4) (A ++ [x] ++ B) := by
   refine HO4.out.stay (fun g hg => ?_)
   have hge := HLT.out g hg
   have hsz : w.heap.size + 1 + 1 < w3.drew.heap.size := HSZ.out
   rw [Below.heap_setCell _ _ _ g (by show g ≠ w.heap.size + 1 + 1; omega), Below.heap_setCell _ _ _ g (by show g ≠ w.heap.size + 1 + 1; omega), Below.heap_setCell _ _ _ g (by show g ≠ w.heap.size + 1 + 1; omega), Below.heap_setCell _ _ _ g (by show g ≠ w.heap.size; omega)]
  refine bodyPost_ret (v := .tuple #[.agg #[.int .i64 me, .slice p4 n4 c4, .slice po no co], .int .i64 0]) (by simp [results, Try.results66, go_sem, hf.cell 0, hf.cell 1, hf.cell 2]) rfl ⟨_, _, _, rfl, hO, hB⟩
 ·skip
  have e1 : (x.s != me) = true := by simpa using g
  have e2 : (x.b != me) = false := by simpa using g2
  clear g2
  clear g
  have b0 : w2.cell? ⟨w.heap.size, 0, none⟩ = some (.int .i64 me) := HK2.out.cell 0
  have b1 : w2.cell? ⟨w.heap.size, 1, none⟩ = some (.slice (some ⟨b, o, none⟩) ni ci) := HK2.out.cell 1
  have b2 : w2.cell? ⟨w.heap.size, 2, none⟩ = some (.slice po no co) := HK2.out.cell 2
  have x0 : w2.cell? ⟨w.heap.size + 1, 0, none⟩ = some (.int .i64 x.s) := HX2.out.cell 0
  have x1 : w2.cell? ⟨w.heap.size + 1, 1, none⟩ = some (.int .i64 x.n) := HX2.out.cell 1
  have x2 : w2.cell? ⟨w.heap.size + 1, 2, none⟩ = some (.int .i64 x.b) := HX2.out.cell 2
  have x3 : w2.cell? ⟨w.heap.size + 1, 3, none⟩ = some (.int .i64 x.c) := HX2.out.cell 3
  have x4 : w2.cell? ⟨w.heap.size + 1, 4, none⟩ = some (.int .i64 x.a) := HX2.out.cell 4
  have x5 : w2.cell? ⟨w.heap.size + 1, 5, none⟩ = some (.int .i64 x.r) := HX2.out.cell 5
  have x6 : w2.cell? ⟨w.heap.size + 1, 6, none⟩ = some (.int .i64 x.t) := HX2.out.cell 6
  have x7 : w2.cell? ⟨w.heap.size + 1, 7, none⟩ = some (.int .i64 x.y) := HX2.out.cell 7
  have r0 : w2.cell? ⟨w.heap.size + 1 + 1, 0, none⟩ = some (.int .i64 0) := HR2.out.cell 0
  have r1 : w2.cell? ⟨w.heap.size + 1 + 1, 1, none⟩ = some (.slice none 0 0) := HR2.out.cell 1
  have r2 : w2.cell? ⟨w.heap.size + 1 + 1, 2, none⟩ = some (.slice none 0 0) := HR2.out.cell 2
  have fr0 := HR2.out.free 0
  have fr1 := HR2.out.free 1
  have fr2 := HR2.out.free 2
  go_wp2_with fail
  refine (HF.out _ HB2.out).mono ?_
  rintro y w3 ⟨rfl, hb3⟩
  have HK3 := kbq HK2 hb3
  have HX3 := kbq HX2 hb3
  have HR3 := kbq HR2 hb3
  have HB3 := ktq HB2 hb3
  clear HF hb3 HK2 HX2 HR2 b0 b1 b2 x0 x1 x2 x3 x4 x5 x6 x7 r0 r1 r2 fr0 fr1 fr2
  have b0 : w3.cell? ⟨w.heap.size, 0, none⟩ = some (.int .i64 me) := HK3.out.cell 0
  have b1 : w3.cell? ⟨w.heap.size, 1, none⟩ = some (.slice (some ⟨b, o, none⟩) ni ci) := HK3.out.cell 1
  have b2 : w3.cell? ⟨w.heap.size, 2, none⟩ = some (.slice po no co) := HK3.out.cell 2
  have x0 : w3.cell? ⟨w.heap.size + 1, 0, none⟩ = some (.int .i64 x.s) := HX3.out.cell 0
  have x1 : w3.cell? ⟨w.heap.size + 1, 1, none⟩ = some (.int .i64 x.n) := HX3.out.cell 1
  have x2 : w3.cell? ⟨w.heap.size + 1, 2, none⟩ = some (.int .i64 x.b) := HX3.out.cell 2
  have x3 : w3.cell? ⟨w.heap.size + 1, 3, none⟩ = some (.int .i64 x.c) := HX3.out.cell 3
  have x4 : w3.cell? ⟨w.heap.size + 1, 4, none⟩ = some (.int .i64 x.a) := HX3.out.cell 4
  have x5 : w3.cell? ⟨w.heap.size + 1, 5, none⟩ = some (.int .i64 x.r) := HX3.out.cell 5
  have x6 : w3.cell? ⟨w.heap.size + 1, 6, none⟩ = some (.int .i64 x.t) := HX3.out.cell 6
  have x7 : w3.cell? ⟨w.heap.size + 1, 7, none⟩ = some (.int .i64 x.y) := HX3.out.cell 7
  have r0 : w3.cell? ⟨w.heap.size + 1 + 1, 0, none⟩ = some (.int .i64 0) := HR3.out.cell 0
  have r1 : w3.cell? ⟨w.heap.size + 1 + 1, 1, none⟩ = some (.slice none 0 0) := HR3.out.cell 1
  have r2 : w3.cell? ⟨w.heap.size + 1 + 1, 2, none⟩ = some (.slice none 0 0) := HR3.out.cell 2
  have fr0 := HR3.out.free 0
  have fr1 := HR3.out.free 1
  have fr2 := HR3.out.free 2
  go_wp2_with fail
  have q0 : w3.drew.cell? ⟨b, o + A.length * 8, none⟩ = some (.int .i64 q.s) := (HB3.out.cell (p := ⟨b, _, none⟩) HQB.out).trans (HQC.out 0 (by decide))
  have q1 : w3.drew.cell? ⟨b, o + A.length * 8 + 1, none⟩ = some (.int .i64 q.n) := (HB3.out.cell (p := ⟨b, _, none⟩) HQB.out).trans (HQC.out 1 (by decide))
  have q2 : w3.drew.cell? ⟨b, o + A.length * 8 + 2, none⟩ = some (.int .i64 q.b) := (HB3.out.cell (p := ⟨b, _, none⟩) HQB.out).trans (HQC.out 2 (by decide))
  have q3 : w3.drew.cell? ⟨b, o + A.length * 8 + 3, none⟩ = some (.int .i64 q.c) := (HB3.out.cell (p := ⟨b, _, none⟩) HQB.out).trans (HQC.out 3 (by decide))
  have q4 : w3.drew.cell? ⟨b, o + A.length * 8 + 4, none⟩ = some (.int .i64 q.a) := (HB3.out.cell (p := ⟨b, _, none⟩) HQB.out).trans (HQC.out 4 (by decide))
  have q5 : w3.drew.cell? ⟨b, o + A.length * 8 + 5, none⟩ = some (.int .i64 q.r) := (HB3.out.cell (p := ⟨b, _, none⟩) HQB.out).trans (HQC.out 5 (by decide))
  have q6 : w3.drew.cell? ⟨b, o + A.length * 8 + 6, none⟩ = some (.int .i64 q.t) := (HB3.out.cell (p := ⟨b, _, none⟩) HQB.out).trans (HQC.out 6 (by decide))
  have q7 : w3.drew.cell? ⟨b, o + A.length * 8 + 7, none⟩ = some (.int .i64 q.y) := (HB3.out.cell (p := ⟨b, _, none⟩) HQB.out).trans (HQC.out 7 (by decide))
  have hSQ : w3.drew.cell? ⟨w.heap.size, 1, none⟩ = some (.slice (some ⟨b, o, none⟩) ni ci) ∧ w3.drew.cell? ⟨b, o + A.length * 8, none⟩ = some (.int .i64 q.s) ∧ w3.drew.cell? ⟨b, o + A.length * 8 + 1, none⟩ = some (.int .i64 q.n) ∧ w3.drew.cell? ⟨b, o + A.length * 8 + 2, none⟩ = some (.int .i64 q.b) ∧ w3.drew.cell? ⟨b, o + A.length * 8 + 3, none⟩ = some (.int .i64 q.c) ∧ w3.drew.cell? ⟨b, o + A.length * 8 + 4, none⟩ = some (.int .i64 q.a) ∧ w3.drew.cell? ⟨b, o + A.length * 8 + 5, none⟩ = some (.int .i64 q.r) ∧ w3.drew.cell? ⟨b, o + A.length * 8 + 6, none⟩ = some (.int .i64 q.t) ∧ w3.drew.cell? ⟨b, o + A.length * 8 + 7, none⟩ = some (.int .i64 q.y) ∧ w3.drew.cell? ⟨w.heap.size + 1, 0, none⟩ = some (.int .i64 x.s) ∧ w3.drew.cell? ⟨w.heap.size + 1, 1, none⟩ = some (.int .i64 x.n) ∧ w3.drew.cell? ⟨w.heap.size + 1, 2, none⟩ = some (.int .i64 x.b) ∧ w3.drew.cell? ⟨w.heap.size + 1, 3, none⟩ = some (.int .i64 x.c) ∧ w3.drew.cell? ⟨w.heap.size + 1, 4, none⟩ = some (.int .i64 x.a) ∧ w3.drew.cell? ⟨w.heap.size + 1, 5, none⟩ = some (.int .i64 x.r) ∧ w3.drew.cell? ⟨w.heap.size + 1, 6, none⟩ = some (.int .i64 x.t) ∧ w3.drew.cell? ⟨w.heap.size + 1, 7, none⟩ = some (.int .i64 x.y) := ⟨b1, q0, q1, q2, q3, q4, q5, q6, q7, x0, x1, x2, x3, x4, x5, x6, x7⟩
  refine wp_region_held_drew (S := fun w' => w'.cell? ⟨w.heap.size, 1, none⟩ = some (.slice (some ⟨b, o, none⟩) ni ci) ∧ w'.cell? ⟨b, o + A.length * 8, none⟩ = some (.int .i64 q.s) ∧ w'.cell? ⟨b, o + A.length * 8 + 1, none⟩ = some (.int .i64 q.n) ∧ w'.cell? ⟨b, o + A.length * 8 + 2, none⟩ = some (.int .i64 q.b) ∧ w'.cell? ⟨b, o + A.length * 8 + 3, none⟩ = some (.int .i64 q.c) ∧ w'.cell? ⟨b, o + A.length * 8 + 4, none⟩ = some (.int .i64 q.a) ∧ w'.cell? ⟨b, o + A.length * 8 + 5, none⟩ = some (.int .i64 q.r) ∧ w'.cell? ⟨b, o + A.length * 8 + 6, none⟩ = some (.int .i64 q.t) ∧ w'.cell? ⟨b, o + A.length * 8 + 7, none⟩ = some (.int .i64 q.y) ∧ w'.cell? ⟨w.heap.size + 1, 0, none⟩ = some (.int .i64 x.s) ∧ w'.cell? ⟨w.heap.size + 1, 1, none⟩ = some (.int .i64 x.n) ∧ w'.cell? ⟨w.heap.size + 1, 2, none⟩ = some (.int .i64 x.b) ∧ w'.cell? ⟨w.heap.size + 1, 3, none⟩ = some (.int .i64 x.c) ∧ w'.cell? ⟨w.heap.size + 1, 4, none⟩ = some (.int .i64 x.a) ∧ w'.cell? ⟨w.heap.size + 1, 5, none⟩ = some (.int .i64 x.r) ∧ w'.cell? ⟨w.heap.size + 1, 6, none⟩ = some (.int .i64 x.t) ∧ w'.cell? ⟨w.heap.size + 1, 7, none⟩ = some (.int .i64 x.y)) (by kernel_rfl) hSQ (fun hS0 => ?_)
  refine tkq 0 ?_
  refine tkq 1 ?_
  refine tkq 2 ?_
  refine tkq 3 ?_
  refine tkq 4 ?_
  refine tkq 5 ?_
  refine tkq 6 ?_
  refine tkq 7 ?_
  refine wpAnyH_take (i := 8) (v := .bool false) rfl (by kernel_rfl) (by kernel_rfl) (by kernel_rfl) (fun _ _ _ h => h) (Or.inl ⟨by kernel_rfl, ?_⟩) (by first | assumption | trivial) ?_
  ·intro w hSw
   try dsimp only at hSw
   go_simp
   exact ne8 H3.out
  try simp only [Act.put, List.getElem_toArray, List.getElem_cons_succ, List.getElem_cons_zero, List.setIfInBounds_toArray, List.set_cons_zero, List.set_cons_succ]
  refine tkq 9 ?_
  refine wpAnyH_done (by kernel_rfl) ?_ _
  clear hSQ hS0
  clear q0 q1 q2 q3 q4 q5 q6 q7
  clear b0 b1 b2 x0 x1 x2 x3 x4 x5 x6 x7 r0 r1 r2 fr0 fr1 fr2
  have b0 : w3.drew.cell? ⟨w.heap.size, 0, none⟩ = some (.int .i64 me) := HK3.out.cell 0
  have b1 : w3.drew.cell? ⟨w.heap.size, 1, none⟩ = some (.slice (some ⟨b, o, none⟩) ni ci) := HK3.out.cell 1
  have b2 : w3.drew.cell? ⟨w.heap.size, 2, none⟩ = some (.slice po no co) := HK3.out.cell 2
  have x0 : w3.drew.cell? ⟨w.heap.size + 1, 0, none⟩ = some (.int .i64 x.s) := HX3.out.cell 0
  have x1 : w3.drew.cell? ⟨w.heap.size + 1, 1, none⟩ = some (.int .i64 x.n) := HX3.out.cell 1
  have x2 : w3.drew.cell? ⟨w.heap.size + 1, 2, none⟩ = some (.int .i64 x.b) := HX3.out.cell 2
  have x3 : w3.drew.cell? ⟨w.heap.size + 1, 3, none⟩ = some (.int .i64 x.c) := HX3.out.cell 3
  have x4 : w3.drew.cell? ⟨w.heap.size + 1, 4, none⟩ = some (.int .i64 x.a) := HX3.out.cell 4
  have x5 : w3.drew.cell? ⟨w.heap.size + 1, 5, none⟩ = some (.int .i64 x.r) := HX3.out.cell 5
  have x6 : w3.drew.cell? ⟨w.heap.size + 1, 6, none⟩ = some (.int .i64 x.t) := HX3.out.cell 6
  have x7 : w3.drew.cell? ⟨w.heap.size + 1, 7, none⟩ = some (.int .i64 x.y) := HX3.out.cell 7
  have r0 : w3.drew.cell? ⟨w.heap.size + 1 + 1, 0, none⟩ = some (.int .i64 0) := HR3.out.cell 0
  have r1 : w3.drew.cell? ⟨w.heap.size + 1 + 1, 1, none⟩ = some (.slice none 0 0) := HR3.out.cell 1
  have r2 : w3.drew.cell? ⟨w.heap.size + 1 + 1, 2, none⟩ = some (.slice none 0 0) := HR3.out.cell 2
  have fr0 := HR3.out.free 0
  have fr1 := HR3.out.free 1
  have fr2 := HR3.out.free 2
  go_wp2_with fail
  refine (HW.out w3.drew HB3.out.drew).mono ?_
  rintro y w4 ⟨v4, rfl, ho4, hb4⟩
  obtain ⟨p4, c4, hv4⟩ := ho4.form
  generalize hn4 : (A ++ [x] ++ B).length = n4 at hv4
  subst hv4
  have hb4 : Below w3.heap.size w3 w4 := (Below.refl _ _).drew.trans hb4
  have HK4 := kbq HK3 hb4
  have HX4 := kbq HX3 hb4
  have HR4 := kbq HR3 hb4
  have HB4 := ktq HB3 hb4
  have HO4 := Lib.hid (ho4.less (show w.heap.size ≤ w3.drew.heap.size from HB3.out.size))
  have HLT := Lib.hid ho4.block_ge
  have HSZ := Lib.hid (show w.heap.size + 1 + 1 < w3.drew.heap.size from HR3.out.lt)
  clear HW hb4 ho4 HK3 HX3 HR3 hn4 b0 b1 b2 x0 x1 x2 x3 x4 x5 x6 x7 r0 r1 r2 fr0 fr1 fr2
  have b0 : w4.cell? ⟨w.heap.size, 0, none⟩ = some (.int .i64 me) := HK4.out.cell 0
  have b1 : w4.cell? ⟨w.heap.size, 1, none⟩ = some (.slice (some ⟨b, o, none⟩) ni ci) := HK4.out.cell 1
  have b2 : w4.cell? ⟨w.heap.size, 2, none⟩ = some (.slice po no co) := HK4.out.cell 2
  have x0 : w4.cell? ⟨w.heap.size + 1, 0, none⟩ = some (.int .i64 x.s) := HX4.out.cell 0
  have x1 : w4.cell? ⟨w.heap.size + 1, 1, none⟩ = some (.int .i64 x.n) := HX4.out.cell 1
  have x2 : w4.cell? ⟨w.heap.size + 1, 2, none⟩ = some (.int .i64 x.b) := HX4.out.cell 2
  have x3 : w4.cell? ⟨w.heap.size + 1, 3, none⟩ = some (.int .i64 x.c) := HX4.out.cell 3
  have x4 : w4.cell? ⟨w.heap.size + 1, 4, none⟩ = some (.int .i64 x.a) := HX4.out.cell 4
  have x5 : w4.cell? ⟨w.heap.size + 1, 5, none⟩ = some (.int .i64 x.r) := HX4.out.cell 5
  have x6 : w4.cell? ⟨w.heap.size + 1, 6, none⟩ = some (.int .i64 x.t) := HX4.out.cell 6
  have x7 : w4.cell? ⟨w.heap.size + 1, 7, none⟩ = some (.int .i64 x.y) := HX4.out.cell 7
  have r0 : w4.cell? ⟨w.heap.size + 1 + 1, 0, none⟩ = some (.int .i64 0) := HR4.out.cell 0
  have r1 : w4.cell? ⟨w.heap.size + 1 + 1, 1, none⟩ = some (.slice none 0 0) := HR4.out.cell 1
  have r2 : w4.cell? ⟨w.heap.size + 1 + 1, 2, none⟩ = some (.slice none 0 0) := HR4.out.cell 2
  have fr0 := HR4.out.free 0
  have fr1 := HR4.out.free 1
  have fr2 := HR4.out.free 2
  have fb1 := HK4.out.free 1
  go_wp2_with fail
  have hK5 := HK4.out.set 1 (.slice p4 n4 c4)
  have hR5 := HR4.out.setOther (a := ⟨w.heap.size, 1, none⟩) (by show w.heap.size ≠ w.heap.size + 1 + 1; omega) (.slice p4 n4 c4)
  have hf := ((hR5.set 0 (.int .i64 me)).set 1 (.slice p4 n4 c4)).set 2 (.slice po no co)
  have hB := HB4.out.setCell (p := ⟨w.heap.size, 1, none⟩) (Nat.le_refl _) (.slice p4 n4 c4) |>.setCell (p := ⟨w.heap.size + 1 + 1, 0, none⟩) (by show w.heap.size ≤ w.heap.size + 1 + 1; omega) (.int .i64 me) |>.setCell (p := ⟨w.heap.size + 1 + 1, 1, none⟩) (by show w.heap.size ≤ w.heap.size + 1 + 1; omega) (.slice p4 n4 c4) |>.setCell (p := ⟨w.heap.size + 1 + 1, 2, none⟩) (by show w.heap.size ≤ w.heap.size + 1 + 1; omega) (.slice po no co)
  have hO : OwnT encI (World.setCell (World.setCell (World.setCell (World.setCell w4 ⟨w.heap.size, 1, none⟩ (.slice p4 n4 c4)) ⟨w.heap.size + 1 + 1, 0, none⟩ (.int .i64 me)) ⟨w.heap.size + 1 + 1, 1, none⟩ (.slice p4 n4 c4)) ⟨w.heap.size + 1 + 1, 2, none⟩ (.slice po no co)) w.heap.size 64 (.slice p4 n4 c4) (A ++ [x] ++ B) := by
   refine HO4.out.stay (fun g hg => ?_)
   have hge := HLT.out g hg
   have hsz : w.heap.size + 1 + 1 < w3.drew.heap.size := HSZ.out
   rw [Below.heap_setCell _ _ _ g (by show g ≠ w.heap.size + 1 + 1; omega), Below.heap_setCell _ _ _ g (by show g ≠ w.heap.size + 1 + 1; omega), Below.heap_setCell _ _ _ g (by show g ≠ w.heap.size + 1 + 1; omega), Below.heap_setCell _ _ _ g (by show g ≠ w.heap.size; omega)]
  refine bodyPost_ret (v := .tuple #[.agg #[.int .i64 me, .slice p4 n4 c4, .slice po no co], .int .i64 0]) (by simp [results, Try.results66, go_sem, hf.cell 0, hf.cell 1, hf.cell 2]) rfl ⟨_, _, _, rfl, hO, hB⟩
end Go.Proofs.Ytbpfbebebppleaa
namespace Go.Proofs.Ytbpfbebebppleaa
open Go.RowKit
theorem put_ok (w : World) (me : Int) (pi po : Option Addr) (ni ci no co : Nat) (x : Itm) (xs A mid B : List Itm) (hr : TRow encI w (.slice pi ni ci) xs) (hl : xs.length = ni) (hA : AroundF posI ⟨x.s, x.n, 0⟩ xs A mid B) (hn : ni < 1024) (h : chkI x = 0) (h1 : x.s = me ∨ x.b = me) :
  Calls Try.prog 66 #[bookV me (.slice pi ni ci) (.slice po no co), x.v] w fun e w' => ∃ pi' ni' ci', e = .returned (.tuple #[bookV me (.slice pi' ni' ci') (.slice po no co), .int .i64 0]) ∧ TRow encI w' (.slice pi' ni' ci') (A ++ [x] ++ B) ∧ ni' = (A ++ [x] ++ B).length ∧ Below w.heap.size w w' ∧ (∀ k, (Value.slice pi' ni' ci').ownBlock = some k → (Value.slice pi ni ci).ownBlock = some k ∨ w.heap.size ≤ k) := by
 rcases hA.mid1 with rfl | ⟨q, rfl, _⟩
 ·refine (put_new w me pi po ni ci no co x xs A B hr hl hA (by omega) h h1 hn).mono ?_
  rintro e w' ⟨p', n', c', rfl, ho, hb⟩
  refine ⟨p', n', c', rfl, ho.row, ?_, hb, fun k hk => .inr (ho.block_ge k hk)⟩
  obtain ⟨p2, c2, e1⟩ := ho.form
  exact (Value.slice.inj e1).2.1
 ·by_cases hq : q = x
  ·refine (put_same w me pi po ni ci no co x xs A B q hr hl hA (by omega) h h1 hq).mono ?_
   rintro e w' ⟨rfl, hb⟩
   have hx : xs = A ++ [x] ++ B := by rw [hA.all, hq]
   exact ⟨pi, ni, ci, rfl, by rw [← hx]; exact hr.kept hb, by rw [← hx]; exact hl.symm, hb, fun k hk => .inl hk⟩
  ·refine (put_other2 w me pi po ni ci no co x xs A B q hr hl hA (by omega) h h1 hq).mono ?_
   rintro e w' ⟨p', n', c', rfl, ho, hb⟩
   refine ⟨p', n', c', rfl, ho.row, ?_, hb, fun k hk => .inr (ho.block_ge k hk)⟩
   obtain ⟨p2, c2, e1⟩ := ho.form
   exact (Value.slice.inj e1).2.1
end Go.Proofs.Ytbpfbebebppleaa
namespace Go.Proofs.Ytbpfbebebppleaa
open Go.RowKit
/-- A line: seller, number, buyer, amount. -/
structure Lin where
 s : Int
 n : Int
 b : Int
 a : Int
def Lin.cells (x : Lin) : List Value := [.int .i64 x.s, .int .i64 x.n, .int .i64 x.b, .int .i64 x.a]
def encN : Enc Lin := ⟨4, Lin.cells, by decide, fun _ => rfl, by intro x u hu; simp [Lin.cells] at hu; rcases hu with rfl | rfl | rfl | rfl <;> rfl⟩
def I64 (z : Int) : Prop := -9223372036854775808 ≤ z ∧ z ≤ 9223372036854775807
def Lin.Fit (x : Lin) : Prop := I64 x.s ∧ I64 x.n ∧ I64 x.b ∧ I64 x.a
structure Msg where
 k : Int
 s : Int
 n : Int
 b : Int
 c : Int
 r : Int
 y : Int
 a : Int
 t : Bool
 ls : List Lin
 ns : List Int
def Msg.cells (m : Msg) (vl vn : Value) : List Value := [.int .i64 m.k, .int .i64 m.s, .int .i64 m.n, .int .i64 m.b, .int .i64 m.c, .int .i64 m.r, .int .i64 m.y, .int .i64 m.a, .bool m.t, vl, vn]
def Msg.v (m : Msg) (vl vn : Value) : Value := .agg #[.int .i64 m.k, .int .i64 m.s, .int .i64 m.n, .int .i64 m.b, .int .i64 m.c, .int .i64 m.r, .int .i64 m.y, .int .i64 m.a, .bool m.t, vl, vn]
def Msg.Fit (m : Msg) : Prop := (I64 m.k ∧ I64 m.s ∧ I64 m.n ∧ I64 m.b ∧ I64 m.c ∧ I64 m.r ∧ I64 m.y ∧ I64 m.a) ∧ (∀ x ∈ m.ls, x.Fit) ∧ (∀ z ∈ m.ns, I64 z)
end Go.Proofs.Ytbpfbebebppleaa
namespace Go.Proofs.Ytbpfbebebppleaa
open Go.ChangeShapes Go.WideShapes Go.ChangeAt Go.RowKit
theorem row_of_open {W : World} (x : Addr) (zs : List Int) {len cap : Nat} (hz : zs.length = cap) (hl : len ≤ cap) (hcell : ∀ i, i < zs.length → W.cell? (x.add i) = some (.int .i64 (zs.getD i 0))) (hwz : ∀ n ∈ zs, (Lit.int .i64 n).wf = true) :
  ∃ ys, Row .i64 W (.slice (some x) len cap) ys ∧ All64 ys := by
 have hlen : (zs.take len).length = len := by rw [List.length_take]; omega
 refine ⟨zs.take len, ⟨some x, cap, by rw [hlen], by omega, ?_⟩, fun a ha => bounds_i64 (hwz a (List.mem_of_mem_take ha))⟩
 by_cases h0 : len = 0
 ·left; subst h0; simp
 ·obtain ⟨b, off, rfl, hc⟩ := ints_at hcell (by omega)
  refine .inr ⟨b, off, rfl, fun i hi => ?_⟩
  rw [hlen] at hi
  rw [hc i (by omega), List.getD_eq_getElem?_getD, List.getD_eq_getElem?_getD, List.getElem?_take, if_pos hi]
end Go.Proofs.Ytbpfbebebppleaa
namespace Go.Proofs.Ytbpfbebebppleaa
open Go.ChangeShapes Go.WideShapes Go.ChangeAt Go.RowKit
theorem trow_of_open {α : Type} {H : Type} {enc : TypeId × Value → H} {P : Program} {w : World} {base : Nat} {held : Bool} {t e : TypeId} {fuel : Nat} {a : Option Addr} {len cap : Nat} {x : DataW H × List MemPlace} (E : Enc α) (F : α → Prop)
  (ht : P.underlying t = some (.slice e)) (ce : P.cellsOf e = E.k)
  (rd : ∀ (fuel : Nat) (cs : List Value) (y : DataW H × List MemPlace), cs.length = E.k → DataW.trod enc P w base (fun _ => true) held fuel e cs = some y → ∃ a, cs = E.E a ∧ F a)
  (h : DataW.trod enc P w base (fun _ => true) held fuel t (Value.slice a len cap).cells.toList = some x) : ∃ xs, TRow E w (.slice a len cap) xs ∧ ∀ x ∈ xs, F x := by
 have h' : DataW.trod enc P w base (fun _ => true) held fuel t [.slice a len cap] = some x := by simpa [Value.cells] using h
 rcases Go.Deep.open_slice ht h' with ⟨hcs, _⟩ | ⟨a', len', cap', m, n, D, Pl, hcs, hb, hl, hm, hmm, rfl, hx⟩
 ·simp at hcs
  obtain ⟨rfl, rfl, rfl⟩ := hcs
  exact ⟨[], TRow.nil_ E w, (fun _ h => by cases h)⟩
 ·simp at hcs
  obtain ⟨rfl, rfl, rfl⟩ := hcs
  have hlm : len ≤ m := by rw [hmm]; split <;> omega
  have each : ∀ i, i < m → ∃ y : α, F y ∧ ∀ t, t < E.k → w.cell? (a'.add (i * E.k + t)) = (E.E y)[t]? := by
   intro i hi
   obtain ⟨cs', h1, h2⟩ := hx i hi
   rw [ce] at h1
   obtain ⟨_, hlen, hcell⟩ := World.cells?_some h1
   obtain ⟨y, rfl, hF⟩ := rd _ _ _ hlen h2
   refine ⟨y, hF, fun t ht => ?_⟩
   have e0 := hcell t (by omega)
   rw [Go.Deep.add_add] at e0
   rw [e0, List.getElem?_eq_getElem (by rw [E.len]; exact ht)]
  by_cases h0 : len = 0
  ·subst h0
   exact ⟨[], ⟨_, _, rfl, Nat.zero_le _, .inl rfl⟩, (fun _ h => by cases h)⟩
  ·obtain ⟨q0, _⟩ := each 0 (by omega)
   have each' : ∀ i, ∃ y : α, i < m → F y ∧ ∀ t, t < E.k → w.cell? (a'.add (i * E.k + t)) = (E.E y)[t]? := by
    intro i
    by_cases hi : i < m
    ·obtain ⟨y, hy⟩ := each i hi
     exact ⟨y, fun _ => hy⟩
    ·exact ⟨q0, fun h => absurd h hi⟩
   let q : Nat → α := fun i => Classical.choose (each' i)
   have hq : ∀ i, i < m → F (q i) ∧ ∀ t, t < E.k → w.cell? (a'.add (i * E.k + t)) = (E.E (q i))[t]? := fun i => Classical.choose_spec (each' i)
   have hL : ((List.range len).map q).length = len := by simp
   refine ⟨(List.range len).map q, ⟨some a', cap, by rw [hL], by rw [hL]; exact hl, .inr ?_⟩, fun z hz => ?_⟩
   ·obtain ⟨b, off, spot⟩ := a'
    have hk := E.pos
    have h00 := (hq 0 (by omega)).2 0 hk
    rw [List.getElem?_eq_getElem (by rw [E.len]; exact hk)] at h00
    have hspot : spot = none := by simpa [Addr.add] using World.cell?_spot h00
    subst hspot
    refine ⟨b, off, rfl, ?_, fun i hi t ht => ?_⟩
    ·rw [addAt] at h00
     exact World.block_lt_of_cell? w _ h00
    ·rw [hL] at hi
     have := (hq i (by omega)).2 t ht
     rw [addAt] at this
     rw [Nat.add_assoc, this]
     simp
   ·obtain ⟨i, hi, rfl⟩ := List.mem_map.1 hz
    exact (hq i (by have := List.mem_range.1 hi; omega)).1
end Go.Proofs.Ytbpfbebebppleaa
namespace Go.Proofs.Ytbpfbebebppleaa
open Go.ChangeShapes Go.WideShapes Go.ChangeAt Go.RowKit
section
variable {H : Type} {enc : TypeId × Value → H} {P : Program} {w : World} {base : Nat} {held : Bool}
theorem lin_read {t : TypeId} {g f0 f1 f2 f3 : Field}
  (ht : P.underlying t = some (.struct #[g, f2, f3])) (hg : P.underlying g.type = some (.struct #[f0, f1]))
  (og : g.offset = 0) (o0 : f0.offset = 0) (o1 : f1.offset = 1) (o2 : f2.offset = 2) (o3 : f3.offset = 3)
  (u0 : P.underlying f0.type = some (.int .i64)) (u1 : P.underlying f1.type = some (.int .i64)) (u2 : P.underlying f2.type = some (.int .i64)) (u3 : P.underlying f3.type = some (.int .i64))
  (cc : P.cellsOf g.type = 2 ∧ P.cellsOf f0.type = 1 ∧ P.cellsOf f1.type = 1 ∧ P.cellsOf f2.type = 1 ∧ P.cellsOf f3.type = 1)
  (fuel : Nat) (cs : List Value) (y : DataW H × List MemPlace) (hl : cs.length = 4) (hf : DataW.trod enc P w base (fun _ => true) held fuel t cs = some y) : ∃ x : Lin, cs = x.cells ∧ x.Fit := by
 obtain ⟨cg, c0, c1, c2, c3⟩ := cc
 match cs, hl with
 | [v0, v1, v2, v3], _ =>
  obtain ⟨xs, k, hk, hxy, _, hxl, hf⟩ := DataW.trod_struct ht hf
  match xs, hxl with
  | [yg, y2, y3], _ =>
   have gg := hf 0 g rfl
   have g2 := hf 1 f2 rfl
   have g3 := hf 2 f3 rfl
   simp [og, o2, o3, cg, c2, c3] at gg g2 g3
   obtain ⟨xs', k', hk', hxy', _, hxl', hf'⟩ := DataW.trod_struct hg gg
   match xs', hxl' with
   | [y0, y1], _ =>
    have g0 := hf' 0 f0 rfl
    have g1 := hf' 1 f1 rfl
    simp [o0, o1, c0, c1] at g0 g1
    obtain ⟨z0, q0, _, w0⟩ := DataW.trod_int u0 g0
    obtain ⟨z1, q1, _, w1⟩ := DataW.trod_int u1 g1
    obtain ⟨z2, q2, _, w2⟩ := DataW.trod_int u2 g2
    obtain ⟨z3, q3, _, w3⟩ := DataW.trod_int u3 g3
    simp at q0 q1 q2 q3
    subst q0 q1 q2 q3
    exact ⟨⟨z0, z1, z2, z3⟩, rfl, bounds_i64 w0, bounds_i64 w1, bounds_i64 w2, bounds_i64 w3⟩
theorem lines_of_read {s t : TypeId} {fuel : Nat} {c : Value} {y : DataW H × List MemPlace}
  (hs : P.underlying s = some (.slice t)) (ct : P.cellsOf t = 4)
  (rd : ∀ (fuel : Nat) (cs : List Value) (y : DataW H × List MemPlace), cs.length = 4 → DataW.trod enc P w base (fun _ => true) held fuel t cs = some y → ∃ x : Lin, cs = x.cells ∧ x.Fit)
  (h : DataW.trod enc P w base (fun _ => true) held fuel s [c] = some y) : ∃ xs, TRow encN w c xs ∧ ∀ x ∈ xs, x.Fit := by
 have hc : ∃ a l cap, c = .slice a l cap := by
  rcases Go.Deep.open_slice hs h with ⟨hcs, _⟩ | ⟨a', len', cap', m, n, D, Pl, hcs, _⟩
  ·simp at hcs; exact ⟨_, _, _, hcs⟩
  ·simp at hcs; exact ⟨_, _, _, hcs⟩
 obtain ⟨a, l, cap, rfl⟩ := hc
 exact trow_of_open encN Lin.Fit hs ct rd (by simpa [Value.cells] using h)
end
end Go.Proofs.Ytbpfbebebppleaa
namespace Go.Proofs.Ytbpfbebebppleaa
open Go.RowKit
/-- Bytes in a slice. -/
def Oct (zs : List Int) : Prop := ∀ a ∈ zs, 0 ≤ a ∧ a < 256
theorem Oct.getD {zs : List Int} (h : Oct zs) (i : Nat) : 0 ≤ zs.getD i 0 ∧ zs.getD i 0 < 256 := by
 rw [List.getD_eq_getElem?_getD]
 by_cases hi : i < zs.length
 ·rw [List.getElem?_eq_getElem hi]; exact h _ (List.getElem_mem hi)
 ·rw [List.getElem?_eq_none (by omega)]; simp
def natsOf (zs : List Int) : List Nat := zs.map Int.toNat
theorem natsOf_length (zs : List Int) : (natsOf zs).length = zs.length := by simp [natsOf]
theorem natsOf_append (a b : List Int) : natsOf (a ++ b) = natsOf a ++ natsOf b := List.map_append
theorem natsOf_take (zs : List Int) (k : Nat) : natsOf (zs.take k) = (natsOf zs).take k := List.map_take
theorem natsOf_drop (zs : List Int) (k : Nat) : natsOf (zs.drop k) = (natsOf zs).drop k := List.map_drop
theorem natsOf_getD (zs : List Int) (i : Nat) : (natsOf zs).getD i 0 = (zs.getD i 0).toNat := by
 unfold natsOf
 rw [List.getD_eq_getElem?_getD, List.getD_eq_getElem?_getD, List.getElem?_map]
 cases zs[i]? <;> simp
theorem Oct.take {zs : List Int} (h : Oct zs) (k : Nat) : Oct (zs.take k) := fun a ha => h a (List.mem_of_mem_take ha)
theorem Oct.drop {zs : List Int} (h : Oct zs) (k : Nat) : Oct (zs.drop k) := fun a ha => h a (List.mem_of_mem_drop ha)
theorem Oct.append {a b : List Int} (ha : Oct a) (hb : Oct b) : Oct (a ++ b) := by
 intro x hx
 rcases List.mem_append.1 hx with h | h
 ·exact ha x h
 ·exact hb x h
theorem Oct.back {a b : List Int} (ha : Oct a) (hb : Oct b) (h : natsOf a = natsOf b) : a = b := by
 induction a generalizing b with
 | nil => cases b with
  | nil => rfl
  | cons => cases h
 | cons x a ih =>
  cases b with
  | nil => cases h
  | cons y b =>
   simp only [natsOf, List.map_cons, List.cons.injEq] at h
   have h1 := ha x (by simp)
   have h2 := hb y (by simp)
   rw [ih (fun z hz => ha z (by simp [hz])) (fun z hz => hb z (by simp [hz])) h.2, show x = y by omega]
end Go.Proofs.Ytbpfbebebppleaa
namespace Go.Proofs.Ytbpfbebebppleaa
open Go.ChangeShapes Go.WideShapes Go.ChangeAt Go.RowKit
theorem rowK_of_open {W : World} (k : IntKind) (x : Addr) (zs : List Int) {len cap : Nat} (hz : zs.length = cap) (hl : len ≤ cap) (hm : cap ≤ 140737488355328) (hcell : ∀ i, i < zs.length → W.cell? (x.add i) = some (.int k (zs.getD i 0))) (hwz : ∀ n ∈ zs, (Lit.int k n).wf = true) :
  ∃ ys, (∀ n ∈ ys, (Lit.int k n).wf = true) ∧ Row k W (.slice (some x) len cap) ys ∧ ys.length ≤ 140737488355328 := by
 have hlen : (zs.take len).length = len := by rw [List.length_take]; omega
 refine ⟨zs.take len, fun a ha => hwz a (List.mem_of_mem_take ha), ⟨some x, cap, by rw [hlen], by omega, ?_⟩, by omega⟩
 by_cases h0 : len = 0
 ·left; subst h0; simp
 ·obtain ⟨b, off, rfl, hc⟩ := ints_at hcell (by omega)
  refine .inr ⟨b, off, rfl, fun i hi => ?_⟩
  rw [hlen] at hi
  rw [hc i (by omega), List.getD_eq_getElem?_getD, List.getD_eq_getElem?_getD, List.getElem?_take, if_pos hi]
theorem oct_of_wf {zs : List Int} (h : ∀ n ∈ zs, (Lit.int .u8 n).wf = true) : Oct zs := fun a ha => by have := bounds_u8 (h a ha); omega
end Go.Proofs.Ytbpfbebebppleaa
namespace Go.Proofs.Ytbpfbebebppleaa
open Go.ChangeShapes Go.WideShapes Go.ChangeAt Go.RowKit
section
variable {H : Type} {enc : TypeId × Value → H} {P : Program} {w : World} {base : Nat} {held : Bool}
theorem nets_of_read {e q : TypeId} {fuel : Nat} {c : Value} {y : DataW H × List MemPlace}
  (he : P.underlying e = some (.slice q)) (hq : P.underlying q = some (.int .i64)) (cq : P.cellsOf q = 1) (h : DataW.trod enc P w base (fun _ => true) held fuel e [c] = some y) : ∃ zs, All64 zs ∧ Row .i64 w c zs := by
 rcases open_ints he hq cq h with ⟨hcs, _⟩ | ⟨x, l, cap, zs, hcs, _, hl, _, hz, _, hcell, hwz⟩
 ·simp at hcs
  subst hcs
  exact ⟨[], (fun _ h => by cases h), none, 0, rfl, Nat.le_refl _, .inl rfl⟩
 ·simp at hcs
  subst hcs
  obtain ⟨ys, h1, h2⟩ := row_of_open x zs (by simpa using hz) hl hcell hwz
  exact ⟨ys, h2, h1⟩
/-- A message as it lies in cells, with where its lists lie. -/
structure MsgX where
 m : Msg
 pl : Option Addr
 cl : Nat
 pn : Option Addr
 cn : Nat
def MsgX.vl (x : MsgX) : Value := .slice x.pl x.m.ls.length x.cl
def MsgX.vn (x : MsgX) : Value := .slice x.pn x.m.ns.length x.cn
def MsgX.cells (x : MsgX) : List Value := x.m.cells x.vl x.vn
def encM : Enc MsgX := ⟨11, MsgX.cells, by decide, fun _ => rfl, by intro x u hu; simp [MsgX.cells, Msg.cells, MsgX.vl, MsgX.vn] at hu; rcases hu with rfl | rfl | rfl | rfl | rfl | rfl | rfl | rfl | rfl | rfl | rfl <;> rfl⟩
structure MsgX.In (w : World) (x : MsgX) : Prop where
 ls : TRow encN w x.vl x.m.ls
 ns : Row .i64 w x.vn x.m.ns
 fit : x.m.Fit
theorem MsgX.In.kept {w w' : World} {x : MsgX} (h : x.In w) (hb : Below w.heap.size w w') : x.In w' := ⟨h.ls.kept hb, h.ns.kept hb, h.fit⟩
theorem msg_read {t sl tl sn q : TypeId} {fk g f0 f1 f2 f3 f4 f5 f6 f7 f8 f9 : Field}
  (ht : P.underlying t = some (.struct #[fk, g, f2, f3, f4, f5, f6, f7, f8, f9])) (hg : P.underlying g.type = some (.struct #[f0, f1]))
  (ok : fk.offset = 0) (og : g.offset = 1) (o0 : f0.offset = 0) (o1 : f1.offset = 1) (o2 : f2.offset = 3) (o3 : f3.offset = 4) (o4 : f4.offset = 5) (o5 : f5.offset = 6) (o6 : f6.offset = 7) (o7 : f7.offset = 8) (o8 : f8.offset = 9) (o9 : f9.offset = 10)
  (uk : P.underlying fk.type = some (.int .i64)) (u0 : P.underlying f0.type = some (.int .i64)) (u1 : P.underlying f1.type = some (.int .i64)) (u2 : P.underlying f2.type = some (.int .i64)) (u3 : P.underlying f3.type = some (.int .i64)) (u4 : P.underlying f4.type = some (.int .i64)) (u5 : P.underlying f5.type = some (.int .i64)) (u6 : P.underlying f6.type = some (.int .i64)) (u7 : P.underlying f7.type = some .bool)
  (t8 : f8.type = sl) (t9 : f9.type = sn) (hs : P.underlying sl = some (.slice tl)) (ct : P.cellsOf tl = 4)
  (rd : ∀ (fuel : Nat) (cs : List Value) (y : DataW H × List MemPlace), cs.length = 4 → DataW.trod enc P w base (fun _ => true) held fuel tl cs = some y → ∃ x : Lin, cs = x.cells ∧ x.Fit)
  (hn : P.underlying sn = some (.slice q)) (hq : P.underlying q = some (.int .i64)) (cq : P.cellsOf q = 1)
  (cc : P.cellsOf fk.type = 1 ∧ P.cellsOf g.type = 2 ∧ P.cellsOf f0.type = 1 ∧ P.cellsOf f1.type = 1 ∧ P.cellsOf f2.type = 1 ∧ P.cellsOf f3.type = 1 ∧ P.cellsOf f4.type = 1 ∧ P.cellsOf f5.type = 1 ∧ P.cellsOf f6.type = 1 ∧ P.cellsOf f7.type = 1 ∧ P.cellsOf sl = 1 ∧ P.cellsOf sn = 1)
  (fuel : Nat) (cs : List Value) (y : DataW H × List MemPlace) (hl : cs.length = 11) (hf : DataW.trod enc P w base (fun _ => true) held fuel t cs = some y) : ∃ x : MsgX, cs = x.cells ∧ x.In w := by
 obtain ⟨ck, cg, c0, c1, c2, c3, c4, c5, c6, c7, c8, c9⟩ := cc
 match cs, hl with
 | [vk, v0, v1, v2, v3, v4, v5, v6, v7, v8, v9], _ =>
  obtain ⟨xs, k, hk, hxy, _, hxl, hf⟩ := DataW.trod_struct ht hf
  match xs, hxl with
  | [yk, yg, y2, y3, y4, y5, y6, y7, y8, y9], _ =>
   have gk := hf 0 fk rfl
   have gg := hf 1 g rfl
   have g2 := hf 2 f2 rfl
   have g3 := hf 3 f3 rfl
   have g4 := hf 4 f4 rfl
   have g5 := hf 5 f5 rfl
   have g6 := hf 6 f6 rfl
   have g7 := hf 7 f7 rfl
   have g8 := hf 8 f8 rfl
   have g9 := hf 9 f9 rfl
   subst t8 t9
   simp [ok, og, o2, o3, o4, o5, o6, o7, o8, o9, ck, cg, c2, c3, c4, c5, c6, c7, c8, c9] at gk gg g2 g3 g4 g5 g6 g7 g8 g9
   obtain ⟨xs', k', hk', hxy', _, hxl', hf'⟩ := DataW.trod_struct hg gg
   match xs', hxl' with
   | [y0, y1], _ =>
    have g0 := hf' 0 f0 rfl
    have g1 := hf' 1 f1 rfl
    simp [o0, o1, c0, c1] at g0 g1
    obtain ⟨zk, qk, _, wk⟩ := DataW.trod_int uk gk
    obtain ⟨z0, q0, _, w0⟩ := DataW.trod_int u0 g0
    obtain ⟨z1, q1, _, w1⟩ := DataW.trod_int u1 g1
    obtain ⟨z2, q2, _, w2⟩ := DataW.trod_int u2 g2
    obtain ⟨z3, q3, _, w3⟩ := DataW.trod_int u3 g3
    obtain ⟨z4, q4, _, w4⟩ := DataW.trod_int u4 g4
    obtain ⟨z5, q5, _, w5⟩ := DataW.trod_int u5 g5
    obtain ⟨z6, q6, _, w6⟩ := DataW.trod_int u6 g6
    obtain ⟨z7, q7, _⟩ := DataW.trod_bool u7 g7
    obtain ⟨L, rL, fL⟩ := lines_of_read hs ct rd g8
    obtain ⟨N, fN, rN⟩ := nets_of_read hn hq cq g9
    simp at qk q0 q1 q2 q3 q4 q5 q6 q7
    subst qk q0 q1 q2 q3 q4 q5 q6 q7
    obtain ⟨pl, cl, rfl⟩ := rL.shape
    obtain ⟨pn, cn, rfl⟩ := rN.shape
    exact ⟨⟨⟨zk, z0, z1, z2, z3, z4, z5, z6, z7, L, N⟩, pl, cl, pn, cn⟩, rfl, rL, rN, ⟨bounds_i64 wk, bounds_i64 w0, bounds_i64 w1, bounds_i64 w2, bounds_i64 w3, bounds_i64 w4, bounds_i64 w5, bounds_i64 w6⟩, fL, fN⟩
theorem msg_of_open {t : TypeId} {fs : Array Field} {r : Reach} {b0 : Nat} {v : Value} {d : DataW H} {pl : List MemPlace}
  (ht : P.underlying t = some (.struct fs)) (ct : P.cellsOf t = 11)
  (rd : ∀ (fuel : Nat) (cs : List Value) (y : DataW H × List MemPlace), cs.length = 11 → DataW.trod enc P w base (fun _ => true) held fuel t cs = some y → ∃ x : MsgX, cs = x.cells ∧ x.In w)
  (hv : Value.okWide P w r b0 t v) (h : DataW.Trod enc P w base (fun _ => true) held t v d pl) : ∃ x : MsgX, v = x.m.v x.vl x.vn ∧ x.In w := by
 obtain ⟨cs, rfl, hsz⟩ := okWide_struct ht hv
 obtain ⟨fuel, hf⟩ := h
 obtain ⟨l⟩ := cs
 have hf' : DataW.trod enc P w base (fun _ => true) held fuel t l = some (d, pl) := by simpa [Value.cells] using hf
 obtain ⟨x, hx, hin⟩ := rd fuel l _ (by simpa using hsz.trans ct) hf'
 subst hx
 exact ⟨x, rfl, hin⟩
end
end Go.Proofs.Ytbpfbebebppleaa
namespace Go.Proofs.Ytbpfbebebppleaa
open Go.RowKit
section
variable {α : Type} {e : Enc α}
theorem run_append_tb {P : Program} (w : World) (t r ty : TypeId) (z : Value) (bytes base : Nat) (he : EltT e P t ty z bytes) (hzs : z.cells.size = e.k) (v y : Value) (xs ys : List α) (hown : OwnT e w base ty v xs) (hrow : TRow e w y ys)
  (h63 : xs.length + ys.length ≤ 140737488355328) (hbytes : (xs.length + ys.length) * bytes ≤ 140737488355328) (hbase : base ≤ w.heap.size) :
  ∃ v' w', (Builtin.append_ #[t, t] r #[v, y]).run P w = .ok v' w' ∧ OwnT e w' base ty v' (xs ++ ys) ∧ w.grownBy w' v.ownBlock ∧ (v'.ownBlock = v.ownBlock ∨ v'.ownBlock = some w.heap.size) := by
 obtain ⟨i, ht, hi, hz, hs, hby⟩ := he
 obtain ⟨p, c, rfl, hc, hr⟩ := id hrow
 cases p with
 | some ad =>
  obtain ⟨v', w', hrun, hown', hg, _, hor⟩ := run_append_own_at (P := P) w base t r ty i z e.k bytes ht hi hz hs hby hzs e.pos v xs.length (xs.flatMap e.E) hown ad ys.length c (ys.flatMap e.E) (flat_length e ys) hrow.newsAt (flat_one e ys) (by unfold maxLen; omega) hbytes hbase
  refine ⟨v', w', hrun, ?_, hg, hor⟩
  unfold OwnT
  rw [List.flatMap_append, List.length_append]
  exact hown'
 | none =>
  have hy : ys = [] := by
   rcases hr with h | ⟨b, o, h, _⟩
   ·exact h
   ·cases h
  subst hy
  refine ⟨v, w, ?_, by simpa using hown, World.grownBy.refl _ _, .inl rfl⟩
  rcases hown.2 with ⟨rfl, h0⟩ | ⟨g, cap, cur, rfl, _, _, hnc, _⟩
  ·simp [Builtin.append_, run_underlying ht, sizeOf, typeInfo, hi, Builtin.lenOf, Builtin.firstCells]
  ·simp [Builtin.append_, run_underlying ht, sizeOf, typeInfo, hi, Builtin.lenOf, Builtin.firstCells, hnc, storeCells]
theorem wpList_append_tb {P : Program} {w : World} {ops : Array Oper} {rest : List Oper} {o : Oper} {a : Act} {Q : Exit → Act → World → Prop} (hgd : o.guard = none) (s x : Operand) (t : TypeId)
  (ho : o.op = .call { callee := .builtin .append, args := #[s, x], argTypes := #[t, t] })
  (ty : TypeId) (z : Value) (bytes base : Nat) (he : EltT e P t ty z bytes) (hzs : z.cells.size = e.k) (v y : Value) (xs ys : List α) (hs : a.eval s = v) (hx : a.eval x = y) (hown : OwnT e w base ty v xs) (hrow : TRow e w y ys)
  (h63 : xs.length + ys.length ≤ 140737488355328) (hbytes : (xs.length + ys.length) * bytes ≤ 140737488355328) (hbase : base ≤ w.heap.size) (L : List α) (N : Nat) (hL : xs ++ ys = L) (hN : L.length = N)
  (h : ∀ p' c' w', OwnT e w' base ty (.slice p' N c') L → w.grownBy w' v.ownBlock → Below base w w' → wpList P ops Q rest (a.put o.dst (.slice p' N c')) w') : wpList P ops Q (o :: rest) a w := by
 subst hL
 subst hN
 refine wpList_plain hgd fun K hK => ?_
 obtain ⟨v', w', hrun, h1, h2, _⟩ := run_append_tb w t o.type ty z bytes base he hzs v y xs ys hown hrow h63 hbytes hbase
 unfold Oper.wp
 obtain ⟨p', c', rfl⟩ := h1.form
 simp [execOp, ho, resolve, invoke, builtin, hs, hx, hrun, Result.andThen]
 exact hK _ _ (by simpa using h p' c' w' h1 h2 ((Below.refl _ _).grown h2 hbase (fun g hg' => hown.block_ge g hg')))
theorem OwnT.madeE (e : Enc α) (w : World) (base : Nat) (ty : TypeId) (hb : base ≤ w.heap.size) : OwnT e (w.alloc (.cells #[] ty)) base ty (.slice (some ⟨w.heap.size, 0, none⟩) 0 0) [] := ⟨by simp, .inr ⟨w.heap.size, 0, #[], rfl, hb, heap_alloc_new w _, Nat.le_refl _, Nat.zero_le _, by simp, by simp⟩⟩
theorem stop_appendT {P : Program} {ops : Array Oper} {rest : List Oper} {o : Oper} {a : Act} {w : World} {Q : Exit → Act → World → Prop} (s x : Operand) (t : TypeId)
  (_ : o.op = .call { callee := .builtin .append, args := #[s, x], argTypes := #[t, t] }) (h : Hid (wpList P ops Q (o :: rest) a w)) : wpList P ops Q (o :: rest) a w := h
end
end Go.Proofs.Ytbpfbebebppleaa
namespace Go.Proofs.Ytbpfbebebppleaa
open Go.RowKit
/-- A message's lists fit into the reach of memory. -/
def Msg.Sz (m : Msg) : Prop := m.ls.length * 32 ≤ 140737488351232 ∧ m.ns.length * 8 ≤ 140737488351232
/-- The block in which a slice lies is one of P, unless it is empty. -/
def At (P : Nat → Prop) (v : Value) (len : Nat) : Prop := ∀ b o n c, v = .slice (some ⟨b, o, none⟩) n c → 0 < len → P b
theorem At.nil_ (P : Nat → Prop) (v : Value) : At P v 0 := fun _ _ _ _ _ h => absurd h (Nat.lt_irrefl 0)
/-- Of P's blocks none is another one. -/
def KeepP (P : Nat → Prop) (w w' : World) : Prop := w.heap.size ≤ w'.heap.size ∧ ∀ b, b < w.heap.size → P b → w'.heap[b]? = w.heap[b]?
theorem KeepP.refl (P : Nat → Prop) (w : World) : KeepP P w w := ⟨Nat.le_refl _, fun _ _ _ => rfl⟩
theorem KeepP.of_below {P : Nat → Prop} {w w' : World} (h : Below w.heap.size w w') : KeepP P w w' := ⟨h.size, fun b hb _ => h.block b hb⟩
theorem KeepP.of_chg {P : Nat → Prop} {g : Nat} {w w' : World} (h : Chg g w w') (hg : ¬ P g) : KeepP P w w' := ⟨h.size, fun b hb hp => h.2 b hb (fun e => hg (e ▸ hp))⟩
theorem KeepP.trans {P : Nat → Prop} {w a b : World} (h : KeepP P w a) (k : KeepP P a b) : KeepP P w b := ⟨Nat.le_trans h.1 k.1, fun i hi hp => (k.2 i (Nat.lt_of_lt_of_le hi h.1) hp).trans (h.2 i hi hp)⟩
theorem TRow.lt_ {α : Type} {e : Enc α} {w : World} {b o : Nat} {n c : Nat} {xs : List α} (h : TRow e w (.slice (some ⟨b, o, none⟩) n c) xs) (hn : 0 < xs.length) : b < w.heap.size := by
 obtain ⟨b', o', e1, hb, _⟩ := h.at_ 0 hn
 cases e1
 exact hb
theorem Row.lt_ {k : IntKind} {w : World} {b o : Nat} {n c : Nat} {xs : List Int} (h : Row k w (.slice (some ⟨b, o, none⟩) n c) xs) (hn : 0 < xs.length) : b < w.heap.size := by
 obtain ⟨p', c', e1, _, h⟩ := h
 cases e1
 rcases h with h | ⟨b', o', hp, h⟩
 ·subst h; simp at hn
 ·cases hp
  exact World.block_lt_of_cell? w _ (h 0 hn)
theorem TRow.keepP {α : Type} {e : Enc α} {P : Nat → Prop} {w w' : World} {v : Value} {xs : List α} (h : TRow e w v xs) (ha : At P v xs.length) (hk : KeepP P w w') : TRow e w' v xs := by
 obtain ⟨p, c, rfl, hc, h⟩ := h
 refine ⟨p, c, rfl, hc, ?_⟩
 rcases h with h | ⟨b, o, rfl, hlt, h⟩
 ·exact .inl h
 ·by_cases hn : 0 < xs.length
  ·have hb := hk.2 b hlt (ha b o _ _ rfl hn)
   exact .inr ⟨b, o, rfl, Nat.lt_of_lt_of_le hlt hk.1, fun i hi t ht => (World.cell?_of_block (a := ⟨b, _, none⟩) hb).trans (h i hi t ht)⟩
  ·exact .inl (List.length_eq_zero_iff.1 (by omega))
theorem Row.keepP {k : IntKind} {P : Nat → Prop} {w w' : World} {v : Value} {xs : List Int} (h : Row k w v xs) (ha : At P v xs.length) (hk : KeepP P w w') : Row k w' v xs := by
 have h0 := h
 obtain ⟨p, c, rfl, hc, h⟩ := h
 refine ⟨p, c, rfl, hc, ?_⟩
 rcases h with h | ⟨b, o, rfl, h⟩
 ·exact .inl h
 ·by_cases hn : 0 < xs.length
  ·have hb := hk.2 b (h0.lt_ hn) (ha b o _ _ rfl hn)
   exact .inr ⟨b, o, rfl, fun i hi => (World.cell?_of_block (a := ⟨b, _, none⟩) hb).trans (h i hi)⟩
  ·exact .inl (List.length_eq_zero_iff.1 (by omega))
theorem OwnT.at_P {α : Type} {e : Enc α} {P : Nat → Prop} {w : World} {base : Nat} {ty : TypeId} {v : Value} {xs : List α} (h : OwnT e w base ty v xs) (hP : ∀ b, base ≤ b → P b) : At P v xs.length := by
 rintro b o n c rfl hn
 obtain ⟨_, h2⟩ := h
 rcases h2 with ⟨h2, _⟩ | ⟨g, cap, cur, h2, hb, _⟩
 ·cases h2
 ·cases h2
  exact hP _ hb
theorem Own.at_P {k : IntKind} {P : Nat → Prop} {w : World} {base : Nat} {ty : TypeId} {v : Value} {xs : List Int} (h : Own k w base ty v xs) (hP : ∀ b, base ≤ b → P b) : At P v xs.length := by
 rintro b o n c rfl hn
 obtain ⟨_, h2⟩ := h
 rcases h2 with ⟨h2, _⟩ | ⟨g, cap, cur, h2, hb, _⟩
 ·cases h2
 ·cases h2
  exact hP _ hb
/-- A message whose lists lie in P. -/
structure MsgX.InP (P : Nat → Prop) (w : World) (x : MsgX) : Prop where
 ls : TRow encN w x.vl x.m.ls
 ns : Row .i64 w x.vn x.m.ns
 al : At P x.vl x.m.ls.length
 an : At P x.vn x.m.ns.length
 sz : x.m.Sz
theorem MsgX.InP.kept {P : Nat → Prop} {w w' : World} {x : MsgX} (h : x.InP P w) (hb : Below w.heap.size w w') : x.InP P w' := ⟨h.ls.kept hb, h.ns.kept hb, h.al, h.an, h.sz⟩
theorem MsgX.InP.keepP {P : Nat → Prop} {w w' : World} {x : MsgX} (h : x.InP P w) (hk : KeepP P w w') : x.InP P w' := ⟨h.ls.keepP h.al hk, h.ns.keepP h.an hk, h.al, h.an, h.sz⟩
theorem MsgX.InP.mono {P Q : Nat → Prop} {w : World} {x : MsgX} (h : x.InP P w) (hq : ∀ b, b < w.heap.size → P b → Q b) : x.InP Q w :=
 ⟨h.ls, h.ns, fun b o n c e hn => hq b (by have h2 := h.ls; rw [e] at h2; exact h2.lt_ hn) (h.al b o n c e hn), fun b o n c e hn => hq b (by have h2 := h.ns; rw [e] at h2; exact h2.lt_ hn) (h.an b o n c e hn), h.sz⟩
theorem elt_cloneN_any : EltT encN Try.prog 37 90 (.agg #[.int .i64 0, .int .i64 0, .int .i64 0, .int .i64 0]) 32 := eltT_mk Try.underlying37 (by kernel_rfl)
theorem elt_mkM {P : Program} {t e : TypeId} {k : IntKind} {bytes : Nat} (ht : P.underlying t = some (.slice e)) (h : (P.info? e).map (fun i => (i.zero, i.size, i.bytes)) = some (some (.int k 0), 1, bytes)) : Elt P t e k bytes := by
 cases hi : P.info? e with
 | none => rw [hi] at h; cases h
 | some i =>
  rw [hi] at h
  simp at h
  exact ⟨i, ht, hi, h.1, h.2.1, h.2.2⟩
theorem elt64M : Elt Try.prog 38 2 .i64 8 := elt_mkM Try.underlying38 (by kernel_rfl)
theorem chg_putL (g : Nat) (W : World) : ∀ (vs : List Value) (o : Nat) (w : World), Chg g W w → Chg g W (w.setCells g o vs)
 | [], _, _, h => h
 | v :: vs, o, w, h => by rw [World.setCells]; exact chg_putL g W vs (o + 1) _ (h.set o v)
theorem Own.stayV {k : IntKind} {w w' : World} {base : Nat} {e : TypeId} {v : Value} {zs : List Int} (h : Own k w base e v zs) (hk : ∀ g, v.ownBlock = some g → w'.heap[g]? = w.heap[g]?) : Own k w' base e v zs := by
 refine ⟨h.1, ?_⟩
 rcases h.2 with h | ⟨g, cap, cur, rfl, hbg, hg, hr⟩
 ·exact .inl h
 ·exact .inr ⟨g, cap, cur, rfl, hbg, (hk g rfl).trans hg, hr⟩
theorem own_less {k : IntKind} {w : World} {base base' : Nat} {e : TypeId} {v : Value} {zs : List Int} (h : Own k w base e v zs) (hb : base' ≤ base) : Own k w base' e v zs := by
 refine ⟨h.1, ?_⟩
 rcases h.2 with h | ⟨g, cap, cur, rfl, hbg, hg, hr⟩
 ·exact .inl h
 ·exact .inr ⟨g, cap, cur, rfl, Nat.le_trans hb hbg, hg, hr⟩
theorem one11M (k s n b c r y a : Int) (t : Bool) (pl pn : Option Addr) (nl cl nn cn : Nat) : ∀ u ∈ [Value.int .i64 k, .int .i64 s, .int .i64 n, .int .i64 b, .int .i64 c, .int .i64 r, .int .i64 y, .int .i64 a, .bool t, .slice pl nl cl, .slice pn nn cn], u.oneCell' = true := by
 intro u hu
 simp at hu
 rcases hu with rfl | rfl | rfl | rfl | rfl | rfl | rfl | rfl | rfl | rfl | rfl <;> rfl
theorem infoM {cs : Array Value} (h : cs.size = 11) : (Try.prog.info? 40).map (·.size) = some cs.size := by
 rw [h]
 kernel_rfl
end Go.Proofs.Ytbpfbebebppleaa
namespace Go.Proofs.Ytbpfbebebppleaa
open Go.RowKit
set_option linter.unusedSimpArgs false
section
variable {α : Type} {e : Enc α}
theorem wpList_append_tg {P : Program} {w : World} {ops : Array Oper} {rest : List Oper} {o : Oper} {a : Act} {Q : Exit → Act → World → Prop} (hgd : o.guard = none) (s x : Operand) (t : TypeId)
  (ho : o.op = .call { callee := .builtin .append, args := #[s, x], argTypes := #[t, t] })
  (ty : TypeId) (z : Value) (bytes base : Nat) (he : EltT e P t ty z bytes) (hzs : z.cells.size = e.k) (v y : Value) (xs ys : List α) (hs : a.eval s = v) (hx : a.eval x = y) (hown : OwnT e w base ty v xs) (hrow : TRow e w y ys)
  (h63 : xs.length + ys.length ≤ 140737488355328) (hbytes : (xs.length + ys.length) * bytes ≤ 140737488355328) (hbase : base ≤ w.heap.size) (L : List α) (N : Nat) (hL : xs ++ ys = L) (hN : L.length = N)
  (h : ∀ p' c' w', OwnT e w' base ty (.slice p' N c') L → w.grownBy w' v.ownBlock → ((Value.slice p' N c').ownBlock = v.ownBlock ∨ (Value.slice p' N c').ownBlock = some w.heap.size) → Below base w w' → wpList P ops Q rest (a.put o.dst (.slice p' N c')) w') : wpList P ops Q (o :: rest) a w := by
 subst hL
 subst hN
 refine wpList_plain hgd fun K hK => ?_
 obtain ⟨v', w', hrun, h1, h2, h3⟩ := run_append_tb w t o.type ty z bytes base he hzs v y xs ys hown hrow h63 hbytes hbase
 unfold Oper.wp
 obtain ⟨p', c', rfl⟩ := h1.form
 simp [execOp, ho, resolve, invoke, builtin, hs, hx, hrun, Result.andThen]
 exact hK _ _ (by simpa using h p' c' w' h1 h2 h3 ((Below.refl _ _).grown h2 hbase (fun g hg' => hown.block_ge g hg')))
end
theorem OwnT.at_lt {α : Type} {e : Enc α} {w : World} {base : Nat} {ty : TypeId} {v : Value} {xs : List α} (h : OwnT e w base ty v xs) : At (fun b => base ≤ b ∧ b < w.heap.size) v xs.length := by
 rintro b o n c rfl hn
 exact ⟨h.block_ge b rfl, h.lt b rfl⟩
theorem Own.at_lt {k : IntKind} {w : World} {base : Nat} {ty : TypeId} {v : Value} {xs : List Int} (h : Own k w base ty v xs) : At (fun b => base ≤ b ∧ b < w.heap.size) v xs.length := by
 rintro b o n c rfl hn
 exact ⟨h.block_ge b rfl, h.lt b rfl⟩
theorem At.imp {P Q : Nat → Prop} {v : Value} {n : Nat} (h : At P v n) (hq : ∀ b, P b → Q b) : At Q v n := fun b o m c e hn => hq b (h b o m c e hn)
theorem KeepP.weak {P Q : Nat → Prop} {w w' : World} (h : KeepP P w w') (hq : ∀ b, Q b → P b) : KeepP Q w w' := ⟨h.1, fun b hb hp => h.2 b hb (hq b hp)⟩
theorem KeepP.of_grown {P : Nat → Prop} {w w' : World} {r : Option Nat} (h : w.grownBy w' r) (hs : w.heap.size ≤ w'.heap.size) (hr : ∀ b, P b → some b ≠ r) : KeepP P w w' := ⟨hs, fun b hb hp => h.block b hb (hr b hp)⟩
end Go.Proofs.Ytbpfbebebppleaa
namespace Go.Proofs.Ytbpfbebebppleaa
open Go.RowKit
theorem insX_len {X : List Itm} {x : Itm} (hs : SortX X) : (insX X x).length ≤ X.length + 1 := by
 obtain ⟨A, mid, B, hA⟩ := aroundF_of_sorted posI (posI x) X hs
 exact (ins_around hA).2
theorem dput_any (w : World) (me : Int) (pi po : Option Addr) (ni ci no co : Nat) (x : Itm) (xs : List Itm) (P : Nat → Prop) (hr : TRow encI w (.slice pi ni ci) xs) (hl : xs.length = ni) (hs : SortX xs) (hn : ni < 1024) (h : chkI x = 0) (h1 : x.s = me ∨ x.b = me) (hat : At P (.slice pi ni ci) xs.length) :
  Calls Try.prog 66 #[bookV me (.slice pi ni ci) (.slice po no co), x.v] w fun e w' => ∃ pi' ci', e = .returned (.tuple #[bookV me (.slice pi' (insX xs x).length ci') (.slice po no co), .int .i64 0]) ∧ TRow encI w' (.slice pi' (insX xs x).length ci') (insX xs x) ∧ At (fun b => P b ∨ w.heap.size ≤ b) (.slice pi' (insX xs x).length ci') (insX xs x).length ∧ Below w.heap.size w w' := by
 obtain ⟨A, mid, B, hA⟩ := aroundF_of_sorted posI (posI x) xs hs
 have hins := (ins_around hA).1
 have own : ∀ e w', (∃ pi' ni' ci', e = Ending.returned (.tuple #[.agg #[.int .i64 me, .slice pi' ni' ci', .slice po no co], .int .i64 0]) ∧ OwnT encI w' w.heap.size 64 (.slice pi' ni' ci') (A ++ [x] ++ B) ∧ Below w.heap.size w w') → ∃ pi' ci', e = .returned (.tuple #[bookV me (.slice pi' (insX xs x).length ci') (.slice po no co), .int .i64 0]) ∧ TRow encI w' (.slice pi' (insX xs x).length ci') (insX xs x) ∧ At (fun b => P b ∨ w.heap.size ≤ b) (.slice pi' (insX xs x).length ci') (insX xs x).length ∧ Below w.heap.size w w' := by
  rintro e w' ⟨pi', ni', ci', rfl, ho, hb⟩
  rw [hins] at ho
  obtain ⟨p, c, e1⟩ := ho.form
  cases e1
  exact ⟨_, _, rfl, ho.row, ho.at_P (fun b hb => .inr hb), hb⟩
 rcases hA.mid1 with rfl | ⟨q, rfl, _⟩
 ·exact (put_new w me pi po ni ci no co x xs A B hr hl hA (by omega) h h1 hn).mono own
 ·by_cases hq : q = x
  ·refine (put_same w me pi po ni ci no co x xs A B q hr hl hA (by omega) h h1 hq).mono ?_
   rintro e w' ⟨rfl, hb⟩
   have hx : xs = insX xs x := by rw [← hins, ← hq]; exact hA.all
   have hlen : (insX xs x).length = ni := by rw [← hx]; exact hl
   refine ⟨pi, ci, by rw [hlen]; rfl, ?_, ?_, hb⟩
   ·rw [hlen, ← hx]; exact hr.kept hb
   ·rw [hlen]
    rw [hl] at hat
    exact hat.imp (fun b hb => .inl hb)
  ·exact (put_other2 w me pi po ni ci no co x xs A B q hr hl hA (by omega) h h1 hq).mono own
end Go.Proofs.Ytbpfbebebppleaa
namespace Go.Proofs.Ytbpfbebebppleaa
open Go.RowKit
def aboutM (k : Int) (x : Itm) : Msg := ⟨k, x.s, x.n, x.b, x.c, x.r, 0, x.a, false, [], []⟩
def itemM (m : Msg) : Itm := ⟨m.s, m.n, m.b, m.c, m.a, m.r, 1, 0⟩
set_option linter.unusedSimpArgs false in
set_option maxHeartbeats 2000000 in
theorem about_any (k : Int) (x : Itm) (w : World) : Calls Try.prog 67 #[.int .i64 k, x.v] w fun e w' => e = .returned ((aboutM k x).v (.slice none 0 0) (.slice none 0 0)) ∧ Below w.heap.size w w' := by
 unfold Itm.v Msg.v aboutM
 go_enter Try.func67, Try.ntmps67
 go_wp2_with fail
 refine bodyPost_ret (v := .agg #[.int .i64 k, .int .i64 x.s, .int .i64 x.n, .int .i64 x.b, .int .i64 x.c, .int .i64 x.r, .int .i64 0, .int .i64 x.a, .bool false, .slice none 0 0, .slice none 0 0]) (by simp [results, Try.results67, go_sem]) rfl ⟨rfl, (oneB w _).trans ((oneB _ _).mono (by simp))⟩
set_option linter.unusedSimpArgs false in
set_option maxHeartbeats 2000000 in
theorem mitem_any (m : Msg) (vl vn : Value) (w : World) : Calls Try.prog 45 #[m.v vl vn] w fun e w' => e = .returned (.tuple #[(if chkI (itemM m) = 0 then itemM m else itm0).v, .int .i64 (chkI (itemM m))]) ∧ Below w.heap.size w w' := by
 by_cases hE : chkI (itemM m) = 0
 ·have HE := Lib.hid hE
  rw [if_pos hE, hE]
  clear hE
  unfold Msg.v
  go_enter Try.func45, Try.ntmps45
  go_wp2_with fail
  have HT := Lib.hid (three_new w #[.int .i64 m.k, .int .i64 m.s, .int .i64 m.n, .int .i64 m.b, .int .i64 m.c, .int .i64 m.r, .int .i64 m.y, .int .i64 m.a, .bool m.t, vl, vn] #[.int .i64 0, .int .i64 0, .int .i64 0, .int .i64 0, .int .i64 0, .int .i64 0, .int .i64 0, .int .i64 0] #[.int .i64 m.s, .int .i64 m.n, .int .i64 m.b, .int .i64 m.c, .int .i64 m.a, .int .i64 m.r, .int .i64 1, .int .i64 0] 40 64 64)
  generalize hW : ((w.alloc (.cells #[.int .i64 m.k, .int .i64 m.s, .int .i64 m.n, .int .i64 m.b, .int .i64 m.c, .int .i64 m.r, .int .i64 m.y, .int .i64 m.a, .bool m.t, vl, vn] 40)).alloc (.cells #[.int .i64 0, .int .i64 0, .int .i64 0, .int .i64 0, .int .i64 0, .int .i64 0, .int .i64 0, .int .i64 0] 64)).alloc (.cells #[.int .i64 m.s, .int .i64 m.n, .int .i64 m.b, .int .i64 m.c, .int .i64 m.a, .int .i64 m.r, .int .i64 1, .int .i64 0] 64) = W at *
  clear hW
  refine (check_any (itemM m) W).mono ?_
  rintro y w3 ⟨rfl, hb3⟩
  have HB3 := Lib.hid (HT.out.low.trans (hb3.mono HT.out.low.size))
  have HK1 := Lib.hid (HT.out.b1.below hb3 HT.out.b1.lt)
  have hk2 := HT.out.b2.below hb3 HT.out.b2.lt
  have c0 := hk2.cell 0
  have c1 := hk2.cell 1
  have c2 := hk2.cell 2
  have c3 := hk2.cell 3
  have c4 := hk2.cell 4
  have c5 := hk2.cell 5
  have c6 := hk2.cell 6
  have c7 := hk2.cell 7
  clear hb3 hk2 HT
  rw [HE.out]
  have HTH : Hid (w3.there (w.heap.size + 1) 0 8) := HK1.out.thereAt
  have HINF : Hid ((Try.prog.info? 64).map (·.size) = some (#[.int .i64 m.s, .int .i64 m.n, .int .i64 m.b, .int .i64 m.c, .int .i64 m.a, .int .i64 m.r, .int .i64 1, .int .i64 0] : Array Value).size) := by
   show _ = _
   kernel_rfl
  have HF : Hid (Blk (w3.setCells (w.heap.size + 1) 0 (#[.int .i64 m.s, .int .i64 m.n, .int .i64 m.b, .int .i64 m.c, .int .i64 m.a, .int .i64 m.r, .int .i64 1, .int .i64 0] : Array Value).toList) (w.heap.size + 1) #[.int .i64 m.s, .int .i64 m.n, .int .i64 m.b, .int .i64 m.c, .int .i64 m.a, .int .i64 m.r, .int .i64 1, .int .i64 0] 64 ∧ Below w.heap.size w (w3.setCells (w.heap.size + 1) 0 (#[.int .i64 m.s, .int .i64 m.n, .int .i64 m.b, .int .i64 m.c, .int .i64 m.a, .int .i64 m.r, .int .i64 1, .int .i64 0] : Array Value).toList)) := ⟨blk_put_all HK1.out _ rfl, below_put (by omega) _ _ _ _ HB3.out⟩
  go_wp2_with (with_reducible refine stop_storeT 64 (.tmp 2) (.tmp 23) rfl ?_)
  refine wpList_store_mid rfl 64 (.tmp 2) (.tmp 23) rfl (w.heap.size + 1) 0 #[.int .i64 m.s, .int .i64 m.n, .int .i64 m.b, .int .i64 m.c, .int .i64 m.a, .int .i64 m.r, .int .i64 1, .int .i64 0] rfl rfl HTH.out HINF.out (all_oneCell_toArray (by intro v hv; simp at hv; rcases hv with rfl | rfl | rfl | rfl | rfl | rfl | rfl | rfl <;> rfl)) ?_
  generalize World.setCells w3 _ _ _ = W9 at *
  clear HTH HK1 HB3 c0 c1 c2 c3 c4 c5 c6 c7
  go_wp2_with fail
  have hf := HF.out.1
  refine bodyPost_ret (v := .tuple #[.agg #[.int .i64 m.s, .int .i64 m.n, .int .i64 m.b, .int .i64 m.c, .int .i64 m.a, .int .i64 m.r, .int .i64 1, .int .i64 0], .int .i64 0]) (by simp [results, Try.results45, go_sem, hf.cell 0, hf.cell 1, hf.cell 2, hf.cell 3, hf.cell 4, hf.cell 5, hf.cell 6, hf.cell 7]) rfl ⟨rfl, HF.out.2⟩
 ·rw [if_neg hE]
  generalize hEE : chkI (itemM m) = E at *
  have HE := Lib.hid hE
  have HEE := Lib.hid hEE
  clear hE hEE
  unfold Msg.v
  go_enter Try.func45, Try.ntmps45
  go_wp2_with fail
  have HT := Lib.hid (three_new w #[.int .i64 m.k, .int .i64 m.s, .int .i64 m.n, .int .i64 m.b, .int .i64 m.c, .int .i64 m.r, .int .i64 m.y, .int .i64 m.a, .bool m.t, vl, vn] #[.int .i64 0, .int .i64 0, .int .i64 0, .int .i64 0, .int .i64 0, .int .i64 0, .int .i64 0, .int .i64 0] #[.int .i64 m.s, .int .i64 m.n, .int .i64 m.b, .int .i64 m.c, .int .i64 m.a, .int .i64 m.r, .int .i64 1, .int .i64 0] 40 64 64)
  generalize hW : ((w.alloc (.cells #[.int .i64 m.k, .int .i64 m.s, .int .i64 m.n, .int .i64 m.b, .int .i64 m.c, .int .i64 m.r, .int .i64 m.y, .int .i64 m.a, .bool m.t, vl, vn] 40)).alloc (.cells #[.int .i64 0, .int .i64 0, .int .i64 0, .int .i64 0, .int .i64 0, .int .i64 0, .int .i64 0, .int .i64 0] 64)).alloc (.cells #[.int .i64 m.s, .int .i64 m.n, .int .i64 m.b, .int .i64 m.c, .int .i64 m.a, .int .i64 m.r, .int .i64 1, .int .i64 0] 64) = W at *
  clear hW
  refine (check_any (itemM m) W).mono ?_
  rintro y w3 ⟨rfl, hb3⟩
  have HB3 := Lib.hid (HT.out.low.trans (hb3.mono HT.out.low.size))
  have HK1 := Lib.hid (HT.out.b1.below hb3 HT.out.b1.lt)
  have hk2 := HT.out.b2.below hb3 HT.out.b2.lt
  have c0 := hk2.cell 0
  have c1 := hk2.cell 1
  have c2 := hk2.cell 2
  have c3 := hk2.cell 3
  have c4 := hk2.cell 4
  have c5 := hk2.cell 5
  have c6 := hk2.cell 6
  have c7 := hk2.cell 7
  clear hb3 hk2 HT
  have e1 : (E != 0) = true := by simpa using HE.out
  rw [HEE.out]
  have HTH : Hid (w3.there (w.heap.size + 1) 0 8) := HK1.out.thereAt
  have HINF : Hid ((Try.prog.info? 64).map (·.size) = some (#[.int .i64 0, .int .i64 0, .int .i64 0, .int .i64 0, .int .i64 0, .int .i64 0, .int .i64 0, .int .i64 0] : Array Value).size) := by
   show _ = _
   kernel_rfl
  have HF : Hid (Blk (w3.setCells (w.heap.size + 1) 0 (#[.int .i64 0, .int .i64 0, .int .i64 0, .int .i64 0, .int .i64 0, .int .i64 0, .int .i64 0, .int .i64 0] : Array Value).toList) (w.heap.size + 1) #[.int .i64 0, .int .i64 0, .int .i64 0, .int .i64 0, .int .i64 0, .int .i64 0, .int .i64 0, .int .i64 0] 64 ∧ Below w.heap.size w (w3.setCells (w.heap.size + 1) 0 (#[.int .i64 0, .int .i64 0, .int .i64 0, .int .i64 0, .int .i64 0, .int .i64 0, .int .i64 0, .int .i64 0] : Array Value).toList)) := ⟨blk_put_all HK1.out _ rfl, below_put (by omega) _ _ _ _ HB3.out⟩
  go_wp2_with (with_reducible refine stop_storeT 64 (.tmp 2) (.tmp 21) rfl ?_)
  refine wpList_store_mid rfl 64 (.tmp 2) (.tmp 21) rfl (w.heap.size + 1) 0 #[.int .i64 0, .int .i64 0, .int .i64 0, .int .i64 0, .int .i64 0, .int .i64 0, .int .i64 0, .int .i64 0] rfl rfl HTH.out HINF.out (all_oneCell_toArray (by intro v hv; simp at hv; subst hv; rfl)) ?_
  generalize World.setCells w3 _ _ _ = W9 at *
  clear HTH HK1 HB3 c0 c1 c2 c3 c4 c5 c6 c7
  go_wp2_with fail
  have hf := HF.out.1
  refine bodyPost_ret (v := .tuple #[.agg #[.int .i64 0, .int .i64 0, .int .i64 0, .int .i64 0, .int .i64 0, .int .i64 0, .int .i64 0, .int .i64 0], .int .i64 E]) (by simp [results, Try.results45, go_sem, hf.cell 0, hf.cell 1, hf.cell 2, hf.cell 3, hf.cell 4, hf.cell 5, hf.cell 6, hf.cell 7]) rfl ⟨rfl, HF.out.2⟩
end Go.Proofs.Ytbpfbebebppleaa
namespace Go.Proofs.Ytbpfbebebppleaa
open Go.RowKit
/-- An item and an error's number as what a call answers. -/
def ansI (p : Itm × Int) : Ending := .returned (.tuple #[p.1.v, .int .i64 p.2])
theorem retA {p q : Itm × Int} (h : p = q) : ansI p = ansI q := by rw [h]
/-- A whole item stored into block b. -/
abbrev set8 (w : World) (b : Nat) (x : Itm) : World := ((((((((w.setCell ⟨b, 0, none⟩ (.int .i64 x.s)).setCell ⟨b, 1, none⟩ (.int .i64 x.n)).setCell ⟨b, 2, none⟩ (.int .i64 x.b)).setCell ⟨b, 3, none⟩ (.int .i64 x.c)).setCell ⟨b, 4, none⟩ (.int .i64 x.a)).setCell ⟨b, 5, none⟩ (.int .i64 x.r)).setCell ⟨b, 6, none⟩ (.int .i64 x.t)).setCell ⟨b, 7, none⟩ (.int .i64 x.y))
abbrev Itm.row (x : Itm) : Array Value := #[.int .i64 x.s, .int .i64 x.n, .int .i64 x.b, .int .i64 x.c, .int .i64 x.a, .int .i64 x.r, .int .i64 x.t, .int .i64 x.y]
abbrev zeroI : Itm := ⟨0, 0, 0, 0, 0, 0, 0, 0⟩
theorem blk_set8 {w : World} {b : Nat} {z : Itm} {t : TypeId} (h : Blk w b z.row t) (x : Itm) : Blk (set8 w b x) b x.row t := by
 have h0 : Blk (w.setCell ⟨b, 0, none⟩ (.int .i64 x.s)) b #[.int .i64 x.s, .int .i64 z.n, .int .i64 z.b, .int .i64 z.c, .int .i64 z.a, .int .i64 z.r, .int .i64 z.t, .int .i64 z.y] t := h.set 0 (.int .i64 x.s)
 have h1 : Blk ((w.setCell ⟨b, 0, none⟩ (.int .i64 x.s)).setCell ⟨b, 1, none⟩ (.int .i64 x.n)) b #[.int .i64 x.s, .int .i64 x.n, .int .i64 z.b, .int .i64 z.c, .int .i64 z.a, .int .i64 z.r, .int .i64 z.t, .int .i64 z.y] t := h0.set 1 (.int .i64 x.n)
 have h2 : Blk (((w.setCell ⟨b, 0, none⟩ (.int .i64 x.s)).setCell ⟨b, 1, none⟩ (.int .i64 x.n)).setCell ⟨b, 2, none⟩ (.int .i64 x.b)) b #[.int .i64 x.s, .int .i64 x.n, .int .i64 x.b, .int .i64 z.c, .int .i64 z.a, .int .i64 z.r, .int .i64 z.t, .int .i64 z.y] t := h1.set 2 (.int .i64 x.b)
 have h3 : Blk ((((w.setCell ⟨b, 0, none⟩ (.int .i64 x.s)).setCell ⟨b, 1, none⟩ (.int .i64 x.n)).setCell ⟨b, 2, none⟩ (.int .i64 x.b)).setCell ⟨b, 3, none⟩ (.int .i64 x.c)) b #[.int .i64 x.s, .int .i64 x.n, .int .i64 x.b, .int .i64 x.c, .int .i64 z.a, .int .i64 z.r, .int .i64 z.t, .int .i64 z.y] t := h2.set 3 (.int .i64 x.c)
 have h4 : Blk (((((w.setCell ⟨b, 0, none⟩ (.int .i64 x.s)).setCell ⟨b, 1, none⟩ (.int .i64 x.n)).setCell ⟨b, 2, none⟩ (.int .i64 x.b)).setCell ⟨b, 3, none⟩ (.int .i64 x.c)).setCell ⟨b, 4, none⟩ (.int .i64 x.a)) b #[.int .i64 x.s, .int .i64 x.n, .int .i64 x.b, .int .i64 x.c, .int .i64 x.a, .int .i64 z.r, .int .i64 z.t, .int .i64 z.y] t := h3.set 4 (.int .i64 x.a)
 have h5 : Blk ((((((w.setCell ⟨b, 0, none⟩ (.int .i64 x.s)).setCell ⟨b, 1, none⟩ (.int .i64 x.n)).setCell ⟨b, 2, none⟩ (.int .i64 x.b)).setCell ⟨b, 3, none⟩ (.int .i64 x.c)).setCell ⟨b, 4, none⟩ (.int .i64 x.a)).setCell ⟨b, 5, none⟩ (.int .i64 x.r)) b #[.int .i64 x.s, .int .i64 x.n, .int .i64 x.b, .int .i64 x.c, .int .i64 x.a, .int .i64 x.r, .int .i64 z.t, .int .i64 z.y] t := h4.set 5 (.int .i64 x.r)
 have h6 : Blk (((((((w.setCell ⟨b, 0, none⟩ (.int .i64 x.s)).setCell ⟨b, 1, none⟩ (.int .i64 x.n)).setCell ⟨b, 2, none⟩ (.int .i64 x.b)).setCell ⟨b, 3, none⟩ (.int .i64 x.c)).setCell ⟨b, 4, none⟩ (.int .i64 x.a)).setCell ⟨b, 5, none⟩ (.int .i64 x.r)).setCell ⟨b, 6, none⟩ (.int .i64 x.t)) b #[.int .i64 x.s, .int .i64 x.n, .int .i64 x.b, .int .i64 x.c, .int .i64 x.a, .int .i64 x.r, .int .i64 x.t, .int .i64 z.y] t := h5.set 6 (.int .i64 x.t)
 have h7 : Blk ((((((((w.setCell ⟨b, 0, none⟩ (.int .i64 x.s)).setCell ⟨b, 1, none⟩ (.int .i64 x.n)).setCell ⟨b, 2, none⟩ (.int .i64 x.b)).setCell ⟨b, 3, none⟩ (.int .i64 x.c)).setCell ⟨b, 4, none⟩ (.int .i64 x.a)).setCell ⟨b, 5, none⟩ (.int .i64 x.r)).setCell ⟨b, 6, none⟩ (.int .i64 x.t)).setCell ⟨b, 7, none⟩ (.int .i64 x.y)) b #[.int .i64 x.s, .int .i64 x.n, .int .i64 x.b, .int .i64 x.c, .int .i64 x.a, .int .i64 x.r, .int .i64 x.t, .int .i64 x.y] t := h6.set 7 (.int .i64 x.y)
 exact h7
theorem below_set8 {B : Nat} {w w1 : World} {b : Nat} (h : Below B w w1) (hb : B ≤ b) (x : Itm) : Below B w (set8 w1 b x) := h |>.setCell (p := ⟨b, 0, none⟩) hb (.int .i64 x.s) |>.setCell (p := ⟨b, 1, none⟩) hb (.int .i64 x.n) |>.setCell (p := ⟨b, 2, none⟩) hb (.int .i64 x.b) |>.setCell (p := ⟨b, 3, none⟩) hb (.int .i64 x.c) |>.setCell (p := ⟨b, 4, none⟩) hb (.int .i64 x.a) |>.setCell (p := ⟨b, 5, none⟩) hb (.int .i64 x.r) |>.setCell (p := ⟨b, 6, none⟩) hb (.int .i64 x.t) |>.setCell (p := ⟨b, 7, none⟩) hb (.int .i64 x.y)
theorem blk_set8other {w : World} {b g : Nat} {cs : Array Value} {t : TypeId} (h : Blk w g cs t) (hb : b ≠ g) (x : Itm) : Blk (set8 w b x) g cs t := h |>.setOther (a := ⟨b, 0, none⟩) hb (.int .i64 x.s) |>.setOther (a := ⟨b, 1, none⟩) hb (.int .i64 x.n) |>.setOther (a := ⟨b, 2, none⟩) hb (.int .i64 x.b) |>.setOther (a := ⟨b, 3, none⟩) hb (.int .i64 x.c) |>.setOther (a := ⟨b, 4, none⟩) hb (.int .i64 x.a) |>.setOther (a := ⟨b, 5, none⟩) hb (.int .i64 x.r) |>.setOther (a := ⟨b, 6, none⟩) hb (.int .i64 x.t) |>.setOther (a := ⟨b, 7, none⟩) hb (.int .i64 x.y)
end Go.Proofs.Ytbpfbebebppleaa
namespace Go.Proofs.Ytbpfbebebppleaa
open Go.RowKit
theorem turn_any (x : Itm) (f t : Int) (w : World) : Calls Try.prog 65 #[x.v, .int .i64 f, .int .i64 t] w fun e w' => e = ansI (turnI x f t) ∧ Below w.heap.size w w' := by
 have HB2 : Hid (∀ a b, Below w.heap.size w ((w.alloc a).alloc b)) := fun a b => (oneB w a).alloc (by simp) b
 by_cases h : x.t = f
 ·have HC : Hid (turnI x f t = ({ x with t := t }, 0)) := if_pos h
  have e4 : (x.t != f) = false := by simpa using h
  unfold Itm.v at *
  clear h
  go_enter Try.func65, Try.ntmps65
  go_wp2
  refine bodyPost_ret (v := .tuple #[Itm.v { x with t := t }, .int .i64 0]) (by simp [results, Try.results65, go_sem, Itm.v]) rfl ⟨retA HC.out.symm, HB2.out _ _⟩
 ·have HC : Hid (turnI x f t = (x, 90)) := if_neg h
  have e4 : (x.t != f) = true := by simpa using h
  unfold Itm.v at *
  clear h
  go_enter Try.func65, Try.ntmps65
  go_wp2
  refine bodyPost_ret (v := .tuple #[Itm.v x, .int .i64 90]) (by simp [results, Try.results65, go_sem, Itm.v]) rfl ⟨retA HC.out.symm, HB2.out _ _⟩
end Go.Proofs.Ytbpfbebebppleaa
namespace Go.Proofs.Ytbpfbebebppleaa
open Go.RowKit
def Fits (s : Int) : Prop := -9223372036854775808 ≤ s ∧ s ≤ 9223372036854775807
theorem u64_wrap (x : Int) : IntKind.u64.wrap x = x % 18446744073709551616 := by rfl

end Go.Proofs.Ytbpfbebebppleaa
namespace Go.Proofs.Ytbpfbebebppleaa
open Go.RowKit
def nearB (a b far : Int) : Bool := decide (a - b ≤ far ∧ b - a ≤ far)
theorem ret_bool {a b : Bool} (h : a = b) : Ending.returned (.bool a) = .returned (.bool b) := by rw [h]
theorem near_any (a b far : Int) (w : World) (ha : Fits a) (hb : Fits b) (hf : Fits far) :
  Calls Try.prog 64 #[.int .i64 a, .int .i64 b, .int .i64 far] w fun e w' => e = .returned (.bool (nearB a b far)) ∧ w = w' := by
 unfold Fits at ha hb hf
 go_enter Try.func64, Try.ntmps64
 go_wp2
 ·go_ret
  exact ⟨ret_bool (by unfold nearB; rw [decide_eq_decide]; simp only [u64_wrap]; omega), rfl⟩
 ·go_ret
  exact ⟨ret_bool (by unfold nearB; rw [decide_eq_decide]; simp only [u64_wrap]; omega), rfl⟩
 ·go_ret
  exact ⟨ret_bool (by unfold nearB; rw [decide_eq_decide]; simp only [u64_wrap]; omega), rfl⟩
 ·go_ret
  exact ⟨ret_bool (by unfold nearB; symm; rw [decide_eq_false_iff_not]; omega), rfl⟩
end Go.Proofs.Ytbpfbebebppleaa
namespace Go.Proofs.Ytbpfbebebppleaa
open Go.RowKit
def findO (os : List Ord) (s n : Int) : Option Ord := os.find? (fun x => decide (x.s = s ∧ x.n = n))
theorem findO_around {xs A mid B : List Ord} {s n : Int} (h : AroundF posO ⟨s, n, 0⟩ xs A mid B) : findO xs s n = mid.head? := find_around h
def SortO (os : List Ord) : Prop := SortedP (os.map posO)
theorem dexpected_any (w : World) (me : Int) (pi po : Option Addr) (ni ci no co : Nat) (s n : Int) (os : List Ord) (hr : TRow encO w (.slice po no co) os) (hl : os.length = no) (hs : SortO os) (hn : no ≤ 2000) :
  Calls Try.prog 24 #[bookV me (.slice pi ni ci) (.slice po no co), idV s n] w fun e w' => e = .returned (.tuple #[.int .i64 ((findO os s n).map Ord.a |>.getD 0), .bool (findO os s n).isSome]) ∧ Below w.heap.size w w' := by
 obtain ⟨A, mid, B, hA⟩ := aroundF_of_sorted posO ⟨s, n, 0⟩ os hs
 rw [findO_around hA]
 rcases hA.mid1 with rfl | ⟨q, rfl, _⟩
 ·exact expected_none w me pi po ni ci no co s n os A B hr hl hA hn
 ·exact expected_found w me pi po ni ci no co s n os A B q hr hl hA hn
/-- A desk by value. -/
def deskV (me : Int) (pi : Option Addr) (ni ci : Nat) (po : Option Addr) (no co : Nat) (far : Int) : Value := .agg #[.int .i64 me, .slice pi ni ci, .slice po no co, .int .i64 far]
/-- A desk's model. -/
structure Dsk where
 me : Int
 far : Int
 xs : List Itm
 os : List Ord
structure DRow (w : World) (d : Dsk) (pi : Option Addr) (ci : Nat) (po : Option Addr) (co : Nat) : Prop where
 items : TRow encI w (.slice pi d.xs.length ci) d.xs
 orders : TRow encO w (.slice po d.os.length co) d.os
 sx : SortX d.xs
 so : SortO d.os
 nx : d.xs.length ≤ 1024
 no : d.os.length ≤ 1024
theorem DRow.kept {w w' : World} {d : Dsk} {pi : Option Addr} {ci : Nat} {po : Option Addr} {co : Nat} (h : DRow w d pi ci po co) (hb : Below w.heap.size w w') : DRow w' d pi ci po co := ⟨h.items.kept hb, h.orders.kept hb, h.sx, h.so, h.nx, h.no⟩
end Go.Proofs.Ytbpfbebebppleaa
namespace Go.Proofs.Ytbpfbebebppleaa
open Go.RowKit
set_option linter.unusedSimpArgs false
theorem chgI_put (g : Nat) (B : Nat) (hB : B ≤ g) : ∀ (vs : List Value) (o : Nat) (W w : World), Below B W w → Below B W (w.setCells g o vs) := fun vs o W w h => below_put hB vs o W w h
/-- The item of a name, if the desk is its seller. -/
def soldA (d : Dsk) (s n : Int) : Itm × Int :=
 match findX d.xs s n with
 | none => (itm0, 4)
 | some q => if q.s = d.me then (q, 0) else (q, 140)
/-- The item of a name, if these are its seller and its buyer, and it is in that round. -/
def betwA (d : Dsk) (s n r se bu : Int) : Itm × Int :=
 match findX d.xs s n with
 | none => (itm0, 4)
 | some q => if q.s ≠ se ∨ q.b ≠ bu then (q, 140) else if q.r ≠ r then (q, 90) else (q, 0)
set_option linter.unusedSimpArgs false in
set_option maxHeartbeats 4000000 in
set_option maxRecDepth 100000 in
theorem sold_any (w : World) (d : Dsk) (pi po : Option Addr) (ci co : Nat) (m : Msg) (vl vn : Value) (h : DRow w d pi ci po co) : Calls Try.prog 55 #[(deskV d.me pi d.xs.length ci po d.os.length co d.far), m.v vl vn] w fun e w' => e = ansI (soldA d m.s m.n) ∧ Below w.heap.size w w' := by
 have HT := Lib.hid (three_new w #[.int .i64 d.me, .slice pi d.xs.length ci, .slice po d.os.length co, .int .i64 d.far] #[.int .i64 m.k, .int .i64 m.s, .int .i64 m.n, .int .i64 m.b, .int .i64 m.c, .int .i64 m.r, .int .i64 m.y, .int .i64 m.a, .bool m.t, vl, vn] #[.int .i64 0, .int .i64 0, .int .i64 0, .int .i64 0, .int .i64 0, .int .i64 0, .int .i64 0, .int .i64 0] 29 40 64)
 cases hf : findX d.xs m.s m.n with
 | none =>
  have ha : soldA d m.s m.n = (itm0, 4) := by unfold soldA; rw [hf]
  have HG := Lib.hid (dget_any (((w.alloc (.cells #[.int .i64 d.me, .slice pi d.xs.length ci, .slice po d.os.length co, .int .i64 d.far] 29)).alloc (.cells #[.int .i64 m.k, .int .i64 m.s, .int .i64 m.n, .int .i64 m.b, .int .i64 m.c, .int .i64 m.r, .int .i64 m.y, .int .i64 m.a, .bool m.t, vl, vn] 40)).alloc (.cells #[.int .i64 0, .int .i64 0, .int .i64 0, .int .i64 0, .int .i64 0, .int .i64 0, .int .i64 0, .int .i64 0] 64)) d.me pi po d.xs.length ci d.os.length co m.s m.n d.xs (h.items.kept HT.out.low) rfl h.sx (by have := h.nx; omega))
  rw [hf] at HG
  rw [ha]
  clear ha
  clear h hf
  unfold bookV idV at HG
  simp only [Option.getD_none, Option.isSome_none, itm0] at HG
  unfold Itm.v at HG
  unfold deskV Msg.v
  go_enter Try.func55, Try.ntmps55
  go_upto_region 1 with fail
  generalize (((w.alloc (.cells #[.int .i64 d.me, .slice pi d.xs.length ci, .slice po d.os.length co, .int .i64 d.far] 29)).alloc (.cells #[.int .i64 m.k, .int .i64 m.s, .int .i64 m.n, .int .i64 m.b, .int .i64 m.c, .int .i64 m.r, .int .i64 m.y, .int .i64 m.a, .bool m.t, vl, vn] 40)).alloc (.cells #[.int .i64 0, .int .i64 0, .int .i64 0, .int .i64 0, .int .i64 0, .int .i64 0, .int .i64 0, .int .i64 0] 64)) = W at *
  have a0 : W.cell? ⟨w.heap.size, 0, none⟩ = some (.int .i64 d.me) := HT.out.b0.cell 0
  have a1 : W.cell? ⟨w.heap.size, 1, none⟩ = some (.slice pi d.xs.length ci) := HT.out.b0.cell 1
  have a2 : W.cell? ⟨w.heap.size, 2, none⟩ = some (.slice po d.os.length co) := HT.out.b0.cell 2
  have c1 : W.cell? ⟨w.heap.size + 1, 1, none⟩ = some (.int .i64 m.s) := HT.out.b1.cell 1
  have c2 : W.cell? ⟨w.heap.size + 1, 2, none⟩ = some (.int .i64 m.n) := HT.out.b1.cell 2
  go_wp2_with fail
  clear a0 a1 a2 c1 c2
  refine HG.out.mono ?_
  rintro y w1 ⟨rfl, hb⟩
  have HB1 := Lib.hid ((HT.out.low.trans (hb.mono HT.out.low.size)).alloc (HT.out.low.trans (hb.mono HT.out.low.size)).size (.cells #[.int .i64 0, .int .i64 0, .int .i64 0, .int .i64 0, .int .i64 0, .int .i64 0, .int .i64 0, .int .i64 0] 64))
  have HD1 : Hid (Blk (w1.alloc (.cells #[.int .i64 0, .int .i64 0, .int .i64 0, .int .i64 0, .int .i64 0, .int .i64 0, .int .i64 0, .int .i64 0] 64)) w.heap.size #[.int .i64 d.me, .slice pi d.xs.length ci, .slice po d.os.length co, .int .i64 d.far] 29) := (HT.out.b0.below hb HT.out.b0.lt).alloc _
  have HM1 : Hid (Blk (w1.alloc (.cells #[.int .i64 0, .int .i64 0, .int .i64 0, .int .i64 0, .int .i64 0, .int .i64 0, .int .i64 0, .int .i64 0] 64)) (w.heap.size + 1) #[.int .i64 m.k, .int .i64 m.s, .int .i64 m.n, .int .i64 m.b, .int .i64 m.c, .int .i64 m.r, .int .i64 m.y, .int .i64 m.a, .bool m.t, vl, vn] 40) := (HT.out.b1.below hb HT.out.b1.lt).alloc _
  have HR1 : Hid (Blk (w1.alloc (.cells #[.int .i64 0, .int .i64 0, .int .i64 0, .int .i64 0, .int .i64 0, .int .i64 0, .int .i64 0, .int .i64 0] 64)) (w.heap.size + 1 + 1) #[.int .i64 0, .int .i64 0, .int .i64 0, .int .i64 0, .int .i64 0, .int .i64 0, .int .i64 0, .int .i64 0] 64) := (HT.out.b2.below hb HT.out.b2.lt).alloc _
  have HQ1 := Lib.hid (Blk.new w1 #[.int .i64 0, .int .i64 0, .int .i64 0, .int .i64 0, .int .i64 0, .int .i64 0, .int .i64 0, .int .i64 0] 64)
  clear hb HG HT
  go_upto_region 2 with fail
  generalize w1.alloc (.cells #[.int .i64 0, .int .i64 0, .int .i64 0, .int .i64 0, .int .i64 0, .int .i64 0, .int .i64 0, .int .i64 0] 64) = w2 at *
  generalize w1.heap.size = gq at *
  have q0 : w2.cell? ⟨gq, 0, none⟩ = some (.int .i64 0) := HQ1.out.cell 0
  have q1 : w2.cell? ⟨gq, 1, none⟩ = some (.int .i64 0) := HQ1.out.cell 1
  have q2 : w2.cell? ⟨gq, 2, none⟩ = some (.int .i64 0) := HQ1.out.cell 2
  have q3 : w2.cell? ⟨gq, 3, none⟩ = some (.int .i64 0) := HQ1.out.cell 3
  have q4 : w2.cell? ⟨gq, 4, none⟩ = some (.int .i64 0) := HQ1.out.cell 4
  have q5 : w2.cell? ⟨gq, 5, none⟩ = some (.int .i64 0) := HQ1.out.cell 5
  have q6 : w2.cell? ⟨gq, 6, none⟩ = some (.int .i64 0) := HQ1.out.cell 6
  have q7 : w2.cell? ⟨gq, 7, none⟩ = some (.int .i64 0) := HQ1.out.cell 7
  have a0 : w2.cell? ⟨w.heap.size, 0, none⟩ = some (.int .i64 d.me) := HD1.out.cell 0
  have c5 : w2.cell? ⟨w.heap.size + 1, 5, none⟩ = some (.int .i64 m.r) := HM1.out.cell 5
  go_wp2_with (with_reducible refine stop_storeT 64 (.tmp 4) (.tmp 19) rfl ?_)
  have HTH : Hid (w2.there (w.heap.size + 1 + 1) 0 8) := HR1.out.thereAt
  have HF : Hid (Blk (w2.setCells (w.heap.size + 1 + 1) 0 (#[.int .i64 0, .int .i64 0, .int .i64 0, .int .i64 0, .int .i64 0, .int .i64 0, .int .i64 0, .int .i64 0] : Array Value).toList) (w.heap.size + 1 + 1) #[.int .i64 0, .int .i64 0, .int .i64 0, .int .i64 0, .int .i64 0, .int .i64 0, .int .i64 0, .int .i64 0] 64 ∧ Below w.heap.size w (w2.setCells (w.heap.size + 1 + 1) 0 (#[.int .i64 0, .int .i64 0, .int .i64 0, .int .i64 0, .int .i64 0, .int .i64 0, .int .i64 0, .int .i64 0] : Array Value).toList)) := ⟨blk_put_all HR1.out _ rfl, below_put (by omega) _ _ _ _ HB1.out⟩
  refine wpList_store_mid rfl 64 (.tmp 4) (.tmp 19) rfl (w.heap.size + 1 + 1) 0 #[.int .i64 0, .int .i64 0, .int .i64 0, .int .i64 0, .int .i64 0, .int .i64 0, .int .i64 0, .int .i64 0] rfl rfl HTH.out (infoI8 rfl) (all_oneCell_toArray (encI.one itm0)) ?_
  generalize World.setCells w2 _ _ _ = w3 at *
  clear HTH HR1 HQ1 HD1 HM1 HB1 a0 c5 q0 q1 q2 q3 q4 q5 q6 q7
  go_wp2_with fail
  have hf := HF.out.1
  refine bodyPost_ret (v := .tuple #[.agg #[.int .i64 0, .int .i64 0, .int .i64 0, .int .i64 0, .int .i64 0, .int .i64 0, .int .i64 0, .int .i64 0], .int .i64 4]) (by simp [results, Try.results55, go_sem, hf.cell 0, hf.cell 1, hf.cell 2, hf.cell 3, hf.cell 4, hf.cell 5, hf.cell 6, hf.cell 7]) rfl ⟨rfl, HF.out.2⟩
 | some q =>
  by_cases hq : q.s = d.me
  ·have ha : soldA d m.s m.n = (q, 0) := by unfold soldA; rw [hf]; dsimp only; rw [if_pos hq]
   have hqb : (q.s != d.me) = false := by simpa using hq
   clear hq
   have HG := Lib.hid (dget_any (((w.alloc (.cells #[.int .i64 d.me, .slice pi d.xs.length ci, .slice po d.os.length co, .int .i64 d.far] 29)).alloc (.cells #[.int .i64 m.k, .int .i64 m.s, .int .i64 m.n, .int .i64 m.b, .int .i64 m.c, .int .i64 m.r, .int .i64 m.y, .int .i64 m.a, .bool m.t, vl, vn] 40)).alloc (.cells #[.int .i64 0, .int .i64 0, .int .i64 0, .int .i64 0, .int .i64 0, .int .i64 0, .int .i64 0, .int .i64 0] 64)) d.me pi po d.xs.length ci d.os.length co m.s m.n d.xs (h.items.kept HT.out.low) rfl h.sx (by have := h.nx; omega))
   rw [hf] at HG
   rw [ha]
   clear ha
   clear h hf
   unfold bookV idV at HG
   simp only [Option.getD_some, Option.isSome_some] at HG
   unfold Itm.v at HG
   unfold deskV Msg.v
   go_enter Try.func55, Try.ntmps55
   go_upto_region 1 with fail
   generalize (((w.alloc (.cells #[.int .i64 d.me, .slice pi d.xs.length ci, .slice po d.os.length co, .int .i64 d.far] 29)).alloc (.cells #[.int .i64 m.k, .int .i64 m.s, .int .i64 m.n, .int .i64 m.b, .int .i64 m.c, .int .i64 m.r, .int .i64 m.y, .int .i64 m.a, .bool m.t, vl, vn] 40)).alloc (.cells #[.int .i64 0, .int .i64 0, .int .i64 0, .int .i64 0, .int .i64 0, .int .i64 0, .int .i64 0, .int .i64 0] 64)) = W at *
   have a0 : W.cell? ⟨w.heap.size, 0, none⟩ = some (.int .i64 d.me) := HT.out.b0.cell 0
   have a1 : W.cell? ⟨w.heap.size, 1, none⟩ = some (.slice pi d.xs.length ci) := HT.out.b0.cell 1
   have a2 : W.cell? ⟨w.heap.size, 2, none⟩ = some (.slice po d.os.length co) := HT.out.b0.cell 2
   have c1 : W.cell? ⟨w.heap.size + 1, 1, none⟩ = some (.int .i64 m.s) := HT.out.b1.cell 1
   have c2 : W.cell? ⟨w.heap.size + 1, 2, none⟩ = some (.int .i64 m.n) := HT.out.b1.cell 2
   go_wp2_with fail
   clear a0 a1 a2 c1 c2
   refine HG.out.mono ?_
   rintro y w1 ⟨rfl, hb⟩
   have HB1 := Lib.hid ((HT.out.low.trans (hb.mono HT.out.low.size)).alloc (HT.out.low.trans (hb.mono HT.out.low.size)).size (.cells #[.int .i64 q.s, .int .i64 q.n, .int .i64 q.b, .int .i64 q.c, .int .i64 q.a, .int .i64 q.r, .int .i64 q.t, .int .i64 q.y] 64))
   have HD1 : Hid (Blk (w1.alloc (.cells #[.int .i64 q.s, .int .i64 q.n, .int .i64 q.b, .int .i64 q.c, .int .i64 q.a, .int .i64 q.r, .int .i64 q.t, .int .i64 q.y] 64)) w.heap.size #[.int .i64 d.me, .slice pi d.xs.length ci, .slice po d.os.length co, .int .i64 d.far] 29) := (HT.out.b0.below hb HT.out.b0.lt).alloc _
   have HM1 : Hid (Blk (w1.alloc (.cells #[.int .i64 q.s, .int .i64 q.n, .int .i64 q.b, .int .i64 q.c, .int .i64 q.a, .int .i64 q.r, .int .i64 q.t, .int .i64 q.y] 64)) (w.heap.size + 1) #[.int .i64 m.k, .int .i64 m.s, .int .i64 m.n, .int .i64 m.b, .int .i64 m.c, .int .i64 m.r, .int .i64 m.y, .int .i64 m.a, .bool m.t, vl, vn] 40) := (HT.out.b1.below hb HT.out.b1.lt).alloc _
   have HR1 : Hid (Blk (w1.alloc (.cells #[.int .i64 q.s, .int .i64 q.n, .int .i64 q.b, .int .i64 q.c, .int .i64 q.a, .int .i64 q.r, .int .i64 q.t, .int .i64 q.y] 64)) (w.heap.size + 1 + 1) #[.int .i64 0, .int .i64 0, .int .i64 0, .int .i64 0, .int .i64 0, .int .i64 0, .int .i64 0, .int .i64 0] 64) := (HT.out.b2.below hb HT.out.b2.lt).alloc _
   have HQ1 := Lib.hid (Blk.new w1 #[.int .i64 q.s, .int .i64 q.n, .int .i64 q.b, .int .i64 q.c, .int .i64 q.a, .int .i64 q.r, .int .i64 q.t, .int .i64 q.y] 64)
   clear hb HG HT
   go_upto_region 2 with fail
   generalize w1.alloc (.cells #[.int .i64 q.s, .int .i64 q.n, .int .i64 q.b, .int .i64 q.c, .int .i64 q.a, .int .i64 q.r, .int .i64 q.t, .int .i64 q.y] 64) = w2 at *
   generalize w1.heap.size = gq at *
   have q0 : w2.cell? ⟨gq, 0, none⟩ = some (.int .i64 q.s) := HQ1.out.cell 0
   have q1 : w2.cell? ⟨gq, 1, none⟩ = some (.int .i64 q.n) := HQ1.out.cell 1
   have q2 : w2.cell? ⟨gq, 2, none⟩ = some (.int .i64 q.b) := HQ1.out.cell 2
   have q3 : w2.cell? ⟨gq, 3, none⟩ = some (.int .i64 q.c) := HQ1.out.cell 3
   have q4 : w2.cell? ⟨gq, 4, none⟩ = some (.int .i64 q.a) := HQ1.out.cell 4
   have q5 : w2.cell? ⟨gq, 5, none⟩ = some (.int .i64 q.r) := HQ1.out.cell 5
   have q6 : w2.cell? ⟨gq, 6, none⟩ = some (.int .i64 q.t) := HQ1.out.cell 6
   have q7 : w2.cell? ⟨gq, 7, none⟩ = some (.int .i64 q.y) := HQ1.out.cell 7
   have a0 : w2.cell? ⟨w.heap.size, 0, none⟩ = some (.int .i64 d.me) := HD1.out.cell 0
   have c5 : w2.cell? ⟨w.heap.size + 1, 5, none⟩ = some (.int .i64 m.r) := HM1.out.cell 5
   go_wp2_with (with_reducible refine stop_storeT 64 (.tmp 4) (.tmp 29) rfl ?_)
   have HTH : Hid (w2.there (w.heap.size + 1 + 1) 0 8) := HR1.out.thereAt
   have HF : Hid (Blk (w2.setCells (w.heap.size + 1 + 1) 0 (#[.int .i64 q.s, .int .i64 q.n, .int .i64 q.b, .int .i64 q.c, .int .i64 q.a, .int .i64 q.r, .int .i64 q.t, .int .i64 q.y] : Array Value).toList) (w.heap.size + 1 + 1) #[.int .i64 q.s, .int .i64 q.n, .int .i64 q.b, .int .i64 q.c, .int .i64 q.a, .int .i64 q.r, .int .i64 q.t, .int .i64 q.y] 64 ∧ Below w.heap.size w (w2.setCells (w.heap.size + 1 + 1) 0 (#[.int .i64 q.s, .int .i64 q.n, .int .i64 q.b, .int .i64 q.c, .int .i64 q.a, .int .i64 q.r, .int .i64 q.t, .int .i64 q.y] : Array Value).toList)) := ⟨blk_put_all HR1.out _ rfl, below_put (by omega) _ _ _ _ HB1.out⟩
   refine wpList_store_mid rfl 64 (.tmp 4) (.tmp 29) rfl (w.heap.size + 1 + 1) 0 #[.int .i64 q.s, .int .i64 q.n, .int .i64 q.b, .int .i64 q.c, .int .i64 q.a, .int .i64 q.r, .int .i64 q.t, .int .i64 q.y] rfl rfl HTH.out (infoI8 rfl) (all_oneCell_toArray (encI.one q)) ?_
   generalize World.setCells w2 _ _ _ = w3 at *
   clear HTH HR1 HQ1 HD1 HM1 HB1 a0 c5 q0 q1 q2 q3 q4 q5 q6 q7
   go_wp2_with fail
   have hf := HF.out.1
   refine bodyPost_ret (v := .tuple #[.agg #[.int .i64 q.s, .int .i64 q.n, .int .i64 q.b, .int .i64 q.c, .int .i64 q.a, .int .i64 q.r, .int .i64 q.t, .int .i64 q.y], .int .i64 0]) (by simp [results, Try.results55, go_sem, hf.cell 0, hf.cell 1, hf.cell 2, hf.cell 3, hf.cell 4, hf.cell 5, hf.cell 6, hf.cell 7]) rfl ⟨rfl, HF.out.2⟩
  ·have ha : soldA d m.s m.n = (q, 140) := by unfold soldA; rw [hf]; dsimp only; rw [if_neg hq]
   have hqb : (q.s != d.me) = true := by simpa using hq
   clear hq
   have HG := Lib.hid (dget_any (((w.alloc (.cells #[.int .i64 d.me, .slice pi d.xs.length ci, .slice po d.os.length co, .int .i64 d.far] 29)).alloc (.cells #[.int .i64 m.k, .int .i64 m.s, .int .i64 m.n, .int .i64 m.b, .int .i64 m.c, .int .i64 m.r, .int .i64 m.y, .int .i64 m.a, .bool m.t, vl, vn] 40)).alloc (.cells #[.int .i64 0, .int .i64 0, .int .i64 0, .int .i64 0, .int .i64 0, .int .i64 0, .int .i64 0, .int .i64 0] 64)) d.me pi po d.xs.length ci d.os.length co m.s m.n d.xs (h.items.kept HT.out.low) rfl h.sx (by have := h.nx; omega))
   rw [hf] at HG
   rw [ha]
   clear ha
   clear h hf
   unfold bookV idV at HG
   simp only [Option.getD_some, Option.isSome_some] at HG
   unfold Itm.v at HG
   unfold deskV Msg.v
   go_enter Try.func55, Try.ntmps55
   go_upto_region 1 with fail
   generalize (((w.alloc (.cells #[.int .i64 d.me, .slice pi d.xs.length ci, .slice po d.os.length co, .int .i64 d.far] 29)).alloc (.cells #[.int .i64 m.k, .int .i64 m.s, .int .i64 m.n, .int .i64 m.b, .int .i64 m.c, .int .i64 m.r, .int .i64 m.y, .int .i64 m.a, .bool m.t, vl, vn] 40)).alloc (.cells #[.int .i64 0, .int .i64 0, .int .i64 0, .int .i64 0, .int .i64 0, .int .i64 0, .int .i64 0, .int .i64 0] 64)) = W at *
   have a0 : W.cell? ⟨w.heap.size, 0, none⟩ = some (.int .i64 d.me) := HT.out.b0.cell 0
   have a1 : W.cell? ⟨w.heap.size, 1, none⟩ = some (.slice pi d.xs.length ci) := HT.out.b0.cell 1
   have a2 : W.cell? ⟨w.heap.size, 2, none⟩ = some (.slice po d.os.length co) := HT.out.b0.cell 2
   have c1 : W.cell? ⟨w.heap.size + 1, 1, none⟩ = some (.int .i64 m.s) := HT.out.b1.cell 1
   have c2 : W.cell? ⟨w.heap.size + 1, 2, none⟩ = some (.int .i64 m.n) := HT.out.b1.cell 2
   go_wp2_with fail
   clear a0 a1 a2 c1 c2
   refine HG.out.mono ?_
   rintro y w1 ⟨rfl, hb⟩
   have HB1 := Lib.hid ((HT.out.low.trans (hb.mono HT.out.low.size)).alloc (HT.out.low.trans (hb.mono HT.out.low.size)).size (.cells #[.int .i64 q.s, .int .i64 q.n, .int .i64 q.b, .int .i64 q.c, .int .i64 q.a, .int .i64 q.r, .int .i64 q.t, .int .i64 q.y] 64))
   have HD1 : Hid (Blk (w1.alloc (.cells #[.int .i64 q.s, .int .i64 q.n, .int .i64 q.b, .int .i64 q.c, .int .i64 q.a, .int .i64 q.r, .int .i64 q.t, .int .i64 q.y] 64)) w.heap.size #[.int .i64 d.me, .slice pi d.xs.length ci, .slice po d.os.length co, .int .i64 d.far] 29) := (HT.out.b0.below hb HT.out.b0.lt).alloc _
   have HM1 : Hid (Blk (w1.alloc (.cells #[.int .i64 q.s, .int .i64 q.n, .int .i64 q.b, .int .i64 q.c, .int .i64 q.a, .int .i64 q.r, .int .i64 q.t, .int .i64 q.y] 64)) (w.heap.size + 1) #[.int .i64 m.k, .int .i64 m.s, .int .i64 m.n, .int .i64 m.b, .int .i64 m.c, .int .i64 m.r, .int .i64 m.y, .int .i64 m.a, .bool m.t, vl, vn] 40) := (HT.out.b1.below hb HT.out.b1.lt).alloc _
   have HR1 : Hid (Blk (w1.alloc (.cells #[.int .i64 q.s, .int .i64 q.n, .int .i64 q.b, .int .i64 q.c, .int .i64 q.a, .int .i64 q.r, .int .i64 q.t, .int .i64 q.y] 64)) (w.heap.size + 1 + 1) #[.int .i64 0, .int .i64 0, .int .i64 0, .int .i64 0, .int .i64 0, .int .i64 0, .int .i64 0, .int .i64 0] 64) := (HT.out.b2.below hb HT.out.b2.lt).alloc _
   have HQ1 := Lib.hid (Blk.new w1 #[.int .i64 q.s, .int .i64 q.n, .int .i64 q.b, .int .i64 q.c, .int .i64 q.a, .int .i64 q.r, .int .i64 q.t, .int .i64 q.y] 64)
   clear hb HG HT
   go_upto_region 2 with fail
   generalize w1.alloc (.cells #[.int .i64 q.s, .int .i64 q.n, .int .i64 q.b, .int .i64 q.c, .int .i64 q.a, .int .i64 q.r, .int .i64 q.t, .int .i64 q.y] 64) = w2 at *
   generalize w1.heap.size = gq at *
   have q0 : w2.cell? ⟨gq, 0, none⟩ = some (.int .i64 q.s) := HQ1.out.cell 0
   have q1 : w2.cell? ⟨gq, 1, none⟩ = some (.int .i64 q.n) := HQ1.out.cell 1
   have q2 : w2.cell? ⟨gq, 2, none⟩ = some (.int .i64 q.b) := HQ1.out.cell 2
   have q3 : w2.cell? ⟨gq, 3, none⟩ = some (.int .i64 q.c) := HQ1.out.cell 3
   have q4 : w2.cell? ⟨gq, 4, none⟩ = some (.int .i64 q.a) := HQ1.out.cell 4
   have q5 : w2.cell? ⟨gq, 5, none⟩ = some (.int .i64 q.r) := HQ1.out.cell 5
   have q6 : w2.cell? ⟨gq, 6, none⟩ = some (.int .i64 q.t) := HQ1.out.cell 6
   have q7 : w2.cell? ⟨gq, 7, none⟩ = some (.int .i64 q.y) := HQ1.out.cell 7
   have a0 : w2.cell? ⟨w.heap.size, 0, none⟩ = some (.int .i64 d.me) := HD1.out.cell 0
   have c5 : w2.cell? ⟨w.heap.size + 1, 5, none⟩ = some (.int .i64 m.r) := HM1.out.cell 5
   go_wp2_with (with_reducible refine stop_storeT 64 (.tmp 4) (.tmp 28) rfl ?_)
   have HTH : Hid (w2.there (w.heap.size + 1 + 1) 0 8) := HR1.out.thereAt
   have HF : Hid (Blk (w2.setCells (w.heap.size + 1 + 1) 0 (#[.int .i64 q.s, .int .i64 q.n, .int .i64 q.b, .int .i64 q.c, .int .i64 q.a, .int .i64 q.r, .int .i64 q.t, .int .i64 q.y] : Array Value).toList) (w.heap.size + 1 + 1) #[.int .i64 q.s, .int .i64 q.n, .int .i64 q.b, .int .i64 q.c, .int .i64 q.a, .int .i64 q.r, .int .i64 q.t, .int .i64 q.y] 64 ∧ Below w.heap.size w (w2.setCells (w.heap.size + 1 + 1) 0 (#[.int .i64 q.s, .int .i64 q.n, .int .i64 q.b, .int .i64 q.c, .int .i64 q.a, .int .i64 q.r, .int .i64 q.t, .int .i64 q.y] : Array Value).toList)) := ⟨blk_put_all HR1.out _ rfl, below_put (by omega) _ _ _ _ HB1.out⟩
   refine wpList_store_mid rfl 64 (.tmp 4) (.tmp 28) rfl (w.heap.size + 1 + 1) 0 #[.int .i64 q.s, .int .i64 q.n, .int .i64 q.b, .int .i64 q.c, .int .i64 q.a, .int .i64 q.r, .int .i64 q.t, .int .i64 q.y] rfl rfl HTH.out (infoI8 rfl) (all_oneCell_toArray (encI.one q)) ?_
   generalize World.setCells w2 _ _ _ = w3 at *
   clear HTH HR1 HQ1 HD1 HM1 HB1 a0 c5 q0 q1 q2 q3 q4 q5 q6 q7
   go_wp2_with fail
   have hf := HF.out.1
   refine bodyPost_ret (v := .tuple #[.agg #[.int .i64 q.s, .int .i64 q.n, .int .i64 q.b, .int .i64 q.c, .int .i64 q.a, .int .i64 q.r, .int .i64 q.t, .int .i64 q.y], .int .i64 140]) (by simp [results, Try.results55, go_sem, hf.cell 0, hf.cell 1, hf.cell 2, hf.cell 3, hf.cell 4, hf.cell 5, hf.cell 6, hf.cell 7]) rfl ⟨rfl, HF.out.2⟩
set_option linter.unusedSimpArgs false in
set_option maxHeartbeats 4000000 in
set_option maxRecDepth 100000 in
theorem between_any (w : World) (d : Dsk) (pi po : Option Addr) (ci co : Nat) (m : Msg) (vl vn : Value) (se bu : Int) (h : DRow w d pi ci po co) : Calls Try.prog 51 #[(deskV d.me pi d.xs.length ci po d.os.length co d.far), m.v vl vn, .int .i64 se, .int .i64 bu] w fun e w' => e = ansI (betwA d m.s m.n m.r se bu) ∧ Below w.heap.size w w' := by
 have HT := Lib.hid (three_new w #[.int .i64 d.me, .slice pi d.xs.length ci, .slice po d.os.length co, .int .i64 d.far] #[.int .i64 m.k, .int .i64 m.s, .int .i64 m.n, .int .i64 m.b, .int .i64 m.c, .int .i64 m.r, .int .i64 m.y, .int .i64 m.a, .bool m.t, vl, vn] #[.int .i64 0, .int .i64 0, .int .i64 0, .int .i64 0, .int .i64 0, .int .i64 0, .int .i64 0, .int .i64 0] 29 40 64)
 cases hf : findX d.xs m.s m.n with
 | none =>
  have ha : betwA d m.s m.n m.r se bu = (itm0, 4) := by unfold betwA; rw [hf]
  have HG := Lib.hid (dget_any (((w.alloc (.cells #[.int .i64 d.me, .slice pi d.xs.length ci, .slice po d.os.length co, .int .i64 d.far] 29)).alloc (.cells #[.int .i64 m.k, .int .i64 m.s, .int .i64 m.n, .int .i64 m.b, .int .i64 m.c, .int .i64 m.r, .int .i64 m.y, .int .i64 m.a, .bool m.t, vl, vn] 40)).alloc (.cells #[.int .i64 0, .int .i64 0, .int .i64 0, .int .i64 0, .int .i64 0, .int .i64 0, .int .i64 0, .int .i64 0] 64)) d.me pi po d.xs.length ci d.os.length co m.s m.n d.xs (h.items.kept HT.out.low) rfl h.sx (by have := h.nx; omega))
  rw [hf] at HG
  rw [ha]
  clear ha
  clear h hf
  unfold bookV idV at HG
  simp only [Option.getD_none, Option.isSome_none, itm0] at HG
  unfold Itm.v at HG
  unfold deskV Msg.v
  go_enter Try.func51, Try.ntmps51
  go_upto_region 1 with fail
  generalize (((w.alloc (.cells #[.int .i64 d.me, .slice pi d.xs.length ci, .slice po d.os.length co, .int .i64 d.far] 29)).alloc (.cells #[.int .i64 m.k, .int .i64 m.s, .int .i64 m.n, .int .i64 m.b, .int .i64 m.c, .int .i64 m.r, .int .i64 m.y, .int .i64 m.a, .bool m.t, vl, vn] 40)).alloc (.cells #[.int .i64 0, .int .i64 0, .int .i64 0, .int .i64 0, .int .i64 0, .int .i64 0, .int .i64 0, .int .i64 0] 64)) = W at *
  have a0 : W.cell? ⟨w.heap.size, 0, none⟩ = some (.int .i64 d.me) := HT.out.b0.cell 0
  have a1 : W.cell? ⟨w.heap.size, 1, none⟩ = some (.slice pi d.xs.length ci) := HT.out.b0.cell 1
  have a2 : W.cell? ⟨w.heap.size, 2, none⟩ = some (.slice po d.os.length co) := HT.out.b0.cell 2
  have c1 : W.cell? ⟨w.heap.size + 1, 1, none⟩ = some (.int .i64 m.s) := HT.out.b1.cell 1
  have c2 : W.cell? ⟨w.heap.size + 1, 2, none⟩ = some (.int .i64 m.n) := HT.out.b1.cell 2
  go_wp2_with fail
  clear a0 a1 a2 c1 c2
  refine HG.out.mono ?_
  rintro y w1 ⟨rfl, hb⟩
  have HB1 := Lib.hid ((HT.out.low.trans (hb.mono HT.out.low.size)).alloc (HT.out.low.trans (hb.mono HT.out.low.size)).size (.cells #[.int .i64 0, .int .i64 0, .int .i64 0, .int .i64 0, .int .i64 0, .int .i64 0, .int .i64 0, .int .i64 0] 64))
  have HD1 : Hid (Blk (w1.alloc (.cells #[.int .i64 0, .int .i64 0, .int .i64 0, .int .i64 0, .int .i64 0, .int .i64 0, .int .i64 0, .int .i64 0] 64)) w.heap.size #[.int .i64 d.me, .slice pi d.xs.length ci, .slice po d.os.length co, .int .i64 d.far] 29) := (HT.out.b0.below hb HT.out.b0.lt).alloc _
  have HM1 : Hid (Blk (w1.alloc (.cells #[.int .i64 0, .int .i64 0, .int .i64 0, .int .i64 0, .int .i64 0, .int .i64 0, .int .i64 0, .int .i64 0] 64)) (w.heap.size + 1) #[.int .i64 m.k, .int .i64 m.s, .int .i64 m.n, .int .i64 m.b, .int .i64 m.c, .int .i64 m.r, .int .i64 m.y, .int .i64 m.a, .bool m.t, vl, vn] 40) := (HT.out.b1.below hb HT.out.b1.lt).alloc _
  have HR1 : Hid (Blk (w1.alloc (.cells #[.int .i64 0, .int .i64 0, .int .i64 0, .int .i64 0, .int .i64 0, .int .i64 0, .int .i64 0, .int .i64 0] 64)) (w.heap.size + 1 + 1) #[.int .i64 0, .int .i64 0, .int .i64 0, .int .i64 0, .int .i64 0, .int .i64 0, .int .i64 0, .int .i64 0] 64) := (HT.out.b2.below hb HT.out.b2.lt).alloc _
  have HQ1 := Lib.hid (Blk.new w1 #[.int .i64 0, .int .i64 0, .int .i64 0, .int .i64 0, .int .i64 0, .int .i64 0, .int .i64 0, .int .i64 0] 64)
  clear hb HG HT
  go_upto_region 2 with fail
  generalize w1.alloc (.cells #[.int .i64 0, .int .i64 0, .int .i64 0, .int .i64 0, .int .i64 0, .int .i64 0, .int .i64 0, .int .i64 0] 64) = w2 at *
  generalize w1.heap.size = gq at *
  have q0 : w2.cell? ⟨gq, 0, none⟩ = some (.int .i64 0) := HQ1.out.cell 0
  have q1 : w2.cell? ⟨gq, 1, none⟩ = some (.int .i64 0) := HQ1.out.cell 1
  have q2 : w2.cell? ⟨gq, 2, none⟩ = some (.int .i64 0) := HQ1.out.cell 2
  have q3 : w2.cell? ⟨gq, 3, none⟩ = some (.int .i64 0) := HQ1.out.cell 3
  have q4 : w2.cell? ⟨gq, 4, none⟩ = some (.int .i64 0) := HQ1.out.cell 4
  have q5 : w2.cell? ⟨gq, 5, none⟩ = some (.int .i64 0) := HQ1.out.cell 5
  have q6 : w2.cell? ⟨gq, 6, none⟩ = some (.int .i64 0) := HQ1.out.cell 6
  have q7 : w2.cell? ⟨gq, 7, none⟩ = some (.int .i64 0) := HQ1.out.cell 7
  have a0 : w2.cell? ⟨w.heap.size, 0, none⟩ = some (.int .i64 d.me) := HD1.out.cell 0
  have c5 : w2.cell? ⟨w.heap.size + 1, 5, none⟩ = some (.int .i64 m.r) := HM1.out.cell 5
  go_wp2_with (with_reducible refine stop_storeT 64 (.tmp 8) (.tmp 23) rfl ?_)
  have HTH : Hid (w2.there (w.heap.size + 1 + 1) 0 8) := HR1.out.thereAt
  have HF : Hid (Blk (w2.setCells (w.heap.size + 1 + 1) 0 (#[.int .i64 0, .int .i64 0, .int .i64 0, .int .i64 0, .int .i64 0, .int .i64 0, .int .i64 0, .int .i64 0] : Array Value).toList) (w.heap.size + 1 + 1) #[.int .i64 0, .int .i64 0, .int .i64 0, .int .i64 0, .int .i64 0, .int .i64 0, .int .i64 0, .int .i64 0] 64 ∧ Below w.heap.size w (w2.setCells (w.heap.size + 1 + 1) 0 (#[.int .i64 0, .int .i64 0, .int .i64 0, .int .i64 0, .int .i64 0, .int .i64 0, .int .i64 0, .int .i64 0] : Array Value).toList)) := ⟨blk_put_all HR1.out _ rfl, below_put (by omega) _ _ _ _ HB1.out⟩
  refine wpList_store_mid rfl 64 (.tmp 8) (.tmp 23) rfl (w.heap.size + 1 + 1) 0 #[.int .i64 0, .int .i64 0, .int .i64 0, .int .i64 0, .int .i64 0, .int .i64 0, .int .i64 0, .int .i64 0] rfl rfl HTH.out (infoI8 rfl) (all_oneCell_toArray (encI.one itm0)) ?_
  generalize World.setCells w2 _ _ _ = w3 at *
  clear HTH HR1 HQ1 HD1 HM1 HB1 a0 c5 q0 q1 q2 q3 q4 q5 q6 q7
  go_wp2_with fail
  have hf := HF.out.1
  refine bodyPost_ret (v := .tuple #[.agg #[.int .i64 0, .int .i64 0, .int .i64 0, .int .i64 0, .int .i64 0, .int .i64 0, .int .i64 0, .int .i64 0], .int .i64 4]) (by simp [results, Try.results51, go_sem, hf.cell 0, hf.cell 1, hf.cell 2, hf.cell 3, hf.cell 4, hf.cell 5, hf.cell 6, hf.cell 7]) rfl ⟨rfl, HF.out.2⟩
 | some q =>
  by_cases h1 : q.s = se
  ·by_cases h2 : q.b = bu
   ·by_cases h3 : q.r = m.r
    ·have ha : betwA d m.s m.n m.r se bu = (q, 0) := by unfold betwA; rw [hf]; dsimp only; rw [if_neg (by simp [h1, h2]), if_neg (by simp [h3])]
     have b1 : (q.s != se) = false := by simpa using h1
     have b2 : (q.b != bu) = false := by simpa using h2
     have b3 : (q.r != m.r) = false := by simpa using h3
     clear h1 h2 h3
     have HG := Lib.hid (dget_any (((w.alloc (.cells #[.int .i64 d.me, .slice pi d.xs.length ci, .slice po d.os.length co, .int .i64 d.far] 29)).alloc (.cells #[.int .i64 m.k, .int .i64 m.s, .int .i64 m.n, .int .i64 m.b, .int .i64 m.c, .int .i64 m.r, .int .i64 m.y, .int .i64 m.a, .bool m.t, vl, vn] 40)).alloc (.cells #[.int .i64 0, .int .i64 0, .int .i64 0, .int .i64 0, .int .i64 0, .int .i64 0, .int .i64 0, .int .i64 0] 64)) d.me pi po d.xs.length ci d.os.length co m.s m.n d.xs (h.items.kept HT.out.low) rfl h.sx (by have := h.nx; omega))
     rw [hf] at HG
     rw [ha]
     clear ha
     clear h hf
     unfold bookV idV at HG
     simp only [Option.getD_some, Option.isSome_some] at HG
     unfold Itm.v at HG
     unfold deskV Msg.v
     go_enter Try.func51, Try.ntmps51
     go_upto_region 1 with fail
     generalize (((w.alloc (.cells #[.int .i64 d.me, .slice pi d.xs.length ci, .slice po d.os.length co, .int .i64 d.far] 29)).alloc (.cells #[.int .i64 m.k, .int .i64 m.s, .int .i64 m.n, .int .i64 m.b, .int .i64 m.c, .int .i64 m.r, .int .i64 m.y, .int .i64 m.a, .bool m.t, vl, vn] 40)).alloc (.cells #[.int .i64 0, .int .i64 0, .int .i64 0, .int .i64 0, .int .i64 0, .int .i64 0, .int .i64 0, .int .i64 0] 64)) = W at *
     have a0 : W.cell? ⟨w.heap.size, 0, none⟩ = some (.int .i64 d.me) := HT.out.b0.cell 0
     have a1 : W.cell? ⟨w.heap.size, 1, none⟩ = some (.slice pi d.xs.length ci) := HT.out.b0.cell 1
     have a2 : W.cell? ⟨w.heap.size, 2, none⟩ = some (.slice po d.os.length co) := HT.out.b0.cell 2
     have c1 : W.cell? ⟨w.heap.size + 1, 1, none⟩ = some (.int .i64 m.s) := HT.out.b1.cell 1
     have c2 : W.cell? ⟨w.heap.size + 1, 2, none⟩ = some (.int .i64 m.n) := HT.out.b1.cell 2
     go_wp2_with fail
     clear a0 a1 a2 c1 c2
     refine HG.out.mono ?_
     rintro y w1 ⟨rfl, hb⟩
     have HB1 := Lib.hid ((HT.out.low.trans (hb.mono HT.out.low.size)).alloc (HT.out.low.trans (hb.mono HT.out.low.size)).size (.cells #[.int .i64 q.s, .int .i64 q.n, .int .i64 q.b, .int .i64 q.c, .int .i64 q.a, .int .i64 q.r, .int .i64 q.t, .int .i64 q.y] 64))
     have HD1 : Hid (Blk (w1.alloc (.cells #[.int .i64 q.s, .int .i64 q.n, .int .i64 q.b, .int .i64 q.c, .int .i64 q.a, .int .i64 q.r, .int .i64 q.t, .int .i64 q.y] 64)) w.heap.size #[.int .i64 d.me, .slice pi d.xs.length ci, .slice po d.os.length co, .int .i64 d.far] 29) := (HT.out.b0.below hb HT.out.b0.lt).alloc _
     have HM1 : Hid (Blk (w1.alloc (.cells #[.int .i64 q.s, .int .i64 q.n, .int .i64 q.b, .int .i64 q.c, .int .i64 q.a, .int .i64 q.r, .int .i64 q.t, .int .i64 q.y] 64)) (w.heap.size + 1) #[.int .i64 m.k, .int .i64 m.s, .int .i64 m.n, .int .i64 m.b, .int .i64 m.c, .int .i64 m.r, .int .i64 m.y, .int .i64 m.a, .bool m.t, vl, vn] 40) := (HT.out.b1.below hb HT.out.b1.lt).alloc _
     have HR1 : Hid (Blk (w1.alloc (.cells #[.int .i64 q.s, .int .i64 q.n, .int .i64 q.b, .int .i64 q.c, .int .i64 q.a, .int .i64 q.r, .int .i64 q.t, .int .i64 q.y] 64)) (w.heap.size + 1 + 1) #[.int .i64 0, .int .i64 0, .int .i64 0, .int .i64 0, .int .i64 0, .int .i64 0, .int .i64 0, .int .i64 0] 64) := (HT.out.b2.below hb HT.out.b2.lt).alloc _
     have HQ1 := Lib.hid (Blk.new w1 #[.int .i64 q.s, .int .i64 q.n, .int .i64 q.b, .int .i64 q.c, .int .i64 q.a, .int .i64 q.r, .int .i64 q.t, .int .i64 q.y] 64)
     clear hb HG HT
     go_upto_region 2 with fail
     generalize w1.alloc (.cells #[.int .i64 q.s, .int .i64 q.n, .int .i64 q.b, .int .i64 q.c, .int .i64 q.a, .int .i64 q.r, .int .i64 q.t, .int .i64 q.y] 64) = w2 at *
     generalize w1.heap.size = gq at *
     have q0 : w2.cell? ⟨gq, 0, none⟩ = some (.int .i64 q.s) := HQ1.out.cell 0
     have q1 : w2.cell? ⟨gq, 1, none⟩ = some (.int .i64 q.n) := HQ1.out.cell 1
     have q2 : w2.cell? ⟨gq, 2, none⟩ = some (.int .i64 q.b) := HQ1.out.cell 2
     have q3 : w2.cell? ⟨gq, 3, none⟩ = some (.int .i64 q.c) := HQ1.out.cell 3
     have q4 : w2.cell? ⟨gq, 4, none⟩ = some (.int .i64 q.a) := HQ1.out.cell 4
     have q5 : w2.cell? ⟨gq, 5, none⟩ = some (.int .i64 q.r) := HQ1.out.cell 5
     have q6 : w2.cell? ⟨gq, 6, none⟩ = some (.int .i64 q.t) := HQ1.out.cell 6
     have q7 : w2.cell? ⟨gq, 7, none⟩ = some (.int .i64 q.y) := HQ1.out.cell 7
     have a0 : w2.cell? ⟨w.heap.size, 0, none⟩ = some (.int .i64 d.me) := HD1.out.cell 0
     have c5 : w2.cell? ⟨w.heap.size + 1, 5, none⟩ = some (.int .i64 m.r) := HM1.out.cell 5
     go_wp2_with (with_reducible refine stop_storeT 64 (.tmp 8) (.tmp 44) rfl ?_)
     have HTH : Hid (w2.there (w.heap.size + 1 + 1) 0 8) := HR1.out.thereAt
     have HF : Hid (Blk (w2.setCells (w.heap.size + 1 + 1) 0 (#[.int .i64 q.s, .int .i64 q.n, .int .i64 q.b, .int .i64 q.c, .int .i64 q.a, .int .i64 q.r, .int .i64 q.t, .int .i64 q.y] : Array Value).toList) (w.heap.size + 1 + 1) #[.int .i64 q.s, .int .i64 q.n, .int .i64 q.b, .int .i64 q.c, .int .i64 q.a, .int .i64 q.r, .int .i64 q.t, .int .i64 q.y] 64 ∧ Below w.heap.size w (w2.setCells (w.heap.size + 1 + 1) 0 (#[.int .i64 q.s, .int .i64 q.n, .int .i64 q.b, .int .i64 q.c, .int .i64 q.a, .int .i64 q.r, .int .i64 q.t, .int .i64 q.y] : Array Value).toList)) := ⟨blk_put_all HR1.out _ rfl, below_put (by omega) _ _ _ _ HB1.out⟩
     refine wpList_store_mid rfl 64 (.tmp 8) (.tmp 44) rfl (w.heap.size + 1 + 1) 0 #[.int .i64 q.s, .int .i64 q.n, .int .i64 q.b, .int .i64 q.c, .int .i64 q.a, .int .i64 q.r, .int .i64 q.t, .int .i64 q.y] rfl rfl HTH.out (infoI8 rfl) (all_oneCell_toArray (encI.one q)) ?_
     generalize World.setCells w2 _ _ _ = w3 at *
     clear HTH HR1 HQ1 HD1 HM1 HB1 a0 c5 q0 q1 q2 q3 q4 q5 q6 q7
     go_wp2_with fail
     have hf := HF.out.1
     refine bodyPost_ret (v := .tuple #[.agg #[.int .i64 q.s, .int .i64 q.n, .int .i64 q.b, .int .i64 q.c, .int .i64 q.a, .int .i64 q.r, .int .i64 q.t, .int .i64 q.y], .int .i64 0]) (by simp [results, Try.results51, go_sem, hf.cell 0, hf.cell 1, hf.cell 2, hf.cell 3, hf.cell 4, hf.cell 5, hf.cell 6, hf.cell 7]) rfl ⟨rfl, HF.out.2⟩
    ·have ha : betwA d m.s m.n m.r se bu = (q, 90) := by unfold betwA; rw [hf]; dsimp only; rw [if_neg (by simp [h1, h2]), if_pos h3]
     have b1 : (q.s != se) = false := by simpa using h1
     have b2 : (q.b != bu) = false := by simpa using h2
     have b3 : (q.r != m.r) = true := by simpa using h3
     clear h1 h2 h3
     have HG := Lib.hid (dget_any (((w.alloc (.cells #[.int .i64 d.me, .slice pi d.xs.length ci, .slice po d.os.length co, .int .i64 d.far] 29)).alloc (.cells #[.int .i64 m.k, .int .i64 m.s, .int .i64 m.n, .int .i64 m.b, .int .i64 m.c, .int .i64 m.r, .int .i64 m.y, .int .i64 m.a, .bool m.t, vl, vn] 40)).alloc (.cells #[.int .i64 0, .int .i64 0, .int .i64 0, .int .i64 0, .int .i64 0, .int .i64 0, .int .i64 0, .int .i64 0] 64)) d.me pi po d.xs.length ci d.os.length co m.s m.n d.xs (h.items.kept HT.out.low) rfl h.sx (by have := h.nx; omega))
     rw [hf] at HG
     rw [ha]
     clear ha
     clear h hf
     unfold bookV idV at HG
     simp only [Option.getD_some, Option.isSome_some] at HG
     unfold Itm.v at HG
     unfold deskV Msg.v
     go_enter Try.func51, Try.ntmps51
     go_upto_region 1 with fail
     generalize (((w.alloc (.cells #[.int .i64 d.me, .slice pi d.xs.length ci, .slice po d.os.length co, .int .i64 d.far] 29)).alloc (.cells #[.int .i64 m.k, .int .i64 m.s, .int .i64 m.n, .int .i64 m.b, .int .i64 m.c, .int .i64 m.r, .int .i64 m.y, .int .i64 m.a, .bool m.t, vl, vn] 40)).alloc (.cells #[.int .i64 0, .int .i64 0, .int .i64 0, .int .i64 0, .int .i64 0, .int .i64 0, .int .i64 0, .int .i64 0] 64)) = W at *
     have a0 : W.cell? ⟨w.heap.size, 0, none⟩ = some (.int .i64 d.me) := HT.out.b0.cell 0
     have a1 : W.cell? ⟨w.heap.size, 1, none⟩ = some (.slice pi d.xs.length ci) := HT.out.b0.cell 1
     have a2 : W.cell? ⟨w.heap.size, 2, none⟩ = some (.slice po d.os.length co) := HT.out.b0.cell 2
     have c1 : W.cell? ⟨w.heap.size + 1, 1, none⟩ = some (.int .i64 m.s) := HT.out.b1.cell 1
     have c2 : W.cell? ⟨w.heap.size + 1, 2, none⟩ = some (.int .i64 m.n) := HT.out.b1.cell 2
     go_wp2_with fail
     clear a0 a1 a2 c1 c2
     refine HG.out.mono ?_
     rintro y w1 ⟨rfl, hb⟩
     have HB1 := Lib.hid ((HT.out.low.trans (hb.mono HT.out.low.size)).alloc (HT.out.low.trans (hb.mono HT.out.low.size)).size (.cells #[.int .i64 q.s, .int .i64 q.n, .int .i64 q.b, .int .i64 q.c, .int .i64 q.a, .int .i64 q.r, .int .i64 q.t, .int .i64 q.y] 64))
     have HD1 : Hid (Blk (w1.alloc (.cells #[.int .i64 q.s, .int .i64 q.n, .int .i64 q.b, .int .i64 q.c, .int .i64 q.a, .int .i64 q.r, .int .i64 q.t, .int .i64 q.y] 64)) w.heap.size #[.int .i64 d.me, .slice pi d.xs.length ci, .slice po d.os.length co, .int .i64 d.far] 29) := (HT.out.b0.below hb HT.out.b0.lt).alloc _
     have HM1 : Hid (Blk (w1.alloc (.cells #[.int .i64 q.s, .int .i64 q.n, .int .i64 q.b, .int .i64 q.c, .int .i64 q.a, .int .i64 q.r, .int .i64 q.t, .int .i64 q.y] 64)) (w.heap.size + 1) #[.int .i64 m.k, .int .i64 m.s, .int .i64 m.n, .int .i64 m.b, .int .i64 m.c, .int .i64 m.r, .int .i64 m.y, .int .i64 m.a, .bool m.t, vl, vn] 40) := (HT.out.b1.below hb HT.out.b1.lt).alloc _
     have HR1 : Hid (Blk (w1.alloc (.cells #[.int .i64 q.s, .int .i64 q.n, .int .i64 q.b, .int .i64 q.c, .int .i64 q.a, .int .i64 q.r, .int .i64 q.t, .int .i64 q.y] 64)) (w.heap.size + 1 + 1) #[.int .i64 0, .int .i64 0, .int .i64 0, .int .i64 0, .int .i64 0, .int .i64 0, .int .i64 0, .int .i64 0] 64) := (HT.out.b2.below hb HT.out.b2.lt).alloc _
     have HQ1 := Lib.hid (Blk.new w1 #[.int .i64 q.s, .int .i64 q.n, .int .i64 q.b, .int .i64 q.c, .int .i64 q.a, .int .i64 q.r, .int .i64 q.t, .int .i64 q.y] 64)
     clear hb HG HT
     go_upto_region 2 with fail
     generalize w1.alloc (.cells #[.int .i64 q.s, .int .i64 q.n, .int .i64 q.b, .int .i64 q.c, .int .i64 q.a, .int .i64 q.r, .int .i64 q.t, .int .i64 q.y] 64) = w2 at *
     generalize w1.heap.size = gq at *
     have q0 : w2.cell? ⟨gq, 0, none⟩ = some (.int .i64 q.s) := HQ1.out.cell 0
     have q1 : w2.cell? ⟨gq, 1, none⟩ = some (.int .i64 q.n) := HQ1.out.cell 1
     have q2 : w2.cell? ⟨gq, 2, none⟩ = some (.int .i64 q.b) := HQ1.out.cell 2
     have q3 : w2.cell? ⟨gq, 3, none⟩ = some (.int .i64 q.c) := HQ1.out.cell 3
     have q4 : w2.cell? ⟨gq, 4, none⟩ = some (.int .i64 q.a) := HQ1.out.cell 4
     have q5 : w2.cell? ⟨gq, 5, none⟩ = some (.int .i64 q.r) := HQ1.out.cell 5
     have q6 : w2.cell? ⟨gq, 6, none⟩ = some (.int .i64 q.t) := HQ1.out.cell 6
     have q7 : w2.cell? ⟨gq, 7, none⟩ = some (.int .i64 q.y) := HQ1.out.cell 7
     have a0 : w2.cell? ⟨w.heap.size, 0, none⟩ = some (.int .i64 d.me) := HD1.out.cell 0
     have c5 : w2.cell? ⟨w.heap.size + 1, 5, none⟩ = some (.int .i64 m.r) := HM1.out.cell 5
     go_wp2_with (with_reducible refine stop_storeT 64 (.tmp 8) (.tmp 43) rfl ?_)
     have HTH : Hid (w2.there (w.heap.size + 1 + 1) 0 8) := HR1.out.thereAt
     have HF : Hid (Blk (w2.setCells (w.heap.size + 1 + 1) 0 (#[.int .i64 q.s, .int .i64 q.n, .int .i64 q.b, .int .i64 q.c, .int .i64 q.a, .int .i64 q.r, .int .i64 q.t, .int .i64 q.y] : Array Value).toList) (w.heap.size + 1 + 1) #[.int .i64 q.s, .int .i64 q.n, .int .i64 q.b, .int .i64 q.c, .int .i64 q.a, .int .i64 q.r, .int .i64 q.t, .int .i64 q.y] 64 ∧ Below w.heap.size w (w2.setCells (w.heap.size + 1 + 1) 0 (#[.int .i64 q.s, .int .i64 q.n, .int .i64 q.b, .int .i64 q.c, .int .i64 q.a, .int .i64 q.r, .int .i64 q.t, .int .i64 q.y] : Array Value).toList)) := ⟨blk_put_all HR1.out _ rfl, below_put (by omega) _ _ _ _ HB1.out⟩
     refine wpList_store_mid rfl 64 (.tmp 8) (.tmp 43) rfl (w.heap.size + 1 + 1) 0 #[.int .i64 q.s, .int .i64 q.n, .int .i64 q.b, .int .i64 q.c, .int .i64 q.a, .int .i64 q.r, .int .i64 q.t, .int .i64 q.y] rfl rfl HTH.out (infoI8 rfl) (all_oneCell_toArray (encI.one q)) ?_
     generalize World.setCells w2 _ _ _ = w3 at *
     clear HTH HR1 HQ1 HD1 HM1 HB1 a0 c5 q0 q1 q2 q3 q4 q5 q6 q7
     go_wp2_with fail
     have hf := HF.out.1
     refine bodyPost_ret (v := .tuple #[.agg #[.int .i64 q.s, .int .i64 q.n, .int .i64 q.b, .int .i64 q.c, .int .i64 q.a, .int .i64 q.r, .int .i64 q.t, .int .i64 q.y], .int .i64 90]) (by simp [results, Try.results51, go_sem, hf.cell 0, hf.cell 1, hf.cell 2, hf.cell 3, hf.cell 4, hf.cell 5, hf.cell 6, hf.cell 7]) rfl ⟨rfl, HF.out.2⟩
   ·have ha : betwA d m.s m.n m.r se bu = (q, 140) := by unfold betwA; rw [hf]; dsimp only; rw [if_pos (.inr h2)]
    have b1 : (q.s != se) = false := by simpa using h1
    have b2 : (q.b != bu) = true := by simpa using h2
    clear h1 h2
    have HG := Lib.hid (dget_any (((w.alloc (.cells #[.int .i64 d.me, .slice pi d.xs.length ci, .slice po d.os.length co, .int .i64 d.far] 29)).alloc (.cells #[.int .i64 m.k, .int .i64 m.s, .int .i64 m.n, .int .i64 m.b, .int .i64 m.c, .int .i64 m.r, .int .i64 m.y, .int .i64 m.a, .bool m.t, vl, vn] 40)).alloc (.cells #[.int .i64 0, .int .i64 0, .int .i64 0, .int .i64 0, .int .i64 0, .int .i64 0, .int .i64 0, .int .i64 0] 64)) d.me pi po d.xs.length ci d.os.length co m.s m.n d.xs (h.items.kept HT.out.low) rfl h.sx (by have := h.nx; omega))
    rw [hf] at HG
    rw [ha]
    clear ha
    clear h hf
    unfold bookV idV at HG
    simp only [Option.getD_some, Option.isSome_some] at HG
    unfold Itm.v at HG
    unfold deskV Msg.v
    go_enter Try.func51, Try.ntmps51
    go_upto_region 1 with fail
    generalize (((w.alloc (.cells #[.int .i64 d.me, .slice pi d.xs.length ci, .slice po d.os.length co, .int .i64 d.far] 29)).alloc (.cells #[.int .i64 m.k, .int .i64 m.s, .int .i64 m.n, .int .i64 m.b, .int .i64 m.c, .int .i64 m.r, .int .i64 m.y, .int .i64 m.a, .bool m.t, vl, vn] 40)).alloc (.cells #[.int .i64 0, .int .i64 0, .int .i64 0, .int .i64 0, .int .i64 0, .int .i64 0, .int .i64 0, .int .i64 0] 64)) = W at *
    have a0 : W.cell? ⟨w.heap.size, 0, none⟩ = some (.int .i64 d.me) := HT.out.b0.cell 0
    have a1 : W.cell? ⟨w.heap.size, 1, none⟩ = some (.slice pi d.xs.length ci) := HT.out.b0.cell 1
    have a2 : W.cell? ⟨w.heap.size, 2, none⟩ = some (.slice po d.os.length co) := HT.out.b0.cell 2
    have c1 : W.cell? ⟨w.heap.size + 1, 1, none⟩ = some (.int .i64 m.s) := HT.out.b1.cell 1
    have c2 : W.cell? ⟨w.heap.size + 1, 2, none⟩ = some (.int .i64 m.n) := HT.out.b1.cell 2
    go_wp2_with fail
    clear a0 a1 a2 c1 c2
    refine HG.out.mono ?_
    rintro y w1 ⟨rfl, hb⟩
    have HB1 := Lib.hid ((HT.out.low.trans (hb.mono HT.out.low.size)).alloc (HT.out.low.trans (hb.mono HT.out.low.size)).size (.cells #[.int .i64 q.s, .int .i64 q.n, .int .i64 q.b, .int .i64 q.c, .int .i64 q.a, .int .i64 q.r, .int .i64 q.t, .int .i64 q.y] 64))
    have HD1 : Hid (Blk (w1.alloc (.cells #[.int .i64 q.s, .int .i64 q.n, .int .i64 q.b, .int .i64 q.c, .int .i64 q.a, .int .i64 q.r, .int .i64 q.t, .int .i64 q.y] 64)) w.heap.size #[.int .i64 d.me, .slice pi d.xs.length ci, .slice po d.os.length co, .int .i64 d.far] 29) := (HT.out.b0.below hb HT.out.b0.lt).alloc _
    have HM1 : Hid (Blk (w1.alloc (.cells #[.int .i64 q.s, .int .i64 q.n, .int .i64 q.b, .int .i64 q.c, .int .i64 q.a, .int .i64 q.r, .int .i64 q.t, .int .i64 q.y] 64)) (w.heap.size + 1) #[.int .i64 m.k, .int .i64 m.s, .int .i64 m.n, .int .i64 m.b, .int .i64 m.c, .int .i64 m.r, .int .i64 m.y, .int .i64 m.a, .bool m.t, vl, vn] 40) := (HT.out.b1.below hb HT.out.b1.lt).alloc _
    have HR1 : Hid (Blk (w1.alloc (.cells #[.int .i64 q.s, .int .i64 q.n, .int .i64 q.b, .int .i64 q.c, .int .i64 q.a, .int .i64 q.r, .int .i64 q.t, .int .i64 q.y] 64)) (w.heap.size + 1 + 1) #[.int .i64 0, .int .i64 0, .int .i64 0, .int .i64 0, .int .i64 0, .int .i64 0, .int .i64 0, .int .i64 0] 64) := (HT.out.b2.below hb HT.out.b2.lt).alloc _
    have HQ1 := Lib.hid (Blk.new w1 #[.int .i64 q.s, .int .i64 q.n, .int .i64 q.b, .int .i64 q.c, .int .i64 q.a, .int .i64 q.r, .int .i64 q.t, .int .i64 q.y] 64)
    clear hb HG HT
    go_upto_region 2 with fail
    generalize w1.alloc (.cells #[.int .i64 q.s, .int .i64 q.n, .int .i64 q.b, .int .i64 q.c, .int .i64 q.a, .int .i64 q.r, .int .i64 q.t, .int .i64 q.y] 64) = w2 at *
    generalize w1.heap.size = gq at *
    have q0 : w2.cell? ⟨gq, 0, none⟩ = some (.int .i64 q.s) := HQ1.out.cell 0
    have q1 : w2.cell? ⟨gq, 1, none⟩ = some (.int .i64 q.n) := HQ1.out.cell 1
    have q2 : w2.cell? ⟨gq, 2, none⟩ = some (.int .i64 q.b) := HQ1.out.cell 2
    have q3 : w2.cell? ⟨gq, 3, none⟩ = some (.int .i64 q.c) := HQ1.out.cell 3
    have q4 : w2.cell? ⟨gq, 4, none⟩ = some (.int .i64 q.a) := HQ1.out.cell 4
    have q5 : w2.cell? ⟨gq, 5, none⟩ = some (.int .i64 q.r) := HQ1.out.cell 5
    have q6 : w2.cell? ⟨gq, 6, none⟩ = some (.int .i64 q.t) := HQ1.out.cell 6
    have q7 : w2.cell? ⟨gq, 7, none⟩ = some (.int .i64 q.y) := HQ1.out.cell 7
    have a0 : w2.cell? ⟨w.heap.size, 0, none⟩ = some (.int .i64 d.me) := HD1.out.cell 0
    have c5 : w2.cell? ⟨w.heap.size + 1, 5, none⟩ = some (.int .i64 m.r) := HM1.out.cell 5
    go_wp2_with (with_reducible refine stop_storeT 64 (.tmp 8) (.tmp 36) rfl ?_)
    have HTH : Hid (w2.there (w.heap.size + 1 + 1) 0 8) := HR1.out.thereAt
    have HF : Hid (Blk (w2.setCells (w.heap.size + 1 + 1) 0 (#[.int .i64 q.s, .int .i64 q.n, .int .i64 q.b, .int .i64 q.c, .int .i64 q.a, .int .i64 q.r, .int .i64 q.t, .int .i64 q.y] : Array Value).toList) (w.heap.size + 1 + 1) #[.int .i64 q.s, .int .i64 q.n, .int .i64 q.b, .int .i64 q.c, .int .i64 q.a, .int .i64 q.r, .int .i64 q.t, .int .i64 q.y] 64 ∧ Below w.heap.size w (w2.setCells (w.heap.size + 1 + 1) 0 (#[.int .i64 q.s, .int .i64 q.n, .int .i64 q.b, .int .i64 q.c, .int .i64 q.a, .int .i64 q.r, .int .i64 q.t, .int .i64 q.y] : Array Value).toList)) := ⟨blk_put_all HR1.out _ rfl, below_put (by omega) _ _ _ _ HB1.out⟩
    refine wpList_store_mid rfl 64 (.tmp 8) (.tmp 36) rfl (w.heap.size + 1 + 1) 0 #[.int .i64 q.s, .int .i64 q.n, .int .i64 q.b, .int .i64 q.c, .int .i64 q.a, .int .i64 q.r, .int .i64 q.t, .int .i64 q.y] rfl rfl HTH.out (infoI8 rfl) (all_oneCell_toArray (encI.one q)) ?_
    generalize World.setCells w2 _ _ _ = w3 at *
    clear HTH HR1 HQ1 HD1 HM1 HB1 a0 c5 q0 q1 q2 q3 q4 q5 q6 q7
    go_wp2_with fail
    have hf := HF.out.1
    refine bodyPost_ret (v := .tuple #[.agg #[.int .i64 q.s, .int .i64 q.n, .int .i64 q.b, .int .i64 q.c, .int .i64 q.a, .int .i64 q.r, .int .i64 q.t, .int .i64 q.y], .int .i64 140]) (by simp [results, Try.results51, go_sem, hf.cell 0, hf.cell 1, hf.cell 2, hf.cell 3, hf.cell 4, hf.cell 5, hf.cell 6, hf.cell 7]) rfl ⟨rfl, HF.out.2⟩
  ·have ha : betwA d m.s m.n m.r se bu = (q, 140) := by unfold betwA; rw [hf]; dsimp only; rw [if_pos (.inl h1)]
   have b1 : (q.s != se) = true := by simpa using h1
   clear h1
   have HG := Lib.hid (dget_any (((w.alloc (.cells #[.int .i64 d.me, .slice pi d.xs.length ci, .slice po d.os.length co, .int .i64 d.far] 29)).alloc (.cells #[.int .i64 m.k, .int .i64 m.s, .int .i64 m.n, .int .i64 m.b, .int .i64 m.c, .int .i64 m.r, .int .i64 m.y, .int .i64 m.a, .bool m.t, vl, vn] 40)).alloc (.cells #[.int .i64 0, .int .i64 0, .int .i64 0, .int .i64 0, .int .i64 0, .int .i64 0, .int .i64 0, .int .i64 0] 64)) d.me pi po d.xs.length ci d.os.length co m.s m.n d.xs (h.items.kept HT.out.low) rfl h.sx (by have := h.nx; omega))
   rw [hf] at HG
   rw [ha]
   clear ha
   clear h hf
   unfold bookV idV at HG
   simp only [Option.getD_some, Option.isSome_some] at HG
   unfold Itm.v at HG
   unfold deskV Msg.v
   go_enter Try.func51, Try.ntmps51
   go_upto_region 1 with fail
   generalize (((w.alloc (.cells #[.int .i64 d.me, .slice pi d.xs.length ci, .slice po d.os.length co, .int .i64 d.far] 29)).alloc (.cells #[.int .i64 m.k, .int .i64 m.s, .int .i64 m.n, .int .i64 m.b, .int .i64 m.c, .int .i64 m.r, .int .i64 m.y, .int .i64 m.a, .bool m.t, vl, vn] 40)).alloc (.cells #[.int .i64 0, .int .i64 0, .int .i64 0, .int .i64 0, .int .i64 0, .int .i64 0, .int .i64 0, .int .i64 0] 64)) = W at *
   have a0 : W.cell? ⟨w.heap.size, 0, none⟩ = some (.int .i64 d.me) := HT.out.b0.cell 0
   have a1 : W.cell? ⟨w.heap.size, 1, none⟩ = some (.slice pi d.xs.length ci) := HT.out.b0.cell 1
   have a2 : W.cell? ⟨w.heap.size, 2, none⟩ = some (.slice po d.os.length co) := HT.out.b0.cell 2
   have c1 : W.cell? ⟨w.heap.size + 1, 1, none⟩ = some (.int .i64 m.s) := HT.out.b1.cell 1
   have c2 : W.cell? ⟨w.heap.size + 1, 2, none⟩ = some (.int .i64 m.n) := HT.out.b1.cell 2
   go_wp2_with fail
   clear a0 a1 a2 c1 c2
   refine HG.out.mono ?_
   rintro y w1 ⟨rfl, hb⟩
   have HB1 := Lib.hid ((HT.out.low.trans (hb.mono HT.out.low.size)).alloc (HT.out.low.trans (hb.mono HT.out.low.size)).size (.cells #[.int .i64 q.s, .int .i64 q.n, .int .i64 q.b, .int .i64 q.c, .int .i64 q.a, .int .i64 q.r, .int .i64 q.t, .int .i64 q.y] 64))
   have HD1 : Hid (Blk (w1.alloc (.cells #[.int .i64 q.s, .int .i64 q.n, .int .i64 q.b, .int .i64 q.c, .int .i64 q.a, .int .i64 q.r, .int .i64 q.t, .int .i64 q.y] 64)) w.heap.size #[.int .i64 d.me, .slice pi d.xs.length ci, .slice po d.os.length co, .int .i64 d.far] 29) := (HT.out.b0.below hb HT.out.b0.lt).alloc _
   have HM1 : Hid (Blk (w1.alloc (.cells #[.int .i64 q.s, .int .i64 q.n, .int .i64 q.b, .int .i64 q.c, .int .i64 q.a, .int .i64 q.r, .int .i64 q.t, .int .i64 q.y] 64)) (w.heap.size + 1) #[.int .i64 m.k, .int .i64 m.s, .int .i64 m.n, .int .i64 m.b, .int .i64 m.c, .int .i64 m.r, .int .i64 m.y, .int .i64 m.a, .bool m.t, vl, vn] 40) := (HT.out.b1.below hb HT.out.b1.lt).alloc _
   have HR1 : Hid (Blk (w1.alloc (.cells #[.int .i64 q.s, .int .i64 q.n, .int .i64 q.b, .int .i64 q.c, .int .i64 q.a, .int .i64 q.r, .int .i64 q.t, .int .i64 q.y] 64)) (w.heap.size + 1 + 1) #[.int .i64 0, .int .i64 0, .int .i64 0, .int .i64 0, .int .i64 0, .int .i64 0, .int .i64 0, .int .i64 0] 64) := (HT.out.b2.below hb HT.out.b2.lt).alloc _
   have HQ1 := Lib.hid (Blk.new w1 #[.int .i64 q.s, .int .i64 q.n, .int .i64 q.b, .int .i64 q.c, .int .i64 q.a, .int .i64 q.r, .int .i64 q.t, .int .i64 q.y] 64)
   clear hb HG HT
   go_upto_region 2 with fail
   generalize w1.alloc (.cells #[.int .i64 q.s, .int .i64 q.n, .int .i64 q.b, .int .i64 q.c, .int .i64 q.a, .int .i64 q.r, .int .i64 q.t, .int .i64 q.y] 64) = w2 at *
   generalize w1.heap.size = gq at *
   have q0 : w2.cell? ⟨gq, 0, none⟩ = some (.int .i64 q.s) := HQ1.out.cell 0
   have q1 : w2.cell? ⟨gq, 1, none⟩ = some (.int .i64 q.n) := HQ1.out.cell 1
   have q2 : w2.cell? ⟨gq, 2, none⟩ = some (.int .i64 q.b) := HQ1.out.cell 2
   have q3 : w2.cell? ⟨gq, 3, none⟩ = some (.int .i64 q.c) := HQ1.out.cell 3
   have q4 : w2.cell? ⟨gq, 4, none⟩ = some (.int .i64 q.a) := HQ1.out.cell 4
   have q5 : w2.cell? ⟨gq, 5, none⟩ = some (.int .i64 q.r) := HQ1.out.cell 5
   have q6 : w2.cell? ⟨gq, 6, none⟩ = some (.int .i64 q.t) := HQ1.out.cell 6
   have q7 : w2.cell? ⟨gq, 7, none⟩ = some (.int .i64 q.y) := HQ1.out.cell 7
   have a0 : w2.cell? ⟨w.heap.size, 0, none⟩ = some (.int .i64 d.me) := HD1.out.cell 0
   have c5 : w2.cell? ⟨w.heap.size + 1, 5, none⟩ = some (.int .i64 m.r) := HM1.out.cell 5
   go_wp2_with (with_reducible refine stop_storeT 64 (.tmp 8) (.tmp 36) rfl ?_)
   have HTH : Hid (w2.there (w.heap.size + 1 + 1) 0 8) := HR1.out.thereAt
   have HF : Hid (Blk (w2.setCells (w.heap.size + 1 + 1) 0 (#[.int .i64 q.s, .int .i64 q.n, .int .i64 q.b, .int .i64 q.c, .int .i64 q.a, .int .i64 q.r, .int .i64 q.t, .int .i64 q.y] : Array Value).toList) (w.heap.size + 1 + 1) #[.int .i64 q.s, .int .i64 q.n, .int .i64 q.b, .int .i64 q.c, .int .i64 q.a, .int .i64 q.r, .int .i64 q.t, .int .i64 q.y] 64 ∧ Below w.heap.size w (w2.setCells (w.heap.size + 1 + 1) 0 (#[.int .i64 q.s, .int .i64 q.n, .int .i64 q.b, .int .i64 q.c, .int .i64 q.a, .int .i64 q.r, .int .i64 q.t, .int .i64 q.y] : Array Value).toList)) := ⟨blk_put_all HR1.out _ rfl, below_put (by omega) _ _ _ _ HB1.out⟩
   refine wpList_store_mid rfl 64 (.tmp 8) (.tmp 36) rfl (w.heap.size + 1 + 1) 0 #[.int .i64 q.s, .int .i64 q.n, .int .i64 q.b, .int .i64 q.c, .int .i64 q.a, .int .i64 q.r, .int .i64 q.t, .int .i64 q.y] rfl rfl HTH.out (infoI8 rfl) (all_oneCell_toArray (encI.one q)) ?_
   generalize World.setCells w2 _ _ _ = w3 at *
   clear HTH HR1 HQ1 HD1 HM1 HB1 a0 c5 q0 q1 q2 q3 q4 q5 q6 q7
   go_wp2_with fail
   have hf := HF.out.1
   refine bodyPost_ret (v := .tuple #[.agg #[.int .i64 q.s, .int .i64 q.n, .int .i64 q.b, .int .i64 q.c, .int .i64 q.a, .int .i64 q.r, .int .i64 q.t, .int .i64 q.y], .int .i64 140]) (by simp [results, Try.results51, go_sem, hf.cell 0, hf.cell 1, hf.cell 2, hf.cell 3, hf.cell 4, hf.cell 5, hf.cell 6, hf.cell 7]) rfl ⟨rfl, HF.out.2⟩
end Go.Proofs.Ytbpfbebebppleaa
namespace Go.Proofs.Ytbpfbebebppleaa
open Go.RowKit
end Go.Proofs.Ytbpfbebebppleaa
namespace Go.Proofs.Ytbpfbebebppleaa
open Go.RowKit
set_option linter.unusedSimpArgs false
/-- Is that the next thing that can happen to the item? -/
def followsB (d : Dsk) (x : Itm) : Bool :=
 match findX d.xs x.s x.n with
 | none => x.r == 0
 | some q => (q.t == 2) && ((q.r + 1 == x.r) && (q.c == x.c))
/-- Is about that amount expected for it? -/
def expectsB (d : Dsk) (x : Itm) : Bool :=
 match findO d.os x.s x.n with
 | none => false
 | some o => nearB o.a x.a d.far
set_option linter.unusedSimpArgs false in
set_option maxHeartbeats 4000000 in
set_option maxRecDepth 100000 in
theorem follows_any (w : World) (d : Dsk) (pi po : Option Addr) (ci co : Nat) (x : Itm) (h : DRow w d pi ci po co) (hq : ∀ q, findX d.xs x.s x.n = some q → -1000 ≤ q.r ∧ q.r ≤ 1000) : Calls Try.prog 46 #[(deskV d.me pi d.xs.length ci po d.os.length co d.far), x.v] w fun e w' => e = .returned (.bool (followsB d x)) ∧ Below w.heap.size w w' := by
 have HB := Lib.hid ((oneB w (.cells #[.int .i64 d.me, .slice pi d.xs.length ci, .slice po d.os.length co, .int .i64 d.far] 29)).trans ((oneB (w.alloc (.cells #[.int .i64 d.me, .slice pi d.xs.length ci, .slice po d.os.length co, .int .i64 d.far] 29)) (.cells #[.int .i64 x.s, .int .i64 x.n, .int .i64 x.b, .int .i64 x.c, .int .i64 x.a, .int .i64 x.r, .int .i64 x.t, .int .i64 x.y] 64)).mono (by simp)))
 have HD := Lib.hid ((Blk.new w #[.int .i64 d.me, .slice pi d.xs.length ci, .slice po d.os.length co, .int .i64 d.far] 29).alloc (.cells #[.int .i64 x.s, .int .i64 x.n, .int .i64 x.b, .int .i64 x.c, .int .i64 x.a, .int .i64 x.r, .int .i64 x.t, .int .i64 x.y] 64))
 have HI := Lib.hid (Blk.new' (w.alloc (.cells #[.int .i64 d.me, .slice pi d.xs.length ci, .slice po d.os.length co, .int .i64 d.far] 29)) #[.int .i64 x.s, .int .i64 x.n, .int .i64 x.b, .int .i64 x.c, .int .i64 x.a, .int .i64 x.r, .int .i64 x.t, .int .i64 x.y] 64 (b := w.heap.size + 1) (by simp))
 unfold followsB
 cases hf : findX d.xs x.s x.n with
 | none =>
  clear hq
  have HG := Lib.hid (dget_any ((w.alloc (.cells #[.int .i64 d.me, .slice pi d.xs.length ci, .slice po d.os.length co, .int .i64 d.far] 29)).alloc (.cells #[.int .i64 x.s, .int .i64 x.n, .int .i64 x.b, .int .i64 x.c, .int .i64 x.a, .int .i64 x.r, .int .i64 x.t, .int .i64 x.y] 64)) d.me pi po d.xs.length ci d.os.length co x.s x.n d.xs (h.items.kept HB.out) rfl h.sx (by have := h.nx; omega))
  rw [hf] at HG
  clear h hf
  unfold bookV idV at HG
  simp only [Option.getD_none, Option.isSome_none, Option.getD_some, Option.isSome_some, Option.map_none, Option.map_some, itm0] at HG
  try unfold Itm.v at HG
  unfold deskV Itm.v
  go_enter Try.func46, Try.ntmps46
  go_upto_region 1 with fail
  generalize ((w.alloc (.cells #[.int .i64 d.me, .slice pi d.xs.length ci, .slice po d.os.length co, .int .i64 d.far] 29)).alloc (.cells #[.int .i64 x.s, .int .i64 x.n, .int .i64 x.b, .int .i64 x.c, .int .i64 x.a, .int .i64 x.r, .int .i64 x.t, .int .i64 x.y] 64)) = W at *
  have a0 : W.cell? ⟨w.heap.size, 0, none⟩ = some (.int .i64 d.me) := HD.out.cell 0
  have a1 : W.cell? ⟨w.heap.size, 1, none⟩ = some (.slice pi d.xs.length ci) := HD.out.cell 1
  have a2 : W.cell? ⟨w.heap.size, 2, none⟩ = some (.slice po d.os.length co) := HD.out.cell 2
  have c0 : W.cell? ⟨w.heap.size + 1, 0, none⟩ = some (.int .i64 x.s) := HI.out.cell 0
  have c1 : W.cell? ⟨w.heap.size + 1, 1, none⟩ = some (.int .i64 x.n) := HI.out.cell 1
  go_wp2_with fail
  clear a0 a1 a2 c0 c1
  refine HG.out.mono ?_
  rintro y w1 ⟨rfl, hb⟩
  have HB1 := Lib.hid ((HB.out.trans (hb.mono HB.out.size)).alloc (HB.out.trans (hb.mono HB.out.size)).size (.cells #[.int .i64 0, .int .i64 0, .int .i64 0, .int .i64 0, .int .i64 0, .int .i64 0, .int .i64 0, .int .i64 0] 64))
  have HI1 : Hid (Blk (w1.alloc (.cells #[.int .i64 0, .int .i64 0, .int .i64 0, .int .i64 0, .int .i64 0, .int .i64 0, .int .i64 0, .int .i64 0] 64)) (w.heap.size + 1) #[.int .i64 x.s, .int .i64 x.n, .int .i64 x.b, .int .i64 x.c, .int .i64 x.a, .int .i64 x.r, .int .i64 x.t, .int .i64 x.y] 64) := (HI.out.below hb HI.out.lt).alloc _
  have HQ1 := Lib.hid (Blk.new w1 #[.int .i64 0, .int .i64 0, .int .i64 0, .int .i64 0, .int .i64 0, .int .i64 0, .int .i64 0, .int .i64 0] 64)
  clear hb HG HD HI HB
  go_upto_region 2 with fail
  generalize w1.alloc (.cells #[.int .i64 0, .int .i64 0, .int .i64 0, .int .i64 0, .int .i64 0, .int .i64 0, .int .i64 0, .int .i64 0] 64) = w2 at *
  generalize w1.heap.size = gq at *
  have q0 : w2.cell? ⟨gq, 0, none⟩ = some (.int .i64 0) := HQ1.out.cell 0
  have q1 : w2.cell? ⟨gq, 1, none⟩ = some (.int .i64 0) := HQ1.out.cell 1
  have q2 : w2.cell? ⟨gq, 2, none⟩ = some (.int .i64 0) := HQ1.out.cell 2
  have q3 : w2.cell? ⟨gq, 3, none⟩ = some (.int .i64 0) := HQ1.out.cell 3
  have q4 : w2.cell? ⟨gq, 4, none⟩ = some (.int .i64 0) := HQ1.out.cell 4
  have q5 : w2.cell? ⟨gq, 5, none⟩ = some (.int .i64 0) := HQ1.out.cell 5
  have q6 : w2.cell? ⟨gq, 6, none⟩ = some (.int .i64 0) := HQ1.out.cell 6
  have q7 : w2.cell? ⟨gq, 7, none⟩ = some (.int .i64 0) := HQ1.out.cell 7
  have c2 : w2.cell? ⟨w.heap.size + 1, 4, none⟩ = some (.int .i64 x.a) := HI1.out.cell 4
  have c5 : w2.cell? ⟨w.heap.size + 1, 5, none⟩ = some (.int .i64 x.r) := HI1.out.cell 5
  have c3 : w2.cell? ⟨w.heap.size + 1, 3, none⟩ = some (.int .i64 x.c) := HI1.out.cell 3
  go_wp2_with fail
  go_ret
  exact ⟨by first | rfl | simp [*], HB1.out⟩
 | some q =>
  have f1 : -9223372036854775808 ≤ q.r + 1 := by have := hq q hf; omega
  have f2 : q.r + 1 ≤ 9223372036854775807 := by have := hq q hf; omega
  clear hq
  dsimp only
  cases hb1 : (q.t == 2)
  ·skip
   have HG := Lib.hid (dget_any ((w.alloc (.cells #[.int .i64 d.me, .slice pi d.xs.length ci, .slice po d.os.length co, .int .i64 d.far] 29)).alloc (.cells #[.int .i64 x.s, .int .i64 x.n, .int .i64 x.b, .int .i64 x.c, .int .i64 x.a, .int .i64 x.r, .int .i64 x.t, .int .i64 x.y] 64)) d.me pi po d.xs.length ci d.os.length co x.s x.n d.xs (h.items.kept HB.out) rfl h.sx (by have := h.nx; omega))
   rw [hf] at HG
   clear h hf
   unfold bookV idV at HG
   simp only [Option.getD_none, Option.isSome_none, Option.getD_some, Option.isSome_some, Option.map_none, Option.map_some, itm0] at HG
   try unfold Itm.v at HG
   unfold deskV Itm.v
   go_enter Try.func46, Try.ntmps46
   go_upto_region 1 with fail
   generalize ((w.alloc (.cells #[.int .i64 d.me, .slice pi d.xs.length ci, .slice po d.os.length co, .int .i64 d.far] 29)).alloc (.cells #[.int .i64 x.s, .int .i64 x.n, .int .i64 x.b, .int .i64 x.c, .int .i64 x.a, .int .i64 x.r, .int .i64 x.t, .int .i64 x.y] 64)) = W at *
   have a0 : W.cell? ⟨w.heap.size, 0, none⟩ = some (.int .i64 d.me) := HD.out.cell 0
   have a1 : W.cell? ⟨w.heap.size, 1, none⟩ = some (.slice pi d.xs.length ci) := HD.out.cell 1
   have a2 : W.cell? ⟨w.heap.size, 2, none⟩ = some (.slice po d.os.length co) := HD.out.cell 2
   have c0 : W.cell? ⟨w.heap.size + 1, 0, none⟩ = some (.int .i64 x.s) := HI.out.cell 0
   have c1 : W.cell? ⟨w.heap.size + 1, 1, none⟩ = some (.int .i64 x.n) := HI.out.cell 1
   go_wp2_with fail
   clear a0 a1 a2 c0 c1
   refine HG.out.mono ?_
   rintro y w1 ⟨rfl, hb⟩
   have HB1 := Lib.hid ((HB.out.trans (hb.mono HB.out.size)).alloc (HB.out.trans (hb.mono HB.out.size)).size (.cells #[.int .i64 q.s, .int .i64 q.n, .int .i64 q.b, .int .i64 q.c, .int .i64 q.a, .int .i64 q.r, .int .i64 q.t, .int .i64 q.y] 64))
   have HI1 : Hid (Blk (w1.alloc (.cells #[.int .i64 q.s, .int .i64 q.n, .int .i64 q.b, .int .i64 q.c, .int .i64 q.a, .int .i64 q.r, .int .i64 q.t, .int .i64 q.y] 64)) (w.heap.size + 1) #[.int .i64 x.s, .int .i64 x.n, .int .i64 x.b, .int .i64 x.c, .int .i64 x.a, .int .i64 x.r, .int .i64 x.t, .int .i64 x.y] 64) := (HI.out.below hb HI.out.lt).alloc _
   have HQ1 := Lib.hid (Blk.new w1 #[.int .i64 q.s, .int .i64 q.n, .int .i64 q.b, .int .i64 q.c, .int .i64 q.a, .int .i64 q.r, .int .i64 q.t, .int .i64 q.y] 64)
   clear hb HG HD HI HB
   go_upto_region 2 with fail
   generalize w1.alloc (.cells #[.int .i64 q.s, .int .i64 q.n, .int .i64 q.b, .int .i64 q.c, .int .i64 q.a, .int .i64 q.r, .int .i64 q.t, .int .i64 q.y] 64) = w2 at *
   generalize w1.heap.size = gq at *
   have q0 : w2.cell? ⟨gq, 0, none⟩ = some (.int .i64 q.s) := HQ1.out.cell 0
   have q1 : w2.cell? ⟨gq, 1, none⟩ = some (.int .i64 q.n) := HQ1.out.cell 1
   have q2 : w2.cell? ⟨gq, 2, none⟩ = some (.int .i64 q.b) := HQ1.out.cell 2
   have q3 : w2.cell? ⟨gq, 3, none⟩ = some (.int .i64 q.c) := HQ1.out.cell 3
   have q4 : w2.cell? ⟨gq, 4, none⟩ = some (.int .i64 q.a) := HQ1.out.cell 4
   have q5 : w2.cell? ⟨gq, 5, none⟩ = some (.int .i64 q.r) := HQ1.out.cell 5
   have q6 : w2.cell? ⟨gq, 6, none⟩ = some (.int .i64 q.t) := HQ1.out.cell 6
   have q7 : w2.cell? ⟨gq, 7, none⟩ = some (.int .i64 q.y) := HQ1.out.cell 7
   have c2 : w2.cell? ⟨w.heap.size + 1, 4, none⟩ = some (.int .i64 x.a) := HI1.out.cell 4
   have c5 : w2.cell? ⟨w.heap.size + 1, 5, none⟩ = some (.int .i64 x.r) := HI1.out.cell 5
   have c3 : w2.cell? ⟨w.heap.size + 1, 3, none⟩ = some (.int .i64 x.c) := HI1.out.cell 3
   go_wp2_with fail
   go_ret
   exact ⟨by first | rfl | simp [*], HB1.out⟩
  ·cases hb2 : (q.r + 1 == x.r)
   ·skip
    have HG := Lib.hid (dget_any ((w.alloc (.cells #[.int .i64 d.me, .slice pi d.xs.length ci, .slice po d.os.length co, .int .i64 d.far] 29)).alloc (.cells #[.int .i64 x.s, .int .i64 x.n, .int .i64 x.b, .int .i64 x.c, .int .i64 x.a, .int .i64 x.r, .int .i64 x.t, .int .i64 x.y] 64)) d.me pi po d.xs.length ci d.os.length co x.s x.n d.xs (h.items.kept HB.out) rfl h.sx (by have := h.nx; omega))
    rw [hf] at HG
    clear h hf
    unfold bookV idV at HG
    simp only [Option.getD_none, Option.isSome_none, Option.getD_some, Option.isSome_some, Option.map_none, Option.map_some, itm0] at HG
    try unfold Itm.v at HG
    unfold deskV Itm.v
    go_enter Try.func46, Try.ntmps46
    go_upto_region 1 with fail
    generalize ((w.alloc (.cells #[.int .i64 d.me, .slice pi d.xs.length ci, .slice po d.os.length co, .int .i64 d.far] 29)).alloc (.cells #[.int .i64 x.s, .int .i64 x.n, .int .i64 x.b, .int .i64 x.c, .int .i64 x.a, .int .i64 x.r, .int .i64 x.t, .int .i64 x.y] 64)) = W at *
    have a0 : W.cell? ⟨w.heap.size, 0, none⟩ = some (.int .i64 d.me) := HD.out.cell 0
    have a1 : W.cell? ⟨w.heap.size, 1, none⟩ = some (.slice pi d.xs.length ci) := HD.out.cell 1
    have a2 : W.cell? ⟨w.heap.size, 2, none⟩ = some (.slice po d.os.length co) := HD.out.cell 2
    have c0 : W.cell? ⟨w.heap.size + 1, 0, none⟩ = some (.int .i64 x.s) := HI.out.cell 0
    have c1 : W.cell? ⟨w.heap.size + 1, 1, none⟩ = some (.int .i64 x.n) := HI.out.cell 1
    go_wp2_with fail
    clear a0 a1 a2 c0 c1
    refine HG.out.mono ?_
    rintro y w1 ⟨rfl, hb⟩
    have HB1 := Lib.hid ((HB.out.trans (hb.mono HB.out.size)).alloc (HB.out.trans (hb.mono HB.out.size)).size (.cells #[.int .i64 q.s, .int .i64 q.n, .int .i64 q.b, .int .i64 q.c, .int .i64 q.a, .int .i64 q.r, .int .i64 q.t, .int .i64 q.y] 64))
    have HI1 : Hid (Blk (w1.alloc (.cells #[.int .i64 q.s, .int .i64 q.n, .int .i64 q.b, .int .i64 q.c, .int .i64 q.a, .int .i64 q.r, .int .i64 q.t, .int .i64 q.y] 64)) (w.heap.size + 1) #[.int .i64 x.s, .int .i64 x.n, .int .i64 x.b, .int .i64 x.c, .int .i64 x.a, .int .i64 x.r, .int .i64 x.t, .int .i64 x.y] 64) := (HI.out.below hb HI.out.lt).alloc _
    have HQ1 := Lib.hid (Blk.new w1 #[.int .i64 q.s, .int .i64 q.n, .int .i64 q.b, .int .i64 q.c, .int .i64 q.a, .int .i64 q.r, .int .i64 q.t, .int .i64 q.y] 64)
    clear hb HG HD HI HB
    go_upto_region 2 with fail
    generalize w1.alloc (.cells #[.int .i64 q.s, .int .i64 q.n, .int .i64 q.b, .int .i64 q.c, .int .i64 q.a, .int .i64 q.r, .int .i64 q.t, .int .i64 q.y] 64) = w2 at *
    generalize w1.heap.size = gq at *
    have q0 : w2.cell? ⟨gq, 0, none⟩ = some (.int .i64 q.s) := HQ1.out.cell 0
    have q1 : w2.cell? ⟨gq, 1, none⟩ = some (.int .i64 q.n) := HQ1.out.cell 1
    have q2 : w2.cell? ⟨gq, 2, none⟩ = some (.int .i64 q.b) := HQ1.out.cell 2
    have q3 : w2.cell? ⟨gq, 3, none⟩ = some (.int .i64 q.c) := HQ1.out.cell 3
    have q4 : w2.cell? ⟨gq, 4, none⟩ = some (.int .i64 q.a) := HQ1.out.cell 4
    have q5 : w2.cell? ⟨gq, 5, none⟩ = some (.int .i64 q.r) := HQ1.out.cell 5
    have q6 : w2.cell? ⟨gq, 6, none⟩ = some (.int .i64 q.t) := HQ1.out.cell 6
    have q7 : w2.cell? ⟨gq, 7, none⟩ = some (.int .i64 q.y) := HQ1.out.cell 7
    have c2 : w2.cell? ⟨w.heap.size + 1, 4, none⟩ = some (.int .i64 x.a) := HI1.out.cell 4
    have c5 : w2.cell? ⟨w.heap.size + 1, 5, none⟩ = some (.int .i64 x.r) := HI1.out.cell 5
    have c3 : w2.cell? ⟨w.heap.size + 1, 3, none⟩ = some (.int .i64 x.c) := HI1.out.cell 3
    go_wp2_with fail
    go_ret
    exact ⟨by first | rfl | simp [*], HB1.out⟩
   ·skip
    have HG := Lib.hid (dget_any ((w.alloc (.cells #[.int .i64 d.me, .slice pi d.xs.length ci, .slice po d.os.length co, .int .i64 d.far] 29)).alloc (.cells #[.int .i64 x.s, .int .i64 x.n, .int .i64 x.b, .int .i64 x.c, .int .i64 x.a, .int .i64 x.r, .int .i64 x.t, .int .i64 x.y] 64)) d.me pi po d.xs.length ci d.os.length co x.s x.n d.xs (h.items.kept HB.out) rfl h.sx (by have := h.nx; omega))
    rw [hf] at HG
    clear h hf
    unfold bookV idV at HG
    simp only [Option.getD_none, Option.isSome_none, Option.getD_some, Option.isSome_some, Option.map_none, Option.map_some, itm0] at HG
    try unfold Itm.v at HG
    unfold deskV Itm.v
    go_enter Try.func46, Try.ntmps46
    go_upto_region 1 with fail
    generalize ((w.alloc (.cells #[.int .i64 d.me, .slice pi d.xs.length ci, .slice po d.os.length co, .int .i64 d.far] 29)).alloc (.cells #[.int .i64 x.s, .int .i64 x.n, .int .i64 x.b, .int .i64 x.c, .int .i64 x.a, .int .i64 x.r, .int .i64 x.t, .int .i64 x.y] 64)) = W at *
    have a0 : W.cell? ⟨w.heap.size, 0, none⟩ = some (.int .i64 d.me) := HD.out.cell 0
    have a1 : W.cell? ⟨w.heap.size, 1, none⟩ = some (.slice pi d.xs.length ci) := HD.out.cell 1
    have a2 : W.cell? ⟨w.heap.size, 2, none⟩ = some (.slice po d.os.length co) := HD.out.cell 2
    have c0 : W.cell? ⟨w.heap.size + 1, 0, none⟩ = some (.int .i64 x.s) := HI.out.cell 0
    have c1 : W.cell? ⟨w.heap.size + 1, 1, none⟩ = some (.int .i64 x.n) := HI.out.cell 1
    go_wp2_with fail
    clear a0 a1 a2 c0 c1
    refine HG.out.mono ?_
    rintro y w1 ⟨rfl, hb⟩
    have HB1 := Lib.hid ((HB.out.trans (hb.mono HB.out.size)).alloc (HB.out.trans (hb.mono HB.out.size)).size (.cells #[.int .i64 q.s, .int .i64 q.n, .int .i64 q.b, .int .i64 q.c, .int .i64 q.a, .int .i64 q.r, .int .i64 q.t, .int .i64 q.y] 64))
    have HI1 : Hid (Blk (w1.alloc (.cells #[.int .i64 q.s, .int .i64 q.n, .int .i64 q.b, .int .i64 q.c, .int .i64 q.a, .int .i64 q.r, .int .i64 q.t, .int .i64 q.y] 64)) (w.heap.size + 1) #[.int .i64 x.s, .int .i64 x.n, .int .i64 x.b, .int .i64 x.c, .int .i64 x.a, .int .i64 x.r, .int .i64 x.t, .int .i64 x.y] 64) := (HI.out.below hb HI.out.lt).alloc _
    have HQ1 := Lib.hid (Blk.new w1 #[.int .i64 q.s, .int .i64 q.n, .int .i64 q.b, .int .i64 q.c, .int .i64 q.a, .int .i64 q.r, .int .i64 q.t, .int .i64 q.y] 64)
    clear hb HG HD HI HB
    go_upto_region 2 with fail
    generalize w1.alloc (.cells #[.int .i64 q.s, .int .i64 q.n, .int .i64 q.b, .int .i64 q.c, .int .i64 q.a, .int .i64 q.r, .int .i64 q.t, .int .i64 q.y] 64) = w2 at *
    generalize w1.heap.size = gq at *
    have q0 : w2.cell? ⟨gq, 0, none⟩ = some (.int .i64 q.s) := HQ1.out.cell 0
    have q1 : w2.cell? ⟨gq, 1, none⟩ = some (.int .i64 q.n) := HQ1.out.cell 1
    have q2 : w2.cell? ⟨gq, 2, none⟩ = some (.int .i64 q.b) := HQ1.out.cell 2
    have q3 : w2.cell? ⟨gq, 3, none⟩ = some (.int .i64 q.c) := HQ1.out.cell 3
    have q4 : w2.cell? ⟨gq, 4, none⟩ = some (.int .i64 q.a) := HQ1.out.cell 4
    have q5 : w2.cell? ⟨gq, 5, none⟩ = some (.int .i64 q.r) := HQ1.out.cell 5
    have q6 : w2.cell? ⟨gq, 6, none⟩ = some (.int .i64 q.t) := HQ1.out.cell 6
    have q7 : w2.cell? ⟨gq, 7, none⟩ = some (.int .i64 q.y) := HQ1.out.cell 7
    have c2 : w2.cell? ⟨w.heap.size + 1, 4, none⟩ = some (.int .i64 x.a) := HI1.out.cell 4
    have c5 : w2.cell? ⟨w.heap.size + 1, 5, none⟩ = some (.int .i64 x.r) := HI1.out.cell 5
    have c3 : w2.cell? ⟨w.heap.size + 1, 3, none⟩ = some (.int .i64 x.c) := HI1.out.cell 3
    go_wp2_with fail
    go_ret
    exact ⟨by first | rfl | simp [*], HB1.out⟩
set_option linter.unusedSimpArgs false in
set_option maxHeartbeats 4000000 in
set_option maxRecDepth 100000 in
theorem expects_any (w : World) (d : Dsk) (pi po : Option Addr) (ci co : Nat) (x : Itm) (h : DRow w d pi ci po co) (ho : ∀ o, findO d.os x.s x.n = some o → Fits o.a) (hx : Fits x.a) (hfar : Fits d.far) : Calls Try.prog 47 #[(deskV d.me pi d.xs.length ci po d.os.length co d.far), x.v] w fun e w' => e = .returned (.bool (expectsB d x)) ∧ Below w.heap.size w w' := by
 have HB := Lib.hid ((oneB w (.cells #[.int .i64 d.me, .slice pi d.xs.length ci, .slice po d.os.length co, .int .i64 d.far] 29)).trans ((oneB (w.alloc (.cells #[.int .i64 d.me, .slice pi d.xs.length ci, .slice po d.os.length co, .int .i64 d.far] 29)) (.cells #[.int .i64 x.s, .int .i64 x.n, .int .i64 x.b, .int .i64 x.c, .int .i64 x.a, .int .i64 x.r, .int .i64 x.t, .int .i64 x.y] 64)).mono (by simp)))
 have HD := Lib.hid ((Blk.new w #[.int .i64 d.me, .slice pi d.xs.length ci, .slice po d.os.length co, .int .i64 d.far] 29).alloc (.cells #[.int .i64 x.s, .int .i64 x.n, .int .i64 x.b, .int .i64 x.c, .int .i64 x.a, .int .i64 x.r, .int .i64 x.t, .int .i64 x.y] 64))
 have HI := Lib.hid (Blk.new' (w.alloc (.cells #[.int .i64 d.me, .slice pi d.xs.length ci, .slice po d.os.length co, .int .i64 d.far] 29)) #[.int .i64 x.s, .int .i64 x.n, .int .i64 x.b, .int .i64 x.c, .int .i64 x.a, .int .i64 x.r, .int .i64 x.t, .int .i64 x.y] 64 (b := w.heap.size + 1) (by simp))
 have HXA := Lib.hid hx
 have HFA := Lib.hid hfar
 clear hx hfar
 unfold expectsB
 cases hf : findO d.os x.s x.n with
 | none =>
  clear ho
  have HG := Lib.hid (dexpected_any ((w.alloc (.cells #[.int .i64 d.me, .slice pi d.xs.length ci, .slice po d.os.length co, .int .i64 d.far] 29)).alloc (.cells #[.int .i64 x.s, .int .i64 x.n, .int .i64 x.b, .int .i64 x.c, .int .i64 x.a, .int .i64 x.r, .int .i64 x.t, .int .i64 x.y] 64)) d.me pi po d.xs.length ci d.os.length co x.s x.n d.os (h.orders.kept HB.out) rfl h.so (by have := h.no; omega))
  rw [hf] at HG
  clear h hf
  unfold bookV idV at HG
  simp only [Option.getD_none, Option.isSome_none, Option.getD_some, Option.isSome_some, Option.map_none, Option.map_some, itm0] at HG
  try unfold Itm.v at HG
  unfold deskV Itm.v
  go_enter Try.func47, Try.ntmps47
  go_upto_region 1 with fail
  generalize ((w.alloc (.cells #[.int .i64 d.me, .slice pi d.xs.length ci, .slice po d.os.length co, .int .i64 d.far] 29)).alloc (.cells #[.int .i64 x.s, .int .i64 x.n, .int .i64 x.b, .int .i64 x.c, .int .i64 x.a, .int .i64 x.r, .int .i64 x.t, .int .i64 x.y] 64)) = W at *
  have a0 : W.cell? ⟨w.heap.size, 0, none⟩ = some (.int .i64 d.me) := HD.out.cell 0
  have a1 : W.cell? ⟨w.heap.size, 1, none⟩ = some (.slice pi d.xs.length ci) := HD.out.cell 1
  have a2 : W.cell? ⟨w.heap.size, 2, none⟩ = some (.slice po d.os.length co) := HD.out.cell 2
  have c0 : W.cell? ⟨w.heap.size + 1, 0, none⟩ = some (.int .i64 x.s) := HI.out.cell 0
  have c1 : W.cell? ⟨w.heap.size + 1, 1, none⟩ = some (.int .i64 x.n) := HI.out.cell 1
  go_wp2_with fail
  clear a0 a1 a2 c0 c1
  refine HG.out.mono ?_
  rintro y w1 ⟨rfl, hb⟩
  have HB1 := ktq HB hb
  clear hb HG
  go_wp2_with fail
  go_ret
  exact ⟨rfl, HB1.out⟩
 | some o =>
  rw [hf] at ho
  have HO := Lib.hid ho
  clear ho
  dsimp only
  have HG := Lib.hid (dexpected_any ((w.alloc (.cells #[.int .i64 d.me, .slice pi d.xs.length ci, .slice po d.os.length co, .int .i64 d.far] 29)).alloc (.cells #[.int .i64 x.s, .int .i64 x.n, .int .i64 x.b, .int .i64 x.c, .int .i64 x.a, .int .i64 x.r, .int .i64 x.t, .int .i64 x.y] 64)) d.me pi po d.xs.length ci d.os.length co x.s x.n d.os (h.orders.kept HB.out) rfl h.so (by have := h.no; omega))
  rw [hf] at HG
  clear h hf
  unfold bookV idV at HG
  simp only [Option.getD_none, Option.isSome_none, Option.getD_some, Option.isSome_some, Option.map_none, Option.map_some, itm0] at HG
  try unfold Itm.v at HG
  unfold deskV Itm.v
  go_enter Try.func47, Try.ntmps47
  go_upto_region 1 with fail
  generalize ((w.alloc (.cells #[.int .i64 d.me, .slice pi d.xs.length ci, .slice po d.os.length co, .int .i64 d.far] 29)).alloc (.cells #[.int .i64 x.s, .int .i64 x.n, .int .i64 x.b, .int .i64 x.c, .int .i64 x.a, .int .i64 x.r, .int .i64 x.t, .int .i64 x.y] 64)) = W at *
  have a0 : W.cell? ⟨w.heap.size, 0, none⟩ = some (.int .i64 d.me) := HD.out.cell 0
  have a1 : W.cell? ⟨w.heap.size, 1, none⟩ = some (.slice pi d.xs.length ci) := HD.out.cell 1
  have a2 : W.cell? ⟨w.heap.size, 2, none⟩ = some (.slice po d.os.length co) := HD.out.cell 2
  have c0 : W.cell? ⟨w.heap.size + 1, 0, none⟩ = some (.int .i64 x.s) := HI.out.cell 0
  have c1 : W.cell? ⟨w.heap.size + 1, 1, none⟩ = some (.int .i64 x.n) := HI.out.cell 1
  go_wp2_with fail
  clear a0 a1 a2 c0 c1
  refine HG.out.mono ?_
  rintro y w1 ⟨rfl, hb⟩
  have HB1 := ktq HB hb
  have HD1 := kbq HD hb
  have HI1 := kbq HI hb
  have a3 : w1.cell? ⟨w.heap.size, 3, none⟩ = some (.int .i64 d.far) := HD1.out.cell 3
  have c4 : w1.cell? ⟨w.heap.size + 1, 4, none⟩ = some (.int .i64 x.a) := HI1.out.cell 4
  clear hb HG
  go_wp2_with fail
  refine (near_any o.a x.a d.far w1 (HO.out o rfl) HXA.out HFA.out).mono ?_
  rintro y w2 ⟨rfl, rfl⟩
  go_wp2_with fail
  go_ret
  exact ⟨rfl, HB1.out⟩
end Go.Proofs.Ytbpfbebebppleaa
namespace Go.Proofs.Ytbpfbebebppleaa
open Go.RowKit
/-- Something that is said to a node, as it lies in cells. -/
structure SdX where
 tw : Int
 x : MsgX
def SdX.cells (y : SdX) : List Value := .int .i64 y.tw :: y.x.cells
def encS : Enc SdX := ⟨12, SdX.cells, by decide, fun _ => rfl, by
 intro y u hu
 simp only [SdX.cells, List.mem_cons] at hu
 rcases hu with rfl | hu
 ·rfl
 ·exact encM.one y.x u hu⟩
def zeroVS : Value := .agg #[.int .i64 0, .int .i64 0, .int .i64 0, .int .i64 0, .int .i64 0, .int .i64 0, .int .i64 0, .int .i64 0, .int .i64 0, .bool false, .slice none 0 0, .slice none 0 0]
theorem eltS : EltT encS Try.prog 43 58 zeroVS 128 := eltT_mk Try.underlying43 (by kernel_rfl)
/-- A message without lists. -/
def msgX0 (m : Msg) : MsgX := ⟨m, none, 0, none, 0⟩
end Go.Proofs.Ytbpfbebebppleaa
namespace Go.Proofs.Ytbpfbebebppleaa
open Go.RowKit
theorem dispute_any (x : Itm) (w : World) : Calls Try.prog 50 #[x.v] w fun e w' => e = ansI (turnI x 1 2) ∧ Below w.heap.size w w' := by
 have HT := Lib.hid (fun w => turn_any x 1 2 w)
 have HB2 := Lib.hid ((oneB w (.cells #[.int .i64 x.s, .int .i64 x.n, .int .i64 x.b, .int .i64 x.c, .int .i64 x.a, .int .i64 x.r, .int .i64 x.t, .int .i64 x.y] 64)).alloc (by simp) (.cells #[.int .i64 0, .int .i64 0, .int .i64 0, .int .i64 0, .int .i64 0, .int .i64 0, .int .i64 0, .int .i64 0] 64))
 have HR := Lib.hid (Blk.new' (w.alloc (.cells #[.int .i64 x.s, .int .i64 x.n, .int .i64 x.b, .int .i64 x.c, .int .i64 x.a, .int .i64 x.r, .int .i64 x.t, .int .i64 x.y] 64)) #[.int .i64 0, .int .i64 0, .int .i64 0, .int .i64 0, .int .i64 0, .int .i64 0, .int .i64 0, .int .i64 0] 64 (b := w.heap.size + 1) (by simp))
 have HX := Lib.hid ((Blk.new w #[.int .i64 x.s, .int .i64 x.n, .int .i64 x.b, .int .i64 x.c, .int .i64 x.a, .int .i64 x.r, .int .i64 x.t, .int .i64 x.y] 64).alloc (.cells #[.int .i64 0, .int .i64 0, .int .i64 0, .int .i64 0, .int .i64 0, .int .i64 0, .int .i64 0, .int .i64 0] 64))
 generalize turnI x 1 2 = q at HT ⊢
 obtain ⟨y, e⟩ := q
 unfold ansI Itm.v at *
 dsimp only at *
 go_enter Try.func50, Try.ntmps50
 go_wp2_with fail
 refine (HT.out _).mono ?_
 rintro z w1 ⟨rfl, hb1⟩
 have hr1 := HR.out.below hb1 HR.out.lt
 have hx1 := HX.out.below hb1 HX.out.lt
 have HB := ktq HB2 hb1
 have HR1 := Lib.hid hr1
 have HX1 := Lib.hid hx1
 have r0 : (w1).cell? ⟨w.heap.size + 1, 0, none⟩ = some (.int .i64 0) := hr1.cell 0
 have rf0 := hr1.free 0
 have r1 : (w1).cell? ⟨w.heap.size + 1, 1, none⟩ = some (.int .i64 0) := hr1.cell 1
 have rf1 := hr1.free 1
 have r2 : (w1).cell? ⟨w.heap.size + 1, 2, none⟩ = some (.int .i64 0) := hr1.cell 2
 have rf2 := hr1.free 2
 have r3 : (w1).cell? ⟨w.heap.size + 1, 3, none⟩ = some (.int .i64 0) := hr1.cell 3
 have rf3 := hr1.free 3
 have r4 : (w1).cell? ⟨w.heap.size + 1, 4, none⟩ = some (.int .i64 0) := hr1.cell 4
 have rf4 := hr1.free 4
 have r5 : (w1).cell? ⟨w.heap.size + 1, 5, none⟩ = some (.int .i64 0) := hr1.cell 5
 have rf5 := hr1.free 5
 have r6 : (w1).cell? ⟨w.heap.size + 1, 6, none⟩ = some (.int .i64 0) := hr1.cell 6
 have rf6 := hr1.free 6
 have r7 : (w1).cell? ⟨w.heap.size + 1, 7, none⟩ = some (.int .i64 0) := hr1.cell 7
 have rf7 := hr1.free 7
 have lr := hr1.lt
 clear hb1 hr1 hx1
 go_wp2_with fail
 have hf := blk_set8 (z := zeroI) HR1.out y
 refine bodyPost_ret (v := .tuple #[Itm.v (y), .int .i64 e]) (by simp [results, Try.results50, go_sem, Itm.v, hf.cell 0, hf.cell 1, hf.cell 2, hf.cell 3, hf.cell 4, hf.cell 5, hf.cell 6, hf.cell 7]) rfl ⟨rfl, below_set8 HB.out (Nat.le_succ _) y⟩
theorem agree_any (x : Itm) (w : World) : Calls Try.prog 48 #[x.v] w fun e w' => e = ansI (turnI x 1 3) ∧ Below w.heap.size w w' := by
 have HT := Lib.hid (fun w => turn_any x 1 3 w)
 have HB2 := Lib.hid ((oneB w (.cells #[.int .i64 x.s, .int .i64 x.n, .int .i64 x.b, .int .i64 x.c, .int .i64 x.a, .int .i64 x.r, .int .i64 x.t, .int .i64 x.y] 64)).alloc (by simp) (.cells #[.int .i64 0, .int .i64 0, .int .i64 0, .int .i64 0, .int .i64 0, .int .i64 0, .int .i64 0, .int .i64 0] 64))
 have HR := Lib.hid (Blk.new' (w.alloc (.cells #[.int .i64 x.s, .int .i64 x.n, .int .i64 x.b, .int .i64 x.c, .int .i64 x.a, .int .i64 x.r, .int .i64 x.t, .int .i64 x.y] 64)) #[.int .i64 0, .int .i64 0, .int .i64 0, .int .i64 0, .int .i64 0, .int .i64 0, .int .i64 0, .int .i64 0] 64 (b := w.heap.size + 1) (by simp))
 have HX := Lib.hid ((Blk.new w #[.int .i64 x.s, .int .i64 x.n, .int .i64 x.b, .int .i64 x.c, .int .i64 x.a, .int .i64 x.r, .int .i64 x.t, .int .i64 x.y] 64).alloc (.cells #[.int .i64 0, .int .i64 0, .int .i64 0, .int .i64 0, .int .i64 0, .int .i64 0, .int .i64 0, .int .i64 0] 64))
 generalize turnI x 1 3 = q at HT ⊢
 obtain ⟨y, e⟩ := q
 unfold ansI Itm.v at *
 dsimp only at *
 go_enter Try.func48, Try.ntmps48
 go_wp2_with fail
 refine (HT.out _).mono ?_
 rintro z w1 ⟨rfl, hb1⟩
 have hr1 := HR.out.below hb1 HR.out.lt
 have hx1 := HX.out.below hb1 HX.out.lt
 have HB := ktq HB2 hb1
 have HR1 := Lib.hid hr1
 have HX1 := Lib.hid hx1
 have r0 : (w1).cell? ⟨w.heap.size + 1, 0, none⟩ = some (.int .i64 0) := hr1.cell 0
 have rf0 := hr1.free 0
 have r1 : (w1).cell? ⟨w.heap.size + 1, 1, none⟩ = some (.int .i64 0) := hr1.cell 1
 have rf1 := hr1.free 1
 have r2 : (w1).cell? ⟨w.heap.size + 1, 2, none⟩ = some (.int .i64 0) := hr1.cell 2
 have rf2 := hr1.free 2
 have r3 : (w1).cell? ⟨w.heap.size + 1, 3, none⟩ = some (.int .i64 0) := hr1.cell 3
 have rf3 := hr1.free 3
 have r4 : (w1).cell? ⟨w.heap.size + 1, 4, none⟩ = some (.int .i64 0) := hr1.cell 4
 have rf4 := hr1.free 4
 have r5 : (w1).cell? ⟨w.heap.size + 1, 5, none⟩ = some (.int .i64 0) := hr1.cell 5
 have rf5 := hr1.free 5
 have r6 : (w1).cell? ⟨w.heap.size + 1, 6, none⟩ = some (.int .i64 0) := hr1.cell 6
 have rf6 := hr1.free 6
 have r7 : (w1).cell? ⟨w.heap.size + 1, 7, none⟩ = some (.int .i64 0) := hr1.cell 7
 have rf7 := hr1.free 7
 have lr := hr1.lt
 clear hb1 hr1 hx1
 go_wp2_with fail
 have hf := blk_set8 (z := zeroI) HR1.out y
 refine bodyPost_ret (v := .tuple #[Itm.v (y), .int .i64 e]) (by simp [results, Try.results48, go_sem, Itm.v, hf.cell 0, hf.cell 1, hf.cell 2, hf.cell 3, hf.cell 4, hf.cell 5, hf.cell 6, hf.cell 7]) rfl ⟨rfl, below_set8 HB.out (Nat.le_succ _) y⟩
theorem cancel_any (x : Itm) (w : World) : Calls Try.prog 52 #[x.v] w fun e w' => e = ansI (turnI x 2 4) ∧ Below w.heap.size w w' := by
 have HT := Lib.hid (fun w => turn_any x 2 4 w)
 have HB2 := Lib.hid ((oneB w (.cells #[.int .i64 x.s, .int .i64 x.n, .int .i64 x.b, .int .i64 x.c, .int .i64 x.a, .int .i64 x.r, .int .i64 x.t, .int .i64 x.y] 64)).alloc (by simp) (.cells #[.int .i64 0, .int .i64 0, .int .i64 0, .int .i64 0, .int .i64 0, .int .i64 0, .int .i64 0, .int .i64 0] 64))
 have HR := Lib.hid (Blk.new' (w.alloc (.cells #[.int .i64 x.s, .int .i64 x.n, .int .i64 x.b, .int .i64 x.c, .int .i64 x.a, .int .i64 x.r, .int .i64 x.t, .int .i64 x.y] 64)) #[.int .i64 0, .int .i64 0, .int .i64 0, .int .i64 0, .int .i64 0, .int .i64 0, .int .i64 0, .int .i64 0] 64 (b := w.heap.size + 1) (by simp))
 have HX := Lib.hid ((Blk.new w #[.int .i64 x.s, .int .i64 x.n, .int .i64 x.b, .int .i64 x.c, .int .i64 x.a, .int .i64 x.r, .int .i64 x.t, .int .i64 x.y] 64).alloc (.cells #[.int .i64 0, .int .i64 0, .int .i64 0, .int .i64 0, .int .i64 0, .int .i64 0, .int .i64 0, .int .i64 0] 64))
 generalize turnI x 2 4 = q at HT ⊢
 obtain ⟨y, e⟩ := q
 unfold ansI Itm.v at *
 dsimp only at *
 go_enter Try.func52, Try.ntmps52
 go_wp2_with fail
 refine (HT.out _).mono ?_
 rintro z w1 ⟨rfl, hb1⟩
 have hr1 := HR.out.below hb1 HR.out.lt
 have hx1 := HX.out.below hb1 HX.out.lt
 have HB := ktq HB2 hb1
 have HR1 := Lib.hid hr1
 have HX1 := Lib.hid hx1
 have r0 : (w1).cell? ⟨w.heap.size + 1, 0, none⟩ = some (.int .i64 0) := hr1.cell 0
 have rf0 := hr1.free 0
 have r1 : (w1).cell? ⟨w.heap.size + 1, 1, none⟩ = some (.int .i64 0) := hr1.cell 1
 have rf1 := hr1.free 1
 have r2 : (w1).cell? ⟨w.heap.size + 1, 2, none⟩ = some (.int .i64 0) := hr1.cell 2
 have rf2 := hr1.free 2
 have r3 : (w1).cell? ⟨w.heap.size + 1, 3, none⟩ = some (.int .i64 0) := hr1.cell 3
 have rf3 := hr1.free 3
 have r4 : (w1).cell? ⟨w.heap.size + 1, 4, none⟩ = some (.int .i64 0) := hr1.cell 4
 have rf4 := hr1.free 4
 have r5 : (w1).cell? ⟨w.heap.size + 1, 5, none⟩ = some (.int .i64 0) := hr1.cell 5
 have rf5 := hr1.free 5
 have r6 : (w1).cell? ⟨w.heap.size + 1, 6, none⟩ = some (.int .i64 0) := hr1.cell 6
 have rf6 := hr1.free 6
 have r7 : (w1).cell? ⟨w.heap.size + 1, 7, none⟩ = some (.int .i64 0) := hr1.cell 7
 have rf7 := hr1.free 7
 have lr := hr1.lt
 clear hb1 hr1 hx1
 go_wp2_with fail
 have hf := blk_set8 (z := zeroI) HR1.out y
 refine bodyPost_ret (v := .tuple #[Itm.v (y), .int .i64 e]) (by simp [results, Try.results52, go_sem, Itm.v, hf.cell 0, hf.cell 1, hf.cell 2, hf.cell 3, hf.cell 4, hf.cell 5, hf.cell 6, hf.cell 7]) rfl ⟨rfl, below_set8 HB.out (Nat.le_succ _) y⟩
set_option maxHeartbeats 1000000 in
theorem adjust_any (x : Itm) (n : Int) (w : World) (hr : F64 (x.r + 1)) : Calls Try.prog 56 #[x.v, .int .i64 n] w fun e w' => e = ansI (adjI x n) ∧ Below w.heap.size w w' := by
 have HB2 : Hid (∀ a b, Below w.heap.size w ((w.alloc a).alloc b)) := fun a b => (oneB w a).alloc (by simp) b
 have HW := Lib.hid (fun w => payable_any n w)
 by_cases h2 : x.t = 2
 ·have e2 : (x.t != 2) = false := by simpa using h2
  cases hw : inB n 1 1125899906842624
  ·rw [hw] at HW
   have HC : Hid (adjI x n = (x, 1)) := by show _ = _; unfold adjI; rw [if_pos h2, if_neg (inB_no hw)]
   clear h2 hw
   unfold Itm.v at *
   go_enter Try.func56, Try.ntmps56
   go_wp2_with fail
   refine (HW.out _).mono ?_
   rintro z w1 ⟨rfl, rfl⟩
   go_wp2_with fail
   refine bodyPost_ret (v := .tuple #[Itm.v (x), .int .i64 1]) (by simp [results, Try.results56, go_sem, Itm.v]) rfl ⟨retA HC.out.symm, HB2.out _ _⟩
  ·rw [hw] at HW
   by_cases h3 : x.r = 3
   ·have e3 : (x.r == 3) = true := by simpa using h3
    have HC : Hid (adjI x n = (x, 91)) := by show _ = _; unfold adjI; rw [if_pos h2, if_pos (inB_yes hw), if_pos h3]
    clear h2 h3 hw
    unfold Itm.v at *
    go_enter Try.func56, Try.ntmps56
    go_wp2_with fail
    refine (HW.out _).mono ?_
    rintro z w1 ⟨rfl, rfl⟩
    go_wp2_with fail
    refine bodyPost_ret (v := .tuple #[Itm.v (x), .int .i64 91]) (by simp [results, Try.results56, go_sem, Itm.v]) rfl ⟨retA HC.out.symm, HB2.out _ _⟩
   ·have e3 : (x.r == 3) = false := by simpa using h3
    have HC : Hid (adjI x n = ({ x with t := 1, r := x.r + 1, a := n }, 0)) := by show _ = _; unfold adjI; rw [if_pos h2, if_pos (inB_yes hw), if_neg h3]
    have hr1 : wrap64 (x.r + 1) = x.r + 1 := by unfold F64 at hr; unfold wrap64; omega
    clear h2 h3 hw hr
    unfold Itm.v at *
    go_enter Try.func56, Try.ntmps56
    go_wp2_with fail
    refine (HW.out _).mono ?_
    rintro z w1 ⟨rfl, rfl⟩
    go_wp2_with fail
    refine bodyPost_ret (v := .tuple #[Itm.v ({ x with t := 1, r := x.r + 1, a := n }), .int .i64 0]) (by simp [results, Try.results56, go_sem, Itm.v]) rfl ⟨retA HC.out.symm, HB2.out _ _⟩
 ·have e2 : (x.t != 2) = true := by simpa using h2
  have HC : Hid (adjI x n = (x, 90)) := if_neg h2
  clear h2 hr
  unfold Itm.v at *
  go_enter Try.func56, Try.ntmps56
  go_wp2_with fail
  refine bodyPost_ret (v := .tuple #[Itm.v (x), .int .i64 90]) (by simp [results, Try.results56, go_sem, Itm.v]) rfl ⟨retA HC.out.symm, HB2.out _ _⟩
end Go.Proofs.Ytbpfbebebppleaa
