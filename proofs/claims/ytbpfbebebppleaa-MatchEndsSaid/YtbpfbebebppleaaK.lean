/- book.New by contract. '==' of two items. match.Desk's Do by contract. A law's desk: a block of four cells, whose rows lie in blocks of P. contralaw14.matches by contract: an item is sold, and taken. A queue of what is said: what is left behind the first, and an append onto that. MatchEnds, plain: one item at a seller and a buyer, and what is on its way. Rows that lie in no block of a list. contraref11.Same by contract: a message is the same as itself. MatchEnds: its walk. -/
import Derived.Test.YtbpfbebebppleaaBookV
import Derived.Test.YtbpfbebebppleaaItemPure
import Derived.Laws.StructEq
import Derived.Test.YtbpfbebebppleaaExpectNo
import Derived.Deep.AppendSrc
import Derived.Deep.Upon
import Derived.Laws.AppendOwn
import Derived.Test.YtbpfbebebppleaaAtP
import Derived.Test.YtbpfbebebppleaaTRow2
import Derived.Test.YtbpfbebebppleaaMsgData
import Derived.Test.YtbpfbebebppleaaMem
import Derived.Deep.RegionHeld3
import Derived.Deep.CutRange
import Derived.Deep.CutBlock
import Derived.BigQuiet
namespace Go.Proofs.Ytbpfbebebppleaa
open Go.RowKit
set_option linter.unusedSimpArgs false in
set_option maxHeartbeats 4000000 in
set_option maxRecDepth 100000 in
theorem newB_any (w : World) (me : Int) (h : 0 ≤ me ∧ me < 8) : Calls Try.prog 18 #[.int .i64 me] w fun e w' => e = .returned (.tuple #[bookV me (.slice none 0 0) (.slice none 0 0), .int .i64 0]) ∧ Below w.heap.size w w' := by
  have h1 : ¬ me < 0 := by omega
  have h2 : ¬ (8 : Int) ≤ me := by omega
  unfold bookV
  clear h
  go_enter Try.func18, Try.ntmps18
  go_wp2
  refine bodyPost_ret (v := .tuple #[.agg #[.int .i64 me, .slice none 0 0, .slice none 0 0], .int .i64 0]) (by simp [results, Try.results18, go_sem]) rfl ⟨rfl, ?_⟩
  exact oneB w _
end Go.Proofs.Ytbpfbebebppleaa
namespace Go.Proofs.Ytbpfbebebppleaa
open Go.RowKit
def itmEq (x y : Itm) : Bool := x.s == y.s && x.n == y.n && x.b == y.b && x.c == y.c && x.a == y.a && x.r == y.r && x.t == y.t && x.y == y.y
theorem itmEq_iff {x y : Itm} : itmEq x y = true ↔ x = y := by
  unfold itmEq
  simp only [Bool.and_eq_true, beq_iff_eq]
  constructor
  · rintro ⟨⟨⟨⟨⟨⟨⟨h1, h2⟩, h3⟩, h4⟩, h5⟩, h6⟩, h7⟩, h8⟩
    cases x; cases y
    simp only at h1 h2 h3 h4 h5 h6 h7 h8
    rw [h1, h2, h3, h4, h5, h6, h7, h8]
  · rintro rfl
    exact ⟨⟨⟨⟨⟨⟨⟨rfl, rfl⟩, rfl⟩, rfl⟩, rfl⟩, rfl⟩, rfl⟩, rfl⟩
theorem itmEq_dec (x y : Itm) : itmEq x y = decide (x = y) := by
  rw [Bool.eq_iff_iff, itmEq_iff, decide_eq_true_eq]
theorem item_eq (x y : Itm) (w : World) : (Op.equalIn 10000 64 (.agg #[.int .i64 x.s, .int .i64 x.n, .int .i64 x.b, .int .i64 x.c, .int .i64 x.a, .int .i64 x.r, .int .i64 x.t, .int .i64 x.y]) (.agg #[.int .i64 y.s, .int .i64 y.n, .int .i64 y.b, .int .i64 y.c, .int .i64 y.a, .int .i64 y.r, .int .i64 y.t, .int .i64 y.y])).run Try.prog w = .ok (itmEq x y) w := by
  cases h0 : x.s == y.s
  · have e : itmEq x y = false := by unfold itmEq; rw [h0]; rfl
    rw [e]
    go_simp
  cases h1 : x.n == y.n
  · have e : itmEq x y = false := by unfold itmEq; rw [h0, h1]; rfl
    rw [e]
    go_simp
  cases h2 : x.b == y.b
  · have e : itmEq x y = false := by unfold itmEq; rw [h0, h1, h2]; rfl
    rw [e]
    go_simp
  cases h3 : x.c == y.c
  · have e : itmEq x y = false := by unfold itmEq; rw [h0, h1, h2, h3]; rfl
    rw [e]
    go_simp
  cases h4 : x.a == y.a
  · have e : itmEq x y = false := by unfold itmEq; rw [h0, h1, h2, h3, h4]; rfl
    rw [e]
    go_simp
  cases h5 : x.r == y.r
  · have e : itmEq x y = false := by unfold itmEq; rw [h0, h1, h2, h3, h4, h5]; rfl
    rw [e]
    go_simp
  cases h6 : x.t == y.t
  · have e : itmEq x y = false := by unfold itmEq; rw [h0, h1, h2, h3, h4, h5, h6]; rfl
    rw [e]
    go_simp
  cases h7 : x.y == y.y
  · have e : itmEq x y = false := by unfold itmEq; rw [h0, h1, h2, h3, h4, h5, h6, h7]; rfl
    rw [e]
    go_simp
  · have e : itmEq x y = true := by unfold itmEq; rw [h0, h1, h2, h3, h4, h5, h6, h7]; rfl
    rw [e]
    go_simp
end Go.Proofs.Ytbpfbebebppleaa
namespace Go.Proofs.Ytbpfbebebppleaa
open Go.RowKit
set_option linter.unusedSimpArgs false
/-- Something that is said, as it lies in cells. -/
def sdX (p : Int × Msg) : SdX := ⟨p.1, msgX0 p.2⟩
/-- What a desk answers: the desk behind it, what is said, the error. -/
def DoPost (w : World) (P : Nat → Prop) (R : Dsk × List (Int × Msg) × Int) (y : Ending) (w' : World) : Prop :=
  Below w.heap.size w w' ∧ ∃ pi2 ci2 po2 co2 vs, y = .returned (.tuple #[.agg #[.int .i64 R.1.me, .slice pi2 R.1.xs.length ci2, .slice po2 R.1.os.length co2, .int .i64 R.1.far], vs, .int .i64 R.2.2]) ∧ DRow w' R.1 pi2 ci2 po2 co2 ∧ At (fun b => P b ∨ w.heap.size ≤ b) (.slice pi2 R.1.xs.length ci2) R.1.xs.length ∧ At (fun b => P b ∨ w.heap.size ≤ b) (.slice po2 R.1.os.length co2) R.1.os.length ∧ (OwnT encS w' w.heap.size 58 vs (R.2.1.map sdX) ∧ Apt vs (.slice pi2 R.1.xs.length ci2) R.1.xs.length ∧ Apt vs (.slice po2 R.1.os.length co2) R.1.os.length)
theorem actPost_do {w : World} {P : Nat → Prop} {d : Dsk} {pi po : Option Addr} {ci co : Nat} {r : Itm × Int} {ks : List Int} {y : Ending} {w' : World} (h : DRow w d pi ci po co) (hi : At P (.slice pi d.xs.length ci) d.xs.length) (ho : At P (.slice po d.os.length co) d.os.length) (hw0 : ∀ b, P b → b < w.heap.size) (ha : ActPost w P d pi po ci co r ks y w') : DoPost w P (d.beh r ks) y w' := by
  obtain ⟨hb, ⟨h0, rfl⟩ | ⟨h0, pi', ci', vs, rfl, hr, hat, _, hown⟩⟩ := ha
  · unfold Dsk.beh
    rw [if_neg h0]
    exact ⟨hb, pi, ci, po, co, _, rfl, h.kept hb, hi.imp (fun _ h => .inl h), ho.imp (fun _ h => .inl h), OwnT.nil_ _ _ _ _, Apt.nil _ _, Apt.nil _ _⟩
  · unfold Dsk.beh
    rw [if_pos h0]
    refine ⟨hb, pi', ci', po, co, vs, rfl, hr, hat, ho.imp (fun _ h => .inl h), ?_⟩
    have e : (ks.map (fun k => (toI d.me r.1, aboutM k r.1))).map sdX = ks.map (fun k => ⟨toI d.me r.1, msgX0 (aboutM k r.1)⟩) := by rw [List.map_map]; rfl
    refine ⟨?_, hown.2, fun b o n c e1 hn h1 => ?_⟩
    · show OwnT encS w' w.heap.size _ vs ((ks.map (fun k => (toI d.me r.1, aboutM k r.1))).map sdX)
      rw [e]
      exact hown.1
    · have h2 := hw0 b (ho b o n c e1 hn)
      have h3 := hown.1.block_ge b h1
      omega
set_option linter.unusedSimpArgs false in
set_option maxHeartbeats 4000000 in
set_option maxRecDepth 100000 in
theorem dorder_any (w : World) (d : Dsk) (pi po : Option Addr) (ci co : Nat) (m : Msg) (vl vn : Value) (fro : Int) (h : DRow w d pi ci po co) (hn : d.xs.length < 1024) (P : Nat → Prop) (hw0 : ∀ b, P b → b < w.heap.size) (hno : d.os.length < 1024) (hat : At P (.slice pi d.xs.length ci) d.xs.length) (hato : At P (.slice po d.os.length co) d.os.length) :
    Calls Try.prog 31 #[(deskV d.me pi d.xs.length ci po d.os.length co d.far), m.v vl vn, .int .i64 fro] w fun y w' => DoPost w P (d.exp m, [], (expO d.me d.os m.s m.n m.a).2) y w' := by
  have HT := Lib.hid (three_new w #[.int .i64 d.me, .slice pi d.xs.length ci, .slice po d.os.length co, .int .i64 d.far] #[.int .i64 m.k, .int .i64 m.s, .int .i64 m.n, .int .i64 m.b, .int .i64 m.c, .int .i64 m.r, .int .i64 m.y, .int .i64 m.a, .bool m.t, vl, vn] #[.int .i64 0, .slice none 0 0, .slice none 0 0, .int .i64 0] 29 40 29)
  have HH := Lib.hid h
  have HNN := Lib.hid hn
  have HW0 := Lib.hid hw0
  have HA0 := Lib.hid hat
  have HO0 := Lib.hid hato
  have HG := Lib.hid (expect_any (((w.alloc (.cells #[.int .i64 d.me, .slice pi d.xs.length ci, .slice po d.os.length co, .int .i64 d.far] 29)).alloc (.cells #[.int .i64 m.k, .int .i64 m.s, .int .i64 m.n, .int .i64 m.b, .int .i64 m.c, .int .i64 m.r, .int .i64 m.y, .int .i64 m.a, .bool m.t, vl, vn] 40)).alloc (.cells #[.int .i64 0, .slice none 0 0, .slice none 0 0, .int .i64 0] 29)) d.me pi po d.xs.length ci co m.s m.n m.a d.os P (h.orders.kept HT.out.low) h.so hno hato)
  have hso : SortO (expO d.me d.os m.s m.n m.a).1 := by
    unfold expO
    split
    · exact insO_sorted h.so
    · exact h.so
  have hlo : (expO d.me d.os m.s m.n m.a).1.length ≤ 1024 := by
    unfold expO
    split
    · have := insO_len (x := ⟨m.s, m.n, m.a⟩) h.so
      show (insO d.os ⟨m.s, m.n, m.a⟩).length ≤ 1024
      omega
    · show d.os.length ≤ 1024
      omega
  have HNO := Lib.hid hno
  clear h hn hno hw0 hat hato
  unfold Dsk.exp
  generalize expO d.me d.os m.s m.n m.a = R at *
  have HSO := Lib.hid hso
  have HLO := Lib.hid hlo
  clear hso hlo
  unfold bookV idV at HG
  unfold deskV Msg.v
  go_enter Try.func31, Try.ntmps31
  go_upto_region 1 with fail
  generalize (((w.alloc (.cells #[.int .i64 d.me, .slice pi d.xs.length ci, .slice po d.os.length co, .int .i64 d.far] 29)).alloc (.cells #[.int .i64 m.k, .int .i64 m.s, .int .i64 m.n, .int .i64 m.b, .int .i64 m.c, .int .i64 m.r, .int .i64 m.y, .int .i64 m.a, .bool m.t, vl, vn] 40)).alloc (.cells #[.int .i64 0, .slice none 0 0, .slice none 0 0, .int .i64 0] 29)) = W at *
  have a0 : W.cell? ⟨w.heap.size, 0, none⟩ = some (.int .i64 d.me) := HT.out.b0.cell 0
  have a1 : W.cell? ⟨w.heap.size, 1, none⟩ = some (.slice pi d.xs.length ci) := HT.out.b0.cell 1
  have a2 : W.cell? ⟨w.heap.size, 2, none⟩ = some (.slice po d.os.length co) := HT.out.b0.cell 2
  have c1 : W.cell? ⟨w.heap.size + 1, 1, none⟩ = some (.int .i64 m.s) := HT.out.b1.cell 1
  have c2 : W.cell? ⟨w.heap.size + 1, 2, none⟩ = some (.int .i64 m.n) := HT.out.b1.cell 2
  have c7 : W.cell? ⟨w.heap.size + 1, 7, none⟩ = some (.int .i64 m.a) := HT.out.b1.cell 7
  go_wp2_with fail
  clear a0 a1 a2 c1 c2 c7
  refine HG.out.mono ?_
  rintro y w1 ⟨po2, co2, rfl, hrow, hat2, hb⟩
  have HLT : Hid (w.heap.size + 1 + 1 < W.heap.size) := HT.out.b2.lt
  have HRW := Lib.hid (hrow.kept (oneB w1 (.cells #[.int .i64 d.me, .slice pi d.xs.length ci, .slice po2 R.1.length co2] 27)))
  have HAT := Lib.hid hat2
  have HB6 := Lib.hid ((HT.out.low.trans (hb.mono HT.out.low.size)).alloc (HT.out.low.trans (hb.mono HT.out.low.size)).size (.cells #[.int .i64 d.me, .slice pi d.xs.length ci, .slice po2 R.1.length co2] 27))
  have HD6 : Hid (Blk (w1.alloc (.cells #[.int .i64 d.me, .slice pi d.xs.length ci, .slice po2 R.1.length co2] 27)) w.heap.size #[.int .i64 d.me, .slice pi d.xs.length ci, .slice po d.os.length co, .int .i64 d.far] 29) := (HT.out.b0.below hb HT.out.b0.lt).alloc _
  have HR6 : Hid (Blk (w1.alloc (.cells #[.int .i64 d.me, .slice pi d.xs.length ci, .slice po2 R.1.length co2] 27)) (w.heap.size + 1 + 1) #[.int .i64 0, .slice none 0 0, .slice none 0 0, .int .i64 0] 29) := (HT.out.b2.below hb HT.out.b2.lt).alloc _
  have HQ6 := Lib.hid (Blk.new w1 #[.int .i64 d.me, .slice pi d.xs.length ci, .slice po2 R.1.length co2] 27)
  clear hb HG HT hrow hat2
  go_upto_region 2 with fail
  generalize w1.alloc (.cells #[.int .i64 d.me, .slice pi d.xs.length ci, .slice po2 R.1.length co2] 27) = w6 at *
  generalize w1.heap.size = gx at *
  have x0 : w6.cell? ⟨gx, 0, none⟩ = some (.int .i64 d.me) := HQ6.out.cell 0
  have x1 : w6.cell? ⟨gx, 1, none⟩ = some (.slice pi d.xs.length ci) := HQ6.out.cell 1
  have x2 : w6.cell? ⟨gx, 2, none⟩ = some (.slice po2 R.1.length co2) := HQ6.out.cell 2
  have a0 : w6.cell? ⟨w.heap.size, 0, none⟩ = some (.int .i64 d.me) := HD6.out.cell 0
  have a1 : w6.cell? ⟨w.heap.size, 1, none⟩ = some (.slice pi d.xs.length ci) := HD6.out.cell 1
  have a2 : w6.cell? ⟨w.heap.size, 2, none⟩ = some (.slice po d.os.length co) := HD6.out.cell 2
  have a3 : w6.cell? ⟨w.heap.size, 3, none⟩ = some (.int .i64 d.far) := HD6.out.cell 3
  have f0 := HD6.out.free 0
  have f1 := HD6.out.free 1
  have f2 := HD6.out.free 2
  go_upto_region 3 with fail
  clear a0 a1 a2 a3 x0 x1 x2
  clear f0 f1 f2
  have HD7 : Hid (Blk (((w6.setCell ⟨w.heap.size, 0, none⟩ (.int .i64 d.me)).setCell ⟨w.heap.size, 1, none⟩ (.slice pi d.xs.length ci)).setCell ⟨w.heap.size, 2, none⟩ (.slice po2 R.1.length co2)) w.heap.size #[.int .i64 d.me, .slice pi d.xs.length ci, .slice po2 R.1.length co2, .int .i64 d.far] 29) := ((HD6.out.set 0 (.int .i64 d.me)).set 1 (.slice pi d.xs.length ci)).set 2 (.slice po2 R.1.length co2)
  have HR7 : Hid (Blk (((w6.setCell ⟨w.heap.size, 0, none⟩ (.int .i64 d.me)).setCell ⟨w.heap.size, 1, none⟩ (.slice pi d.xs.length ci)).setCell ⟨w.heap.size, 2, none⟩ (.slice po2 R.1.length co2)) (w.heap.size + 1 + 1) #[.int .i64 0, .slice none 0 0, .slice none 0 0, .int .i64 0] 29) := ((HR6.out.setOther (a := ⟨w.heap.size, 0, none⟩) (by show w.heap.size ≠ w.heap.size + 1 + 1; omega) _).setOther (a := ⟨w.heap.size, 1, none⟩) (by show w.heap.size ≠ w.heap.size + 1 + 1; omega) _).setOther (a := ⟨w.heap.size, 2, none⟩) (by show w.heap.size ≠ w.heap.size + 1 + 1; omega) _
  have HB7 : Hid (Below w.heap.size w (((w6.setCell ⟨w.heap.size, 0, none⟩ (.int .i64 d.me)).setCell ⟨w.heap.size, 1, none⟩ (.slice pi d.xs.length ci)).setCell ⟨w.heap.size, 2, none⟩ (.slice po2 R.1.length co2))) := ((HB6.out.setCell (p := ⟨w.heap.size, 0, none⟩) (Nat.le_refl _) _).setCell (p := ⟨w.heap.size, 1, none⟩) (Nat.le_refl _) _).setCell (p := ⟨w.heap.size, 2, none⟩) (Nat.le_refl _) _
  have HC7 : Hid (Chg w.heap.size w6 (((w6.setCell ⟨w.heap.size, 0, none⟩ (.int .i64 d.me)).setCell ⟨w.heap.size, 1, none⟩ (.slice pi d.xs.length ci)).setCell ⟨w.heap.size, 2, none⟩ (.slice po2 R.1.length co2))) := (((Chg.refl _ w6).set 0 _).set 1 _).set 2 _
  generalize ((w6.setCell ⟨w.heap.size, 0, none⟩ (.int .i64 d.me)).setCell ⟨w.heap.size, 1, none⟩ (.slice pi d.xs.length ci)).setCell ⟨w.heap.size, 2, none⟩ (.slice po2 R.1.length co2) = w7 at *
  clear HD6 HR6 HB6 HQ6
  have a0 : w7.cell? ⟨w.heap.size, 0, none⟩ = some (.int .i64 d.me) := HD7.out.cell 0
  have a1 : w7.cell? ⟨w.heap.size, 1, none⟩ = some (.slice pi d.xs.length ci) := HD7.out.cell 1
  have a2 : w7.cell? ⟨w.heap.size, 2, none⟩ = some (.slice po2 R.1.length co2) := HD7.out.cell 2
  have a3 : w7.cell? ⟨w.heap.size, 3, none⟩ = some (.int .i64 d.far) := HD7.out.cell 3
  go_wp2_with (with_reducible refine stop_storeT 29 (.tmp 6) (.tmp 23) rfl ?_)
  have HTH : Hid (w7.there (w.heap.size + 1 + 1) 0 4) := HR7.out.thereAt
  have HF : Hid (Blk (w7.setCells (w.heap.size + 1 + 1) 0 (#[.int .i64 d.me, .slice pi d.xs.length ci, .slice po2 R.1.length co2, .int .i64 d.far] : Array Value).toList) (w.heap.size + 1 + 1) #[.int .i64 d.me, .slice pi d.xs.length ci, .slice po2 R.1.length co2, .int .i64 d.far] 29 ∧ Below w.heap.size w (w7.setCells (w.heap.size + 1 + 1) 0 (#[.int .i64 d.me, .slice pi d.xs.length ci, .slice po2 R.1.length co2, .int .i64 d.far] : Array Value).toList) ∧ Chg (w.heap.size + 1 + 1) w7 (w7.setCells (w.heap.size + 1 + 1) 0 (#[.int .i64 d.me, .slice pi d.xs.length ci, .slice po2 R.1.length co2, .int .i64 d.far] : Array Value).toList)) := ⟨blk_put_all HR7.out _ rfl, below_put (by omega) _ _ _ _ HB7.out, chg_putL _ _ _ _ _ (Chg.refl _ w7)⟩
  refine wpList_store_mid rfl 29 (.tmp 6) (.tmp 23) rfl (w.heap.size + 1 + 1) 0 #[.int .i64 d.me, .slice pi d.xs.length ci, .slice po2 R.1.length co2, .int .i64 d.far] rfl rfl HTH.out (infoD4 rfl) (all_oneCell_toArray (by intro u hu; simp at hu; rcases hu with rfl | rfl | rfl | rfl <;> rfl)) ?_
  generalize World.setCells w7 _ _ _ = w8 at *
  clear HTH a0 a1 a2 a3
  go_wp2_with fail
  have hf := HF.out.1
  have hn1 : ¬ (P w.heap.size ∨ W.heap.size ≤ w.heap.size) := by
    have h2 := HLT.out
    rintro (h | h)
    · have h4 := HW0.out _ h; omega
    · omega
  have hn2 : ¬ (P (w.heap.size + 1 + 1) ∨ W.heap.size ≤ w.heap.size + 1 + 1) := by
    have h2 := HLT.out
    rintro (h | h)
    · have h4 := HW0.out _ h; omega
    · omega
  refine bodyPost_ret (v := .tuple #[.agg #[.int .i64 d.me, .slice pi d.xs.length ci, .slice po2 R.1.length co2, .int .i64 d.far], .slice none 0 0, .int .i64 R.2]) (by simp [results, Try.results31, go_sem, hf.cell 0, hf.cell 1, hf.cell 2, hf.cell 3]) rfl ⟨HF.out.2.1, pi, ci, po2, co2, _, rfl, ?_, HA0.out.imp (fun _ h => .inl h), HAT.out.imp (fun b hb => hb.imp id (fun h => by have h2 := HLT.out; omega)), OwnT.nil_ _ _ _ _, Apt.nil _ _, Apt.nil _ _⟩
  exact ⟨HH.out.items.kept HF.out.2.1, (HRW.out.keepP HAT.out (KeepP.of_chg HC7.out hn1)).keepP HAT.out (KeepP.of_chg HF.out.2.2 hn2), HH.out.sx, HSO.out, HH.out.nx, HLO.out⟩
set_option linter.unusedSimpArgs false in
set_option maxHeartbeats 4000000 in
set_option maxRecDepth 100000 in
theorem ddue_any (w : World) (d : Dsk) (pi po : Option Addr) (ci co : Nat) (m : Msg) (vl vn : Value) (fro : Int) (h : DRow w d pi ci po co) (hn : d.xs.length < 1024) (P : Nat → Prop) (hw0 : ∀ b, P b → b < w.heap.size) (hat : At P (.slice pi d.xs.length ci) d.xs.length) (hato : At P (.slice po d.os.length co) d.os.length) (hdo : d.Ok) :
    Calls Try.prog 34 #[(deskV d.me pi d.xs.length ci po d.os.length co d.far), m.v vl vn, .int .i64 fro] w fun y w' => DoPost w P (d.beh (dueI d m) [9]) y w' := by
  have HT := Lib.hid (three_new w #[.int .i64 d.me, .slice pi d.xs.length ci, .slice po d.os.length co, .int .i64 d.far] #[.int .i64 m.k, .int .i64 m.s, .int .i64 m.n, .int .i64 m.b, .int .i64 m.c, .int .i64 m.r, .int .i64 m.y, .int .i64 m.a, .bool m.t, vl, vn] #[.int .i64 0, .slice none 0 0, .slice none 0 0, .int .i64 0] 29 40 29)
  have HH := Lib.hid h
  have HNN := Lib.hid hn
  have HW0 := Lib.hid hw0
  have HA0 := Lib.hid hat
  have HO0 := Lib.hid hato
  have HG := Lib.hid (sold_any (((w.alloc (.cells #[.int .i64 d.me, .slice pi d.xs.length ci, .slice po d.os.length co, .int .i64 d.far] 29)).alloc (.cells #[.int .i64 m.k, .int .i64 m.s, .int .i64 m.n, .int .i64 m.b, .int .i64 m.c, .int .i64 m.r, .int .i64 m.y, .int .i64 m.a, .bool m.t, vl, vn] 40)).alloc (.cells #[.int .i64 0, .slice none 0 0, .slice none 0 0, .int .i64 0] 29)) d pi po ci co m vl vn (h.kept HT.out.low))
  have hmw : d.May (thenA (soldA d m.s m.n) (fun x => turnI x 2 4)) := then_may (sold_may hdo _ _) (fun _ hx => turn_chk (.inr (.inr ⟨rfl, rfl⟩)) hx)
  have HW := Lib.hid (fun (W : World) (hb : Below w.heap.size w W) => (dwithdraw_any W d pi po ci co m vl vn fro (h.kept hb) hn P (fun b hp => Nat.lt_of_lt_of_le (hw0 b hp) hb.size) hat hmw).mono (fun _ _ ha => actPost_do (h.kept hb) hat hato (fun b hp => Nat.lt_of_lt_of_le (hw0 b hp) hb.size) ha))
  clear h hn hw0 hat hato hmw hdo
  unfold dueI
  generalize thenA (soldA d m.s m.n) (fun x => turnI x 2 4) = p1 at *
  generalize soldA d m.s m.n = p0 at *
  obtain ⟨q, e⟩ := p0
  unfold deskV Msg.v at HW
  unfold ansI Itm.v deskV Msg.v at HG
  obtain ⟨R, hR⟩ : ∃ R, d.beh (if (q, e).2 = 0 ∧ (q, e).1.r ≠ m.r then (itm0, 90) else p1) [9] = R := ⟨_, rfl⟩
  rw [hR]
  by_cases he0 : e = 0
  · subst he0
    by_cases h1 : q.r = m.r
    · have h1' : (q.r != m.r) = false := by simpa using h1
      rw [if_neg (by rintro ⟨_, h⟩; exact h h1)] at hR
      rw [hR] at HW
      clear h1 hR
      unfold deskV Msg.v
      go_enter Try.func34, Try.ntmps34
      go_upto_region 1 with fail
      generalize (((w.alloc (.cells #[.int .i64 d.me, .slice pi d.xs.length ci, .slice po d.os.length co, .int .i64 d.far] 29)).alloc (.cells #[.int .i64 m.k, .int .i64 m.s, .int .i64 m.n, .int .i64 m.b, .int .i64 m.c, .int .i64 m.r, .int .i64 m.y, .int .i64 m.a, .bool m.t, vl, vn] 40)).alloc (.cells #[.int .i64 0, .slice none 0 0, .slice none 0 0, .int .i64 0] 29)) = W at *
      have a0 : W.cell? ⟨w.heap.size, 0, none⟩ = some (.int .i64 d.me) := HT.out.b0.cell 0
      have a1 : W.cell? ⟨w.heap.size, 1, none⟩ = some (.slice pi d.xs.length ci) := HT.out.b0.cell 1
      have a2 : W.cell? ⟨w.heap.size, 2, none⟩ = some (.slice po d.os.length co) := HT.out.b0.cell 2
      have a3 : W.cell? ⟨w.heap.size, 3, none⟩ = some (.int .i64 d.far) := HT.out.b0.cell 3
      have c0 : W.cell? ⟨w.heap.size + 1, 0, none⟩ = some (.int .i64 m.k) := HT.out.b1.cell 0
      have c1 : W.cell? ⟨w.heap.size + 1, 1, none⟩ = some (.int .i64 m.s) := HT.out.b1.cell 1
      have c2 : W.cell? ⟨w.heap.size + 1, 2, none⟩ = some (.int .i64 m.n) := HT.out.b1.cell 2
      have c3 : W.cell? ⟨w.heap.size + 1, 3, none⟩ = some (.int .i64 m.b) := HT.out.b1.cell 3
      have c4 : W.cell? ⟨w.heap.size + 1, 4, none⟩ = some (.int .i64 m.c) := HT.out.b1.cell 4
      have c5 : W.cell? ⟨w.heap.size + 1, 5, none⟩ = some (.int .i64 m.r) := HT.out.b1.cell 5
      have c6 : W.cell? ⟨w.heap.size + 1, 6, none⟩ = some (.int .i64 m.y) := HT.out.b1.cell 6
      have c7 : W.cell? ⟨w.heap.size + 1, 7, none⟩ = some (.int .i64 m.a) := HT.out.b1.cell 7
      have c8 : W.cell? ⟨w.heap.size + 1, 8, none⟩ = some (.bool m.t) := HT.out.b1.cell 8
      have c9 : W.cell? ⟨w.heap.size + 1, 9, none⟩ = some (vl) := HT.out.b1.cell 9
      have c10 : W.cell? ⟨w.heap.size + 1, 10, none⟩ = some (vn) := HT.out.b1.cell 10
      go_wp2_with fail
      clear a0 a1 a2 a3 c0 c1 c2 c3 c4 c5 c6 c7 c8 c9 c10
      refine HG.out.mono ?_
      rintro y w1 ⟨rfl, hb⟩
      have HB7 := Lib.hid ((HT.out.low.trans (hb.mono HT.out.low.size)).alloc (HT.out.low.trans (hb.mono HT.out.low.size)).size (.cells #[.int .i64 q.s, .int .i64 q.n, .int .i64 q.b, .int .i64 q.c, .int .i64 q.a, .int .i64 q.r, .int .i64 q.t, .int .i64 q.y] 64))
      have HD7 : Hid (Blk (w1.alloc (.cells #[.int .i64 q.s, .int .i64 q.n, .int .i64 q.b, .int .i64 q.c, .int .i64 q.a, .int .i64 q.r, .int .i64 q.t, .int .i64 q.y] 64)) w.heap.size #[.int .i64 d.me, .slice pi d.xs.length ci, .slice po d.os.length co, .int .i64 d.far] 29) := (HT.out.b0.below hb HT.out.b0.lt).alloc _
      have HM7 : Hid (Blk (w1.alloc (.cells #[.int .i64 q.s, .int .i64 q.n, .int .i64 q.b, .int .i64 q.c, .int .i64 q.a, .int .i64 q.r, .int .i64 q.t, .int .i64 q.y] 64)) (w.heap.size + 1) #[.int .i64 m.k, .int .i64 m.s, .int .i64 m.n, .int .i64 m.b, .int .i64 m.c, .int .i64 m.r, .int .i64 m.y, .int .i64 m.a, .bool m.t, vl, vn] 40) := (HT.out.b1.below hb HT.out.b1.lt).alloc _
      have HR7 : Hid (Blk (w1.alloc (.cells #[.int .i64 q.s, .int .i64 q.n, .int .i64 q.b, .int .i64 q.c, .int .i64 q.a, .int .i64 q.r, .int .i64 q.t, .int .i64 q.y] 64)) (w.heap.size + 1 + 1) #[.int .i64 0, .slice none 0 0, .slice none 0 0, .int .i64 0] 29) := (HT.out.b2.below hb HT.out.b2.lt).alloc _
      have HQ6 := Lib.hid (Blk.new w1 #[.int .i64 q.s, .int .i64 q.n, .int .i64 q.b, .int .i64 q.c, .int .i64 q.a, .int .i64 q.r, .int .i64 q.t, .int .i64 q.y] 64)
      have HGX7 : Hid (w.heap.size + 1 + 1 < w1.heap.size) := by show _ < _; have h1 := HT.out.b2.lt; have h2 := hb.size; omega
      clear hb HG HT
      go_upto_region 2 with fail
      generalize w1.alloc (.cells #[.int .i64 q.s, .int .i64 q.n, .int .i64 q.b, .int .i64 q.c, .int .i64 q.a, .int .i64 q.r, .int .i64 q.t, .int .i64 q.y] 64) = w6 at *
      generalize w1.heap.size = gx at *
      have HB6 := HB7
      have HD6 := HD7
      have HM6 := HM7
      have HR6 := HR7
      have HGX := HGX7
      clear HB7 HD7 HM7 HR7 HGX7
      have x5 : w6.cell? ⟨gx, 5, none⟩ = some (.int .i64 q.r) := HQ6.out.cell 5
      have c5 : w6.cell? ⟨w.heap.size + 1, 5, none⟩ = some (.int .i64 m.r) := HM6.out.cell 5
      go_upto_region 4 with fail
      clear x5 c5 h1'
      have HG := Lib.hid (HW.out w6 HB6.out)
      clear HW
      have a0 : w6.cell? ⟨w.heap.size, 0, none⟩ = some (.int .i64 d.me) := HD6.out.cell 0
      have a1 : w6.cell? ⟨w.heap.size, 1, none⟩ = some (.slice pi d.xs.length ci) := HD6.out.cell 1
      have a2 : w6.cell? ⟨w.heap.size, 2, none⟩ = some (.slice po d.os.length co) := HD6.out.cell 2
      have a3 : w6.cell? ⟨w.heap.size, 3, none⟩ = some (.int .i64 d.far) := HD6.out.cell 3
      have c0 : w6.cell? ⟨w.heap.size + 1, 0, none⟩ = some (.int .i64 m.k) := HM6.out.cell 0
      have c1 : w6.cell? ⟨w.heap.size + 1, 1, none⟩ = some (.int .i64 m.s) := HM6.out.cell 1
      have c2 : w6.cell? ⟨w.heap.size + 1, 2, none⟩ = some (.int .i64 m.n) := HM6.out.cell 2
      have c3 : w6.cell? ⟨w.heap.size + 1, 3, none⟩ = some (.int .i64 m.b) := HM6.out.cell 3
      have c4 : w6.cell? ⟨w.heap.size + 1, 4, none⟩ = some (.int .i64 m.c) := HM6.out.cell 4
      have c5 : w6.cell? ⟨w.heap.size + 1, 5, none⟩ = some (.int .i64 m.r) := HM6.out.cell 5
      have c6 : w6.cell? ⟨w.heap.size + 1, 6, none⟩ = some (.int .i64 m.y) := HM6.out.cell 6
      have c7 : w6.cell? ⟨w.heap.size + 1, 7, none⟩ = some (.int .i64 m.a) := HM6.out.cell 7
      have c8 : w6.cell? ⟨w.heap.size + 1, 8, none⟩ = some (.bool m.t) := HM6.out.cell 8
      have c9 : w6.cell? ⟨w.heap.size + 1, 9, none⟩ = some (vl) := HM6.out.cell 9
      have c10 : w6.cell? ⟨w.heap.size + 1, 10, none⟩ = some (vn) := HM6.out.cell 10
      go_wp2_with fail
      clear a0 a1 a2 a3 c0 c1 c2 c3 c4 c5 c6 c7 c8 c9 c10
      refine HG.out.mono ?_
      rintro y w2 ⟨hb2, pi2, ci2, po2, co2, vs, rfl, hdr, hati, hato, hown⟩
      have HR2 := Lib.hid (HR6.out.below hb2 HR6.out.lt)
      have HB2 := Lib.hid (HB6.out.trans (hb2.mono HB6.out.size))
      have HZ7 : Hid (w.heap.size + 1 + 1 < w6.heap.size ∧ w.heap.size ≤ w6.heap.size) := ⟨HR6.out.lt, HB6.out.size⟩
      clear hb2 HG
      go_wp2_with (with_reducible refine stop_storeT 29 (.tmp 6) (.tmp 31) rfl ?_)
      have HTH : Hid (w2.there (w.heap.size + 1 + 1) 0 4) := HR2.out.thereAt
      have HF : Hid (Blk (w2.setCells (w.heap.size + 1 + 1) 0 (#[.int .i64 R.1.me, .slice pi2 R.1.xs.length ci2, .slice po2 R.1.os.length co2, .int .i64 R.1.far] : Array Value).toList) (w.heap.size + 1 + 1) #[.int .i64 R.1.me, .slice pi2 R.1.xs.length ci2, .slice po2 R.1.os.length co2, .int .i64 R.1.far] 29 ∧ Below w.heap.size w (w2.setCells (w.heap.size + 1 + 1) 0 (#[.int .i64 R.1.me, .slice pi2 R.1.xs.length ci2, .slice po2 R.1.os.length co2, .int .i64 R.1.far] : Array Value).toList) ∧ Chg (w.heap.size + 1 + 1) w2 (w2.setCells (w.heap.size + 1 + 1) 0 (#[.int .i64 R.1.me, .slice pi2 R.1.xs.length ci2, .slice po2 R.1.os.length co2, .int .i64 R.1.far] : Array Value).toList)) := ⟨blk_put_all HR2.out _ rfl, below_put (by omega) _ _ _ _ HB2.out, chg_putL _ _ _ _ _ (Chg.refl _ w2)⟩
      refine wpList_store_mid rfl 29 (.tmp 6) (.tmp 31) rfl (w.heap.size + 1 + 1) 0 #[.int .i64 R.1.me, .slice pi2 R.1.xs.length ci2, .slice po2 R.1.os.length co2, .int .i64 R.1.far] rfl rfl HTH.out (infoD4 rfl) (all_oneCell_toArray (by intro u hu; simp at hu; rcases hu with rfl | rfl | rfl | rfl <;> rfl)) ?_
      generalize World.setCells w2 _ _ _ = w8 at *
      clear HTH
      go_wp2_with fail
      have hf := HF.out.1
      have hng : ¬ (P (w.heap.size + 1 + 1) ∨ w6.heap.size ≤ w.heap.size + 1 + 1) := by
        have h2 := HZ7.out
        rintro (h | h)
        · have h4 := HW0.out _ h; omega
        · omega
      have hge : ∀ b, P b ∨ w6.heap.size ≤ b → P b ∨ w.heap.size ≤ b := fun b hb => hb.imp id (fun h => by have h2 := HZ7.out; omega)
      refine bodyPost_ret (v := .tuple #[.agg #[.int .i64 R.1.me, .slice pi2 R.1.xs.length ci2, .slice po2 R.1.os.length co2, .int .i64 R.1.far], vs, .int .i64 R.2.2]) (by simp [results, Try.results34, go_sem, hf.cell 0, hf.cell 1, hf.cell 2, hf.cell 3]) rfl ⟨HF.out.2.1, pi2, ci2, po2, co2, vs, rfl, ?_, hati.imp hge, hato.imp hge, ?_⟩
      · exact ⟨hdr.items.keepP hati (KeepP.of_chg HF.out.2.2 hng), hdr.orders.keepP hato (KeepP.of_chg HF.out.2.2 hng), hdr.sx, hdr.so, hdr.nx, hdr.no⟩
      · exact ⟨(hown.1.stay (fun b hb => HF.out.2.2.2 b (hown.1.lt b hb) (by have h1 := hown.1.block_ge b hb; have h2 := HZ7.out; omega))).less (by have h2 := HZ7.out; omega), hown.2⟩
    · have h1' : (q.r != m.r) = true := by simpa using h1
      rw [if_pos ⟨rfl, h1⟩] at hR
      unfold Dsk.beh at hR
      rw [if_neg (by decide)] at hR
      subst hR
      clear h1 HW
      unfold deskV Msg.v
      go_enter Try.func34, Try.ntmps34
      go_upto_region 1 with fail
      generalize (((w.alloc (.cells #[.int .i64 d.me, .slice pi d.xs.length ci, .slice po d.os.length co, .int .i64 d.far] 29)).alloc (.cells #[.int .i64 m.k, .int .i64 m.s, .int .i64 m.n, .int .i64 m.b, .int .i64 m.c, .int .i64 m.r, .int .i64 m.y, .int .i64 m.a, .bool m.t, vl, vn] 40)).alloc (.cells #[.int .i64 0, .slice none 0 0, .slice none 0 0, .int .i64 0] 29)) = W at *
      have a0 : W.cell? ⟨w.heap.size, 0, none⟩ = some (.int .i64 d.me) := HT.out.b0.cell 0
      have a1 : W.cell? ⟨w.heap.size, 1, none⟩ = some (.slice pi d.xs.length ci) := HT.out.b0.cell 1
      have a2 : W.cell? ⟨w.heap.size, 2, none⟩ = some (.slice po d.os.length co) := HT.out.b0.cell 2
      have a3 : W.cell? ⟨w.heap.size, 3, none⟩ = some (.int .i64 d.far) := HT.out.b0.cell 3
      have c0 : W.cell? ⟨w.heap.size + 1, 0, none⟩ = some (.int .i64 m.k) := HT.out.b1.cell 0
      have c1 : W.cell? ⟨w.heap.size + 1, 1, none⟩ = some (.int .i64 m.s) := HT.out.b1.cell 1
      have c2 : W.cell? ⟨w.heap.size + 1, 2, none⟩ = some (.int .i64 m.n) := HT.out.b1.cell 2
      have c3 : W.cell? ⟨w.heap.size + 1, 3, none⟩ = some (.int .i64 m.b) := HT.out.b1.cell 3
      have c4 : W.cell? ⟨w.heap.size + 1, 4, none⟩ = some (.int .i64 m.c) := HT.out.b1.cell 4
      have c5 : W.cell? ⟨w.heap.size + 1, 5, none⟩ = some (.int .i64 m.r) := HT.out.b1.cell 5
      have c6 : W.cell? ⟨w.heap.size + 1, 6, none⟩ = some (.int .i64 m.y) := HT.out.b1.cell 6
      have c7 : W.cell? ⟨w.heap.size + 1, 7, none⟩ = some (.int .i64 m.a) := HT.out.b1.cell 7
      have c8 : W.cell? ⟨w.heap.size + 1, 8, none⟩ = some (.bool m.t) := HT.out.b1.cell 8
      have c9 : W.cell? ⟨w.heap.size + 1, 9, none⟩ = some (vl) := HT.out.b1.cell 9
      have c10 : W.cell? ⟨w.heap.size + 1, 10, none⟩ = some (vn) := HT.out.b1.cell 10
      go_wp2_with fail
      clear a0 a1 a2 a3 c0 c1 c2 c3 c4 c5 c6 c7 c8 c9 c10
      refine HG.out.mono ?_
      rintro y w1 ⟨rfl, hb⟩
      have HB7 := Lib.hid ((HT.out.low.trans (hb.mono HT.out.low.size)).alloc (HT.out.low.trans (hb.mono HT.out.low.size)).size (.cells #[.int .i64 q.s, .int .i64 q.n, .int .i64 q.b, .int .i64 q.c, .int .i64 q.a, .int .i64 q.r, .int .i64 q.t, .int .i64 q.y] 64))
      have HD7 : Hid (Blk (w1.alloc (.cells #[.int .i64 q.s, .int .i64 q.n, .int .i64 q.b, .int .i64 q.c, .int .i64 q.a, .int .i64 q.r, .int .i64 q.t, .int .i64 q.y] 64)) w.heap.size #[.int .i64 d.me, .slice pi d.xs.length ci, .slice po d.os.length co, .int .i64 d.far] 29) := (HT.out.b0.below hb HT.out.b0.lt).alloc _
      have HM7 : Hid (Blk (w1.alloc (.cells #[.int .i64 q.s, .int .i64 q.n, .int .i64 q.b, .int .i64 q.c, .int .i64 q.a, .int .i64 q.r, .int .i64 q.t, .int .i64 q.y] 64)) (w.heap.size + 1) #[.int .i64 m.k, .int .i64 m.s, .int .i64 m.n, .int .i64 m.b, .int .i64 m.c, .int .i64 m.r, .int .i64 m.y, .int .i64 m.a, .bool m.t, vl, vn] 40) := (HT.out.b1.below hb HT.out.b1.lt).alloc _
      have HR7 : Hid (Blk (w1.alloc (.cells #[.int .i64 q.s, .int .i64 q.n, .int .i64 q.b, .int .i64 q.c, .int .i64 q.a, .int .i64 q.r, .int .i64 q.t, .int .i64 q.y] 64)) (w.heap.size + 1 + 1) #[.int .i64 0, .slice none 0 0, .slice none 0 0, .int .i64 0] 29) := (HT.out.b2.below hb HT.out.b2.lt).alloc _
      have HQ6 := Lib.hid (Blk.new w1 #[.int .i64 q.s, .int .i64 q.n, .int .i64 q.b, .int .i64 q.c, .int .i64 q.a, .int .i64 q.r, .int .i64 q.t, .int .i64 q.y] 64)
      have HGX7 : Hid (w.heap.size + 1 + 1 < w1.heap.size) := by show _ < _; have h1 := HT.out.b2.lt; have h2 := hb.size; omega
      clear hb HG HT
      go_upto_region 2 with fail
      generalize w1.alloc (.cells #[.int .i64 q.s, .int .i64 q.n, .int .i64 q.b, .int .i64 q.c, .int .i64 q.a, .int .i64 q.r, .int .i64 q.t, .int .i64 q.y] 64) = w6 at *
      generalize w1.heap.size = gx at *
      have HB6 := HB7
      have HD6 := HD7
      have HM6 := HM7
      have HR6 := HR7
      have HGX := HGX7
      clear HB7 HD7 HM7 HR7 HGX7
      have x5 : w6.cell? ⟨gx, 5, none⟩ = some (.int .i64 q.r) := HQ6.out.cell 5
      have c5 : w6.cell? ⟨w.heap.size + 1, 5, none⟩ = some (.int .i64 m.r) := HM6.out.cell 5
      go_upto_region 3 with fail
      clear x5 c5 h1'
      have a0 : w6.cell? ⟨w.heap.size, 0, none⟩ = some (.int .i64 d.me) := HD6.out.cell 0
      have a1 : w6.cell? ⟨w.heap.size, 1, none⟩ = some (.slice pi d.xs.length ci) := HD6.out.cell 1
      have a2 : w6.cell? ⟨w.heap.size, 2, none⟩ = some (.slice po d.os.length co) := HD6.out.cell 2
      have a3 : w6.cell? ⟨w.heap.size, 3, none⟩ = some (.int .i64 d.far) := HD6.out.cell 3
      have HR8 := Lib.hid HR6.out
      have HB8 := Lib.hid HB6.out
      go_wp2_with (with_reducible refine stop_storeT 29 (.tmp 6) (.tmp 26) rfl ?_)
      clear a0 a1 a2 a3
      have HTH : Hid (w6.there (w.heap.size + 1 + 1) 0 4) := HR8.out.thereAt
      have HF : Hid (Blk (w6.setCells (w.heap.size + 1 + 1) 0 (#[.int .i64 d.me, .slice pi d.xs.length ci, .slice po d.os.length co, .int .i64 d.far] : Array Value).toList) (w.heap.size + 1 + 1) #[.int .i64 d.me, .slice pi d.xs.length ci, .slice po d.os.length co, .int .i64 d.far] 29 ∧ Below w.heap.size w (w6.setCells (w.heap.size + 1 + 1) 0 (#[.int .i64 d.me, .slice pi d.xs.length ci, .slice po d.os.length co, .int .i64 d.far] : Array Value).toList)) := ⟨blk_put_all HR8.out _ rfl, below_put (by omega) _ _ _ _ HB8.out⟩
      refine wpList_store_mid rfl 29 (.tmp 6) (.tmp 26) rfl (w.heap.size + 1 + 1) 0 #[.int .i64 d.me, .slice pi d.xs.length ci, .slice po d.os.length co, .int .i64 d.far] rfl rfl HTH.out (infoD4 rfl) (all_oneCell_toArray (by intro u hu; simp at hu; rcases hu with rfl | rfl | rfl | rfl <;> rfl)) ?_
      generalize World.setCells w6 _ _ _ = w8 at *
      clear HTH
      go_wp2_with fail
      have hf := HF.out.1
      refine bodyPost_ret (v := .tuple #[.agg #[.int .i64 d.me, .slice pi d.xs.length ci, .slice po d.os.length co, .int .i64 d.far], .slice none 0 0, .int .i64 90]) (by simp [results, Try.results34, go_sem, hf.cell 0, hf.cell 1, hf.cell 2, hf.cell 3]) rfl ⟨HF.out.2, pi, ci, po, co, _, rfl, HH.out.kept HF.out.2, HA0.out.imp (fun _ h => .inl h), HO0.out.imp (fun _ h => .inl h), OwnT.nil_ _ _ _ _, Apt.nil _ _, Apt.nil _ _⟩
  · have heb : (e == 0) = false := by simpa using he0
    rw [if_neg (by rintro ⟨h, _⟩; exact he0 h)] at hR
    rw [hR] at HW
    clear he0 hR
    unfold deskV Msg.v
    go_enter Try.func34, Try.ntmps34
    go_upto_region 1 with fail
    generalize (((w.alloc (.cells #[.int .i64 d.me, .slice pi d.xs.length ci, .slice po d.os.length co, .int .i64 d.far] 29)).alloc (.cells #[.int .i64 m.k, .int .i64 m.s, .int .i64 m.n, .int .i64 m.b, .int .i64 m.c, .int .i64 m.r, .int .i64 m.y, .int .i64 m.a, .bool m.t, vl, vn] 40)).alloc (.cells #[.int .i64 0, .slice none 0 0, .slice none 0 0, .int .i64 0] 29)) = W at *
    have a0 : W.cell? ⟨w.heap.size, 0, none⟩ = some (.int .i64 d.me) := HT.out.b0.cell 0
    have a1 : W.cell? ⟨w.heap.size, 1, none⟩ = some (.slice pi d.xs.length ci) := HT.out.b0.cell 1
    have a2 : W.cell? ⟨w.heap.size, 2, none⟩ = some (.slice po d.os.length co) := HT.out.b0.cell 2
    have a3 : W.cell? ⟨w.heap.size, 3, none⟩ = some (.int .i64 d.far) := HT.out.b0.cell 3
    have c0 : W.cell? ⟨w.heap.size + 1, 0, none⟩ = some (.int .i64 m.k) := HT.out.b1.cell 0
    have c1 : W.cell? ⟨w.heap.size + 1, 1, none⟩ = some (.int .i64 m.s) := HT.out.b1.cell 1
    have c2 : W.cell? ⟨w.heap.size + 1, 2, none⟩ = some (.int .i64 m.n) := HT.out.b1.cell 2
    have c3 : W.cell? ⟨w.heap.size + 1, 3, none⟩ = some (.int .i64 m.b) := HT.out.b1.cell 3
    have c4 : W.cell? ⟨w.heap.size + 1, 4, none⟩ = some (.int .i64 m.c) := HT.out.b1.cell 4
    have c5 : W.cell? ⟨w.heap.size + 1, 5, none⟩ = some (.int .i64 m.r) := HT.out.b1.cell 5
    have c6 : W.cell? ⟨w.heap.size + 1, 6, none⟩ = some (.int .i64 m.y) := HT.out.b1.cell 6
    have c7 : W.cell? ⟨w.heap.size + 1, 7, none⟩ = some (.int .i64 m.a) := HT.out.b1.cell 7
    have c8 : W.cell? ⟨w.heap.size + 1, 8, none⟩ = some (.bool m.t) := HT.out.b1.cell 8
    have c9 : W.cell? ⟨w.heap.size + 1, 9, none⟩ = some (vl) := HT.out.b1.cell 9
    have c10 : W.cell? ⟨w.heap.size + 1, 10, none⟩ = some (vn) := HT.out.b1.cell 10
    go_wp2_with fail
    clear a0 a1 a2 a3 c0 c1 c2 c3 c4 c5 c6 c7 c8 c9 c10
    refine HG.out.mono ?_
    rintro y w1 ⟨rfl, hb⟩
    have HB7 := Lib.hid ((HT.out.low.trans (hb.mono HT.out.low.size)).alloc (HT.out.low.trans (hb.mono HT.out.low.size)).size (.cells #[.int .i64 q.s, .int .i64 q.n, .int .i64 q.b, .int .i64 q.c, .int .i64 q.a, .int .i64 q.r, .int .i64 q.t, .int .i64 q.y] 64))
    have HD7 : Hid (Blk (w1.alloc (.cells #[.int .i64 q.s, .int .i64 q.n, .int .i64 q.b, .int .i64 q.c, .int .i64 q.a, .int .i64 q.r, .int .i64 q.t, .int .i64 q.y] 64)) w.heap.size #[.int .i64 d.me, .slice pi d.xs.length ci, .slice po d.os.length co, .int .i64 d.far] 29) := (HT.out.b0.below hb HT.out.b0.lt).alloc _
    have HM7 : Hid (Blk (w1.alloc (.cells #[.int .i64 q.s, .int .i64 q.n, .int .i64 q.b, .int .i64 q.c, .int .i64 q.a, .int .i64 q.r, .int .i64 q.t, .int .i64 q.y] 64)) (w.heap.size + 1) #[.int .i64 m.k, .int .i64 m.s, .int .i64 m.n, .int .i64 m.b, .int .i64 m.c, .int .i64 m.r, .int .i64 m.y, .int .i64 m.a, .bool m.t, vl, vn] 40) := (HT.out.b1.below hb HT.out.b1.lt).alloc _
    have HR7 : Hid (Blk (w1.alloc (.cells #[.int .i64 q.s, .int .i64 q.n, .int .i64 q.b, .int .i64 q.c, .int .i64 q.a, .int .i64 q.r, .int .i64 q.t, .int .i64 q.y] 64)) (w.heap.size + 1 + 1) #[.int .i64 0, .slice none 0 0, .slice none 0 0, .int .i64 0] 29) := (HT.out.b2.below hb HT.out.b2.lt).alloc _
    have HQ6 := Lib.hid (Blk.new w1 #[.int .i64 q.s, .int .i64 q.n, .int .i64 q.b, .int .i64 q.c, .int .i64 q.a, .int .i64 q.r, .int .i64 q.t, .int .i64 q.y] 64)
    have HGX7 : Hid (w.heap.size + 1 + 1 < w1.heap.size) := by show _ < _; have h1 := HT.out.b2.lt; have h2 := hb.size; omega
    clear hb HG HT
    go_upto_region 2 with fail
    generalize w1.alloc (.cells #[.int .i64 q.s, .int .i64 q.n, .int .i64 q.b, .int .i64 q.c, .int .i64 q.a, .int .i64 q.r, .int .i64 q.t, .int .i64 q.y] 64) = w6 at *
    generalize w1.heap.size = gx at *
    have HB6 := HB7
    have HD6 := HD7
    have HM6 := HM7
    have HR6 := HR7
    have HGX := HGX7
    clear HB7 HD7 HM7 HR7 HGX7
    go_upto_region 4 with fail
    clear heb
    have HG := Lib.hid (HW.out w6 HB6.out)
    clear HW
    have a0 : w6.cell? ⟨w.heap.size, 0, none⟩ = some (.int .i64 d.me) := HD6.out.cell 0
    have a1 : w6.cell? ⟨w.heap.size, 1, none⟩ = some (.slice pi d.xs.length ci) := HD6.out.cell 1
    have a2 : w6.cell? ⟨w.heap.size, 2, none⟩ = some (.slice po d.os.length co) := HD6.out.cell 2
    have a3 : w6.cell? ⟨w.heap.size, 3, none⟩ = some (.int .i64 d.far) := HD6.out.cell 3
    have c0 : w6.cell? ⟨w.heap.size + 1, 0, none⟩ = some (.int .i64 m.k) := HM6.out.cell 0
    have c1 : w6.cell? ⟨w.heap.size + 1, 1, none⟩ = some (.int .i64 m.s) := HM6.out.cell 1
    have c2 : w6.cell? ⟨w.heap.size + 1, 2, none⟩ = some (.int .i64 m.n) := HM6.out.cell 2
    have c3 : w6.cell? ⟨w.heap.size + 1, 3, none⟩ = some (.int .i64 m.b) := HM6.out.cell 3
    have c4 : w6.cell? ⟨w.heap.size + 1, 4, none⟩ = some (.int .i64 m.c) := HM6.out.cell 4
    have c5 : w6.cell? ⟨w.heap.size + 1, 5, none⟩ = some (.int .i64 m.r) := HM6.out.cell 5
    have c6 : w6.cell? ⟨w.heap.size + 1, 6, none⟩ = some (.int .i64 m.y) := HM6.out.cell 6
    have c7 : w6.cell? ⟨w.heap.size + 1, 7, none⟩ = some (.int .i64 m.a) := HM6.out.cell 7
    have c8 : w6.cell? ⟨w.heap.size + 1, 8, none⟩ = some (.bool m.t) := HM6.out.cell 8
    have c9 : w6.cell? ⟨w.heap.size + 1, 9, none⟩ = some (vl) := HM6.out.cell 9
    have c10 : w6.cell? ⟨w.heap.size + 1, 10, none⟩ = some (vn) := HM6.out.cell 10
    go_wp2_with fail
    clear a0 a1 a2 a3 c0 c1 c2 c3 c4 c5 c6 c7 c8 c9 c10
    refine HG.out.mono ?_
    rintro y w2 ⟨hb2, pi2, ci2, po2, co2, vs, rfl, hdr, hati, hato, hown⟩
    have HR2 := Lib.hid (HR6.out.below hb2 HR6.out.lt)
    have HB2 := Lib.hid (HB6.out.trans (hb2.mono HB6.out.size))
    have HZ7 : Hid (w.heap.size + 1 + 1 < w6.heap.size ∧ w.heap.size ≤ w6.heap.size) := ⟨HR6.out.lt, HB6.out.size⟩
    clear hb2 HG
    go_wp2_with (with_reducible refine stop_storeT 29 (.tmp 6) (.tmp 31) rfl ?_)
    have HTH : Hid (w2.there (w.heap.size + 1 + 1) 0 4) := HR2.out.thereAt
    have HF : Hid (Blk (w2.setCells (w.heap.size + 1 + 1) 0 (#[.int .i64 R.1.me, .slice pi2 R.1.xs.length ci2, .slice po2 R.1.os.length co2, .int .i64 R.1.far] : Array Value).toList) (w.heap.size + 1 + 1) #[.int .i64 R.1.me, .slice pi2 R.1.xs.length ci2, .slice po2 R.1.os.length co2, .int .i64 R.1.far] 29 ∧ Below w.heap.size w (w2.setCells (w.heap.size + 1 + 1) 0 (#[.int .i64 R.1.me, .slice pi2 R.1.xs.length ci2, .slice po2 R.1.os.length co2, .int .i64 R.1.far] : Array Value).toList) ∧ Chg (w.heap.size + 1 + 1) w2 (w2.setCells (w.heap.size + 1 + 1) 0 (#[.int .i64 R.1.me, .slice pi2 R.1.xs.length ci2, .slice po2 R.1.os.length co2, .int .i64 R.1.far] : Array Value).toList)) := ⟨blk_put_all HR2.out _ rfl, below_put (by omega) _ _ _ _ HB2.out, chg_putL _ _ _ _ _ (Chg.refl _ w2)⟩
    refine wpList_store_mid rfl 29 (.tmp 6) (.tmp 31) rfl (w.heap.size + 1 + 1) 0 #[.int .i64 R.1.me, .slice pi2 R.1.xs.length ci2, .slice po2 R.1.os.length co2, .int .i64 R.1.far] rfl rfl HTH.out (infoD4 rfl) (all_oneCell_toArray (by intro u hu; simp at hu; rcases hu with rfl | rfl | rfl | rfl <;> rfl)) ?_
    generalize World.setCells w2 _ _ _ = w8 at *
    clear HTH
    go_wp2_with fail
    have hf := HF.out.1
    have hng : ¬ (P (w.heap.size + 1 + 1) ∨ w6.heap.size ≤ w.heap.size + 1 + 1) := by
      have h2 := HZ7.out
      rintro (h | h)
      · have h4 := HW0.out _ h; omega
      · omega
    have hge : ∀ b, P b ∨ w6.heap.size ≤ b → P b ∨ w.heap.size ≤ b := fun b hb => hb.imp id (fun h => by have h2 := HZ7.out; omega)
    refine bodyPost_ret (v := .tuple #[.agg #[.int .i64 R.1.me, .slice pi2 R.1.xs.length ci2, .slice po2 R.1.os.length co2, .int .i64 R.1.far], vs, .int .i64 R.2.2]) (by simp [results, Try.results34, go_sem, hf.cell 0, hf.cell 1, hf.cell 2, hf.cell 3]) rfl ⟨HF.out.2.1, pi2, ci2, po2, co2, vs, rfl, ?_, hati.imp hge, hato.imp hge, ?_⟩
    · exact ⟨hdr.items.keepP hati (KeepP.of_chg HF.out.2.2 hng), hdr.orders.keepP hato (KeepP.of_chg HF.out.2.2 hng), hdr.sx, hdr.so, hdr.nx, hdr.no⟩
    · exact ⟨(hown.1.stay (fun b hb => HF.out.2.2.2 b (hown.1.lt b hb) (by have h1 := hown.1.block_ge b hb; have h2 := HZ7.out; omega))).less (by have h2 := HZ7.out; omega), hown.2⟩
def fnO : Option FuncId → Value
  | none => .nilFunc
  | some F => .func (.func F) #[] #[]
def byNodeF (k : Int) : Option FuncId := if k = 6 then some 26 else if k = 7 then some 27 else if k = 8 then some 28 else if k = 9 then some 29 else none
set_option linter.unusedSimpArgs false in
set_option maxHeartbeats 4000000 in
set_option maxRecDepth 100000 in
theorem byNode_any (w : World) (k : Int) : Calls Try.prog 19 #[.int .i64 k] w fun e w' => e = .returned (fnO (byNodeF k)) ∧ Below w.heap.size w w' := by
  unfold byNodeF
  by_cases n0 : k = 6
  · subst n0
    simp only [if_true]
    unfold fnO
    try simp only [Int.reduceEq, if_false]
    go_enter Try.func19, Try.ntmps19
    go_wp2
    go_ret
    exact ⟨rfl, Below.refl _ _⟩
  · have n0b : (k == 6) = false := by simpa using n0
    rw [if_neg n0]
    by_cases n1 : k = 7
    · subst n1
      simp only [if_true]
      unfold fnO
      try simp only [Int.reduceEq, if_false]
      go_enter Try.func19, Try.ntmps19
      go_wp2
      go_ret
      exact ⟨rfl, Below.refl _ _⟩
    · have n1b : (k == 7) = false := by simpa using n1
      rw [if_neg n1]
      by_cases n2 : k = 8
      · subst n2
        simp only [if_true]
        unfold fnO
        try simp only [Int.reduceEq, if_false]
        go_enter Try.func19, Try.ntmps19
        go_wp2
        go_ret
        exact ⟨rfl, Below.refl _ _⟩
      · have n2b : (k == 8) = false := by simpa using n2
        rw [if_neg n2]
        by_cases n3 : k = 9
        · subst n3
          simp only [if_true]
          unfold fnO
          try simp only [Int.reduceEq, if_false]
          go_enter Try.func19, Try.ntmps19
          go_wp2
          go_ret
          exact ⟨rfl, Below.refl _ _⟩
        · have n3b : (k == 9) = false := by simpa using n3
          rw [if_neg n3]
          clear n0
          clear n1
          clear n2
          clear n3
          unfold fnO
          go_enter Try.func19, Try.ntmps19
          go_wp2
          go_ret
          exact ⟨rfl, Below.refl _ _⟩
def byClientF (k : Int) : Option FuncId := if k = 1 then some 30 else if k = 2 then some 31 else if k = 3 then some 32 else if k = 4 then some 33 else if k = 16 then some 34 else none
set_option linter.unusedSimpArgs false in
set_option maxHeartbeats 4000000 in
set_option maxRecDepth 100000 in
theorem byClient_any (w : World) (k : Int) : Calls Try.prog 20 #[.int .i64 k] w fun e w' => e = .returned (fnO (byClientF k)) ∧ Below w.heap.size w w' := by
  unfold byClientF
  by_cases n0 : k = 1
  · subst n0
    simp only [if_true]
    unfold fnO
    try simp only [Int.reduceEq, if_false]
    go_enter Try.func20, Try.ntmps20
    go_wp2
    go_ret
    exact ⟨rfl, Below.refl _ _⟩
  · have n0b : (k == 1) = false := by simpa using n0
    rw [if_neg n0]
    by_cases n1 : k = 2
    · subst n1
      simp only [if_true]
      unfold fnO
      try simp only [Int.reduceEq, if_false]
      go_enter Try.func20, Try.ntmps20
      go_wp2
      go_ret
      exact ⟨rfl, Below.refl _ _⟩
    · have n1b : (k == 2) = false := by simpa using n1
      rw [if_neg n1]
      by_cases n2 : k = 3
      · subst n2
        simp only [if_true]
        unfold fnO
        try simp only [Int.reduceEq, if_false]
        go_enter Try.func20, Try.ntmps20
        go_wp2
        go_ret
        exact ⟨rfl, Below.refl _ _⟩
      · have n2b : (k == 3) = false := by simpa using n2
        rw [if_neg n2]
        by_cases n3 : k = 4
        · subst n3
          simp only [if_true]
          unfold fnO
          try simp only [Int.reduceEq, if_false]
          go_enter Try.func20, Try.ntmps20
          go_wp2
          go_ret
          exact ⟨rfl, Below.refl _ _⟩
        · have n3b : (k == 4) = false := by simpa using n3
          rw [if_neg n3]
          by_cases n4 : k = 16
          · subst n4
            simp only [if_true]
            unfold fnO
            try simp only [Int.reduceEq, if_false]
            go_enter Try.func20, Try.ntmps20
            go_wp2
            go_ret
            exact ⟨rfl, Below.refl _ _⟩
          · have n4b : (k == 16) = false := by simpa using n4
            rw [if_neg n4]
            clear n0
            clear n1
            clear n2
            clear n3
            clear n4
            unfold fnO
            go_enter Try.func20, Try.ntmps20
            go_wp2
            go_ret
            exact ⟨rfl, Below.refl _ _⟩
theorem adj_round {d : Dsk} (h : d.Ok) (s n : Int) : Hid (F64 ((soldA d s n).1.r + 1)) := by
  show F64 _
  unfold soldA
  split
  · unfold F64; simp [itm0]
  · rename_i q hq
    have hq2 : F64 (q.r + 1) := by
      obtain ⟨_, h2, _⟩ := chk_ok (h.its q (findX_mem hq).1).1
      unfold numsOk at h2
      unfold F64
      omega
    split <;> exact hq2
theorem node_call (w : World) (d : Dsk) (pi po : Option Addr) (ci co : Nat) (m : Msg) (vl vn : Value) (fro : Int) (h : DRow w d pi ci po co) (hn : d.xs.length < 1024) (P : Nat → Prop) (hw0 : ∀ b, P b → b < w.heap.size) (hat : At P (.slice pi d.xs.length ci) d.xs.length) (hato : At P (.slice po d.os.length co) d.os.length) (hdo : d.Ok) (F : FuncId) (hF : byNodeF m.k = some F) : Calls Try.prog F #[(deskV d.me pi d.xs.length ci po d.os.length co d.far), m.v vl vn, .int .i64 fro] w fun y w' => DoPost w P (nodeM d m fro) y w' := by
  unfold byNodeF at hF
  unfold nodeM
  by_cases n0 : m.k = 6
  · rw [if_pos n0] at hF ⊢
    cases hF
    exact (dpropose_any w d pi po ci co m vl vn fro h hn P hw0 hat hdo (pro_may m fro)).mono (fun _ _ ha => actPost_do h hat hato hw0 ha)
  · rw [if_neg n0] at hF ⊢
    by_cases n1 : m.k = 7
    · rw [if_pos n1] at hF ⊢
      cases hF
      exact (dconfirm_any w d pi po ci co m vl vn fro h hn P hw0 hat (then_may (betw_may hdo _ _ _ _ _) (fun _ hx => turn_chk (.inr (.inl ⟨rfl, rfl⟩)) hx))).mono (fun _ _ ha => actPost_do h hat hato hw0 ha)
    · rw [if_neg n1] at hF ⊢
      by_cases n2 : m.k = 8
      · rw [if_pos n2] at hF ⊢
        cases hF
        exact (ddispute_any w d pi po ci co m vl vn fro h hn P hw0 hat (disp_may (dispI_may hdo m fro))).mono (fun _ _ ha => actPost_do h hat hato hw0 ha)
      · rw [if_neg n2] at hF ⊢
        by_cases n3 : m.k = 9
        · rw [if_pos n3] at hF ⊢
          cases hF
          exact (dcancel_any w d pi po ci co m vl vn fro h hn P hw0 hat (then_may (betw_may hdo _ _ _ _ _) (fun _ hx => turn_chk (.inr (.inr ⟨rfl, rfl⟩)) hx))).mono (fun _ _ ha => actPost_do h hat hato hw0 ha)
        · rw [if_neg n3] at hF
          cases hF
theorem client_call (w : World) (d : Dsk) (pi po : Option Addr) (ci co : Nat) (m : Msg) (vl vn : Value) (fro : Int) (h : DRow w d pi ci po co) (hn : d.xs.length < 1024) (P : Nat → Prop) (hw0 : ∀ b, P b → b < w.heap.size) (hno : d.os.length < 1024) (hat : At P (.slice pi d.xs.length ci) d.xs.length) (hato : At P (.slice po d.os.length co) d.os.length) (hdo : d.Ok) (F : FuncId) (hF : byClientF m.k = some F) : Calls Try.prog F #[(deskV d.me pi d.xs.length ci po d.os.length co d.far), m.v vl vn, .int .i64 fro] w fun y w' => DoPost w P (clientM d m) y w' := by
  unfold byClientF at hF
  unfold clientM
  by_cases n0 : m.k = 1
  · rw [if_pos n0] at hF ⊢
    cases hF
    exact (dissue_any w d pi po ci co m vl vn fro h hn P hw0 hat (issue_may m)).mono (fun _ _ ha => actPost_do h hat hato hw0 ha)
  · rw [if_neg n0] at hF ⊢
    by_cases n1 : m.k = 2
    · rw [if_pos n1] at hF ⊢
      cases hF
      exact dorder_any w d pi po ci co m vl vn fro h hn P hw0 hno hat hato
    · rw [if_neg n1] at hF ⊢
      by_cases n2 : m.k = 3
      · rw [if_pos n2] at hF ⊢
        cases hF
        exact (dadjust_any w d pi po ci co m vl vn fro h (adj_round hdo _ _) hn P hw0 hat (then_may (sold_may hdo _ _) (fun _ hx => adj_chk hx))).mono (fun _ _ ha => actPost_do h hat hato hw0 ha)
      · rw [if_neg n2] at hF ⊢
        by_cases n3 : m.k = 4
        · rw [if_pos n3] at hF ⊢
          cases hF
          exact (dwithdraw_any w d pi po ci co m vl vn fro h hn P hw0 hat (then_may (sold_may hdo _ _) (fun _ hx => turn_chk (.inr (.inr ⟨rfl, rfl⟩)) hx))).mono (fun _ _ ha => actPost_do h hat hato hw0 ha)
        · rw [if_neg n3] at hF ⊢
          by_cases n4 : m.k = 16
          · rw [if_pos n4] at hF ⊢
            cases hF
            exact ddue_any w d pi po ci co m vl vn fro h hn P hw0 hat hato hdo
          · rw [if_neg n4] at hF
            cases hF
theorem node_none {d : Dsk} {m : Msg} {fro : Int} (hF : byNodeF m.k = none) : nodeM d m fro = (d, [], 110) := by
  unfold byNodeF at hF
  unfold nodeM
  repeat' (split at hF; · cases hF)
  rw [if_neg ‹_›, if_neg ‹_›, if_neg ‹_›, if_neg ‹_›]
theorem client_none {d : Dsk} {m : Msg} (hF : byClientF m.k = none) : clientM d m = (d, [], 110) := by
  unfold byClientF at hF
  unfold clientM
  repeat' (split at hF; · cases hF)
  rw [if_neg ‹_›, if_neg ‹_›, if_neg ‹_›, if_neg ‹_›, if_neg ‹_›]
theorem node_F {k : Int} {F : FuncId} (hF : byNodeF k = some F) : F = 26 ∨ F = 27 ∨ F = 28 ∨ F = 29 := by
  unfold byNodeF at hF
  split at hF
  · cases hF; exact .inl rfl
  · split at hF
    · cases hF; exact .inr (.inl rfl)
    · split at hF
      · cases hF; exact .inr (.inr (.inl rfl))
      · split at hF
        · cases hF; exact .inr (.inr (.inr rfl))
        · cases hF
theorem client_F {k : Int} {F : FuncId} (hF : byClientF k = some F) : F = 30 ∨ F = 31 ∨ F = 32 ∨ F = 33 ∨ F = 34 := by
  unfold byClientF at hF
  split at hF
  · cases hF; exact .inl rfl
  · split at hF
    · cases hF; exact .inr (.inl rfl)
    · split at hF
      · cases hF; exact .inr (.inr (.inl rfl))
      · split at hF
        · cases hF; exact .inr (.inr (.inr (.inl rfl)))
        · split at hF
          · cases hF; exact .inr (.inr (.inr (.inr rfl)))
          · cases hF
theorem eqin_f (w : World) (d : Nat) (F : FuncId) : (Op.equalIn (d + 1) 72 (.func (.func F) #[] #[]) .nilFunc).run Try.prog w = .ok false w := by
  simp [Op.equalIn, run_underlying Try.underlying72]
theorem eqin_n (w : World) (d : Nat) : (Op.equalIn (d + 1) 72 .nilFunc .nilFunc).run Try.prog w = .ok true w := by
  simp [Op.equalIn, run_underlying Try.underlying72]
theorem eqf (w : World) (F : FuncId) : (binOp .eql 72 (.func (.func F) #[] #[]) .nilFunc).run Try.prog w = .ok (.bool false) w := by
  simp only [binOp]
  simp [Op.equal, Op.maxDepth, eqin_f w 9999 F]
theorem eqn (w : World) : (binOp .eql 72 .nilFunc .nilFunc).run Try.prog w = .ok (.bool true) w := by
  simp only [binOp]
  simp [Op.equal, Op.maxDepth, eqin_n w 9999]
set_option linter.unusedSimpArgs false in
set_option maxHeartbeats 4000000 in
set_option maxRecDepth 100000 in
theorem do_any (w : World) (d : Dsk) (pi po : Option Addr) (ci co : Nat) (m : Msg) (vl vn : Value) (fro : Int) (h : DRow w d pi ci po co) (hn : d.xs.length < 1024) (P : Nat → Prop) (hw0 : ∀ b, P b → b < w.heap.size) (hno : d.os.length < 1024) (hat : At P (.slice pi d.xs.length ci) d.xs.length) (hato : At P (.slice po d.os.length co) d.os.length) (hdo : d.Ok) :
    Calls Try.prog 8 #[(deskV d.me pi d.xs.length ci po d.os.length co d.far), m.v vl vn, .int .i64 fro] w fun y w' => DoPost w P (doM d m fro) y w' := by
  have HT := Lib.hid (three_new w #[.int .i64 d.me, .slice pi d.xs.length ci, .slice po d.os.length co, .int .i64 d.far] #[.int .i64 m.k, .int .i64 m.s, .int .i64 m.n, .int .i64 m.b, .int .i64 m.c, .int .i64 m.r, .int .i64 m.y, .int .i64 m.a, .bool m.t, vl, vn] #[.int .i64 0, .slice none 0 0, .slice none 0 0, .int .i64 0] 29 40 29)
  have HH := Lib.hid h
  have HNN := Lib.hid hn
  have HW0 := Lib.hid hw0
  have HA0 := Lib.hid hat
  have HO0 := Lib.hid hato
  unfold doM
  by_cases hc : fro = -1
  · rw [if_pos hc]
    have hcb : (fro == -1) = true := by simpa using hc
    clear hc
    cases hF : byClientF m.k with
    | some F =>
      have HW := Lib.hid (fun (W : World) (hb : Below w.heap.size w W) => client_call W d pi po ci co m vl vn fro (h.kept hb) hn P (fun b hp => Nat.lt_of_lt_of_le (hw0 b hp) hb.size) hno hat hato hdo F hF)
      unfold deskV Msg.v at HW
      have HFF := Lib.hid (client_F hF)
      have HGN := Lib.hid (fun (W : World) => byNode_any W m.k)
      have HGC := Lib.hid (fun (W : World) => byClient_any W m.k)
      rw [hF] at HGC
      generalize byNodeF m.k = fo at HGN
      unfold fnO at HGC
      clear h hn hno hw0 hat hato hdo hF
      have qE := eqf
      have qN := eqn
      generalize clientM d m = R at *
      unfold deskV Msg.v
      go_enter Try.func8, Try.ntmps8
      go_upto_region 1 with fail
      generalize (((w.alloc (.cells #[.int .i64 d.me, .slice pi d.xs.length ci, .slice po d.os.length co, .int .i64 d.far] 29)).alloc (.cells #[.int .i64 m.k, .int .i64 m.s, .int .i64 m.n, .int .i64 m.b, .int .i64 m.c, .int .i64 m.r, .int .i64 m.y, .int .i64 m.a, .bool m.t, vl, vn] 40)).alloc (.cells #[.int .i64 0, .slice none 0 0, .slice none 0 0, .int .i64 0] 29)) = W at *
      have HG := Lib.hid (HGN.out W)
      clear HGN
      have c0 : W.cell? ⟨w.heap.size + 1, 0, none⟩ = some (.int .i64 m.k) := HT.out.b1.cell 0
      go_wp2_with fail
      clear c0
      refine HG.out.mono ?_
      rintro y w6 ⟨rfl, hb⟩
      have HD6 := Lib.hid (HT.out.b0.below hb HT.out.b0.lt)
      have HM6 := Lib.hid (HT.out.b1.below hb HT.out.b1.lt)
      have HR6 := Lib.hid (HT.out.b2.below hb HT.out.b2.lt)
      have HB6 := Lib.hid (HT.out.low.trans (hb.mono HT.out.low.size))
      clear hb HG HT
      have HG := Lib.hid (HGC.out w6)
      clear HGC
      have c0 : w6.cell? ⟨w.heap.size + 1, 0, none⟩ = some (.int .i64 m.k) := HM6.out.cell 0
      go_wp2_with fail
      clear c0
      refine HG.out.mono ?_
      rintro y w9 ⟨rfl, hb⟩
      have HD9 := Lib.hid (HD6.out.below hb HD6.out.lt)
      have HM9 := Lib.hid (HM6.out.below hb HM6.out.lt)
      have HR9 := Lib.hid (HR6.out.below hb HR6.out.lt)
      have HB9 := Lib.hid (HB6.out.trans (hb.mono HB6.out.size))
      clear hb HG HD6 HM6 HR6 HB6
      go_upto_region 6 with fail
      rcases HFF.out with rfl | rfl | rfl | rfl | rfl
      · skip
        have HG := Lib.hid (HW.out w9 HB9.out)
        clear HW HFF
        have a0 : w9.cell? ⟨w.heap.size, 0, none⟩ = some (.int .i64 d.me) := HD9.out.cell 0
        have a1 : w9.cell? ⟨w.heap.size, 1, none⟩ = some (.slice pi d.xs.length ci) := HD9.out.cell 1
        have a2 : w9.cell? ⟨w.heap.size, 2, none⟩ = some (.slice po d.os.length co) := HD9.out.cell 2
        have a3 : w9.cell? ⟨w.heap.size, 3, none⟩ = some (.int .i64 d.far) := HD9.out.cell 3
        have c0 : w9.cell? ⟨w.heap.size + 1, 0, none⟩ = some (.int .i64 m.k) := HM9.out.cell 0
        have c1 : w9.cell? ⟨w.heap.size + 1, 1, none⟩ = some (.int .i64 m.s) := HM9.out.cell 1
        have c2 : w9.cell? ⟨w.heap.size + 1, 2, none⟩ = some (.int .i64 m.n) := HM9.out.cell 2
        have c3 : w9.cell? ⟨w.heap.size + 1, 3, none⟩ = some (.int .i64 m.b) := HM9.out.cell 3
        have c4 : w9.cell? ⟨w.heap.size + 1, 4, none⟩ = some (.int .i64 m.c) := HM9.out.cell 4
        have c5 : w9.cell? ⟨w.heap.size + 1, 5, none⟩ = some (.int .i64 m.r) := HM9.out.cell 5
        have c6 : w9.cell? ⟨w.heap.size + 1, 6, none⟩ = some (.int .i64 m.y) := HM9.out.cell 6
        have c7 : w9.cell? ⟨w.heap.size + 1, 7, none⟩ = some (.int .i64 m.a) := HM9.out.cell 7
        have c8 : w9.cell? ⟨w.heap.size + 1, 8, none⟩ = some (.bool m.t) := HM9.out.cell 8
        have c9 : w9.cell? ⟨w.heap.size + 1, 9, none⟩ = some (vl) := HM9.out.cell 9
        have c10 : w9.cell? ⟨w.heap.size + 1, 10, none⟩ = some (vn) := HM9.out.cell 10
        go_wp2_with fail
        clear a0 a1 a2 a3 c0 c1 c2 c3 c4 c5 c6 c7 c8 c9 c10
        refine HG.out.mono ?_
        rintro y w2 ⟨hb2, pi2, ci2, po2, co2, vs, rfl, hdr, hati, hato, hown⟩
        have HR2 := Lib.hid (HR9.out.below hb2 HR9.out.lt)
        have HB2 := Lib.hid (HB9.out.trans (hb2.mono HB9.out.size))
        have HZ7 : Hid (w.heap.size + 1 + 1 < w9.heap.size ∧ w.heap.size ≤ w9.heap.size) := ⟨HR9.out.lt, HB9.out.size⟩
        clear hb2 HG
        go_wp2_with (with_reducible refine stop_storeT 29 (.tmp 6) (.tmp 26) rfl ?_)
        have HTH : Hid (w2.there (w.heap.size + 1 + 1) 0 4) := HR2.out.thereAt
        have HF : Hid (Blk (w2.setCells (w.heap.size + 1 + 1) 0 (#[.int .i64 R.1.me, .slice pi2 R.1.xs.length ci2, .slice po2 R.1.os.length co2, .int .i64 R.1.far] : Array Value).toList) (w.heap.size + 1 + 1) #[.int .i64 R.1.me, .slice pi2 R.1.xs.length ci2, .slice po2 R.1.os.length co2, .int .i64 R.1.far] 29 ∧ Below w.heap.size w (w2.setCells (w.heap.size + 1 + 1) 0 (#[.int .i64 R.1.me, .slice pi2 R.1.xs.length ci2, .slice po2 R.1.os.length co2, .int .i64 R.1.far] : Array Value).toList) ∧ Chg (w.heap.size + 1 + 1) w2 (w2.setCells (w.heap.size + 1 + 1) 0 (#[.int .i64 R.1.me, .slice pi2 R.1.xs.length ci2, .slice po2 R.1.os.length co2, .int .i64 R.1.far] : Array Value).toList)) := ⟨blk_put_all HR2.out _ rfl, below_put (by omega) _ _ _ _ HB2.out, chg_putL _ _ _ _ _ (Chg.refl _ w2)⟩
        refine wpList_store_mid rfl 29 (.tmp 6) (.tmp 26) rfl (w.heap.size + 1 + 1) 0 #[.int .i64 R.1.me, .slice pi2 R.1.xs.length ci2, .slice po2 R.1.os.length co2, .int .i64 R.1.far] rfl rfl HTH.out (infoD4 rfl) (all_oneCell_toArray (by intro u hu; simp at hu; rcases hu with rfl | rfl | rfl | rfl <;> rfl)) ?_
        generalize World.setCells w2 _ _ _ = w8 at *
        clear HTH
        go_wp2_with fail
        have hf := HF.out.1
        have hng : ¬ (P (w.heap.size + 1 + 1) ∨ w9.heap.size ≤ w.heap.size + 1 + 1) := by
          have h2 := HZ7.out
          rintro (h | h)
          · have h4 := HW0.out _ h; omega
          · omega
        have hge : ∀ b, P b ∨ w9.heap.size ≤ b → P b ∨ w.heap.size ≤ b := fun b hb => hb.imp id (fun h => by have h2 := HZ7.out; omega)
        refine bodyPost_ret (v := .tuple #[.agg #[.int .i64 R.1.me, .slice pi2 R.1.xs.length ci2, .slice po2 R.1.os.length co2, .int .i64 R.1.far], vs, .int .i64 R.2.2]) (by simp [results, Try.results8, go_sem, hf.cell 0, hf.cell 1, hf.cell 2, hf.cell 3]) rfl ⟨HF.out.2.1, pi2, ci2, po2, co2, vs, rfl, ?_, hati.imp hge, hato.imp hge, ?_⟩
        · exact ⟨hdr.items.keepP hati (KeepP.of_chg HF.out.2.2 hng), hdr.orders.keepP hato (KeepP.of_chg HF.out.2.2 hng), hdr.sx, hdr.so, hdr.nx, hdr.no⟩
        · exact ⟨(hown.1.stay (fun b hb => HF.out.2.2.2 b (hown.1.lt b hb) (by have h1 := hown.1.block_ge b hb; have h2 := HZ7.out; omega))).less (by have h2 := HZ7.out; omega), hown.2⟩
      · skip
        have HG := Lib.hid (HW.out w9 HB9.out)
        clear HW HFF
        have a0 : w9.cell? ⟨w.heap.size, 0, none⟩ = some (.int .i64 d.me) := HD9.out.cell 0
        have a1 : w9.cell? ⟨w.heap.size, 1, none⟩ = some (.slice pi d.xs.length ci) := HD9.out.cell 1
        have a2 : w9.cell? ⟨w.heap.size, 2, none⟩ = some (.slice po d.os.length co) := HD9.out.cell 2
        have a3 : w9.cell? ⟨w.heap.size, 3, none⟩ = some (.int .i64 d.far) := HD9.out.cell 3
        have c0 : w9.cell? ⟨w.heap.size + 1, 0, none⟩ = some (.int .i64 m.k) := HM9.out.cell 0
        have c1 : w9.cell? ⟨w.heap.size + 1, 1, none⟩ = some (.int .i64 m.s) := HM9.out.cell 1
        have c2 : w9.cell? ⟨w.heap.size + 1, 2, none⟩ = some (.int .i64 m.n) := HM9.out.cell 2
        have c3 : w9.cell? ⟨w.heap.size + 1, 3, none⟩ = some (.int .i64 m.b) := HM9.out.cell 3
        have c4 : w9.cell? ⟨w.heap.size + 1, 4, none⟩ = some (.int .i64 m.c) := HM9.out.cell 4
        have c5 : w9.cell? ⟨w.heap.size + 1, 5, none⟩ = some (.int .i64 m.r) := HM9.out.cell 5
        have c6 : w9.cell? ⟨w.heap.size + 1, 6, none⟩ = some (.int .i64 m.y) := HM9.out.cell 6
        have c7 : w9.cell? ⟨w.heap.size + 1, 7, none⟩ = some (.int .i64 m.a) := HM9.out.cell 7
        have c8 : w9.cell? ⟨w.heap.size + 1, 8, none⟩ = some (.bool m.t) := HM9.out.cell 8
        have c9 : w9.cell? ⟨w.heap.size + 1, 9, none⟩ = some (vl) := HM9.out.cell 9
        have c10 : w9.cell? ⟨w.heap.size + 1, 10, none⟩ = some (vn) := HM9.out.cell 10
        go_wp2_with fail
        clear a0 a1 a2 a3 c0 c1 c2 c3 c4 c5 c6 c7 c8 c9 c10
        refine HG.out.mono ?_
        rintro y w2 ⟨hb2, pi2, ci2, po2, co2, vs, rfl, hdr, hati, hato, hown⟩
        have HR2 := Lib.hid (HR9.out.below hb2 HR9.out.lt)
        have HB2 := Lib.hid (HB9.out.trans (hb2.mono HB9.out.size))
        have HZ7 : Hid (w.heap.size + 1 + 1 < w9.heap.size ∧ w.heap.size ≤ w9.heap.size) := ⟨HR9.out.lt, HB9.out.size⟩
        clear hb2 HG
        go_wp2_with (with_reducible refine stop_storeT 29 (.tmp 6) (.tmp 26) rfl ?_)
        have HTH : Hid (w2.there (w.heap.size + 1 + 1) 0 4) := HR2.out.thereAt
        have HF : Hid (Blk (w2.setCells (w.heap.size + 1 + 1) 0 (#[.int .i64 R.1.me, .slice pi2 R.1.xs.length ci2, .slice po2 R.1.os.length co2, .int .i64 R.1.far] : Array Value).toList) (w.heap.size + 1 + 1) #[.int .i64 R.1.me, .slice pi2 R.1.xs.length ci2, .slice po2 R.1.os.length co2, .int .i64 R.1.far] 29 ∧ Below w.heap.size w (w2.setCells (w.heap.size + 1 + 1) 0 (#[.int .i64 R.1.me, .slice pi2 R.1.xs.length ci2, .slice po2 R.1.os.length co2, .int .i64 R.1.far] : Array Value).toList) ∧ Chg (w.heap.size + 1 + 1) w2 (w2.setCells (w.heap.size + 1 + 1) 0 (#[.int .i64 R.1.me, .slice pi2 R.1.xs.length ci2, .slice po2 R.1.os.length co2, .int .i64 R.1.far] : Array Value).toList)) := ⟨blk_put_all HR2.out _ rfl, below_put (by omega) _ _ _ _ HB2.out, chg_putL _ _ _ _ _ (Chg.refl _ w2)⟩
        refine wpList_store_mid rfl 29 (.tmp 6) (.tmp 26) rfl (w.heap.size + 1 + 1) 0 #[.int .i64 R.1.me, .slice pi2 R.1.xs.length ci2, .slice po2 R.1.os.length co2, .int .i64 R.1.far] rfl rfl HTH.out (infoD4 rfl) (all_oneCell_toArray (by intro u hu; simp at hu; rcases hu with rfl | rfl | rfl | rfl <;> rfl)) ?_
        generalize World.setCells w2 _ _ _ = w8 at *
        clear HTH
        go_wp2_with fail
        have hf := HF.out.1
        have hng : ¬ (P (w.heap.size + 1 + 1) ∨ w9.heap.size ≤ w.heap.size + 1 + 1) := by
          have h2 := HZ7.out
          rintro (h | h)
          · have h4 := HW0.out _ h; omega
          · omega
        have hge : ∀ b, P b ∨ w9.heap.size ≤ b → P b ∨ w.heap.size ≤ b := fun b hb => hb.imp id (fun h => by have h2 := HZ7.out; omega)
        refine bodyPost_ret (v := .tuple #[.agg #[.int .i64 R.1.me, .slice pi2 R.1.xs.length ci2, .slice po2 R.1.os.length co2, .int .i64 R.1.far], vs, .int .i64 R.2.2]) (by simp [results, Try.results8, go_sem, hf.cell 0, hf.cell 1, hf.cell 2, hf.cell 3]) rfl ⟨HF.out.2.1, pi2, ci2, po2, co2, vs, rfl, ?_, hati.imp hge, hato.imp hge, ?_⟩
        · exact ⟨hdr.items.keepP hati (KeepP.of_chg HF.out.2.2 hng), hdr.orders.keepP hato (KeepP.of_chg HF.out.2.2 hng), hdr.sx, hdr.so, hdr.nx, hdr.no⟩
        · exact ⟨(hown.1.stay (fun b hb => HF.out.2.2.2 b (hown.1.lt b hb) (by have h1 := hown.1.block_ge b hb; have h2 := HZ7.out; omega))).less (by have h2 := HZ7.out; omega), hown.2⟩
      · skip
        have HG := Lib.hid (HW.out w9 HB9.out)
        clear HW HFF
        have a0 : w9.cell? ⟨w.heap.size, 0, none⟩ = some (.int .i64 d.me) := HD9.out.cell 0
        have a1 : w9.cell? ⟨w.heap.size, 1, none⟩ = some (.slice pi d.xs.length ci) := HD9.out.cell 1
        have a2 : w9.cell? ⟨w.heap.size, 2, none⟩ = some (.slice po d.os.length co) := HD9.out.cell 2
        have a3 : w9.cell? ⟨w.heap.size, 3, none⟩ = some (.int .i64 d.far) := HD9.out.cell 3
        have c0 : w9.cell? ⟨w.heap.size + 1, 0, none⟩ = some (.int .i64 m.k) := HM9.out.cell 0
        have c1 : w9.cell? ⟨w.heap.size + 1, 1, none⟩ = some (.int .i64 m.s) := HM9.out.cell 1
        have c2 : w9.cell? ⟨w.heap.size + 1, 2, none⟩ = some (.int .i64 m.n) := HM9.out.cell 2
        have c3 : w9.cell? ⟨w.heap.size + 1, 3, none⟩ = some (.int .i64 m.b) := HM9.out.cell 3
        have c4 : w9.cell? ⟨w.heap.size + 1, 4, none⟩ = some (.int .i64 m.c) := HM9.out.cell 4
        have c5 : w9.cell? ⟨w.heap.size + 1, 5, none⟩ = some (.int .i64 m.r) := HM9.out.cell 5
        have c6 : w9.cell? ⟨w.heap.size + 1, 6, none⟩ = some (.int .i64 m.y) := HM9.out.cell 6
        have c7 : w9.cell? ⟨w.heap.size + 1, 7, none⟩ = some (.int .i64 m.a) := HM9.out.cell 7
        have c8 : w9.cell? ⟨w.heap.size + 1, 8, none⟩ = some (.bool m.t) := HM9.out.cell 8
        have c9 : w9.cell? ⟨w.heap.size + 1, 9, none⟩ = some (vl) := HM9.out.cell 9
        have c10 : w9.cell? ⟨w.heap.size + 1, 10, none⟩ = some (vn) := HM9.out.cell 10
        go_wp2_with fail
        clear a0 a1 a2 a3 c0 c1 c2 c3 c4 c5 c6 c7 c8 c9 c10
        refine HG.out.mono ?_
        rintro y w2 ⟨hb2, pi2, ci2, po2, co2, vs, rfl, hdr, hati, hato, hown⟩
        have HR2 := Lib.hid (HR9.out.below hb2 HR9.out.lt)
        have HB2 := Lib.hid (HB9.out.trans (hb2.mono HB9.out.size))
        have HZ7 : Hid (w.heap.size + 1 + 1 < w9.heap.size ∧ w.heap.size ≤ w9.heap.size) := ⟨HR9.out.lt, HB9.out.size⟩
        clear hb2 HG
        go_wp2_with (with_reducible refine stop_storeT 29 (.tmp 6) (.tmp 26) rfl ?_)
        have HTH : Hid (w2.there (w.heap.size + 1 + 1) 0 4) := HR2.out.thereAt
        have HF : Hid (Blk (w2.setCells (w.heap.size + 1 + 1) 0 (#[.int .i64 R.1.me, .slice pi2 R.1.xs.length ci2, .slice po2 R.1.os.length co2, .int .i64 R.1.far] : Array Value).toList) (w.heap.size + 1 + 1) #[.int .i64 R.1.me, .slice pi2 R.1.xs.length ci2, .slice po2 R.1.os.length co2, .int .i64 R.1.far] 29 ∧ Below w.heap.size w (w2.setCells (w.heap.size + 1 + 1) 0 (#[.int .i64 R.1.me, .slice pi2 R.1.xs.length ci2, .slice po2 R.1.os.length co2, .int .i64 R.1.far] : Array Value).toList) ∧ Chg (w.heap.size + 1 + 1) w2 (w2.setCells (w.heap.size + 1 + 1) 0 (#[.int .i64 R.1.me, .slice pi2 R.1.xs.length ci2, .slice po2 R.1.os.length co2, .int .i64 R.1.far] : Array Value).toList)) := ⟨blk_put_all HR2.out _ rfl, below_put (by omega) _ _ _ _ HB2.out, chg_putL _ _ _ _ _ (Chg.refl _ w2)⟩
        refine wpList_store_mid rfl 29 (.tmp 6) (.tmp 26) rfl (w.heap.size + 1 + 1) 0 #[.int .i64 R.1.me, .slice pi2 R.1.xs.length ci2, .slice po2 R.1.os.length co2, .int .i64 R.1.far] rfl rfl HTH.out (infoD4 rfl) (all_oneCell_toArray (by intro u hu; simp at hu; rcases hu with rfl | rfl | rfl | rfl <;> rfl)) ?_
        generalize World.setCells w2 _ _ _ = w8 at *
        clear HTH
        go_wp2_with fail
        have hf := HF.out.1
        have hng : ¬ (P (w.heap.size + 1 + 1) ∨ w9.heap.size ≤ w.heap.size + 1 + 1) := by
          have h2 := HZ7.out
          rintro (h | h)
          · have h4 := HW0.out _ h; omega
          · omega
        have hge : ∀ b, P b ∨ w9.heap.size ≤ b → P b ∨ w.heap.size ≤ b := fun b hb => hb.imp id (fun h => by have h2 := HZ7.out; omega)
        refine bodyPost_ret (v := .tuple #[.agg #[.int .i64 R.1.me, .slice pi2 R.1.xs.length ci2, .slice po2 R.1.os.length co2, .int .i64 R.1.far], vs, .int .i64 R.2.2]) (by simp [results, Try.results8, go_sem, hf.cell 0, hf.cell 1, hf.cell 2, hf.cell 3]) rfl ⟨HF.out.2.1, pi2, ci2, po2, co2, vs, rfl, ?_, hati.imp hge, hato.imp hge, ?_⟩
        · exact ⟨hdr.items.keepP hati (KeepP.of_chg HF.out.2.2 hng), hdr.orders.keepP hato (KeepP.of_chg HF.out.2.2 hng), hdr.sx, hdr.so, hdr.nx, hdr.no⟩
        · exact ⟨(hown.1.stay (fun b hb => HF.out.2.2.2 b (hown.1.lt b hb) (by have h1 := hown.1.block_ge b hb; have h2 := HZ7.out; omega))).less (by have h2 := HZ7.out; omega), hown.2⟩
      · skip
        have HG := Lib.hid (HW.out w9 HB9.out)
        clear HW HFF
        have a0 : w9.cell? ⟨w.heap.size, 0, none⟩ = some (.int .i64 d.me) := HD9.out.cell 0
        have a1 : w9.cell? ⟨w.heap.size, 1, none⟩ = some (.slice pi d.xs.length ci) := HD9.out.cell 1
        have a2 : w9.cell? ⟨w.heap.size, 2, none⟩ = some (.slice po d.os.length co) := HD9.out.cell 2
        have a3 : w9.cell? ⟨w.heap.size, 3, none⟩ = some (.int .i64 d.far) := HD9.out.cell 3
        have c0 : w9.cell? ⟨w.heap.size + 1, 0, none⟩ = some (.int .i64 m.k) := HM9.out.cell 0
        have c1 : w9.cell? ⟨w.heap.size + 1, 1, none⟩ = some (.int .i64 m.s) := HM9.out.cell 1
        have c2 : w9.cell? ⟨w.heap.size + 1, 2, none⟩ = some (.int .i64 m.n) := HM9.out.cell 2
        have c3 : w9.cell? ⟨w.heap.size + 1, 3, none⟩ = some (.int .i64 m.b) := HM9.out.cell 3
        have c4 : w9.cell? ⟨w.heap.size + 1, 4, none⟩ = some (.int .i64 m.c) := HM9.out.cell 4
        have c5 : w9.cell? ⟨w.heap.size + 1, 5, none⟩ = some (.int .i64 m.r) := HM9.out.cell 5
        have c6 : w9.cell? ⟨w.heap.size + 1, 6, none⟩ = some (.int .i64 m.y) := HM9.out.cell 6
        have c7 : w9.cell? ⟨w.heap.size + 1, 7, none⟩ = some (.int .i64 m.a) := HM9.out.cell 7
        have c8 : w9.cell? ⟨w.heap.size + 1, 8, none⟩ = some (.bool m.t) := HM9.out.cell 8
        have c9 : w9.cell? ⟨w.heap.size + 1, 9, none⟩ = some (vl) := HM9.out.cell 9
        have c10 : w9.cell? ⟨w.heap.size + 1, 10, none⟩ = some (vn) := HM9.out.cell 10
        go_wp2_with fail
        clear a0 a1 a2 a3 c0 c1 c2 c3 c4 c5 c6 c7 c8 c9 c10
        refine HG.out.mono ?_
        rintro y w2 ⟨hb2, pi2, ci2, po2, co2, vs, rfl, hdr, hati, hato, hown⟩
        have HR2 := Lib.hid (HR9.out.below hb2 HR9.out.lt)
        have HB2 := Lib.hid (HB9.out.trans (hb2.mono HB9.out.size))
        have HZ7 : Hid (w.heap.size + 1 + 1 < w9.heap.size ∧ w.heap.size ≤ w9.heap.size) := ⟨HR9.out.lt, HB9.out.size⟩
        clear hb2 HG
        go_wp2_with (with_reducible refine stop_storeT 29 (.tmp 6) (.tmp 26) rfl ?_)
        have HTH : Hid (w2.there (w.heap.size + 1 + 1) 0 4) := HR2.out.thereAt
        have HF : Hid (Blk (w2.setCells (w.heap.size + 1 + 1) 0 (#[.int .i64 R.1.me, .slice pi2 R.1.xs.length ci2, .slice po2 R.1.os.length co2, .int .i64 R.1.far] : Array Value).toList) (w.heap.size + 1 + 1) #[.int .i64 R.1.me, .slice pi2 R.1.xs.length ci2, .slice po2 R.1.os.length co2, .int .i64 R.1.far] 29 ∧ Below w.heap.size w (w2.setCells (w.heap.size + 1 + 1) 0 (#[.int .i64 R.1.me, .slice pi2 R.1.xs.length ci2, .slice po2 R.1.os.length co2, .int .i64 R.1.far] : Array Value).toList) ∧ Chg (w.heap.size + 1 + 1) w2 (w2.setCells (w.heap.size + 1 + 1) 0 (#[.int .i64 R.1.me, .slice pi2 R.1.xs.length ci2, .slice po2 R.1.os.length co2, .int .i64 R.1.far] : Array Value).toList)) := ⟨blk_put_all HR2.out _ rfl, below_put (by omega) _ _ _ _ HB2.out, chg_putL _ _ _ _ _ (Chg.refl _ w2)⟩
        refine wpList_store_mid rfl 29 (.tmp 6) (.tmp 26) rfl (w.heap.size + 1 + 1) 0 #[.int .i64 R.1.me, .slice pi2 R.1.xs.length ci2, .slice po2 R.1.os.length co2, .int .i64 R.1.far] rfl rfl HTH.out (infoD4 rfl) (all_oneCell_toArray (by intro u hu; simp at hu; rcases hu with rfl | rfl | rfl | rfl <;> rfl)) ?_
        generalize World.setCells w2 _ _ _ = w8 at *
        clear HTH
        go_wp2_with fail
        have hf := HF.out.1
        have hng : ¬ (P (w.heap.size + 1 + 1) ∨ w9.heap.size ≤ w.heap.size + 1 + 1) := by
          have h2 := HZ7.out
          rintro (h | h)
          · have h4 := HW0.out _ h; omega
          · omega
        have hge : ∀ b, P b ∨ w9.heap.size ≤ b → P b ∨ w.heap.size ≤ b := fun b hb => hb.imp id (fun h => by have h2 := HZ7.out; omega)
        refine bodyPost_ret (v := .tuple #[.agg #[.int .i64 R.1.me, .slice pi2 R.1.xs.length ci2, .slice po2 R.1.os.length co2, .int .i64 R.1.far], vs, .int .i64 R.2.2]) (by simp [results, Try.results8, go_sem, hf.cell 0, hf.cell 1, hf.cell 2, hf.cell 3]) rfl ⟨HF.out.2.1, pi2, ci2, po2, co2, vs, rfl, ?_, hati.imp hge, hato.imp hge, ?_⟩
        · exact ⟨hdr.items.keepP hati (KeepP.of_chg HF.out.2.2 hng), hdr.orders.keepP hato (KeepP.of_chg HF.out.2.2 hng), hdr.sx, hdr.so, hdr.nx, hdr.no⟩
        · exact ⟨(hown.1.stay (fun b hb => HF.out.2.2.2 b (hown.1.lt b hb) (by have h1 := hown.1.block_ge b hb; have h2 := HZ7.out; omega))).less (by have h2 := HZ7.out; omega), hown.2⟩
      · skip
        have HG := Lib.hid (HW.out w9 HB9.out)
        clear HW HFF
        have a0 : w9.cell? ⟨w.heap.size, 0, none⟩ = some (.int .i64 d.me) := HD9.out.cell 0
        have a1 : w9.cell? ⟨w.heap.size, 1, none⟩ = some (.slice pi d.xs.length ci) := HD9.out.cell 1
        have a2 : w9.cell? ⟨w.heap.size, 2, none⟩ = some (.slice po d.os.length co) := HD9.out.cell 2
        have a3 : w9.cell? ⟨w.heap.size, 3, none⟩ = some (.int .i64 d.far) := HD9.out.cell 3
        have c0 : w9.cell? ⟨w.heap.size + 1, 0, none⟩ = some (.int .i64 m.k) := HM9.out.cell 0
        have c1 : w9.cell? ⟨w.heap.size + 1, 1, none⟩ = some (.int .i64 m.s) := HM9.out.cell 1
        have c2 : w9.cell? ⟨w.heap.size + 1, 2, none⟩ = some (.int .i64 m.n) := HM9.out.cell 2
        have c3 : w9.cell? ⟨w.heap.size + 1, 3, none⟩ = some (.int .i64 m.b) := HM9.out.cell 3
        have c4 : w9.cell? ⟨w.heap.size + 1, 4, none⟩ = some (.int .i64 m.c) := HM9.out.cell 4
        have c5 : w9.cell? ⟨w.heap.size + 1, 5, none⟩ = some (.int .i64 m.r) := HM9.out.cell 5
        have c6 : w9.cell? ⟨w.heap.size + 1, 6, none⟩ = some (.int .i64 m.y) := HM9.out.cell 6
        have c7 : w9.cell? ⟨w.heap.size + 1, 7, none⟩ = some (.int .i64 m.a) := HM9.out.cell 7
        have c8 : w9.cell? ⟨w.heap.size + 1, 8, none⟩ = some (.bool m.t) := HM9.out.cell 8
        have c9 : w9.cell? ⟨w.heap.size + 1, 9, none⟩ = some (vl) := HM9.out.cell 9
        have c10 : w9.cell? ⟨w.heap.size + 1, 10, none⟩ = some (vn) := HM9.out.cell 10
        go_wp2_with fail
        clear a0 a1 a2 a3 c0 c1 c2 c3 c4 c5 c6 c7 c8 c9 c10
        refine HG.out.mono ?_
        rintro y w2 ⟨hb2, pi2, ci2, po2, co2, vs, rfl, hdr, hati, hato, hown⟩
        have HR2 := Lib.hid (HR9.out.below hb2 HR9.out.lt)
        have HB2 := Lib.hid (HB9.out.trans (hb2.mono HB9.out.size))
        have HZ7 : Hid (w.heap.size + 1 + 1 < w9.heap.size ∧ w.heap.size ≤ w9.heap.size) := ⟨HR9.out.lt, HB9.out.size⟩
        clear hb2 HG
        go_wp2_with (with_reducible refine stop_storeT 29 (.tmp 6) (.tmp 26) rfl ?_)
        have HTH : Hid (w2.there (w.heap.size + 1 + 1) 0 4) := HR2.out.thereAt
        have HF : Hid (Blk (w2.setCells (w.heap.size + 1 + 1) 0 (#[.int .i64 R.1.me, .slice pi2 R.1.xs.length ci2, .slice po2 R.1.os.length co2, .int .i64 R.1.far] : Array Value).toList) (w.heap.size + 1 + 1) #[.int .i64 R.1.me, .slice pi2 R.1.xs.length ci2, .slice po2 R.1.os.length co2, .int .i64 R.1.far] 29 ∧ Below w.heap.size w (w2.setCells (w.heap.size + 1 + 1) 0 (#[.int .i64 R.1.me, .slice pi2 R.1.xs.length ci2, .slice po2 R.1.os.length co2, .int .i64 R.1.far] : Array Value).toList) ∧ Chg (w.heap.size + 1 + 1) w2 (w2.setCells (w.heap.size + 1 + 1) 0 (#[.int .i64 R.1.me, .slice pi2 R.1.xs.length ci2, .slice po2 R.1.os.length co2, .int .i64 R.1.far] : Array Value).toList)) := ⟨blk_put_all HR2.out _ rfl, below_put (by omega) _ _ _ _ HB2.out, chg_putL _ _ _ _ _ (Chg.refl _ w2)⟩
        refine wpList_store_mid rfl 29 (.tmp 6) (.tmp 26) rfl (w.heap.size + 1 + 1) 0 #[.int .i64 R.1.me, .slice pi2 R.1.xs.length ci2, .slice po2 R.1.os.length co2, .int .i64 R.1.far] rfl rfl HTH.out (infoD4 rfl) (all_oneCell_toArray (by intro u hu; simp at hu; rcases hu with rfl | rfl | rfl | rfl <;> rfl)) ?_
        generalize World.setCells w2 _ _ _ = w8 at *
        clear HTH
        go_wp2_with fail
        have hf := HF.out.1
        have hng : ¬ (P (w.heap.size + 1 + 1) ∨ w9.heap.size ≤ w.heap.size + 1 + 1) := by
          have h2 := HZ7.out
          rintro (h | h)
          · have h4 := HW0.out _ h; omega
          · omega
        have hge : ∀ b, P b ∨ w9.heap.size ≤ b → P b ∨ w.heap.size ≤ b := fun b hb => hb.imp id (fun h => by have h2 := HZ7.out; omega)
        refine bodyPost_ret (v := .tuple #[.agg #[.int .i64 R.1.me, .slice pi2 R.1.xs.length ci2, .slice po2 R.1.os.length co2, .int .i64 R.1.far], vs, .int .i64 R.2.2]) (by simp [results, Try.results8, go_sem, hf.cell 0, hf.cell 1, hf.cell 2, hf.cell 3]) rfl ⟨HF.out.2.1, pi2, ci2, po2, co2, vs, rfl, ?_, hati.imp hge, hato.imp hge, ?_⟩
        · exact ⟨hdr.items.keepP hati (KeepP.of_chg HF.out.2.2 hng), hdr.orders.keepP hato (KeepP.of_chg HF.out.2.2 hng), hdr.sx, hdr.so, hdr.nx, hdr.no⟩
        · exact ⟨(hown.1.stay (fun b hb => HF.out.2.2.2 b (hown.1.lt b hb) (by have h1 := hown.1.block_ge b hb; have h2 := HZ7.out; omega))).less (by have h2 := HZ7.out; omega), hown.2⟩
    | none =>
      rw [client_none hF]
      have HGN := Lib.hid (fun (W : World) => byNode_any W m.k)
      have HGC := Lib.hid (fun (W : World) => byClient_any W m.k)
      rw [hF] at HGC
      generalize byNodeF m.k = fo at HGN
      unfold fnO at HGC
      clear h hn hno hw0 hat hato hdo hF
      have qE := eqf
      have qN := eqn
      unfold deskV Msg.v
      go_enter Try.func8, Try.ntmps8
      go_upto_region 1 with fail
      generalize (((w.alloc (.cells #[.int .i64 d.me, .slice pi d.xs.length ci, .slice po d.os.length co, .int .i64 d.far] 29)).alloc (.cells #[.int .i64 m.k, .int .i64 m.s, .int .i64 m.n, .int .i64 m.b, .int .i64 m.c, .int .i64 m.r, .int .i64 m.y, .int .i64 m.a, .bool m.t, vl, vn] 40)).alloc (.cells #[.int .i64 0, .slice none 0 0, .slice none 0 0, .int .i64 0] 29)) = W at *
      have HG := Lib.hid (HGN.out W)
      clear HGN
      have c0 : W.cell? ⟨w.heap.size + 1, 0, none⟩ = some (.int .i64 m.k) := HT.out.b1.cell 0
      go_wp2_with fail
      clear c0
      refine HG.out.mono ?_
      rintro y w6 ⟨rfl, hb⟩
      have HD6 := Lib.hid (HT.out.b0.below hb HT.out.b0.lt)
      have HM6 := Lib.hid (HT.out.b1.below hb HT.out.b1.lt)
      have HR6 := Lib.hid (HT.out.b2.below hb HT.out.b2.lt)
      have HB6 := Lib.hid (HT.out.low.trans (hb.mono HT.out.low.size))
      clear hb HG HT
      have HG := Lib.hid (HGC.out w6)
      clear HGC
      have c0 : w6.cell? ⟨w.heap.size + 1, 0, none⟩ = some (.int .i64 m.k) := HM6.out.cell 0
      go_wp2_with fail
      clear c0
      refine HG.out.mono ?_
      rintro y w9 ⟨rfl, hb⟩
      have HD9 := Lib.hid (HD6.out.below hb HD6.out.lt)
      have HM9 := Lib.hid (HM6.out.below hb HM6.out.lt)
      have HR9 := Lib.hid (HR6.out.below hb HR6.out.lt)
      have HB9 := Lib.hid (HB6.out.trans (hb.mono HB6.out.size))
      clear hb HG HD6 HM6 HR6 HB6
      go_upto_region 5 with fail
      have a0 : w9.cell? ⟨w.heap.size, 0, none⟩ = some (.int .i64 d.me) := HD9.out.cell 0
      have a1 : w9.cell? ⟨w.heap.size, 1, none⟩ = some (.slice pi d.xs.length ci) := HD9.out.cell 1
      have a2 : w9.cell? ⟨w.heap.size, 2, none⟩ = some (.slice po d.os.length co) := HD9.out.cell 2
      have a3 : w9.cell? ⟨w.heap.size, 3, none⟩ = some (.int .i64 d.far) := HD9.out.cell 3
      have HR8 := Lib.hid HR9.out
      have HB8 := Lib.hid HB9.out
      go_wp2_with (with_reducible refine stop_storeT 29 (.tmp 6) (.tmp 20) rfl ?_)
      clear a0 a1 a2 a3
      have HTH : Hid (w9.there (w.heap.size + 1 + 1) 0 4) := HR8.out.thereAt
      have HF : Hid (Blk (w9.setCells (w.heap.size + 1 + 1) 0 (#[.int .i64 d.me, .slice pi d.xs.length ci, .slice po d.os.length co, .int .i64 d.far] : Array Value).toList) (w.heap.size + 1 + 1) #[.int .i64 d.me, .slice pi d.xs.length ci, .slice po d.os.length co, .int .i64 d.far] 29 ∧ Below w.heap.size w (w9.setCells (w.heap.size + 1 + 1) 0 (#[.int .i64 d.me, .slice pi d.xs.length ci, .slice po d.os.length co, .int .i64 d.far] : Array Value).toList)) := ⟨blk_put_all HR8.out _ rfl, below_put (by omega) _ _ _ _ HB8.out⟩
      refine wpList_store_mid rfl 29 (.tmp 6) (.tmp 20) rfl (w.heap.size + 1 + 1) 0 #[.int .i64 d.me, .slice pi d.xs.length ci, .slice po d.os.length co, .int .i64 d.far] rfl rfl HTH.out (infoD4 rfl) (all_oneCell_toArray (by intro u hu; simp at hu; rcases hu with rfl | rfl | rfl | rfl <;> rfl)) ?_
      generalize World.setCells w9 _ _ _ = w8 at *
      clear HTH
      go_wp2_with fail
      have hf := HF.out.1
      refine bodyPost_ret (v := .tuple #[.agg #[.int .i64 d.me, .slice pi d.xs.length ci, .slice po d.os.length co, .int .i64 d.far], .slice none 0 0, .int .i64 110]) (by simp [results, Try.results8, go_sem, hf.cell 0, hf.cell 1, hf.cell 2, hf.cell 3]) rfl ⟨HF.out.2, pi, ci, po, co, _, rfl, HH.out.kept HF.out.2, HA0.out.imp (fun _ h => .inl h), HO0.out.imp (fun _ h => .inl h), OwnT.nil_ _ _ _ _, Apt.nil _ _, Apt.nil _ _⟩
  · rw [if_neg hc]
    have hcb : (fro == -1) = false := by simpa using hc
    clear hc
    cases hF : byNodeF m.k with
    | some F =>
      have HW := Lib.hid (fun (W : World) (hb : Below w.heap.size w W) => node_call W d pi po ci co m vl vn fro (h.kept hb) hn P (fun b hp => Nat.lt_of_lt_of_le (hw0 b hp) hb.size) hat hato hdo F hF)
      unfold deskV Msg.v at HW
      have HFF := Lib.hid (node_F hF)
      have HGN := Lib.hid (fun (W : World) => byNode_any W m.k)
      rw [hF] at HGN
      unfold fnO at HGN
      clear h hn hno hw0 hat hato hdo hF
      have qE := eqf
      have qN := eqn
      generalize nodeM d m fro = R at *
      unfold deskV Msg.v
      go_enter Try.func8, Try.ntmps8
      go_upto_region 1 with fail
      generalize (((w.alloc (.cells #[.int .i64 d.me, .slice pi d.xs.length ci, .slice po d.os.length co, .int .i64 d.far] 29)).alloc (.cells #[.int .i64 m.k, .int .i64 m.s, .int .i64 m.n, .int .i64 m.b, .int .i64 m.c, .int .i64 m.r, .int .i64 m.y, .int .i64 m.a, .bool m.t, vl, vn] 40)).alloc (.cells #[.int .i64 0, .slice none 0 0, .slice none 0 0, .int .i64 0] 29)) = W at *
      have HG := Lib.hid (HGN.out W)
      clear HGN
      have c0 : W.cell? ⟨w.heap.size + 1, 0, none⟩ = some (.int .i64 m.k) := HT.out.b1.cell 0
      go_wp2_with fail
      clear c0
      refine HG.out.mono ?_
      rintro y w6 ⟨rfl, hb⟩
      have HD6 := Lib.hid (HT.out.b0.below hb HT.out.b0.lt)
      have HM6 := Lib.hid (HT.out.b1.below hb HT.out.b1.lt)
      have HR6 := Lib.hid (HT.out.b2.below hb HT.out.b2.lt)
      have HB6 := Lib.hid (HT.out.low.trans (hb.mono HT.out.low.size))
      clear hb HG HT
      go_upto_region 6 with fail
      rcases HFF.out with rfl | rfl | rfl | rfl
      · skip
        have HG := Lib.hid (HW.out w6 HB6.out)
        clear HW HFF
        have a0 : w6.cell? ⟨w.heap.size, 0, none⟩ = some (.int .i64 d.me) := HD6.out.cell 0
        have a1 : w6.cell? ⟨w.heap.size, 1, none⟩ = some (.slice pi d.xs.length ci) := HD6.out.cell 1
        have a2 : w6.cell? ⟨w.heap.size, 2, none⟩ = some (.slice po d.os.length co) := HD6.out.cell 2
        have a3 : w6.cell? ⟨w.heap.size, 3, none⟩ = some (.int .i64 d.far) := HD6.out.cell 3
        have c0 : w6.cell? ⟨w.heap.size + 1, 0, none⟩ = some (.int .i64 m.k) := HM6.out.cell 0
        have c1 : w6.cell? ⟨w.heap.size + 1, 1, none⟩ = some (.int .i64 m.s) := HM6.out.cell 1
        have c2 : w6.cell? ⟨w.heap.size + 1, 2, none⟩ = some (.int .i64 m.n) := HM6.out.cell 2
        have c3 : w6.cell? ⟨w.heap.size + 1, 3, none⟩ = some (.int .i64 m.b) := HM6.out.cell 3
        have c4 : w6.cell? ⟨w.heap.size + 1, 4, none⟩ = some (.int .i64 m.c) := HM6.out.cell 4
        have c5 : w6.cell? ⟨w.heap.size + 1, 5, none⟩ = some (.int .i64 m.r) := HM6.out.cell 5
        have c6 : w6.cell? ⟨w.heap.size + 1, 6, none⟩ = some (.int .i64 m.y) := HM6.out.cell 6
        have c7 : w6.cell? ⟨w.heap.size + 1, 7, none⟩ = some (.int .i64 m.a) := HM6.out.cell 7
        have c8 : w6.cell? ⟨w.heap.size + 1, 8, none⟩ = some (.bool m.t) := HM6.out.cell 8
        have c9 : w6.cell? ⟨w.heap.size + 1, 9, none⟩ = some (vl) := HM6.out.cell 9
        have c10 : w6.cell? ⟨w.heap.size + 1, 10, none⟩ = some (vn) := HM6.out.cell 10
        go_wp2_with fail
        clear a0 a1 a2 a3 c0 c1 c2 c3 c4 c5 c6 c7 c8 c9 c10
        refine HG.out.mono ?_
        rintro y w2 ⟨hb2, pi2, ci2, po2, co2, vs, rfl, hdr, hati, hato, hown⟩
        have HR2 := Lib.hid (HR6.out.below hb2 HR6.out.lt)
        have HB2 := Lib.hid (HB6.out.trans (hb2.mono HB6.out.size))
        have HZ7 : Hid (w.heap.size + 1 + 1 < w6.heap.size ∧ w.heap.size ≤ w6.heap.size) := ⟨HR6.out.lt, HB6.out.size⟩
        clear hb2 HG
        go_wp2_with (with_reducible refine stop_storeT 29 (.tmp 6) (.tmp 26) rfl ?_)
        have HTH : Hid (w2.there (w.heap.size + 1 + 1) 0 4) := HR2.out.thereAt
        have HF : Hid (Blk (w2.setCells (w.heap.size + 1 + 1) 0 (#[.int .i64 R.1.me, .slice pi2 R.1.xs.length ci2, .slice po2 R.1.os.length co2, .int .i64 R.1.far] : Array Value).toList) (w.heap.size + 1 + 1) #[.int .i64 R.1.me, .slice pi2 R.1.xs.length ci2, .slice po2 R.1.os.length co2, .int .i64 R.1.far] 29 ∧ Below w.heap.size w (w2.setCells (w.heap.size + 1 + 1) 0 (#[.int .i64 R.1.me, .slice pi2 R.1.xs.length ci2, .slice po2 R.1.os.length co2, .int .i64 R.1.far] : Array Value).toList) ∧ Chg (w.heap.size + 1 + 1) w2 (w2.setCells (w.heap.size + 1 + 1) 0 (#[.int .i64 R.1.me, .slice pi2 R.1.xs.length ci2, .slice po2 R.1.os.length co2, .int .i64 R.1.far] : Array Value).toList)) := ⟨blk_put_all HR2.out _ rfl, below_put (by omega) _ _ _ _ HB2.out, chg_putL _ _ _ _ _ (Chg.refl _ w2)⟩
        refine wpList_store_mid rfl 29 (.tmp 6) (.tmp 26) rfl (w.heap.size + 1 + 1) 0 #[.int .i64 R.1.me, .slice pi2 R.1.xs.length ci2, .slice po2 R.1.os.length co2, .int .i64 R.1.far] rfl rfl HTH.out (infoD4 rfl) (all_oneCell_toArray (by intro u hu; simp at hu; rcases hu with rfl | rfl | rfl | rfl <;> rfl)) ?_
        generalize World.setCells w2 _ _ _ = w8 at *
        clear HTH
        go_wp2_with fail
        have hf := HF.out.1
        have hng : ¬ (P (w.heap.size + 1 + 1) ∨ w6.heap.size ≤ w.heap.size + 1 + 1) := by
          have h2 := HZ7.out
          rintro (h | h)
          · have h4 := HW0.out _ h; omega
          · omega
        have hge : ∀ b, P b ∨ w6.heap.size ≤ b → P b ∨ w.heap.size ≤ b := fun b hb => hb.imp id (fun h => by have h2 := HZ7.out; omega)
        refine bodyPost_ret (v := .tuple #[.agg #[.int .i64 R.1.me, .slice pi2 R.1.xs.length ci2, .slice po2 R.1.os.length co2, .int .i64 R.1.far], vs, .int .i64 R.2.2]) (by simp [results, Try.results8, go_sem, hf.cell 0, hf.cell 1, hf.cell 2, hf.cell 3]) rfl ⟨HF.out.2.1, pi2, ci2, po2, co2, vs, rfl, ?_, hati.imp hge, hato.imp hge, ?_⟩
        · exact ⟨hdr.items.keepP hati (KeepP.of_chg HF.out.2.2 hng), hdr.orders.keepP hato (KeepP.of_chg HF.out.2.2 hng), hdr.sx, hdr.so, hdr.nx, hdr.no⟩
        · exact ⟨(hown.1.stay (fun b hb => HF.out.2.2.2 b (hown.1.lt b hb) (by have h1 := hown.1.block_ge b hb; have h2 := HZ7.out; omega))).less (by have h2 := HZ7.out; omega), hown.2⟩
      · skip
        have HG := Lib.hid (HW.out w6 HB6.out)
        clear HW HFF
        have a0 : w6.cell? ⟨w.heap.size, 0, none⟩ = some (.int .i64 d.me) := HD6.out.cell 0
        have a1 : w6.cell? ⟨w.heap.size, 1, none⟩ = some (.slice pi d.xs.length ci) := HD6.out.cell 1
        have a2 : w6.cell? ⟨w.heap.size, 2, none⟩ = some (.slice po d.os.length co) := HD6.out.cell 2
        have a3 : w6.cell? ⟨w.heap.size, 3, none⟩ = some (.int .i64 d.far) := HD6.out.cell 3
        have c0 : w6.cell? ⟨w.heap.size + 1, 0, none⟩ = some (.int .i64 m.k) := HM6.out.cell 0
        have c1 : w6.cell? ⟨w.heap.size + 1, 1, none⟩ = some (.int .i64 m.s) := HM6.out.cell 1
        have c2 : w6.cell? ⟨w.heap.size + 1, 2, none⟩ = some (.int .i64 m.n) := HM6.out.cell 2
        have c3 : w6.cell? ⟨w.heap.size + 1, 3, none⟩ = some (.int .i64 m.b) := HM6.out.cell 3
        have c4 : w6.cell? ⟨w.heap.size + 1, 4, none⟩ = some (.int .i64 m.c) := HM6.out.cell 4
        have c5 : w6.cell? ⟨w.heap.size + 1, 5, none⟩ = some (.int .i64 m.r) := HM6.out.cell 5
        have c6 : w6.cell? ⟨w.heap.size + 1, 6, none⟩ = some (.int .i64 m.y) := HM6.out.cell 6
        have c7 : w6.cell? ⟨w.heap.size + 1, 7, none⟩ = some (.int .i64 m.a) := HM6.out.cell 7
        have c8 : w6.cell? ⟨w.heap.size + 1, 8, none⟩ = some (.bool m.t) := HM6.out.cell 8
        have c9 : w6.cell? ⟨w.heap.size + 1, 9, none⟩ = some (vl) := HM6.out.cell 9
        have c10 : w6.cell? ⟨w.heap.size + 1, 10, none⟩ = some (vn) := HM6.out.cell 10
        go_wp2_with fail
        clear a0 a1 a2 a3 c0 c1 c2 c3 c4 c5 c6 c7 c8 c9 c10
        refine HG.out.mono ?_
        rintro y w2 ⟨hb2, pi2, ci2, po2, co2, vs, rfl, hdr, hati, hato, hown⟩
        have HR2 := Lib.hid (HR6.out.below hb2 HR6.out.lt)
        have HB2 := Lib.hid (HB6.out.trans (hb2.mono HB6.out.size))
        have HZ7 : Hid (w.heap.size + 1 + 1 < w6.heap.size ∧ w.heap.size ≤ w6.heap.size) := ⟨HR6.out.lt, HB6.out.size⟩
        clear hb2 HG
        go_wp2_with (with_reducible refine stop_storeT 29 (.tmp 6) (.tmp 26) rfl ?_)
        have HTH : Hid (w2.there (w.heap.size + 1 + 1) 0 4) := HR2.out.thereAt
        have HF : Hid (Blk (w2.setCells (w.heap.size + 1 + 1) 0 (#[.int .i64 R.1.me, .slice pi2 R.1.xs.length ci2, .slice po2 R.1.os.length co2, .int .i64 R.1.far] : Array Value).toList) (w.heap.size + 1 + 1) #[.int .i64 R.1.me, .slice pi2 R.1.xs.length ci2, .slice po2 R.1.os.length co2, .int .i64 R.1.far] 29 ∧ Below w.heap.size w (w2.setCells (w.heap.size + 1 + 1) 0 (#[.int .i64 R.1.me, .slice pi2 R.1.xs.length ci2, .slice po2 R.1.os.length co2, .int .i64 R.1.far] : Array Value).toList) ∧ Chg (w.heap.size + 1 + 1) w2 (w2.setCells (w.heap.size + 1 + 1) 0 (#[.int .i64 R.1.me, .slice pi2 R.1.xs.length ci2, .slice po2 R.1.os.length co2, .int .i64 R.1.far] : Array Value).toList)) := ⟨blk_put_all HR2.out _ rfl, below_put (by omega) _ _ _ _ HB2.out, chg_putL _ _ _ _ _ (Chg.refl _ w2)⟩
        refine wpList_store_mid rfl 29 (.tmp 6) (.tmp 26) rfl (w.heap.size + 1 + 1) 0 #[.int .i64 R.1.me, .slice pi2 R.1.xs.length ci2, .slice po2 R.1.os.length co2, .int .i64 R.1.far] rfl rfl HTH.out (infoD4 rfl) (all_oneCell_toArray (by intro u hu; simp at hu; rcases hu with rfl | rfl | rfl | rfl <;> rfl)) ?_
        generalize World.setCells w2 _ _ _ = w8 at *
        clear HTH
        go_wp2_with fail
        have hf := HF.out.1
        have hng : ¬ (P (w.heap.size + 1 + 1) ∨ w6.heap.size ≤ w.heap.size + 1 + 1) := by
          have h2 := HZ7.out
          rintro (h | h)
          · have h4 := HW0.out _ h; omega
          · omega
        have hge : ∀ b, P b ∨ w6.heap.size ≤ b → P b ∨ w.heap.size ≤ b := fun b hb => hb.imp id (fun h => by have h2 := HZ7.out; omega)
        refine bodyPost_ret (v := .tuple #[.agg #[.int .i64 R.1.me, .slice pi2 R.1.xs.length ci2, .slice po2 R.1.os.length co2, .int .i64 R.1.far], vs, .int .i64 R.2.2]) (by simp [results, Try.results8, go_sem, hf.cell 0, hf.cell 1, hf.cell 2, hf.cell 3]) rfl ⟨HF.out.2.1, pi2, ci2, po2, co2, vs, rfl, ?_, hati.imp hge, hato.imp hge, ?_⟩
        · exact ⟨hdr.items.keepP hati (KeepP.of_chg HF.out.2.2 hng), hdr.orders.keepP hato (KeepP.of_chg HF.out.2.2 hng), hdr.sx, hdr.so, hdr.nx, hdr.no⟩
        · exact ⟨(hown.1.stay (fun b hb => HF.out.2.2.2 b (hown.1.lt b hb) (by have h1 := hown.1.block_ge b hb; have h2 := HZ7.out; omega))).less (by have h2 := HZ7.out; omega), hown.2⟩
      · skip
        have HG := Lib.hid (HW.out w6 HB6.out)
        clear HW HFF
        have a0 : w6.cell? ⟨w.heap.size, 0, none⟩ = some (.int .i64 d.me) := HD6.out.cell 0
        have a1 : w6.cell? ⟨w.heap.size, 1, none⟩ = some (.slice pi d.xs.length ci) := HD6.out.cell 1
        have a2 : w6.cell? ⟨w.heap.size, 2, none⟩ = some (.slice po d.os.length co) := HD6.out.cell 2
        have a3 : w6.cell? ⟨w.heap.size, 3, none⟩ = some (.int .i64 d.far) := HD6.out.cell 3
        have c0 : w6.cell? ⟨w.heap.size + 1, 0, none⟩ = some (.int .i64 m.k) := HM6.out.cell 0
        have c1 : w6.cell? ⟨w.heap.size + 1, 1, none⟩ = some (.int .i64 m.s) := HM6.out.cell 1
        have c2 : w6.cell? ⟨w.heap.size + 1, 2, none⟩ = some (.int .i64 m.n) := HM6.out.cell 2
        have c3 : w6.cell? ⟨w.heap.size + 1, 3, none⟩ = some (.int .i64 m.b) := HM6.out.cell 3
        have c4 : w6.cell? ⟨w.heap.size + 1, 4, none⟩ = some (.int .i64 m.c) := HM6.out.cell 4
        have c5 : w6.cell? ⟨w.heap.size + 1, 5, none⟩ = some (.int .i64 m.r) := HM6.out.cell 5
        have c6 : w6.cell? ⟨w.heap.size + 1, 6, none⟩ = some (.int .i64 m.y) := HM6.out.cell 6
        have c7 : w6.cell? ⟨w.heap.size + 1, 7, none⟩ = some (.int .i64 m.a) := HM6.out.cell 7
        have c8 : w6.cell? ⟨w.heap.size + 1, 8, none⟩ = some (.bool m.t) := HM6.out.cell 8
        have c9 : w6.cell? ⟨w.heap.size + 1, 9, none⟩ = some (vl) := HM6.out.cell 9
        have c10 : w6.cell? ⟨w.heap.size + 1, 10, none⟩ = some (vn) := HM6.out.cell 10
        go_wp2_with fail
        clear a0 a1 a2 a3 c0 c1 c2 c3 c4 c5 c6 c7 c8 c9 c10
        refine HG.out.mono ?_
        rintro y w2 ⟨hb2, pi2, ci2, po2, co2, vs, rfl, hdr, hati, hato, hown⟩
        have HR2 := Lib.hid (HR6.out.below hb2 HR6.out.lt)
        have HB2 := Lib.hid (HB6.out.trans (hb2.mono HB6.out.size))
        have HZ7 : Hid (w.heap.size + 1 + 1 < w6.heap.size ∧ w.heap.size ≤ w6.heap.size) := ⟨HR6.out.lt, HB6.out.size⟩
        clear hb2 HG
        go_wp2_with (with_reducible refine stop_storeT 29 (.tmp 6) (.tmp 26) rfl ?_)
        have HTH : Hid (w2.there (w.heap.size + 1 + 1) 0 4) := HR2.out.thereAt
        have HF : Hid (Blk (w2.setCells (w.heap.size + 1 + 1) 0 (#[.int .i64 R.1.me, .slice pi2 R.1.xs.length ci2, .slice po2 R.1.os.length co2, .int .i64 R.1.far] : Array Value).toList) (w.heap.size + 1 + 1) #[.int .i64 R.1.me, .slice pi2 R.1.xs.length ci2, .slice po2 R.1.os.length co2, .int .i64 R.1.far] 29 ∧ Below w.heap.size w (w2.setCells (w.heap.size + 1 + 1) 0 (#[.int .i64 R.1.me, .slice pi2 R.1.xs.length ci2, .slice po2 R.1.os.length co2, .int .i64 R.1.far] : Array Value).toList) ∧ Chg (w.heap.size + 1 + 1) w2 (w2.setCells (w.heap.size + 1 + 1) 0 (#[.int .i64 R.1.me, .slice pi2 R.1.xs.length ci2, .slice po2 R.1.os.length co2, .int .i64 R.1.far] : Array Value).toList)) := ⟨blk_put_all HR2.out _ rfl, below_put (by omega) _ _ _ _ HB2.out, chg_putL _ _ _ _ _ (Chg.refl _ w2)⟩
        refine wpList_store_mid rfl 29 (.tmp 6) (.tmp 26) rfl (w.heap.size + 1 + 1) 0 #[.int .i64 R.1.me, .slice pi2 R.1.xs.length ci2, .slice po2 R.1.os.length co2, .int .i64 R.1.far] rfl rfl HTH.out (infoD4 rfl) (all_oneCell_toArray (by intro u hu; simp at hu; rcases hu with rfl | rfl | rfl | rfl <;> rfl)) ?_
        generalize World.setCells w2 _ _ _ = w8 at *
        clear HTH
        go_wp2_with fail
        have hf := HF.out.1
        have hng : ¬ (P (w.heap.size + 1 + 1) ∨ w6.heap.size ≤ w.heap.size + 1 + 1) := by
          have h2 := HZ7.out
          rintro (h | h)
          · have h4 := HW0.out _ h; omega
          · omega
        have hge : ∀ b, P b ∨ w6.heap.size ≤ b → P b ∨ w.heap.size ≤ b := fun b hb => hb.imp id (fun h => by have h2 := HZ7.out; omega)
        refine bodyPost_ret (v := .tuple #[.agg #[.int .i64 R.1.me, .slice pi2 R.1.xs.length ci2, .slice po2 R.1.os.length co2, .int .i64 R.1.far], vs, .int .i64 R.2.2]) (by simp [results, Try.results8, go_sem, hf.cell 0, hf.cell 1, hf.cell 2, hf.cell 3]) rfl ⟨HF.out.2.1, pi2, ci2, po2, co2, vs, rfl, ?_, hati.imp hge, hato.imp hge, ?_⟩
        · exact ⟨hdr.items.keepP hati (KeepP.of_chg HF.out.2.2 hng), hdr.orders.keepP hato (KeepP.of_chg HF.out.2.2 hng), hdr.sx, hdr.so, hdr.nx, hdr.no⟩
        · exact ⟨(hown.1.stay (fun b hb => HF.out.2.2.2 b (hown.1.lt b hb) (by have h1 := hown.1.block_ge b hb; have h2 := HZ7.out; omega))).less (by have h2 := HZ7.out; omega), hown.2⟩
      · skip
        have HG := Lib.hid (HW.out w6 HB6.out)
        clear HW HFF
        have a0 : w6.cell? ⟨w.heap.size, 0, none⟩ = some (.int .i64 d.me) := HD6.out.cell 0
        have a1 : w6.cell? ⟨w.heap.size, 1, none⟩ = some (.slice pi d.xs.length ci) := HD6.out.cell 1
        have a2 : w6.cell? ⟨w.heap.size, 2, none⟩ = some (.slice po d.os.length co) := HD6.out.cell 2
        have a3 : w6.cell? ⟨w.heap.size, 3, none⟩ = some (.int .i64 d.far) := HD6.out.cell 3
        have c0 : w6.cell? ⟨w.heap.size + 1, 0, none⟩ = some (.int .i64 m.k) := HM6.out.cell 0
        have c1 : w6.cell? ⟨w.heap.size + 1, 1, none⟩ = some (.int .i64 m.s) := HM6.out.cell 1
        have c2 : w6.cell? ⟨w.heap.size + 1, 2, none⟩ = some (.int .i64 m.n) := HM6.out.cell 2
        have c3 : w6.cell? ⟨w.heap.size + 1, 3, none⟩ = some (.int .i64 m.b) := HM6.out.cell 3
        have c4 : w6.cell? ⟨w.heap.size + 1, 4, none⟩ = some (.int .i64 m.c) := HM6.out.cell 4
        have c5 : w6.cell? ⟨w.heap.size + 1, 5, none⟩ = some (.int .i64 m.r) := HM6.out.cell 5
        have c6 : w6.cell? ⟨w.heap.size + 1, 6, none⟩ = some (.int .i64 m.y) := HM6.out.cell 6
        have c7 : w6.cell? ⟨w.heap.size + 1, 7, none⟩ = some (.int .i64 m.a) := HM6.out.cell 7
        have c8 : w6.cell? ⟨w.heap.size + 1, 8, none⟩ = some (.bool m.t) := HM6.out.cell 8
        have c9 : w6.cell? ⟨w.heap.size + 1, 9, none⟩ = some (vl) := HM6.out.cell 9
        have c10 : w6.cell? ⟨w.heap.size + 1, 10, none⟩ = some (vn) := HM6.out.cell 10
        go_wp2_with fail
        clear a0 a1 a2 a3 c0 c1 c2 c3 c4 c5 c6 c7 c8 c9 c10
        refine HG.out.mono ?_
        rintro y w2 ⟨hb2, pi2, ci2, po2, co2, vs, rfl, hdr, hati, hato, hown⟩
        have HR2 := Lib.hid (HR6.out.below hb2 HR6.out.lt)
        have HB2 := Lib.hid (HB6.out.trans (hb2.mono HB6.out.size))
        have HZ7 : Hid (w.heap.size + 1 + 1 < w6.heap.size ∧ w.heap.size ≤ w6.heap.size) := ⟨HR6.out.lt, HB6.out.size⟩
        clear hb2 HG
        go_wp2_with (with_reducible refine stop_storeT 29 (.tmp 6) (.tmp 26) rfl ?_)
        have HTH : Hid (w2.there (w.heap.size + 1 + 1) 0 4) := HR2.out.thereAt
        have HF : Hid (Blk (w2.setCells (w.heap.size + 1 + 1) 0 (#[.int .i64 R.1.me, .slice pi2 R.1.xs.length ci2, .slice po2 R.1.os.length co2, .int .i64 R.1.far] : Array Value).toList) (w.heap.size + 1 + 1) #[.int .i64 R.1.me, .slice pi2 R.1.xs.length ci2, .slice po2 R.1.os.length co2, .int .i64 R.1.far] 29 ∧ Below w.heap.size w (w2.setCells (w.heap.size + 1 + 1) 0 (#[.int .i64 R.1.me, .slice pi2 R.1.xs.length ci2, .slice po2 R.1.os.length co2, .int .i64 R.1.far] : Array Value).toList) ∧ Chg (w.heap.size + 1 + 1) w2 (w2.setCells (w.heap.size + 1 + 1) 0 (#[.int .i64 R.1.me, .slice pi2 R.1.xs.length ci2, .slice po2 R.1.os.length co2, .int .i64 R.1.far] : Array Value).toList)) := ⟨blk_put_all HR2.out _ rfl, below_put (by omega) _ _ _ _ HB2.out, chg_putL _ _ _ _ _ (Chg.refl _ w2)⟩
        refine wpList_store_mid rfl 29 (.tmp 6) (.tmp 26) rfl (w.heap.size + 1 + 1) 0 #[.int .i64 R.1.me, .slice pi2 R.1.xs.length ci2, .slice po2 R.1.os.length co2, .int .i64 R.1.far] rfl rfl HTH.out (infoD4 rfl) (all_oneCell_toArray (by intro u hu; simp at hu; rcases hu with rfl | rfl | rfl | rfl <;> rfl)) ?_
        generalize World.setCells w2 _ _ _ = w8 at *
        clear HTH
        go_wp2_with fail
        have hf := HF.out.1
        have hng : ¬ (P (w.heap.size + 1 + 1) ∨ w6.heap.size ≤ w.heap.size + 1 + 1) := by
          have h2 := HZ7.out
          rintro (h | h)
          · have h4 := HW0.out _ h; omega
          · omega
        have hge : ∀ b, P b ∨ w6.heap.size ≤ b → P b ∨ w.heap.size ≤ b := fun b hb => hb.imp id (fun h => by have h2 := HZ7.out; omega)
        refine bodyPost_ret (v := .tuple #[.agg #[.int .i64 R.1.me, .slice pi2 R.1.xs.length ci2, .slice po2 R.1.os.length co2, .int .i64 R.1.far], vs, .int .i64 R.2.2]) (by simp [results, Try.results8, go_sem, hf.cell 0, hf.cell 1, hf.cell 2, hf.cell 3]) rfl ⟨HF.out.2.1, pi2, ci2, po2, co2, vs, rfl, ?_, hati.imp hge, hato.imp hge, ?_⟩
        · exact ⟨hdr.items.keepP hati (KeepP.of_chg HF.out.2.2 hng), hdr.orders.keepP hato (KeepP.of_chg HF.out.2.2 hng), hdr.sx, hdr.so, hdr.nx, hdr.no⟩
        · exact ⟨(hown.1.stay (fun b hb => HF.out.2.2.2 b (hown.1.lt b hb) (by have h1 := hown.1.block_ge b hb; have h2 := HZ7.out; omega))).less (by have h2 := HZ7.out; omega), hown.2⟩
    | none =>
      rw [node_none hF]
      have HGN := Lib.hid (fun (W : World) => byNode_any W m.k)
      rw [hF] at HGN
      unfold fnO at HGN
      clear h hn hno hw0 hat hato hdo hF
      have qE := eqf
      have qN := eqn
      unfold deskV Msg.v
      go_enter Try.func8, Try.ntmps8
      go_upto_region 1 with fail
      generalize (((w.alloc (.cells #[.int .i64 d.me, .slice pi d.xs.length ci, .slice po d.os.length co, .int .i64 d.far] 29)).alloc (.cells #[.int .i64 m.k, .int .i64 m.s, .int .i64 m.n, .int .i64 m.b, .int .i64 m.c, .int .i64 m.r, .int .i64 m.y, .int .i64 m.a, .bool m.t, vl, vn] 40)).alloc (.cells #[.int .i64 0, .slice none 0 0, .slice none 0 0, .int .i64 0] 29)) = W at *
      have HG := Lib.hid (HGN.out W)
      clear HGN
      have c0 : W.cell? ⟨w.heap.size + 1, 0, none⟩ = some (.int .i64 m.k) := HT.out.b1.cell 0
      go_wp2_with fail
      clear c0
      refine HG.out.mono ?_
      rintro y w6 ⟨rfl, hb⟩
      have HD6 := Lib.hid (HT.out.b0.below hb HT.out.b0.lt)
      have HM6 := Lib.hid (HT.out.b1.below hb HT.out.b1.lt)
      have HR6 := Lib.hid (HT.out.b2.below hb HT.out.b2.lt)
      have HB6 := Lib.hid (HT.out.low.trans (hb.mono HT.out.low.size))
      clear hb HG HT
      go_upto_region 5 with fail
      have a0 : w6.cell? ⟨w.heap.size, 0, none⟩ = some (.int .i64 d.me) := HD6.out.cell 0
      have a1 : w6.cell? ⟨w.heap.size, 1, none⟩ = some (.slice pi d.xs.length ci) := HD6.out.cell 1
      have a2 : w6.cell? ⟨w.heap.size, 2, none⟩ = some (.slice po d.os.length co) := HD6.out.cell 2
      have a3 : w6.cell? ⟨w.heap.size, 3, none⟩ = some (.int .i64 d.far) := HD6.out.cell 3
      have HR8 := Lib.hid HR6.out
      have HB8 := Lib.hid HB6.out
      go_wp2_with (with_reducible refine stop_storeT 29 (.tmp 6) (.tmp 20) rfl ?_)
      clear a0 a1 a2 a3
      have HTH : Hid (w6.there (w.heap.size + 1 + 1) 0 4) := HR8.out.thereAt
      have HF : Hid (Blk (w6.setCells (w.heap.size + 1 + 1) 0 (#[.int .i64 d.me, .slice pi d.xs.length ci, .slice po d.os.length co, .int .i64 d.far] : Array Value).toList) (w.heap.size + 1 + 1) #[.int .i64 d.me, .slice pi d.xs.length ci, .slice po d.os.length co, .int .i64 d.far] 29 ∧ Below w.heap.size w (w6.setCells (w.heap.size + 1 + 1) 0 (#[.int .i64 d.me, .slice pi d.xs.length ci, .slice po d.os.length co, .int .i64 d.far] : Array Value).toList)) := ⟨blk_put_all HR8.out _ rfl, below_put (by omega) _ _ _ _ HB8.out⟩
      refine wpList_store_mid rfl 29 (.tmp 6) (.tmp 20) rfl (w.heap.size + 1 + 1) 0 #[.int .i64 d.me, .slice pi d.xs.length ci, .slice po d.os.length co, .int .i64 d.far] rfl rfl HTH.out (infoD4 rfl) (all_oneCell_toArray (by intro u hu; simp at hu; rcases hu with rfl | rfl | rfl | rfl <;> rfl)) ?_
      generalize World.setCells w6 _ _ _ = w8 at *
      clear HTH
      go_wp2_with fail
      have hf := HF.out.1
      refine bodyPost_ret (v := .tuple #[.agg #[.int .i64 d.me, .slice pi d.xs.length ci, .slice po d.os.length co, .int .i64 d.far], .slice none 0 0, .int .i64 110]) (by simp [results, Try.results8, go_sem, hf.cell 0, hf.cell 1, hf.cell 2, hf.cell 3]) rfl ⟨HF.out.2, pi, ci, po, co, _, rfl, HH.out.kept HF.out.2, HA0.out.imp (fun _ h => .inl h), HO0.out.imp (fun _ h => .inl h), OwnT.nil_ _ _ _ _, Apt.nil _ _, Apt.nil _ _⟩
end Go.Proofs.Ytbpfbebebppleaa
namespace Go.Proofs.Ytbpfbebebppleaa
open Go.RowKit
set_option linter.unusedSimpArgs false
def dcells (d : Dsk) (pi : Option Addr) (ci : Nat) (po : Option Addr) (co : Nat) : Array Value := #[.int .i64 d.me, .slice pi d.xs.length ci, .slice po d.os.length co, .int .i64 d.far]
/-- What a desk's rows are. -/
structure DkR (P : Nat → Prop) (w : World) (d : Dsk) (pi : Option Addr) (ci : Nat) (po : Option Addr) (co : Nat) : Prop where
  row : DRow w d pi ci po co
  ai : At P (.slice pi d.xs.length ci) d.xs.length
  ao : At P (.slice po d.os.length co) d.os.length
  ok : d.Ok
section
variable {P Q : Nat → Prop} {w w' : World} {d d2 : Dsk} {pi po : Option Addr} {ci co : Nat}
theorem DkR.kept (h : DkR P w d pi ci po co) (hb : Below w.heap.size w w') : DkR P w' d pi ci po co := ⟨h.row.kept hb, h.ai, h.ao, h.ok⟩
theorem DkR.keepP (h : DkR P w d pi ci po co) (hb : KeepP P w w') : DkR P w' d pi ci po co := ⟨⟨h.row.items.keepP h.ai hb, h.row.orders.keepP h.ao hb, h.row.sx, h.row.so, h.row.nx, h.row.no⟩, h.ai, h.ao, h.ok⟩
theorem DkR.imp (h : DkR P w d pi ci po co) (hq : ∀ b, P b → Q b) : DkR Q w d pi ci po co := ⟨h.row, h.ai.imp hq, h.ao.imp hq, h.ok⟩
theorem DkR.lt (h : DkR P w d pi ci po co) : DkR (fun b => P b ∧ b < w.heap.size) w d pi ci po co := by
  refine ⟨h.row, ?_, ?_, h.ok⟩
  · intro b o n c e hn
    obtain ⟨b', o', e1, hb, _⟩ := h.row.items.at_ 0 hn
    cases e
    cases e1
    exact ⟨h.ai _ _ _ _ rfl hn, hb⟩
  · intro b o n c e hn
    obtain ⟨b', o', e1, hb, _⟩ := h.row.orders.at_ 0 hn
    cases e
    cases e1
    exact ⟨h.ao _ _ _ _ rfl hn, hb⟩
theorem DkR.do_ (h : DkR P w d pi ci po co) (hn : d.xs.length < 1024) (hno : d.os.length < 1024) (m : Msg) (vl vn : Value) (fro : Int) (out : List (Int × Msg)) (e : Int) (hR : doM d m fro = (d2, out, e)) :
    Calls Try.prog 8 #[.agg (dcells d pi ci po co), m.v vl vn, .int .i64 fro] w fun y w' => Below w.heap.size w w' ∧ ∃ pi2 ci2 po2 co2 vs, y = .returned (.tuple #[.agg (dcells d2 pi2 ci2 po2 co2), vs, .int .i64 e]) ∧ DkR (fun b => P b ∨ w.heap.size ≤ b) w' d2 pi2 ci2 po2 co2 ∧ OwnT encS w' w.heap.size 58 vs (out.map sdX) := by
  have hl := h.lt
  refine (do_any w d pi po ci co m vl vn fro h.row hn (fun b => P b ∧ b < w.heap.size) (fun b hb => hb.2) hno hl.ai hl.ao h.ok).mono ?_
  have hok := do_ok h.ok m fro
  rw [hR]
  rw [hR] at hok
  rintro y w' ⟨hb, pi2, ci2, po2, co2, vs, rfl, hr, hi, ho, hown⟩
  exact ⟨hb, pi2, ci2, po2, co2, vs, rfl, ⟨hr, hi.imp (fun b hb => hb.imp And.left id), ho.imp (fun b hb => hb.imp And.left id), hok.1⟩, hown.1⟩
theorem DkR.do_apt (h : DkR P w d pi ci po co) (hn : d.xs.length < 1024) (hno : d.os.length < 1024) (m : Msg) (vl vn : Value) (fro : Int) (out : List (Int × Msg)) (e : Int) (hR : doM d m fro = (d2, out, e)) :
    Calls Try.prog 8 #[.agg (dcells d pi ci po co), m.v vl vn, .int .i64 fro] w fun y w' => Below w.heap.size w w' ∧ ∃ pi2 ci2 po2 co2 vs, y = .returned (.tuple #[.agg (dcells d2 pi2 ci2 po2 co2), vs, .int .i64 e]) ∧ DkR (fun b => P b ∨ w.heap.size ≤ b) w' d2 pi2 ci2 po2 co2 ∧ OwnT encS w' w.heap.size 58 vs (out.map sdX) ∧ Apt vs (.slice pi2 d2.xs.length ci2) d2.xs.length ∧ Apt vs (.slice po2 d2.os.length co2) d2.os.length := by
  have hl := h.lt
  refine (do_any w d pi po ci co m vl vn fro h.row hn (fun b => P b ∧ b < w.heap.size) (fun b hb => hb.2) hno hl.ai hl.ao h.ok).mono ?_
  have hok := do_ok h.ok m fro
  rw [hR]
  rw [hR] at hok
  rintro y w' ⟨hb, pi2, ci2, po2, co2, vs, rfl, hr, hi, ho, hown⟩
  exact ⟨hb, pi2, ci2, po2, co2, vs, rfl, ⟨hr, hi.imp (fun b hb => hb.imp And.left id), ho.imp (fun b hb => hb.imp And.left id), hok.1⟩, hown⟩
end
theorem own1 {w : World} {g : Nat} {vs : Value} {y : SdX} (h : OwnT encS w g 58 vs [y]) : ∃ b o c, vs = .slice (some ⟨b, o, none⟩) 1 c ∧ g ≤ b ∧ b < w.heap.size ∧ ∀ q, q < 12 → w.cell? ⟨b, o + q, none⟩ = (SdX.cells y)[q]? := by
  obtain ⟨p, c, rfl⟩ := h.form
  obtain ⟨b, o, e1, hb, hc⟩ := h.row.at_ 0 (by simp)
  subst e1
  refine ⟨b, o, c, rfl, h.block_ge b rfl, hb, fun q hq => ?_⟩
  have := hc q hq
  simp only [Nat.zero_mul, Nat.add_zero, List.getElem_cons_zero] at this
  exact this
theorem own0 {w : World} {g : Nat} {vs : Value} (h : OwnT encS w g 58 vs []) : ∃ p c, vs = .slice p 0 c := h.form
def dsk0 (me far : Int) : Dsk := ⟨me, far, [], []⟩
theorem dkR0 (P : Nat → Prop) (w : World) (me far : Int) (h : 0 ≤ me ∧ me < 8) (hf : Fits far) : DkR P w (dsk0 me far) none 0 none 0 :=
  ⟨⟨TRow.nil_ _ _, TRow.nil_ _ _, List.Pairwise.nil, List.Pairwise.nil, by simp [dsk0], by simp [dsk0]⟩, At.nil_ _ _, At.nil_ _ _, ⟨h, hf, (fun _ hx => by cases hx), (fun _ hx => by cases hx)⟩⟩
set_option linter.unusedSimpArgs false in
set_option maxHeartbeats 4000000 in
set_option maxRecDepth 100000 in
theorem desk_any (w : World) (me far : Int) (h : 0 ≤ me ∧ me < 8) : Calls Try.prog 7 #[.int .i64 me, .int .i64 far] w fun y w' => y = .returned (.tuple #[.agg #[.int .i64 me, .slice none 0 0, .slice none 0 0, .int .i64 far], .bool true]) ∧ Below w.heap.size w w' := by
  have HG := Lib.hid (newB_any (w.alloc (.cells #[.int .i64 0, .slice none 0 0, .slice none 0 0, .int .i64 0] 29)) me h)
  have HR := Lib.hid (Blk.new w #[.int .i64 0, .slice none 0 0, .slice none 0 0, .int .i64 0] 29)
  have HB := Lib.hid (oneB w (.cells #[.int .i64 0, .slice none 0 0, .slice none 0 0, .int .i64 0] 29))
  clear h
  unfold bookV at HG
  go_enter Try.func7, Try.ntmps7
  go_upto_region 1 with fail
  generalize w.alloc (.cells #[.int .i64 0, .slice none 0 0, .slice none 0 0, .int .i64 0] 29) = W at *
  go_wp2_with fail
  refine HG.out.mono ?_
  rintro y w1 ⟨rfl, hb⟩
  have HR1 : Hid (Blk (w1.alloc (.cells #[.int .i64 me, .slice none 0 0, .slice none 0 0] 27)) w.heap.size #[.int .i64 0, .slice none 0 0, .slice none 0 0, .int .i64 0] 29) := (HR.out.below hb HR.out.lt).alloc _
  have HB1 := Lib.hid ((HB.out.trans (hb.mono HB.out.size)).alloc (HB.out.trans (hb.mono HB.out.size)).size (.cells #[.int .i64 me, .slice none 0 0, .slice none 0 0] 27))
  have HQ := Lib.hid (Blk.new w1 #[.int .i64 me, .slice none 0 0, .slice none 0 0] 27)
  clear hb HG HR HB
  go_upto_region 2 with fail
  generalize w1.alloc (.cells #[.int .i64 me, .slice none 0 0, .slice none 0 0] 27) = w2 at *
  generalize w1.heap.size = gq at *
  have b0 : w2.cell? ⟨gq, 0, none⟩ = some (.int .i64 me) := HQ.out.cell 0
  have b1 : w2.cell? ⟨gq, 1, none⟩ = some (.slice none 0 0) := HQ.out.cell 1
  have b2 : w2.cell? ⟨gq, 2, none⟩ = some (.slice none 0 0) := HQ.out.cell 2
  go_wp2_with (with_reducible refine stop_storeT 29 (.tmp 4) (.tmp 15) rfl ?_)
  clear b0 b1 b2
  have HTH : Hid (w2.there w.heap.size 0 4) := HR1.out.thereAt
  have HF : Hid (Blk (w2.setCells w.heap.size 0 (#[.int .i64 me, .slice none 0 0, .slice none 0 0, .int .i64 far] : Array Value).toList) w.heap.size #[.int .i64 me, .slice none 0 0, .slice none 0 0, .int .i64 far] 29 ∧ Below w.heap.size w (w2.setCells w.heap.size 0 (#[.int .i64 me, .slice none 0 0, .slice none 0 0, .int .i64 far] : Array Value).toList)) := ⟨blk_put_all HR1.out _ rfl, below_put (Nat.le_refl _) _ _ _ _ HB1.out⟩
  refine wpList_store_mid rfl 29 (.tmp 4) (.tmp 15) rfl w.heap.size 0 #[.int .i64 me, .slice none 0 0, .slice none 0 0, .int .i64 far] rfl rfl HTH.out (infoD4 rfl) (all_oneCell_toArray (by intro u hu; simp at hu; rcases hu with rfl | rfl | rfl | rfl <;> rfl)) ?_
  generalize World.setCells w2 _ _ _ = w8 at *
  clear HTH
  go_wp2_with fail
  have hf := HF.out.1
  refine bodyPost_ret (v := .tuple #[.agg #[.int .i64 me, .slice none 0 0, .slice none 0 0, .int .i64 far], .bool true]) (by simp [results, Try.results7, go_sem, hf.cell 0, hf.cell 1, hf.cell 2, hf.cell 3]) rfl ⟨rfl, HF.out.2⟩
end Go.Proofs.Ytbpfbebebppleaa
namespace Go.Proofs.Ytbpfbebebppleaa
open Go.RowKit
set_option linter.unusedSimpArgs false
theorem cell_chg {g b o : Nat} {w w' : World} (h : Chg g w w') (hb : b < w.heap.size) (hn : b ≠ g) : w'.cell? ⟨b, o, none⟩ = w.cell? ⟨b, o, none⟩ := by
  have e := h.2 b hb hn
  simp only [World.cell?, e]
def hdA : Itm := ⟨0, 3, 1, 0, 100, 0, 1, 0⟩
def hdB : Itm := ⟨0, 3, 1, 0, 100, 0, 3, 0⟩
def hdA1 : Dsk := ⟨0, 5, [hdA], []⟩
def hdA2 : Dsk := ⟨0, 5, [hdB], []⟩
def hdB1 : Dsk := ⟨1, 5, [], [⟨0, 3, 103⟩]⟩
def hdB2 : Dsk := ⟨1, 5, [hdB], [⟨0, 3, 103⟩]⟩
theorem hdR1 : doM (dsk0 0 5) ⟨1, 0, 3, 1, 0, 0, 0, 100, false, [], []⟩ (-1) = (hdA1, [(1, aboutM 6 hdA)], 0) := rfl
theorem hdR2 : doM (dsk0 1 5) ⟨2, 0, 3, 0, 0, 0, 0, 103, false, [], []⟩ (-1) = (hdB1, [], 0) := rfl
theorem hdR3 : doM hdB1 (aboutM 6 hdA) 0 = (hdB2, [(0, aboutM 7 hdB)], 0) := rfl
theorem hdR4 : doM hdA1 (aboutM 7 hdB) 1 = (hdA2, [], 0) := rfl
set_option linter.unusedSimpArgs false in
set_option maxHeartbeats 4000000 in
set_option maxRecDepth 100000 in
theorem matches_any (w : World) : Calls Try.prog 6 #[] w fun y w' => y = .returned (.bool true) ∧ Below w.heap.size w w' := by
  have HDA := Lib.hid (fun W => desk_any W 0 5 (by decide))
  have HDB := Lib.hid (fun W => desk_any W 1 5 (by decide))
  go_enter Try.func6, Try.ntmps6
  go_wp2_with fail
  refine (HDA.out _).mono ?_
  rintro y w1 ⟨rfl, hb⟩
  have HB0 := Lib.hid hb
  have HZ0 : Hid (w.heap.size ≤ w1.heap.size) := Lib.hid hb.size
  clear hb
  have n0 : Hid (w.heap.size ≤ w1.heap.size) := HZ0
  have Ha1 := Lib.hid (Blk.new w1 #[.int .i64 0, .slice none 0 0, .slice none 0 0, .int .i64 5] 29)
  have HB1 := Lib.hid (HB0.out.alloc HB0.out.size (.cells #[.int .i64 0, .slice none 0 0, .slice none 0 0, .int .i64 5] 29))
  have HZ1 : Hid (w.heap.size ≤ (w1.alloc (.cells #[.int .i64 0, .slice none 0 0, .slice none 0 0, .int .i64 5] 29)).heap.size) := Lib.hid (Nat.le_trans HZ0.out (oneB w1 (.cells #[.int .i64 0, .slice none 0 0, .slice none 0 0, .int .i64 5] 29)).size)
  clear HB0 HZ0
  go_upto_region 2 with fail
  generalize (w1.alloc (.cells #[.int .i64 0, .slice none 0 0, .slice none 0 0, .int .i64 5] 29)) = wA at *
  generalize hgga : w1.heap.size = ga at *
  go_wp2_with fail
  refine (HDB.out _).mono ?_
  rintro y w2 ⟨rfl, hb⟩
  have Ha2 := Lib.hid (Ha1.out.below hb Ha1.out.lt)
  have HB2 := Lib.hid (HB1.out.trans (hb.mono HB1.out.size))
  have HZ2 : Hid (w.heap.size ≤ w2.heap.size) := Lib.hid (Nat.le_trans HZ1.out hb.size)
  clear Ha1 HB1 HZ1
  clear hb
  have n1 : Hid (ga < w2.heap.size) := Lib.hid Ha2.out.lt
  have Ha3 := Lib.hid (Ha2.out.alloc (.cells #[.int .i64 1, .slice none 0 0, .slice none 0 0, .int .i64 5] 29))
  have Hb3 := Lib.hid (Blk.new w2 #[.int .i64 1, .slice none 0 0, .slice none 0 0, .int .i64 5] 29)
  have HB3 := Lib.hid (HB2.out.alloc HB2.out.size (.cells #[.int .i64 1, .slice none 0 0, .slice none 0 0, .int .i64 5] 29))
  have HZ3 : Hid (w.heap.size ≤ (w2.alloc (.cells #[.int .i64 1, .slice none 0 0, .slice none 0 0, .int .i64 5] 29)).heap.size) := Lib.hid (Nat.le_trans HZ2.out (oneB w2 (.cells #[.int .i64 1, .slice none 0 0, .slice none 0 0, .int .i64 5] 29)).size)
  clear Ha2 HB2 HZ2
  go_upto_region 3 with fail
  generalize (w2.alloc (.cells #[.int .i64 1, .slice none 0 0, .slice none 0 0, .int .i64 5] 29)) = wB at *
  generalize hggb : w2.heap.size = gb at *
  have n2 : Hid (gb < wB.heap.size) := Lib.hid Hb3.out.lt
  have Ha4 := Lib.hid (Ha3.out.alloc (.cells #[.int .i64 0, .int .i64 3] 36))
  have Hb4 := Lib.hid (Hb3.out.alloc (.cells #[.int .i64 0, .int .i64 3] 36))
  have Hi4 := Lib.hid (Blk.new wB #[.int .i64 0, .int .i64 3] 36)
  have HB4 := Lib.hid (HB3.out.alloc HB3.out.size (.cells #[.int .i64 0, .int .i64 3] 36))
  have HZ4 : Hid (w.heap.size ≤ (wB.alloc (.cells #[.int .i64 0, .int .i64 3] 36)).heap.size) := Lib.hid (Nat.le_trans HZ3.out (oneB wB (.cells #[.int .i64 0, .int .i64 3] 36)).size)
  clear Ha3 Hb3 HB3 HZ3
  go_upto_region 4 with fail
  generalize (wB.alloc (.cells #[.int .i64 0, .int .i64 3] 36)) = wI at *
  generalize hggi : wB.heap.size = gi at *
  obtain ⟨B, hB⟩ : ∃ B, B = wI.heap.size := ⟨_, rfl⟩
  have n3 : gi < B := by rw [hB]; exact Hi4.out.lt
  have NG : Hid (w.heap.size ≤ ga ∧ ga < gb ∧ gb < gi ∧ gi < B) := ⟨n0.out, n1.out, n2.out, n3⟩
  clear HZ4
  have HZ4 : Hid (B ≤ wI.heap.size) := Lib.hid (Nat.le_of_eq hB)
  clear hB n0 n1 n2 n3 HDA HDB
  have Ka4 := Lib.hid (dkR0 (fun b => B ≤ b) wI 0 5 (by decide) (by unfold Fits; omega))
  have Kb4 := Lib.hid (dkR0 (fun b => B ≤ b) wI 1 5 (by decide) (by unfold Fits; omega))
  have HG := Lib.hid (Ka4.out.do_ (by decide) (by decide) (⟨1, 0, 3, 1, 0, 0, 0, 100, false, [], []⟩) (.slice none 0 0) (.slice none 0 0) (-1) [(1, aboutM 6 hdA)] 0 hdR1)
  unfold dcells Msg.v at HG
  have a0 : wI.cell? ⟨ga, 0, none⟩ = some (.int .i64 0) := Ha4.out.cell 0
  have a1 : wI.cell? ⟨ga, 1, none⟩ = some (.slice none 0 0) := Ha4.out.cell 1
  have a2 : wI.cell? ⟨ga, 2, none⟩ = some (.slice none 0 0) := Ha4.out.cell 2
  have a3 : wI.cell? ⟨ga, 3, none⟩ = some (.int .i64 5) := Ha4.out.cell 3
  have i0 : wI.cell? ⟨gi, 0, none⟩ = some (.int .i64 0) := Hi4.out.cell 0
  have i1 : wI.cell? ⟨gi, 1, none⟩ = some (.int .i64 3) := Hi4.out.cell 1
  go_wp2_with fail
  clear a0 a1 a2 a3 i0 i1
  refine HG.out.mono ?_
  rintro y w1 ⟨hb, p1, c1, q1, e1, vs1, rfl, hk, hown⟩
  clear HG
  have hle : B ≤ wI.heap.size := HZ4.out
  have hk2 := hk.imp (Q := fun b => B ≤ b) (fun b hb => hb.elim id (fun h => Nat.le_trans hle h))
  have ho2 := hown.less hle
  clear hk hown hle
  have Ha5 := Lib.hid (Ha4.out.below hb Ha4.out.lt)
  have Hb5 := Lib.hid (Hb4.out.below hb Hb4.out.lt)
  have Hi5 := Lib.hid (Hi4.out.below hb Hi4.out.lt)
  have Kb5 := Lib.hid (Kb4.out.kept hb)
  have HB5 := Lib.hid (HB4.out.trans (hb.mono HB4.out.size))
  have HZ5 : Hid (B ≤ w1.heap.size) := Lib.hid (Nat.le_trans HZ4.out hb.size)
  clear Ha4 Hb4 Hi4 Kb4 HB4 HZ4
  have Ka5 := Lib.hid hk2
  have Sx5 := Lib.hid ho2
  clear hb hk2 ho2
  go_wp2_with (with_reducible refine stop_storeT 29 (.tmp 1) (.tmp 28) rfl ?_)
  have HTH : Hid (w1.there ga 0 4) := Ha5.out.thereAt
  have hch : Hid (Chg ga w1 (w1.setCells ga 0 (#[.int .i64 hdA1.me, .slice p1 hdA1.xs.length c1, .slice q1 hdA1.os.length e1, .int .i64 hdA1.far] : Array Value).toList)) := Lib.hid (chg_putL _ _ _ _ _ (Chg.refl _ w1))
  have Ha6 : Hid (Blk (w1.setCells ga 0 (#[.int .i64 hdA1.me, .slice p1 hdA1.xs.length c1, .slice q1 hdA1.os.length e1, .int .i64 hdA1.far] : Array Value).toList) ga #[.int .i64 hdA1.me, .slice p1 hdA1.xs.length c1, .slice q1 hdA1.os.length e1, .int .i64 hdA1.far] 29) := Lib.hid (blk_put_all Ha5.out _ rfl)
  have HB6 : Hid (Below w.heap.size w (w1.setCells ga 0 (#[.int .i64 hdA1.me, .slice p1 hdA1.xs.length c1, .slice q1 hdA1.os.length e1, .int .i64 hdA1.far] : Array Value).toList)) := Lib.hid (below_put (by have := NG.out; omega) _ _ _ _ HB5.out)
  have HZ6 : Hid (B ≤ (w1.setCells ga 0 (#[.int .i64 hdA1.me, .slice p1 hdA1.xs.length c1, .slice q1 hdA1.os.length e1, .int .i64 hdA1.far] : Array Value).toList).heap.size) := Lib.hid (Nat.le_trans HZ5.out hch.out.size)
  have Hb6 := Lib.hid (Hb5.out.chg hch.out (by have := NG.out; omega))
  have Hi6 := Lib.hid (Hi5.out.chg hch.out (by have := NG.out; omega))
  have Kb6 := Lib.hid (Kb5.out.keepP (KeepP.of_chg hch.out (by have := NG.out; show ¬ _ ≤ _; omega)))
  have Ka6 := Lib.hid (Ka5.out.keepP (KeepP.of_chg hch.out (by have := NG.out; show ¬ _ ≤ _; omega)))
  have Sx6 := Lib.hid (Sx5.out.stay (fun b hb => hch.out.2 b (Sx5.out.lt b hb) (by have h1 := Sx5.out.block_ge b hb; have := NG.out; omega)))
  clear hch Ha5 Hb5 Hi5 Kb5 Ka5 Sx5 HB5 HZ5
  refine wpList_store_mid rfl 29 (.tmp 1) (.tmp 28) rfl ga 0 #[.int .i64 hdA1.me, .slice p1 hdA1.xs.length c1, .slice q1 hdA1.os.length e1, .int .i64 hdA1.far] rfl rfl HTH.out (infoD4 rfl) (all_oneCell_toArray (by intro u hu; simp at hu; rcases hu with rfl | rfl | rfl | rfl <;> rfl)) ?_
  generalize (w1.setCells ga 0 (#[.int .i64 hdA1.me, .slice p1 hdA1.xs.length c1, .slice q1 hdA1.os.length e1, .int .i64 hdA1.far] : Array Value).toList) = W1 at *
  clear HTH
  go_upto_region 5 with fail
  have HG := Lib.hid (Kb6.out.do_ (by decide) (by decide) (⟨2, 0, 3, 0, 0, 0, 0, 103, false, [], []⟩) (.slice none 0 0) (.slice none 0 0) (-1) [] 0 hdR2)
  unfold dcells Msg.v at HG
  have a0 : W1.cell? ⟨gb, 0, none⟩ = some (.int .i64 1) := Hb6.out.cell 0
  have a1 : W1.cell? ⟨gb, 1, none⟩ = some (.slice none 0 0) := Hb6.out.cell 1
  have a2 : W1.cell? ⟨gb, 2, none⟩ = some (.slice none 0 0) := Hb6.out.cell 2
  have a3 : W1.cell? ⟨gb, 3, none⟩ = some (.int .i64 5) := Hb6.out.cell 3
  have i0 : W1.cell? ⟨gi, 0, none⟩ = some (.int .i64 0) := Hi6.out.cell 0
  have i1 : W1.cell? ⟨gi, 1, none⟩ = some (.int .i64 3) := Hi6.out.cell 1
  go_wp2_with fail
  clear a0 a1 a2 a3 i0 i1
  refine HG.out.mono ?_
  rintro y w2 ⟨hb, p2, c2, q2, e2, vs2, rfl, hk, hown⟩
  clear HG
  have hle : B ≤ W1.heap.size := HZ6.out
  have hk2 := hk.imp (Q := fun b => B ≤ b) (fun b hb => hb.elim id (fun h => Nat.le_trans hle h))
  have ho2 := hown.less hle
  clear hk hown hle
  have Ha7 := Lib.hid (Ha6.out.below hb Ha6.out.lt)
  have Hb7 := Lib.hid (Hb6.out.below hb Hb6.out.lt)
  have Hi7 := Lib.hid (Hi6.out.below hb Hi6.out.lt)
  have Ka7 := Lib.hid (Ka6.out.kept hb)
  have Sx7 := Lib.hid (Sx6.out.later hb)
  have HB7 := Lib.hid (HB6.out.trans (hb.mono HB6.out.size))
  have HZ7 : Hid (B ≤ w2.heap.size) := Lib.hid (Nat.le_trans HZ6.out hb.size)
  clear Ha6 Hb6 Hi6 Ka6 Sx6 HB6 HZ6
  have Kb7 := Lib.hid hk2
  clear hb hk2 ho2
  go_wp2_with (with_reducible refine stop_storeT 29 (.tmp 3) (.tmp 36) rfl ?_)
  have HTH : Hid (w2.there gb 0 4) := Hb7.out.thereAt
  have hch : Hid (Chg gb w2 (w2.setCells gb 0 (#[.int .i64 hdB1.me, .slice p2 hdB1.xs.length c2, .slice q2 hdB1.os.length e2, .int .i64 hdB1.far] : Array Value).toList)) := Lib.hid (chg_putL _ _ _ _ _ (Chg.refl _ w2))
  have Hb8 : Hid (Blk (w2.setCells gb 0 (#[.int .i64 hdB1.me, .slice p2 hdB1.xs.length c2, .slice q2 hdB1.os.length e2, .int .i64 hdB1.far] : Array Value).toList) gb #[.int .i64 hdB1.me, .slice p2 hdB1.xs.length c2, .slice q2 hdB1.os.length e2, .int .i64 hdB1.far] 29) := Lib.hid (blk_put_all Hb7.out _ rfl)
  have HB8 : Hid (Below w.heap.size w (w2.setCells gb 0 (#[.int .i64 hdB1.me, .slice p2 hdB1.xs.length c2, .slice q2 hdB1.os.length e2, .int .i64 hdB1.far] : Array Value).toList)) := Lib.hid (below_put (by have := NG.out; omega) _ _ _ _ HB7.out)
  have HZ8 : Hid (B ≤ (w2.setCells gb 0 (#[.int .i64 hdB1.me, .slice p2 hdB1.xs.length c2, .slice q2 hdB1.os.length e2, .int .i64 hdB1.far] : Array Value).toList).heap.size) := Lib.hid (Nat.le_trans HZ7.out hch.out.size)
  have Ha8 := Lib.hid (Ha7.out.chg hch.out (by have := NG.out; omega))
  have Hi8 := Lib.hid (Hi7.out.chg hch.out (by have := NG.out; omega))
  have Ka8 := Lib.hid (Ka7.out.keepP (KeepP.of_chg hch.out (by have := NG.out; show ¬ _ ≤ _; omega)))
  have Kb8 := Lib.hid (Kb7.out.keepP (KeepP.of_chg hch.out (by have := NG.out; show ¬ _ ≤ _; omega)))
  have Sx8 := Lib.hid (Sx7.out.stay (fun b hb => hch.out.2 b (Sx7.out.lt b hb) (by have h1 := Sx7.out.block_ge b hb; have := NG.out; omega)))
  clear hch Ha7 Hb7 Hi7 Ka7 Kb7 Sx7 HB7 HZ7
  refine wpList_store_mid rfl 29 (.tmp 3) (.tmp 36) rfl gb 0 #[.int .i64 hdB1.me, .slice p2 hdB1.xs.length c2, .slice q2 hdB1.os.length e2, .int .i64 hdB1.far] rfl rfl HTH.out (infoD4 rfl) (all_oneCell_toArray (by intro u hu; simp at hu; rcases hu with rfl | rfl | rfl | rfl <;> rfl)) ?_
  generalize (w2.setCells gb 0 (#[.int .i64 hdB1.me, .slice p2 hdB1.xs.length c2, .slice q2 hdB1.os.length e2, .int .i64 hdB1.far] : Array Value).toList) = W2 at *
  clear HTH
  go_upto_region 6 with fail
  obtain ⟨bx, ox, kx, hvx, hgex, hltx, hcs0⟩ := own1 Sx8.out
  subst hvx
  have hcsx := Lib.hid hcs0
  clear hcs0
  have z0 : W2.cell? ⟨bx, ox, none⟩ = some (.int .i64 1) := hcsx.out 0 (by decide)
  have z1 : W2.cell? ⟨bx, ox + 1, none⟩ = some (.int .i64 6) := hcsx.out 1 (by decide)
  go_upto_region 8 with fail
  clear z0 z1
  have hS : ∀ q9, q9 < 12 → W2.drew.cell? ⟨bx, ox + q9, none⟩ = (SdX.cells (sdX (1, aboutM 6 hdA)))[q9]? := fun q hq => ((Below.refl _ W2).drew.cell (p := ⟨bx, ox + q, none⟩) hltx).trans (hcsx.out q hq)
  clear hcsx
  refine wp_region_held_drew (S := fun w' => ∀ q9, q9 < 12 → w'.cell? ⟨bx, ox + q9, none⟩ = (SdX.cells (sdX (1, aboutM 6 hdA)))[q9]?) (by kernel_rfl) hS (fun hS0 => ?_)
  clear hS
  have HS0 := Lib.hid hS0
  clear hS0
  have hbd := (Below.refl W2.heap.size W2).drew
  generalize W2.drew = WD3 at *
  have hltD3 : bx < WD3.heap.size := Nat.lt_of_lt_of_le hltx hbd.size
  have Ha9 := Lib.hid (Ha8.out.below hbd Ha8.out.lt)
  have Hb9 := Lib.hid (Hb8.out.below hbd Hb8.out.lt)
  have Hi9 := Lib.hid (Hi8.out.below hbd Hi8.out.lt)
  have Ka9 := Lib.hid (Ka8.out.kept hbd)
  have Kb9 := Lib.hid (Kb8.out.kept hbd)
  have Sx9 := Lib.hid (Sx8.out.later hbd)
  have HB9 := Lib.hid (HB8.out.trans (hbd.mono HB8.out.size))
  have HZ9 : Hid (B ≤ WD3.heap.size) := Lib.hid (Nat.le_trans HZ8.out hbd.size)
  clear Ha8 Hb8 Hi8 Ka8 Kb8 Sx8 HB8 HZ8
  clear hbd
  refine wpAnyH_take (i := 1) (v := ?_) rfl (by kernel_rfl) (by kernel_rfl) (by kernel_rfl) (fun _ _ _ h => h) (Or.inl ⟨by kernel_rfl, ?_⟩) (by first | assumption | trivial) ?_
  rotate_left
  · intro w hSw
    try dsimp only at hSw
    first | (go_simp; done) | (go_simp; with_reducible rfl)
  try simp only [Act.put, List.getElem_toArray, List.getElem_cons_succ, List.getElem_cons_zero, List.setIfInBounds_toArray, List.set_cons_zero, List.set_cons_succ]
  refine wpAnyH_take (i := 2) (v := ?_) rfl (by kernel_rfl) (by kernel_rfl) (by kernel_rfl) (fun _ _ _ h => h) (Or.inl ⟨by kernel_rfl, ?_⟩) (by first | assumption | trivial) ?_
  rotate_left
  · intro w hSw
    try dsimp only at hSw
    first | (go_simp; done) | (go_simp; with_reducible rfl)
  try simp only [Act.put, List.getElem_toArray, List.getElem_cons_succ, List.getElem_cons_zero, List.setIfInBounds_toArray, List.set_cons_zero, List.set_cons_succ]
  refine wpAnyH_take (i := 3) (v := ?_) rfl (by kernel_rfl) (by kernel_rfl) (by kernel_rfl) (fun _ _ _ h => h) (Or.inl ⟨by kernel_rfl, ?_⟩) (by first | assumption | trivial) ?_
  rotate_left
  · intro w hSw
    try dsimp only at hSw
    first | (go_simp; done) | (go_simp; with_reducible rfl)
  try simp only [Act.put, List.getElem_toArray, List.getElem_cons_succ, List.getElem_cons_zero, List.setIfInBounds_toArray, List.set_cons_zero, List.set_cons_succ]
  refine wpAnyH_take (i := 4) (v := ?_) rfl (by kernel_rfl) (by kernel_rfl) (by kernel_rfl) (fun _ _ _ h => h) (Or.inl ⟨by kernel_rfl, ?_⟩) (by first | assumption | trivial) ?_
  rotate_left
  · intro w hSw
    try dsimp only at hSw
    have a0 : w.cell? ⟨bx, ox + 1, none⟩ = some (.int .i64 6) := hSw 1 (by decide)
    have a1 : w.cell? ⟨bx, ox + 2, none⟩ = some (.int .i64 hdA.s) := hSw 2 (by decide)
    have a2 : w.cell? ⟨bx, ox + 3, none⟩ = some (.int .i64 hdA.n) := hSw 3 (by decide)
    have a3 : w.cell? ⟨bx, ox + 4, none⟩ = some (.int .i64 hdA.b) := hSw 4 (by decide)
    have a4 : w.cell? ⟨bx, ox + 5, none⟩ = some (.int .i64 hdA.c) := hSw 5 (by decide)
    have a5 : w.cell? ⟨bx, ox + 6, none⟩ = some (.int .i64 hdA.r) := hSw 6 (by decide)
    have a6 : w.cell? ⟨bx, ox + 7, none⟩ = some (.int .i64 0) := hSw 7 (by decide)
    have a7 : w.cell? ⟨bx, ox + 8, none⟩ = some (.int .i64 hdA.a) := hSw 8 (by decide)
    have a8 : w.cell? ⟨bx, ox + 9, none⟩ = some (.bool false) := hSw 9 (by decide)
    have a9 : w.cell? ⟨bx, ox + 10, none⟩ = some (.slice none 0 0) := hSw 10 (by decide)
    have a10 : w.cell? ⟨bx, ox + 11, none⟩ = some (.slice none 0 0) := hSw 11 (by decide)
    clear hSw
    first | (go_simp; done) | (go_simp; with_reducible rfl)
  try simp only [Act.put, List.getElem_toArray, List.getElem_cons_succ, List.getElem_cons_zero, List.setIfInBounds_toArray, List.set_cons_zero, List.set_cons_succ]
  refine wpAnyH_ready (rs := [0]) (by kernel_rfl) (by simp) ?_
  refine AllReadyH.cons rfl (fun K hK => ?_) AllReadyH.nil
  have a0 : WD3.cell? ⟨gb, 0, none⟩ = some (.int .i64 hdB1.me) := Hb9.out.cell 0
  have a1 : WD3.cell? ⟨gb, 1, none⟩ = some (.slice p2 hdB1.xs.length c2) := Hb9.out.cell 1
  have a2 : WD3.cell? ⟨gb, 2, none⟩ = some (.slice q2 hdB1.os.length e2) := Hb9.out.cell 2
  have a3 : WD3.cell? ⟨gb, 3, none⟩ = some (.int .i64 hdB1.far) := Hb9.out.cell 3
  go_simp
  clear a0 a1 a2 a3
  refine hK.out _ _ (fun q9 hq9 => ?_) (fun hS => ?_)
  · exact HS0.out q9 hq9
  clear hK K
  try simp only [Act.put, List.getElem_toArray, List.getElem_cons_succ, List.getElem_cons_zero, List.setIfInBounds_toArray, List.set_cons_zero, List.set_cons_succ]
  refine wpAnyH_ready (rs := [5]) (by kernel_rfl) (by simp) ?_
  refine AllReadyH.cons rfl (fun K hK => ?_) AllReadyH.nil
  have HG := Lib.hid (Kb9.out.do_ (by decide) (by decide) (aboutM 6 hdA) (.slice none 0 0) (.slice none 0 0) (0) [(0, aboutM 7 hdB)] 0 hdR3)
  unfold dcells Msg.v at HG
  go_simp
  go_at_call 8
  refine HG.out.mono ?_
  rintro y w3 ⟨hb, p3, c3, q3, e3, vs3, rfl, hk, hown⟩
  clear HG
  have hlt53 : bx < w3.heap.size := Nat.lt_of_lt_of_le hltD3 hb.size
  have hS5 : ∀ q9, q9 < 12 → w3.cell? ⟨bx, ox + q9, none⟩ = (SdX.cells (sdX (1, aboutM 6 hdA)))[q9]? := fun q hq => (hb.cell (p := ⟨bx, ox + q, none⟩) hltD3).trans (HS0.out q hq)
  have hle : B ≤ WD3.heap.size := HZ9.out
  have hk2 := hk.imp (Q := fun b => B ≤ b) (fun b hb => hb.elim id (fun h => Nat.le_trans hle h))
  have ho2 := hown.less hle
  clear hk hown hle
  have Ha10 := Lib.hid (Ha9.out.below hb Ha9.out.lt)
  have Hb10 := Lib.hid (Hb9.out.below hb Hb9.out.lt)
  have Hi10 := Lib.hid (Hi9.out.below hb Hi9.out.lt)
  have Ka10 := Lib.hid (Ka9.out.kept hb)
  have Sx10 := Lib.hid (Sx9.out.later hb)
  have HB10 := Lib.hid (HB9.out.trans (hb.mono HB9.out.size))
  have HZ10 : Hid (B ≤ w3.heap.size) := Lib.hid (Nat.le_trans HZ9.out hb.size)
  clear Ha9 Hb9 Hi9 Ka9 Sx9 HB9 HZ9
  have Kb10 := Lib.hid hk2
  have Su10 := Lib.hid ho2
  clear hb hk2 ho2
  try go_wp2_with fail
  refine hK.out _ _ hS5 (fun hS => ?_)
  clear hK K hS5 HS0
  try simp only [Act.put, List.getElem_toArray, List.getElem_cons_succ, List.getElem_cons_zero, List.setIfInBounds_toArray, List.set_cons_zero, List.set_cons_succ]
  refine wpAnyH_take (i := 6) (v := ?_) rfl (by kernel_rfl) (by kernel_rfl) (by kernel_rfl) (fun _ _ _ h => h) (Or.inl ⟨by kernel_rfl, ?_⟩) (by first | assumption | trivial) ?_
  rotate_left
  · intro w hSw
    try dsimp only at hSw
    first | (go_simp; done) | (go_simp; with_reducible rfl)
  try simp only [Act.put, List.getElem_toArray, List.getElem_cons_succ, List.getElem_cons_zero, List.setIfInBounds_toArray, List.set_cons_zero, List.set_cons_succ]
  refine wpAnyH_take (i := 7) (v := ?_) rfl (by kernel_rfl) (by kernel_rfl) (by kernel_rfl) (fun _ _ _ h => h) (Or.inl ⟨by kernel_rfl, ?_⟩) (by first | assumption | trivial) ?_
  rotate_left
  · intro w hSw
    try dsimp only at hSw
    first | (go_simp; done) | (go_simp; with_reducible rfl)
  try simp only [Act.put, List.getElem_toArray, List.getElem_cons_succ, List.getElem_cons_zero, List.setIfInBounds_toArray, List.set_cons_zero, List.set_cons_succ]
  refine wpAnyH_take (i := 8) (v := ?_) rfl (by kernel_rfl) (by kernel_rfl) (by kernel_rfl) (fun _ _ _ h => h) (Or.inl ⟨by kernel_rfl, ?_⟩) (by first | assumption | trivial) ?_
  rotate_left
  · intro w hSw
    try dsimp only at hSw
    first | (go_simp; done) | (go_simp; with_reducible rfl)
  try simp only [Act.put, List.getElem_toArray, List.getElem_cons_succ, List.getElem_cons_zero, List.setIfInBounds_toArray, List.set_cons_zero, List.set_cons_succ]
  refine wpAnyH_take (i := 9) (v := ?_) rfl (by kernel_rfl) (by kernel_rfl) (by kernel_rfl) (fun _ _ _ h => h) (Or.inl ⟨by kernel_rfl, ?_⟩) (by first | assumption | trivial) ?_
  rotate_left
  · intro w hSw
    try dsimp only at hSw
    first | (go_simp; done) | (go_simp; with_reducible rfl)
  try simp only [Act.put, List.getElem_toArray, List.getElem_cons_succ, List.getElem_cons_zero, List.setIfInBounds_toArray, List.set_cons_zero, List.set_cons_succ]
  refine wpAnyH_ready (rs := [10]) (by kernel_rfl) (by simp) ?_
  refine AllReadyH.cons rfl (fun K hK => ?_) AllReadyH.nil
  have z0 : w3.cell? ⟨gb, 0, none⟩ = some (.int .i64 hdB1.me) := Hb10.out.cell 0
  have z1 : w3.cell? ⟨gb, 1, none⟩ = some (.slice p2 hdB1.xs.length c2) := Hb10.out.cell 1
  have z2 : w3.cell? ⟨gb, 2, none⟩ = some (.slice q2 hdB1.os.length e2) := Hb10.out.cell 2
  have z3 : w3.cell? ⟨gb, 3, none⟩ = some (.int .i64 hdB1.far) := Hb10.out.cell 3
  have f0 := Hb10.out.free 0
  have f1 := Hb10.out.free 1
  have f2 := Hb10.out.free 2
  have f3 := Hb10.out.free 3
  go_simp
  clear z0 z1 z2 z3 f0 f1 f2 f3
  have hch : Hid (Chg gb w3 ((((w3.setCell ⟨gb, 0, none⟩ (.int .i64 hdB2.me)).setCell ⟨gb, 1, none⟩ (.slice p3 hdB2.xs.length c3)).setCell ⟨gb, 2, none⟩ (.slice q3 hdB2.os.length e3)).setCell ⟨gb, 3, none⟩ (.int .i64 hdB2.far))) := Lib.hid (((((Chg.refl gb w3).set 0 (.int .i64 hdB2.me)).set 1 (.slice p3 hdB2.xs.length c3)).set 2 (.slice q3 hdB2.os.length e3)).set 3 (.int .i64 hdB2.far))
  have Hb11 : Hid (Blk ((((w3.setCell ⟨gb, 0, none⟩ (.int .i64 hdB2.me)).setCell ⟨gb, 1, none⟩ (.slice p3 hdB2.xs.length c3)).setCell ⟨gb, 2, none⟩ (.slice q3 hdB2.os.length e3)).setCell ⟨gb, 3, none⟩ (.int .i64 hdB2.far)) gb #[.int .i64 hdB2.me, .slice p3 hdB2.xs.length c3, .slice q3 hdB2.os.length e3, .int .i64 hdB2.far] 29) := Lib.hid ((((Hb10.out.set 0 (.int .i64 hdB2.me)).set 1 (.slice p3 hdB2.xs.length c3)).set 2 (.slice q3 hdB2.os.length e3)).set 3 (.int .i64 hdB2.far))
  have HB11 : Hid (Below w.heap.size w ((((w3.setCell ⟨gb, 0, none⟩ (.int .i64 hdB2.me)).setCell ⟨gb, 1, none⟩ (.slice p3 hdB2.xs.length c3)).setCell ⟨gb, 2, none⟩ (.slice q3 hdB2.os.length e3)).setCell ⟨gb, 3, none⟩ (.int .i64 hdB2.far))) := Lib.hid ((((HB10.out.setCell (p := ⟨gb, 0, none⟩) (by have := NG.out; show w.heap.size ≤ gb; omega) (.int .i64 hdB2.me)).setCell (p := ⟨gb, 1, none⟩) (by have := NG.out; show w.heap.size ≤ gb; omega) (.slice p3 hdB2.xs.length c3)).setCell (p := ⟨gb, 2, none⟩) (by have := NG.out; show w.heap.size ≤ gb; omega) (.slice q3 hdB2.os.length e3)).setCell (p := ⟨gb, 3, none⟩) (by have := NG.out; show w.heap.size ≤ gb; omega) (.int .i64 hdB2.far))
  have HZ11 : Hid (B ≤ ((((w3.setCell ⟨gb, 0, none⟩ (.int .i64 hdB2.me)).setCell ⟨gb, 1, none⟩ (.slice p3 hdB2.xs.length c3)).setCell ⟨gb, 2, none⟩ (.slice q3 hdB2.os.length e3)).setCell ⟨gb, 3, none⟩ (.int .i64 hdB2.far)).heap.size) := Lib.hid (Nat.le_trans HZ10.out hch.out.size)
  have Ha11 := Lib.hid (Ha10.out.chg hch.out (by have := NG.out; omega))
  have Hi11 := Lib.hid (Hi10.out.chg hch.out (by have := NG.out; omega))
  have Ka11 := Lib.hid (Ka10.out.keepP (KeepP.of_chg hch.out (by have := NG.out; show ¬ _ ≤ _; omega)))
  have Kb11 := Lib.hid (Kb10.out.keepP (KeepP.of_chg hch.out (by have := NG.out; show ¬ _ ≤ _; omega)))
  have Sx11 := Lib.hid (Sx10.out.stay (fun b hb => hch.out.2 b (Sx10.out.lt b hb) (by have h1 := Sx10.out.block_ge b hb; have := NG.out; omega)))
  have Su11 := Lib.hid (Su10.out.stay (fun b hb => hch.out.2 b (Su10.out.lt b hb) (by have h1 := Su10.out.block_ge b hb; have := NG.out; omega)))
  have hS6 : ∀ q9, q9 < 12 → ((((w3.setCell ⟨gb, 0, none⟩ (.int .i64 hdB2.me)).setCell ⟨gb, 1, none⟩ (.slice p3 hdB2.xs.length c3)).setCell ⟨gb, 2, none⟩ (.slice q3 hdB2.os.length e3)).setCell ⟨gb, 3, none⟩ (.int .i64 hdB2.far)).cell? ⟨bx, ox + q9, none⟩ = (SdX.cells (sdX (1, aboutM 6 hdA)))[q9]? := fun q hq => (cell_chg hch.out hlt53 (by have := NG.out; omega)).trans (hS q hq)
  clear hch hS Ha10 Hb10 Hi10 Ka10 Kb10 Sx10 Su10 HB10 HZ10
  generalize ((((w3.setCell ⟨gb, 0, none⟩ (.int .i64 hdB2.me)).setCell ⟨gb, 1, none⟩ (.slice p3 hdB2.xs.length c3)).setCell ⟨gb, 2, none⟩ (.slice q3 hdB2.os.length e3)).setCell ⟨gb, 3, none⟩ (.int .i64 hdB2.far)) = W3 at *
  refine hK.out _ _ hS6 (fun hS => ?_)
  clear hK K hS6
  try simp only [Act.put, List.getElem_toArray, List.getElem_cons_succ, List.getElem_cons_zero, List.setIfInBounds_toArray, List.set_cons_zero, List.set_cons_succ]
  refine wpAnyH_take (i := 11) (v := ?_) rfl (by kernel_rfl) (by kernel_rfl) (by kernel_rfl) (fun _ _ _ h => h) (Or.inl ⟨by kernel_rfl, ?_⟩) (by first | assumption | trivial) ?_
  rotate_left
  · intro w hSw
    try dsimp only at hSw
    first | (go_simp; done) | (go_simp; with_reducible rfl)
  try simp only [Act.put, List.getElem_toArray, List.getElem_cons_succ, List.getElem_cons_zero, List.setIfInBounds_toArray, List.set_cons_zero, List.set_cons_succ]
  refine wpAnyH_take (i := 12) (v := ?_) rfl (by kernel_rfl) (by kernel_rfl) (by kernel_rfl) (fun _ _ _ h => h) (Or.inl ⟨by kernel_rfl, ?_⟩) (by first | assumption | trivial) ?_
  rotate_left
  · intro w hSw
    try dsimp only at hSw
    first | (go_simp; done) | (go_simp; with_reducible rfl)
  try simp only [Act.put, List.getElem_toArray, List.getElem_cons_succ, List.getElem_cons_zero, List.setIfInBounds_toArray, List.set_cons_zero, List.set_cons_succ]
  refine wpAnyH_done (by kernel_rfl) ?_ _
  clear hS
  go_upto_region 9 with fail
  clear hlt53 hltD3 hltx hgex
  obtain ⟨bu, ou, ku, hvu, hgeu, hltu, hcs0⟩ := own1 Su11.out
  subst hvu
  have hcsu := Lib.hid hcs0
  clear hcs0
  have z1 : W3.cell? ⟨bu, ou + 1, none⟩ = some (.int .i64 7) := hcsu.out 1 (by decide)
  go_upto_region 11 with fail
  clear z1
  have hS : ∀ q9, q9 < 12 → W3.drew.cell? ⟨bu, ou + q9, none⟩ = (SdX.cells (sdX (0, aboutM 7 hdB)))[q9]? := fun q hq => ((Below.refl _ W3).drew.cell (p := ⟨bu, ou + q, none⟩) hltu).trans (hcsu.out q hq)
  clear hcsu
  refine wp_region_held_drew (S := fun w' => ∀ q9, q9 < 12 → w'.cell? ⟨bu, ou + q9, none⟩ = (SdX.cells (sdX (0, aboutM 7 hdB)))[q9]?) (by kernel_rfl) hS (fun hS0 => ?_)
  clear hS
  have HS0 := Lib.hid hS0
  clear hS0
  have hbd := (Below.refl W3.heap.size W3).drew
  generalize W3.drew = WD4 at *
  have hltD4 : bu < WD4.heap.size := Nat.lt_of_lt_of_le hltu hbd.size
  have Ha12 := Lib.hid (Ha11.out.below hbd Ha11.out.lt)
  have Hb12 := Lib.hid (Hb11.out.below hbd Hb11.out.lt)
  have Hi12 := Lib.hid (Hi11.out.below hbd Hi11.out.lt)
  have Ka12 := Lib.hid (Ka11.out.kept hbd)
  have Kb12 := Lib.hid (Kb11.out.kept hbd)
  have Sx12 := Lib.hid (Sx11.out.later hbd)
  have Su12 := Lib.hid (Su11.out.later hbd)
  have HB12 := Lib.hid (HB11.out.trans (hbd.mono HB11.out.size))
  have HZ12 : Hid (B ≤ WD4.heap.size) := Lib.hid (Nat.le_trans HZ11.out hbd.size)
  clear Ha11 Hb11 Hi11 Ka11 Kb11 Sx11 Su11 HB11 HZ11
  clear hbd
  refine wpAnyH_take (i := 1) (v := ?_) rfl (by kernel_rfl) (by kernel_rfl) (by kernel_rfl) (fun _ _ _ h => h) (Or.inl ⟨by kernel_rfl, ?_⟩) (by first | assumption | trivial) ?_
  rotate_left
  · intro w hSw
    try dsimp only at hSw
    first | (go_simp; done) | (go_simp; with_reducible rfl)
  try simp only [Act.put, List.getElem_toArray, List.getElem_cons_succ, List.getElem_cons_zero, List.setIfInBounds_toArray, List.set_cons_zero, List.set_cons_succ]
  refine wpAnyH_take (i := 2) (v := ?_) rfl (by kernel_rfl) (by kernel_rfl) (by kernel_rfl) (fun _ _ _ h => h) (Or.inl ⟨by kernel_rfl, ?_⟩) (by first | assumption | trivial) ?_
  rotate_left
  · intro w hSw
    try dsimp only at hSw
    first | (go_simp; done) | (go_simp; with_reducible rfl)
  try simp only [Act.put, List.getElem_toArray, List.getElem_cons_succ, List.getElem_cons_zero, List.setIfInBounds_toArray, List.set_cons_zero, List.set_cons_succ]
  refine wpAnyH_take (i := 3) (v := ?_) rfl (by kernel_rfl) (by kernel_rfl) (by kernel_rfl) (fun _ _ _ h => h) (Or.inl ⟨by kernel_rfl, ?_⟩) (by first | assumption | trivial) ?_
  rotate_left
  · intro w hSw
    try dsimp only at hSw
    first | (go_simp; done) | (go_simp; with_reducible rfl)
  try simp only [Act.put, List.getElem_toArray, List.getElem_cons_succ, List.getElem_cons_zero, List.setIfInBounds_toArray, List.set_cons_zero, List.set_cons_succ]
  refine wpAnyH_take (i := 4) (v := ?_) rfl (by kernel_rfl) (by kernel_rfl) (by kernel_rfl) (fun _ _ _ h => h) (Or.inl ⟨by kernel_rfl, ?_⟩) (by first | assumption | trivial) ?_
  rotate_left
  · intro w hSw
    try dsimp only at hSw
    have a0 : w.cell? ⟨bu, ou + 1, none⟩ = some (.int .i64 7) := hSw 1 (by decide)
    have a1 : w.cell? ⟨bu, ou + 2, none⟩ = some (.int .i64 hdB.s) := hSw 2 (by decide)
    have a2 : w.cell? ⟨bu, ou + 3, none⟩ = some (.int .i64 hdB.n) := hSw 3 (by decide)
    have a3 : w.cell? ⟨bu, ou + 4, none⟩ = some (.int .i64 hdB.b) := hSw 4 (by decide)
    have a4 : w.cell? ⟨bu, ou + 5, none⟩ = some (.int .i64 hdB.c) := hSw 5 (by decide)
    have a5 : w.cell? ⟨bu, ou + 6, none⟩ = some (.int .i64 hdB.r) := hSw 6 (by decide)
    have a6 : w.cell? ⟨bu, ou + 7, none⟩ = some (.int .i64 0) := hSw 7 (by decide)
    have a7 : w.cell? ⟨bu, ou + 8, none⟩ = some (.int .i64 hdB.a) := hSw 8 (by decide)
    have a8 : w.cell? ⟨bu, ou + 9, none⟩ = some (.bool false) := hSw 9 (by decide)
    have a9 : w.cell? ⟨bu, ou + 10, none⟩ = some (.slice none 0 0) := hSw 10 (by decide)
    have a10 : w.cell? ⟨bu, ou + 11, none⟩ = some (.slice none 0 0) := hSw 11 (by decide)
    clear hSw
    first | (go_simp; done) | (go_simp; with_reducible rfl)
  try simp only [Act.put, List.getElem_toArray, List.getElem_cons_succ, List.getElem_cons_zero, List.setIfInBounds_toArray, List.set_cons_zero, List.set_cons_succ]
  refine wpAnyH_ready (rs := [0]) (by kernel_rfl) (by simp) ?_
  refine AllReadyH.cons rfl (fun K hK => ?_) AllReadyH.nil
  have a0 : WD4.cell? ⟨ga, 0, none⟩ = some (.int .i64 hdA1.me) := Ha12.out.cell 0
  have a1 : WD4.cell? ⟨ga, 1, none⟩ = some (.slice p1 hdA1.xs.length c1) := Ha12.out.cell 1
  have a2 : WD4.cell? ⟨ga, 2, none⟩ = some (.slice q1 hdA1.os.length e1) := Ha12.out.cell 2
  have a3 : WD4.cell? ⟨ga, 3, none⟩ = some (.int .i64 hdA1.far) := Ha12.out.cell 3
  go_simp
  clear a0 a1 a2 a3
  refine hK.out _ _ (fun q9 hq9 => ?_) (fun hS => ?_)
  · exact HS0.out q9 hq9
  clear hK K
  try simp only [Act.put, List.getElem_toArray, List.getElem_cons_succ, List.getElem_cons_zero, List.setIfInBounds_toArray, List.set_cons_zero, List.set_cons_succ]
  refine wpAnyH_ready (rs := [5]) (by kernel_rfl) (by simp) ?_
  refine AllReadyH.cons rfl (fun K hK => ?_) AllReadyH.nil
  have HG := Lib.hid (Ka12.out.do_ (by decide) (by decide) (aboutM 7 hdB) (.slice none 0 0) (.slice none 0 0) (1) [] 0 hdR4)
  unfold dcells Msg.v at HG
  go_simp
  go_at_call 8
  refine HG.out.mono ?_
  rintro y w4 ⟨hb, p4, c4, q4, e4, vs4, rfl, hk, hown⟩
  clear HG
  have hlt54 : bu < w4.heap.size := Nat.lt_of_lt_of_le hltD4 hb.size
  have hS5 : ∀ q9, q9 < 12 → w4.cell? ⟨bu, ou + q9, none⟩ = (SdX.cells (sdX (0, aboutM 7 hdB)))[q9]? := fun q hq => (hb.cell (p := ⟨bu, ou + q, none⟩) hltD4).trans (HS0.out q hq)
  have hle : B ≤ WD4.heap.size := HZ12.out
  have hk2 := hk.imp (Q := fun b => B ≤ b) (fun b hb => hb.elim id (fun h => Nat.le_trans hle h))
  have ho2 := hown.less hle
  clear hk hown hle
  have Ha13 := Lib.hid (Ha12.out.below hb Ha12.out.lt)
  have Hb13 := Lib.hid (Hb12.out.below hb Hb12.out.lt)
  have Hi13 := Lib.hid (Hi12.out.below hb Hi12.out.lt)
  have Kb13 := Lib.hid (Kb12.out.kept hb)
  have Sx13 := Lib.hid (Sx12.out.later hb)
  have Su13 := Lib.hid (Su12.out.later hb)
  have HB13 := Lib.hid (HB12.out.trans (hb.mono HB12.out.size))
  have HZ13 : Hid (B ≤ w4.heap.size) := Lib.hid (Nat.le_trans HZ12.out hb.size)
  clear Ha12 Hb12 Hi12 Kb12 Sx12 Su12 HB12 HZ12
  have Ka13 := Lib.hid hk2
  have Sv13 := Lib.hid ho2
  clear hb hk2 ho2
  try go_wp2_with fail
  refine hK.out _ _ hS5 (fun hS => ?_)
  clear hK K hS5 HS0
  try simp only [Act.put, List.getElem_toArray, List.getElem_cons_succ, List.getElem_cons_zero, List.setIfInBounds_toArray, List.set_cons_zero, List.set_cons_succ]
  refine wpAnyH_take (i := 6) (v := ?_) rfl (by kernel_rfl) (by kernel_rfl) (by kernel_rfl) (fun _ _ _ h => h) (Or.inl ⟨by kernel_rfl, ?_⟩) (by first | assumption | trivial) ?_
  rotate_left
  · intro w hSw
    try dsimp only at hSw
    first | (go_simp; done) | (go_simp; with_reducible rfl)
  try simp only [Act.put, List.getElem_toArray, List.getElem_cons_succ, List.getElem_cons_zero, List.setIfInBounds_toArray, List.set_cons_zero, List.set_cons_succ]
  refine wpAnyH_take (i := 7) (v := ?_) rfl (by kernel_rfl) (by kernel_rfl) (by kernel_rfl) (fun _ _ _ h => h) (Or.inl ⟨by kernel_rfl, ?_⟩) (by first | assumption | trivial) ?_
  rotate_left
  · intro w hSw
    try dsimp only at hSw
    first | (go_simp; done) | (go_simp; with_reducible rfl)
  try simp only [Act.put, List.getElem_toArray, List.getElem_cons_succ, List.getElem_cons_zero, List.setIfInBounds_toArray, List.set_cons_zero, List.set_cons_succ]
  refine wpAnyH_take (i := 8) (v := ?_) rfl (by kernel_rfl) (by kernel_rfl) (by kernel_rfl) (fun _ _ _ h => h) (Or.inl ⟨by kernel_rfl, ?_⟩) (by first | assumption | trivial) ?_
  rotate_left
  · intro w hSw
    try dsimp only at hSw
    first | (go_simp; done) | (go_simp; with_reducible rfl)
  try simp only [Act.put, List.getElem_toArray, List.getElem_cons_succ, List.getElem_cons_zero, List.setIfInBounds_toArray, List.set_cons_zero, List.set_cons_succ]
  refine wpAnyH_take (i := 9) (v := ?_) rfl (by kernel_rfl) (by kernel_rfl) (by kernel_rfl) (fun _ _ _ h => h) (Or.inl ⟨by kernel_rfl, ?_⟩) (by first | assumption | trivial) ?_
  rotate_left
  · intro w hSw
    try dsimp only at hSw
    first | (go_simp; done) | (go_simp; with_reducible rfl)
  try simp only [Act.put, List.getElem_toArray, List.getElem_cons_succ, List.getElem_cons_zero, List.setIfInBounds_toArray, List.set_cons_zero, List.set_cons_succ]
  refine wpAnyH_ready (rs := [10]) (by kernel_rfl) (by simp) ?_
  refine AllReadyH.cons rfl (fun K hK => ?_) AllReadyH.nil
  have z0 : w4.cell? ⟨ga, 0, none⟩ = some (.int .i64 hdA1.me) := Ha13.out.cell 0
  have z1 : w4.cell? ⟨ga, 1, none⟩ = some (.slice p1 hdA1.xs.length c1) := Ha13.out.cell 1
  have z2 : w4.cell? ⟨ga, 2, none⟩ = some (.slice q1 hdA1.os.length e1) := Ha13.out.cell 2
  have z3 : w4.cell? ⟨ga, 3, none⟩ = some (.int .i64 hdA1.far) := Ha13.out.cell 3
  have f0 := Ha13.out.free 0
  have f1 := Ha13.out.free 1
  have f2 := Ha13.out.free 2
  have f3 := Ha13.out.free 3
  go_simp
  clear z0 z1 z2 z3 f0 f1 f2 f3
  have hch : Hid (Chg ga w4 ((((w4.setCell ⟨ga, 0, none⟩ (.int .i64 hdA2.me)).setCell ⟨ga, 1, none⟩ (.slice p4 hdA2.xs.length c4)).setCell ⟨ga, 2, none⟩ (.slice q4 hdA2.os.length e4)).setCell ⟨ga, 3, none⟩ (.int .i64 hdA2.far))) := Lib.hid (((((Chg.refl ga w4).set 0 (.int .i64 hdA2.me)).set 1 (.slice p4 hdA2.xs.length c4)).set 2 (.slice q4 hdA2.os.length e4)).set 3 (.int .i64 hdA2.far))
  have Ha14 : Hid (Blk ((((w4.setCell ⟨ga, 0, none⟩ (.int .i64 hdA2.me)).setCell ⟨ga, 1, none⟩ (.slice p4 hdA2.xs.length c4)).setCell ⟨ga, 2, none⟩ (.slice q4 hdA2.os.length e4)).setCell ⟨ga, 3, none⟩ (.int .i64 hdA2.far)) ga #[.int .i64 hdA2.me, .slice p4 hdA2.xs.length c4, .slice q4 hdA2.os.length e4, .int .i64 hdA2.far] 29) := Lib.hid ((((Ha13.out.set 0 (.int .i64 hdA2.me)).set 1 (.slice p4 hdA2.xs.length c4)).set 2 (.slice q4 hdA2.os.length e4)).set 3 (.int .i64 hdA2.far))
  have HB14 : Hid (Below w.heap.size w ((((w4.setCell ⟨ga, 0, none⟩ (.int .i64 hdA2.me)).setCell ⟨ga, 1, none⟩ (.slice p4 hdA2.xs.length c4)).setCell ⟨ga, 2, none⟩ (.slice q4 hdA2.os.length e4)).setCell ⟨ga, 3, none⟩ (.int .i64 hdA2.far))) := Lib.hid ((((HB13.out.setCell (p := ⟨ga, 0, none⟩) (by have := NG.out; show w.heap.size ≤ ga; omega) (.int .i64 hdA2.me)).setCell (p := ⟨ga, 1, none⟩) (by have := NG.out; show w.heap.size ≤ ga; omega) (.slice p4 hdA2.xs.length c4)).setCell (p := ⟨ga, 2, none⟩) (by have := NG.out; show w.heap.size ≤ ga; omega) (.slice q4 hdA2.os.length e4)).setCell (p := ⟨ga, 3, none⟩) (by have := NG.out; show w.heap.size ≤ ga; omega) (.int .i64 hdA2.far))
  have HZ14 : Hid (B ≤ ((((w4.setCell ⟨ga, 0, none⟩ (.int .i64 hdA2.me)).setCell ⟨ga, 1, none⟩ (.slice p4 hdA2.xs.length c4)).setCell ⟨ga, 2, none⟩ (.slice q4 hdA2.os.length e4)).setCell ⟨ga, 3, none⟩ (.int .i64 hdA2.far)).heap.size) := Lib.hid (Nat.le_trans HZ13.out hch.out.size)
  have Hb14 := Lib.hid (Hb13.out.chg hch.out (by have := NG.out; omega))
  have Hi14 := Lib.hid (Hi13.out.chg hch.out (by have := NG.out; omega))
  have Kb14 := Lib.hid (Kb13.out.keepP (KeepP.of_chg hch.out (by have := NG.out; show ¬ _ ≤ _; omega)))
  have Ka14 := Lib.hid (Ka13.out.keepP (KeepP.of_chg hch.out (by have := NG.out; show ¬ _ ≤ _; omega)))
  have Sx14 := Lib.hid (Sx13.out.stay (fun b hb => hch.out.2 b (Sx13.out.lt b hb) (by have h1 := Sx13.out.block_ge b hb; have := NG.out; omega)))
  have Su14 := Lib.hid (Su13.out.stay (fun b hb => hch.out.2 b (Su13.out.lt b hb) (by have h1 := Su13.out.block_ge b hb; have := NG.out; omega)))
  have Sv14 := Lib.hid (Sv13.out.stay (fun b hb => hch.out.2 b (Sv13.out.lt b hb) (by have h1 := Sv13.out.block_ge b hb; have := NG.out; omega)))
  have hS6 : ∀ q9, q9 < 12 → ((((w4.setCell ⟨ga, 0, none⟩ (.int .i64 hdA2.me)).setCell ⟨ga, 1, none⟩ (.slice p4 hdA2.xs.length c4)).setCell ⟨ga, 2, none⟩ (.slice q4 hdA2.os.length e4)).setCell ⟨ga, 3, none⟩ (.int .i64 hdA2.far)).cell? ⟨bu, ou + q9, none⟩ = (SdX.cells (sdX (0, aboutM 7 hdB)))[q9]? := fun q hq => (cell_chg hch.out hlt54 (by have := NG.out; omega)).trans (hS q hq)
  clear hch hS Ha13 Hb13 Hi13 Kb13 Ka13 Sx13 Su13 Sv13 HB13 HZ13
  generalize ((((w4.setCell ⟨ga, 0, none⟩ (.int .i64 hdA2.me)).setCell ⟨ga, 1, none⟩ (.slice p4 hdA2.xs.length c4)).setCell ⟨ga, 2, none⟩ (.slice q4 hdA2.os.length e4)).setCell ⟨ga, 3, none⟩ (.int .i64 hdA2.far)) = W4 at *
  refine hK.out _ _ hS6 (fun hS => ?_)
  clear hK K hS6
  try simp only [Act.put, List.getElem_toArray, List.getElem_cons_succ, List.getElem_cons_zero, List.setIfInBounds_toArray, List.set_cons_zero, List.set_cons_succ]
  refine wpAnyH_take (i := 11) (v := ?_) rfl (by kernel_rfl) (by kernel_rfl) (by kernel_rfl) (fun _ _ _ h => h) (Or.inl ⟨by kernel_rfl, ?_⟩) (by first | assumption | trivial) ?_
  rotate_left
  · intro w hSw
    try dsimp only at hSw
    first | (go_simp; done) | (go_simp; with_reducible rfl)
  try simp only [Act.put, List.getElem_toArray, List.getElem_cons_succ, List.getElem_cons_zero, List.setIfInBounds_toArray, List.set_cons_zero, List.set_cons_succ]
  refine wpAnyH_take (i := 12) (v := ?_) rfl (by kernel_rfl) (by kernel_rfl) (by kernel_rfl) (fun _ _ _ h => h) (Or.inl ⟨by kernel_rfl, ?_⟩) (by first | assumption | trivial) ?_
  rotate_left
  · intro w hSw
    try dsimp only at hSw
    first | (go_simp; done) | (go_simp; with_reducible rfl)
  try simp only [Act.put, List.getElem_toArray, List.getElem_cons_succ, List.getElem_cons_zero, List.setIfInBounds_toArray, List.set_cons_zero, List.set_cons_succ]
  refine wpAnyH_done (by kernel_rfl) ?_ _
  clear hS
  go_upto_region 12 with fail
  clear hlt54 hltD4 hltu hgeu
  have HG := Lib.hid (dget_any W4 hdA2.me p4 q4 hdA2.xs.length c4 hdA2.os.length e4 (0) (3) hdA2.xs Ka14.out.row.items rfl Ka14.out.row.sx (by have := Ka14.out.row.nx; omega))
  rw [show findX hdA2.xs 0 3 = some hdB from rfl] at HG
  simp only [Option.getD_some, Option.isSome_some] at HG
  unfold Itm.v at HG
  unfold bookV idV at HG
  have a0 : W4.cell? ⟨ga, 0, none⟩ = some (.int .i64 hdA2.me) := Ha14.out.cell 0
  have a1 : W4.cell? ⟨ga, 1, none⟩ = some (.slice p4 hdA2.xs.length c4) := Ha14.out.cell 1
  have a2 : W4.cell? ⟨ga, 2, none⟩ = some (.slice q4 hdA2.os.length e4) := Ha14.out.cell 2
  have i0 : W4.cell? ⟨gi, 0, none⟩ = some (.int .i64 0) := Hi14.out.cell 0
  have i1 : W4.cell? ⟨gi, 1, none⟩ = some (.int .i64 3) := Hi14.out.cell 1
  go_wp2_with fail
  clear a0 a1 a2 i0 i1
  refine HG.out.mono ?_
  rintro y w5 ⟨rfl, hb⟩
  clear HG
  have Ha15 := Lib.hid (Ha14.out.below hb Ha14.out.lt)
  have Hb15 := Lib.hid (Hb14.out.below hb Hb14.out.lt)
  have Hi15 := Lib.hid (Hi14.out.below hb Hi14.out.lt)
  have Kb15 := Lib.hid (Kb14.out.kept hb)
  have Ka15 := Lib.hid (Ka14.out.kept hb)
  have Sx15 := Lib.hid (Sx14.out.later hb)
  have Su15 := Lib.hid (Su14.out.later hb)
  have Sv15 := Lib.hid (Sv14.out.later hb)
  have HB15 := Lib.hid (HB14.out.trans (hb.mono HB14.out.size))
  have HZ15 : Hid (B ≤ w5.heap.size) := Lib.hid (Nat.le_trans HZ14.out hb.size)
  clear Ha14 Hb14 Hi14 Kb14 Ka14 Sx14 Su14 Sv14 HB14 HZ14
  clear hb
  have Ha16 := Lib.hid (Ha15.out.alloc (.cells #[.int .i64 hdB.s, .int .i64 hdB.n, .int .i64 hdB.b, .int .i64 hdB.c, .int .i64 hdB.a, .int .i64 hdB.r, .int .i64 hdB.t, .int .i64 hdB.y] 64))
  have Hb16 := Lib.hid (Hb15.out.alloc (.cells #[.int .i64 hdB.s, .int .i64 hdB.n, .int .i64 hdB.b, .int .i64 hdB.c, .int .i64 hdB.a, .int .i64 hdB.r, .int .i64 hdB.t, .int .i64 hdB.y] 64))
  have Hi16 := Lib.hid (Hi15.out.alloc (.cells #[.int .i64 hdB.s, .int .i64 hdB.n, .int .i64 hdB.b, .int .i64 hdB.c, .int .i64 hdB.a, .int .i64 hdB.r, .int .i64 hdB.t, .int .i64 hdB.y] 64))
  have Kb16 := Lib.hid (Kb15.out.kept (oneB w5 (.cells #[.int .i64 hdB.s, .int .i64 hdB.n, .int .i64 hdB.b, .int .i64 hdB.c, .int .i64 hdB.a, .int .i64 hdB.r, .int .i64 hdB.t, .int .i64 hdB.y] 64)))
  have Ka16 := Lib.hid (Ka15.out.kept (oneB w5 (.cells #[.int .i64 hdB.s, .int .i64 hdB.n, .int .i64 hdB.b, .int .i64 hdB.c, .int .i64 hdB.a, .int .i64 hdB.r, .int .i64 hdB.t, .int .i64 hdB.y] 64)))
  have Sx16 := Lib.hid (Sx15.out.later (oneB w5 (.cells #[.int .i64 hdB.s, .int .i64 hdB.n, .int .i64 hdB.b, .int .i64 hdB.c, .int .i64 hdB.a, .int .i64 hdB.r, .int .i64 hdB.t, .int .i64 hdB.y] 64)))
  have Su16 := Lib.hid (Su15.out.later (oneB w5 (.cells #[.int .i64 hdB.s, .int .i64 hdB.n, .int .i64 hdB.b, .int .i64 hdB.c, .int .i64 hdB.a, .int .i64 hdB.r, .int .i64 hdB.t, .int .i64 hdB.y] 64)))
  have Sv16 := Lib.hid (Sv15.out.later (oneB w5 (.cells #[.int .i64 hdB.s, .int .i64 hdB.n, .int .i64 hdB.b, .int .i64 hdB.c, .int .i64 hdB.a, .int .i64 hdB.r, .int .i64 hdB.t, .int .i64 hdB.y] 64)))
  have Hp16 := Lib.hid (Blk.new w5 #[.int .i64 hdB.s, .int .i64 hdB.n, .int .i64 hdB.b, .int .i64 hdB.c, .int .i64 hdB.a, .int .i64 hdB.r, .int .i64 hdB.t, .int .i64 hdB.y] 64)
  have HB16 := Lib.hid (HB15.out.alloc HB15.out.size (.cells #[.int .i64 hdB.s, .int .i64 hdB.n, .int .i64 hdB.b, .int .i64 hdB.c, .int .i64 hdB.a, .int .i64 hdB.r, .int .i64 hdB.t, .int .i64 hdB.y] 64))
  have HZ16 : Hid (B ≤ (w5.alloc (.cells #[.int .i64 hdB.s, .int .i64 hdB.n, .int .i64 hdB.b, .int .i64 hdB.c, .int .i64 hdB.a, .int .i64 hdB.r, .int .i64 hdB.t, .int .i64 hdB.y] 64)).heap.size) := Lib.hid (Nat.le_trans HZ15.out (oneB w5 (.cells #[.int .i64 hdB.s, .int .i64 hdB.n, .int .i64 hdB.b, .int .i64 hdB.c, .int .i64 hdB.a, .int .i64 hdB.r, .int .i64 hdB.t, .int .i64 hdB.y] 64)).size)
  clear Ha15 Hb15 Hi15 Kb15 Ka15 Sx15 Su15 Sv15 HB15 HZ15
  go_upto_region 13 with fail
  generalize (w5.alloc (.cells #[.int .i64 hdB.s, .int .i64 hdB.n, .int .i64 hdB.b, .int .i64 hdB.c, .int .i64 hdB.a, .int .i64 hdB.r, .int .i64 hdB.t, .int .i64 hdB.y] 64)) = W5 at *
  generalize hggp : w5.heap.size = gp at *
  have HG := Lib.hid (dget_any W5 hdB2.me p3 q3 hdB2.xs.length c3 hdB2.os.length e3 (0) (3) hdB2.xs Kb16.out.row.items rfl Kb16.out.row.sx (by have := Kb16.out.row.nx; omega))
  rw [show findX hdB2.xs 0 3 = some hdB from rfl] at HG
  simp only [Option.getD_some, Option.isSome_some] at HG
  unfold Itm.v at HG
  unfold bookV idV at HG
  have a0 : W5.cell? ⟨gb, 0, none⟩ = some (.int .i64 hdB2.me) := Hb16.out.cell 0
  have a1 : W5.cell? ⟨gb, 1, none⟩ = some (.slice p3 hdB2.xs.length c3) := Hb16.out.cell 1
  have a2 : W5.cell? ⟨gb, 2, none⟩ = some (.slice q3 hdB2.os.length e3) := Hb16.out.cell 2
  have i0 : W5.cell? ⟨gi, 0, none⟩ = some (.int .i64 0) := Hi16.out.cell 0
  have i1 : W5.cell? ⟨gi, 1, none⟩ = some (.int .i64 3) := Hi16.out.cell 1
  go_wp2_with fail
  clear a0 a1 a2 i0 i1
  refine HG.out.mono ?_
  rintro y w6 ⟨rfl, hb⟩
  clear HG
  have Ha17 := Lib.hid (Ha16.out.below hb Ha16.out.lt)
  have Hb17 := Lib.hid (Hb16.out.below hb Hb16.out.lt)
  have Hi17 := Lib.hid (Hi16.out.below hb Hi16.out.lt)
  have Hp17 := Lib.hid (Hp16.out.below hb Hp16.out.lt)
  have Kb17 := Lib.hid (Kb16.out.kept hb)
  have Ka17 := Lib.hid (Ka16.out.kept hb)
  have Sx17 := Lib.hid (Sx16.out.later hb)
  have Su17 := Lib.hid (Su16.out.later hb)
  have Sv17 := Lib.hid (Sv16.out.later hb)
  have HB17 := Lib.hid (HB16.out.trans (hb.mono HB16.out.size))
  have HZ17 : Hid (B ≤ w6.heap.size) := Lib.hid (Nat.le_trans HZ16.out hb.size)
  clear Ha16 Hb16 Hi16 Hp16 Kb16 Ka16 Sx16 Su16 Sv16 HB16 HZ16
  clear hb
  have Ha18 := Lib.hid (Ha17.out.alloc (.cells #[.int .i64 hdB.s, .int .i64 hdB.n, .int .i64 hdB.b, .int .i64 hdB.c, .int .i64 hdB.a, .int .i64 hdB.r, .int .i64 hdB.t, .int .i64 hdB.y] 64))
  have Hb18 := Lib.hid (Hb17.out.alloc (.cells #[.int .i64 hdB.s, .int .i64 hdB.n, .int .i64 hdB.b, .int .i64 hdB.c, .int .i64 hdB.a, .int .i64 hdB.r, .int .i64 hdB.t, .int .i64 hdB.y] 64))
  have Hi18 := Lib.hid (Hi17.out.alloc (.cells #[.int .i64 hdB.s, .int .i64 hdB.n, .int .i64 hdB.b, .int .i64 hdB.c, .int .i64 hdB.a, .int .i64 hdB.r, .int .i64 hdB.t, .int .i64 hdB.y] 64))
  have Hp18 := Lib.hid (Hp17.out.alloc (.cells #[.int .i64 hdB.s, .int .i64 hdB.n, .int .i64 hdB.b, .int .i64 hdB.c, .int .i64 hdB.a, .int .i64 hdB.r, .int .i64 hdB.t, .int .i64 hdB.y] 64))
  have Kb18 := Lib.hid (Kb17.out.kept (oneB w6 (.cells #[.int .i64 hdB.s, .int .i64 hdB.n, .int .i64 hdB.b, .int .i64 hdB.c, .int .i64 hdB.a, .int .i64 hdB.r, .int .i64 hdB.t, .int .i64 hdB.y] 64)))
  have Ka18 := Lib.hid (Ka17.out.kept (oneB w6 (.cells #[.int .i64 hdB.s, .int .i64 hdB.n, .int .i64 hdB.b, .int .i64 hdB.c, .int .i64 hdB.a, .int .i64 hdB.r, .int .i64 hdB.t, .int .i64 hdB.y] 64)))
  have Sx18 := Lib.hid (Sx17.out.later (oneB w6 (.cells #[.int .i64 hdB.s, .int .i64 hdB.n, .int .i64 hdB.b, .int .i64 hdB.c, .int .i64 hdB.a, .int .i64 hdB.r, .int .i64 hdB.t, .int .i64 hdB.y] 64)))
  have Su18 := Lib.hid (Su17.out.later (oneB w6 (.cells #[.int .i64 hdB.s, .int .i64 hdB.n, .int .i64 hdB.b, .int .i64 hdB.c, .int .i64 hdB.a, .int .i64 hdB.r, .int .i64 hdB.t, .int .i64 hdB.y] 64)))
  have Sv18 := Lib.hid (Sv17.out.later (oneB w6 (.cells #[.int .i64 hdB.s, .int .i64 hdB.n, .int .i64 hdB.b, .int .i64 hdB.c, .int .i64 hdB.a, .int .i64 hdB.r, .int .i64 hdB.t, .int .i64 hdB.y] 64)))
  have Hq18 := Lib.hid (Blk.new w6 #[.int .i64 hdB.s, .int .i64 hdB.n, .int .i64 hdB.b, .int .i64 hdB.c, .int .i64 hdB.a, .int .i64 hdB.r, .int .i64 hdB.t, .int .i64 hdB.y] 64)
  have HB18 := Lib.hid (HB17.out.alloc HB17.out.size (.cells #[.int .i64 hdB.s, .int .i64 hdB.n, .int .i64 hdB.b, .int .i64 hdB.c, .int .i64 hdB.a, .int .i64 hdB.r, .int .i64 hdB.t, .int .i64 hdB.y] 64))
  have HZ18 : Hid (B ≤ (w6.alloc (.cells #[.int .i64 hdB.s, .int .i64 hdB.n, .int .i64 hdB.b, .int .i64 hdB.c, .int .i64 hdB.a, .int .i64 hdB.r, .int .i64 hdB.t, .int .i64 hdB.y] 64)).heap.size) := Lib.hid (Nat.le_trans HZ17.out (oneB w6 (.cells #[.int .i64 hdB.s, .int .i64 hdB.n, .int .i64 hdB.b, .int .i64 hdB.c, .int .i64 hdB.a, .int .i64 hdB.r, .int .i64 hdB.t, .int .i64 hdB.y] 64)).size)
  clear Ha17 Hb17 Hi17 Hp17 Kb17 Ka17 Sx17 Su17 Sv17 HB17 HZ17
  go_upto_region 14 with fail
  generalize (w6.alloc (.cells #[.int .i64 hdB.s, .int .i64 hdB.n, .int .i64 hdB.b, .int .i64 hdB.c, .int .i64 hdB.a, .int .i64 hdB.r, .int .i64 hdB.t, .int .i64 hdB.y] 64)) = W6 at *
  generalize hggq : w6.heap.size = gq at *
  obtain ⟨pz, cz, hvz⟩ := own0 Sv18.out
  subst hvz
  have x0 : W6.cell? ⟨gp, 0, none⟩ = some (.int .i64 hdB.s) := Hp18.out.cell 0
  have x1 : W6.cell? ⟨gp, 1, none⟩ = some (.int .i64 hdB.n) := Hp18.out.cell 1
  have x2 : W6.cell? ⟨gp, 2, none⟩ = some (.int .i64 hdB.b) := Hp18.out.cell 2
  have x3 : W6.cell? ⟨gp, 3, none⟩ = some (.int .i64 hdB.c) := Hp18.out.cell 3
  have x4 : W6.cell? ⟨gp, 4, none⟩ = some (.int .i64 hdB.a) := Hp18.out.cell 4
  have x5 : W6.cell? ⟨gp, 5, none⟩ = some (.int .i64 hdB.r) := Hp18.out.cell 5
  have x6 : W6.cell? ⟨gp, 6, none⟩ = some (.int .i64 hdB.t) := Hp18.out.cell 6
  have x7 : W6.cell? ⟨gp, 7, none⟩ = some (.int .i64 hdB.y) := Hp18.out.cell 7
  have y0 : W6.cell? ⟨gq, 0, none⟩ = some (.int .i64 hdB.s) := Hq18.out.cell 0
  have y1 : W6.cell? ⟨gq, 1, none⟩ = some (.int .i64 hdB.n) := Hq18.out.cell 1
  have y2 : W6.cell? ⟨gq, 2, none⟩ = some (.int .i64 hdB.b) := Hq18.out.cell 2
  have y3 : W6.cell? ⟨gq, 3, none⟩ = some (.int .i64 hdB.c) := Hq18.out.cell 3
  have y4 : W6.cell? ⟨gq, 4, none⟩ = some (.int .i64 hdB.a) := Hq18.out.cell 4
  have y5 : W6.cell? ⟨gq, 5, none⟩ = some (.int .i64 hdB.r) := Hq18.out.cell 5
  have y6 : W6.cell? ⟨gq, 6, none⟩ = some (.int .i64 hdB.t) := Hq18.out.cell 6
  have y7 : W6.cell? ⟨gq, 7, none⟩ = some (.int .i64 hdB.y) := Hq18.out.cell 7
  have keq := fun (w : World) => item_eq hdB hdB w
  rw [show itmEq hdB hdB = true by decide] at keq
  have x3b : (hdB.t == 3) = true := by decide
  have x4b : (hdB.a == 100) = true := by decide
  go_wp2_with fail
  go_ret
  exact ⟨rfl, HB18.out⟩
end Go.Proofs.Ytbpfbebebppleaa
namespace Go.Proofs.Ytbpfbebebppleaa
open Go.RowKit
set_option linter.unusedSimpArgs false
/-- A slice of what is said, with room behind it that may be written, in block b. -/
structure Que (w : World) (ao : Option Addr) (b off n c : Nat) (L : List SdX) : Prop where
  len : n = L.length
  le : n ≤ c
  mx : c ≤ maxLen
  addr : 0 < c → ao = some ⟨b, off, none⟩
  lt : 0 < c → b < w.heap.size
  free : ∀ j, j < c * 12 → (w.cell? ⟨b, off + j, none⟩).isSome = true ∧ w.frozen? ⟨b, off + j, none⟩ = false
  row : TRow encS w (.slice ao n c) L
theorem Que.stay {w w' : World} {ao : Option Addr} {b off n c : Nat} {L : List SdX} (h : Que w ao b off n c L) (hb : 0 < c → w'.heap[b]? = w.heap[b]?) (hs : w.heap.size ≤ w'.heap.size) : Que w' ao b off n c L := by
  refine ⟨h.len, h.le, h.mx, h.addr, fun h0 => Nat.lt_of_lt_of_le (h.lt h0) hs, fun j hj => ?_, ?_⟩
  · have h0 : 0 < c := by omega
    rw [World.cell?_of_block (a := ⟨b, off + j, none⟩) (hb h0), World.frozen?_of_block (a := ⟨b, off + j, none⟩) (hb h0)]
    exact h.free j hj
  · refine h.row.keepP (P := fun x => x = b ∧ 0 < c) (fun x o k c' e hn => ?_) ⟨hs, fun x _ hxb => by rw [hxb.1]; exact hb hxb.2⟩
    have h1 : 0 < c := by
      have h2 := h.le
      have h3 := h.len
      omega
    rw [h.addr h1] at e
    cases e
    exact ⟨rfl, h1⟩
theorem Que.kept {w w' : World} {ao : Option Addr} {b off n c : Nat} {L : List SdX} (h : Que w ao b off n c L) (hb : Below w.heap.size w w') : Que w' ao b off n c L := h.stay (fun h0 => hb.block b (h.lt h0)) hb.size
theorem Que.chg {w w' : World} {ao : Option Addr} {b off n c g : Nat} {L : List SdX} (h : Que w ao b off n c L) (hc : Chg g w w') (hg : b ≠ g) : Que w' ao b off n c L := h.stay (fun h0 => hc.2 b (h.lt h0) hg) hc.size
theorem Que.of_own {w : World} {base n c : Nat} {p : Option Addr} {L : List SdX} (h : OwnT encS w base 58 (.slice p n c) L) : ∃ b, base ≤ b ∧ Que w p b 0 n c L ∧ (0 < c → (Value.slice p n c).ownBlock = some b) := by
  have hl : n = L.length := by
    obtain ⟨_, _, e⟩ := h.form
    cases e
    rfl
  rcases h.2 with ⟨hv, h0⟩ | ⟨g, cap, cur, hv, hb, hg, hn, hm, hs, ht⟩
  · cases hv
    exact ⟨base, Nat.le_refl _, ⟨hl, Nat.le_refl _, by decide, fun h => absurd h (Nat.lt_irrefl _), fun h => absurd h (Nat.lt_irrefl _), fun j hj => by omega, h.row⟩, fun h => absurd h (Nat.lt_irrefl _)⟩
  · cases hv
    have hB : Blk w g cur 58 := hg
    refine ⟨g, hb, ⟨hl, by omega, hm, fun _ => rfl, fun _ => hB.lt, fun j hj => ⟨?_, hB.free (0 + j)⟩, h.row⟩, fun _ => rfl⟩
    rw [hB.cell (0 + j), Nat.zero_add, Array.getElem?_eq_getElem (by rw [hs]; exact hj)]
    rfl
theorem Que.tail {w : World} {ao ao' : Option Addr} {b off c : Nat} {z : SdX} (h : Que w ao b off 1 c [z]) (ha : 1 < c → ao' = some ⟨b, off + 12, none⟩) : Que w ao' b (off + 12) 0 (c - 1) [] := by
  have h1 := h.le
  refine ⟨rfl, Nat.zero_le _, Nat.le_trans (Nat.sub_le _ _) h.mx, fun h0 => ha (by omega), fun h0 => h.lt (by omega), fun j hj => ?_, ?_⟩
  · have h2 := h.free (12 + j) (by omega)
    rw [Nat.add_assoc]
    exact h2
  · exact ⟨ao', c - 1, rfl, Nat.zero_le _, .inl rfl⟩
set_option maxHeartbeats 4000000 in
/-- An append of one thing at most onto nothing, where there may be room. -/
theorem que_append {w : World} {ao py : Option Addr} {b off c ny cy : Nat} {M : List SdX} (h : Que w ao b off 0 c []) (hr : TRow encS w (.slice py ny cy) M) (hM : M.length ≤ 1) (ty : TypeId) :
    ∃ v' w', (Builtin.append_ #[43, 43] ty #[.slice ao 0 c, .slice py ny cy]).run Try.prog w = .ok v' w' ∧ ∃ ao' b' off' c', v' = .slice ao' M.length c' ∧ Que w' ao' b' off' M.length c' M ∧ (b' = b ∨ w.heap.size ≤ b') ∧ Chg b w w' := by
  obtain ⟨i, ht, hi, hz, hsz, hby⟩ := eltS
  obtain ⟨p', c', e1⟩ := hr.shape
  cases e1
  rcases M with _ | ⟨z, _ | ⟨z2, M⟩⟩
  · clear hM
    have hs : Src Try.prog i.size 43 (.slice py 0 cy) 0 [] w := by
      cases py with
      | none => exact Src.ofNil w ht cy
      | some a => exact Src.ofSlice w ht a 0 cy [] (by simp) (by simp) (by simp)
    exact ⟨_, _, run_append_nothing w 43 43 ty 58 i ht hi ao 0 c (Nat.zero_le _) _ hs, ao, b, off, c, rfl, h, .inl rfl, Chg.refl _ _⟩
  · clear hM
    obtain ⟨b2, o2, rfl, hb2, hc2⟩ := hr.at_ 0 (by simp)
    have hk : i.size = 12 := hsz
    have hnl : (SdX.cells z).length = 12 := encS.len z
    have hs : Src Try.prog i.size 43 (.slice (some ⟨b2, o2, none⟩) 1 cy) 1 (SdX.cells z) w := by
      refine Src.ofSlice w ht _ 1 cy _ (by rw [hnl, hk]) (fun j u hu => ?_) (encS.one z)
      have hj : j < 12 := by rw [← hnl]; exact (List.getElem?_eq_some_iff.1 hu).1
      have h3 := hc2 j hj
      rw [Nat.zero_mul, Nat.add_zero] at h3
      rw [Addr.add_lit]
      exact h3.trans hu
    by_cases h0 : c = 0
    · subst h0
      have hold : (Builtin.firstCells i.size 0 (.slice ao 0 0)).run Try.prog w.drew = .ok ([] : List Value).toArray w.drew := by
        cases ao with
        | none => exact run_firstCells_none w.drew i.size 0 0 0
        | some a' => exact run_firstCells_some w.drew i.size 0 a' 0 0 [] (by simp) (by intro _ _ h'; simp at h')
      have hrun := run_append_grow_src (P := Try.prog) w 43 43 ty 58 i zeroVS ht hi hz ao 0 0 [] hold _ 1 (SdX.cells z) hs (by decide) (by decide) (growslice_fits (by decide) (by rw [hby]; decide))
      have hge := grownCap_ge w (0 + 1) 0 58
      have hmx := grownCap_le_maxLen w (0 + 1) 0 58 (by decide)
      refine ⟨_, _, hrun, ?_⟩
      generalize grownCap w (0 + 1) 0 58 = gc at *
      have hB := Blk.new w.drew (([] ++ SdX.cells z).toArray ++ Builtin.zeroCells zeroVS.cells (gc - (0 + 1))) 58
      have hown : OwnT encS (w.drew.alloc (.cells (([] ++ SdX.cells z).toArray ++ Builtin.zeroCells zeroVS.cells (gc - (0 + 1))) 58)) w.heap.size 58 (.slice (some ⟨w.heap.size, 0, none⟩) (0 + 1) gc) [z] := by
        refine OwnT.mk' rfl (Nat.le_refl _) hB hge hmx ?_ ?_
        · rw [Array.size_append, size_zeroCells, List.size_toArray, List.nil_append, hnl]
          show 12 + (gc - (0 + 1)) * 12 = gc * 12
          omega
        · simp only [List.nil_append, Array.toList_append, List.flatMap_cons, List.flatMap_nil, List.append_nil]
          rw [List.take_append_of_le_length (by rw [hnl]; decide)]
          exact List.take_of_length_le (by rw [hnl]; decide)
      obtain ⟨b', hb', hq, _⟩ := Que.of_own hown
      exact ⟨_, b', 0, gc, rfl, hq, .inr hb', Chg.of_below ((Below.refl w.heap.size w).drew.trans (oneB w.drew _))⟩
    · have hao := h.addr (by omega)
      subst hao
      have hfr : ∀ j, j < (SdX.cells z).length → (w.cell? ⟨b, off + 0 * i.size + j, none⟩).isSome = true ∧ w.frozen? ⟨b, off + 0 * i.size + j, none⟩ = false := fun j hj => by
        rw [Nat.zero_mul, Nat.add_zero]
        exact h.free j (by omega)
      have hrun := run_append_room_src (P := Try.prog) w 43 43 ty 58 i ht hi b off 0 c _ 1 (SdX.cells z) hs (by omega) (fun j hj => (hfr j hj).1) (fun j hj => (hfr j hj).2)
      simp only [Nat.zero_mul, Nat.add_zero] at hrun
      have hch : Chg b w (w.setCells b off (SdX.cells z)) := chg_putL _ _ _ _ _ (Chg.refl b w)
      have hin : ∀ j (hj : j < 12), (w.setCells b off (SdX.cells z)).cell? ⟨b, off + j, none⟩ = some ((SdX.cells z)[j]'(by omega)) := fun j hj => World.cell?_setCells_in b _ off w (fun j hj => (h.free j (by omega)).1) j (by omega)
      refine ⟨_, _, hrun, some ⟨b, off, none⟩, b, off, c, rfl, ⟨rfl, by show 1 ≤ c; omega, h.mx, fun _ => rfl, fun h1 => Nat.lt_of_lt_of_le (h.lt h1) hch.size, fun j hj => ⟨?_, ?_⟩, ?_⟩, .inl rfl, hch⟩
      · by_cases hj2 : j < 12
        · rw [hin j hj2]; rfl
        · rw [World.cell?_setCells_out b _ _ _ _ (fun _ _ => .inr (by show off + (SdX.cells z).length ≤ off + j; omega))]
          exact (h.free j hj).1
      · rw [World.frozen?_setCells]
        exact (h.free j hj).2
      · refine ⟨some ⟨b, off, none⟩, c, rfl, by show 1 ≤ c; omega, .inr ⟨b, off, rfl, Nat.lt_of_lt_of_le (h.lt (by omega)) hch.size, fun i hi t ht => ?_⟩⟩
        have hi0 : i = 0 := by simpa using hi
        subst hi0
        rw [Nat.zero_mul, Nat.add_zero, hin t ht]
        exact (List.getElem?_eq_getElem _).symm
  · exact absurd hM (by simp)
/-- .. in a drawn region. -/
theorem step_que {w : World} {ops : Array Oper} {o : Oper} {a : Act} {K : Act → World → Prop} {Q : Exit → Act → World → Prop} {E : Prop} (hgd : o.guard = none) (s x : Operand)
    (ho : o.op = .call { callee := .builtin .append, args := #[s, x], argTypes := #[43, 43] })
    {ao py : Option Addr} {b off c ny cy : Nat} {M : List SdX} (hs : a.eval s = .slice ao 0 c) (hx : a.eval x = .slice py ny cy) (hq : Que w ao b off 0 c []) (hr : TRow encS w (.slice py ny cy) M) (hM : M.length ≤ 1) (N : Nat) (hN : M.length = N)
    (h : ∀ ao' b' off' c' w', Que w' ao' b' off' N c' M → (b' = b ∨ w.heap.size ≤ b') → Chg b w w' → K (a.put o.dst (.slice ao' N c')) w') :
    if Region.wanted o (yielded ops a.tmps) = true then Oper.wp Try.prog o a w K Q else E := by
  subst hN
  have hw : Region.wanted o (yielded ops a.tmps) = true := by simp [Region.wanted, hgd]
  rw [if_pos hw]
  obtain ⟨v', w', hrun, ao', b', off', c', rfl, h1, h2, h3⟩ := que_append hq hr hM o.type
  unfold Oper.wp
  simp [execOp, ho, resolve, invoke, builtin, hs, hx, hrun, Result.andThen]
  exact h ao' b' off' c' w' h1 h2 h3
end Go.Proofs.Ytbpfbebebppleaa
namespace Go.Proofs.Ytbpfbebebppleaa
open Go.RowKit
set_option linter.unusedSimpArgs false
def osE (ex : Int) : List Ord := [⟨0, 1, ex⟩]
def dskA (far : Int) (xs : List Itm) : Dsk := ⟨0, far, xs, []⟩
def dskB (far ex : Int) (xs : List Itm) : Dsk := ⟨1, far, xs, osE ex⟩
/-- The one item. -/
def OneX (x : Itm) : Prop := x.s = 0 ∧ x.n = 1 ∧ x.b = 1 ∧ x.y = 0 ∧ chkI x = 0
theorem find1 {x : Itm} (h : OneX x) : findX [x] 0 1 = some x := by
  unfold findX
  rw [List.find?_cons, show decide (x.s = 0 ∧ x.n = 1) = true from decide_eq_true ⟨h.1, h.2.1⟩]
theorem ins1 {x y : Itm} (hx : OneX x) (hy : OneX y) : insX [x] y = [y] := by
  have h1 : ¬ ordP (posI x) (posI y) < 0 := by rw [ordP_lt]; unfold posI; simp only []; have := hx.1; have := hy.1; have := hx.2.1; have := hy.2.1; omega
  have h2 : ¬ 0 < ordP (posI x) (posI y) := by rw [ordP_gt]; unfold posI; simp only []; have := hx.1; have := hy.1; have := hx.2.1; have := hy.2.1; omega
  unfold insX
  rw [List.filter_cons_of_neg (by simpa using h1), List.filter_cons_of_neg (by simpa using h2)]
  rfl
theorem ins0 (y : Itm) : insX [] y = [y] := rfl
/-- What can become of it. -/
def EndX (x : Itm) : Prop := OneX x ∧ (x.t = 3 ∨ x.t = 4 ∨ (x.t = 2 ∧ x.r < 3))
/-- What is on its way, how far it still is, and what both have. -/
inductive Stg (far ex : Int) : Nat → Dsk → Dsk → List (Int × Msg) → Prop where
  | done (x : Itm) (h : EndX x) : Stg far ex 0 (dskA far [x]) (dskB far ex [x]) []
  | cancel (x : Itm) (h : OneX x) (ht : x.t = 4) : Stg far ex 1 (dskA far [x]) (dskB far ex [{ x with t := 2 }]) [(1, aboutM 9 x)]
  | yes (x : Itm) (h : OneX x) (ht : x.t = 1) : Stg far ex 2 (dskA far [x]) (dskB far ex [{ x with t := 3 }]) [(0, aboutM 7 { x with t := 3 })]
  | no (x : Itm) (h : OneX x) (ht : x.t = 1) : Stg far ex 2 (dskA far [x]) (dskB far ex [{ x with t := 2 }]) [(0, aboutM 8 { x with t := 2 })]
  | first (x : Itm) (h : OneX x) (ht : x.t = 1) (hr : x.r = 0) : Stg far ex 3 (dskA far [x]) (dskB far ex []) [(1, aboutM 6 x)]
  | again (x y : Itm) (h : OneX x) (ht : x.t = 1) (hy : OneX y) (hyt : y.t = 2) (hr : y.r + 1 = x.r) (hc : y.c = x.c) : Stg far ex 3 (dskA far [x]) (dskB far ex [y]) [(1, aboutM 6 x)]
theorem OneX.to {x : Itm} (h : OneX x) (t : Int) (ht : t = 1 ∨ t = 2 ∨ t = 3 ∨ t = 4) : OneX { x with t := t } := by
  refine ⟨h.1, h.2.1, h.2.2.1, h.2.2.2.1, ?_⟩
  obtain ⟨h1, h2, h3⟩ := chk_ok h.2.2.2.2
  refine ok_chk h1 ⟨h2.1, h2.2.1, h2.2.2.1, h2.2.2.2.1, ?_, h2.2.2.2.2.2⟩ ?_
  · show 1 ≤ t ∧ t ≤ 5; omega
  · rintro (⟨h4, _⟩ | ⟨_, h5⟩)
    · exact h4 h.2.2.2.1
    · have h5 : t = 5 := h5; omega
theorem turn1 {x : Itm} {f t : Int} (h : x.t = f) : turnI x f t = ({ x with t := t }, 0) := by unfold turnI; rw [if_pos h]
theorem itm_eta {x : Itm} {t : Int} (h : x.t = t) : ({ x with t := t } : Itm) = x := by subst h; rfl
theorem item_about {x : Itm} (k : Int) (h : OneX x) : itemM (aboutM k x) = { x with t := 1 } := by
  unfold itemM aboutM
  rw [← h.2.2.2.1]
theorem stg_buyer {far ex : Int} {x : Itm} {ys : List Itm} (h : OneX x) (ht : x.t = 1) (hy : (ys = [] ∧ x.r = 0) ∨ ∃ y, ys = [y] ∧ OneX y ∧ y.t = 2 ∧ y.r + 1 = x.r ∧ y.c = x.c) :
    Stg far ex 2 (dskA far [x]) (doM (dskB far ex ys) (aboutM 6 x) 0).1 (doM (dskB far ex ys) (aboutM 6 x) 0).2.1 := by
  have hi : itemM (aboutM 6 x) = x := by rw [item_about 6 h, itm_eta ht]
  have hfo : followsB (dskB far ex ys) x = true := by
    unfold followsB
    rcases hy with ⟨rfl, hr⟩ | ⟨y, rfl, hy, ht2, hr, hc⟩
    · show (x.r == 0) = true
      simpa using hr
    · rw [show findX (dskB far ex [y]).xs x.s x.n = some y by rw [h.1, h.2.1]; exact find1 hy]
      show ((y.t == 2) && ((y.r + 1 == x.r) && (y.c == x.c))) = true
      simp [ht2, hr, hc]
  have hput : ∀ t, t = 2 ∨ t = 3 → insX ys { x with t := t } = [{ x with t := t }] := fun t h9 => by
    rcases hy with ⟨rfl, hr⟩ | ⟨y, rfl, hy, _⟩
    · rfl
    · exact ins1 hy (h.to t (by omega))
  have hP : doM (dskB far ex ys) (aboutM 6 x) 0 = (dskB far ex ys).beh (proI (dskB far ex ys) (aboutM 6 x) 0) (proK (dskB far ex ys) (aboutM 6 x)) := rfl
  rw [hP]
  have hE : proI (dskB far ex ys) (aboutM 6 x) 0 = if expectsB (dskB far ex ys) x = true then turnI x 1 3 else turnI x 1 2 := by
    unfold proI
    rw [hi, if_neg (fun h9 => h9 h.2.2.2.2), if_neg (by rintro (h9 | h9); exact h9 h.1; exact h9 h.2.2.1), if_neg (by rw [hfo]; decide)]
  have hK : proK (dskB far ex ys) (aboutM 6 x) = if expectsB (dskB far ex ys) x = true then [7] else [8] := by unfold proK; rw [hi]
  rw [hE, hK]
  cases expectsB (dskB far ex ys) x
  · rw [if_neg (by decide), if_neg (by decide), turn1 ht]
    have e : (dskB far ex ys).beh ({ x with t := 2 }, 0) [8] = (dskB far ex [{ x with t := 2 }], [(0, aboutM 8 { x with t := 2 })], 0) := by
      unfold Dsk.beh Dsk.put toI
      rw [if_pos rfl]
      show ((⟨1, far, insX ys { x with t := 2 }, osE ex⟩ : Dsk), [((if x.b = 1 then x.s else x.b), aboutM 8 { x with t := 2 })], (0 : Int)) = _
      rw [hput 2 (.inl rfl), if_pos h.2.2.1, h.1]
      rfl
    rw [e]
    exact .no x h ht
  · rw [if_pos rfl, if_pos rfl, turn1 ht]
    have e : (dskB far ex ys).beh ({ x with t := 3 }, 0) [7] = (dskB far ex [{ x with t := 3 }], [(0, aboutM 7 { x with t := 3 })], 0) := by
      unfold Dsk.beh Dsk.put toI
      rw [if_pos rfl]
      show ((⟨1, far, insX ys { x with t := 3 }, osE ex⟩ : Dsk), [((if x.b = 1 then x.s else x.b), aboutM 7 { x with t := 3 })], (0 : Int)) = _
      rw [hput 3 (.inr rfl), if_pos h.2.2.1, h.1]
      rfl
    rw [e]
    exact .yes x h ht
theorem betw1 {d : Dsk} {x q : Itm} {k se bu : Int} (hf : findX d.xs 0 1 = some q) (hx : OneX x) (hr : q.r = x.r) (hs : q.s = se) (hb : q.b = bu) : betwA d (aboutM k x).s (aboutM k x).n (aboutM k x).r se bu = (q, 0) := by
  unfold betwA
  rw [show findX d.xs (aboutM k x).s (aboutM k x).n = some q by show findX d.xs x.s x.n = some q; rw [hx.1, hx.2.1]; exact hf]
  dsimp only
  rw [if_neg (by rintro (h | h); exact h hs; exact h hb), if_neg (fun h => h hr)]
theorem stg_seller_yes {far ex : Int} {x : Itm} (h : OneX x) (ht : x.t = 1) : Stg far ex 0 (doM (dskA far [x]) (aboutM 7 { x with t := 3 }) 1).1 (dskB far ex [{ x with t := 3 }]) (doM (dskA far [x]) (aboutM 7 { x with t := 3 }) 1).2.1 := by
  have hP : doM (dskA far [x]) (aboutM 7 { x with t := 3 }) 1 = (dskA far [x]).beh (thenA (betwA (dskA far [x]) (aboutM 7 { x with t := 3 }).s (aboutM 7 { x with t := 3 }).n (aboutM 7 { x with t := 3 }).r 0 1) (fun x => turnI x 1 3)) [] := rfl
  have h3 := h.to 3 (by decide)
  rw [hP, betw1 (d := dskA far [x]) (q := x) (find1 h) h3 rfl h.1 h.2.2.1]
  have e : thenA (x, (0 : Int)) (fun x => turnI x 1 3) = ({ x with t := 3 }, 0) := turn1 ht
  rw [e]
  have e2 : (dskA far [x]).beh ({ x with t := 3 }, 0) [] = (dskA far [{ x with t := 3 }], [], 0) := by
    unfold Dsk.beh Dsk.put
    rw [if_pos rfl]
    show ((⟨0, far, insX [x] { x with t := 3 }, []⟩ : Dsk), ([] : List (Int × Msg)), (0 : Int)) = _
    rw [ins1 h h3]
    rfl
  rw [e2]
  exact .done _ ⟨h3, .inl rfl⟩
theorem stg_seller_no {far ex : Int} {x : Itm} (h : OneX x) (ht : x.t = 1) : ∃ k, k < 2 ∧ Stg far ex k (doM (dskA far [x]) (aboutM 8 { x with t := 2 }) 1).1 (dskB far ex [{ x with t := 2 }]) (doM (dskA far [x]) (aboutM 8 { x with t := 2 }) 1).2.1 := by
  have h2 := h.to 2 (by decide)
  have h4 := h.to 4 (by decide)
  have hP : doM (dskA far [x]) (aboutM 8 { x with t := 2 }) 1 = (dskA far [x]).beh (dispR (dispI (dskA far [x]) (aboutM 8 { x with t := 2 }) 1)) (dispK (dispI (dskA far [x]) (aboutM 8 { x with t := 2 }) 1)) := rfl
  have hD : dispI (dskA far [x]) (aboutM 8 { x with t := 2 }) 1 = ({ x with t := 2 }, 0) := by
    show thenA (betwA (dskA far [x]) (aboutM 8 { x with t := 2 }).s (aboutM 8 { x with t := 2 }).n (aboutM 8 { x with t := 2 }).r 0 1) (fun x => turnI x 1 2) = _
    rw [betw1 (d := dskA far [x]) (q := x) (find1 h) h2 rfl h.1 h.2.2.1]
    exact turn1 ht
  rw [hP, hD]
  by_cases hr : x.r < 3
  · refine ⟨0, by decide, ?_⟩
    have e1 : dispR ({ x with t := 2 }, (0 : Int)) = ({ x with t := 2 }, 0) := by unfold dispR; rw [if_pos (.inr hr)]
    have e2 : dispK ({ x with t := 2 }, (0 : Int)) = [] := by unfold dispK; rw [if_pos (.inr hr)]
    rw [e1, e2]
    have e3 : (dskA far [x]).beh ({ x with t := 2 }, 0) [] = (dskA far [{ x with t := 2 }], [], 0) := by
      unfold Dsk.beh Dsk.put
      rw [if_pos rfl]
      show ((⟨0, far, insX [x] { x with t := 2 }, []⟩ : Dsk), ([] : List (Int × Msg)), (0 : Int)) = _
      rw [ins1 h h2]
      rfl
    rw [e3]
    exact .done _ ⟨h2, .inr (.inr ⟨rfl, hr⟩)⟩
  · refine ⟨1, by decide, ?_⟩
    have hn : ¬ (({ x with t := 2 }, (0 : Int)).2 ≠ 0 ∨ ({ x with t := 2 }, (0 : Int)).1.r < 3) := by
      show ¬ ((0 : Int) ≠ 0 ∨ x.r < 3)
      omega
    have e1 : dispR ({ x with t := 2 }, (0 : Int)) = ({ x with t := 4 }, 0) := by unfold dispR; rw [if_neg hn]; rfl
    have e2 : dispK ({ x with t := 2 }, (0 : Int)) = [9] := by unfold dispK; rw [if_neg hn]
    rw [e1, e2]
    have e3 : (dskA far [x]).beh ({ x with t := 4 }, 0) [9] = (dskA far [{ x with t := 4 }], [(1, aboutM 9 { x with t := 4 })], 0) := by
      unfold Dsk.beh Dsk.put toI
      rw [if_pos rfl]
      show ((⟨0, far, insX [x] { x with t := 4 }, []⟩ : Dsk), [((if x.b = 0 then x.s else x.b), aboutM 9 { x with t := 4 })], (0 : Int)) = _
      rw [ins1 h h4, if_neg (by have := h.2.2.1; omega), h.2.2.1]
      rfl
    rw [e3]
    exact .cancel _ h4 rfl
theorem stg_cancel {far ex : Int} {x : Itm} (h : OneX x) (ht : x.t = 4) : Stg far ex 0 (dskA far [x]) (doM (dskB far ex [{ x with t := 2 }]) (aboutM 9 x) 0).1 (doM (dskB far ex [{ x with t := 2 }]) (aboutM 9 x) 0).2.1 := by
  have h2 := h.to 2 (by decide)
  have hP : doM (dskB far ex [{ x with t := 2 }]) (aboutM 9 x) 0 = (dskB far ex [{ x with t := 2 }]).beh (thenA (betwA (dskB far ex [{ x with t := 2 }]) (aboutM 9 x).s (aboutM 9 x).n (aboutM 9 x).r 0 1) (fun x => turnI x 2 4)) [] := rfl
  rw [hP, betw1 (d := dskB far ex [{ x with t := 2 }]) (q := { x with t := 2 }) (find1 h2) h rfl h.1 h.2.2.1]
  have e : thenA ({ x with t := 2 }, (0 : Int)) (fun x => turnI x 2 4) = (x, 0) := by
    show turnI { x with t := 2 } 2 4 = (x, 0)
    rw [turn1 rfl]
    show (({ x with t := 4 } : Itm), (0 : Int)) = (x, 0)
    rw [itm_eta ht]
  rw [e]
  have e2 : (dskB far ex [{ x with t := 2 }]).beh (x, 0) [] = (dskB far ex [x], [], 0) := by
    unfold Dsk.beh Dsk.put
    rw [if_pos rfl]
    show ((⟨1, far, insX [{ x with t := 2 }] x, osE ex⟩ : Dsk), ([] : List (Int × Msg)), (0 : Int)) = _
    rw [ins1 h2 h]
    rfl
  rw [e2]
  exact .done _ ⟨h, .inr (.inl ht)⟩
/-- One thing comes. -/
theorem stg_step {far ex : Int} {k : Nat} {da db : Dsk} {z : Int × Msg} {L : List (Int × Msg)} (h : Stg far ex k da db (z :: L)) :
    L = [] ∧ ((z.1 = 1 ∧ ∃ k', k' < k ∧ Stg far ex k' da (doM db z.2 0).1 (doM db z.2 0).2.1) ∨ (z.1 ≠ 1 ∧ ∃ k', k' < k ∧ Stg far ex k' (doM da z.2 1).1 db (doM da z.2 1).2.1)) := by
  cases h with
  | cancel x h ht => exact ⟨rfl, .inl ⟨rfl, 0, by decide, stg_cancel h ht⟩⟩
  | yes x h ht => exact ⟨rfl, .inr ⟨by show (0 : Int) ≠ 1; decide, 0, by decide, stg_seller_yes h ht⟩⟩
  | no x h ht =>
    obtain ⟨k', h1, h2⟩ := stg_seller_no (far := far) (ex := ex) h ht
    exact ⟨rfl, .inr ⟨by show (0 : Int) ≠ 1; decide, k', h1, h2⟩⟩
  | first x h ht hr => exact ⟨rfl, .inl ⟨rfl, 2, by decide, stg_buyer h ht (.inl ⟨rfl, hr⟩)⟩⟩
  | again x y h ht hy hyt hr hc => exact ⟨rfl, .inl ⟨rfl, 2, by decide, stg_buyer h ht (.inr ⟨y, rfl, hy, hyt, hr, hc⟩)⟩⟩
theorem stg_len {far ex : Int} {k : Nat} {da db : Dsk} {L : List (Int × Msg)} (h : Stg far ex k da db L) : da.xs.length ≤ 1 ∧ da.os.length ≤ 1 ∧ db.xs.length ≤ 1 ∧ db.os.length ≤ 1 ∧ L.length ≤ 1 ∧ k ≤ 3 := by
  cases h <;> (unfold dskA dskB osE; simp)
theorem stg_nil {far ex : Int} {k : Nat} {da db : Dsk} (h : Stg far ex k da db []) : ∃ x, EndX x ∧ da = dskA far [x] ∧ db = dskB far ex [x] := by
  cases h with
  | done x h => exact ⟨x, h, rfl, rfl⟩
/-- What there is ahead of an amount: nothing yet, or the item at rest. -/
inductive Sta (far ex : Int) : Int → Dsk → Dsk → Prop where
  | new : Sta far ex 1 (dskA far []) (dskB far ex [])
  | has (x : Itm) (h : EndX x) : Sta far ex 3 (dskA far [x]) (dskB far ex [x])
theorem sta_k {far ex kd : Int} {da db : Dsk} (h : Sta far ex kd da db) : kd = 1 ∨ kd = 3 := by
  cases h with
  | new => exact .inl rfl
  | has x h => exact .inr rfl
theorem sta_len {far ex kd : Int} {da db : Dsk} (h : Sta far ex kd da db) : da.xs.length ≤ 1 ∧ da.os.length ≤ 1 ∧ db.xs.length ≤ 1 ∧ db.os.length ≤ 1 := by
  cases h <;> (unfold dskA dskB osE; simp)
def sayN (kd n : Int) : Msg := ⟨kd, 0, 1, 1, 0, 0, 0, n, false, [], []⟩
/-- An amount is said: it is refused, or it is on its way. -/
theorem sta_say {far ex kd : Int} {da db : Dsk} (h : Sta far ex kd da db) (n : Int) :
    (doM da (sayN kd n) (-1)).2.2 ≠ 0 ∨ ((doM da (sayN kd n) (-1)).2.2 = 0 ∧ Stg far ex 3 (doM da (sayN kd n) (-1)).1 db (doM da (sayN kd n) (-1)).2.1) := by
  cases h with
  | new =>
    have hP : doM (dskA far []) (sayN 1 n) (-1) = (dskA far []).beh (newA (newI 0 1 1 0 n)) [6] := rfl
    rw [hP]
    by_cases hc : chkI (newI 0 1 1 0 n) = 0
    · right
      have e : newA (newI 0 1 1 0 n) = (newI 0 1 1 0 n, 0) := by unfold newA; rw [if_pos hc]
      rw [e]
      refine ⟨rfl, ?_⟩
      exact .first (newI 0 1 1 0 n) ⟨rfl, rfl, rfl, rfl, hc⟩ rfl rfl
    · left
      have e : newA (newI 0 1 1 0 n) = (zeroI, chkI (newI 0 1 1 0 n)) := by unfold newA; rw [if_neg hc]
      rw [e]
      unfold Dsk.beh
      rw [if_neg hc]
      exact hc
  | has x h =>
    have hs : soldA (dskA far [x]) 0 1 = (x, 0) := by
      unfold soldA
      rw [show findX (dskA far [x]).xs 0 1 = some x from find1 h.1]
      exact if_pos h.1.1
    have hP : doM (dskA far [x]) (sayN 3 n) (-1) = (dskA far [x]).beh (thenA (soldA (dskA far [x]) 0 1) (fun x => adjI x n)) [6] := rfl
    have e : thenA (x, (0 : Int)) (fun x => adjI x n) = adjI x n := rfl
    rw [hP, hs, e]
    by_cases he : (adjI x n).2 = 0
    · right
      have hck := adj_chk (n := n) h.1.2.2.2.2
      have hA : adjI x n = ({ x with t := 1, r := x.r + 1, a := n }, 0) ∧ x.t = 2 := by
        unfold adjI at he ⊢
        split at he
        · rename_i h1
          rw [if_pos h1]
          split at he
          · rename_i h2
            rw [if_pos h2]
            split at he
            · exact absurd he (by show ¬ (91 : Int) = 0; decide)
            · rename_i h3
              rw [if_neg h3]
              exact ⟨rfl, h1⟩
          · exact absurd he (by show ¬ (1 : Int) = 0; decide)
        · exact absurd he (by show ¬ (90 : Int) = 0; decide)
      rw [hA.1] at hck ⊢
      have h1 : OneX ({ x with t := 1, r := x.r + 1, a := n } : Itm) := ⟨h.1.1, h.1.2.1, h.1.2.2.1, h.1.2.2.2.1, hck.1⟩
      have e3 : (dskA far [x]).beh ({ x with t := 1, r := x.r + 1, a := n }, 0) [6] = (dskA far [{ x with t := 1, r := x.r + 1, a := n }], [(1, aboutM 6 { x with t := 1, r := x.r + 1, a := n })], 0) := by
        unfold Dsk.beh Dsk.put toI
        rw [if_pos rfl]
        show ((⟨0, far, insX [x] { x with t := 1, r := x.r + 1, a := n }, []⟩ : Dsk), [((if x.b = 0 then x.s else x.b), aboutM 6 { x with t := 1, r := x.r + 1, a := n })], (0 : Int)) = _
        rw [ins1 h.1 h1, if_neg (by have := h.1.2.2.1; omega), h.1.2.2.1]
        rfl
      rw [e3]
      exact ⟨rfl, .again _ x h1 rfl h.1 hA.2 rfl rfl⟩
    · left
      unfold Dsk.beh
      rw [if_neg he]
      exact he
end Go.Proofs.Ytbpfbebebppleaa
namespace Go.Proofs.Ytbpfbebebppleaa
open Go.RowKit
def NotIn (gs : List Nat) (b : Nat) : Prop := b ∉ gs
theorem notIn_self {gs : List Nat} {g : Nat} (h : g ∈ gs) : ¬ NotIn gs g := fun hn => hn h
/-- A row in blocks of Q. -/
def RwN {α : Type} (e : Enc α) (Q : Nat → Prop) (w : World) (v : Value) (xs : List α) : Prop := TRow e w v xs ∧ At Q v xs.length
section
variable {α : Type} {e : Enc α} {Q : Nat → Prop} {w w' : World} {v : Value} {xs : List α}
theorem RwN.kept (h : RwN e Q w v xs) (hb : Below w.heap.size w w') : RwN e Q w' v xs := ⟨h.1.kept hb, h.2⟩
theorem RwN.chg {g : Nat} (h : RwN e Q w v xs) (hc : Chg g w w') (hg : ¬ Q g) : RwN e Q w' v xs := ⟨h.1.keepP h.2 (KeepP.of_chg hc hg), h.2⟩
theorem RwN.nil_ (e : Enc α) (Q : Nat → Prop) (w : World) : RwN e Q w (.slice none 0 0) [] := ⟨TRow.nil_ e w, fun _ _ _ _ h => by cases h⟩
theorem RwN.lt (h : RwN e Q w v xs) : At (fun b => b < w.heap.size ∧ Q b) v xs.length := by
  rintro b o n c rfl hn
  exact ⟨h.1.lt_ hn, h.2 b o n c rfl hn⟩
theorem RwN.imp {R : Nat → Prop} (h : RwN e Q w v xs) (hq : ∀ b, b < w.heap.size → Q b → R b) : RwN e R w v xs := by
  refine ⟨h.1, ?_⟩
  rintro b o n c rfl hn
  have h2 := h.lt b o n c rfl hn
  exact hq b h2.1 h2.2
theorem OwnT.rwN {base : Nat} {ty : TypeId} (h : OwnT e w base ty v xs) (hq : ∀ b, base ≤ b → Q b) : RwN e Q w v xs := ⟨h.row, by
  rintro b o n c rfl hn
  exact hq b (h.block_ge b rfl)⟩
end
end Go.Proofs.Ytbpfbebebppleaa
namespace Go.Proofs.Ytbpfbebebppleaa
open Go.RowKit
set_option linter.unusedSimpArgs false
theorem rowi_at {k : IntKind} {w : World} {p : Option Addr} {n c : Nat} {zs : List Int} (h : Row k w (.slice p n c) zs) (j : Nat) (hj : j < zs.length) : ∃ b o, p = some ⟨b, o, none⟩ ∧ w.cell? ⟨b, o + j, none⟩ = some (.int k (zs.getD j 0)) := by
  obtain ⟨p', c', e1, _, h⟩ := h
  cases e1
  rcases h with h | ⟨b, o, hp, h⟩
  · subst h; simp at hj
  · exact ⟨b, o, hp, h j hj⟩
set_option maxHeartbeats 8000000 in
set_option maxRecDepth 100000 in
theorem msame_any (m : Msg) (va vb ua ub : Value) (w : World) (ha : TRow encN w va m.ls) (hb : Row .i64 w vb m.ns) (hc : TRow encN w ua m.ls) (hd : Row .i64 w ub m.ns) (hl : m.ls.length ≤ 9000000000000000000) (hn : m.ns.length ≤ 9000000000000000000) :
    Calls Try.prog 23 #[m.v va vb, m.v ua ub] w fun e w' => e = .returned (.bool true) ∧ Below w.heap.size w w' := by
  obtain ⟨pa, ca, rfl⟩ := ha.shape
  obtain ⟨pb, cb, rfl⟩ := hb.shape
  obtain ⟨qa, da, rfl⟩ := hc.shape
  obtain ⟨qb, db, rfl⟩ := hd.shape
  have HA := Lib.hid ha
  have HB := Lib.hid hb
  have HC := Lib.hid hc
  have HD := Lib.hid hd
  clear ha hb hc hd
  generalize hll : m.ls.length = nl at *
  generalize hnl : m.ns.length = nn at *
  have HLL := Lib.hid hll
  have HNN := Lib.hid hnl
  clear hll hnl
  unfold Msg.v
  go_enter Try.func23, Try.ntmps23
  go_wp2_with fail
  have s1 : (w.alloc (.cells #[.int .i64 m.k, .int .i64 m.s, .int .i64 m.n, .int .i64 m.b, .int .i64 m.c, .int .i64 m.r, .int .i64 m.y, .int .i64 m.a, .bool m.t, .slice pa nl ca, .slice pb nn cb] 40)).heap.size = w.heap.size + 1 := by simp
  have HB2 : Hid (Below w.heap.size w ((w.alloc (.cells #[.int .i64 m.k, .int .i64 m.s, .int .i64 m.n, .int .i64 m.b, .int .i64 m.c, .int .i64 m.r, .int .i64 m.y, .int .i64 m.a, .bool m.t, .slice pa nl ca, .slice pb nn cb] 40)).alloc (.cells #[.int .i64 m.k, .int .i64 m.s, .int .i64 m.n, .int .i64 m.b, .int .i64 m.c, .int .i64 m.r, .int .i64 m.y, .int .i64 m.a, .bool m.t, .slice qa nl da, .slice qb nn db] 40))) := (oneB w _).trans ((oneB _ _).mono (by omega))
  have HK1 := Lib.hid ((Blk.new w (#[.int .i64 m.k, .int .i64 m.s, .int .i64 m.n, .int .i64 m.b, .int .i64 m.c, .int .i64 m.r, .int .i64 m.y, .int .i64 m.a, .bool m.t, .slice pa nl ca, .slice pb nn cb]) 40).alloc (.cells #[.int .i64 m.k, .int .i64 m.s, .int .i64 m.n, .int .i64 m.b, .int .i64 m.c, .int .i64 m.r, .int .i64 m.y, .int .i64 m.a, .bool m.t, .slice qa nl da, .slice qb nn db] 40))
  have HK2 : Hid (Blk ((w.alloc (.cells #[.int .i64 m.k, .int .i64 m.s, .int .i64 m.n, .int .i64 m.b, .int .i64 m.c, .int .i64 m.r, .int .i64 m.y, .int .i64 m.a, .bool m.t, .slice pa nl ca, .slice pb nn cb] 40)).alloc (.cells #[.int .i64 m.k, .int .i64 m.s, .int .i64 m.n, .int .i64 m.b, .int .i64 m.c, .int .i64 m.r, .int .i64 m.y, .int .i64 m.a, .bool m.t, .slice qa nl da, .slice qb nn db] 40)) (w.heap.size + 1) #[.int .i64 m.k, .int .i64 m.s, .int .i64 m.n, .int .i64 m.b, .int .i64 m.c, .int .i64 m.r, .int .i64 m.y, .int .i64 m.a, .bool m.t, .slice qa nl da, .slice qb nn db] 40) := by
    show Blk _ _ _ _
    rw [← s1]; exact Blk.new _ _ _
  generalize hW2 : (w.alloc (.cells #[.int .i64 m.k, .int .i64 m.s, .int .i64 m.n, .int .i64 m.b, .int .i64 m.c, .int .i64 m.r, .int .i64 m.y, .int .i64 m.a, .bool m.t, .slice pa nl ca, .slice pb nn cb] 40)).alloc (.cells #[.int .i64 m.k, .int .i64 m.s, .int .i64 m.n, .int .i64 m.b, .int .i64 m.c, .int .i64 m.r, .int .i64 m.y, .int .i64 m.a, .bool m.t, .slice qa nl da, .slice qb nn db] 40) = W2 at *
  clear hW2 s1
  generalize hg1 : w.heap.size = g1 at *
  have HG1 := Lib.hid hg1
  clear hg1
  generalize hg2 : g1 + 1 = g2 at *
  clear hg2
  go_loopw [5] (fun i wr => ∃ k : Nat, k ≤ nl ∧ i = .int .i64 k ∧ Hid (Below W2.heap.size W2 wr)) (fun i _ => nl - (intOf i).toNat)
  case atStart => exact ⟨0, by omega, rfl, Below.refl _ _⟩
  case round =>
    obtain ⟨k, hk, rfl, HW⟩ := hrel
    have a9 : wr.cell? ⟨g1, 9, none⟩ = some (.slice pa nl ca) := (HK1.out.below HW.out HK1.out.lt).cell 9
    have b9 : wr.cell? ⟨g2, 9, none⟩ = some (.slice qa nl da) := (HK2.out.below HW.out HK2.out.lt).cell 9
    by_cases hlt : k < nl
    · have hltI : (k : Int) < (nl : Int) := by omega
      have hkl : k < m.ls.length := by rw [HLL.out]; exact hlt
      obtain ⟨b, o, rfl, hbl, hcs⟩ := ((HA.out.kept (HG1.out.symm ▸ HB2.out)).kept HW.out).at_ k hkl
      obtain ⟨b', o', rfl, hbl', hcs'⟩ := ((HC.out.kept (HG1.out.symm ▸ HB2.out)).kept HW.out).at_ k hkl
      generalize m.ls[k] = x at *
      have c0 : wr.cell? ⟨b, o + k * 4, none⟩ = some (.int .i64 x.s) := hcs 0 (by decide)
      have c1 : wr.cell? ⟨b, o + k * 4 + 1, none⟩ = some (.int .i64 x.n) := hcs 1 (by decide)
      have c2 : wr.cell? ⟨b, o + k * 4 + 2, none⟩ = some (.int .i64 x.b) := hcs 2 (by decide)
      have c3 : wr.cell? ⟨b, o + k * 4 + 3, none⟩ = some (.int .i64 x.a) := hcs 3 (by decide)
      have d0 : wr.cell? ⟨b', o' + k * 4, none⟩ = some (.int .i64 x.s) := hcs' 0 (by decide)
      have d1 : wr.cell? ⟨b', o' + k * 4 + 1, none⟩ = some (.int .i64 x.n) := hcs' 1 (by decide)
      have d2 : wr.cell? ⟨b', o' + k * 4 + 2, none⟩ = some (.int .i64 x.b) := hcs' 2 (by decide)
      have d3 : wr.cell? ⟨b', o' + k * 4 + 3, none⟩ = some (.int .i64 x.a) := hcs' 3 (by decide)
      clear hcs hcs'
      go_upto_region 6 with fail
      refine wp_region_held_drew (S := fun w' => w' = wr.drew) (by kernel_rfl) rfl (fun hS0 => ?_)
      refine wpAnyH_take (i := 0) (v := ?_) rfl (by kernel_rfl) (by kernel_rfl) (by kernel_rfl) (fun _ _ _ h => h) (Or.inl ⟨by kernel_rfl, ?_⟩) (by first | assumption | trivial) ?_
      rotate_left
      · intro w hSw
        try dsimp only at hSw
        subst hSw
        first | (go_simp; done) | (go_simp; with_reducible rfl)
      try simp only [Act.put, List.getElem_toArray, List.getElem_cons_succ, List.getElem_cons_zero, List.setIfInBounds_toArray, List.set_cons_zero, List.set_cons_succ]
      refine wpAnyH_take (i := 1) (v := ?_) rfl (by kernel_rfl) (by kernel_rfl) (by kernel_rfl) (fun _ _ _ h => h) (Or.inl ⟨by kernel_rfl, ?_⟩) (by first | assumption | trivial) ?_
      rotate_left
      · intro w hSw
        try dsimp only at hSw
        subst hSw
        first | (go_simp; done) | (go_simp; with_reducible rfl)
      try simp only [Act.put, List.getElem_toArray, List.getElem_cons_succ, List.getElem_cons_zero, List.setIfInBounds_toArray, List.set_cons_zero, List.set_cons_succ]
      refine wpAnyH_take (i := 2) (v := ?_) rfl (by kernel_rfl) (by kernel_rfl) (by kernel_rfl) (fun _ _ _ h => h) (Or.inl ⟨by kernel_rfl, ?_⟩) (by first | assumption | trivial) ?_
      rotate_left
      · intro w hSw
        try dsimp only at hSw
        subst hSw
        first | (go_simp; done) | (go_simp; with_reducible rfl)
      try simp only [Act.put, List.getElem_toArray, List.getElem_cons_succ, List.getElem_cons_zero, List.setIfInBounds_toArray, List.set_cons_zero, List.set_cons_succ]
      refine wpAnyH_take (i := 3) (v := ?_) rfl (by kernel_rfl) (by kernel_rfl) (by kernel_rfl) (fun _ _ _ h => h) (Or.inl ⟨by kernel_rfl, ?_⟩) (by first | assumption | trivial) ?_
      rotate_left
      · intro w hSw
        try dsimp only at hSw
        subst hSw
        first | (go_simp; done) | (go_simp; with_reducible rfl)
      try simp only [Act.put, List.getElem_toArray, List.getElem_cons_succ, List.getElem_cons_zero, List.setIfInBounds_toArray, List.set_cons_zero, List.set_cons_succ]
      refine wpAnyH_take (i := 4) (v := ?_) rfl (by kernel_rfl) (by kernel_rfl) (by kernel_rfl) (fun _ _ _ h => h) (Or.inl ⟨by kernel_rfl, ?_⟩) (by first | assumption | trivial) ?_
      rotate_left
      · intro w hSw
        try dsimp only at hSw
        subst hSw
        first | (go_simp; done) | (go_simp; with_reducible rfl)
      try simp only [Act.put, List.getElem_toArray, List.getElem_cons_succ, List.getElem_cons_zero, List.setIfInBounds_toArray, List.set_cons_zero, List.set_cons_succ]
      refine wpAnyH_take (i := 5) (v := ?_) rfl (by kernel_rfl) (by kernel_rfl) (by kernel_rfl) (fun _ _ _ h => h) (Or.inl ⟨by kernel_rfl, ?_⟩) (by first | assumption | trivial) ?_
      rotate_left
      · intro w hSw
        try dsimp only at hSw
        subst hSw
        first | (go_simp; done) | (go_simp; with_reducible rfl)
      try simp only [Act.put, List.getElem_toArray, List.getElem_cons_succ, List.getElem_cons_zero, List.setIfInBounds_toArray, List.set_cons_zero, List.set_cons_succ]
      refine wpAnyH_take (i := 6) (v := ?_) rfl (by kernel_rfl) (by kernel_rfl) (by kernel_rfl) (fun _ _ _ h => h) (Or.inl ⟨by kernel_rfl, ?_⟩) (by first | assumption | trivial) ?_
      rotate_left
      · intro w hSw
        try dsimp only at hSw
        subst hSw
        first | (go_simp; done) | (go_simp; with_reducible rfl)
      try simp only [Act.put, List.getElem_toArray, List.getElem_cons_succ, List.getElem_cons_zero, List.setIfInBounds_toArray, List.set_cons_zero, List.set_cons_succ]
      refine wpAnyH_take (i := 7) (v := ?_) rfl (by kernel_rfl) (by kernel_rfl) (by kernel_rfl) (fun _ _ _ h => h) (Or.inl ⟨by kernel_rfl, ?_⟩) (by first | assumption | trivial) ?_
      rotate_left
      · intro w hSw
        try dsimp only at hSw
        subst hSw
        first | (go_simp; done) | (go_simp; with_reducible rfl)
      try simp only [Act.put, List.getElem_toArray, List.getElem_cons_succ, List.getElem_cons_zero, List.setIfInBounds_toArray, List.set_cons_zero, List.set_cons_succ]
      refine wpAnyH_take (i := 8) (v := ?_) rfl (by kernel_rfl) (by kernel_rfl) (by kernel_rfl) (fun _ _ _ h => h) (Or.inl ⟨by kernel_rfl, ?_⟩) (by first | assumption | trivial) ?_
      rotate_left
      · intro w hSw
        try dsimp only at hSw
        subst hSw
        first | (go_simp; done) | (go_simp; with_reducible rfl)
      try simp only [Act.put, List.getElem_toArray, List.getElem_cons_succ, List.getElem_cons_zero, List.setIfInBounds_toArray, List.set_cons_zero, List.set_cons_succ]
      refine wpAnyH_take (i := 9) (v := ?_) rfl (by kernel_rfl) (by kernel_rfl) (by kernel_rfl) (fun _ _ _ h => h) (Or.inl ⟨by kernel_rfl, ?_⟩) (by first | assumption | trivial) ?_
      rotate_left
      · intro w hSw
        try dsimp only at hSw
        subst hSw
        first | (go_simp; done) | (go_simp; with_reducible rfl)
      try simp only [Act.put, List.getElem_toArray, List.getElem_cons_succ, List.getElem_cons_zero, List.setIfInBounds_toArray, List.set_cons_zero, List.set_cons_succ]
      refine wpAnyH_take (i := 10) (v := ?_) rfl (by kernel_rfl) (by kernel_rfl) (by kernel_rfl) (fun _ _ _ h => h) (Or.inl ⟨by kernel_rfl, ?_⟩) (by first | assumption | trivial) ?_
      rotate_left
      · intro w hSw
        try dsimp only at hSw
        subst hSw
        first | (go_simp; done) | (go_simp; with_reducible rfl)
      try simp only [Act.put, List.getElem_toArray, List.getElem_cons_succ, List.getElem_cons_zero, List.setIfInBounds_toArray, List.set_cons_zero, List.set_cons_succ]
      refine wpAnyH_done (by kernel_rfl) ?_ _
      go_wp2_with fail
      go_roundw
      case rel => exact ⟨k + 1, by omega, by go_num, HW.out.drew⟩
      case measure => simp [intOf]; omega
    · have hle : (nl : Int) ≤ (k : Int) := by omega
      have HW3 := HW
      go_wp2_with fail
      go_loopw [6] (fun i wr => ∃ k : Nat, k ≤ nn ∧ i = .int .i64 k ∧ Hid (Below W2.heap.size W2 wr)) (fun i _ => nn - (intOf i).toNat)
      case atStart => exact ⟨0, by omega, rfl, HW3.out⟩
      case round =>
        obtain ⟨j, hj, rfl, HW⟩ := hrel
        have a10 : wr.cell? ⟨g1, 10, none⟩ = some (.slice pb nn cb) := (HK1.out.below HW.out HK1.out.lt).cell 10
        have b10 : wr.cell? ⟨g2, 10, none⟩ = some (.slice qb nn db) := (HK2.out.below HW.out HK2.out.lt).cell 10
        by_cases hlt : j < nn
        · have hltI : (j : Int) < (nn : Int) := by omega
          have hjl : j < m.ns.length := by rw [HNN.out]; exact hlt
          obtain ⟨b, o, rfl, c0⟩ := rowi_at ((HB.out.kept (HG1.out.symm ▸ HB2.out)).kept HW.out) j hjl
          obtain ⟨b', o', rfl, d0⟩ := rowi_at ((HD.out.kept (HG1.out.symm ▸ HB2.out)).kept HW.out) j hjl
          generalize m.ns.getD j 0 = z at *
          go_upto_region 11 with fail
          refine wp_region_held_drew (S := fun w' => w' = wr.drew) (by kernel_rfl) rfl (fun hS0 => ?_)
          refine wpAnyH_take (i := 0) (v := ?_) rfl (by kernel_rfl) (by kernel_rfl) (by kernel_rfl) (fun _ _ _ h => h) (Or.inl ⟨by kernel_rfl, ?_⟩) (by first | assumption | trivial) ?_
          rotate_left
          · intro w hSw
            try dsimp only at hSw
            subst hSw
            first | (go_simp; done) | (go_simp; with_reducible rfl)
          try simp only [Act.put, List.getElem_toArray, List.getElem_cons_succ, List.getElem_cons_zero, List.setIfInBounds_toArray, List.set_cons_zero, List.set_cons_succ]
          refine wpAnyH_take (i := 1) (v := ?_) rfl (by kernel_rfl) (by kernel_rfl) (by kernel_rfl) (fun _ _ _ h => h) (Or.inl ⟨by kernel_rfl, ?_⟩) (by first | assumption | trivial) ?_
          rotate_left
          · intro w hSw
            try dsimp only at hSw
            subst hSw
            first | (go_simp; done) | (go_simp; with_reducible rfl)
          try simp only [Act.put, List.getElem_toArray, List.getElem_cons_succ, List.getElem_cons_zero, List.setIfInBounds_toArray, List.set_cons_zero, List.set_cons_succ]
          refine wpAnyH_take (i := 2) (v := ?_) rfl (by kernel_rfl) (by kernel_rfl) (by kernel_rfl) (fun _ _ _ h => h) (Or.inl ⟨by kernel_rfl, ?_⟩) (by first | assumption | trivial) ?_
          rotate_left
          · intro w hSw
            try dsimp only at hSw
            subst hSw
            first | (go_simp; done) | (go_simp; with_reducible rfl)
          try simp only [Act.put, List.getElem_toArray, List.getElem_cons_succ, List.getElem_cons_zero, List.setIfInBounds_toArray, List.set_cons_zero, List.set_cons_succ]
          refine wpAnyH_take (i := 3) (v := ?_) rfl (by kernel_rfl) (by kernel_rfl) (by kernel_rfl) (fun _ _ _ h => h) (Or.inl ⟨by kernel_rfl, ?_⟩) (by first | assumption | trivial) ?_
          rotate_left
          · intro w hSw
            try dsimp only at hSw
            subst hSw
            first | (go_simp; done) | (go_simp; with_reducible rfl)
          try simp only [Act.put, List.getElem_toArray, List.getElem_cons_succ, List.getElem_cons_zero, List.setIfInBounds_toArray, List.set_cons_zero, List.set_cons_succ]
          refine wpAnyH_take (i := 4) (v := ?_) rfl (by kernel_rfl) (by kernel_rfl) (by kernel_rfl) (fun _ _ _ h => h) (Or.inl ⟨by kernel_rfl, ?_⟩) (by first | assumption | trivial) ?_
          rotate_left
          · intro w hSw
            try dsimp only at hSw
            subst hSw
            first | (go_simp; done) | (go_simp; with_reducible rfl)
          try simp only [Act.put, List.getElem_toArray, List.getElem_cons_succ, List.getElem_cons_zero, List.setIfInBounds_toArray, List.set_cons_zero, List.set_cons_succ]
          refine wpAnyH_take (i := 5) (v := ?_) rfl (by kernel_rfl) (by kernel_rfl) (by kernel_rfl) (fun _ _ _ h => h) (Or.inl ⟨by kernel_rfl, ?_⟩) (by first | assumption | trivial) ?_
          rotate_left
          · intro w hSw
            try dsimp only at hSw
            subst hSw
            first | (go_simp; done) | (go_simp; with_reducible rfl)
          try simp only [Act.put, List.getElem_toArray, List.getElem_cons_succ, List.getElem_cons_zero, List.setIfInBounds_toArray, List.set_cons_zero, List.set_cons_succ]
          refine wpAnyH_take (i := 6) (v := ?_) rfl (by kernel_rfl) (by kernel_rfl) (by kernel_rfl) (fun _ _ _ h => h) (Or.inl ⟨by kernel_rfl, ?_⟩) (by first | assumption | trivial) ?_
          rotate_left
          · intro w hSw
            try dsimp only at hSw
            subst hSw
            first | (go_simp; done) | (go_simp; with_reducible rfl)
          try simp only [Act.put, List.getElem_toArray, List.getElem_cons_succ, List.getElem_cons_zero, List.setIfInBounds_toArray, List.set_cons_zero, List.set_cons_succ]
          refine wpAnyH_take (i := 7) (v := ?_) rfl (by kernel_rfl) (by kernel_rfl) (by kernel_rfl) (fun _ _ _ h => h) (Or.inl ⟨by kernel_rfl, ?_⟩) (by first | assumption | trivial) ?_
          rotate_left
          · intro w hSw
            try dsimp only at hSw
            subst hSw
            first | (go_simp; done) | (go_simp; with_reducible rfl)
          try simp only [Act.put, List.getElem_toArray, List.getElem_cons_succ, List.getElem_cons_zero, List.setIfInBounds_toArray, List.set_cons_zero, List.set_cons_succ]
          refine wpAnyH_take (i := 8) (v := ?_) rfl (by kernel_rfl) (by kernel_rfl) (by kernel_rfl) (fun _ _ _ h => h) (Or.inl ⟨by kernel_rfl, ?_⟩) (by first | assumption | trivial) ?_
          rotate_left
          · intro w hSw
            try dsimp only at hSw
            subst hSw
            first | (go_simp; done) | (go_simp; with_reducible rfl)
          try simp only [Act.put, List.getElem_toArray, List.getElem_cons_succ, List.getElem_cons_zero, List.setIfInBounds_toArray, List.set_cons_zero, List.set_cons_succ]
          refine wpAnyH_take (i := 9) (v := ?_) rfl (by kernel_rfl) (by kernel_rfl) (by kernel_rfl) (fun _ _ _ h => h) (Or.inl ⟨by kernel_rfl, ?_⟩) (by first | assumption | trivial) ?_
          rotate_left
          · intro w hSw
            try dsimp only at hSw
            subst hSw
            first | (go_simp; done) | (go_simp; with_reducible rfl)
          try simp only [Act.put, List.getElem_toArray, List.getElem_cons_succ, List.getElem_cons_zero, List.setIfInBounds_toArray, List.set_cons_zero, List.set_cons_succ]
          refine wpAnyH_take (i := 10) (v := ?_) rfl (by kernel_rfl) (by kernel_rfl) (by kernel_rfl) (fun _ _ _ h => h) (Or.inl ⟨by kernel_rfl, ?_⟩) (by first | assumption | trivial) ?_
          rotate_left
          · intro w hSw
            try dsimp only at hSw
            subst hSw
            first | (go_simp; done) | (go_simp; with_reducible rfl)
          try simp only [Act.put, List.getElem_toArray, List.getElem_cons_succ, List.getElem_cons_zero, List.setIfInBounds_toArray, List.set_cons_zero, List.set_cons_succ]
          refine wpAnyH_done (by kernel_rfl) ?_ _
          go_wp2_with fail
          go_roundw
          case rel => exact ⟨j + 1, by omega, by go_num, HW.out.drew⟩
          case measure => simp [intOf]; omega
        · have hle : (nn : Int) ≤ (j : Int) := by omega
          go_wp2_with fail
          go_ret
          rw [HG1.out]
          exact ⟨rfl, HB2.out.trans (HW.out.mono (by have := HK1.out.lt; omega))⟩
end Go.Proofs.Ytbpfbebebppleaa
namespace Go.Proofs.Ytbpfbebebppleaa
open Go.RowKit
set_option linter.unusedSimpArgs false
/-- A queue whose block isn't one of those. -/
def QU (Q : Nat → Prop) (w : World) (ao : Option Addr) (b off n c : Nat) (L : List SdX) : Prop := Que w ao b off n c L ∧ ∀ g, ¬ Q g → b ≠ g
theorem QU.kept {Q : Nat → Prop} {w w' : World} {ao : Option Addr} {b off n c : Nat} {L : List SdX} (h : QU Q w ao b off n c L) (hb : Below w.heap.size w w') : QU Q w' ao b off n c L := ⟨h.1.kept hb, h.2⟩
theorem QU.chg {Q : Nat → Prop} {w w' : World} {ao : Option Addr} {b off n c g : Nat} {L : List SdX} (h : QU Q w ao b off n c L) (hc : Chg g w w') (hg : ¬ Q g) : QU Q w' ao b off n c L := ⟨h.1.chg hc (h.2 g hg), h.2⟩
theorem least_ex {R : Nat → Prop} : ∀ j, R j → ∃ m, R m ∧ ∀ i, R i → m ≤ i := by
  intro j
  induction j using Nat.strongRecOn with
  | _ j ih =>
    intro hj
    by_cases h : ∃ i, i < j ∧ R i
    · obtain ⟨i, hi, hR⟩ := h
      exact ih i hi hR
    · exact ⟨j, hj, fun i hi => Nat.le_of_not_lt (fun hl => h ⟨i, hl, hi⟩)⟩
open Classical in
/-- The least number of which something is true. -/
noncomputable def mu (R : Nat → Prop) : Nat := if h : ∃ m, R m ∧ ∀ i, R i → m ≤ i then Classical.choose h else 0
theorem mu_spec {R : Nat → Prop} (h : ∃ j, R j) : R (mu R) := by
  obtain ⟨j, hj⟩ := h
  have h1 := least_ex j hj
  unfold mu
  rw [dif_pos h1]
  exact (Classical.choose_spec h1).1
theorem mu_le {R : Nat → Prop} {j : Nat} (h : R j) : mu R ≤ j := by
  have h1 := least_ex j h
  unfold mu
  rw [dif_pos h1]
  exact (Classical.choose_spec h1).2 j h
theorem trow_cell {α : Type} {e : Enc α} {w : World} {b o n c : Nat} {xs : List α} {x : α} (h : TRow e w (.slice (some ⟨b, o, none⟩) n c) xs) (k : Nat) (hk : k < xs.length) (hx : xs[k] = x) (t : Nat) (ht : t < e.k) : w.cell? ⟨b, o + k * e.k + t, none⟩ = (e.E x)[t]? := by
  obtain ⟨b', o', e1, _, hc⟩ := h.at_ k hk
  cases e1
  rw [hc t ht, hx]
theorem sd_plain1 {z : Int × Msg} (h : z.2.ls = [] ∧ z.2.ns = []) : SdX.cells (sdX z) = [.int .i64 z.1, .int .i64 z.2.k, .int .i64 z.2.s, .int .i64 z.2.n, .int .i64 z.2.b, .int .i64 z.2.c, .int .i64 z.2.r, .int .i64 z.2.y, .int .i64 z.2.a, .bool z.2.t, .slice none 0 0, .slice none 0 0] := by
  unfold sdX msgX0 SdX.cells MsgX.cells
  obtain ⟨T, ⟨k, s, n, b, c, r, y, a, t, ls, ns⟩⟩ := z
  obtain ⟨h1, h2⟩ := h
  dsimp only at h1 h2
  subst h1 h2
  rfl
theorem stg_plain {far ex : Int} {j : Nat} {da db : Dsk} {z : Int × Msg} {L : List (Int × Msg)} (h : Stg far ex j da db (z :: L)) : z.2.ls = [] ∧ z.2.ns = [] := by
  cases h <;> exact ⟨rfl, rfl⟩
theorem DkR.apart {P : Nat → Prop} {w : World} {d : Dsk} {pi po : Option Addr} {ci co : Nat} (R : Nat → Prop) (h : DkR P w d pi ci po co) (hi : ∀ b o n c, Value.slice pi d.xs.length ci = .slice (some ⟨b, o, none⟩) n c → 0 < d.xs.length → P b → R b) (ho : ∀ b o n c, Value.slice po d.os.length co = .slice (some ⟨b, o, none⟩) n c → 0 < d.os.length → P b → R b) : DkR R w d pi ci po co :=
  ⟨h.row, fun b o n c e hn => hi b o n c e hn (h.ai b o n c e hn), fun b o n c e hn => ho b o n c e hn (h.ao b o n c e hn), h.ok⟩
theorem DkR.chg {Q : Nat → Prop} {w w' : World} {d : Dsk} {pi po : Option Addr} {ci co g : Nat} (h : DkR Q w d pi ci po co) (hc : Chg g w w') (hg : ¬ Q g) : DkR Q w' d pi ci po co := h.keepP (KeepP.of_chg hc hg)
theorem notIn4 {a b c d x : Nat} (h : NotIn [a, b, c] x) (hd : x ≠ d) : NotIn [a, b, c, d] x := by
  intro hm
  simp only [List.mem_cons, List.not_mem_nil, or_false] at hm
  rcases hm with h1 | h1 | h1 | h1
  · exact h (by simp [h1])
  · exact h (by simp [h1])
  · exact h (by simp [h1])
  · exact hd h1
theorem notIn43 {a b c d x : Nat} (h : NotIn [a, b, c, d] x) : NotIn [a, b, c] x := fun hm => h (by simp only [List.mem_cons, List.not_mem_nil, or_false] at hm ⊢; omega)
theorem notIn_ge {a b c x n : Nat} (ha : a < n) (hb : b < n) (hc : c < n) (h : n ≤ x) : NotIn [a, b, c] x := fun hm => by
  simp only [List.mem_cons, List.not_mem_nil, or_false] at hm
  omega
/-- What lies where while something is on its way. -/
def ER (w : World) (far ex : Int) (gA gB gI : Nat) (j : Nat) (ov : Value) (wr : World) : Prop :=
  ∃ (da db : Dsk) (p1 : Option Addr) (c1 : Nat) (q1 : Option Addr) (e1 : Nat) (p2 : Option Addr) (c2 : Nat) (q2 : Option Addr) (e2 : Nat) (ao : Option Addr) (bq off n c : Nat) (L : List (Int × Msg)),
    ov = .slice ao n c ∧ Stg far ex j da db L ∧ Blk wr gA #[.int .i64 da.me, .slice p1 da.xs.length c1, .slice q1 da.os.length e1, .int .i64 da.far] 29 ∧ Blk wr gB #[.int .i64 db.me, .slice p2 db.xs.length c2, .slice q2 db.os.length e2, .int .i64 db.far] 29 ∧ Blk wr gI #[.int .i64 0, .int .i64 1] 36 ∧
    DkR (NotIn [gA, gB, gI, bq]) wr da p1 c1 q1 e1 ∧ DkR (NotIn [gA, gB, gI, bq]) wr db p2 c2 q2 e2 ∧ QU (NotIn [gA, gB, gI]) wr ao bq off n c (L.map sdX) ∧ Below w.heap.size w wr ∧ w.heap.size ≤ bq
set_option linter.unusedSimpArgs false in
set_option maxHeartbeats 4000000 in
set_option maxRecDepth 100000 in
theorem mwaits_any (me : Int) (x : Itm) (w : World) : Calls Try.prog 17 #[.int .i64 me, x.v] w fun e w' => e = .returned (.bool (x.s == me && x.t == 2)) ∧ Below w.heap.size w w' := by
  unfold Itm.v
  have HB0 : Hid (Below w.heap.size w (w.alloc (.cells #[.int .i64 x.s, .int .i64 x.n, .int .i64 x.b, .int .i64 x.c, .int .i64 x.a, .int .i64 x.r, .int .i64 x.t, .int .i64 x.y] 64))) := Lib.hid ((oneB w _))
  have Hx0 : Hid (Blk (w.alloc (.cells #[.int .i64 x.s, .int .i64 x.n, .int .i64 x.b, .int .i64 x.c, .int .i64 x.a, .int .i64 x.r, .int .i64 x.t, .int .i64 x.y] 64)) w.heap.size #[.int .i64 x.s, .int .i64 x.n, .int .i64 x.b, .int .i64 x.c, .int .i64 x.a, .int .i64 x.r, .int .i64 x.t, .int .i64 x.y] 64) := Lib.hid (Blk.new w #[.int .i64 x.s, .int .i64 x.n, .int .i64 x.b, .int .i64 x.c, .int .i64 x.a, .int .i64 x.r, .int .i64 x.t, .int .i64 x.y] 64)
  have HZ0 : Hid (w.heap.size ≤ (w.alloc (.cells #[.int .i64 x.s, .int .i64 x.n, .int .i64 x.b, .int .i64 x.c, .int .i64 x.a, .int .i64 x.r, .int .i64 x.t, .int .i64 x.y] 64)).heap.size) := Lib.hid HB0.out.size
  go_enter Try.func17, Try.ntmps17
  go_upto_region 1 with fail
  generalize (w.alloc (.cells #[.int .i64 x.s, .int .i64 x.n, .int .i64 x.b, .int .i64 x.c, .int .i64 x.a, .int .i64 x.r, .int .i64 x.t, .int .i64 x.y] 64)) = W at *
  have x0 : W.cell? ⟨w.heap.size, 0, none⟩ = some (.int .i64 x.s) := Hx0.out.cell 0
  have x6 : W.cell? ⟨w.heap.size, 6, none⟩ = some (.int .i64 x.t) := Hx0.out.cell 6
  cases h1 : (x.s == me)
  · go_wp2_with fail
    go_ret
    exact ⟨by rw [h1]; rfl, HB0.out⟩
  · go_wp2_with fail
    go_ret
    exact ⟨by rw [h1]; rfl, HB0.out⟩
set_option linter.unusedSimpArgs false in
set_option maxHeartbeats 4000000 in
set_option maxRecDepth 100000 in
theorem ends_walk (far ex : Int) (p : Option Addr) (n c : Nat) (ns : List Int) (w : World) (hfr : -9223372036854775808 ≤ far ∧ far ≤ 9223372036854775807) (_hex : -9223372036854775808 ≤ ex ∧ ex ≤ 9223372036854775807) (hx : Row .i64 w (.slice p n c) ns) :
    Calls Try.prog 5 #[.int .i64 far, .int .i64 ex, .slice p n c] w fun e w' => e = .returned (.bool true) ∧ Below w.heap.size w w' := by
  have HMA := Lib.hid (fun W => matches_any W)
  have HX := Lib.hid hx
  have hln : n = ns.length := by
    obtain ⟨p', c', e1⟩ := hx.shape
    exact (Value.slice.inj e1).2.1
  have HWL := Lib.hid hln
  clear hx
  go_enter Try.func5, Try.ntmps5
  go_wp2_with fail
  refine (HMA.out _).mono ?_
  rintro y w0 ⟨rfl, hb⟩
  have HB0 := Lib.hid hb
  have HZ0 : Hid (w.heap.size ≤ w0.heap.size) := Lib.hid hb.size
  clear hb HMA
  by_cases hm0 : far < 0
  · go_wp2_with fail
    go_ret
    exact ⟨rfl, HB0.out⟩
  by_cases hm1 : ex < 1
  · go_wp2_with fail
    go_ret
    exact ⟨rfl, HB0.out⟩
  by_cases hm2 : (1125899906842624 : Int) < ex
  · go_wp2_with fail
    go_ret
    exact ⟨rfl, HB0.out⟩
  by_cases hn60 : 12 < n
  · have hn60I : (12 : Int) < (n : Int) := by omega
    go_wp2_with fail
    go_ret
    exact ⟨rfl, HB0.out⟩
  have hn60I : ¬ (12 : Int) < (n : Int) := by omega
  have HN60 : Hid (n ≤ 12) := Lib.hid (by omega)
  have HEX : Hid (1 ≤ ex ∧ ex ≤ 1125899906842624) := Lib.hid (by omega)
  have HFA : Hid (Fits far) := Lib.hid (by unfold Fits; omega)
  go_upto_region 5 with fail
  clear hm0 hm1 hm2 hn60 hn60I
  have HG := Lib.hid (desk_any w0 0 far (by decide))
  go_wp2_with fail
  refine HG.out.mono ?_
  rintro y9 w1 ⟨rfl, hb⟩
  clear HG
  have HB1 := Lib.hid (HB0.out.trans (hb.mono HZ0.out))
  have HZ1 : Hid (w.heap.size ≤ w1.heap.size) := Lib.hid HB1.out.size
  clear HB0 HZ0 hb
  have hba := oneB w1 (.cells #[.int .i64 0, .slice none 0 0, .slice none 0 0, .int .i64 far] 29)
  have Ha2 := Lib.hid (Blk.new w1 #[.int .i64 0, .slice none 0 0, .slice none 0 0, .int .i64 far] 29)
  have HB2 := Lib.hid (HB1.out.alloc HB1.out.size (.cells #[.int .i64 0, .slice none 0 0, .slice none 0 0, .int .i64 far] 29))
  have HZ2 : Hid (w.heap.size ≤ (w1.alloc (.cells #[.int .i64 0, .slice none 0 0, .slice none 0 0, .int .i64 far] 29)).heap.size) := Lib.hid (Nat.le_trans HZ1.out hba.size)
  have HGgA : Hid (w.heap.size ≤ w1.heap.size) := Lib.hid HB1.out.size
  clear hba HB1 HZ1
  go_upto_region 6 with fail
  generalize (w1.alloc (.cells #[.int .i64 0, .slice none 0 0, .slice none 0 0, .int .i64 far] 29)) = W2 at *
  generalize hggA : w1.heap.size = gA at *
  clear hggA
  have HG := Lib.hid (desk_any W2 1 far (by decide))
  go_wp2_with fail
  refine HG.out.mono ?_
  rintro y9 w3 ⟨rfl, hb⟩
  clear HG
  have Ha3 := Lib.hid (Ha2.out.below hb Ha2.out.lt)
  have HB3 := Lib.hid (HB2.out.trans (hb.mono HB2.out.size))
  have HZ3 : Hid (w.heap.size ≤ w3.heap.size) := Lib.hid (Nat.le_trans HZ2.out hb.size)
  clear Ha2 HB2 HZ2
  clear hb
  have HGA1 : Hid (gA < w3.heap.size) := Lib.hid Ha3.out.lt
  have hba := oneB w3 (.cells #[.int .i64 1, .slice none 0 0, .slice none 0 0, .int .i64 far] 29)
  have Ha4 := Lib.hid (Ha3.out.below hba Ha3.out.lt)
  have Hb4 := Lib.hid (Blk.new w3 #[.int .i64 1, .slice none 0 0, .slice none 0 0, .int .i64 far] 29)
  have HB4 := Lib.hid (HB3.out.alloc HB3.out.size (.cells #[.int .i64 1, .slice none 0 0, .slice none 0 0, .int .i64 far] 29))
  have HZ4 : Hid (w.heap.size ≤ (w3.alloc (.cells #[.int .i64 1, .slice none 0 0, .slice none 0 0, .int .i64 far] 29)).heap.size) := Lib.hid (Nat.le_trans HZ3.out hba.size)
  have HGgB : Hid (w.heap.size ≤ w3.heap.size) := Lib.hid HB3.out.size
  clear hba Ha3 HB3 HZ3
  go_upto_region 7 with fail
  generalize (w3.alloc (.cells #[.int .i64 1, .slice none 0 0, .slice none 0 0, .int .i64 far] 29)) = W4 at *
  generalize hggB : w3.heap.size = gB at *
  clear hggB
  have HGB1 : Hid (gB < W4.heap.size) := Lib.hid Hb4.out.lt
  have hba := oneB W4 (.cells #[.int .i64 0, .int .i64 1] 36)
  have Ha5 := Lib.hid (Ha4.out.below hba Ha4.out.lt)
  have Hb5 := Lib.hid (Hb4.out.below hba Hb4.out.lt)
  have Hi5 := Lib.hid (Blk.new W4 #[.int .i64 0, .int .i64 1] 36)
  have HB5 := Lib.hid (HB4.out.alloc HB4.out.size (.cells #[.int .i64 0, .int .i64 1] 36))
  have HZ5 : Hid (w.heap.size ≤ (W4.alloc (.cells #[.int .i64 0, .int .i64 1] 36)).heap.size) := Lib.hid (Nat.le_trans HZ4.out hba.size)
  have HGgI : Hid (w.heap.size ≤ W4.heap.size) := Lib.hid HB4.out.size
  clear hba Ha4 Hb4 HB4 HZ4
  go_upto_region 8 with fail
  generalize (W4.alloc (.cells #[.int .i64 0, .int .i64 1] 36)) = W5 at *
  generalize hggI : W4.heap.size = gI at *
  clear hggI
  have HGE : Hid (gA < gB ∧ gB < gI ∧ w.heap.size ≤ gA) := Lib.hid ⟨HGA1.out, HGB1.out, HGgA.out⟩
  clear HGA1 HGB1
  have Qb5 := Lib.hid (dkR0 (NotIn [gA, gB, gI]) W5 1 far (by decide) HFA.out)
  have Qa5 := Lib.hid (dkR0 (NotIn [gA, gB, gI]) W5 0 far (by decide) HFA.out)
  have hR : doM (dsk0 1 far) ⟨2, 0, 1, 0, 0, 0, 0, ex, false, [], []⟩ (-1) = (dskB far ex [], [], 0) := by
    have h9 : expO 1 [] 0 1 ex = ([⟨0, 1, ex⟩], 0) := by
      unfold expO
      rw [if_pos ⟨⟨by decide, by decide, by decide, by decide, by decide⟩, HEX.out.1, HEX.out.2⟩]
      rfl
    show ((dsk0 1 far).exp ⟨2, 0, 1, 0, 0, 0, 0, ex, false, [], []⟩, ([] : List (Int × Msg)), (expO 1 [] 0 1 ex).2) = _
    have h8 : (dsk0 1 far).exp ⟨2, 0, 1, 0, 0, 0, 0, ex, false, [], []⟩ = ⟨1, far, [], (expO 1 [] 0 1 ex).1⟩ := rfl
    rw [h8, h9]
    rfl
  have HWS : Hid (gA < W5.heap.size ∧ gB < W5.heap.size ∧ gI < W5.heap.size) := Lib.hid ⟨Ha5.out.lt, Hb5.out.lt, Hi5.out.lt⟩
  have HG := Lib.hid (Qb5.out.do_ (by show (0 : Nat) < 1024; decide) (by show (0 : Nat) < 1024; decide) ⟨2, 0, 1, 0, 0, 0, 0, ex, false, [], []⟩ (.slice none 0 0) (.slice none 0 0) (-1) [] 0 hR)
  unfold dcells Msg.v at HG
  have hZ : ∀ far : Int, (dsk0 1 far).me = 1 ∧ (dsk0 1 far).far = far ∧ (dsk0 1 far).xs.length = 0 ∧ (dsk0 1 far).os.length = 0 := fun _ => ⟨rfl, rfl, rfl, rfl⟩
  rw [(hZ far).1, (hZ far).2.1, (hZ far).2.2.1, (hZ far).2.2.2] at HG
  clear hR hZ
  dsimp only at HG
  have b0 : W5.cell? ⟨gB, 0, none⟩ = some (.int .i64 1) := Hb5.out.cell 0
  have b1 : W5.cell? ⟨gB, 1, none⟩ = some (.slice none 0 0) := Hb5.out.cell 1
  have b2 : W5.cell? ⟨gB, 2, none⟩ = some (.slice none 0 0) := Hb5.out.cell 2
  have b3 : W5.cell? ⟨gB, 3, none⟩ = some (.int .i64 far) := Hb5.out.cell 3
  have i0 : W5.cell? ⟨gI, 0, none⟩ = some (.int .i64 0) := Hi5.out.cell 0
  have i1 : W5.cell? ⟨gI, 1, none⟩ = some (.int .i64 1) := Hi5.out.cell 1
  go_wp2_with fail
  clear b0 b1 b2 b3 i0 i1
  refine HG.out.mono ?_
  rintro y9 w6 ⟨hb, p9, c9, q9, e9, vs9, rfl, hkk, hown⟩
  clear HG
  have Q2 := Lib.hid (hkk.imp (Q := (NotIn [gA, gB, gI])) (fun x h => h.elim id (fun h => notIn_ge HWS.out.1 HWS.out.2.1 HWS.out.2.2 h)))
  clear hkk hown Qb5
  have Ha6 := Lib.hid (Ha5.out.below hb Ha5.out.lt)
  have Hb6 := Lib.hid (Hb5.out.below hb Hb5.out.lt)
  have Hi6 := Lib.hid (Hi5.out.below hb Hi5.out.lt)
  have Qa6 := Lib.hid (Qa5.out.kept hb)
  have HB6 := Lib.hid (HB5.out.trans (hb.mono HB5.out.size))
  have HZ6 : Hid (w.heap.size ≤ w6.heap.size) := Lib.hid (Nat.le_trans HZ5.out hb.size)
  clear Ha5 Hb5 Hi5 Qa5 HB5 HZ5
  clear hb
  have Qb6 := Q2
  clear Q2 HWS
  go_wp2_with (with_reducible refine stop_storeT 29 (.tmp 9) (.tmp 63) rfl ?_)
  have HTH : Hid (w6.there gB 0 4) := Hb6.out.thereAt
  have hch : Hid (Chg gB w6 (w6.setCells gB 0 (#[.int .i64 (dskB far ex []).me, .slice p9 (dskB far ex []).xs.length c9, .slice q9 (dskB far ex []).os.length e9, .int .i64 (dskB far ex []).far] : Array Value).toList)) := Lib.hid (chg_putL _ _ _ _ _ (Chg.refl _ w6))
  have Hb7 : Hid (Blk (w6.setCells gB 0 (#[.int .i64 (dskB far ex []).me, .slice p9 (dskB far ex []).xs.length c9, .slice q9 (dskB far ex []).os.length e9, .int .i64 (dskB far ex []).far] : Array Value).toList) gB #[.int .i64 (dskB far ex []).me, .slice p9 (dskB far ex []).xs.length c9, .slice q9 (dskB far ex []).os.length e9, .int .i64 (dskB far ex []).far] 29) := Lib.hid (blk_put_all Hb6.out _ rfl)
  have HB7 : Hid (Below w.heap.size w (w6.setCells gB 0 (#[.int .i64 (dskB far ex []).me, .slice p9 (dskB far ex []).xs.length c9, .slice q9 (dskB far ex []).os.length e9, .int .i64 (dskB far ex []).far] : Array Value).toList)) := Lib.hid (below_put (by have := HGE.out; omega) _ _ _ _ HB6.out)
  have HZ7 : Hid (w.heap.size ≤ (w6.setCells gB 0 (#[.int .i64 (dskB far ex []).me, .slice p9 (dskB far ex []).xs.length c9, .slice q9 (dskB far ex []).os.length e9, .int .i64 (dskB far ex []).far] : Array Value).toList).heap.size) := Lib.hid (Nat.le_trans HZ6.out hch.out.size)
  have Ha7 := Lib.hid (Ha6.out.chg hch.out (by have := HGE.out; omega))
  have Hi7 := Lib.hid (Hi6.out.chg hch.out (by have := HGE.out; omega))
  have Qa7 := Lib.hid (Qa6.out.chg hch.out (notIn_self (by simp)))
  have Qb7 := Lib.hid (Qb6.out.chg hch.out (notIn_self (by simp)))
  clear hch Ha6 Hb6 Hi6 Qa6 Qb6 HB6 HZ6
  refine wpList_store_mid rfl 29 (.tmp 9) (.tmp 63) rfl gB 0 #[.int .i64 (dskB far ex []).me, .slice p9 (dskB far ex []).xs.length c9, .slice q9 (dskB far ex []).os.length e9, .int .i64 (dskB far ex []).far] rfl rfl HTH.out (infoD4 rfl) (all_oneCell_toArray (by intro u hu; simp at hu; rcases hu with rfl | rfl | rfl | rfl <;> rfl)) ?_
  generalize (w6.setCells gB 0 (#[.int .i64 (dskB far ex []).me, .slice p9 (dskB far ex []).xs.length c9, .slice q9 (dskB far ex []).os.length e9, .int .i64 (dskB far ex []).far] : Array Value).toList) = W7 at *
  clear HTH
  have HREL : Hid (∃ (da db : Dsk) (p1 : Option Addr) (c1 : Nat) (q1 : Option Addr) (e1 : Nat) (p2 : Option Addr) (c2 : Nat) (q2 : Option Addr) (e2 : Nat), Sta far ex 1 da db ∧ Blk W7 gA #[.int .i64 da.me, .slice p1 da.xs.length c1, .slice q1 da.os.length e1, .int .i64 da.far] 29 ∧ Blk W7 gB #[.int .i64 db.me, .slice p2 db.xs.length c2, .slice q2 db.os.length e2, .int .i64 db.far] 29 ∧ Blk W7 gI #[.int .i64 0, .int .i64 1] 36 ∧ DkR (NotIn [gA, gB, gI]) W7 da p1 c1 q1 e1 ∧ DkR (NotIn [gA, gB, gI]) W7 db p2 c2 q2 e2 ∧ Below w.heap.size w W7) := Lib.hid ⟨dskA far [], dskB far ex [], none, 0, none, 0, p9, c9, q9, e9, .new, Ha7.out, Hb7.out, Hi7.out, Qa7.out, Qb7.out, HB7.out⟩
  clear Ha7 Hb7 Hi7 Qa7 Qb7 HB7 HZ7
  go_wp2_with fail
  go_loopw [12, 68] (fun kv i wr => ∃ k : Nat, k ≤ n ∧ i = .int .i64 k ∧ ∃ kd : Int, kv = .int .i64 kd ∧ Hid (∃ (da db : Dsk) (p1 : Option Addr) (c1 : Nat) (q1 : Option Addr) (e1 : Nat) (p2 : Option Addr) (c2 : Nat) (q2 : Option Addr) (e2 : Nat), Sta far ex kd da db ∧ Blk wr gA #[.int .i64 da.me, .slice p1 da.xs.length c1, .slice q1 da.os.length e1, .int .i64 da.far] 29 ∧ Blk wr gB #[.int .i64 db.me, .slice p2 db.xs.length c2, .slice q2 db.os.length e2, .int .i64 db.far] 29 ∧ Blk wr gI #[.int .i64 0, .int .i64 1] 36 ∧ DkR (NotIn [gA, gB, gI]) wr da p1 c1 q1 e1 ∧ DkR (NotIn [gA, gB, gI]) wr db p2 c2 q2 e2 ∧ Below w.heap.size w wr)) (fun _ i _ => n - (intOf i).toNat)
  case atStart => exact ⟨0, by omega, rfl, 1, rfl, HREL⟩
  case round =>
    clear HREL
    obtain ⟨k, hk, rfl, kd, rfl, HK⟩ := hrel
    have hk9 : k + 1 ≤ 13 := by have := HN60.out; omega
    obtain ⟨da, db, p1, c1, q1, e1, p2, c2, q2, e2, hk0, hk1, hk2, hk3, hk4, hk5, hk8⟩ := HK.out
    clear HK
    have HB20 := Lib.hid hk8
    have HZ20 : Hid (w.heap.size ≤ wr.heap.size) := Lib.hid hk8.size
    by_cases hlt : k < n
    · skip
      have hltI : (k : Int) < (n : Int) := by omega
      have HLT : Hid (k < n) := Lib.hid hlt
      have HSTA := Lib.hid hk0
      have HZ20b : Hid (w.heap.size ≤ wr.heap.size) := HZ20
      have Ha20 := Lib.hid hk1
      have Hb20 := Lib.hid hk2
      have Hi20 := Lib.hid hk3
      have Qa20 := Lib.hid hk4
      have Qb20 := Lib.hid hk5
      clear hk0 hk1 hk2 hk3 hk4 hk5 hk8
      obtain ⟨zb, zo, hzp, hzc⟩ := rowi_at (HX.out.kept HB20.out) k (by rw [← HWL.out]; exact hlt)
      subst hzp
      generalize ns.getD k 0 = nk at *
      go_upto_region 13 with fail
      clear hltI hlt hk hzc
      have QB00 := Lib.hid (Qb20.out.lt)
      obtain ⟨⟨d2, out2, e3⟩, hA⟩ : ∃ A, doM da (sayN kd nk) (-1) = A := ⟨_, rfl⟩
      have HSY := Lib.hid (sta_say HSTA.out nk)
      rw [hA] at HSY
      dsimp only at HSY
      have HWS : Hid (gA < wr.heap.size ∧ gB < wr.heap.size ∧ gI < wr.heap.size) := Lib.hid ⟨Ha20.out.lt, Hb20.out.lt, Hi20.out.lt⟩
      have HG := Lib.hid (Qa20.out.do_apt (by have := (sta_len HSTA.out).1; omega) (by have := (sta_len HSTA.out).2.1; omega) (sayN kd nk) (.slice none 0 0) (.slice none 0 0) (-1) out2 e3 hA)
      unfold dcells Msg.v sayN at HG
      dsimp only at HG
      clear hA
      have a0 : wr.cell? ⟨gA, 0, none⟩ = some (.int .i64 da.me) := Ha20.out.cell 0
      have a1 : wr.cell? ⟨gA, 1, none⟩ = some (.slice p1 da.xs.length c1) := Ha20.out.cell 1
      have a2 : wr.cell? ⟨gA, 2, none⟩ = some (.slice q1 da.os.length e1) := Ha20.out.cell 2
      have a3 : wr.cell? ⟨gA, 3, none⟩ = some (.int .i64 da.far) := Ha20.out.cell 3
      have i0 : wr.cell? ⟨gI, 0, none⟩ = some (.int .i64 0) := Hi20.out.cell 0
      have i1 : wr.cell? ⟨gI, 1, none⟩ = some (.int .i64 1) := Hi20.out.cell 1
      go_wp2_with fail
      clear a0 a1 a2 a3 i0 i1
      refine HG.out.mono ?_
      rintro y9 w4 ⟨hb, p4, c4, q4, e4, vs4, rfl, hkk, hown⟩
      clear HG
      have HKN := Lib.hid hkk
      have HOW := Lib.hid hown
      have HSZ : Hid (wr.heap.size ≤ w4.heap.size) := Lib.hid hb.size
      have HBW : Hid (Below wr.heap.size wr (w4.alloc (.cells #[.int .i64 d2.me, .slice p4 d2.xs.length c4, .slice q4 d2.os.length e4, .int .i64 d2.far] 29))) := Lib.hid (hb.alloc hb.size _)
      clear hkk hown
      have Ha21 := Lib.hid (Ha20.out.below hb Ha20.out.lt)
      have Hb21 := Lib.hid (Hb20.out.below hb Hb20.out.lt)
      have Hi21 := Lib.hid (Hi20.out.below hb Hi20.out.lt)
      have Qa21 := Lib.hid (Qa20.out.kept hb)
      have Qb21 := Lib.hid (Qb20.out.kept hb)
      have HB21 := Lib.hid (HB20.out.trans (hb.mono HB20.out.size))
      have HZ21 : Hid (w.heap.size ≤ w4.heap.size) := Lib.hid (Nat.le_trans HZ20.out hb.size)
      clear Ha20 Hb20 Hi20 Qa20 Qb20 HB20 HZ20
      clear hb
      have HKN2 := Lib.hid (HKN.out.kept (oneB w4 (.cells #[.int .i64 d2.me, .slice p4 d2.xs.length c4, .slice q4 d2.os.length e4, .int .i64 d2.far] 29)))
      have HOW2 := Lib.hid (HOW.out.1.later (oneB w4 (.cells #[.int .i64 d2.me, .slice p4 d2.xs.length c4, .slice q4 d2.os.length e4, .int .i64 d2.far] 29)))
      have HGN : Hid (gI < w4.heap.size) := Lib.hid Hi21.out.lt
      have hba := oneB w4 (.cells #[.int .i64 d2.me, .slice p4 d2.xs.length c4, .slice q4 d2.os.length e4, .int .i64 d2.far] 29)
      have Ha22 := Lib.hid (Ha21.out.below hba Ha21.out.lt)
      have Hb22 := Lib.hid (Hb21.out.below hba Hb21.out.lt)
      have Hi22 := Lib.hid (Hi21.out.below hba Hi21.out.lt)
      have Qa22 := Lib.hid (Qa21.out.kept hba)
      have Qb22 := Lib.hid (Qb21.out.kept hba)
      have Hn22 := Lib.hid (Blk.new w4 #[.int .i64 d2.me, .slice p4 d2.xs.length c4, .slice q4 d2.os.length e4, .int .i64 d2.far] 29)
      have HB22 := Lib.hid (HB21.out.alloc HB21.out.size (.cells #[.int .i64 d2.me, .slice p4 d2.xs.length c4, .slice q4 d2.os.length e4, .int .i64 d2.far] 29))
      have HZ22 : Hid (w.heap.size ≤ (w4.alloc (.cells #[.int .i64 d2.me, .slice p4 d2.xs.length c4, .slice q4 d2.os.length e4, .int .i64 d2.far] 29)).heap.size) := Lib.hid (Nat.le_trans HZ21.out hba.size)
      have HGgn : Hid (w.heap.size ≤ w4.heap.size) := Lib.hid HB21.out.size
      clear hba Ha21 Hb21 Hi21 Qa21 Qb21 HB21 HZ21
      go_upto_region 14 with fail
      generalize (w4.alloc (.cells #[.int .i64 d2.me, .slice p4 d2.xs.length c4, .slice q4 d2.os.length e4, .int .i64 d2.far] 29)) = W5 at *
      generalize hggn : w4.heap.size = gn at *
      clear hggn
      by_cases he0 : e3 = 0
      · skip
        have he1 : (e3 != 0) = false := by simpa using he0
        have HST : Hid (Stg far ex 3 d2 db out2) := Lib.hid (by rcases HSY.out with h | h; exact absurd he0 h; exact h.2)
        clear HSY HSTA HKN
        go_upto_region 15 with fail
        clear he1 he0
        have QB0 := Lib.hid (QB00.out.kept HBW.out)
        clear QB00
        obtain ⟨pv, cv, hpv⟩ := HOW2.out.form
        have HLV : Hid ((out2.map sdX).length = 1) := Lib.hid (by rw [List.length_map]; cases HST.out <;> rfl)
        rw [HLV.out] at hpv
        subst hpv
        obtain ⟨bq, hbq, hqu, hqo⟩ := Que.of_own HOW2.out
        have HCV : Hid (1 ≤ cv) := Lib.hid hqu.le
        have HBQ : Hid (wr.heap.size ≤ bq ∧ (Value.slice pv 1 cv).ownBlock = some bq) := Lib.hid ⟨hbq, hqo HCV.out⟩
        have Qu22 : Hid (QU (NotIn [gA, gB, gI]) W5 pv bq 0 1 cv (out2.map sdX)) := Lib.hid ⟨hqu, fun g hg h => hg (by rw [← h]; exact notIn_ge HWS.out.1 HWS.out.2.1 HWS.out.2.2 hbq)⟩
        have Qn22 : Hid (DkR (NotIn [gA, gB, gI, bq]) W5 d2 p4 c4 q4 e4) := Lib.hid (HKN2.out.apart _ (fun x o m c e hm hp => notIn4 (hp.elim id (fun h => notIn_ge HWS.out.1 HWS.out.2.1 HWS.out.2.2 h)) (fun h => HOW.out.2.1 x o m c e hm (by rw [HBQ.out.2, h]))) (fun x o m c e hm hp => notIn4 (hp.elim id (fun h => notIn_ge HWS.out.1 HWS.out.2.1 HWS.out.2.2 h)) (fun h => HOW.out.2.2 x o m c e hm (by rw [HBQ.out.2, h]))))
        have HBD : Hid (bq < W5.heap.size) := Lib.hid (hqu.lt HCV.out)
        have Qd22 : Hid (DkR (NotIn [gA, gB, gI, bq]) W5 db p2 c2 q2 e2) := Lib.hid (QB0.out.apart _ (fun x o m c e hm hp => notIn4 hp.1 (by have := HBQ.out.1; have := hp.2; omega)) (fun x o m c e hm hp => notIn4 hp.1 (by have := HBQ.out.1; have := hp.2; omega)))
        clear hbq hqu hqo Qa22 Qb22 HKN2 HOW2 HOW QB0
        have n0 : W5.cell? ⟨gn, 0, none⟩ = some (.int .i64 d2.me) := Hn22.out.cell 0
        have n1 : W5.cell? ⟨gn, 1, none⟩ = some (.slice p4 d2.xs.length c4) := Hn22.out.cell 1
        have n2 : W5.cell? ⟨gn, 2, none⟩ = some (.slice q4 d2.os.length e4) := Hn22.out.cell 2
        have n3 : W5.cell? ⟨gn, 3, none⟩ = some (.int .i64 d2.far) := Hn22.out.cell 3
        go_wp2_with (with_reducible refine stop_storeT 29 (.tmp 7) (.tmp 84) rfl ?_)
        clear n0 n1 n2 n3
        have HTH : Hid (W5.there gA 0 4) := Ha22.out.thereAt
        have hch : Hid (Chg gA W5 (W5.setCells gA 0 (#[.int .i64 d2.me, .slice p4 d2.xs.length c4, .slice q4 d2.os.length e4, .int .i64 d2.far] : Array Value).toList)) := Lib.hid (chg_putL _ _ _ _ _ (Chg.refl _ W5))
        have Ha23 : Hid (Blk (W5.setCells gA 0 (#[.int .i64 d2.me, .slice p4 d2.xs.length c4, .slice q4 d2.os.length e4, .int .i64 d2.far] : Array Value).toList) gA #[.int .i64 d2.me, .slice p4 d2.xs.length c4, .slice q4 d2.os.length e4, .int .i64 d2.far] 29) := Lib.hid (blk_put_all Ha22.out _ rfl)
        have HB23 : Hid (Below w.heap.size w (W5.setCells gA 0 (#[.int .i64 d2.me, .slice p4 d2.xs.length c4, .slice q4 d2.os.length e4, .int .i64 d2.far] : Array Value).toList)) := Lib.hid (below_put (by have := HGE.out; have := HGN.out; omega) _ _ _ _ HB22.out)
        have HZ23 : Hid (w.heap.size ≤ (W5.setCells gA 0 (#[.int .i64 d2.me, .slice p4 d2.xs.length c4, .slice q4 d2.os.length e4, .int .i64 d2.far] : Array Value).toList).heap.size) := Lib.hid (Nat.le_trans HZ22.out hch.out.size)
        have Hb23 := Lib.hid (Hb22.out.chg hch.out (by have := HGE.out; have := HGN.out; omega))
        have Hi23 := Lib.hid (Hi22.out.chg hch.out (by have := HGE.out; have := HGN.out; omega))
        have Hn23 := Lib.hid (Hn22.out.chg hch.out (by have := HGE.out; have := HGN.out; omega))
        have Qu23 := Lib.hid (Qu22.out.chg hch.out (notIn_self (by simp)))
        have Qn23 := Lib.hid (Qn22.out.chg hch.out (notIn_self (by simp)))
        have Qd23 := Lib.hid (Qd22.out.chg hch.out (notIn_self (by simp)))
        clear hch Ha22 Hb22 Hi22 Hn22 Qu22 Qn22 Qd22 HB22 HZ22
        refine wpList_store_mid rfl 29 (.tmp 7) (.tmp 84) rfl gA 0 #[.int .i64 d2.me, .slice p4 d2.xs.length c4, .slice q4 d2.os.length e4, .int .i64 d2.far] rfl rfl HTH.out (infoD4 rfl) (all_oneCell_toArray (by intro u hu; simp at hu; rcases hu with rfl | rfl | rfl | rfl <;> rfl)) ?_
        generalize (W5.setCells gA 0 (#[.int .i64 d2.me, .slice p4 d2.xs.length c4, .slice q4 d2.os.length e4, .int .i64 d2.far] : Array Value).toList) = W6 at *
        clear HTH
        have HREL : Hid (ER w far ex gA gB gI 3 (.slice pv 1 cv) W6) := Lib.hid ⟨d2, db, p4, c4, q4, e4, p2, c2, q2, e2, pv, bq, 0, 1, cv, out2, rfl, HST.out, Ha23.out, Hb23.out, Hi23.out, Qn23.out, Qd23.out, Qu23.out, HB23.out, Nat.le_trans HZ20b.out HBQ.out.1⟩
        clear Ha23 Hb23 Hi23 Hn23 Qu23 Qn23 Qd23 HB23 HZ23 HST HCV HBQ HBD HSZ HBW HWS HLV HGN HGgn
        go_upto_region 17 with fail
        go_wp2_with fail
        go_loopw [16] (fun ov wr => Hid (∃ j, ER w far ex gA gB gI j ov wr)) (fun ov wr => mu (fun j => ER w far ex gA gB gI j ov wr))
        case atStart => exact Lib.hid ⟨3, HREL.out⟩
        case round =>
          clear HREL
          have HMU := Lib.hid (mu_spec hrel.out)
          clear hrel
          obtain ⟨da, db, p1, c1, q1, e1, p2, c2, q2, e2, ao, bq, off, n1, cq, L, rfl, hst, hk1, hk2, hk3, hk4, hk5, hk6, hk8, hk9b⟩ := HMU.out
          have HST := Lib.hid hst
          have Ha40 := Lib.hid hk1
          have Hb40 := Lib.hid hk2
          have Hi40 := Lib.hid hk3
          have Qa40 := Lib.hid hk4
          have Qb40 := Lib.hid hk5
          have HQ0 := Lib.hid hk6
          have HB40 := Lib.hid hk8
          have HBG := Lib.hid hk9b
          have HZ40 : Hid (w.heap.size ≤ wr.heap.size) := Lib.hid hk8.size
          clear HMU hst hk1 hk2 hk3 hk4 hk5 hk6 hk8 hk9b
          have HWS : Hid (gA < wr.heap.size ∧ gB < wr.heap.size ∧ gI < wr.heap.size) := Lib.hid ⟨Ha40.out.lt, Hb40.out.lt, Hi40.out.lt⟩
          generalize hmu : mu (fun j => ER w far ex gA gB gI j (.slice ao n1 cq) wr) = mj at *
          have HMJ := Lib.hid hmu
          clear hmu
          cases L with
          | cons z L' =>
            have HPL := Lib.hid (stg_plain HST.out)
            have hs := stg_step HST.out
            obtain ⟨rfl, hs⟩ := hs
            have HSS := Lib.hid hs
            obtain rfl : n1 = 1 := HQ0.out.1.len
            have HC1 : Hid (1 ≤ cq) := Lib.hid HQ0.out.1.le
            obtain rfl := HQ0.out.1.addr HC1.out
            have HBQ : Hid (bq < wr.heap.size ∧ bq ≠ gA ∧ bq ≠ gB ∧ bq ≠ gI) := Lib.hid ⟨HQ0.out.1.lt HC1.out, HQ0.out.2 _ (notIn_self (by simp)), HQ0.out.2 _ (notIn_self (by simp)), HQ0.out.2 _ (notIn_self (by simp))⟩
            have HQC : Hid (∀ t, t < 12 → wr.cell? ⟨bq, off + t, none⟩ = (SdX.cells (sdX z))[t]?) := Lib.hid (fun t ht => by
              have h := trow_cell HQ0.out.1.row 0 (by simp) rfl t ht
              rw [Nat.zero_mul, Nat.add_zero] at h
              exact h)
            have hzc : ∀ t, t < 12 → wr.cell? ⟨bq, off + t, none⟩ = ([.int .i64 z.1, .int .i64 z.2.k, .int .i64 z.2.s, .int .i64 z.2.n, .int .i64 z.2.b, .int .i64 z.2.c, .int .i64 z.2.r, .int .i64 z.2.y, .int .i64 z.2.a, .bool z.2.t, .slice none 0 0, .slice none 0 0] : List Value)[t]? := fun t ht => by rw [HQC.out t ht, sd_plain1 HPL.out]
            clear hs HQC
            have c0 : wr.cell? ⟨bq, off, none⟩ = some (.int .i64 z.1) := hzc 0 (by decide)
            have c1 : wr.cell? ⟨bq, off + 1, none⟩ = some (.int .i64 z.2.k) := hzc 1 (by decide)
            have c2 : wr.cell? ⟨bq, off + 2, none⟩ = some (.int .i64 z.2.s) := hzc 2 (by decide)
            have c3 : wr.cell? ⟨bq, off + 3, none⟩ = some (.int .i64 z.2.n) := hzc 3 (by decide)
            have c4 : wr.cell? ⟨bq, off + 4, none⟩ = some (.int .i64 z.2.b) := hzc 4 (by decide)
            have c5 : wr.cell? ⟨bq, off + 5, none⟩ = some (.int .i64 z.2.c) := hzc 5 (by decide)
            have c6 : wr.cell? ⟨bq, off + 6, none⟩ = some (.int .i64 z.2.r) := hzc 6 (by decide)
            have c7 : wr.cell? ⟨bq, off + 7, none⟩ = some (.int .i64 z.2.y) := hzc 7 (by decide)
            have c8 : wr.cell? ⟨bq, off + 8, none⟩ = some (.int .i64 z.2.a) := hzc 8 (by decide)
            have c9 : wr.cell? ⟨bq, off + 9, none⟩ = some (.bool z.2.t) := hzc 9 (by decide)
            have c10 : wr.cell? ⟨bq, off + 10, none⟩ = some (.slice none 0 0) := hzc 10 (by decide)
            have c11 : wr.cell? ⟨bq, off + 11, none⟩ = some (.slice none 0 0) := hzc 11 (by decide)
            clear hzc
            obtain ⟨at1, hat1⟩ : ∃ at1, (if cq = 1 then (some ⟨bq, off, none⟩ : Option Addr) else some ⟨bq, off + 12, none⟩) = at1 := ⟨_, rfl⟩
            have HAT1 := Lib.hid hat1
            clear hat1
            have Qu40 : Hid (QU (NotIn [gA, gB, gI]) wr at1 bq (off + 12) 0 (cq - 1) []) := Lib.hid ⟨HQ0.out.1.tail (fun h => by rw [← HAT1.out, if_neg (by omega)]), HQ0.out.2⟩
            clear HQ0
            have HGI : Hid (gI < wr.heap.size) := Lib.hid Hi40.out.lt
            have hba := oneB wr (.cells #[.int .i64 z.1, .int .i64 z.2.k, .int .i64 z.2.s, .int .i64 z.2.n, .int .i64 z.2.b, .int .i64 z.2.c, .int .i64 z.2.r, .int .i64 z.2.y, .int .i64 z.2.a, .bool z.2.t, .slice none 0 0, .slice none 0 0] 58)
            have Ha41 := Lib.hid (Ha40.out.below hba Ha40.out.lt)
            have Hb41 := Lib.hid (Hb40.out.below hba Hb40.out.lt)
            have Hi41 := Lib.hid (Hi40.out.below hba Hi40.out.lt)
            have Qa41 := Lib.hid (Qa40.out.kept hba)
            have Qb41 := Lib.hid (Qb40.out.kept hba)
            have Qu41 := Lib.hid (Qu40.out.kept hba)
            have Hm41 := Lib.hid (Blk.new wr #[.int .i64 z.1, .int .i64 z.2.k, .int .i64 z.2.s, .int .i64 z.2.n, .int .i64 z.2.b, .int .i64 z.2.c, .int .i64 z.2.r, .int .i64 z.2.y, .int .i64 z.2.a, .bool z.2.t, .slice none 0 0, .slice none 0 0] 58)
            have HB41 := Lib.hid (HB40.out.alloc HB40.out.size (.cells #[.int .i64 z.1, .int .i64 z.2.k, .int .i64 z.2.s, .int .i64 z.2.n, .int .i64 z.2.b, .int .i64 z.2.c, .int .i64 z.2.r, .int .i64 z.2.y, .int .i64 z.2.a, .bool z.2.t, .slice none 0 0, .slice none 0 0] 58))
            have HZ41 : Hid (w.heap.size ≤ (wr.alloc (.cells #[.int .i64 z.1, .int .i64 z.2.k, .int .i64 z.2.s, .int .i64 z.2.n, .int .i64 z.2.b, .int .i64 z.2.c, .int .i64 z.2.r, .int .i64 z.2.y, .int .i64 z.2.a, .bool z.2.t, .slice none 0 0, .slice none 0 0] 58)).heap.size) := Lib.hid (Nat.le_trans HZ40.out hba.size)
            have HGgm : Hid (w.heap.size ≤ wr.heap.size) := Lib.hid HB40.out.size
            clear hba Ha40 Hb40 Hi40 Qa40 Qb40 Qu40 HB40 HZ40
            go_upto_region 19 with fail
            clear c0 c1 c2 c3 c4 c5 c6 c7 c8 c9 c10 c11
            generalize (wr.alloc (.cells #[.int .i64 z.1, .int .i64 z.2.k, .int .i64 z.2.s, .int .i64 z.2.n, .int .i64 z.2.b, .int .i64 z.2.c, .int .i64 z.2.r, .int .i64 z.2.y, .int .i64 z.2.a, .bool z.2.t, .slice none 0 0, .slice none 0 0] 58)) = W7 at *
            generalize hggm : wr.heap.size = gm at *
            clear hggm
            have hcq : 1 ≤ cq := HC1.out
            go_upto_region 20 with fail
            rw [HAT1.out]
            have HWM : Hid (gm ≤ W7.heap.size) := Lib.hid (Nat.le_of_lt Hm41.out.lt)
            have HMK : Hid (∀ k9, k9 < mj → k9 < mu (fun j => ER w far ex gA gB gI j (.slice (some ⟨bq, off, none⟩) 1 cq) wr)) := Lib.hid (fun k9 h => by rw [HMJ.out]; exact h)
            rcases HSS.out with ⟨hz, hex⟩ | ⟨hz, hex⟩
            · skip
              have HZT := Lib.hid hz
              have hz1 : (z.1 == 1) = true := by simpa using hz
              clear hz
              have m0 : W7.cell? ⟨gm, 0, none⟩ = some (.int .i64 z.1) := Hm41.out.cell 0
              go_upto_region 21 with fail
              clear hz1 m0
              obtain ⟨k9, hk9, hst⟩ := hex
              obtain ⟨⟨d9, out9, e9⟩, hA⟩ : ∃ A, doM db z.2 0 = A := ⟨_, rfl⟩
              rw [hA] at hst
              dsimp only at hst
              have HST2 := Lib.hid hst
              have HK9 := Lib.hid hk9
              clear hst hk9
              have HWT : Hid (gA < W7.heap.size ∧ gB < W7.heap.size ∧ gI < W7.heap.size ∧ bq < W7.heap.size) := Lib.hid ⟨Ha41.out.lt, Hb41.out.lt, Hi41.out.lt, Nat.lt_of_lt_of_le HBQ.out.1 HWM.out⟩
              have HG := Lib.hid (Qb41.out.do_ (by have := stg_len HST.out; omega) (by have := stg_len HST.out; omega) z.2 (.slice none 0 0) (.slice none 0 0) (0) out9 e9 hA)
              unfold dcells Msg.v at HG
              clear hA
              have a0 : W7.cell? ⟨gB, 0, none⟩ = some (.int .i64 db.me) := Hb41.out.cell 0
              have a1 : W7.cell? ⟨gB, 1, none⟩ = some (.slice p2 db.xs.length c2) := Hb41.out.cell 1
              have a2 : W7.cell? ⟨gB, 2, none⟩ = some (.slice q2 db.os.length e2) := Hb41.out.cell 2
              have a3 : W7.cell? ⟨gB, 3, none⟩ = some (.int .i64 db.far) := Hb41.out.cell 3
              have m1 : W7.cell? ⟨gm, 1, none⟩ = some (.int .i64 z.2.k) := Hm41.out.cell 1
              have m2 : W7.cell? ⟨gm, 2, none⟩ = some (.int .i64 z.2.s) := Hm41.out.cell 2
              have m3 : W7.cell? ⟨gm, 3, none⟩ = some (.int .i64 z.2.n) := Hm41.out.cell 3
              have m4 : W7.cell? ⟨gm, 4, none⟩ = some (.int .i64 z.2.b) := Hm41.out.cell 4
              have m5 : W7.cell? ⟨gm, 5, none⟩ = some (.int .i64 z.2.c) := Hm41.out.cell 5
              have m6 : W7.cell? ⟨gm, 6, none⟩ = some (.int .i64 z.2.r) := Hm41.out.cell 6
              have m7 : W7.cell? ⟨gm, 7, none⟩ = some (.int .i64 z.2.y) := Hm41.out.cell 7
              have m8 : W7.cell? ⟨gm, 8, none⟩ = some (.int .i64 z.2.a) := Hm41.out.cell 8
              have m9 : W7.cell? ⟨gm, 9, none⟩ = some (.bool z.2.t) := Hm41.out.cell 9
              have m10 : W7.cell? ⟨gm, 10, none⟩ = some (.slice none 0 0) := Hm41.out.cell 10
              have m11 : W7.cell? ⟨gm, 11, none⟩ = some (.slice none 0 0) := Hm41.out.cell 11
              go_wp2_with fail
              clear a0 a1 a2 a3 m1 m2 m3 m4 m5 m6 m7 m8 m9 m10 m11
              refine HG.out.mono ?_
              rintro y9 w8 ⟨hb, p5, c5, q5, e5, vs5, rfl, hkk, hown⟩
              clear HG
              have Q2 := Lib.hid (hkk.imp (Q := (NotIn [gA, gB, gI, bq])) (fun x h => h.elim id (fun h => notIn4 (notIn_ge HWT.out.1 HWT.out.2.1 HWT.out.2.2.1 h) (by have := HWT.out.2.2.2; omega))))
              obtain ⟨pv, cv, hpv⟩ := hown.form
              obtain ⟨nl, hnl⟩ : ∃ nl, (out9.map sdX).length = nl := ⟨_, rfl⟩
              rw [hnl] at hpv
              subst hpv
              have HNL := Lib.hid hnl
              have HO8 := Lib.hid hown.row
              clear hnl
              have HWX : Hid (W7.heap.size ≤ w8.heap.size) := Lib.hid hb.size
              clear hkk hown Qb41
              have Ha42 := Lib.hid (Ha41.out.below hb Ha41.out.lt)
              have Hb42 := Lib.hid (Hb41.out.below hb Hb41.out.lt)
              have Hi42 := Lib.hid (Hi41.out.below hb Hi41.out.lt)
              have Hm42 := Lib.hid (Hm41.out.below hb Hm41.out.lt)
              have Qa42 := Lib.hid (Qa41.out.kept hb)
              have Qu42 := Lib.hid (Qu41.out.kept hb)
              have HB42 := Lib.hid (HB41.out.trans (hb.mono HB41.out.size))
              have HZ42 : Hid (w.heap.size ≤ w8.heap.size) := Lib.hid (Nat.le_trans HZ41.out hb.size)
              clear Ha41 Hb41 Hi41 Hm41 Qa41 Qu41 HB41 HZ41
              clear hb
              have Qb42 := Q2
              clear Q2
              have HO9 := Lib.hid (HO8.out.kept (oneB w8 (.cells #[.int .i64 d9.me, .slice p5 d9.xs.length c5, .slice q5 d9.os.length e5, .int .i64 d9.far] 29)))
              clear HO8
              have HGM2 : Hid (gm < w8.heap.size ∧ gI < w8.heap.size ∧ bq < w8.heap.size) := Lib.hid ⟨Hm42.out.lt, Hi42.out.lt, Nat.lt_of_lt_of_le HWT.out.2.2.2 HWX.out⟩
              have hba := oneB w8 (.cells #[.int .i64 d9.me, .slice p5 d9.xs.length c5, .slice q5 d9.os.length e5, .int .i64 d9.far] 29)
              have Ha43 := Lib.hid (Ha42.out.below hba Ha42.out.lt)
              have Hb43 := Lib.hid (Hb42.out.below hba Hb42.out.lt)
              have Hi43 := Lib.hid (Hi42.out.below hba Hi42.out.lt)
              have Hm43 := Lib.hid (Hm42.out.below hba Hm42.out.lt)
              have Qa43 := Lib.hid (Qa42.out.kept hba)
              have Qu43 := Lib.hid (Qu42.out.kept hba)
              have Qb43 := Lib.hid (Qb42.out.kept hba)
              have Hc43 := Lib.hid (Blk.new w8 #[.int .i64 d9.me, .slice p5 d9.xs.length c5, .slice q5 d9.os.length e5, .int .i64 d9.far] 29)
              have HB43 := Lib.hid (HB42.out.alloc HB42.out.size (.cells #[.int .i64 d9.me, .slice p5 d9.xs.length c5, .slice q5 d9.os.length e5, .int .i64 d9.far] 29))
              have HZ43 : Hid (w.heap.size ≤ (w8.alloc (.cells #[.int .i64 d9.me, .slice p5 d9.xs.length c5, .slice q5 d9.os.length e5, .int .i64 d9.far] 29)).heap.size) := Lib.hid (Nat.le_trans HZ42.out hba.size)
              have HGgc : Hid (w.heap.size ≤ w8.heap.size) := Lib.hid HB42.out.size
              clear hba Ha42 Hb42 Hi42 Hm42 Qa42 Qu42 Qb42 HB42 HZ42
              go_upto_region 22 with fail
              generalize (w8.alloc (.cells #[.int .i64 d9.me, .slice p5 d9.xs.length c5, .slice q5 d9.os.length e5, .int .i64 d9.far] 29)) = W9 at *
              generalize hggc : w8.heap.size = gc at *
              clear hggc
              clear Hm43
              have HBD8 : Hid (bq < W9.heap.size) := Lib.hid (by have h1 := HGM2.out.2.2; have h2 := Hc43.out.lt; omega)
              have hbd := (Below.refl W9.heap.size W9).drew
              have Ha44 := Lib.hid (Ha43.out.below hbd Ha43.out.lt)
              have Hb44 := Lib.hid (Hb43.out.below hbd Hb43.out.lt)
              have Hi44 := Lib.hid (Hi43.out.below hbd Hi43.out.lt)
              have Hc44 := Lib.hid (Hc43.out.below hbd Hc43.out.lt)
              have Qa44 := Lib.hid (Qa43.out.kept hbd)
              have Qu44 := Lib.hid (Qu43.out.kept hbd)
              have Qb44 := Lib.hid (Qb43.out.kept hbd)
              have HB44 := Lib.hid (HB43.out.trans (hbd.mono HB43.out.size))
              have HZ44 : Hid (w.heap.size ≤ W9.drew.heap.size) := Lib.hid (Nat.le_trans HZ43.out hbd.size)
              clear Ha43 Hb43 Hi43 Hc43 Qa43 Qu43 Qb43 HB43 HZ43
              have hS1 : W9.drew.cell? ⟨gc, 0, none⟩ = some (.int .i64 d9.me) ∧ W9.drew.cell? ⟨gc, 1, none⟩ = some (.slice p5 d9.xs.length c5) ∧ W9.drew.cell? ⟨gc, 2, none⟩ = some (.slice q5 d9.os.length e5) ∧ W9.drew.cell? ⟨gc, 3, none⟩ = some (.int .i64 d9.far) := ⟨Hc44.out.cell 0, Hc44.out.cell 1, Hc44.out.cell 2, Hc44.out.cell 3⟩
              refine wp_region_held_drew (S := fun w' => w'.cell? ⟨gc, 0, none⟩ = some (.int .i64 d9.me) ∧ w'.cell? ⟨gc, 1, none⟩ = some (.slice p5 d9.xs.length c5) ∧ w'.cell? ⟨gc, 2, none⟩ = some (.slice q5 d9.os.length e5) ∧ w'.cell? ⟨gc, 3, none⟩ = some (.int .i64 d9.far)) (by kernel_rfl) hS1 (fun hS0 => ?_)
              clear hS1
              have HOD := Lib.hid (HO9.out.kept hbd)
              have HBD9 : Hid (bq < W9.drew.heap.size) := Lib.hid (Nat.lt_of_lt_of_le HBD8.out hbd.size)
              clear HO9
              generalize W9.drew = WD at *
              clear hbd
              refine wpAnyH_take (i := 0) (v := ?_) rfl (by kernel_rfl) (by kernel_rfl) (by kernel_rfl) (fun _ _ _ h => h) (Or.inl ⟨by kernel_rfl, ?_⟩) (by first | assumption | trivial) ?_
              rotate_left
              · intro w hSw
                try dsimp only at hSw
                first | (go_simp; done) | (go_simp; with_reducible rfl)
              try simp only [Act.put, List.getElem_toArray, List.getElem_cons_succ, List.getElem_cons_zero, List.setIfInBounds_toArray, List.set_cons_zero, List.set_cons_succ]
              refine wpAnyH_take (i := 1) (v := ?_) rfl (by kernel_rfl) (by kernel_rfl) (by kernel_rfl) (fun _ _ _ h => h) (Or.inl ⟨by kernel_rfl, ?_⟩) (by first | assumption | trivial) ?_
              rotate_left
              · intro w hSw
                try dsimp only at hSw
                first | (go_simp; done) | (go_simp; with_reducible rfl)
              try simp only [Act.put, List.getElem_toArray, List.getElem_cons_succ, List.getElem_cons_zero, List.setIfInBounds_toArray, List.set_cons_zero, List.set_cons_succ]
              refine wpAnyH_take (i := 2) (v := ?_) rfl (by kernel_rfl) (by kernel_rfl) (by kernel_rfl) (fun _ _ _ h => h) (Or.inl ⟨by kernel_rfl, ?_⟩) (by first | assumption | trivial) ?_
              rotate_left
              · intro w hSw
                try dsimp only at hSw
                first | (go_simp; done) | (go_simp; with_reducible rfl)
              try simp only [Act.put, List.getElem_toArray, List.getElem_cons_succ, List.getElem_cons_zero, List.setIfInBounds_toArray, List.set_cons_zero, List.set_cons_succ]
              refine wpAnyH_ready (rs := [3]) (by kernel_rfl) (by simp) ?_
              refine AllReadyH.cons rfl (fun K hK => ?_) AllReadyH.nil
              refine step_que rfl (.tmp 105) (.tmp 106) rfl rfl rfl Qu44.out.1 HOD.out (by rw [List.length_map]; exact (stg_len HST2.out).2.2.2.2.1) nl HNL.out ?_
              intro ao7 b7 off7 c7 w10 hq hb7 hch
              have HB7 := Lib.hid hb7
              have HLD : Hid (gA < WD.heap.size ∧ gB < WD.heap.size ∧ gI < WD.heap.size) := Lib.hid ⟨Ha44.out.lt, Hb44.out.lt, Hi44.out.lt⟩
              have HNE : Hid (bq ≠ gA ∧ bq ≠ gB ∧ bq ≠ gI ∧ bq ≠ gc) := Lib.hid ⟨HBQ.out.2.1, HBQ.out.2.2.1, HBQ.out.2.2.2, by have h1 := HGM2.out.2.2; omega⟩
              have Ha45 := Lib.hid (Ha44.out.chg hch (Ne.symm HNE.out.1))
              have Hb45 := Lib.hid (Hb44.out.chg hch (Ne.symm HNE.out.2.1))
              have Hi45 := Lib.hid (Hi44.out.chg hch (Ne.symm HNE.out.2.2.1))
              have Hc45 := Lib.hid (Hc44.out.chg hch (Ne.symm HNE.out.2.2.2))
              have HX7 : Hid (∀ x, ((NotIn [gA, gB, gI, bq]) x ∧ x < WD.heap.size) → (NotIn [gA, gB, gI, b7]) x) := Lib.hid (fun x h => notIn4 (notIn43 h.1) (by
                rcases HB7.out with e | e
                · intro hx; exact h.1 (by simp [hx, e])
                · have := h.2; omega))
              have Qa45 := Lib.hid ((Qa44.out.lt.chg hch (fun h => h.1 (by simp))).imp HX7.out)
              have Qb45 := Lib.hid ((Qb44.out.lt.chg hch (fun h => h.1 (by simp))).imp HX7.out)
              have Qu45 : Hid (QU (NotIn [gA, gB, gI]) w10 ao7 b7 off7 nl c7 (out9.map sdX)) := Lib.hid ⟨hq, fun g hg => by
                rcases HB7.out with e | e
                · rw [e]; exact Qu44.out.2 g hg
                · intro h; exact hg (by rw [← h]; exact notIn_ge HLD.out.1 HLD.out.2.1 HLD.out.2.2 e)⟩
              have HBG7 : Hid (w.heap.size ≤ b7) := Lib.hid (by
                rcases HB7.out with e | e
                · rw [e]; exact HBG.out
                · exact Nat.le_trans HZ44.out e)
              have HB45 := Lib.hid (HB44.out.trans (hch.below HBG.out HB44.out.size))
              have HZ45 : Hid (w.heap.size ≤ w10.heap.size) := Lib.hid HB45.out.size
              clear hq hb7 hch HOD hS0 HX7 Ha44 Hb44 Hi44 Hc44 Qa44 Qu44 Qb44 HB44 HZ44
              refine hK.out _ _ ⟨Hc45.out.cell 0, Hc45.out.cell 1, Hc45.out.cell 2, Hc45.out.cell 3⟩ (fun hS0 => ?_)
              clear hK K
              try simp only [Act.put, List.getElem_toArray, List.getElem_cons_succ, List.getElem_cons_zero, List.setIfInBounds_toArray, List.set_cons_zero, List.set_cons_succ]
              refine wpAnyH_ready (rs := [4]) (by kernel_rfl) (by simp) ?_
              refine AllReadyH.cons rfl (fun K hK => ?_) AllReadyH.nil
              have z0 : w10.cell? ⟨gB, 0, none⟩ = some (.int .i64 db.me) := Hb45.out.cell 0
              have z1 : w10.cell? ⟨gB, 1, none⟩ = some (.slice p2 db.xs.length c2) := Hb45.out.cell 1
              have z2 : w10.cell? ⟨gB, 2, none⟩ = some (.slice q2 db.os.length e2) := Hb45.out.cell 2
              have z3 : w10.cell? ⟨gB, 3, none⟩ = some (.int .i64 db.far) := Hb45.out.cell 3
              have f0 := Hb45.out.free 0
              have f1 := Hb45.out.free 1
              have f2 := Hb45.out.free 2
              have f3 := Hb45.out.free 3
              go_simp
              clear z0 f0 z1 f1 z2 f2 z3 f3
              have hch : Hid (Chg gB w10 ((((w10.setCell ⟨gB, 0, none⟩ (.int .i64 d9.me)).setCell ⟨gB, 1, none⟩ (.slice p5 d9.xs.length c5)).setCell ⟨gB, 2, none⟩ (.slice q5 d9.os.length e5)).setCell ⟨gB, 3, none⟩ (.int .i64 d9.far))) := Lib.hid (((((Chg.refl gB w10).set 0 (.int .i64 d9.me)).set 1 (.slice p5 d9.xs.length c5)).set 2 (.slice q5 d9.os.length e5)).set 3 (.int .i64 d9.far))
              have Hb46 : Hid (Blk ((((w10.setCell ⟨gB, 0, none⟩ (.int .i64 d9.me)).setCell ⟨gB, 1, none⟩ (.slice p5 d9.xs.length c5)).setCell ⟨gB, 2, none⟩ (.slice q5 d9.os.length e5)).setCell ⟨gB, 3, none⟩ (.int .i64 d9.far)) gB #[.int .i64 d9.me, .slice p5 d9.xs.length c5, .slice q5 d9.os.length e5, .int .i64 d9.far] 29) := Lib.hid ((((Hb45.out.set 0 (.int .i64 d9.me)).set 1 (.slice p5 d9.xs.length c5)).set 2 (.slice q5 d9.os.length e5)).set 3 (.int .i64 d9.far))
              have HB46 : Hid (Below w.heap.size w ((((w10.setCell ⟨gB, 0, none⟩ (.int .i64 d9.me)).setCell ⟨gB, 1, none⟩ (.slice p5 d9.xs.length c5)).setCell ⟨gB, 2, none⟩ (.slice q5 d9.os.length e5)).setCell ⟨gB, 3, none⟩ (.int .i64 d9.far))) := Lib.hid ((((HB45.out.setCell (p := ⟨gB, 0, none⟩) (by show w.heap.size ≤ gB; have := HGE.out; have := HGM2.out; have := HBQ.out; omega) (.int .i64 d9.me)).setCell (p := ⟨gB, 1, none⟩) (by show w.heap.size ≤ gB; have := HGE.out; have := HGM2.out; have := HBQ.out; omega) (.slice p5 d9.xs.length c5)).setCell (p := ⟨gB, 2, none⟩) (by show w.heap.size ≤ gB; have := HGE.out; have := HGM2.out; have := HBQ.out; omega) (.slice q5 d9.os.length e5)).setCell (p := ⟨gB, 3, none⟩) (by show w.heap.size ≤ gB; have := HGE.out; have := HGM2.out; have := HBQ.out; omega) (.int .i64 d9.far))
              have HZ46 : Hid (w.heap.size ≤ ((((w10.setCell ⟨gB, 0, none⟩ (.int .i64 d9.me)).setCell ⟨gB, 1, none⟩ (.slice p5 d9.xs.length c5)).setCell ⟨gB, 2, none⟩ (.slice q5 d9.os.length e5)).setCell ⟨gB, 3, none⟩ (.int .i64 d9.far)).heap.size) := Lib.hid (Nat.le_trans HZ45.out hch.out.size)
              have Ha46 := Lib.hid (Ha45.out.chg hch.out (by have := HGE.out; have := HGM2.out; have := HBQ.out; omega))
              have Hi46 := Lib.hid (Hi45.out.chg hch.out (by have := HGE.out; have := HGM2.out; have := HBQ.out; omega))
              have Hc46 := Lib.hid (Hc45.out.chg hch.out (by have := HGE.out; have := HGM2.out; have := HBQ.out; omega))
              have Qa46 := Lib.hid (Qa45.out.chg hch.out (notIn_self (by simp)))
              have Qu46 := Lib.hid (Qu45.out.chg hch.out (notIn_self (by simp)))
              have Qb46 := Lib.hid (Qb45.out.chg hch.out (notIn_self (by simp)))
              clear hch hS0 Ha45 Hb45 Hi45 Hc45 Qa45 Qu45 Qb45 HB45 HZ45
              generalize ((((w10.setCell ⟨gB, 0, none⟩ (.int .i64 d9.me)).setCell ⟨gB, 1, none⟩ (.slice p5 d9.xs.length c5)).setCell ⟨gB, 2, none⟩ (.slice q5 d9.os.length e5)).setCell ⟨gB, 3, none⟩ (.int .i64 d9.far)) = W11 at *
              refine hK.out _ _ ⟨Hc46.out.cell 0, Hc46.out.cell 1, Hc46.out.cell 2, Hc46.out.cell 3⟩ (fun hS0 => ?_)
              clear hK K
              try simp only [Act.put, List.getElem_toArray, List.getElem_cons_succ, List.getElem_cons_zero, List.setIfInBounds_toArray, List.set_cons_zero, List.set_cons_succ]
              refine wpAnyH_take (i := 5) (v := ?_) rfl (by kernel_rfl) (by kernel_rfl) (by kernel_rfl) (fun _ _ _ h => h) (Or.inl ⟨by kernel_rfl, ?_⟩) (by first | assumption | trivial) ?_
              rotate_left
              · intro w hSw
                try dsimp only at hSw
                first | (go_simp; done) | (go_simp; with_reducible rfl)
              try simp only [Act.put, List.getElem_toArray, List.getElem_cons_succ, List.getElem_cons_zero, List.setIfInBounds_toArray, List.set_cons_zero, List.set_cons_succ]
              refine wpAnyH_done (by kernel_rfl) ?_ _
              clear hS0
              have HNX : Hid (ER w far ex gA gB gI k9 (.slice ao7 nl c7) W11) := Lib.hid ⟨da, d9, p1, c1, q1, e1, p5, c5, q5, e5, ao7, b7, off7, nl, c7, out9, rfl, HST2.out, Ha46.out, Hb46.out, Hi46.out, Qa46.out, Qb46.out, Qu46.out, HB46.out, HBG7.out⟩
              clear Ha46 Hb46 Hi46 Hc46 Qa46 Qu46 Qb46 HB46 HZ46
              go_wp2_with fail
              go_roundw
              case rel => exact Lib.hid ⟨k9, HNX.out⟩
              case measure => first | exact Nat.lt_of_le_of_lt (mu_le HNX.out) (HMK.out k9 HK9.out)
            · skip
              have HZT := Lib.hid hz
              have hz1 : (z.1 == 1) = false := by simpa using hz
              clear hz
              have m0 : W7.cell? ⟨gm, 0, none⟩ = some (.int .i64 z.1) := Hm41.out.cell 0
              go_upto_region 23 with fail
              clear hz1 m0
              obtain ⟨k9, hk9, hst⟩ := hex
              obtain ⟨⟨d9, out9, e9⟩, hA⟩ : ∃ A, doM da z.2 1 = A := ⟨_, rfl⟩
              rw [hA] at hst
              dsimp only at hst
              have HST2 := Lib.hid hst
              have HK9 := Lib.hid hk9
              clear hst hk9
              have HWT : Hid (gA < W7.heap.size ∧ gB < W7.heap.size ∧ gI < W7.heap.size ∧ bq < W7.heap.size) := Lib.hid ⟨Ha41.out.lt, Hb41.out.lt, Hi41.out.lt, Nat.lt_of_lt_of_le HBQ.out.1 HWM.out⟩
              have HG := Lib.hid (Qa41.out.do_ (by have := stg_len HST.out; omega) (by have := stg_len HST.out; omega) z.2 (.slice none 0 0) (.slice none 0 0) (1) out9 e9 hA)
              unfold dcells Msg.v at HG
              clear hA
              have a0 : W7.cell? ⟨gA, 0, none⟩ = some (.int .i64 da.me) := Ha41.out.cell 0
              have a1 : W7.cell? ⟨gA, 1, none⟩ = some (.slice p1 da.xs.length c1) := Ha41.out.cell 1
              have a2 : W7.cell? ⟨gA, 2, none⟩ = some (.slice q1 da.os.length e1) := Ha41.out.cell 2
              have a3 : W7.cell? ⟨gA, 3, none⟩ = some (.int .i64 da.far) := Ha41.out.cell 3
              have m1 : W7.cell? ⟨gm, 1, none⟩ = some (.int .i64 z.2.k) := Hm41.out.cell 1
              have m2 : W7.cell? ⟨gm, 2, none⟩ = some (.int .i64 z.2.s) := Hm41.out.cell 2
              have m3 : W7.cell? ⟨gm, 3, none⟩ = some (.int .i64 z.2.n) := Hm41.out.cell 3
              have m4 : W7.cell? ⟨gm, 4, none⟩ = some (.int .i64 z.2.b) := Hm41.out.cell 4
              have m5 : W7.cell? ⟨gm, 5, none⟩ = some (.int .i64 z.2.c) := Hm41.out.cell 5
              have m6 : W7.cell? ⟨gm, 6, none⟩ = some (.int .i64 z.2.r) := Hm41.out.cell 6
              have m7 : W7.cell? ⟨gm, 7, none⟩ = some (.int .i64 z.2.y) := Hm41.out.cell 7
              have m8 : W7.cell? ⟨gm, 8, none⟩ = some (.int .i64 z.2.a) := Hm41.out.cell 8
              have m9 : W7.cell? ⟨gm, 9, none⟩ = some (.bool z.2.t) := Hm41.out.cell 9
              have m10 : W7.cell? ⟨gm, 10, none⟩ = some (.slice none 0 0) := Hm41.out.cell 10
              have m11 : W7.cell? ⟨gm, 11, none⟩ = some (.slice none 0 0) := Hm41.out.cell 11
              go_wp2_with fail
              clear a0 a1 a2 a3 m1 m2 m3 m4 m5 m6 m7 m8 m9 m10 m11
              refine HG.out.mono ?_
              rintro y9 w8 ⟨hb, p5, c5, q5, e5, vs5, rfl, hkk, hown⟩
              clear HG
              have Q2 := Lib.hid (hkk.imp (Q := (NotIn [gA, gB, gI, bq])) (fun x h => h.elim id (fun h => notIn4 (notIn_ge HWT.out.1 HWT.out.2.1 HWT.out.2.2.1 h) (by have := HWT.out.2.2.2; omega))))
              obtain ⟨pv, cv, hpv⟩ := hown.form
              obtain ⟨nl, hnl⟩ : ∃ nl, (out9.map sdX).length = nl := ⟨_, rfl⟩
              rw [hnl] at hpv
              subst hpv
              have HNL := Lib.hid hnl
              have HO8 := Lib.hid hown.row
              clear hnl
              have HWX : Hid (W7.heap.size ≤ w8.heap.size) := Lib.hid hb.size
              clear hkk hown Qa41
              have Ha42 := Lib.hid (Ha41.out.below hb Ha41.out.lt)
              have Hb42 := Lib.hid (Hb41.out.below hb Hb41.out.lt)
              have Hi42 := Lib.hid (Hi41.out.below hb Hi41.out.lt)
              have Hm42 := Lib.hid (Hm41.out.below hb Hm41.out.lt)
              have Qb42 := Lib.hid (Qb41.out.kept hb)
              have Qu42 := Lib.hid (Qu41.out.kept hb)
              have HB42 := Lib.hid (HB41.out.trans (hb.mono HB41.out.size))
              have HZ42 : Hid (w.heap.size ≤ w8.heap.size) := Lib.hid (Nat.le_trans HZ41.out hb.size)
              clear Ha41 Hb41 Hi41 Hm41 Qb41 Qu41 HB41 HZ41
              clear hb
              have Qa42 := Q2
              clear Q2
              have HO9 := Lib.hid (HO8.out.kept (oneB w8 (.cells #[.int .i64 d9.me, .slice p5 d9.xs.length c5, .slice q5 d9.os.length e5, .int .i64 d9.far] 29)))
              clear HO8
              have HGM2 : Hid (gm < w8.heap.size ∧ gI < w8.heap.size ∧ bq < w8.heap.size) := Lib.hid ⟨Hm42.out.lt, Hi42.out.lt, Nat.lt_of_lt_of_le HWT.out.2.2.2 HWX.out⟩
              have hba := oneB w8 (.cells #[.int .i64 d9.me, .slice p5 d9.xs.length c5, .slice q5 d9.os.length e5, .int .i64 d9.far] 29)
              have Ha43 := Lib.hid (Ha42.out.below hba Ha42.out.lt)
              have Hb43 := Lib.hid (Hb42.out.below hba Hb42.out.lt)
              have Hi43 := Lib.hid (Hi42.out.below hba Hi42.out.lt)
              have Hm43 := Lib.hid (Hm42.out.below hba Hm42.out.lt)
              have Qb43 := Lib.hid (Qb42.out.kept hba)
              have Qu43 := Lib.hid (Qu42.out.kept hba)
              have Qa43 := Lib.hid (Qa42.out.kept hba)
              have Hc43 := Lib.hid (Blk.new w8 #[.int .i64 d9.me, .slice p5 d9.xs.length c5, .slice q5 d9.os.length e5, .int .i64 d9.far] 29)
              have HB43 := Lib.hid (HB42.out.alloc HB42.out.size (.cells #[.int .i64 d9.me, .slice p5 d9.xs.length c5, .slice q5 d9.os.length e5, .int .i64 d9.far] 29))
              have HZ43 : Hid (w.heap.size ≤ (w8.alloc (.cells #[.int .i64 d9.me, .slice p5 d9.xs.length c5, .slice q5 d9.os.length e5, .int .i64 d9.far] 29)).heap.size) := Lib.hid (Nat.le_trans HZ42.out hba.size)
              have HGgc : Hid (w.heap.size ≤ w8.heap.size) := Lib.hid HB42.out.size
              clear hba Ha42 Hb42 Hi42 Hm42 Qb42 Qu42 Qa42 HB42 HZ42
              go_upto_region 24 with fail
              generalize (w8.alloc (.cells #[.int .i64 d9.me, .slice p5 d9.xs.length c5, .slice q5 d9.os.length e5, .int .i64 d9.far] 29)) = W9 at *
              generalize hggc : w8.heap.size = gc at *
              clear hggc
              clear Hm43
              have HBD8 : Hid (bq < W9.heap.size) := Lib.hid (by have h1 := HGM2.out.2.2; have h2 := Hc43.out.lt; omega)
              have hbd := (Below.refl W9.heap.size W9).drew
              have Ha44 := Lib.hid (Ha43.out.below hbd Ha43.out.lt)
              have Hb44 := Lib.hid (Hb43.out.below hbd Hb43.out.lt)
              have Hi44 := Lib.hid (Hi43.out.below hbd Hi43.out.lt)
              have Hc44 := Lib.hid (Hc43.out.below hbd Hc43.out.lt)
              have Qb44 := Lib.hid (Qb43.out.kept hbd)
              have Qu44 := Lib.hid (Qu43.out.kept hbd)
              have Qa44 := Lib.hid (Qa43.out.kept hbd)
              have HB44 := Lib.hid (HB43.out.trans (hbd.mono HB43.out.size))
              have HZ44 : Hid (w.heap.size ≤ W9.drew.heap.size) := Lib.hid (Nat.le_trans HZ43.out hbd.size)
              clear Ha43 Hb43 Hi43 Hc43 Qb43 Qu43 Qa43 HB43 HZ43
              have hS1 : W9.drew.cell? ⟨gc, 0, none⟩ = some (.int .i64 d9.me) ∧ W9.drew.cell? ⟨gc, 1, none⟩ = some (.slice p5 d9.xs.length c5) ∧ W9.drew.cell? ⟨gc, 2, none⟩ = some (.slice q5 d9.os.length e5) ∧ W9.drew.cell? ⟨gc, 3, none⟩ = some (.int .i64 d9.far) := ⟨Hc44.out.cell 0, Hc44.out.cell 1, Hc44.out.cell 2, Hc44.out.cell 3⟩
              refine wp_region_held_drew (S := fun w' => w'.cell? ⟨gc, 0, none⟩ = some (.int .i64 d9.me) ∧ w'.cell? ⟨gc, 1, none⟩ = some (.slice p5 d9.xs.length c5) ∧ w'.cell? ⟨gc, 2, none⟩ = some (.slice q5 d9.os.length e5) ∧ w'.cell? ⟨gc, 3, none⟩ = some (.int .i64 d9.far)) (by kernel_rfl) hS1 (fun hS0 => ?_)
              clear hS1
              have HOD := Lib.hid (HO9.out.kept hbd)
              have HBD9 : Hid (bq < W9.drew.heap.size) := Lib.hid (Nat.lt_of_lt_of_le HBD8.out hbd.size)
              clear HO9
              generalize W9.drew = WD at *
              clear hbd
              refine wpAnyH_take (i := 0) (v := ?_) rfl (by kernel_rfl) (by kernel_rfl) (by kernel_rfl) (fun _ _ _ h => h) (Or.inl ⟨by kernel_rfl, ?_⟩) (by first | assumption | trivial) ?_
              rotate_left
              · intro w hSw
                try dsimp only at hSw
                first | (go_simp; done) | (go_simp; with_reducible rfl)
              try simp only [Act.put, List.getElem_toArray, List.getElem_cons_succ, List.getElem_cons_zero, List.setIfInBounds_toArray, List.set_cons_zero, List.set_cons_succ]
              refine wpAnyH_take (i := 1) (v := ?_) rfl (by kernel_rfl) (by kernel_rfl) (by kernel_rfl) (fun _ _ _ h => h) (Or.inl ⟨by kernel_rfl, ?_⟩) (by first | assumption | trivial) ?_
              rotate_left
              · intro w hSw
                try dsimp only at hSw
                first | (go_simp; done) | (go_simp; with_reducible rfl)
              try simp only [Act.put, List.getElem_toArray, List.getElem_cons_succ, List.getElem_cons_zero, List.setIfInBounds_toArray, List.set_cons_zero, List.set_cons_succ]
              refine wpAnyH_take (i := 2) (v := ?_) rfl (by kernel_rfl) (by kernel_rfl) (by kernel_rfl) (fun _ _ _ h => h) (Or.inl ⟨by kernel_rfl, ?_⟩) (by first | assumption | trivial) ?_
              rotate_left
              · intro w hSw
                try dsimp only at hSw
                first | (go_simp; done) | (go_simp; with_reducible rfl)
              try simp only [Act.put, List.getElem_toArray, List.getElem_cons_succ, List.getElem_cons_zero, List.setIfInBounds_toArray, List.set_cons_zero, List.set_cons_succ]
              refine wpAnyH_ready (rs := [3]) (by kernel_rfl) (by simp) ?_
              refine AllReadyH.cons rfl (fun K hK => ?_) AllReadyH.nil
              refine step_que rfl (.tmp 117) (.tmp 118) rfl rfl rfl Qu44.out.1 HOD.out (by rw [List.length_map]; exact (stg_len HST2.out).2.2.2.2.1) nl HNL.out ?_
              intro ao7 b7 off7 c7 w10 hq hb7 hch
              have HB7 := Lib.hid hb7
              have HLD : Hid (gA < WD.heap.size ∧ gB < WD.heap.size ∧ gI < WD.heap.size) := Lib.hid ⟨Ha44.out.lt, Hb44.out.lt, Hi44.out.lt⟩
              have HNE : Hid (bq ≠ gA ∧ bq ≠ gB ∧ bq ≠ gI ∧ bq ≠ gc) := Lib.hid ⟨HBQ.out.2.1, HBQ.out.2.2.1, HBQ.out.2.2.2, by have h1 := HGM2.out.2.2; omega⟩
              have Ha45 := Lib.hid (Ha44.out.chg hch (Ne.symm HNE.out.1))
              have Hb45 := Lib.hid (Hb44.out.chg hch (Ne.symm HNE.out.2.1))
              have Hi45 := Lib.hid (Hi44.out.chg hch (Ne.symm HNE.out.2.2.1))
              have Hc45 := Lib.hid (Hc44.out.chg hch (Ne.symm HNE.out.2.2.2))
              have HX7 : Hid (∀ x, ((NotIn [gA, gB, gI, bq]) x ∧ x < WD.heap.size) → (NotIn [gA, gB, gI, b7]) x) := Lib.hid (fun x h => notIn4 (notIn43 h.1) (by
                rcases HB7.out with e | e
                · intro hx; exact h.1 (by simp [hx, e])
                · have := h.2; omega))
              have Qa45 := Lib.hid ((Qa44.out.lt.chg hch (fun h => h.1 (by simp))).imp HX7.out)
              have Qb45 := Lib.hid ((Qb44.out.lt.chg hch (fun h => h.1 (by simp))).imp HX7.out)
              have Qu45 : Hid (QU (NotIn [gA, gB, gI]) w10 ao7 b7 off7 nl c7 (out9.map sdX)) := Lib.hid ⟨hq, fun g hg => by
                rcases HB7.out with e | e
                · rw [e]; exact Qu44.out.2 g hg
                · intro h; exact hg (by rw [← h]; exact notIn_ge HLD.out.1 HLD.out.2.1 HLD.out.2.2 e)⟩
              have HBG7 : Hid (w.heap.size ≤ b7) := Lib.hid (by
                rcases HB7.out with e | e
                · rw [e]; exact HBG.out
                · exact Nat.le_trans HZ44.out e)
              have HB45 := Lib.hid (HB44.out.trans (hch.below HBG.out HB44.out.size))
              have HZ45 : Hid (w.heap.size ≤ w10.heap.size) := Lib.hid HB45.out.size
              clear hq hb7 hch HOD hS0 HX7 Ha44 Hb44 Hi44 Hc44 Qb44 Qu44 Qa44 HB44 HZ44
              refine hK.out _ _ ⟨Hc45.out.cell 0, Hc45.out.cell 1, Hc45.out.cell 2, Hc45.out.cell 3⟩ (fun hS0 => ?_)
              clear hK K
              try simp only [Act.put, List.getElem_toArray, List.getElem_cons_succ, List.getElem_cons_zero, List.setIfInBounds_toArray, List.set_cons_zero, List.set_cons_succ]
              refine wpAnyH_ready (rs := [4]) (by kernel_rfl) (by simp) ?_
              refine AllReadyH.cons rfl (fun K hK => ?_) AllReadyH.nil
              have z0 : w10.cell? ⟨gA, 0, none⟩ = some (.int .i64 da.me) := Ha45.out.cell 0
              have z1 : w10.cell? ⟨gA, 1, none⟩ = some (.slice p1 da.xs.length c1) := Ha45.out.cell 1
              have z2 : w10.cell? ⟨gA, 2, none⟩ = some (.slice q1 da.os.length e1) := Ha45.out.cell 2
              have z3 : w10.cell? ⟨gA, 3, none⟩ = some (.int .i64 da.far) := Ha45.out.cell 3
              have f0 := Ha45.out.free 0
              have f1 := Ha45.out.free 1
              have f2 := Ha45.out.free 2
              have f3 := Ha45.out.free 3
              go_simp
              clear z0 f0 z1 f1 z2 f2 z3 f3
              have hch : Hid (Chg gA w10 ((((w10.setCell ⟨gA, 0, none⟩ (.int .i64 d9.me)).setCell ⟨gA, 1, none⟩ (.slice p5 d9.xs.length c5)).setCell ⟨gA, 2, none⟩ (.slice q5 d9.os.length e5)).setCell ⟨gA, 3, none⟩ (.int .i64 d9.far))) := Lib.hid (((((Chg.refl gA w10).set 0 (.int .i64 d9.me)).set 1 (.slice p5 d9.xs.length c5)).set 2 (.slice q5 d9.os.length e5)).set 3 (.int .i64 d9.far))
              have Ha46 : Hid (Blk ((((w10.setCell ⟨gA, 0, none⟩ (.int .i64 d9.me)).setCell ⟨gA, 1, none⟩ (.slice p5 d9.xs.length c5)).setCell ⟨gA, 2, none⟩ (.slice q5 d9.os.length e5)).setCell ⟨gA, 3, none⟩ (.int .i64 d9.far)) gA #[.int .i64 d9.me, .slice p5 d9.xs.length c5, .slice q5 d9.os.length e5, .int .i64 d9.far] 29) := Lib.hid ((((Ha45.out.set 0 (.int .i64 d9.me)).set 1 (.slice p5 d9.xs.length c5)).set 2 (.slice q5 d9.os.length e5)).set 3 (.int .i64 d9.far))
              have HB46 : Hid (Below w.heap.size w ((((w10.setCell ⟨gA, 0, none⟩ (.int .i64 d9.me)).setCell ⟨gA, 1, none⟩ (.slice p5 d9.xs.length c5)).setCell ⟨gA, 2, none⟩ (.slice q5 d9.os.length e5)).setCell ⟨gA, 3, none⟩ (.int .i64 d9.far))) := Lib.hid ((((HB45.out.setCell (p := ⟨gA, 0, none⟩) (by show w.heap.size ≤ gA; have := HGE.out; have := HGM2.out; have := HBQ.out; omega) (.int .i64 d9.me)).setCell (p := ⟨gA, 1, none⟩) (by show w.heap.size ≤ gA; have := HGE.out; have := HGM2.out; have := HBQ.out; omega) (.slice p5 d9.xs.length c5)).setCell (p := ⟨gA, 2, none⟩) (by show w.heap.size ≤ gA; have := HGE.out; have := HGM2.out; have := HBQ.out; omega) (.slice q5 d9.os.length e5)).setCell (p := ⟨gA, 3, none⟩) (by show w.heap.size ≤ gA; have := HGE.out; have := HGM2.out; have := HBQ.out; omega) (.int .i64 d9.far))
              have HZ46 : Hid (w.heap.size ≤ ((((w10.setCell ⟨gA, 0, none⟩ (.int .i64 d9.me)).setCell ⟨gA, 1, none⟩ (.slice p5 d9.xs.length c5)).setCell ⟨gA, 2, none⟩ (.slice q5 d9.os.length e5)).setCell ⟨gA, 3, none⟩ (.int .i64 d9.far)).heap.size) := Lib.hid (Nat.le_trans HZ45.out hch.out.size)
              have Hb46 := Lib.hid (Hb45.out.chg hch.out (by have := HGE.out; have := HGM2.out; have := HBQ.out; omega))
              have Hi46 := Lib.hid (Hi45.out.chg hch.out (by have := HGE.out; have := HGM2.out; have := HBQ.out; omega))
              have Hc46 := Lib.hid (Hc45.out.chg hch.out (by have := HGE.out; have := HGM2.out; have := HBQ.out; omega))
              have Qb46 := Lib.hid (Qb45.out.chg hch.out (notIn_self (by simp)))
              have Qu46 := Lib.hid (Qu45.out.chg hch.out (notIn_self (by simp)))
              have Qa46 := Lib.hid (Qa45.out.chg hch.out (notIn_self (by simp)))
              clear hch hS0 Ha45 Hb45 Hi45 Hc45 Qb45 Qu45 Qa45 HB45 HZ45
              generalize ((((w10.setCell ⟨gA, 0, none⟩ (.int .i64 d9.me)).setCell ⟨gA, 1, none⟩ (.slice p5 d9.xs.length c5)).setCell ⟨gA, 2, none⟩ (.slice q5 d9.os.length e5)).setCell ⟨gA, 3, none⟩ (.int .i64 d9.far)) = W11 at *
              refine hK.out _ _ ⟨Hc46.out.cell 0, Hc46.out.cell 1, Hc46.out.cell 2, Hc46.out.cell 3⟩ (fun hS0 => ?_)
              clear hK K
              try simp only [Act.put, List.getElem_toArray, List.getElem_cons_succ, List.getElem_cons_zero, List.setIfInBounds_toArray, List.set_cons_zero, List.set_cons_succ]
              refine wpAnyH_take (i := 5) (v := ?_) rfl (by kernel_rfl) (by kernel_rfl) (by kernel_rfl) (fun _ _ _ h => h) (Or.inl ⟨by kernel_rfl, ?_⟩) (by first | assumption | trivial) ?_
              rotate_left
              · intro w hSw
                try dsimp only at hSw
                first | (go_simp; done) | (go_simp; with_reducible rfl)
              try simp only [Act.put, List.getElem_toArray, List.getElem_cons_succ, List.getElem_cons_zero, List.setIfInBounds_toArray, List.set_cons_zero, List.set_cons_succ]
              refine wpAnyH_done (by kernel_rfl) ?_ _
              clear hS0
              have HNX : Hid (ER w far ex gA gB gI k9 (.slice ao7 nl c7) W11) := Lib.hid ⟨d9, db, p5, c5, q5, e5, p2, c2, q2, e2, ao7, b7, off7, nl, c7, out9, rfl, HST2.out, Ha46.out, Hb46.out, Hi46.out, Qa46.out, Qb46.out, Qu46.out, HB46.out, HBG7.out⟩
              clear Ha46 Hb46 Hi46 Hc46 Qb46 Qu46 Qa46 HB46 HZ46
              go_wp2_with fail
              go_roundw
              case rel => exact Lib.hid ⟨k9, HNX.out⟩
              case measure => first | exact Nat.lt_of_le_of_lt (mu_le HNX.out) (HMK.out k9 HK9.out)
          | nil =>
            obtain ⟨xx, hxx, hda, hdb⟩ := stg_nil HST.out
            obtain rfl : n1 = 0 := HQ0.out.1.len
            have HXX := Lib.hid hxx
            have HDA := Lib.hid hda
            have HDB := Lib.hid hdb
            have HFA : Hid (findX da.xs 0 1 = some xx) := Lib.hid (by rw [hda]; exact find1 hxx.1)
            have HFB : Hid (findX db.xs 0 1 = some xx) := Lib.hid (by rw [hdb]; exact find1 hxx.1)
            clear hxx hda hdb HQ0 HMJ HBG
            go_upto_region 25 with fail
            have HG := Lib.hid (dget_any wr da.me p1 q1 da.xs.length c1 da.os.length e1 0 1 da.xs Qa40.out.row.items rfl Qa40.out.row.sx (by have := Qa40.out.row.nx; omega))
            rw [HFA.out] at HG
            unfold bookV idV at HG
            simp only [Option.getD_some, Option.isSome_some] at HG
            unfold Itm.v at HG
            have a0 : wr.cell? ⟨gA, 0, none⟩ = some (.int .i64 da.me) := Ha40.out.cell 0
            have a1 : wr.cell? ⟨gA, 1, none⟩ = some (.slice p1 da.xs.length c1) := Ha40.out.cell 1
            have a2 : wr.cell? ⟨gA, 2, none⟩ = some (.slice q1 da.os.length e1) := Ha40.out.cell 2
            have i0 : wr.cell? ⟨gI, 0, none⟩ = some (.int .i64 0) := Hi40.out.cell 0
            have i1 : wr.cell? ⟨gI, 1, none⟩ = some (.int .i64 1) := Hi40.out.cell 1
            go_wp2_with fail
            clear a0 a1 a2 i0 i1
            refine HG.out.mono ?_
            rintro y9 w5 ⟨rfl, hb⟩
            clear HG
            have Ha41 := Lib.hid (Ha40.out.below hb Ha40.out.lt)
            have Hb41 := Lib.hid (Hb40.out.below hb Hb40.out.lt)
            have Hi41 := Lib.hid (Hi40.out.below hb Hi40.out.lt)
            have Qa41 := Lib.hid (Qa40.out.kept hb)
            have Qb41 := Lib.hid (Qb40.out.kept hb)
            have HB41 := Lib.hid (HB40.out.trans (hb.mono HB40.out.size))
            have HZ41 : Hid (w.heap.size ≤ w5.heap.size) := Lib.hid (Nat.le_trans HZ40.out hb.size)
            clear Ha40 Hb40 Hi40 Qa40 Qb40 HB40 HZ40
            clear hb
            have HGLx : Hid (gI < w5.heap.size) := Lib.hid Hi41.out.lt
            have hba := oneB w5 (.cells #[.int .i64 xx.s, .int .i64 xx.n, .int .i64 xx.b, .int .i64 xx.c, .int .i64 xx.a, .int .i64 xx.r, .int .i64 xx.t, .int .i64 xx.y] 64)
            have Ha42 := Lib.hid (Ha41.out.below hba Ha41.out.lt)
            have Hb42 := Lib.hid (Hb41.out.below hba Hb41.out.lt)
            have Hi42 := Lib.hid (Hi41.out.below hba Hi41.out.lt)
            have Qa42 := Lib.hid (Qa41.out.kept hba)
            have Qb42 := Lib.hid (Qb41.out.kept hba)
            have Hx42 := Lib.hid (Blk.new w5 #[.int .i64 xx.s, .int .i64 xx.n, .int .i64 xx.b, .int .i64 xx.c, .int .i64 xx.a, .int .i64 xx.r, .int .i64 xx.t, .int .i64 xx.y] 64)
            have HB42 := Lib.hid (HB41.out.alloc HB41.out.size (.cells #[.int .i64 xx.s, .int .i64 xx.n, .int .i64 xx.b, .int .i64 xx.c, .int .i64 xx.a, .int .i64 xx.r, .int .i64 xx.t, .int .i64 xx.y] 64))
            have HZ42 : Hid (w.heap.size ≤ (w5.alloc (.cells #[.int .i64 xx.s, .int .i64 xx.n, .int .i64 xx.b, .int .i64 xx.c, .int .i64 xx.a, .int .i64 xx.r, .int .i64 xx.t, .int .i64 xx.y] 64)).heap.size) := Lib.hid (Nat.le_trans HZ41.out hba.size)
            have HGgx : Hid (w.heap.size ≤ w5.heap.size) := Lib.hid HB41.out.size
            clear hba Ha41 Hb41 Hi41 Qa41 Qb41 HB41 HZ41
            go_upto_region 26 with fail
            generalize (w5.alloc (.cells #[.int .i64 xx.s, .int .i64 xx.n, .int .i64 xx.b, .int .i64 xx.c, .int .i64 xx.a, .int .i64 xx.r, .int .i64 xx.t, .int .i64 xx.y] 64)) = W6 at *
            generalize hggx : w5.heap.size = gx at *
            clear hggx
            have HG := Lib.hid (dget_any W6 db.me p2 q2 db.xs.length c2 db.os.length e2 0 1 db.xs Qb42.out.row.items rfl Qb42.out.row.sx (by have := Qb42.out.row.nx; omega))
            rw [HFB.out] at HG
            unfold bookV idV at HG
            simp only [Option.getD_some, Option.isSome_some] at HG
            unfold Itm.v at HG
            have a0 : W6.cell? ⟨gB, 0, none⟩ = some (.int .i64 db.me) := Hb42.out.cell 0
            have a1 : W6.cell? ⟨gB, 1, none⟩ = some (.slice p2 db.xs.length c2) := Hb42.out.cell 1
            have a2 : W6.cell? ⟨gB, 2, none⟩ = some (.slice q2 db.os.length e2) := Hb42.out.cell 2
            have i0 : W6.cell? ⟨gI, 0, none⟩ = some (.int .i64 0) := Hi42.out.cell 0
            have i1 : W6.cell? ⟨gI, 1, none⟩ = some (.int .i64 1) := Hi42.out.cell 1
            go_wp2_with fail
            clear a0 a1 a2 i0 i1
            refine HG.out.mono ?_
            rintro y9 w7 ⟨rfl, hb⟩
            clear HG
            have Ha43 := Lib.hid (Ha42.out.below hb Ha42.out.lt)
            have Hb43 := Lib.hid (Hb42.out.below hb Hb42.out.lt)
            have Hi43 := Lib.hid (Hi42.out.below hb Hi42.out.lt)
            have Hx43 := Lib.hid (Hx42.out.below hb Hx42.out.lt)
            have Qa43 := Lib.hid (Qa42.out.kept hb)
            have Qb43 := Lib.hid (Qb42.out.kept hb)
            have HB43 := Lib.hid (HB42.out.trans (hb.mono HB42.out.size))
            have HZ43 : Hid (w.heap.size ≤ w7.heap.size) := Lib.hid (Nat.le_trans HZ42.out hb.size)
            clear Ha42 Hb42 Hi42 Hx42 Qa42 Qb42 HB42 HZ42
            clear hb
            have HGLy : Hid (gI < w7.heap.size) := Lib.hid Hi43.out.lt
            have hba := oneB w7 (.cells #[.int .i64 xx.s, .int .i64 xx.n, .int .i64 xx.b, .int .i64 xx.c, .int .i64 xx.a, .int .i64 xx.r, .int .i64 xx.t, .int .i64 xx.y] 64)
            have Ha44 := Lib.hid (Ha43.out.below hba Ha43.out.lt)
            have Hb44 := Lib.hid (Hb43.out.below hba Hb43.out.lt)
            have Hi44 := Lib.hid (Hi43.out.below hba Hi43.out.lt)
            have Hx44 := Lib.hid (Hx43.out.below hba Hx43.out.lt)
            have Qa44 := Lib.hid (Qa43.out.kept hba)
            have Qb44 := Lib.hid (Qb43.out.kept hba)
            have Hy44 := Lib.hid (Blk.new w7 #[.int .i64 xx.s, .int .i64 xx.n, .int .i64 xx.b, .int .i64 xx.c, .int .i64 xx.a, .int .i64 xx.r, .int .i64 xx.t, .int .i64 xx.y] 64)
            have HB44 := Lib.hid (HB43.out.alloc HB43.out.size (.cells #[.int .i64 xx.s, .int .i64 xx.n, .int .i64 xx.b, .int .i64 xx.c, .int .i64 xx.a, .int .i64 xx.r, .int .i64 xx.t, .int .i64 xx.y] 64))
            have HZ44 : Hid (w.heap.size ≤ (w7.alloc (.cells #[.int .i64 xx.s, .int .i64 xx.n, .int .i64 xx.b, .int .i64 xx.c, .int .i64 xx.a, .int .i64 xx.r, .int .i64 xx.t, .int .i64 xx.y] 64)).heap.size) := Lib.hid (Nat.le_trans HZ43.out hba.size)
            have HGgy : Hid (w.heap.size ≤ w7.heap.size) := Lib.hid HB43.out.size
            clear hba Ha43 Hb43 Hi43 Hx43 Qa43 Qb43 HB43 HZ43
            go_upto_region 27 with fail
            generalize (w7.alloc (.cells #[.int .i64 xx.s, .int .i64 xx.n, .int .i64 xx.b, .int .i64 xx.c, .int .i64 xx.a, .int .i64 xx.r, .int .i64 xx.t, .int .i64 xx.y] 64)) = W8 at *
            generalize hggy : w7.heap.size = gy at *
            clear hggy
            have hr3 : ¬ (3 : Int) < xx.r := by have := (chk_ok HXX.out.1.2.2.2.2).2.1.2.2.2.1; omega
            have keq := fun (w : World) => item_eq xx xx w
            rw [itmEq_iff.2 rfl] at keq
            have HT4 : Hid (xx.t = 2 ∧ xx.r < 3 ∨ (xx.t = 3 ∨ xx.t = 4)) := Lib.hid (by rcases HXX.out.2 with h | h | h; exact .inr (.inl h); exact .inr (.inr h); exact .inl h)
            have ht1 : (xx.t == 1) = false := by have := HT4.out; simp; omega
            have HWT := Lib.hid (mwaits_any 0 xx W8)
            have HW0 : Hid (xx.s = 0) := Lib.hid HXX.out.1.1
            rcases HT4.out with ht | ht
            · skip
              have HT2 := Lib.hid ht.1
              have hr4 : (xx.r == 3) = false := by have := ht.2; simp; omega
              have ht2 : (xx.t == 2) = true := by simpa using ht.1
              have ht3 : (xx.t != 2) = false := by simpa using ht.1
              have hwv : (xx.s == 0 && xx.t == 2) = true := by rw [HW0.out, HT2.out]; rfl
              clear ht
              rw [hwv] at HWT
              unfold Itm.v at HWT
              clear hwv
              have x0 : W8.cell? ⟨gx, 0, none⟩ = some (.int .i64 xx.s) := Hx44.out.cell 0
              have x1 : W8.cell? ⟨gx, 1, none⟩ = some (.int .i64 xx.n) := Hx44.out.cell 1
              have x2 : W8.cell? ⟨gx, 2, none⟩ = some (.int .i64 xx.b) := Hx44.out.cell 2
              have x3 : W8.cell? ⟨gx, 3, none⟩ = some (.int .i64 xx.c) := Hx44.out.cell 3
              have x4 : W8.cell? ⟨gx, 4, none⟩ = some (.int .i64 xx.a) := Hx44.out.cell 4
              have x5 : W8.cell? ⟨gx, 5, none⟩ = some (.int .i64 xx.r) := Hx44.out.cell 5
              have x6 : W8.cell? ⟨gx, 6, none⟩ = some (.int .i64 xx.t) := Hx44.out.cell 6
              have x7 : W8.cell? ⟨gx, 7, none⟩ = some (.int .i64 xx.y) := Hx44.out.cell 7
              have y0 : W8.cell? ⟨gy, 0, none⟩ = some (.int .i64 xx.s) := Hy44.out.cell 0
              have y1 : W8.cell? ⟨gy, 1, none⟩ = some (.int .i64 xx.n) := Hy44.out.cell 1
              have y2 : W8.cell? ⟨gy, 2, none⟩ = some (.int .i64 xx.b) := Hy44.out.cell 2
              have y3 : W8.cell? ⟨gy, 3, none⟩ = some (.int .i64 xx.c) := Hy44.out.cell 3
              have y4 : W8.cell? ⟨gy, 4, none⟩ = some (.int .i64 xx.a) := Hy44.out.cell 4
              have y5 : W8.cell? ⟨gy, 5, none⟩ = some (.int .i64 xx.r) := Hy44.out.cell 5
              have y6 : W8.cell? ⟨gy, 6, none⟩ = some (.int .i64 xx.t) := Hy44.out.cell 6
              have y7 : W8.cell? ⟨gy, 7, none⟩ = some (.int .i64 xx.y) := Hy44.out.cell 7
              go_wp2_with fail
              clear x0 x1 x2 x3 x4 x5 x6 x7 y0 y1 y2 y3 y4 y5 y6 y7 keq hr3 ht1
              refine HWT.out.mono ?_
              rintro y9 w9 ⟨rfl, hb⟩
              clear HWT
              have Ha45 := Lib.hid (Ha44.out.below hb Ha44.out.lt)
              have Hb45 := Lib.hid (Hb44.out.below hb Hb44.out.lt)
              have Hi45 := Lib.hid (Hi44.out.below hb Hi44.out.lt)
              have Hx45 := Lib.hid (Hx44.out.below hb Hx44.out.lt)
              have Hy45 := Lib.hid (Hy44.out.below hb Hy44.out.lt)
              have Qa45 := Lib.hid (Qa44.out.kept hb)
              have Qb45 := Lib.hid (Qb44.out.kept hb)
              have HB45 := Lib.hid (HB44.out.trans (hb.mono HB44.out.size))
              have HZ45 : Hid (w.heap.size ≤ w9.heap.size) := Lib.hid (Nat.le_trans HZ44.out hb.size)
              clear Ha44 Hb44 Hi44 Hx44 Hy44 Qa44 Qb44 HB44 HZ44
              clear hb
              have HNX : Hid (∃ (da db : Dsk) (p1 : Option Addr) (c1 : Nat) (q1 : Option Addr) (e1 : Nat) (p2 : Option Addr) (c2 : Nat) (q2 : Option Addr) (e2 : Nat), Sta far ex 3 da db ∧ Blk w9 gA #[.int .i64 da.me, .slice p1 da.xs.length c1, .slice q1 da.os.length e1, .int .i64 da.far] 29 ∧ Blk w9 gB #[.int .i64 db.me, .slice p2 db.xs.length c2, .slice q2 db.os.length e2, .int .i64 db.far] 29 ∧ Blk w9 gI #[.int .i64 0, .int .i64 1] 36 ∧ DkR (NotIn [gA, gB, gI]) w9 da p1 c1 q1 e1 ∧ DkR (NotIn [gA, gB, gI]) w9 db p2 c2 q2 e2 ∧ Below w.heap.size w w9) := Lib.hid ⟨da, db, p1, c1, q1, e1, p2, c2, q2, e2, (by rw [HDA.out, HDB.out]; exact .has xx HXX.out), Ha45.out, Hb45.out, Hi45.out, Qa45.out.imp (fun x h => notIn43 h), Qb45.out.imp (fun x h => notIn43 h), HB45.out⟩
              have x6 : w9.cell? ⟨gx, 6, none⟩ = some (.int .i64 xx.t) := Hx45.out.cell 6
              clear Ha45 Hb45 Hi45 Hx45 Hy45 Qa45 Qb45 HB45 HZ45
              go_wp2_with fail
              clear x6
              go_roundw
              case rel => exact ⟨k + 1, by have := HLT.out; omega, by go_num, 3, rfl, HNX⟩
              case measure => have := HLT.out; simp [intOf]; omega
            · skip
              have hr4 : (0 : Int) = 0 := rfl
              have ht2 : (xx.t == 2) = false := by simp; omega
              have ht3 : (xx.t != 2) = true := by simp; omega
              have hwv : (xx.s == 0 && xx.t == 2) = false := by rw [ht2, Bool.and_false]
              clear ht
              rw [hwv] at HWT
              unfold Itm.v at HWT
              clear hwv
              have x0 : W8.cell? ⟨gx, 0, none⟩ = some (.int .i64 xx.s) := Hx44.out.cell 0
              have x1 : W8.cell? ⟨gx, 1, none⟩ = some (.int .i64 xx.n) := Hx44.out.cell 1
              have x2 : W8.cell? ⟨gx, 2, none⟩ = some (.int .i64 xx.b) := Hx44.out.cell 2
              have x3 : W8.cell? ⟨gx, 3, none⟩ = some (.int .i64 xx.c) := Hx44.out.cell 3
              have x4 : W8.cell? ⟨gx, 4, none⟩ = some (.int .i64 xx.a) := Hx44.out.cell 4
              have x5 : W8.cell? ⟨gx, 5, none⟩ = some (.int .i64 xx.r) := Hx44.out.cell 5
              have x6 : W8.cell? ⟨gx, 6, none⟩ = some (.int .i64 xx.t) := Hx44.out.cell 6
              have x7 : W8.cell? ⟨gx, 7, none⟩ = some (.int .i64 xx.y) := Hx44.out.cell 7
              have y0 : W8.cell? ⟨gy, 0, none⟩ = some (.int .i64 xx.s) := Hy44.out.cell 0
              have y1 : W8.cell? ⟨gy, 1, none⟩ = some (.int .i64 xx.n) := Hy44.out.cell 1
              have y2 : W8.cell? ⟨gy, 2, none⟩ = some (.int .i64 xx.b) := Hy44.out.cell 2
              have y3 : W8.cell? ⟨gy, 3, none⟩ = some (.int .i64 xx.c) := Hy44.out.cell 3
              have y4 : W8.cell? ⟨gy, 4, none⟩ = some (.int .i64 xx.a) := Hy44.out.cell 4
              have y5 : W8.cell? ⟨gy, 5, none⟩ = some (.int .i64 xx.r) := Hy44.out.cell 5
              have y6 : W8.cell? ⟨gy, 6, none⟩ = some (.int .i64 xx.t) := Hy44.out.cell 6
              have y7 : W8.cell? ⟨gy, 7, none⟩ = some (.int .i64 xx.y) := Hy44.out.cell 7
              go_wp2_with fail
              clear x0 x1 x2 x3 x4 x5 x6 x7 y0 y1 y2 y3 y4 y5 y6 y7 keq hr3 ht1
              refine HWT.out.mono ?_
              rintro y9 w9 ⟨rfl, hb⟩
              clear HWT
              have Ha45 := Lib.hid (Ha44.out.below hb Ha44.out.lt)
              have Hb45 := Lib.hid (Hb44.out.below hb Hb44.out.lt)
              have Hi45 := Lib.hid (Hi44.out.below hb Hi44.out.lt)
              have Hx45 := Lib.hid (Hx44.out.below hb Hx44.out.lt)
              have Hy45 := Lib.hid (Hy44.out.below hb Hy44.out.lt)
              have Qa45 := Lib.hid (Qa44.out.kept hb)
              have Qb45 := Lib.hid (Qb44.out.kept hb)
              have HB45 := Lib.hid (HB44.out.trans (hb.mono HB44.out.size))
              have HZ45 : Hid (w.heap.size ≤ w9.heap.size) := Lib.hid (Nat.le_trans HZ44.out hb.size)
              clear Ha44 Hb44 Hi44 Hx44 Hy44 Qa44 Qb44 HB44 HZ44
              clear hb
              have HNX : Hid (∃ (da db : Dsk) (p1 : Option Addr) (c1 : Nat) (q1 : Option Addr) (e1 : Nat) (p2 : Option Addr) (c2 : Nat) (q2 : Option Addr) (e2 : Nat), Sta far ex 3 da db ∧ Blk w9 gA #[.int .i64 da.me, .slice p1 da.xs.length c1, .slice q1 da.os.length e1, .int .i64 da.far] 29 ∧ Blk w9 gB #[.int .i64 db.me, .slice p2 db.xs.length c2, .slice q2 db.os.length e2, .int .i64 db.far] 29 ∧ Blk w9 gI #[.int .i64 0, .int .i64 1] 36 ∧ DkR (NotIn [gA, gB, gI]) w9 da p1 c1 q1 e1 ∧ DkR (NotIn [gA, gB, gI]) w9 db p2 c2 q2 e2 ∧ Below w.heap.size w w9) := Lib.hid ⟨da, db, p1, c1, q1, e1, p2, c2, q2, e2, (by rw [HDA.out, HDB.out]; exact .has xx HXX.out), Ha45.out, Hb45.out, Hi45.out, Qa45.out.imp (fun x h => notIn43 h), Qb45.out.imp (fun x h => notIn43 h), HB45.out⟩
              have x6 : w9.cell? ⟨gx, 6, none⟩ = some (.int .i64 xx.t) := Hx45.out.cell 6
              clear Ha45 Hb45 Hi45 Hx45 Hy45 Qa45 Qb45 HB45 HZ45
              go_wp2_with fail
              clear x6
              go_roundw
              case rel => exact ⟨k + 1, by have := HLT.out; omega, by go_num, 3, rfl, HNX⟩
              case measure => have := HLT.out; simp [intOf]; omega
      · skip
        have he1 : (e3 != 0) = true := by simpa using he0
        have HNX : Hid (∃ (da db : Dsk) (p1 : Option Addr) (c1 : Nat) (q1 : Option Addr) (e1 : Nat) (p2 : Option Addr) (c2 : Nat) (q2 : Option Addr) (e2 : Nat), Sta far ex kd da db ∧ Blk W5 gA #[.int .i64 da.me, .slice p1 da.xs.length c1, .slice q1 da.os.length e1, .int .i64 da.far] 29 ∧ Blk W5 gB #[.int .i64 db.me, .slice p2 db.xs.length c2, .slice q2 db.os.length e2, .int .i64 db.far] 29 ∧ Blk W5 gI #[.int .i64 0, .int .i64 1] 36 ∧ DkR (NotIn [gA, gB, gI]) W5 da p1 c1 q1 e1 ∧ DkR (NotIn [gA, gB, gI]) W5 db p2 c2 q2 e2 ∧ Below w.heap.size w W5) := Lib.hid ⟨da, db, p1, c1, q1, e1, p2, c2, q2, e2, HSTA.out, Ha22.out, Hb22.out, Hi22.out, Qa22.out, Qb22.out, HB22.out⟩
        clear Ha22 Hb22 Hi22 Hn22 Qa22 Qb22 HB22 HZ22 HKN HOW HKN2 HOW2
        go_wp2_with fail
        go_roundw
        case rel => exact ⟨k + 1, by have := HLT.out; omega, by go_num, kd, rfl, HNX⟩
        case measure => have := HLT.out; simp [intOf]; omega
    · have hltI : ¬ (k : Int) < (n : Int) := by omega
      clear hk0 hk1 hk2 hk3 hk4 hk5 hk8
      go_wp2_with fail
      go_ret
      exact ⟨rfl, HB20.out⟩
theorem ends_all (far ex : Int) (v : Value) (ns : List Int) (w : World) (hfr : -9223372036854775808 ≤ far ∧ far ≤ 9223372036854775807) (hex : -9223372036854775808 ≤ ex ∧ ex ≤ 9223372036854775807) (_ : All64 ns) (hx : Row .i64 w v ns) :
    Calls Try.prog 5 #[.int .i64 far, .int .i64 ex, v] w fun e w' => e = .returned (.bool true) ∧ Below w.heap.size w w' := by
  obtain ⟨p, c, rfl⟩ := hx.shape
  exact ends_walk far ex p _ c ns w hfr hex hx
end Go.Proofs.Ytbpfbebebppleaa
