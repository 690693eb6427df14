/- A desk: its items and orders in the order of their names; Get and Expected over them. match.Desk's sold, between by contract. Put over a desk's items: it is in. match.Desk's follows, expects by contract. -/
import Derived.Test.YtbpfbebebppleaaInfoI8
import Derived.Test.YtbpfbebebppleaaGet
import Derived.Test.YtbpfbebebppleaaBookGet
import Derived.Test.YtbpfbebebppleaaBookPut
import Derived.Test.YtbpfbebebppleaaPutOk
import Derived.Test.YtbpfbebebppleaaMsgItem
import Derived.Test.YtbpfbebebppleaaItem4A
import Derived.Deep.CutRange
import Derived.Deep.CutBlock
import Derived.Test.YtbpfbebebppleaaInsX
import Derived.Test.YtbpfbebebppleaaApTg
import Derived.Test.YtbpfbebebppleaaNear
namespace Go.Proofs.Ytbpfbebebppleaa
open Go.RowKit
def findO (os : List Ord) (s n : Int) : Option Ord := os.find? (fun x => decide (x.s = s ∧ x.n = n))
theorem findO_around {xs A mid B : List Ord} {s n : Int} (h : AroundF posO ⟨s, n, 0⟩ xs A mid B) : findO xs s n = mid.head? := find_around h
def SortO (os : List Ord) : Prop := SortedP (os.map posO)
theorem dexpected_any (w : World) (me : Int) (pi po : Option Addr) (ni ci no co : Nat) (s n : Int) (os : List Ord) (hr : TRow encO w (.slice po no co) os) (hl : os.length = no) (hs : SortO os) (hn : no ≤ 2000) :
    Calls Try.prog 24 #[bookV me (.slice pi ni ci) (.slice po no co), idV s n] w fun e w' => e = .returned (.tuple #[.int .i64 ((findO os s n).map Ord.a |>.getD 0), .bool (findO os s n).isSome]) ∧ Below w.heap.size w w' := by
  obtain ⟨A, mid, B, hA⟩ := aroundF_of_sorted posO ⟨s, n, 0⟩ os hs
  rw [findO_around hA]
  rcases hA.mid1 with rfl | ⟨q, rfl, _⟩
  · exact expected_none w me pi po ni ci no co s n os A B hr hl hA hn
  · exact expected_found w me pi po ni ci no co s n os A B q hr hl hA hn
/-- A desk by value. -/
def deskV (me : Int) (pi : Option Addr) (ni ci : Nat) (po : Option Addr) (no co : Nat) (far : Int) : Value := .agg #[.int .i64 me, .slice pi ni ci, .slice po no co, .int .i64 far]
/-- A desk's model. -/
structure Dsk where
  me : Int
  far : Int
  xs : List Itm
  os : List Ord
structure DRow (w : World) (d : Dsk) (pi : Option Addr) (ci : Nat) (po : Option Addr) (co : Nat) : Prop where
  items : TRow encI w (.slice pi d.xs.length ci) d.xs
  orders : TRow encO w (.slice po d.os.length co) d.os
  sx : SortX d.xs
  so : SortO d.os
  nx : d.xs.length ≤ 1024
  no : d.os.length ≤ 1024
theorem DRow.kept {w w' : World} {d : Dsk} {pi : Option Addr} {ci : Nat} {po : Option Addr} {co : Nat} (h : DRow w d pi ci po co) (hb : Below w.heap.size w w') : DRow w' d pi ci po co := ⟨h.items.kept hb, h.orders.kept hb, h.sx, h.so, h.nx, h.no⟩
end Go.Proofs.Ytbpfbebebppleaa
namespace Go.Proofs.Ytbpfbebebppleaa
open Go.RowKit
set_option linter.unusedSimpArgs false
theorem chgI_put (g : Nat) (B : Nat) (hB : B ≤ g) : ∀ (vs : List Value) (o : Nat) (W w : World), Below B W w → Below B W (w.setCells g o vs) := fun vs o W w h => below_put hB vs o W w h
/-- The item of a name, if the desk is its seller. -/
def soldA (d : Dsk) (s n : Int) : Itm × Int :=
  match findX d.xs s n with
  | none => (itm0, 4)
  | some q => if q.s = d.me then (q, 0) else (q, 140)
/-- The item of a name, if these are its seller and its buyer, and it is in that round. -/
def betwA (d : Dsk) (s n r se bu : Int) : Itm × Int :=
  match findX d.xs s n with
  | none => (itm0, 4)
  | some q => if q.s ≠ se ∨ q.b ≠ bu then (q, 140) else if q.r ≠ r then (q, 90) else (q, 0)
set_option linter.unusedSimpArgs false in
set_option maxHeartbeats 4000000 in
set_option maxRecDepth 100000 in
theorem sold_any (w : World) (d : Dsk) (pi po : Option Addr) (ci co : Nat) (m : Msg) (vl vn : Value) (h : DRow w d pi ci po co) : Calls Try.prog 55 #[(deskV d.me pi d.xs.length ci po d.os.length co d.far), m.v vl vn] w fun e w' => e = ansI (soldA d m.s m.n) ∧ Below w.heap.size w w' := by
  have HT := Lib.hid (three_new w #[.int .i64 d.me, .slice pi d.xs.length ci, .slice po d.os.length co, .int .i64 d.far] #[.int .i64 m.k, .int .i64 m.s, .int .i64 m.n, .int .i64 m.b, .int .i64 m.c, .int .i64 m.r, .int .i64 m.y, .int .i64 m.a, .bool m.t, vl, vn] #[.int .i64 0, .int .i64 0, .int .i64 0, .int .i64 0, .int .i64 0, .int .i64 0, .int .i64 0, .int .i64 0] 29 40 64)
  cases hf : findX d.xs m.s m.n with
  | none =>
    have ha : soldA d m.s m.n = (itm0, 4) := by unfold soldA; rw [hf]
    have HG := Lib.hid (dget_any (((w.alloc (.cells #[.int .i64 d.me, .slice pi d.xs.length ci, .slice po d.os.length co, .int .i64 d.far] 29)).alloc (.cells #[.int .i64 m.k, .int .i64 m.s, .int .i64 m.n, .int .i64 m.b, .int .i64 m.c, .int .i64 m.r, .int .i64 m.y, .int .i64 m.a, .bool m.t, vl, vn] 40)).alloc (.cells #[.int .i64 0, .int .i64 0, .int .i64 0, .int .i64 0, .int .i64 0, .int .i64 0, .int .i64 0, .int .i64 0] 64)) d.me pi po d.xs.length ci d.os.length co m.s m.n d.xs (h.items.kept HT.out.low) rfl h.sx (by have := h.nx; omega))
    rw [hf] at HG
    rw [ha]
    clear ha
    clear h hf
    unfold bookV idV at HG
    simp only [Option.getD_none, Option.isSome_none, itm0] at HG
    unfold Itm.v at HG
    unfold deskV Msg.v
    go_enter Try.func55, Try.ntmps55
    go_upto_region 1 with fail
    generalize (((w.alloc (.cells #[.int .i64 d.me, .slice pi d.xs.length ci, .slice po d.os.length co, .int .i64 d.far] 29)).alloc (.cells #[.int .i64 m.k, .int .i64 m.s, .int .i64 m.n, .int .i64 m.b, .int .i64 m.c, .int .i64 m.r, .int .i64 m.y, .int .i64 m.a, .bool m.t, vl, vn] 40)).alloc (.cells #[.int .i64 0, .int .i64 0, .int .i64 0, .int .i64 0, .int .i64 0, .int .i64 0, .int .i64 0, .int .i64 0] 64)) = W at *
    have a0 : W.cell? ⟨w.heap.size, 0, none⟩ = some (.int .i64 d.me) := HT.out.b0.cell 0
    have a1 : W.cell? ⟨w.heap.size, 1, none⟩ = some (.slice pi d.xs.length ci) := HT.out.b0.cell 1
    have a2 : W.cell? ⟨w.heap.size, 2, none⟩ = some (.slice po d.os.length co) := HT.out.b0.cell 2
    have c1 : W.cell? ⟨w.heap.size + 1, 1, none⟩ = some (.int .i64 m.s) := HT.out.b1.cell 1
    have c2 : W.cell? ⟨w.heap.size + 1, 2, none⟩ = some (.int .i64 m.n) := HT.out.b1.cell 2
    go_wp2_with fail
    clear a0 a1 a2 c1 c2
    refine HG.out.mono ?_
    rintro y w1 ⟨rfl, hb⟩
    have HB1 := Lib.hid ((HT.out.low.trans (hb.mono HT.out.low.size)).alloc (HT.out.low.trans (hb.mono HT.out.low.size)).size (.cells #[.int .i64 0, .int .i64 0, .int .i64 0, .int .i64 0, .int .i64 0, .int .i64 0, .int .i64 0, .int .i64 0] 64))
    have HD1 : Hid (Blk (w1.alloc (.cells #[.int .i64 0, .int .i64 0, .int .i64 0, .int .i64 0, .int .i64 0, .int .i64 0, .int .i64 0, .int .i64 0] 64)) w.heap.size #[.int .i64 d.me, .slice pi d.xs.length ci, .slice po d.os.length co, .int .i64 d.far] 29) := (HT.out.b0.below hb HT.out.b0.lt).alloc _
    have HM1 : Hid (Blk (w1.alloc (.cells #[.int .i64 0, .int .i64 0, .int .i64 0, .int .i64 0, .int .i64 0, .int .i64 0, .int .i64 0, .int .i64 0] 64)) (w.heap.size + 1) #[.int .i64 m.k, .int .i64 m.s, .int .i64 m.n, .int .i64 m.b, .int .i64 m.c, .int .i64 m.r, .int .i64 m.y, .int .i64 m.a, .bool m.t, vl, vn] 40) := (HT.out.b1.below hb HT.out.b1.lt).alloc _
    have HR1 : Hid (Blk (w1.alloc (.cells #[.int .i64 0, .int .i64 0, .int .i64 0, .int .i64 0, .int .i64 0, .int .i64 0, .int .i64 0, .int .i64 0] 64)) (w.heap.size + 1 + 1) #[.int .i64 0, .int .i64 0, .int .i64 0, .int .i64 0, .int .i64 0, .int .i64 0, .int .i64 0, .int .i64 0] 64) := (HT.out.b2.below hb HT.out.b2.lt).alloc _
    have HQ1 := Lib.hid (Blk.new w1 #[.int .i64 0, .int .i64 0, .int .i64 0, .int .i64 0, .int .i64 0, .int .i64 0, .int .i64 0, .int .i64 0] 64)
    clear hb HG HT
    go_upto_region 2 with fail
    generalize w1.alloc (.cells #[.int .i64 0, .int .i64 0, .int .i64 0, .int .i64 0, .int .i64 0, .int .i64 0, .int .i64 0, .int .i64 0] 64) = w2 at *
    generalize w1.heap.size = gq at *
    have q0 : w2.cell? ⟨gq, 0, none⟩ = some (.int .i64 0) := HQ1.out.cell 0
    have q1 : w2.cell? ⟨gq, 1, none⟩ = some (.int .i64 0) := HQ1.out.cell 1
    have q2 : w2.cell? ⟨gq, 2, none⟩ = some (.int .i64 0) := HQ1.out.cell 2
    have q3 : w2.cell? ⟨gq, 3, none⟩ = some (.int .i64 0) := HQ1.out.cell 3
    have q4 : w2.cell? ⟨gq, 4, none⟩ = some (.int .i64 0) := HQ1.out.cell 4
    have q5 : w2.cell? ⟨gq, 5, none⟩ = some (.int .i64 0) := HQ1.out.cell 5
    have q6 : w2.cell? ⟨gq, 6, none⟩ = some (.int .i64 0) := HQ1.out.cell 6
    have q7 : w2.cell? ⟨gq, 7, none⟩ = some (.int .i64 0) := HQ1.out.cell 7
    have a0 : w2.cell? ⟨w.heap.size, 0, none⟩ = some (.int .i64 d.me) := HD1.out.cell 0
    have c5 : w2.cell? ⟨w.heap.size + 1, 5, none⟩ = some (.int .i64 m.r) := HM1.out.cell 5
    go_wp2_with (with_reducible refine stop_storeT 64 (.tmp 4) (.tmp 19) rfl ?_)
    have HTH : Hid (w2.there (w.heap.size + 1 + 1) 0 8) := HR1.out.thereAt
    have HF : Hid (Blk (w2.setCells (w.heap.size + 1 + 1) 0 (#[.int .i64 0, .int .i64 0, .int .i64 0, .int .i64 0, .int .i64 0, .int .i64 0, .int .i64 0, .int .i64 0] : Array Value).toList) (w.heap.size + 1 + 1) #[.int .i64 0, .int .i64 0, .int .i64 0, .int .i64 0, .int .i64 0, .int .i64 0, .int .i64 0, .int .i64 0] 64 ∧ Below w.heap.size w (w2.setCells (w.heap.size + 1 + 1) 0 (#[.int .i64 0, .int .i64 0, .int .i64 0, .int .i64 0, .int .i64 0, .int .i64 0, .int .i64 0, .int .i64 0] : Array Value).toList)) := ⟨blk_put_all HR1.out _ rfl, below_put (by omega) _ _ _ _ HB1.out⟩
    refine wpList_store_mid rfl 64 (.tmp 4) (.tmp 19) rfl (w.heap.size + 1 + 1) 0 #[.int .i64 0, .int .i64 0, .int .i64 0, .int .i64 0, .int .i64 0, .int .i64 0, .int .i64 0, .int .i64 0] rfl rfl HTH.out (infoI8 rfl) (all_oneCell_toArray (encI.one itm0)) ?_
    generalize World.setCells w2 _ _ _ = w3 at *
    clear HTH HR1 HQ1 HD1 HM1 HB1 a0 c5 q0 q1 q2 q3 q4 q5 q6 q7
    go_wp2_with fail
    have hf := HF.out.1
    refine bodyPost_ret (v := .tuple #[.agg #[.int .i64 0, .int .i64 0, .int .i64 0, .int .i64 0, .int .i64 0, .int .i64 0, .int .i64 0, .int .i64 0], .int .i64 4]) (by simp [results, Try.results55, go_sem, hf.cell 0, hf.cell 1, hf.cell 2, hf.cell 3, hf.cell 4, hf.cell 5, hf.cell 6, hf.cell 7]) rfl ⟨rfl, HF.out.2⟩
  | some q =>
    by_cases hq : q.s = d.me
    · have ha : soldA d m.s m.n = (q, 0) := by unfold soldA; rw [hf]; dsimp only; rw [if_pos hq]
      have hqb : (q.s != d.me) = false := by simpa using hq
      clear hq
      have HG := Lib.hid (dget_any (((w.alloc (.cells #[.int .i64 d.me, .slice pi d.xs.length ci, .slice po d.os.length co, .int .i64 d.far] 29)).alloc (.cells #[.int .i64 m.k, .int .i64 m.s, .int .i64 m.n, .int .i64 m.b, .int .i64 m.c, .int .i64 m.r, .int .i64 m.y, .int .i64 m.a, .bool m.t, vl, vn] 40)).alloc (.cells #[.int .i64 0, .int .i64 0, .int .i64 0, .int .i64 0, .int .i64 0, .int .i64 0, .int .i64 0, .int .i64 0] 64)) d.me pi po d.xs.length ci d.os.length co m.s m.n d.xs (h.items.kept HT.out.low) rfl h.sx (by have := h.nx; omega))
      rw [hf] at HG
      rw [ha]
      clear ha
      clear h hf
      unfold bookV idV at HG
      simp only [Option.getD_some, Option.isSome_some] at HG
      unfold Itm.v at HG
      unfold deskV Msg.v
      go_enter Try.func55, Try.ntmps55
      go_upto_region 1 with fail
      generalize (((w.alloc (.cells #[.int .i64 d.me, .slice pi d.xs.length ci, .slice po d.os.length co, .int .i64 d.far] 29)).alloc (.cells #[.int .i64 m.k, .int .i64 m.s, .int .i64 m.n, .int .i64 m.b, .int .i64 m.c, .int .i64 m.r, .int .i64 m.y, .int .i64 m.a, .bool m.t, vl, vn] 40)).alloc (.cells #[.int .i64 0, .int .i64 0, .int .i64 0, .int .i64 0, .int .i64 0, .int .i64 0, .int .i64 0, .int .i64 0] 64)) = W at *
      have a0 : W.cell? ⟨w.heap.size, 0, none⟩ = some (.int .i64 d.me) := HT.out.b0.cell 0
      have a1 : W.cell? ⟨w.heap.size, 1, none⟩ = some (.slice pi d.xs.length ci) := HT.out.b0.cell 1
      have a2 : W.cell? ⟨w.heap.size, 2, none⟩ = some (.slice po d.os.length co) := HT.out.b0.cell 2
      have c1 : W.cell? ⟨w.heap.size + 1, 1, none⟩ = some (.int .i64 m.s) := HT.out.b1.cell 1
      have c2 : W.cell? ⟨w.heap.size + 1, 2, none⟩ = some (.int .i64 m.n) := HT.out.b1.cell 2
      go_wp2_with fail
      clear a0 a1 a2 c1 c2
      refine HG.out.mono ?_
      rintro y w1 ⟨rfl, hb⟩
      have HB1 := Lib.hid ((HT.out.low.trans (hb.mono HT.out.low.size)).alloc (HT.out.low.trans (hb.mono HT.out.low.size)).size (.cells #[.int .i64 q.s, .int .i64 q.n, .int .i64 q.b, .int .i64 q.c, .int .i64 q.a, .int .i64 q.r, .int .i64 q.t, .int .i64 q.y] 64))
      have HD1 : Hid (Blk (w1.alloc (.cells #[.int .i64 q.s, .int .i64 q.n, .int .i64 q.b, .int .i64 q.c, .int .i64 q.a, .int .i64 q.r, .int .i64 q.t, .int .i64 q.y] 64)) w.heap.size #[.int .i64 d.me, .slice pi d.xs.length ci, .slice po d.os.length co, .int .i64 d.far] 29) := (HT.out.b0.below hb HT.out.b0.lt).alloc _
      have HM1 : Hid (Blk (w1.alloc (.cells #[.int .i64 q.s, .int .i64 q.n, .int .i64 q.b, .int .i64 q.c, .int .i64 q.a, .int .i64 q.r, .int .i64 q.t, .int .i64 q.y] 64)) (w.heap.size + 1) #[.int .i64 m.k, .int .i64 m.s, .int .i64 m.n, .int .i64 m.b, .int .i64 m.c, .int .i64 m.r, .int .i64 m.y, .int .i64 m.a, .bool m.t, vl, vn] 40) := (HT.out.b1.below hb HT.out.b1.lt).alloc _
      have HR1 : Hid (Blk (w1.alloc (.cells #[.int .i64 q.s, .int .i64 q.n, .int .i64 q.b, .int .i64 q.c, .int .i64 q.a, .int .i64 q.r, .int .i64 q.t, .int .i64 q.y] 64)) (w.heap.size + 1 + 1) #[.int .i64 0, .int .i64 0, .int .i64 0, .int .i64 0, .int .i64 0, .int .i64 0, .int .i64 0, .int .i64 0] 64) := (HT.out.b2.below hb HT.out.b2.lt).alloc _
      have HQ1 := Lib.hid (Blk.new w1 #[.int .i64 q.s, .int .i64 q.n, .int .i64 q.b, .int .i64 q.c, .int .i64 q.a, .int .i64 q.r, .int .i64 q.t, .int .i64 q.y] 64)
      clear hb HG HT
      go_upto_region 2 with fail
      generalize w1.alloc (.cells #[.int .i64 q.s, .int .i64 q.n, .int .i64 q.b, .int .i64 q.c, .int .i64 q.a, .int .i64 q.r, .int .i64 q.t, .int .i64 q.y] 64) = w2 at *
      generalize w1.heap.size = gq at *
      have q0 : w2.cell? ⟨gq, 0, none⟩ = some (.int .i64 q.s) := HQ1.out.cell 0
      have q1 : w2.cell? ⟨gq, 1, none⟩ = some (.int .i64 q.n) := HQ1.out.cell 1
      have q2 : w2.cell? ⟨gq, 2, none⟩ = some (.int .i64 q.b) := HQ1.out.cell 2
      have q3 : w2.cell? ⟨gq, 3, none⟩ = some (.int .i64 q.c) := HQ1.out.cell 3
      have q4 : w2.cell? ⟨gq, 4, none⟩ = some (.int .i64 q.a) := HQ1.out.cell 4
      have q5 : w2.cell? ⟨gq, 5, none⟩ = some (.int .i64 q.r) := HQ1.out.cell 5
      have q6 : w2.cell? ⟨gq, 6, none⟩ = some (.int .i64 q.t) := HQ1.out.cell 6
      have q7 : w2.cell? ⟨gq, 7, none⟩ = some (.int .i64 q.y) := HQ1.out.cell 7
      have a0 : w2.cell? ⟨w.heap.size, 0, none⟩ = some (.int .i64 d.me) := HD1.out.cell 0
      have c5 : w2.cell? ⟨w.heap.size + 1, 5, none⟩ = some (.int .i64 m.r) := HM1.out.cell 5
      go_wp2_with (with_reducible refine stop_storeT 64 (.tmp 4) (.tmp 29) rfl ?_)
      have HTH : Hid (w2.there (w.heap.size + 1 + 1) 0 8) := HR1.out.thereAt
      have HF : Hid (Blk (w2.setCells (w.heap.size + 1 + 1) 0 (#[.int .i64 q.s, .int .i64 q.n, .int .i64 q.b, .int .i64 q.c, .int .i64 q.a, .int .i64 q.r, .int .i64 q.t, .int .i64 q.y] : Array Value).toList) (w.heap.size + 1 + 1) #[.int .i64 q.s, .int .i64 q.n, .int .i64 q.b, .int .i64 q.c, .int .i64 q.a, .int .i64 q.r, .int .i64 q.t, .int .i64 q.y] 64 ∧ Below w.heap.size w (w2.setCells (w.heap.size + 1 + 1) 0 (#[.int .i64 q.s, .int .i64 q.n, .int .i64 q.b, .int .i64 q.c, .int .i64 q.a, .int .i64 q.r, .int .i64 q.t, .int .i64 q.y] : Array Value).toList)) := ⟨blk_put_all HR1.out _ rfl, below_put (by omega) _ _ _ _ HB1.out⟩
      refine wpList_store_mid rfl 64 (.tmp 4) (.tmp 29) rfl (w.heap.size + 1 + 1) 0 #[.int .i64 q.s, .int .i64 q.n, .int .i64 q.b, .int .i64 q.c, .int .i64 q.a, .int .i64 q.r, .int .i64 q.t, .int .i64 q.y] rfl rfl HTH.out (infoI8 rfl) (all_oneCell_toArray (encI.one q)) ?_
      generalize World.setCells w2 _ _ _ = w3 at *
      clear HTH HR1 HQ1 HD1 HM1 HB1 a0 c5 q0 q1 q2 q3 q4 q5 q6 q7
      go_wp2_with fail
      have hf := HF.out.1
      refine bodyPost_ret (v := .tuple #[.agg #[.int .i64 q.s, .int .i64 q.n, .int .i64 q.b, .int .i64 q.c, .int .i64 q.a, .int .i64 q.r, .int .i64 q.t, .int .i64 q.y], .int .i64 0]) (by simp [results, Try.results55, go_sem, hf.cell 0, hf.cell 1, hf.cell 2, hf.cell 3, hf.cell 4, hf.cell 5, hf.cell 6, hf.cell 7]) rfl ⟨rfl, HF.out.2⟩
    · have ha : soldA d m.s m.n = (q, 140) := by unfold soldA; rw [hf]; dsimp only; rw [if_neg hq]
      have hqb : (q.s != d.me) = true := by simpa using hq
      clear hq
      have HG := Lib.hid (dget_any (((w.alloc (.cells #[.int .i64 d.me, .slice pi d.xs.length ci, .slice po d.os.length co, .int .i64 d.far] 29)).alloc (.cells #[.int .i64 m.k, .int .i64 m.s, .int .i64 m.n, .int .i64 m.b, .int .i64 m.c, .int .i64 m.r, .int .i64 m.y, .int .i64 m.a, .bool m.t, vl, vn] 40)).alloc (.cells #[.int .i64 0, .int .i64 0, .int .i64 0, .int .i64 0, .int .i64 0, .int .i64 0, .int .i64 0, .int .i64 0] 64)) d.me pi po d.xs.length ci d.os.length co m.s m.n d.xs (h.items.kept HT.out.low) rfl h.sx (by have := h.nx; omega))
      rw [hf] at HG
      rw [ha]
      clear ha
      clear h hf
      unfold bookV idV at HG
      simp only [Option.getD_some, Option.isSome_some] at HG
      unfold Itm.v at HG
      unfold deskV Msg.v
      go_enter Try.func55, Try.ntmps55
      go_upto_region 1 with fail
      generalize (((w.alloc (.cells #[.int .i64 d.me, .slice pi d.xs.length ci, .slice po d.os.length co, .int .i64 d.far] 29)).alloc (.cells #[.int .i64 m.k, .int .i64 m.s, .int .i64 m.n, .int .i64 m.b, .int .i64 m.c, .int .i64 m.r, .int .i64 m.y, .int .i64 m.a, .bool m.t, vl, vn] 40)).alloc (.cells #[.int .i64 0, .int .i64 0, .int .i64 0, .int .i64 0, .int .i64 0, .int .i64 0, .int .i64 0, .int .i64 0] 64)) = W at *
      have a0 : W.cell? ⟨w.heap.size, 0, none⟩ = some (.int .i64 d.me) := HT.out.b0.cell 0
      have a1 : W.cell? ⟨w.heap.size, 1, none⟩ = some (.slice pi d.xs.length ci) := HT.out.b0.cell 1
      have a2 : W.cell? ⟨w.heap.size, 2, none⟩ = some (.slice po d.os.length co) := HT.out.b0.cell 2
      have c1 : W.cell? ⟨w.heap.size + 1, 1, none⟩ = some (.int .i64 m.s) := HT.out.b1.cell 1
      have c2 : W.cell? ⟨w.heap.size + 1, 2, none⟩ = some (.int .i64 m.n) := HT.out.b1.cell 2
      go_wp2_with fail
      clear a0 a1 a2 c1 c2
      refine HG.out.mono ?_
      rintro y w1 ⟨rfl, hb⟩
      have HB1 := Lib.hid ((HT.out.low.trans (hb.mono HT.out.low.size)).alloc (HT.out.low.trans (hb.mono HT.out.low.size)).size (.cells #[.int .i64 q.s, .int .i64 q.n, .int .i64 q.b, .int .i64 q.c, .int .i64 q.a, .int .i64 q.r, .int .i64 q.t, .int .i64 q.y] 64))
      have HD1 : Hid (Blk (w1.alloc (.cells #[.int .i64 q.s, .int .i64 q.n, .int .i64 q.b, .int .i64 q.c, .int .i64 q.a, .int .i64 q.r, .int .i64 q.t, .int .i64 q.y] 64)) w.heap.size #[.int .i64 d.me, .slice pi d.xs.length ci, .slice po d.os.length co, .int .i64 d.far] 29) := (HT.out.b0.below hb HT.out.b0.lt).alloc _
      have HM1 : Hid (Blk (w1.alloc (.cells #[.int .i64 q.s, .int .i64 q.n, .int .i64 q.b, .int .i64 q.c, .int .i64 q.a, .int .i64 q.r, .int .i64 q.t, .int .i64 q.y] 64)) (w.heap.size + 1) #[.int .i64 m.k, .int .i64 m.s, .int .i64 m.n, .int .i64 m.b, .int .i64 m.c, .int .i64 m.r, .int .i64 m.y, .int .i64 m.a, .bool m.t, vl, vn] 40) := (HT.out.b1.below hb HT.out.b1.lt).alloc _
      have HR1 : Hid (Blk (w1.alloc (.cells #[.int .i64 q.s, .int .i64 q.n, .int .i64 q.b, .int .i64 q.c, .int .i64 q.a, .int .i64 q.r, .int .i64 q.t, .int .i64 q.y] 64)) (w.heap.size + 1 + 1) #[.int .i64 0, .int .i64 0, .int .i64 0, .int .i64 0, .int .i64 0, .int .i64 0, .int .i64 0, .int .i64 0] 64) := (HT.out.b2.below hb HT.out.b2.lt).alloc _
      have HQ1 := Lib.hid (Blk.new w1 #[.int .i64 q.s, .int .i64 q.n, .int .i64 q.b, .int .i64 q.c, .int .i64 q.a, .int .i64 q.r, .int .i64 q.t, .int .i64 q.y] 64)
      clear hb HG HT
      go_upto_region 2 with fail
      generalize w1.alloc (.cells #[.int .i64 q.s, .int .i64 q.n, .int .i64 q.b, .int .i64 q.c, .int .i64 q.a, .int .i64 q.r, .int .i64 q.t, .int .i64 q.y] 64) = w2 at *
      generalize w1.heap.size = gq at *
      have q0 : w2.cell? ⟨gq, 0, none⟩ = some (.int .i64 q.s) := HQ1.out.cell 0
      have q1 : w2.cell? ⟨gq, 1, none⟩ = some (.int .i64 q.n) := HQ1.out.cell 1
      have q2 : w2.cell? ⟨gq, 2, none⟩ = some (.int .i64 q.b) := HQ1.out.cell 2
      have q3 : w2.cell? ⟨gq, 3, none⟩ = some (.int .i64 q.c) := HQ1.out.cell 3
      have q4 : w2.cell? ⟨gq, 4, none⟩ = some (.int .i64 q.a) := HQ1.out.cell 4
      have q5 : w2.cell? ⟨gq, 5, none⟩ = some (.int .i64 q.r) := HQ1.out.cell 5
      have q6 : w2.cell? ⟨gq, 6, none⟩ = some (.int .i64 q.t) := HQ1.out.cell 6
      have q7 : w2.cell? ⟨gq, 7, none⟩ = some (.int .i64 q.y) := HQ1.out.cell 7
      have a0 : w2.cell? ⟨w.heap.size, 0, none⟩ = some (.int .i64 d.me) := HD1.out.cell 0
      have c5 : w2.cell? ⟨w.heap.size + 1, 5, none⟩ = some (.int .i64 m.r) := HM1.out.cell 5
      go_wp2_with (with_reducible refine stop_storeT 64 (.tmp 4) (.tmp 28) rfl ?_)
      have HTH : Hid (w2.there (w.heap.size + 1 + 1) 0 8) := HR1.out.thereAt
      have HF : Hid (Blk (w2.setCells (w.heap.size + 1 + 1) 0 (#[.int .i64 q.s, .int .i64 q.n, .int .i64 q.b, .int .i64 q.c, .int .i64 q.a, .int .i64 q.r, .int .i64 q.t, .int .i64 q.y] : Array Value).toList) (w.heap.size + 1 + 1) #[.int .i64 q.s, .int .i64 q.n, .int .i64 q.b, .int .i64 q.c, .int .i64 q.a, .int .i64 q.r, .int .i64 q.t, .int .i64 q.y] 64 ∧ Below w.heap.size w (w2.setCells (w.heap.size + 1 + 1) 0 (#[.int .i64 q.s, .int .i64 q.n, .int .i64 q.b, .int .i64 q.c, .int .i64 q.a, .int .i64 q.r, .int .i64 q.t, .int .i64 q.y] : Array Value).toList)) := ⟨blk_put_all HR1.out _ rfl, below_put (by omega) _ _ _ _ HB1.out⟩
      refine wpList_store_mid rfl 64 (.tmp 4) (.tmp 28) rfl (w.heap.size + 1 + 1) 0 #[.int .i64 q.s, .int .i64 q.n, .int .i64 q.b, .int .i64 q.c, .int .i64 q.a, .int .i64 q.r, .int .i64 q.t, .int .i64 q.y] rfl rfl HTH.out (infoI8 rfl) (all_oneCell_toArray (encI.one q)) ?_
      generalize World.setCells w2 _ _ _ = w3 at *
      clear HTH HR1 HQ1 HD1 HM1 HB1 a0 c5 q0 q1 q2 q3 q4 q5 q6 q7
      go_wp2_with fail
      have hf := HF.out.1
      refine bodyPost_ret (v := .tuple #[.agg #[.int .i64 q.s, .int .i64 q.n, .int .i64 q.b, .int .i64 q.c, .int .i64 q.a, .int .i64 q.r, .int .i64 q.t, .int .i64 q.y], .int .i64 140]) (by simp [results, Try.results55, go_sem, hf.cell 0, hf.cell 1, hf.cell 2, hf.cell 3, hf.cell 4, hf.cell 5, hf.cell 6, hf.cell 7]) rfl ⟨rfl, HF.out.2⟩
set_option linter.unusedSimpArgs false in
set_option maxHeartbeats 4000000 in
set_option maxRecDepth 100000 in
theorem between_any (w : World) (d : Dsk) (pi po : Option Addr) (ci co : Nat) (m : Msg) (vl vn : Value) (se bu : Int) (h : DRow w d pi ci po co) : Calls Try.prog 51 #[(deskV d.me pi d.xs.length ci po d.os.length co d.far), m.v vl vn, .int .i64 se, .int .i64 bu] w fun e w' => e = ansI (betwA d m.s m.n m.r se bu) ∧ Below w.heap.size w w' := by
  have HT := Lib.hid (three_new w #[.int .i64 d.me, .slice pi d.xs.length ci, .slice po d.os.length co, .int .i64 d.far] #[.int .i64 m.k, .int .i64 m.s, .int .i64 m.n, .int .i64 m.b, .int .i64 m.c, .int .i64 m.r, .int .i64 m.y, .int .i64 m.a, .bool m.t, vl, vn] #[.int .i64 0, .int .i64 0, .int .i64 0, .int .i64 0, .int .i64 0, .int .i64 0, .int .i64 0, .int .i64 0] 29 40 64)
  cases hf : findX d.xs m.s m.n with
  | none =>
    have ha : betwA d m.s m.n m.r se bu = (itm0, 4) := by unfold betwA; rw [hf]
    have HG := Lib.hid (dget_any (((w.alloc (.cells #[.int .i64 d.me, .slice pi d.xs.length ci, .slice po d.os.length co, .int .i64 d.far] 29)).alloc (.cells #[.int .i64 m.k, .int .i64 m.s, .int .i64 m.n, .int .i64 m.b, .int .i64 m.c, .int .i64 m.r, .int .i64 m.y, .int .i64 m.a, .bool m.t, vl, vn] 40)).alloc (.cells #[.int .i64 0, .int .i64 0, .int .i64 0, .int .i64 0, .int .i64 0, .int .i64 0, .int .i64 0, .int .i64 0] 64)) d.me pi po d.xs.length ci d.os.length co m.s m.n d.xs (h.items.kept HT.out.low) rfl h.sx (by have := h.nx; omega))
    rw [hf] at HG
    rw [ha]
    clear ha
    clear h hf
    unfold bookV idV at HG
    simp only [Option.getD_none, Option.isSome_none, itm0] at HG
    unfold Itm.v at HG
    unfold deskV Msg.v
    go_enter Try.func51, Try.ntmps51
    go_upto_region 1 with fail
    generalize (((w.alloc (.cells #[.int .i64 d.me, .slice pi d.xs.length ci, .slice po d.os.length co, .int .i64 d.far] 29)).alloc (.cells #[.int .i64 m.k, .int .i64 m.s, .int .i64 m.n, .int .i64 m.b, .int .i64 m.c, .int .i64 m.r, .int .i64 m.y, .int .i64 m.a, .bool m.t, vl, vn] 40)).alloc (.cells #[.int .i64 0, .int .i64 0, .int .i64 0, .int .i64 0, .int .i64 0, .int .i64 0, .int .i64 0, .int .i64 0] 64)) = W at *
    have a0 : W.cell? ⟨w.heap.size, 0, none⟩ = some (.int .i64 d.me) := HT.out.b0.cell 0
    have a1 : W.cell? ⟨w.heap.size, 1, none⟩ = some (.slice pi d.xs.length ci) := HT.out.b0.cell 1
    have a2 : W.cell? ⟨w.heap.size, 2, none⟩ = some (.slice po d.os.length co) := HT.out.b0.cell 2
    have c1 : W.cell? ⟨w.heap.size + 1, 1, none⟩ = some (.int .i64 m.s) := HT.out.b1.cell 1
    have c2 : W.cell? ⟨w.heap.size + 1, 2, none⟩ = some (.int .i64 m.n) := HT.out.b1.cell 2
    go_wp2_with fail
    clear a0 a1 a2 c1 c2
    refine HG.out.mono ?_
    rintro y w1 ⟨rfl, hb⟩
    have HB1 := Lib.hid ((HT.out.low.trans (hb.mono HT.out.low.size)).alloc (HT.out.low.trans (hb.mono HT.out.low.size)).size (.cells #[.int .i64 0, .int .i64 0, .int .i64 0, .int .i64 0, .int .i64 0, .int .i64 0, .int .i64 0, .int .i64 0] 64))
    have HD1 : Hid (Blk (w1.alloc (.cells #[.int .i64 0, .int .i64 0, .int .i64 0, .int .i64 0, .int .i64 0, .int .i64 0, .int .i64 0, .int .i64 0] 64)) w.heap.size #[.int .i64 d.me, .slice pi d.xs.length ci, .slice po d.os.length co, .int .i64 d.far] 29) := (HT.out.b0.below hb HT.out.b0.lt).alloc _
    have HM1 : Hid (Blk (w1.alloc (.cells #[.int .i64 0, .int .i64 0, .int .i64 0, .int .i64 0, .int .i64 0, .int .i64 0, .int .i64 0, .int .i64 0] 64)) (w.heap.size + 1) #[.int .i64 m.k, .int .i64 m.s, .int .i64 m.n, .int .i64 m.b, .int .i64 m.c, .int .i64 m.r, .int .i64 m.y, .int .i64 m.a, .bool m.t, vl, vn] 40) := (HT.out.b1.below hb HT.out.b1.lt).alloc _
    have HR1 : Hid (Blk (w1.alloc (.cells #[.int .i64 0, .int .i64 0, .int .i64 0, .int .i64 0, .int .i64 0, .int .i64 0, .int .i64 0, .int .i64 0] 64)) (w.heap.size + 1 + 1) #[.int .i64 0, .int .i64 0, .int .i64 0, .int .i64 0, .int .i64 0, .int .i64 0, .int .i64 0, .int .i64 0] 64) := (HT.out.b2.below hb HT.out.b2.lt).alloc _
    have HQ1 := Lib.hid (Blk.new w1 #[.int .i64 0, .int .i64 0, .int .i64 0, .int .i64 0, .int .i64 0, .int .i64 0, .int .i64 0, .int .i64 0] 64)
    clear hb HG HT
    go_upto_region 2 with fail
    generalize w1.alloc (.cells #[.int .i64 0, .int .i64 0, .int .i64 0, .int .i64 0, .int .i64 0, .int .i64 0, .int .i64 0, .int .i64 0] 64) = w2 at *
    generalize w1.heap.size = gq at *
    have q0 : w2.cell? ⟨gq, 0, none⟩ = some (.int .i64 0) := HQ1.out.cell 0
    have q1 : w2.cell? ⟨gq, 1, none⟩ = some (.int .i64 0) := HQ1.out.cell 1
    have q2 : w2.cell? ⟨gq, 2, none⟩ = some (.int .i64 0) := HQ1.out.cell 2
    have q3 : w2.cell? ⟨gq, 3, none⟩ = some (.int .i64 0) := HQ1.out.cell 3
    have q4 : w2.cell? ⟨gq, 4, none⟩ = some (.int .i64 0) := HQ1.out.cell 4
    have q5 : w2.cell? ⟨gq, 5, none⟩ = some (.int .i64 0) := HQ1.out.cell 5
    have q6 : w2.cell? ⟨gq, 6, none⟩ = some (.int .i64 0) := HQ1.out.cell 6
    have q7 : w2.cell? ⟨gq, 7, none⟩ = some (.int .i64 0) := HQ1.out.cell 7
    have a0 : w2.cell? ⟨w.heap.size, 0, none⟩ = some (.int .i64 d.me) := HD1.out.cell 0
    have c5 : w2.cell? ⟨w.heap.size + 1, 5, none⟩ = some (.int .i64 m.r) := HM1.out.cell 5
    go_wp2_with (with_reducible refine stop_storeT 64 (.tmp 8) (.tmp 23) rfl ?_)
    have HTH : Hid (w2.there (w.heap.size + 1 + 1) 0 8) := HR1.out.thereAt
    have HF : Hid (Blk (w2.setCells (w.heap.size + 1 + 1) 0 (#[.int .i64 0, .int .i64 0, .int .i64 0, .int .i64 0, .int .i64 0, .int .i64 0, .int .i64 0, .int .i64 0] : Array Value).toList) (w.heap.size + 1 + 1) #[.int .i64 0, .int .i64 0, .int .i64 0, .int .i64 0, .int .i64 0, .int .i64 0, .int .i64 0, .int .i64 0] 64 ∧ Below w.heap.size w (w2.setCells (w.heap.size + 1 + 1) 0 (#[.int .i64 0, .int .i64 0, .int .i64 0, .int .i64 0, .int .i64 0, .int .i64 0, .int .i64 0, .int .i64 0] : Array Value).toList)) := ⟨blk_put_all HR1.out _ rfl, below_put (by omega) _ _ _ _ HB1.out⟩
    refine wpList_store_mid rfl 64 (.tmp 8) (.tmp 23) rfl (w.heap.size + 1 + 1) 0 #[.int .i64 0, .int .i64 0, .int .i64 0, .int .i64 0, .int .i64 0, .int .i64 0, .int .i64 0, .int .i64 0] rfl rfl HTH.out (infoI8 rfl) (all_oneCell_toArray (encI.one itm0)) ?_
    generalize World.setCells w2 _ _ _ = w3 at *
    clear HTH HR1 HQ1 HD1 HM1 HB1 a0 c5 q0 q1 q2 q3 q4 q5 q6 q7
    go_wp2_with fail
    have hf := HF.out.1
    refine bodyPost_ret (v := .tuple #[.agg #[.int .i64 0, .int .i64 0, .int .i64 0, .int .i64 0, .int .i64 0, .int .i64 0, .int .i64 0, .int .i64 0], .int .i64 4]) (by simp [results, Try.results51, go_sem, hf.cell 0, hf.cell 1, hf.cell 2, hf.cell 3, hf.cell 4, hf.cell 5, hf.cell 6, hf.cell 7]) rfl ⟨rfl, HF.out.2⟩
  | some q =>
    by_cases h1 : q.s = se
    · by_cases h2 : q.b = bu
      · by_cases h3 : q.r = m.r
        · have ha : betwA d m.s m.n m.r se bu = (q, 0) := by unfold betwA; rw [hf]; dsimp only; rw [if_neg (by simp [h1, h2]), if_neg (by simp [h3])]
          have b1 : (q.s != se) = false := by simpa using h1
          have b2 : (q.b != bu) = false := by simpa using h2
          have b3 : (q.r != m.r) = false := by simpa using h3
          clear h1 h2 h3
          have HG := Lib.hid (dget_any (((w.alloc (.cells #[.int .i64 d.me, .slice pi d.xs.length ci, .slice po d.os.length co, .int .i64 d.far] 29)).alloc (.cells #[.int .i64 m.k, .int .i64 m.s, .int .i64 m.n, .int .i64 m.b, .int .i64 m.c, .int .i64 m.r, .int .i64 m.y, .int .i64 m.a, .bool m.t, vl, vn] 40)).alloc (.cells #[.int .i64 0, .int .i64 0, .int .i64 0, .int .i64 0, .int .i64 0, .int .i64 0, .int .i64 0, .int .i64 0] 64)) d.me pi po d.xs.length ci d.os.length co m.s m.n d.xs (h.items.kept HT.out.low) rfl h.sx (by have := h.nx; omega))
          rw [hf] at HG
          rw [ha]
          clear ha
          clear h hf
          unfold bookV idV at HG
          simp only [Option.getD_some, Option.isSome_some] at HG
          unfold Itm.v at HG
          unfold deskV Msg.v
          go_enter Try.func51, Try.ntmps51
          go_upto_region 1 with fail
          generalize (((w.alloc (.cells #[.int .i64 d.me, .slice pi d.xs.length ci, .slice po d.os.length co, .int .i64 d.far] 29)).alloc (.cells #[.int .i64 m.k, .int .i64 m.s, .int .i64 m.n, .int .i64 m.b, .int .i64 m.c, .int .i64 m.r, .int .i64 m.y, .int .i64 m.a, .bool m.t, vl, vn] 40)).alloc (.cells #[.int .i64 0, .int .i64 0, .int .i64 0, .int .i64 0, .int .i64 0, .int .i64 0, .int .i64 0, .int .i64 0] 64)) = W at *
          have a0 : W.cell? ⟨w.heap.size, 0, none⟩ = some (.int .i64 d.me) := HT.out.b0.cell 0
          have a1 : W.cell? ⟨w.heap.size, 1, none⟩ = some (.slice pi d.xs.length ci) := HT.out.b0.cell 1
          have a2 : W.cell? ⟨w.heap.size, 2, none⟩ = some (.slice po d.os.length co) := HT.out.b0.cell 2
          have c1 : W.cell? ⟨w.heap.size + 1, 1, none⟩ = some (.int .i64 m.s) := HT.out.b1.cell 1
          have c2 : W.cell? ⟨w.heap.size + 1, 2, none⟩ = some (.int .i64 m.n) := HT.out.b1.cell 2
          go_wp2_with fail
          clear a0 a1 a2 c1 c2
          refine HG.out.mono ?_
          rintro y w1 ⟨rfl, hb⟩
          have HB1 := Lib.hid ((HT.out.low.trans (hb.mono HT.out.low.size)).alloc (HT.out.low.trans (hb.mono HT.out.low.size)).size (.cells #[.int .i64 q.s, .int .i64 q.n, .int .i64 q.b, .int .i64 q.c, .int .i64 q.a, .int .i64 q.r, .int .i64 q.t, .int .i64 q.y] 64))
          have HD1 : Hid (Blk (w1.alloc (.cells #[.int .i64 q.s, .int .i64 q.n, .int .i64 q.b, .int .i64 q.c, .int .i64 q.a, .int .i64 q.r, .int .i64 q.t, .int .i64 q.y] 64)) w.heap.size #[.int .i64 d.me, .slice pi d.xs.length ci, .slice po d.os.length co, .int .i64 d.far] 29) := (HT.out.b0.below hb HT.out.b0.lt).alloc _
          have HM1 : Hid (Blk (w1.alloc (.cells #[.int .i64 q.s, .int .i64 q.n, .int .i64 q.b, .int .i64 q.c, .int .i64 q.a, .int .i64 q.r, .int .i64 q.t, .int .i64 q.y] 64)) (w.heap.size + 1) #[.int .i64 m.k, .int .i64 m.s, .int .i64 m.n, .int .i64 m.b, .int .i64 m.c, .int .i64 m.r, .int .i64 m.y, .int .i64 m.a, .bool m.t, vl, vn] 40) := (HT.out.b1.below hb HT.out.b1.lt).alloc _
          have HR1 : Hid (Blk (w1.alloc (.cells #[.int .i64 q.s, .int .i64 q.n, .int .i64 q.b, .int .i64 q.c, .int .i64 q.a, .int .i64 q.r, .int .i64 q.t, .int .i64 q.y] 64)) (w.heap.size + 1 + 1) #[.int .i64 0, .int .i64 0, .int .i64 0, .int .i64 0, .int .i64 0, .int .i64 0, .int .i64 0, .int .i64 0] 64) := (HT.out.b2.below hb HT.out.b2.lt).alloc _
          have HQ1 := Lib.hid (Blk.new w1 #[.int .i64 q.s, .int .i64 q.n, .int .i64 q.b, .int .i64 q.c, .int .i64 q.a, .int .i64 q.r, .int .i64 q.t, .int .i64 q.y] 64)
          clear hb HG HT
          go_upto_region 2 with fail
          generalize w1.alloc (.cells #[.int .i64 q.s, .int .i64 q.n, .int .i64 q.b, .int .i64 q.c, .int .i64 q.a, .int .i64 q.r, .int .i64 q.t, .int .i64 q.y] 64) = w2 at *
          generalize w1.heap.size = gq at *
          have q0 : w2.cell? ⟨gq, 0, none⟩ = some (.int .i64 q.s) := HQ1.out.cell 0
          have q1 : w2.cell? ⟨gq, 1, none⟩ = some (.int .i64 q.n) := HQ1.out.cell 1
          have q2 : w2.cell? ⟨gq, 2, none⟩ = some (.int .i64 q.b) := HQ1.out.cell 2
          have q3 : w2.cell? ⟨gq, 3, none⟩ = some (.int .i64 q.c) := HQ1.out.cell 3
          have q4 : w2.cell? ⟨gq, 4, none⟩ = some (.int .i64 q.a) := HQ1.out.cell 4
          have q5 : w2.cell? ⟨gq, 5, none⟩ = some (.int .i64 q.r) := HQ1.out.cell 5
          have q6 : w2.cell? ⟨gq, 6, none⟩ = some (.int .i64 q.t) := HQ1.out.cell 6
          have q7 : w2.cell? ⟨gq, 7, none⟩ = some (.int .i64 q.y) := HQ1.out.cell 7
          have a0 : w2.cell? ⟨w.heap.size, 0, none⟩ = some (.int .i64 d.me) := HD1.out.cell 0
          have c5 : w2.cell? ⟨w.heap.size + 1, 5, none⟩ = some (.int .i64 m.r) := HM1.out.cell 5
          go_wp2_with (with_reducible refine stop_storeT 64 (.tmp 8) (.tmp 44) rfl ?_)
          have HTH : Hid (w2.there (w.heap.size + 1 + 1) 0 8) := HR1.out.thereAt
          have HF : Hid (Blk (w2.setCells (w.heap.size + 1 + 1) 0 (#[.int .i64 q.s, .int .i64 q.n, .int .i64 q.b, .int .i64 q.c, .int .i64 q.a, .int .i64 q.r, .int .i64 q.t, .int .i64 q.y] : Array Value).toList) (w.heap.size + 1 + 1) #[.int .i64 q.s, .int .i64 q.n, .int .i64 q.b, .int .i64 q.c, .int .i64 q.a, .int .i64 q.r, .int .i64 q.t, .int .i64 q.y] 64 ∧ Below w.heap.size w (w2.setCells (w.heap.size + 1 + 1) 0 (#[.int .i64 q.s, .int .i64 q.n, .int .i64 q.b, .int .i64 q.c, .int .i64 q.a, .int .i64 q.r, .int .i64 q.t, .int .i64 q.y] : Array Value).toList)) := ⟨blk_put_all HR1.out _ rfl, below_put (by omega) _ _ _ _ HB1.out⟩
          refine wpList_store_mid rfl 64 (.tmp 8) (.tmp 44) rfl (w.heap.size + 1 + 1) 0 #[.int .i64 q.s, .int .i64 q.n, .int .i64 q.b, .int .i64 q.c, .int .i64 q.a, .int .i64 q.r, .int .i64 q.t, .int .i64 q.y] rfl rfl HTH.out (infoI8 rfl) (all_oneCell_toArray (encI.one q)) ?_
          generalize World.setCells w2 _ _ _ = w3 at *
          clear HTH HR1 HQ1 HD1 HM1 HB1 a0 c5 q0 q1 q2 q3 q4 q5 q6 q7
          go_wp2_with fail
          have hf := HF.out.1
          refine bodyPost_ret (v := .tuple #[.agg #[.int .i64 q.s, .int .i64 q.n, .int .i64 q.b, .int .i64 q.c, .int .i64 q.a, .int .i64 q.r, .int .i64 q.t, .int .i64 q.y], .int .i64 0]) (by simp [results, Try.results51, go_sem, hf.cell 0, hf.cell 1, hf.cell 2, hf.cell 3, hf.cell 4, hf.cell 5, hf.cell 6, hf.cell 7]) rfl ⟨rfl, HF.out.2⟩
        · have ha : betwA d m.s m.n m.r se bu = (q, 90) := by unfold betwA; rw [hf]; dsimp only; rw [if_neg (by simp [h1, h2]), if_pos h3]
          have b1 : (q.s != se) = false := by simpa using h1
          have b2 : (q.b != bu) = false := by simpa using h2
          have b3 : (q.r != m.r) = true := by simpa using h3
          clear h1 h2 h3
          have HG := Lib.hid (dget_any (((w.alloc (.cells #[.int .i64 d.me, .slice pi d.xs.length ci, .slice po d.os.length co, .int .i64 d.far] 29)).alloc (.cells #[.int .i64 m.k, .int .i64 m.s, .int .i64 m.n, .int .i64 m.b, .int .i64 m.c, .int .i64 m.r, .int .i64 m.y, .int .i64 m.a, .bool m.t, vl, vn] 40)).alloc (.cells #[.int .i64 0, .int .i64 0, .int .i64 0, .int .i64 0, .int .i64 0, .int .i64 0, .int .i64 0, .int .i64 0] 64)) d.me pi po d.xs.length ci d.os.length co m.s m.n d.xs (h.items.kept HT.out.low) rfl h.sx (by have := h.nx; omega))
          rw [hf] at HG
          rw [ha]
          clear ha
          clear h hf
          unfold bookV idV at HG
          simp only [Option.getD_some, Option.isSome_some] at HG
          unfold Itm.v at HG
          unfold deskV Msg.v
          go_enter Try.func51, Try.ntmps51
          go_upto_region 1 with fail
          generalize (((w.alloc (.cells #[.int .i64 d.me, .slice pi d.xs.length ci, .slice po d.os.length co, .int .i64 d.far] 29)).alloc (.cells #[.int .i64 m.k, .int .i64 m.s, .int .i64 m.n, .int .i64 m.b, .int .i64 m.c, .int .i64 m.r, .int .i64 m.y, .int .i64 m.a, .bool m.t, vl, vn] 40)).alloc (.cells #[.int .i64 0, .int .i64 0, .int .i64 0, .int .i64 0, .int .i64 0, .int .i64 0, .int .i64 0, .int .i64 0] 64)) = W at *
          have a0 : W.cell? ⟨w.heap.size, 0, none⟩ = some (.int .i64 d.me) := HT.out.b0.cell 0
          have a1 : W.cell? ⟨w.heap.size, 1, none⟩ = some (.slice pi d.xs.length ci) := HT.out.b0.cell 1
          have a2 : W.cell? ⟨w.heap.size, 2, none⟩ = some (.slice po d.os.length co) := HT.out.b0.cell 2
          have c1 : W.cell? ⟨w.heap.size + 1, 1, none⟩ = some (.int .i64 m.s) := HT.out.b1.cell 1
          have c2 : W.cell? ⟨w.heap.size + 1, 2, none⟩ = some (.int .i64 m.n) := HT.out.b1.cell 2
          go_wp2_with fail
          clear a0 a1 a2 c1 c2
          refine HG.out.mono ?_
          rintro y w1 ⟨rfl, hb⟩
          have HB1 := Lib.hid ((HT.out.low.trans (hb.mono HT.out.low.size)).alloc (HT.out.low.trans (hb.mono HT.out.low.size)).size (.cells #[.int .i64 q.s, .int .i64 q.n, .int .i64 q.b, .int .i64 q.c, .int .i64 q.a, .int .i64 q.r, .int .i64 q.t, .int .i64 q.y] 64))
          have HD1 : Hid (Blk (w1.alloc (.cells #[.int .i64 q.s, .int .i64 q.n, .int .i64 q.b, .int .i64 q.c, .int .i64 q.a, .int .i64 q.r, .int .i64 q.t, .int .i64 q.y] 64)) w.heap.size #[.int .i64 d.me, .slice pi d.xs.length ci, .slice po d.os.length co, .int .i64 d.far] 29) := (HT.out.b0.below hb HT.out.b0.lt).alloc _
          have HM1 : Hid (Blk (w1.alloc (.cells #[.int .i64 q.s, .int .i64 q.n, .int .i64 q.b, .int .i64 q.c, .int .i64 q.a, .int .i64 q.r, .int .i64 q.t, .int .i64 q.y] 64)) (w.heap.size + 1) #[.int .i64 m.k, .int .i64 m.s, .int .i64 m.n, .int .i64 m.b, .int .i64 m.c, .int .i64 m.r, .int .i64 m.y, .int .i64 m.a, .bool m.t, vl, vn] 40) := (HT.out.b1.below hb HT.out.b1.lt).alloc _
          have HR1 : Hid (Blk (w1.alloc (.cells #[.int .i64 q.s, .int .i64 q.n, .int .i64 q.b, .int .i64 q.c, .int .i64 q.a, .int .i64 q.r, .int .i64 q.t, .int .i64 q.y] 64)) (w.heap.size + 1 + 1) #[.int .i64 0, .int .i64 0, .int .i64 0, .int .i64 0, .int .i64 0, .int .i64 0, .int .i64 0, .int .i64 0] 64) := (HT.out.b2.below hb HT.out.b2.lt).alloc _
          have HQ1 := Lib.hid (Blk.new w1 #[.int .i64 q.s, .int .i64 q.n, .int .i64 q.b, .int .i64 q.c, .int .i64 q.a, .int .i64 q.r, .int .i64 q.t, .int .i64 q.y] 64)
          clear hb HG HT
          go_upto_region 2 with fail
          generalize w1.alloc (.cells #[.int .i64 q.s, .int .i64 q.n, .int .i64 q.b, .int .i64 q.c, .int .i64 q.a, .int .i64 q.r, .int .i64 q.t, .int .i64 q.y] 64) = w2 at *
          generalize w1.heap.size = gq at *
          have q0 : w2.cell? ⟨gq, 0, none⟩ = some (.int .i64 q.s) := HQ1.out.cell 0
          have q1 : w2.cell? ⟨gq, 1, none⟩ = some (.int .i64 q.n) := HQ1.out.cell 1
          have q2 : w2.cell? ⟨gq, 2, none⟩ = some (.int .i64 q.b) := HQ1.out.cell 2
          have q3 : w2.cell? ⟨gq, 3, none⟩ = some (.int .i64 q.c) := HQ1.out.cell 3
          have q4 : w2.cell? ⟨gq, 4, none⟩ = some (.int .i64 q.a) := HQ1.out.cell 4
          have q5 : w2.cell? ⟨gq, 5, none⟩ = some (.int .i64 q.r) := HQ1.out.cell 5
          have q6 : w2.cell? ⟨gq, 6, none⟩ = some (.int .i64 q.t) := HQ1.out.cell 6
          have q7 : w2.cell? ⟨gq, 7, none⟩ = some (.int .i64 q.y) := HQ1.out.cell 7
          have a0 : w2.cell? ⟨w.heap.size, 0, none⟩ = some (.int .i64 d.me) := HD1.out.cell 0
          have c5 : w2.cell? ⟨w.heap.size + 1, 5, none⟩ = some (.int .i64 m.r) := HM1.out.cell 5
          go_wp2_with (with_reducible refine stop_storeT 64 (.tmp 8) (.tmp 43) rfl ?_)
          have HTH : Hid (w2.there (w.heap.size + 1 + 1) 0 8) := HR1.out.thereAt
          have HF : Hid (Blk (w2.setCells (w.heap.size + 1 + 1) 0 (#[.int .i64 q.s, .int .i64 q.n, .int .i64 q.b, .int .i64 q.c, .int .i64 q.a, .int .i64 q.r, .int .i64 q.t, .int .i64 q.y] : Array Value).toList) (w.heap.size + 1 + 1) #[.int .i64 q.s, .int .i64 q.n, .int .i64 q.b, .int .i64 q.c, .int .i64 q.a, .int .i64 q.r, .int .i64 q.t, .int .i64 q.y] 64 ∧ Below w.heap.size w (w2.setCells (w.heap.size + 1 + 1) 0 (#[.int .i64 q.s, .int .i64 q.n, .int .i64 q.b, .int .i64 q.c, .int .i64 q.a, .int .i64 q.r, .int .i64 q.t, .int .i64 q.y] : Array Value).toList)) := ⟨blk_put_all HR1.out _ rfl, below_put (by omega) _ _ _ _ HB1.out⟩
          refine wpList_store_mid rfl 64 (.tmp 8) (.tmp 43) rfl (w.heap.size + 1 + 1) 0 #[.int .i64 q.s, .int .i64 q.n, .int .i64 q.b, .int .i64 q.c, .int .i64 q.a, .int .i64 q.r, .int .i64 q.t, .int .i64 q.y] rfl rfl HTH.out (infoI8 rfl) (all_oneCell_toArray (encI.one q)) ?_
          generalize World.setCells w2 _ _ _ = w3 at *
          clear HTH HR1 HQ1 HD1 HM1 HB1 a0 c5 q0 q1 q2 q3 q4 q5 q6 q7
          go_wp2_with fail
          have hf := HF.out.1
          refine bodyPost_ret (v := .tuple #[.agg #[.int .i64 q.s, .int .i64 q.n, .int .i64 q.b, .int .i64 q.c, .int .i64 q.a, .int .i64 q.r, .int .i64 q.t, .int .i64 q.y], .int .i64 90]) (by simp [results, Try.results51, go_sem, hf.cell 0, hf.cell 1, hf.cell 2, hf.cell 3, hf.cell 4, hf.cell 5, hf.cell 6, hf.cell 7]) rfl ⟨rfl, HF.out.2⟩
      · have ha : betwA d m.s m.n m.r se bu = (q, 140) := by unfold betwA; rw [hf]; dsimp only; rw [if_pos (.inr h2)]
        have b1 : (q.s != se) = false := by simpa using h1
        have b2 : (q.b != bu) = true := by simpa using h2
        clear h1 h2
        have HG := Lib.hid (dget_any (((w.alloc (.cells #[.int .i64 d.me, .slice pi d.xs.length ci, .slice po d.os.length co, .int .i64 d.far] 29)).alloc (.cells #[.int .i64 m.k, .int .i64 m.s, .int .i64 m.n, .int .i64 m.b, .int .i64 m.c, .int .i64 m.r, .int .i64 m.y, .int .i64 m.a, .bool m.t, vl, vn] 40)).alloc (.cells #[.int .i64 0, .int .i64 0, .int .i64 0, .int .i64 0, .int .i64 0, .int .i64 0, .int .i64 0, .int .i64 0] 64)) d.me pi po d.xs.length ci d.os.length co m.s m.n d.xs (h.items.kept HT.out.low) rfl h.sx (by have := h.nx; omega))
        rw [hf] at HG
        rw [ha]
        clear ha
        clear h hf
        unfold bookV idV at HG
        simp only [Option.getD_some, Option.isSome_some] at HG
        unfold Itm.v at HG
        unfold deskV Msg.v
        go_enter Try.func51, Try.ntmps51
        go_upto_region 1 with fail
        generalize (((w.alloc (.cells #[.int .i64 d.me, .slice pi d.xs.length ci, .slice po d.os.length co, .int .i64 d.far] 29)).alloc (.cells #[.int .i64 m.k, .int .i64 m.s, .int .i64 m.n, .int .i64 m.b, .int .i64 m.c, .int .i64 m.r, .int .i64 m.y, .int .i64 m.a, .bool m.t, vl, vn] 40)).alloc (.cells #[.int .i64 0, .int .i64 0, .int .i64 0, .int .i64 0, .int .i64 0, .int .i64 0, .int .i64 0, .int .i64 0] 64)) = W at *
        have a0 : W.cell? ⟨w.heap.size, 0, none⟩ = some (.int .i64 d.me) := HT.out.b0.cell 0
        have a1 : W.cell? ⟨w.heap.size, 1, none⟩ = some (.slice pi d.xs.length ci) := HT.out.b0.cell 1
        have a2 : W.cell? ⟨w.heap.size, 2, none⟩ = some (.slice po d.os.length co) := HT.out.b0.cell 2
        have c1 : W.cell? ⟨w.heap.size + 1, 1, none⟩ = some (.int .i64 m.s) := HT.out.b1.cell 1
        have c2 : W.cell? ⟨w.heap.size + 1, 2, none⟩ = some (.int .i64 m.n) := HT.out.b1.cell 2
        go_wp2_with fail
        clear a0 a1 a2 c1 c2
        refine HG.out.mono ?_
        rintro y w1 ⟨rfl, hb⟩
        have HB1 := Lib.hid ((HT.out.low.trans (hb.mono HT.out.low.size)).alloc (HT.out.low.trans (hb.mono HT.out.low.size)).size (.cells #[.int .i64 q.s, .int .i64 q.n, .int .i64 q.b, .int .i64 q.c, .int .i64 q.a, .int .i64 q.r, .int .i64 q.t, .int .i64 q.y] 64))
        have HD1 : Hid (Blk (w1.alloc (.cells #[.int .i64 q.s, .int .i64 q.n, .int .i64 q.b, .int .i64 q.c, .int .i64 q.a, .int .i64 q.r, .int .i64 q.t, .int .i64 q.y] 64)) w.heap.size #[.int .i64 d.me, .slice pi d.xs.length ci, .slice po d.os.length co, .int .i64 d.far] 29) := (HT.out.b0.below hb HT.out.b0.lt).alloc _
        have HM1 : Hid (Blk (w1.alloc (.cells #[.int .i64 q.s, .int .i64 q.n, .int .i64 q.b, .int .i64 q.c, .int .i64 q.a, .int .i64 q.r, .int .i64 q.t, .int .i64 q.y] 64)) (w.heap.size + 1) #[.int .i64 m.k, .int .i64 m.s, .int .i64 m.n, .int .i64 m.b, .int .i64 m.c, .int .i64 m.r, .int .i64 m.y, .int .i64 m.a, .bool m.t, vl, vn] 40) := (HT.out.b1.below hb HT.out.b1.lt).alloc _
        have HR1 : Hid (Blk (w1.alloc (.cells #[.int .i64 q.s, .int .i64 q.n, .int .i64 q.b, .int .i64 q.c, .int .i64 q.a, .int .i64 q.r, .int .i64 q.t, .int .i64 q.y] 64)) (w.heap.size + 1 + 1) #[.int .i64 0, .int .i64 0, .int .i64 0, .int .i64 0, .int .i64 0, .int .i64 0, .int .i64 0, .int .i64 0] 64) := (HT.out.b2.below hb HT.out.b2.lt).alloc _
        have HQ1 := Lib.hid (Blk.new w1 #[.int .i64 q.s, .int .i64 q.n, .int .i64 q.b, .int .i64 q.c, .int .i64 q.a, .int .i64 q.r, .int .i64 q.t, .int .i64 q.y] 64)
        clear hb HG HT
        go_upto_region 2 with fail
        generalize w1.alloc (.cells #[.int .i64 q.s, .int .i64 q.n, .int .i64 q.b, .int .i64 q.c, .int .i64 q.a, .int .i64 q.r, .int .i64 q.t, .int .i64 q.y] 64) = w2 at *
        generalize w1.heap.size = gq at *
        have q0 : w2.cell? ⟨gq, 0, none⟩ = some (.int .i64 q.s) := HQ1.out.cell 0
        have q1 : w2.cell? ⟨gq, 1, none⟩ = some (.int .i64 q.n) := HQ1.out.cell 1
        have q2 : w2.cell? ⟨gq, 2, none⟩ = some (.int .i64 q.b) := HQ1.out.cell 2
        have q3 : w2.cell? ⟨gq, 3, none⟩ = some (.int .i64 q.c) := HQ1.out.cell 3
        have q4 : w2.cell? ⟨gq, 4, none⟩ = some (.int .i64 q.a) := HQ1.out.cell 4
        have q5 : w2.cell? ⟨gq, 5, none⟩ = some (.int .i64 q.r) := HQ1.out.cell 5
        have q6 : w2.cell? ⟨gq, 6, none⟩ = some (.int .i64 q.t) := HQ1.out.cell 6
        have q7 : w2.cell? ⟨gq, 7, none⟩ = some (.int .i64 q.y) := HQ1.out.cell 7
        have a0 : w2.cell? ⟨w.heap.size, 0, none⟩ = some (.int .i64 d.me) := HD1.out.cell 0
        have c5 : w2.cell? ⟨w.heap.size + 1, 5, none⟩ = some (.int .i64 m.r) := HM1.out.cell 5
        go_wp2_with (with_reducible refine stop_storeT 64 (.tmp 8) (.tmp 36) rfl ?_)
        have HTH : Hid (w2.there (w.heap.size + 1 + 1) 0 8) := HR1.out.thereAt
        have HF : Hid (Blk (w2.setCells (w.heap.size + 1 + 1) 0 (#[.int .i64 q.s, .int .i64 q.n, .int .i64 q.b, .int .i64 q.c, .int .i64 q.a, .int .i64 q.r, .int .i64 q.t, .int .i64 q.y] : Array Value).toList) (w.heap.size + 1 + 1) #[.int .i64 q.s, .int .i64 q.n, .int .i64 q.b, .int .i64 q.c, .int .i64 q.a, .int .i64 q.r, .int .i64 q.t, .int .i64 q.y] 64 ∧ Below w.heap.size w (w2.setCells (w.heap.size + 1 + 1) 0 (#[.int .i64 q.s, .int .i64 q.n, .int .i64 q.b, .int .i64 q.c, .int .i64 q.a, .int .i64 q.r, .int .i64 q.t, .int .i64 q.y] : Array Value).toList)) := ⟨blk_put_all HR1.out _ rfl, below_put (by omega) _ _ _ _ HB1.out⟩
        refine wpList_store_mid rfl 64 (.tmp 8) (.tmp 36) rfl (w.heap.size + 1 + 1) 0 #[.int .i64 q.s, .int .i64 q.n, .int .i64 q.b, .int .i64 q.c, .int .i64 q.a, .int .i64 q.r, .int .i64 q.t, .int .i64 q.y] rfl rfl HTH.out (infoI8 rfl) (all_oneCell_toArray (encI.one q)) ?_
        generalize World.setCells w2 _ _ _ = w3 at *
        clear HTH HR1 HQ1 HD1 HM1 HB1 a0 c5 q0 q1 q2 q3 q4 q5 q6 q7
        go_wp2_with fail
        have hf := HF.out.1
        refine bodyPost_ret (v := .tuple #[.agg #[.int .i64 q.s, .int .i64 q.n, .int .i64 q.b, .int .i64 q.c, .int .i64 q.a, .int .i64 q.r, .int .i64 q.t, .int .i64 q.y], .int .i64 140]) (by simp [results, Try.results51, go_sem, hf.cell 0, hf.cell 1, hf.cell 2, hf.cell 3, hf.cell 4, hf.cell 5, hf.cell 6, hf.cell 7]) rfl ⟨rfl, HF.out.2⟩
    · have ha : betwA d m.s m.n m.r se bu = (q, 140) := by unfold betwA; rw [hf]; dsimp only; rw [if_pos (.inl h1)]
      have b1 : (q.s != se) = true := by simpa using h1
      clear h1
      have HG := Lib.hid (dget_any (((w.alloc (.cells #[.int .i64 d.me, .slice pi d.xs.length ci, .slice po d.os.length co, .int .i64 d.far] 29)).alloc (.cells #[.int .i64 m.k, .int .i64 m.s, .int .i64 m.n, .int .i64 m.b, .int .i64 m.c, .int .i64 m.r, .int .i64 m.y, .int .i64 m.a, .bool m.t, vl, vn] 40)).alloc (.cells #[.int .i64 0, .int .i64 0, .int .i64 0, .int .i64 0, .int .i64 0, .int .i64 0, .int .i64 0, .int .i64 0] 64)) d.me pi po d.xs.length ci d.os.length co m.s m.n d.xs (h.items.kept HT.out.low) rfl h.sx (by have := h.nx; omega))
      rw [hf] at HG
      rw [ha]
      clear ha
      clear h hf
      unfold bookV idV at HG
      simp only [Option.getD_some, Option.isSome_some] at HG
      unfold Itm.v at HG
      unfold deskV Msg.v
      go_enter Try.func51, Try.ntmps51
      go_upto_region 1 with fail
      generalize (((w.alloc (.cells #[.int .i64 d.me, .slice pi d.xs.length ci, .slice po d.os.length co, .int .i64 d.far] 29)).alloc (.cells #[.int .i64 m.k, .int .i64 m.s, .int .i64 m.n, .int .i64 m.b, .int .i64 m.c, .int .i64 m.r, .int .i64 m.y, .int .i64 m.a, .bool m.t, vl, vn] 40)).alloc (.cells #[.int .i64 0, .int .i64 0, .int .i64 0, .int .i64 0, .int .i64 0, .int .i64 0, .int .i64 0, .int .i64 0] 64)) = W at *
      have a0 : W.cell? ⟨w.heap.size, 0, none⟩ = some (.int .i64 d.me) := HT.out.b0.cell 0
      have a1 : W.cell? ⟨w.heap.size, 1, none⟩ = some (.slice pi d.xs.length ci) := HT.out.b0.cell 1
      have a2 : W.cell? ⟨w.heap.size, 2, none⟩ = some (.slice po d.os.length co) := HT.out.b0.cell 2
      have c1 : W.cell? ⟨w.heap.size + 1, 1, none⟩ = some (.int .i64 m.s) := HT.out.b1.cell 1
      have c2 : W.cell? ⟨w.heap.size + 1, 2, none⟩ = some (.int .i64 m.n) := HT.out.b1.cell 2
      go_wp2_with fail
      clear a0 a1 a2 c1 c2
      refine HG.out.mono ?_
      rintro y w1 ⟨rfl, hb⟩
      have HB1 := Lib.hid ((HT.out.low.trans (hb.mono HT.out.low.size)).alloc (HT.out.low.trans (hb.mono HT.out.low.size)).size (.cells #[.int .i64 q.s, .int .i64 q.n, .int .i64 q.b, .int .i64 q.c, .int .i64 q.a, .int .i64 q.r, .int .i64 q.t, .int .i64 q.y] 64))
      have HD1 : Hid (Blk (w1.alloc (.cells #[.int .i64 q.s, .int .i64 q.n, .int .i64 q.b, .int .i64 q.c, .int .i64 q.a, .int .i64 q.r, .int .i64 q.t, .int .i64 q.y] 64)) w.heap.size #[.int .i64 d.me, .slice pi d.xs.length ci, .slice po d.os.length co, .int .i64 d.far] 29) := (HT.out.b0.below hb HT.out.b0.lt).alloc _
      have HM1 : Hid (Blk (w1.alloc (.cells #[.int .i64 q.s, .int .i64 q.n, .int .i64 q.b, .int .i64 q.c, .int .i64 q.a, .int .i64 q.r, .int .i64 q.t, .int .i64 q.y] 64)) (w.heap.size + 1) #[.int .i64 m.k, .int .i64 m.s, .int .i64 m.n, .int .i64 m.b, .int .i64 m.c, .int .i64 m.r, .int .i64 m.y, .int .i64 m.a, .bool m.t, vl, vn] 40) := (HT.out.b1.below hb HT.out.b1.lt).alloc _
      have HR1 : Hid (Blk (w1.alloc (.cells #[.int .i64 q.s, .int .i64 q.n, .int .i64 q.b, .int .i64 q.c, .int .i64 q.a, .int .i64 q.r, .int .i64 q.t, .int .i64 q.y] 64)) (w.heap.size + 1 + 1) #[.int .i64 0, .int .i64 0, .int .i64 0, .int .i64 0, .int .i64 0, .int .i64 0, .int .i64 0, .int .i64 0] 64) := (HT.out.b2.below hb HT.out.b2.lt).alloc _
      have HQ1 := Lib.hid (Blk.new w1 #[.int .i64 q.s, .int .i64 q.n, .int .i64 q.b, .int .i64 q.c, .int .i64 q.a, .int .i64 q.r, .int .i64 q.t, .int .i64 q.y] 64)
      clear hb HG HT
      go_upto_region 2 with fail
      generalize w1.alloc (.cells #[.int .i64 q.s, .int .i64 q.n, .int .i64 q.b, .int .i64 q.c, .int .i64 q.a, .int .i64 q.r, .int .i64 q.t, .int .i64 q.y] 64) = w2 at *
      generalize w1.heap.size = gq at *
      have q0 : w2.cell? ⟨gq, 0, none⟩ = some (.int .i64 q.s) := HQ1.out.cell 0
      have q1 : w2.cell? ⟨gq, 1, none⟩ = some (.int .i64 q.n) := HQ1.out.cell 1
      have q2 : w2.cell? ⟨gq, 2, none⟩ = some (.int .i64 q.b) := HQ1.out.cell 2
      have q3 : w2.cell? ⟨gq, 3, none⟩ = some (.int .i64 q.c) := HQ1.out.cell 3
      have q4 : w2.cell? ⟨gq, 4, none⟩ = some (.int .i64 q.a) := HQ1.out.cell 4
      have q5 : w2.cell? ⟨gq, 5, none⟩ = some (.int .i64 q.r) := HQ1.out.cell 5
      have q6 : w2.cell? ⟨gq, 6, none⟩ = some (.int .i64 q.t) := HQ1.out.cell 6
      have q7 : w2.cell? ⟨gq, 7, none⟩ = some (.int .i64 q.y) := HQ1.out.cell 7
      have a0 : w2.cell? ⟨w.heap.size, 0, none⟩ = some (.int .i64 d.me) := HD1.out.cell 0
      have c5 : w2.cell? ⟨w.heap.size + 1, 5, none⟩ = some (.int .i64 m.r) := HM1.out.cell 5
      go_wp2_with (with_reducible refine stop_storeT 64 (.tmp 8) (.tmp 36) rfl ?_)
      have HTH : Hid (w2.there (w.heap.size + 1 + 1) 0 8) := HR1.out.thereAt
      have HF : Hid (Blk (w2.setCells (w.heap.size + 1 + 1) 0 (#[.int .i64 q.s, .int .i64 q.n, .int .i64 q.b, .int .i64 q.c, .int .i64 q.a, .int .i64 q.r, .int .i64 q.t, .int .i64 q.y] : Array Value).toList) (w.heap.size + 1 + 1) #[.int .i64 q.s, .int .i64 q.n, .int .i64 q.b, .int .i64 q.c, .int .i64 q.a, .int .i64 q.r, .int .i64 q.t, .int .i64 q.y] 64 ∧ Below w.heap.size w (w2.setCells (w.heap.size + 1 + 1) 0 (#[.int .i64 q.s, .int .i64 q.n, .int .i64 q.b, .int .i64 q.c, .int .i64 q.a, .int .i64 q.r, .int .i64 q.t, .int .i64 q.y] : Array Value).toList)) := ⟨blk_put_all HR1.out _ rfl, below_put (by omega) _ _ _ _ HB1.out⟩
      refine wpList_store_mid rfl 64 (.tmp 8) (.tmp 36) rfl (w.heap.size + 1 + 1) 0 #[.int .i64 q.s, .int .i64 q.n, .int .i64 q.b, .int .i64 q.c, .int .i64 q.a, .int .i64 q.r, .int .i64 q.t, .int .i64 q.y] rfl rfl HTH.out (infoI8 rfl) (all_oneCell_toArray (encI.one q)) ?_
      generalize World.setCells w2 _ _ _ = w3 at *
      clear HTH HR1 HQ1 HD1 HM1 HB1 a0 c5 q0 q1 q2 q3 q4 q5 q6 q7
      go_wp2_with fail
      have hf := HF.out.1
      refine bodyPost_ret (v := .tuple #[.agg #[.int .i64 q.s, .int .i64 q.n, .int .i64 q.b, .int .i64 q.c, .int .i64 q.a, .int .i64 q.r, .int .i64 q.t, .int .i64 q.y], .int .i64 140]) (by simp [results, Try.results51, go_sem, hf.cell 0, hf.cell 1, hf.cell 2, hf.cell 3, hf.cell 4, hf.cell 5, hf.cell 6, hf.cell 7]) rfl ⟨rfl, HF.out.2⟩
end Go.Proofs.Ytbpfbebebppleaa
namespace Go.Proofs.Ytbpfbebebppleaa
open Go.RowKit
end Go.Proofs.Ytbpfbebebppleaa
namespace Go.Proofs.Ytbpfbebebppleaa
open Go.RowKit
set_option linter.unusedSimpArgs false
/-- Is that the next thing that can happen to the item? -/
def followsB (d : Dsk) (x : Itm) : Bool :=
  match findX d.xs x.s x.n with
  | none => x.r == 0
  | some q => (q.t == 2) && ((q.r + 1 == x.r) && (q.c == x.c))
/-- Is about that amount expected for it? -/
def expectsB (d : Dsk) (x : Itm) : Bool :=
  match findO d.os x.s x.n with
  | none => false
  | some o => nearB o.a x.a d.far
set_option linter.unusedSimpArgs false in
set_option maxHeartbeats 4000000 in
set_option maxRecDepth 100000 in
theorem follows_any (w : World) (d : Dsk) (pi po : Option Addr) (ci co : Nat) (x : Itm) (h : DRow w d pi ci po co) (hq : ∀ q, findX d.xs x.s x.n = some q → -1000 ≤ q.r ∧ q.r ≤ 1000) : Calls Try.prog 46 #[(deskV d.me pi d.xs.length ci po d.os.length co d.far), x.v] w fun e w' => e = .returned (.bool (followsB d x)) ∧ Below w.heap.size w w' := by
  have HB := Lib.hid ((oneB w (.cells #[.int .i64 d.me, .slice pi d.xs.length ci, .slice po d.os.length co, .int .i64 d.far] 29)).trans ((oneB (w.alloc (.cells #[.int .i64 d.me, .slice pi d.xs.length ci, .slice po d.os.length co, .int .i64 d.far] 29)) (.cells #[.int .i64 x.s, .int .i64 x.n, .int .i64 x.b, .int .i64 x.c, .int .i64 x.a, .int .i64 x.r, .int .i64 x.t, .int .i64 x.y] 64)).mono (by simp)))
  have HD := Lib.hid ((Blk.new w #[.int .i64 d.me, .slice pi d.xs.length ci, .slice po d.os.length co, .int .i64 d.far] 29).alloc (.cells #[.int .i64 x.s, .int .i64 x.n, .int .i64 x.b, .int .i64 x.c, .int .i64 x.a, .int .i64 x.r, .int .i64 x.t, .int .i64 x.y] 64))
  have HI := Lib.hid (Blk.new' (w.alloc (.cells #[.int .i64 d.me, .slice pi d.xs.length ci, .slice po d.os.length co, .int .i64 d.far] 29)) #[.int .i64 x.s, .int .i64 x.n, .int .i64 x.b, .int .i64 x.c, .int .i64 x.a, .int .i64 x.r, .int .i64 x.t, .int .i64 x.y] 64 (b := w.heap.size + 1) (by simp))
  unfold followsB
  cases hf : findX d.xs x.s x.n with
  | none =>
    clear hq
    have HG := Lib.hid (dget_any ((w.alloc (.cells #[.int .i64 d.me, .slice pi d.xs.length ci, .slice po d.os.length co, .int .i64 d.far] 29)).alloc (.cells #[.int .i64 x.s, .int .i64 x.n, .int .i64 x.b, .int .i64 x.c, .int .i64 x.a, .int .i64 x.r, .int .i64 x.t, .int .i64 x.y] 64)) d.me pi po d.xs.length ci d.os.length co x.s x.n d.xs (h.items.kept HB.out) rfl h.sx (by have := h.nx; omega))
    rw [hf] at HG
    clear h hf
    unfold bookV idV at HG
    simp only [Option.getD_none, Option.isSome_none, Option.getD_some, Option.isSome_some, Option.map_none, Option.map_some, itm0] at HG
    try unfold Itm.v at HG
    unfold deskV Itm.v
    go_enter Try.func46, Try.ntmps46
    go_upto_region 1 with fail
    generalize ((w.alloc (.cells #[.int .i64 d.me, .slice pi d.xs.length ci, .slice po d.os.length co, .int .i64 d.far] 29)).alloc (.cells #[.int .i64 x.s, .int .i64 x.n, .int .i64 x.b, .int .i64 x.c, .int .i64 x.a, .int .i64 x.r, .int .i64 x.t, .int .i64 x.y] 64)) = W at *
    have a0 : W.cell? ⟨w.heap.size, 0, none⟩ = some (.int .i64 d.me) := HD.out.cell 0
    have a1 : W.cell? ⟨w.heap.size, 1, none⟩ = some (.slice pi d.xs.length ci) := HD.out.cell 1
    have a2 : W.cell? ⟨w.heap.size, 2, none⟩ = some (.slice po d.os.length co) := HD.out.cell 2
    have c0 : W.cell? ⟨w.heap.size + 1, 0, none⟩ = some (.int .i64 x.s) := HI.out.cell 0
    have c1 : W.cell? ⟨w.heap.size + 1, 1, none⟩ = some (.int .i64 x.n) := HI.out.cell 1
    go_wp2_with fail
    clear a0 a1 a2 c0 c1
    refine HG.out.mono ?_
    rintro y w1 ⟨rfl, hb⟩
    have HB1 := Lib.hid ((HB.out.trans (hb.mono HB.out.size)).alloc (HB.out.trans (hb.mono HB.out.size)).size (.cells #[.int .i64 0, .int .i64 0, .int .i64 0, .int .i64 0, .int .i64 0, .int .i64 0, .int .i64 0, .int .i64 0] 64))
    have HI1 : Hid (Blk (w1.alloc (.cells #[.int .i64 0, .int .i64 0, .int .i64 0, .int .i64 0, .int .i64 0, .int .i64 0, .int .i64 0, .int .i64 0] 64)) (w.heap.size + 1) #[.int .i64 x.s, .int .i64 x.n, .int .i64 x.b, .int .i64 x.c, .int .i64 x.a, .int .i64 x.r, .int .i64 x.t, .int .i64 x.y] 64) := (HI.out.below hb HI.out.lt).alloc _
    have HQ1 := Lib.hid (Blk.new w1 #[.int .i64 0, .int .i64 0, .int .i64 0, .int .i64 0, .int .i64 0, .int .i64 0, .int .i64 0, .int .i64 0] 64)
    clear hb HG HD HI HB
    go_upto_region 2 with fail
    generalize w1.alloc (.cells #[.int .i64 0, .int .i64 0, .int .i64 0, .int .i64 0, .int .i64 0, .int .i64 0, .int .i64 0, .int .i64 0] 64) = w2 at *
    generalize w1.heap.size = gq at *
    have q0 : w2.cell? ⟨gq, 0, none⟩ = some (.int .i64 0) := HQ1.out.cell 0
    have q1 : w2.cell? ⟨gq, 1, none⟩ = some (.int .i64 0) := HQ1.out.cell 1
    have q2 : w2.cell? ⟨gq, 2, none⟩ = some (.int .i64 0) := HQ1.out.cell 2
    have q3 : w2.cell? ⟨gq, 3, none⟩ = some (.int .i64 0) := HQ1.out.cell 3
    have q4 : w2.cell? ⟨gq, 4, none⟩ = some (.int .i64 0) := HQ1.out.cell 4
    have q5 : w2.cell? ⟨gq, 5, none⟩ = some (.int .i64 0) := HQ1.out.cell 5
    have q6 : w2.cell? ⟨gq, 6, none⟩ = some (.int .i64 0) := HQ1.out.cell 6
    have q7 : w2.cell? ⟨gq, 7, none⟩ = some (.int .i64 0) := HQ1.out.cell 7
    have c2 : w2.cell? ⟨w.heap.size + 1, 4, none⟩ = some (.int .i64 x.a) := HI1.out.cell 4
    have c5 : w2.cell? ⟨w.heap.size + 1, 5, none⟩ = some (.int .i64 x.r) := HI1.out.cell 5
    have c3 : w2.cell? ⟨w.heap.size + 1, 3, none⟩ = some (.int .i64 x.c) := HI1.out.cell 3
    go_wp2_with fail
    go_ret
    exact ⟨by first | rfl | simp [*], HB1.out⟩
  | some q =>
    have f1 : -9223372036854775808 ≤ q.r + 1 := by have := hq q hf; omega
    have f2 : q.r + 1 ≤ 9223372036854775807 := by have := hq q hf; omega
    clear hq
    dsimp only
    cases hb1 : (q.t == 2)
    · skip
      have HG := Lib.hid (dget_any ((w.alloc (.cells #[.int .i64 d.me, .slice pi d.xs.length ci, .slice po d.os.length co, .int .i64 d.far] 29)).alloc (.cells #[.int .i64 x.s, .int .i64 x.n, .int .i64 x.b, .int .i64 x.c, .int .i64 x.a, .int .i64 x.r, .int .i64 x.t, .int .i64 x.y] 64)) d.me pi po d.xs.length ci d.os.length co x.s x.n d.xs (h.items.kept HB.out) rfl h.sx (by have := h.nx; omega))
      rw [hf] at HG
      clear h hf
      unfold bookV idV at HG
      simp only [Option.getD_none, Option.isSome_none, Option.getD_some, Option.isSome_some, Option.map_none, Option.map_some, itm0] at HG
      try unfold Itm.v at HG
      unfold deskV Itm.v
      go_enter Try.func46, Try.ntmps46
      go_upto_region 1 with fail
      generalize ((w.alloc (.cells #[.int .i64 d.me, .slice pi d.xs.length ci, .slice po d.os.length co, .int .i64 d.far] 29)).alloc (.cells #[.int .i64 x.s, .int .i64 x.n, .int .i64 x.b, .int .i64 x.c, .int .i64 x.a, .int .i64 x.r, .int .i64 x.t, .int .i64 x.y] 64)) = W at *
      have a0 : W.cell? ⟨w.heap.size, 0, none⟩ = some (.int .i64 d.me) := HD.out.cell 0
      have a1 : W.cell? ⟨w.heap.size, 1, none⟩ = some (.slice pi d.xs.length ci) := HD.out.cell 1
      have a2 : W.cell? ⟨w.heap.size, 2, none⟩ = some (.slice po d.os.length co) := HD.out.cell 2
      have c0 : W.cell? ⟨w.heap.size + 1, 0, none⟩ = some (.int .i64 x.s) := HI.out.cell 0
      have c1 : W.cell? ⟨w.heap.size + 1, 1, none⟩ = some (.int .i64 x.n) := HI.out.cell 1
      go_wp2_with fail
      clear a0 a1 a2 c0 c1
      refine HG.out.mono ?_
      rintro y w1 ⟨rfl, hb⟩
      have HB1 := Lib.hid ((HB.out.trans (hb.mono HB.out.size)).alloc (HB.out.trans (hb.mono HB.out.size)).size (.cells #[.int .i64 q.s, .int .i64 q.n, .int .i64 q.b, .int .i64 q.c, .int .i64 q.a, .int .i64 q.r, .int .i64 q.t, .int .i64 q.y] 64))
      have HI1 : Hid (Blk (w1.alloc (.cells #[.int .i64 q.s, .int .i64 q.n, .int .i64 q.b, .int .i64 q.c, .int .i64 q.a, .int .i64 q.r, .int .i64 q.t, .int .i64 q.y] 64)) (w.heap.size + 1) #[.int .i64 x.s, .int .i64 x.n, .int .i64 x.b, .int .i64 x.c, .int .i64 x.a, .int .i64 x.r, .int .i64 x.t, .int .i64 x.y] 64) := (HI.out.below hb HI.out.lt).alloc _
      have HQ1 := Lib.hid (Blk.new w1 #[.int .i64 q.s, .int .i64 q.n, .int .i64 q.b, .int .i64 q.c, .int .i64 q.a, .int .i64 q.r, .int .i64 q.t, .int .i64 q.y] 64)
      clear hb HG HD HI HB
      go_upto_region 2 with fail
      generalize w1.alloc (.cells #[.int .i64 q.s, .int .i64 q.n, .int .i64 q.b, .int .i64 q.c, .int .i64 q.a, .int .i64 q.r, .int .i64 q.t, .int .i64 q.y] 64) = w2 at *
      generalize w1.heap.size = gq at *
      have q0 : w2.cell? ⟨gq, 0, none⟩ = some (.int .i64 q.s) := HQ1.out.cell 0
      have q1 : w2.cell? ⟨gq, 1, none⟩ = some (.int .i64 q.n) := HQ1.out.cell 1
      have q2 : w2.cell? ⟨gq, 2, none⟩ = some (.int .i64 q.b) := HQ1.out.cell 2
      have q3 : w2.cell? ⟨gq, 3, none⟩ = some (.int .i64 q.c) := HQ1.out.cell 3
      have q4 : w2.cell? ⟨gq, 4, none⟩ = some (.int .i64 q.a) := HQ1.out.cell 4
      have q5 : w2.cell? ⟨gq, 5, none⟩ = some (.int .i64 q.r) := HQ1.out.cell 5
      have q6 : w2.cell? ⟨gq, 6, none⟩ = some (.int .i64 q.t) := HQ1.out.cell 6
      have q7 : w2.cell? ⟨gq, 7, none⟩ = some (.int .i64 q.y) := HQ1.out.cell 7
      have c2 : w2.cell? ⟨w.heap.size + 1, 4, none⟩ = some (.int .i64 x.a) := HI1.out.cell 4
      have c5 : w2.cell? ⟨w.heap.size + 1, 5, none⟩ = some (.int .i64 x.r) := HI1.out.cell 5
      have c3 : w2.cell? ⟨w.heap.size + 1, 3, none⟩ = some (.int .i64 x.c) := HI1.out.cell 3
      go_wp2_with fail
      go_ret
      exact ⟨by first | rfl | simp [*], HB1.out⟩
    · cases hb2 : (q.r + 1 == x.r)
      · skip
        have HG := Lib.hid (dget_any ((w.alloc (.cells #[.int .i64 d.me, .slice pi d.xs.length ci, .slice po d.os.length co, .int .i64 d.far] 29)).alloc (.cells #[.int .i64 x.s, .int .i64 x.n, .int .i64 x.b, .int .i64 x.c, .int .i64 x.a, .int .i64 x.r, .int .i64 x.t, .int .i64 x.y] 64)) d.me pi po d.xs.length ci d.os.length co x.s x.n d.xs (h.items.kept HB.out) rfl h.sx (by have := h.nx; omega))
        rw [hf] at HG
        clear h hf
        unfold bookV idV at HG
        simp only [Option.getD_none, Option.isSome_none, Option.getD_some, Option.isSome_some, Option.map_none, Option.map_some, itm0] at HG
        try unfold Itm.v at HG
        unfold deskV Itm.v
        go_enter Try.func46, Try.ntmps46
        go_upto_region 1 with fail
        generalize ((w.alloc (.cells #[.int .i64 d.me, .slice pi d.xs.length ci, .slice po d.os.length co, .int .i64 d.far] 29)).alloc (.cells #[.int .i64 x.s, .int .i64 x.n, .int .i64 x.b, .int .i64 x.c, .int .i64 x.a, .int .i64 x.r, .int .i64 x.t, .int .i64 x.y] 64)) = W at *
        have a0 : W.cell? ⟨w.heap.size, 0, none⟩ = some (.int .i64 d.me) := HD.out.cell 0
        have a1 : W.cell? ⟨w.heap.size, 1, none⟩ = some (.slice pi d.xs.length ci) := HD.out.cell 1
        have a2 : W.cell? ⟨w.heap.size, 2, none⟩ = some (.slice po d.os.length co) := HD.out.cell 2
        have c0 : W.cell? ⟨w.heap.size + 1, 0, none⟩ = some (.int .i64 x.s) := HI.out.cell 0
        have c1 : W.cell? ⟨w.heap.size + 1, 1, none⟩ = some (.int .i64 x.n) := HI.out.cell 1
        go_wp2_with fail
        clear a0 a1 a2 c0 c1
        refine HG.out.mono ?_
        rintro y w1 ⟨rfl, hb⟩
        have HB1 := Lib.hid ((HB.out.trans (hb.mono HB.out.size)).alloc (HB.out.trans (hb.mono HB.out.size)).size (.cells #[.int .i64 q.s, .int .i64 q.n, .int .i64 q.b, .int .i64 q.c, .int .i64 q.a, .int .i64 q.r, .int .i64 q.t, .int .i64 q.y] 64))
        have HI1 : Hid (Blk (w1.alloc (.cells #[.int .i64 q.s, .int .i64 q.n, .int .i64 q.b, .int .i64 q.c, .int .i64 q.a, .int .i64 q.r, .int .i64 q.t, .int .i64 q.y] 64)) (w.heap.size + 1) #[.int .i64 x.s, .int .i64 x.n, .int .i64 x.b, .int .i64 x.c, .int .i64 x.a, .int .i64 x.r, .int .i64 x.t, .int .i64 x.y] 64) := (HI.out.below hb HI.out.lt).alloc _
        have HQ1 := Lib.hid (Blk.new w1 #[.int .i64 q.s, .int .i64 q.n, .int .i64 q.b, .int .i64 q.c, .int .i64 q.a, .int .i64 q.r, .int .i64 q.t, .int .i64 q.y] 64)
        clear hb HG HD HI HB
        go_upto_region 2 with fail
        generalize w1.alloc (.cells #[.int .i64 q.s, .int .i64 q.n, .int .i64 q.b, .int .i64 q.c, .int .i64 q.a, .int .i64 q.r, .int .i64 q.t, .int .i64 q.y] 64) = w2 at *
        generalize w1.heap.size = gq at *
        have q0 : w2.cell? ⟨gq, 0, none⟩ = some (.int .i64 q.s) := HQ1.out.cell 0
        have q1 : w2.cell? ⟨gq, 1, none⟩ = some (.int .i64 q.n) := HQ1.out.cell 1
        have q2 : w2.cell? ⟨gq, 2, none⟩ = some (.int .i64 q.b) := HQ1.out.cell 2
        have q3 : w2.cell? ⟨gq, 3, none⟩ = some (.int .i64 q.c) := HQ1.out.cell 3
        have q4 : w2.cell? ⟨gq, 4, none⟩ = some (.int .i64 q.a) := HQ1.out.cell 4
        have q5 : w2.cell? ⟨gq, 5, none⟩ = some (.int .i64 q.r) := HQ1.out.cell 5
        have q6 : w2.cell? ⟨gq, 6, none⟩ = some (.int .i64 q.t) := HQ1.out.cell 6
        have q7 : w2.cell? ⟨gq, 7, none⟩ = some (.int .i64 q.y) := HQ1.out.cell 7
        have c2 : w2.cell? ⟨w.heap.size + 1, 4, none⟩ = some (.int .i64 x.a) := HI1.out.cell 4
        have c5 : w2.cell? ⟨w.heap.size + 1, 5, none⟩ = some (.int .i64 x.r) := HI1.out.cell 5
        have c3 : w2.cell? ⟨w.heap.size + 1, 3, none⟩ = some (.int .i64 x.c) := HI1.out.cell 3
        go_wp2_with fail
        go_ret
        exact ⟨by first | rfl | simp [*], HB1.out⟩
      · skip
        have HG := Lib.hid (dget_any ((w.alloc (.cells #[.int .i64 d.me, .slice pi d.xs.length ci, .slice po d.os.length co, .int .i64 d.far] 29)).alloc (.cells #[.int .i64 x.s, .int .i64 x.n, .int .i64 x.b, .int .i64 x.c, .int .i64 x.a, .int .i64 x.r, .int .i64 x.t, .int .i64 x.y] 64)) d.me pi po d.xs.length ci d.os.length co x.s x.n d.xs (h.items.kept HB.out) rfl h.sx (by have := h.nx; omega))
        rw [hf] at HG
        clear h hf
        unfold bookV idV at HG
        simp only [Option.getD_none, Option.isSome_none, Option.getD_some, Option.isSome_some, Option.map_none, Option.map_some, itm0] at HG
        try unfold Itm.v at HG
        unfold deskV Itm.v
        go_enter Try.func46, Try.ntmps46
        go_upto_region 1 with fail
        generalize ((w.alloc (.cells #[.int .i64 d.me, .slice pi d.xs.length ci, .slice po d.os.length co, .int .i64 d.far] 29)).alloc (.cells #[.int .i64 x.s, .int .i64 x.n, .int .i64 x.b, .int .i64 x.c, .int .i64 x.a, .int .i64 x.r, .int .i64 x.t, .int .i64 x.y] 64)) = W at *
        have a0 : W.cell? ⟨w.heap.size, 0, none⟩ = some (.int .i64 d.me) := HD.out.cell 0
        have a1 : W.cell? ⟨w.heap.size, 1, none⟩ = some (.slice pi d.xs.length ci) := HD.out.cell 1
        have a2 : W.cell? ⟨w.heap.size, 2, none⟩ = some (.slice po d.os.length co) := HD.out.cell 2
        have c0 : W.cell? ⟨w.heap.size + 1, 0, none⟩ = some (.int .i64 x.s) := HI.out.cell 0
        have c1 : W.cell? ⟨w.heap.size + 1, 1, none⟩ = some (.int .i64 x.n) := HI.out.cell 1
        go_wp2_with fail
        clear a0 a1 a2 c0 c1
        refine HG.out.mono ?_
        rintro y w1 ⟨rfl, hb⟩
        have HB1 := Lib.hid ((HB.out.trans (hb.mono HB.out.size)).alloc (HB.out.trans (hb.mono HB.out.size)).size (.cells #[.int .i64 q.s, .int .i64 q.n, .int .i64 q.b, .int .i64 q.c, .int .i64 q.a, .int .i64 q.r, .int .i64 q.t, .int .i64 q.y] 64))
        have HI1 : Hid (Blk (w1.alloc (.cells #[.int .i64 q.s, .int .i64 q.n, .int .i64 q.b, .int .i64 q.c, .int .i64 q.a, .int .i64 q.r, .int .i64 q.t, .int .i64 q.y] 64)) (w.heap.size + 1) #[.int .i64 x.s, .int .i64 x.n, .int .i64 x.b, .int .i64 x.c, .int .i64 x.a, .int .i64 x.r, .int .i64 x.t, .int .i64 x.y] 64) := (HI.out.below hb HI.out.lt).alloc _
        have HQ1 := Lib.hid (Blk.new w1 #[.int .i64 q.s, .int .i64 q.n, .int .i64 q.b, .int .i64 q.c, .int .i64 q.a, .int .i64 q.r, .int .i64 q.t, .int .i64 q.y] 64)
        clear hb HG HD HI HB
        go_upto_region 2 with fail
        generalize w1.alloc (.cells #[.int .i64 q.s, .int .i64 q.n, .int .i64 q.b, .int .i64 q.c, .int .i64 q.a, .int .i64 q.r, .int .i64 q.t, .int .i64 q.y] 64) = w2 at *
        generalize w1.heap.size = gq at *
        have q0 : w2.cell? ⟨gq, 0, none⟩ = some (.int .i64 q.s) := HQ1.out.cell 0
        have q1 : w2.cell? ⟨gq, 1, none⟩ = some (.int .i64 q.n) := HQ1.out.cell 1
        have q2 : w2.cell? ⟨gq, 2, none⟩ = some (.int .i64 q.b) := HQ1.out.cell 2
        have q3 : w2.cell? ⟨gq, 3, none⟩ = some (.int .i64 q.c) := HQ1.out.cell 3
        have q4 : w2.cell? ⟨gq, 4, none⟩ = some (.int .i64 q.a) := HQ1.out.cell 4
        have q5 : w2.cell? ⟨gq, 5, none⟩ = some (.int .i64 q.r) := HQ1.out.cell 5
        have q6 : w2.cell? ⟨gq, 6, none⟩ = some (.int .i64 q.t) := HQ1.out.cell 6
        have q7 : w2.cell? ⟨gq, 7, none⟩ = some (.int .i64 q.y) := HQ1.out.cell 7
        have c2 : w2.cell? ⟨w.heap.size + 1, 4, none⟩ = some (.int .i64 x.a) := HI1.out.cell 4
        have c5 : w2.cell? ⟨w.heap.size + 1, 5, none⟩ = some (.int .i64 x.r) := HI1.out.cell 5
        have c3 : w2.cell? ⟨w.heap.size + 1, 3, none⟩ = some (.int .i64 x.c) := HI1.out.cell 3
        go_wp2_with fail
        go_ret
        exact ⟨by first | rfl | simp [*], HB1.out⟩
set_option linter.unusedSimpArgs false in
set_option maxHeartbeats 4000000 in
set_option maxRecDepth 100000 in
theorem expects_any (w : World) (d : Dsk) (pi po : Option Addr) (ci co : Nat) (x : Itm) (h : DRow w d pi ci po co) (ho : ∀ o, findO d.os x.s x.n = some o → Fits o.a) (hx : Fits x.a) (hfar : Fits d.far) : Calls Try.prog 47 #[(deskV d.me pi d.xs.length ci po d.os.length co d.far), x.v] w fun e w' => e = .returned (.bool (expectsB d x)) ∧ Below w.heap.size w w' := by
  have HB := Lib.hid ((oneB w (.cells #[.int .i64 d.me, .slice pi d.xs.length ci, .slice po d.os.length co, .int .i64 d.far] 29)).trans ((oneB (w.alloc (.cells #[.int .i64 d.me, .slice pi d.xs.length ci, .slice po d.os.length co, .int .i64 d.far] 29)) (.cells #[.int .i64 x.s, .int .i64 x.n, .int .i64 x.b, .int .i64 x.c, .int .i64 x.a, .int .i64 x.r, .int .i64 x.t, .int .i64 x.y] 64)).mono (by simp)))
  have HD := Lib.hid ((Blk.new w #[.int .i64 d.me, .slice pi d.xs.length ci, .slice po d.os.length co, .int .i64 d.far] 29).alloc (.cells #[.int .i64 x.s, .int .i64 x.n, .int .i64 x.b, .int .i64 x.c, .int .i64 x.a, .int .i64 x.r, .int .i64 x.t, .int .i64 x.y] 64))
  have HI := Lib.hid (Blk.new' (w.alloc (.cells #[.int .i64 d.me, .slice pi d.xs.length ci, .slice po d.os.length co, .int .i64 d.far] 29)) #[.int .i64 x.s, .int .i64 x.n, .int .i64 x.b, .int .i64 x.c, .int .i64 x.a, .int .i64 x.r, .int .i64 x.t, .int .i64 x.y] 64 (b := w.heap.size + 1) (by simp))
  have HXA := Lib.hid hx
  have HFA := Lib.hid hfar
  clear hx hfar
  unfold expectsB
  cases hf : findO d.os x.s x.n with
  | none =>
    clear ho
    have HG := Lib.hid (dexpected_any ((w.alloc (.cells #[.int .i64 d.me, .slice pi d.xs.length ci, .slice po d.os.length co, .int .i64 d.far] 29)).alloc (.cells #[.int .i64 x.s, .int .i64 x.n, .int .i64 x.b, .int .i64 x.c, .int .i64 x.a, .int .i64 x.r, .int .i64 x.t, .int .i64 x.y] 64)) d.me pi po d.xs.length ci d.os.length co x.s x.n d.os (h.orders.kept HB.out) rfl h.so (by have := h.no; omega))
    rw [hf] at HG
    clear h hf
    unfold bookV idV at HG
    simp only [Option.getD_none, Option.isSome_none, Option.getD_some, Option.isSome_some, Option.map_none, Option.map_some, itm0] at HG
    try unfold Itm.v at HG
    unfold deskV Itm.v
    go_enter Try.func47, Try.ntmps47
    go_upto_region 1 with fail
    generalize ((w.alloc (.cells #[.int .i64 d.me, .slice pi d.xs.length ci, .slice po d.os.length co, .int .i64 d.far] 29)).alloc (.cells #[.int .i64 x.s, .int .i64 x.n, .int .i64 x.b, .int .i64 x.c, .int .i64 x.a, .int .i64 x.r, .int .i64 x.t, .int .i64 x.y] 64)) = W at *
    have a0 : W.cell? ⟨w.heap.size, 0, none⟩ = some (.int .i64 d.me) := HD.out.cell 0
    have a1 : W.cell? ⟨w.heap.size, 1, none⟩ = some (.slice pi d.xs.length ci) := HD.out.cell 1
    have a2 : W.cell? ⟨w.heap.size, 2, none⟩ = some (.slice po d.os.length co) := HD.out.cell 2
    have c0 : W.cell? ⟨w.heap.size + 1, 0, none⟩ = some (.int .i64 x.s) := HI.out.cell 0
    have c1 : W.cell? ⟨w.heap.size + 1, 1, none⟩ = some (.int .i64 x.n) := HI.out.cell 1
    go_wp2_with fail
    clear a0 a1 a2 c0 c1
    refine HG.out.mono ?_
    rintro y w1 ⟨rfl, hb⟩
    have HB1 := Lib.hid (HB.out.trans (hb.mono HB.out.size))
    clear hb HG
    go_wp2_with fail
    go_ret
    exact ⟨rfl, HB1.out⟩
  | some o =>
    rw [hf] at ho
    have HO := Lib.hid ho
    clear ho
    dsimp only
    have HG := Lib.hid (dexpected_any ((w.alloc (.cells #[.int .i64 d.me, .slice pi d.xs.length ci, .slice po d.os.length co, .int .i64 d.far] 29)).alloc (.cells #[.int .i64 x.s, .int .i64 x.n, .int .i64 x.b, .int .i64 x.c, .int .i64 x.a, .int .i64 x.r, .int .i64 x.t, .int .i64 x.y] 64)) d.me pi po d.xs.length ci d.os.length co x.s x.n d.os (h.orders.kept HB.out) rfl h.so (by have := h.no; omega))
    rw [hf] at HG
    clear h hf
    unfold bookV idV at HG
    simp only [Option.getD_none, Option.isSome_none, Option.getD_some, Option.isSome_some, Option.map_none, Option.map_some, itm0] at HG
    try unfold Itm.v at HG
    unfold deskV Itm.v
    go_enter Try.func47, Try.ntmps47
    go_upto_region 1 with fail
    generalize ((w.alloc (.cells #[.int .i64 d.me, .slice pi d.xs.length ci, .slice po d.os.length co, .int .i64 d.far] 29)).alloc (.cells #[.int .i64 x.s, .int .i64 x.n, .int .i64 x.b, .int .i64 x.c, .int .i64 x.a, .int .i64 x.r, .int .i64 x.t, .int .i64 x.y] 64)) = W at *
    have a0 : W.cell? ⟨w.heap.size, 0, none⟩ = some (.int .i64 d.me) := HD.out.cell 0
    have a1 : W.cell? ⟨w.heap.size, 1, none⟩ = some (.slice pi d.xs.length ci) := HD.out.cell 1
    have a2 : W.cell? ⟨w.heap.size, 2, none⟩ = some (.slice po d.os.length co) := HD.out.cell 2
    have c0 : W.cell? ⟨w.heap.size + 1, 0, none⟩ = some (.int .i64 x.s) := HI.out.cell 0
    have c1 : W.cell? ⟨w.heap.size + 1, 1, none⟩ = some (.int .i64 x.n) := HI.out.cell 1
    go_wp2_with fail
    clear a0 a1 a2 c0 c1
    refine HG.out.mono ?_
    rintro y w1 ⟨rfl, hb⟩
    have HB1 := Lib.hid (HB.out.trans (hb.mono HB.out.size))
    have HD1 := Lib.hid (HD.out.below hb HD.out.lt)
    have HI1 := Lib.hid (HI.out.below hb HI.out.lt)
    have a3 : w1.cell? ⟨w.heap.size, 3, none⟩ = some (.int .i64 d.far) := HD1.out.cell 3
    have c4 : w1.cell? ⟨w.heap.size + 1, 4, none⟩ = some (.int .i64 x.a) := HI1.out.cell 4
    clear hb HG
    go_wp2_with fail
    refine (near_any o.a x.a d.far w1 (HO.out o rfl) HXA.out HFA.out).mono ?_
    rintro y w2 ⟨rfl, rfl⟩
    go_wp2_with fail
    go_ret
    exact ⟨rfl, HB1.out⟩
end Go.Proofs.Ytbpfbebebppleaa
