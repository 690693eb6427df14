/- match.Desk's behind by contract: the desk with an item, and what is said about it. A word (who says it, and what) as it is handed in. match.Desk's acts on an item that is there by contract: confirm, cancel, withdraw, adjust. -/
import Derived.Test.YtbpfbebebppleaaMatchD
import Derived.Test.YtbpfbebebppleaaSaidD
import Derived.Test.YtbpfbebebppleaaItem4A
import Derived.Test.YtbpfbebebppleaaApTg
import Derived.Deep.CutRange
import Derived.Deep.CutBlock
import Derived.Test.YtbpfbebebppleaaLiftMsg
import Derived.Test.YtbpfbebebppleaaLiftT
import Derived.Test.YtbpfbebebppleaaItem5A
namespace Go.Proofs.Ytbpfbebebppleaa
open Go.RowKit
set_option linter.unusedSimpArgs false
def toI (me : Int) (x : Itm) : Int := if x.b = me then x.s else x.b
/-- A row that lies apart from a slice's own block. -/
def Apt (vs v : Value) (n : Nat) : Prop := At (fun b => vs.ownBlock ≠ some b) v n
theorem Apt.nil (v : Value) (n : Nat) : Apt (.slice none 0 0) v n := fun b o k c _ _ h => by cases h
def Dsk.put (d : Dsk) (x : Itm) : Dsk := ⟨d.me, d.far, insX d.xs x, d.os⟩
theorem Dsk.put_row {w : World} {d : Dsk} {x : Itm} {pi po : Option Addr} {ci co : Nat} (hr : TRow encI w (.slice pi (insX d.xs x).length ci) (insX d.xs x)) (ho : TRow encO w (.slice po d.os.length co) d.os) (sx : SortX d.xs) (so : SortO d.os) (nx : d.xs.length < 1024) (no : d.os.length ≤ 1024) : DRow w (d.put x) pi ci po co :=
  ⟨hr, ho, ins_sorted sx, so, by have := insX_len (x := x) sx; show (insX d.xs x).length ≤ 1024; omega, no⟩
theorem infoD4 {cs : Array Value} (h : cs.size = 4) : (Try.prog.info? 29).map (·.size) = some cs.size := by
  rw [h]
  kernel_rfl
set_option linter.unusedSimpArgs false in
set_option maxHeartbeats 4000000 in
set_option maxRecDepth 100000 in
theorem behind_err (w : World) (d : Dsk) (pi po : Option Addr) (ci co : Nat) (x : Itm) (e : Int) (vk : Value) (he : e ≠ 0) : Calls Try.prog 49 #[(deskV d.me pi d.xs.length ci po d.os.length co d.far), x.v, .int .i64 e, vk] w fun y w' => y = .returned (.tuple #[(deskV d.me pi d.xs.length ci po d.os.length co d.far), .slice none 0 0, .int .i64 e]) ∧ Below w.heap.size w w' := by
  have heb : (e != 0) = true := by simpa using he
  have HT := Lib.hid (three_new w #[.int .i64 d.me, .slice pi d.xs.length ci, .slice po d.os.length co, .int .i64 d.far] #[.int .i64 x.s, .int .i64 x.n, .int .i64 x.b, .int .i64 x.c, .int .i64 x.a, .int .i64 x.r, .int .i64 x.t, .int .i64 x.y] #[.int .i64 0, .slice none 0 0, .slice none 0 0, .int .i64 0] 29 64 29)
  clear he
  unfold deskV Itm.v
  go_enter Try.func49, Try.ntmps49
  go_upto_region 1 with fail
  generalize (((w.alloc (.cells #[.int .i64 d.me, .slice pi d.xs.length ci, .slice po d.os.length co, .int .i64 d.far] 29)).alloc (.cells #[.int .i64 x.s, .int .i64 x.n, .int .i64 x.b, .int .i64 x.c, .int .i64 x.a, .int .i64 x.r, .int .i64 x.t, .int .i64 x.y] 64)).alloc (.cells #[.int .i64 0, .slice none 0 0, .slice none 0 0, .int .i64 0] 29)) = W at *
  have a0 : W.cell? ⟨w.heap.size, 0, none⟩ = some (.int .i64 d.me) := HT.out.b0.cell 0
  have a1 : W.cell? ⟨w.heap.size, 1, none⟩ = some (.slice pi d.xs.length ci) := HT.out.b0.cell 1
  have a2 : W.cell? ⟨w.heap.size, 2, none⟩ = some (.slice po d.os.length co) := HT.out.b0.cell 2
  have a3 : W.cell? ⟨w.heap.size, 3, none⟩ = some (.int .i64 d.far) := HT.out.b0.cell 3
  go_wp2_with (with_reducible refine stop_storeT 29 (.tmp 8) (.tmp 18) rfl ?_)
  have HTH : Hid (W.there (w.heap.size + 1 + 1) 0 4) := HT.out.b2.thereAt
  have HF : Hid (Blk (W.setCells (w.heap.size + 1 + 1) 0 (#[.int .i64 d.me, .slice pi d.xs.length ci, .slice po d.os.length co, .int .i64 d.far] : Array Value).toList) (w.heap.size + 1 + 1) #[.int .i64 d.me, .slice pi d.xs.length ci, .slice po d.os.length co, .int .i64 d.far] 29 ∧ Below w.heap.size w (W.setCells (w.heap.size + 1 + 1) 0 (#[.int .i64 d.me, .slice pi d.xs.length ci, .slice po d.os.length co, .int .i64 d.far] : Array Value).toList)) := ⟨blk_put_all HT.out.b2 _ rfl, below_put (by omega) _ _ _ _ HT.out.low⟩
  refine wpList_store_mid rfl 29 (.tmp 8) (.tmp 18) rfl (w.heap.size + 1 + 1) 0 #[.int .i64 d.me, .slice pi d.xs.length ci, .slice po d.os.length co, .int .i64 d.far] rfl rfl HTH.out (infoD4 rfl) (all_oneCell_toArray (by intro u hu; simp at hu; rcases hu with rfl | rfl | rfl | rfl <;> rfl)) ?_
  generalize World.setCells W _ _ _ = w3 at *
  clear HTH HT a0 a1 a2 a3
  go_wp2_with fail
  have hf := HF.out.1
  refine bodyPost_ret (v := .tuple #[.agg #[.int .i64 d.me, .slice pi d.xs.length ci, .slice po d.os.length co, .int .i64 d.far], .slice none 0 0, .int .i64 e]) (by simp [results, Try.results49, go_sem, hf.cell 0, hf.cell 1, hf.cell 2, hf.cell 3]) rfl ⟨rfl, HF.out.2⟩
set_option linter.unusedSimpArgs false in
set_option maxHeartbeats 4000000 in
set_option maxRecDepth 100000 in
theorem behind_0 (w : World) (d : Dsk) (pi po : Option Addr) (ci co : Nat) (x : Itm) (h : DRow w d pi ci po co) (hc : chkI x = 0) (hp : x.s = d.me ∨ x.b = d.me) (hn : d.xs.length < 1024) (P : Nat → Prop) (hw0 : ∀ b, P b → b < w.heap.size) (hat : At P (.slice pi d.xs.length ci) d.xs.length) : Calls Try.prog 49 #[(deskV d.me pi d.xs.length ci po d.os.length co d.far), x.v, .int .i64 0, (.slice none 0 0)] w fun y w' => ∃ pi' ci', y = .returned (.tuple #[(deskV d.me pi' (insX d.xs x).length ci' po d.os.length co d.far), .slice none 0 0, .int .i64 0]) ∧ DRow w' (d.put x) pi' ci' po co ∧ At (fun b => P b ∨ w.heap.size ≤ b) (.slice pi' (insX d.xs x).length ci') (insX d.xs x).length ∧ Below w.heap.size w w' := by
  have HT := Lib.hid (three_new w #[.int .i64 d.me, .slice pi d.xs.length ci, .slice po d.os.length co, .int .i64 d.far] #[.int .i64 x.s, .int .i64 x.n, .int .i64 x.b, .int .i64 x.c, .int .i64 x.a, .int .i64 x.r, .int .i64 x.t, .int .i64 x.y] #[.int .i64 0, .slice none 0 0, .slice none 0 0, .int .i64 0] 29 64 29)
  have HG := Lib.hid (dput_any (((w.alloc (.cells #[.int .i64 d.me, .slice pi d.xs.length ci, .slice po d.os.length co, .int .i64 d.far] 29)).alloc (.cells #[.int .i64 x.s, .int .i64 x.n, .int .i64 x.b, .int .i64 x.c, .int .i64 x.a, .int .i64 x.r, .int .i64 x.t, .int .i64 x.y] 64)).alloc (.cells #[.int .i64 0, .slice none 0 0, .slice none 0 0, .int .i64 0] 29)) d.me pi po d.xs.length ci d.os.length co x d.xs P (h.items.kept HT.out.low) rfl h.sx hn hc hp hat)
  have HH := Lib.hid h
  have HNN := Lib.hid hn
  have HW0 := Lib.hid hw0
  clear h hc hp hn hw0 hat
  generalize hnx : (insX d.xs x).length = nx at *
  have HNX := Lib.hid hnx
  clear hnx
  unfold bookV Itm.v at HG
  unfold deskV Itm.v
  go_enter Try.func49, Try.ntmps49
  go_upto_region 3 with fail
  generalize (((w.alloc (.cells #[.int .i64 d.me, .slice pi d.xs.length ci, .slice po d.os.length co, .int .i64 d.far] 29)).alloc (.cells #[.int .i64 x.s, .int .i64 x.n, .int .i64 x.b, .int .i64 x.c, .int .i64 x.a, .int .i64 x.r, .int .i64 x.t, .int .i64 x.y] 64)).alloc (.cells #[.int .i64 0, .slice none 0 0, .slice none 0 0, .int .i64 0] 29)) = W at *
  have a0 : W.cell? ⟨w.heap.size, 0, none⟩ = some (.int .i64 d.me) := HT.out.b0.cell 0
  have a1 : W.cell? ⟨w.heap.size, 1, none⟩ = some (.slice pi d.xs.length ci) := HT.out.b0.cell 1
  have a2 : W.cell? ⟨w.heap.size, 2, none⟩ = some (.slice po d.os.length co) := HT.out.b0.cell 2
  have x0 : W.cell? ⟨w.heap.size + 1, 0, none⟩ = some (.int .i64 x.s) := HT.out.b1.cell 0
  have x1 : W.cell? ⟨w.heap.size + 1, 1, none⟩ = some (.int .i64 x.n) := HT.out.b1.cell 1
  have x2 : W.cell? ⟨w.heap.size + 1, 2, none⟩ = some (.int .i64 x.b) := HT.out.b1.cell 2
  have x3 : W.cell? ⟨w.heap.size + 1, 3, none⟩ = some (.int .i64 x.c) := HT.out.b1.cell 3
  have x4 : W.cell? ⟨w.heap.size + 1, 4, none⟩ = some (.int .i64 x.a) := HT.out.b1.cell 4
  have x5 : W.cell? ⟨w.heap.size + 1, 5, none⟩ = some (.int .i64 x.r) := HT.out.b1.cell 5
  have x6 : W.cell? ⟨w.heap.size + 1, 6, none⟩ = some (.int .i64 x.t) := HT.out.b1.cell 6
  have x7 : W.cell? ⟨w.heap.size + 1, 7, none⟩ = some (.int .i64 x.y) := HT.out.b1.cell 7
  go_wp2_with fail
  clear a0 a1 a2 x0 x1 x2 x3 x4 x5 x6 x7
  refine HG.out.mono ?_
  rintro y w1 ⟨pi2, ci2, rfl, hr1, hat1, hb⟩
  have HAT := Lib.hid hat1
  clear hat1
  have HWS : Hid (w.heap.size + 1 + 1 < W.heap.size) := HT.out.b2.lt
  have HB1 := Lib.hid ((HT.out.low.trans (hb.mono HT.out.low.size)).alloc (HT.out.low.trans (hb.mono HT.out.low.size)).size (.cells #[.int .i64 d.me, .slice pi2 nx ci2, .slice po d.os.length co] 27))
  have HD1 : Hid (Blk (w1.alloc (.cells #[.int .i64 d.me, .slice pi2 nx ci2, .slice po d.os.length co] 27)) w.heap.size #[.int .i64 d.me, .slice pi d.xs.length ci, .slice po d.os.length co, .int .i64 d.far] 29) := (HT.out.b0.below hb HT.out.b0.lt).alloc _
  have HI1 : Hid (Blk (w1.alloc (.cells #[.int .i64 d.me, .slice pi2 nx ci2, .slice po d.os.length co] 27)) (w.heap.size + 1) #[.int .i64 x.s, .int .i64 x.n, .int .i64 x.b, .int .i64 x.c, .int .i64 x.a, .int .i64 x.r, .int .i64 x.t, .int .i64 x.y] 64) := (HT.out.b1.below hb HT.out.b1.lt).alloc _
  have HR1 : Hid (Blk (w1.alloc (.cells #[.int .i64 d.me, .slice pi2 nx ci2, .slice po d.os.length co] 27)) (w.heap.size + 1 + 1) #[.int .i64 0, .slice none 0 0, .slice none 0 0, .int .i64 0] 29) := (HT.out.b2.below hb HT.out.b2.lt).alloc _
  have HQ1 := Lib.hid (Blk.new w1 #[.int .i64 d.me, .slice pi2 nx ci2, .slice po d.os.length co] 27)
  have HX1 := Lib.hid (hr1.kept (oneB w1 (.cells #[.int .i64 d.me, .slice pi2 nx ci2, .slice po d.os.length co] 27)))
  clear hb HG HT hr1
  go_upto_region 4 with fail
  generalize w1.alloc (.cells #[.int .i64 d.me, .slice pi2 nx ci2, .slice po d.os.length co] 27) = w2 at *
  generalize w1.heap.size = gq at *
  obtain ⟨tw, hto⟩ : ∃ tw, tw = toI d.me x := ⟨_, rfl⟩
  have hcase : ((x.b == d.me) = true ∧ tw = x.s) ∨ ((x.b == d.me) = false ∧ tw = x.b) := by
    rw [hto]
    unfold toI
    by_cases h : x.b = d.me
    · rw [if_pos h]; exact .inl ⟨by simpa using h, rfl⟩
    · rw [if_neg h]; exact .inr ⟨by simpa using h, rfl⟩
  have HTO := Lib.hid hto
  clear hto
  have x0 : w2.cell? ⟨w.heap.size + 1, 0, none⟩ = some (.int .i64 x.s) := HI1.out.cell 0
  have x2 : w2.cell? ⟨w.heap.size + 1, 2, none⟩ = some (.int .i64 x.b) := HI1.out.cell 2
  have a0 : w2.cell? ⟨w.heap.size, 0, none⟩ = some (.int .i64 d.me) := HD1.out.cell 0
  rcases hcase with ⟨hxb, rfl⟩ | ⟨hxb, rfl⟩
  · skip
    go_upto_region 10 with fail
    clear x0 x2 a0 hxb
    go_wp2_with fail
    go_loopw [13, 44] (fun v i wr => (i = .int .i64 0 ∧ v = .slice none 0 0 ∧ Hid (Below w2.heap.size w2 wr))) (fun _ _ _ => 0)
    case atStart => exact ⟨rfl, rfl, Below.refl _ _⟩
    case round =>
      obtain ⟨rfl, rfl, HW⟩ := hrel
      have HD2 := Lib.hid (HD1.out.below HW.out HD1.out.lt)
      have HR2 := Lib.hid (HR1.out.below HW.out HR1.out.lt)
      have HQ2 := Lib.hid (HQ1.out.below HW.out HQ1.out.lt)
      have HX2 := Lib.hid (HX1.out.kept HW.out)
      have HB2 := Lib.hid (HB1.out.trans (HW.out.mono HB1.out.size))
      have a3 : wr.cell? ⟨w.heap.size, 3, none⟩ = some (.int .i64 d.far) := HD2.out.cell 3
      have b0 : wr.cell? ⟨gq, 0, none⟩ = some (.int .i64 d.me) := HQ2.out.cell 0
      have b1 : wr.cell? ⟨gq, 1, none⟩ = some (.slice pi2 nx ci2) := HQ2.out.cell 1
      have b2 : wr.cell? ⟨gq, 2, none⟩ = some (.slice po d.os.length co) := HQ2.out.cell 2
      clear HW HD1 HR1 HQ1 HX1 HB1
      go_wp2_with (with_reducible refine stop_storeT 29 (.tmp 8) (.tmp 60) rfl ?_)
      have HTH : Hid (wr.there (w.heap.size + 1 + 1) 0 4) := HR2.out.thereAt
      have HF : Hid (Blk (wr.setCells (w.heap.size + 1 + 1) 0 (#[.int .i64 d.me, .slice pi2 nx ci2, .slice po d.os.length co, .int .i64 d.far] : Array Value).toList) (w.heap.size + 1 + 1) #[.int .i64 d.me, .slice pi2 nx ci2, .slice po d.os.length co, .int .i64 d.far] 29 ∧ Below w.heap.size w (wr.setCells (w.heap.size + 1 + 1) 0 (#[.int .i64 d.me, .slice pi2 nx ci2, .slice po d.os.length co, .int .i64 d.far] : Array Value).toList) ∧ Chg (w.heap.size + 1 + 1) wr (wr.setCells (w.heap.size + 1 + 1) 0 (#[.int .i64 d.me, .slice pi2 nx ci2, .slice po d.os.length co, .int .i64 d.far] : Array Value).toList)) := ⟨blk_put_all HR2.out _ rfl, below_put (by omega) _ _ _ _ HB2.out, chg_putL _ _ _ _ _ (Chg.refl _ wr)⟩
      refine wpList_store_mid rfl 29 (.tmp 8) (.tmp 60) rfl (w.heap.size + 1 + 1) 0 #[.int .i64 d.me, .slice pi2 nx ci2, .slice po d.os.length co, .int .i64 d.far] rfl rfl HTH.out (infoD4 rfl) (all_oneCell_toArray (by intro u hu; simp at hu; rcases hu with rfl | rfl | rfl | rfl <;> rfl)) ?_
      generalize World.setCells wr _ _ _ = w5 at *
      clear HTH HD2 HQ2 a3 b0 b1 b2
      go_wp2_with fail
      have hf := HF.out.1
      have hnx := HNX.out
      have hrow : TRow encI w5 (.slice pi2 nx ci2) (insX d.xs x) := HX2.out.keepP (by have h := HAT.out; rw [hnx]; exact h) (KeepP.of_chg HF.out.2.2 (fun hb => by have h2 := HWS.out; have h3 := HW0.out; rcases hb with hb | hb; (have h4 := h3 _ hb; omega); omega))
      have hord : TRow encO w5 (.slice po d.os.length co) d.os := HH.out.orders.kept HF.out.2.1
      have hdr : DRow w5 (d.put x) pi2 ci2 po co := Dsk.put_row (by rw [hnx]; exact hrow) hord HH.out.sx HH.out.so HNN.out HH.out.no
      refine bodyPost_ret (v := .tuple #[.agg #[.int .i64 d.me, .slice pi2 nx ci2, .slice po d.os.length co, .int .i64 d.far], .slice none 0 0, .int .i64 0]) (by simp [results, Try.results49, go_sem, hf.cell 0, hf.cell 1, hf.cell 2, hf.cell 3]) rfl ⟨pi2, ci2, rfl, hdr, HAT.out.imp (fun b hb => hb.imp id (fun h => by have h2 := HWS.out; omega)), HF.out.2.1⟩
  · skip
    go_upto_region 10 with fail
    clear x0 x2 a0 hxb
    go_wp2_with fail
    go_loopw [13, 44] (fun v i wr => (i = .int .i64 0 ∧ v = .slice none 0 0 ∧ Hid (Below w2.heap.size w2 wr))) (fun _ _ _ => 0)
    case atStart => exact ⟨rfl, rfl, Below.refl _ _⟩
    case round =>
      obtain ⟨rfl, rfl, HW⟩ := hrel
      have HD2 := Lib.hid (HD1.out.below HW.out HD1.out.lt)
      have HR2 := Lib.hid (HR1.out.below HW.out HR1.out.lt)
      have HQ2 := Lib.hid (HQ1.out.below HW.out HQ1.out.lt)
      have HX2 := Lib.hid (HX1.out.kept HW.out)
      have HB2 := Lib.hid (HB1.out.trans (HW.out.mono HB1.out.size))
      have a3 : wr.cell? ⟨w.heap.size, 3, none⟩ = some (.int .i64 d.far) := HD2.out.cell 3
      have b0 : wr.cell? ⟨gq, 0, none⟩ = some (.int .i64 d.me) := HQ2.out.cell 0
      have b1 : wr.cell? ⟨gq, 1, none⟩ = some (.slice pi2 nx ci2) := HQ2.out.cell 1
      have b2 : wr.cell? ⟨gq, 2, none⟩ = some (.slice po d.os.length co) := HQ2.out.cell 2
      clear HW HD1 HR1 HQ1 HX1 HB1
      go_wp2_with (with_reducible refine stop_storeT 29 (.tmp 8) (.tmp 60) rfl ?_)
      have HTH : Hid (wr.there (w.heap.size + 1 + 1) 0 4) := HR2.out.thereAt
      have HF : Hid (Blk (wr.setCells (w.heap.size + 1 + 1) 0 (#[.int .i64 d.me, .slice pi2 nx ci2, .slice po d.os.length co, .int .i64 d.far] : Array Value).toList) (w.heap.size + 1 + 1) #[.int .i64 d.me, .slice pi2 nx ci2, .slice po d.os.length co, .int .i64 d.far] 29 ∧ Below w.heap.size w (wr.setCells (w.heap.size + 1 + 1) 0 (#[.int .i64 d.me, .slice pi2 nx ci2, .slice po d.os.length co, .int .i64 d.far] : Array Value).toList) ∧ Chg (w.heap.size + 1 + 1) wr (wr.setCells (w.heap.size + 1 + 1) 0 (#[.int .i64 d.me, .slice pi2 nx ci2, .slice po d.os.length co, .int .i64 d.far] : Array Value).toList)) := ⟨blk_put_all HR2.out _ rfl, below_put (by omega) _ _ _ _ HB2.out, chg_putL _ _ _ _ _ (Chg.refl _ wr)⟩
      refine wpList_store_mid rfl 29 (.tmp 8) (.tmp 60) rfl (w.heap.size + 1 + 1) 0 #[.int .i64 d.me, .slice pi2 nx ci2, .slice po d.os.length co, .int .i64 d.far] rfl rfl HTH.out (infoD4 rfl) (all_oneCell_toArray (by intro u hu; simp at hu; rcases hu with rfl | rfl | rfl | rfl <;> rfl)) ?_
      generalize World.setCells wr _ _ _ = w5 at *
      clear HTH HD2 HQ2 a3 b0 b1 b2
      go_wp2_with fail
      have hf := HF.out.1
      have hnx := HNX.out
      have hrow : TRow encI w5 (.slice pi2 nx ci2) (insX d.xs x) := HX2.out.keepP (by have h := HAT.out; rw [hnx]; exact h) (KeepP.of_chg HF.out.2.2 (fun hb => by have h2 := HWS.out; have h3 := HW0.out; rcases hb with hb | hb; (have h4 := h3 _ hb; omega); omega))
      have hord : TRow encO w5 (.slice po d.os.length co) d.os := HH.out.orders.kept HF.out.2.1
      have hdr : DRow w5 (d.put x) pi2 ci2 po co := Dsk.put_row (by rw [hnx]; exact hrow) hord HH.out.sx HH.out.so HNN.out HH.out.no
      refine bodyPost_ret (v := .tuple #[.agg #[.int .i64 d.me, .slice pi2 nx ci2, .slice po d.os.length co, .int .i64 d.far], .slice none 0 0, .int .i64 0]) (by simp [results, Try.results49, go_sem, hf.cell 0, hf.cell 1, hf.cell 2, hf.cell 3]) rfl ⟨pi2, ci2, rfl, hdr, HAT.out.imp (fun b hb => hb.imp id (fun h => by have h2 := HWS.out; omega)), HF.out.2.1⟩
set_option linter.unusedSimpArgs false in
set_option maxHeartbeats 4000000 in
set_option maxRecDepth 100000 in
theorem behind_1 (w : World) (d : Dsk) (pi po : Option Addr) (ci co : Nat) (x : Itm) (k : Int) (bk ok ck : Nat) (hk : w.cell? ⟨bk, ok, none⟩ = some (.int .i64 k)) (h : DRow w d pi ci po co) (hc : chkI x = 0) (hp : x.s = d.me ∨ x.b = d.me) (hn : d.xs.length < 1024) (P : Nat → Prop) (hw0 : ∀ b, P b → b < w.heap.size) (hat : At P (.slice pi d.xs.length ci) d.xs.length) : Calls Try.prog 49 #[(deskV d.me pi d.xs.length ci po d.os.length co d.far), x.v, .int .i64 0, (.slice (some ⟨bk, ok, none⟩) 1 ck)] w fun y w' => ∃ pi' ci' vs, y = .returned (.tuple #[(deskV d.me pi' (insX d.xs x).length ci' po d.os.length co d.far), vs, .int .i64 0]) ∧ DRow w' (d.put x) pi' ci' po co ∧ At (fun b => P b ∨ w.heap.size ≤ b) (.slice pi' (insX d.xs x).length ci') (insX d.xs x).length ∧ (OwnT encS w' w.heap.size 58 vs [⟨toI d.me x, msgX0 (aboutM k x)⟩] ∧ Apt vs (.slice pi' (insX d.xs x).length ci') (insX d.xs x).length) ∧ Below w.heap.size w w' := by
  have HT := Lib.hid (three_new w #[.int .i64 d.me, .slice pi d.xs.length ci, .slice po d.os.length co, .int .i64 d.far] #[.int .i64 x.s, .int .i64 x.n, .int .i64 x.b, .int .i64 x.c, .int .i64 x.a, .int .i64 x.r, .int .i64 x.t, .int .i64 x.y] #[.int .i64 0, .slice none 0 0, .slice none 0 0, .int .i64 0] 29 64 29)
  have HG := Lib.hid (dput_any (((w.alloc (.cells #[.int .i64 d.me, .slice pi d.xs.length ci, .slice po d.os.length co, .int .i64 d.far] 29)).alloc (.cells #[.int .i64 x.s, .int .i64 x.n, .int .i64 x.b, .int .i64 x.c, .int .i64 x.a, .int .i64 x.r, .int .i64 x.t, .int .i64 x.y] 64)).alloc (.cells #[.int .i64 0, .slice none 0 0, .slice none 0 0, .int .i64 0] 29)) d.me pi po d.xs.length ci d.os.length co x d.xs P (h.items.kept HT.out.low) rfl h.sx hn hc hp hat)
  have HH := Lib.hid h
  have HNN := Lib.hid hn
  have HW0 := Lib.hid hw0
  have HKK := Lib.hid hk
  have HKL : Hid (bk < w.heap.size) := World.block_lt_of_cell? w _ hk
  clear hk
  clear h hc hp hn hw0 hat
  generalize hnx : (insX d.xs x).length = nx at *
  have HNX := Lib.hid hnx
  clear hnx
  unfold bookV Itm.v at HG
  unfold deskV Itm.v
  go_enter Try.func49, Try.ntmps49
  go_upto_region 3 with fail
  generalize (((w.alloc (.cells #[.int .i64 d.me, .slice pi d.xs.length ci, .slice po d.os.length co, .int .i64 d.far] 29)).alloc (.cells #[.int .i64 x.s, .int .i64 x.n, .int .i64 x.b, .int .i64 x.c, .int .i64 x.a, .int .i64 x.r, .int .i64 x.t, .int .i64 x.y] 64)).alloc (.cells #[.int .i64 0, .slice none 0 0, .slice none 0 0, .int .i64 0] 29)) = W at *
  have a0 : W.cell? ⟨w.heap.size, 0, none⟩ = some (.int .i64 d.me) := HT.out.b0.cell 0
  have a1 : W.cell? ⟨w.heap.size, 1, none⟩ = some (.slice pi d.xs.length ci) := HT.out.b0.cell 1
  have a2 : W.cell? ⟨w.heap.size, 2, none⟩ = some (.slice po d.os.length co) := HT.out.b0.cell 2
  have x0 : W.cell? ⟨w.heap.size + 1, 0, none⟩ = some (.int .i64 x.s) := HT.out.b1.cell 0
  have x1 : W.cell? ⟨w.heap.size + 1, 1, none⟩ = some (.int .i64 x.n) := HT.out.b1.cell 1
  have x2 : W.cell? ⟨w.heap.size + 1, 2, none⟩ = some (.int .i64 x.b) := HT.out.b1.cell 2
  have x3 : W.cell? ⟨w.heap.size + 1, 3, none⟩ = some (.int .i64 x.c) := HT.out.b1.cell 3
  have x4 : W.cell? ⟨w.heap.size + 1, 4, none⟩ = some (.int .i64 x.a) := HT.out.b1.cell 4
  have x5 : W.cell? ⟨w.heap.size + 1, 5, none⟩ = some (.int .i64 x.r) := HT.out.b1.cell 5
  have x6 : W.cell? ⟨w.heap.size + 1, 6, none⟩ = some (.int .i64 x.t) := HT.out.b1.cell 6
  have x7 : W.cell? ⟨w.heap.size + 1, 7, none⟩ = some (.int .i64 x.y) := HT.out.b1.cell 7
  go_wp2_with fail
  clear a0 a1 a2 x0 x1 x2 x3 x4 x5 x6 x7
  refine HG.out.mono ?_
  rintro y w1 ⟨pi2, ci2, rfl, hr1, hat1, hb⟩
  have HAT := Lib.hid hat1
  clear hat1
  have HWS : Hid (w.heap.size + 1 + 1 < W.heap.size) := HT.out.b2.lt
  have HB1 := Lib.hid ((HT.out.low.trans (hb.mono HT.out.low.size)).alloc (HT.out.low.trans (hb.mono HT.out.low.size)).size (.cells #[.int .i64 d.me, .slice pi2 nx ci2, .slice po d.os.length co] 27))
  have HD1 : Hid (Blk (w1.alloc (.cells #[.int .i64 d.me, .slice pi2 nx ci2, .slice po d.os.length co] 27)) w.heap.size #[.int .i64 d.me, .slice pi d.xs.length ci, .slice po d.os.length co, .int .i64 d.far] 29) := (HT.out.b0.below hb HT.out.b0.lt).alloc _
  have HI1 : Hid (Blk (w1.alloc (.cells #[.int .i64 d.me, .slice pi2 nx ci2, .slice po d.os.length co] 27)) (w.heap.size + 1) #[.int .i64 x.s, .int .i64 x.n, .int .i64 x.b, .int .i64 x.c, .int .i64 x.a, .int .i64 x.r, .int .i64 x.t, .int .i64 x.y] 64) := (HT.out.b1.below hb HT.out.b1.lt).alloc _
  have HR1 : Hid (Blk (w1.alloc (.cells #[.int .i64 d.me, .slice pi2 nx ci2, .slice po d.os.length co] 27)) (w.heap.size + 1 + 1) #[.int .i64 0, .slice none 0 0, .slice none 0 0, .int .i64 0] 29) := (HT.out.b2.below hb HT.out.b2.lt).alloc _
  have HQ1 := Lib.hid (Blk.new w1 #[.int .i64 d.me, .slice pi2 nx ci2, .slice po d.os.length co] 27)
  have HX1 := Lib.hid (hr1.kept (oneB w1 (.cells #[.int .i64 d.me, .slice pi2 nx ci2, .slice po d.os.length co] 27)))
  clear hb HG HT hr1
  go_upto_region 4 with fail
  generalize w1.alloc (.cells #[.int .i64 d.me, .slice pi2 nx ci2, .slice po d.os.length co] 27) = w2 at *
  generalize w1.heap.size = gq at *
  have HXT : Hid (At (fun b => b < w2.heap.size) (.slice pi2 nx ci2) nx) := Lib.hid (fun b o n c e hn => by
    have h := HX1.out
    rw [e] at h
    exact h.lt_ (by rw [HNX.out]; exact hn))
  obtain ⟨tw, hto⟩ : ∃ tw, tw = toI d.me x := ⟨_, rfl⟩
  have hcase : ((x.b == d.me) = true ∧ tw = x.s) ∨ ((x.b == d.me) = false ∧ tw = x.b) := by
    rw [hto]
    unfold toI
    by_cases h : x.b = d.me
    · rw [if_pos h]; exact .inl ⟨by simpa using h, rfl⟩
    · rw [if_neg h]; exact .inr ⟨by simpa using h, rfl⟩
  have HTO := Lib.hid hto
  clear hto
  have x0 : w2.cell? ⟨w.heap.size + 1, 0, none⟩ = some (.int .i64 x.s) := HI1.out.cell 0
  have x2 : w2.cell? ⟨w.heap.size + 1, 2, none⟩ = some (.int .i64 x.b) := HI1.out.cell 2
  have a0 : w2.cell? ⟨w.heap.size, 0, none⟩ = some (.int .i64 d.me) := HD1.out.cell 0
  rcases hcase with ⟨hxb, rfl⟩ | ⟨hxb, rfl⟩
  · skip
    go_upto_region 10 with fail
    clear x0 x2 a0 hxb
    go_wp2_with fail
    go_loopw [13, 44] (fun v i wr => (i = .int .i64 0 ∧ v = .slice none 0 0 ∧ Hid (Below w2.heap.size w2 wr)) ∨ (i = .int .i64 1 ∧ ∃ p c, v = .slice p 1 c ∧ Hid (Below w2.heap.size w2 wr ∧ OwnT encS wr w2.heap.size 58 (.slice p 1 c) [(SdX.mk (x.s) (msgX0 (aboutM k x)))]))) (fun _ i _ => 1 - (intOf i).toNat)
    case atStart => exact .inl ⟨rfl, rfl, Below.refl _ _⟩
    case round =>
      rcases hrel with ⟨rfl, rfl, HW⟩ | ⟨rfl, p, c, rfl, HW⟩
      · skip
        have HD2 := Lib.hid (HI1.out.below HW.out HI1.out.lt)
        have hkc : wr.cell? ⟨bk, ok, none⟩ = some (.int .i64 k) := ((HB1.out.trans (HW.out.mono HB1.out.size)).cell (p := ⟨bk, ok, none⟩) HKL.out).trans HKK.out
        have x0 : wr.cell? ⟨w.heap.size + 1, 0, none⟩ = some (.int .i64 x.s) := HD2.out.cell 0
        have x1 : wr.cell? ⟨w.heap.size + 1, 1, none⟩ = some (.int .i64 x.n) := HD2.out.cell 1
        have x2 : wr.cell? ⟨w.heap.size + 1, 2, none⟩ = some (.int .i64 x.b) := HD2.out.cell 2
        have x3 : wr.cell? ⟨w.heap.size + 1, 3, none⟩ = some (.int .i64 x.c) := HD2.out.cell 3
        have x4 : wr.cell? ⟨w.heap.size + 1, 4, none⟩ = some (.int .i64 x.a) := HD2.out.cell 4
        have x5 : wr.cell? ⟨w.heap.size + 1, 5, none⟩ = some (.int .i64 x.r) := HD2.out.cell 5
        have x6 : wr.cell? ⟨w.heap.size + 1, 6, none⟩ = some (.int .i64 x.t) := HD2.out.cell 6
        have x7 : wr.cell? ⟨w.heap.size + 1, 7, none⟩ = some (.int .i64 x.y) := HD2.out.cell 7
        have HAB := Lib.hid (about_any k x wr)
        unfold Msg.v aboutM at HAB
        try unfold Itm.v at HAB
        go_wp2_with fail
        clear hkc x0 x1 x2 x3 x4 x5 x6 x7
        refine HAB.out.mono ?_
        rintro y w3 ⟨rfl, hb3⟩
        have HB3 := Lib.hid (HW.out.trans (hb3.mono HW.out.size))
        have HOW : Hid (OwnT encS (w3.alloc (.cells #[.int .i64 x.s, .int .i64 k, .int .i64 x.s, .int .i64 x.n, .int .i64 x.b, .int .i64 x.c, .int .i64 x.r, .int .i64 0, .int .i64 x.a, .bool false, .slice none 0 0, .slice none 0 0] 58)) w2.heap.size 58 (.slice none 0 0) []) := OwnT.nil_ _ _ _ _
        have HROW : Hid (TRow encS (w3.alloc (.cells #[.int .i64 x.s, .int .i64 k, .int .i64 x.s, .int .i64 x.n, .int .i64 x.b, .int .i64 x.c, .int .i64 x.r, .int .i64 0, .int .i64 x.a, .bool false, .slice none 0 0, .slice none 0 0] 58)) (.slice (some ⟨w3.heap.size, 0, none⟩) 1 1) [(SdX.mk (x.s) (msgX0 (aboutM k x)))]) := TRow.one_ encS (SdX.mk (x.s) (msgX0 (aboutM k x))) (Blk.new w3 #[.int .i64 x.s, .int .i64 k, .int .i64 x.s, .int .i64 x.n, .int .i64 x.b, .int .i64 x.c, .int .i64 x.r, .int .i64 0, .int .i64 x.a, .bool false, .slice none 0 0, .slice none 0 0] 58) rfl (Nat.le_refl 1)
        have HB4 := Lib.hid (HB3.out.alloc HB3.out.size (.cells #[.int .i64 x.s, .int .i64 k, .int .i64 x.s, .int .i64 x.n, .int .i64 x.b, .int .i64 x.c, .int .i64 x.r, .int .i64 0, .int .i64 x.a, .bool false, .slice none 0 0, .slice none 0 0] 58))
        clear hb3 HAB HD2 HW
        go_wp2_with (at_builtin; with_reducible refine stop_appendT (.tmp 48) (.tmp 54) 43 rfl ?_)
        refine wpList_append_tg rfl (.tmp 48) (.tmp 54) 43 rfl 58 zeroVS 128 w2.heap.size eltS rfl (.slice none 0 0) (.slice (some ⟨w3.heap.size, 0, none⟩) 1 1) [] [(SdX.mk (x.s) (msgX0 (aboutM k x)))] rfl rfl HOW.out HROW.out (by simp) (by simp) HB4.out.size [(SdX.mk (x.s) (msgX0 (aboutM k x)))] 1 rfl rfl ?_
        intro p5 c5 w5 ho _ _ hb5
        have HN5 := Lib.hid (⟨HB4.out.trans hb5, ho⟩ : Below w2.heap.size w2 w5 ∧ OwnT encS w5 w2.heap.size 58 (.slice p5 1 c5) [(SdX.mk (x.s) (msgX0 (aboutM k x)))])
        clear ho hb5 HOW HROW HB4 HB3
        go_wp2_with fail
        go_roundw
        case rel => exact .inr ⟨by go_num, p5, c5, rfl, HN5⟩
        case measure => simp [intOf]
      · skip
        have HD2 := Lib.hid (HD1.out.below HW.out.1 HD1.out.lt)
        have HR2 := Lib.hid (HR1.out.below HW.out.1 HR1.out.lt)
        have HQ2 := Lib.hid (HQ1.out.below HW.out.1 HQ1.out.lt)
        have HX2 := Lib.hid (HX1.out.kept HW.out.1)
        have HB2 := Lib.hid (HB1.out.trans (HW.out.1.mono HB1.out.size))
        have a3 : wr.cell? ⟨w.heap.size, 3, none⟩ = some (.int .i64 d.far) := HD2.out.cell 3
        have b0 : wr.cell? ⟨gq, 0, none⟩ = some (.int .i64 d.me) := HQ2.out.cell 0
        have b1 : wr.cell? ⟨gq, 1, none⟩ = some (.slice pi2 nx ci2) := HQ2.out.cell 1
        have b2 : wr.cell? ⟨gq, 2, none⟩ = some (.slice po d.os.length co) := HQ2.out.cell 2
        have HO := Lib.hid HW.out.2
        have HZW : Hid (w.heap.size + 1 + 1 < w2.heap.size ∧ w.heap.size ≤ w2.heap.size) := ⟨HR1.out.lt, HB1.out.size⟩
        clear HW HD1 HR1 HQ1 HX1 HB1
        go_wp2_with (with_reducible refine stop_storeT 29 (.tmp 8) (.tmp 60) rfl ?_)
        have HTH : Hid (wr.there (w.heap.size + 1 + 1) 0 4) := HR2.out.thereAt
        have HF : Hid (Blk (wr.setCells (w.heap.size + 1 + 1) 0 (#[.int .i64 d.me, .slice pi2 nx ci2, .slice po d.os.length co, .int .i64 d.far] : Array Value).toList) (w.heap.size + 1 + 1) #[.int .i64 d.me, .slice pi2 nx ci2, .slice po d.os.length co, .int .i64 d.far] 29 ∧ Below w.heap.size w (wr.setCells (w.heap.size + 1 + 1) 0 (#[.int .i64 d.me, .slice pi2 nx ci2, .slice po d.os.length co, .int .i64 d.far] : Array Value).toList) ∧ Chg (w.heap.size + 1 + 1) wr (wr.setCells (w.heap.size + 1 + 1) 0 (#[.int .i64 d.me, .slice pi2 nx ci2, .slice po d.os.length co, .int .i64 d.far] : Array Value).toList)) := ⟨blk_put_all HR2.out _ rfl, below_put (by omega) _ _ _ _ HB2.out, chg_putL _ _ _ _ _ (Chg.refl _ wr)⟩
        refine wpList_store_mid rfl 29 (.tmp 8) (.tmp 60) rfl (w.heap.size + 1 + 1) 0 #[.int .i64 d.me, .slice pi2 nx ci2, .slice po d.os.length co, .int .i64 d.far] rfl rfl HTH.out (infoD4 rfl) (all_oneCell_toArray (by intro u hu; simp at hu; rcases hu with rfl | rfl | rfl | rfl <;> rfl)) ?_
        generalize World.setCells wr _ _ _ = w5 at *
        clear HTH HD2 HQ2 a3 b0 b1 b2
        go_wp2_with fail
        have hf := HF.out.1
        have hnx := HNX.out
        have hrow : TRow encI w5 (.slice pi2 nx ci2) (insX d.xs x) := HX2.out.keepP (by have h := HAT.out; rw [hnx]; exact h) (KeepP.of_chg HF.out.2.2 (fun hb => by have h2 := HWS.out; have h3 := HW0.out; rcases hb with hb | hb; (have h4 := h3 _ hb; omega); omega))
        have hord : TRow encO w5 (.slice po d.os.length co) d.os := HH.out.orders.kept HF.out.2.1
        have hdr : DRow w5 (d.put x) pi2 ci2 po co := Dsk.put_row (by rw [hnx]; exact hrow) hord HH.out.sx HH.out.so HNN.out HH.out.no
        have hto := HTO.out
        refine bodyPost_ret (v := .tuple #[.agg #[.int .i64 d.me, .slice pi2 nx ci2, .slice po d.os.length co, .int .i64 d.far], .slice p 1 c, .int .i64 0]) (by simp [results, Try.results49, go_sem, hf.cell 0, hf.cell 1, hf.cell 2, hf.cell 3]) rfl ⟨pi2, ci2, _, rfl, hdr, HAT.out.imp (fun b hb => hb.imp id (fun h => by have h2 := HWS.out; omega)), ?_, HF.out.2.1⟩
        rw [← hto]
        exact ⟨(HO.out.stay (fun b hb => HF.out.2.2.2 b (HO.out.lt b hb) (by have h1 := HO.out.block_ge b hb; have h2 := HZW.out; omega))).less HZW.out.2, fun b o n c e hn h => by have h1 := HXT.out b o n c e hn; have h2 := HO.out.block_ge b h; omega⟩
  · skip
    go_upto_region 10 with fail
    clear x0 x2 a0 hxb
    go_wp2_with fail
    go_loopw [13, 44] (fun v i wr => (i = .int .i64 0 ∧ v = .slice none 0 0 ∧ Hid (Below w2.heap.size w2 wr)) ∨ (i = .int .i64 1 ∧ ∃ p c, v = .slice p 1 c ∧ Hid (Below w2.heap.size w2 wr ∧ OwnT encS wr w2.heap.size 58 (.slice p 1 c) [(SdX.mk (x.b) (msgX0 (aboutM k x)))]))) (fun _ i _ => 1 - (intOf i).toNat)
    case atStart => exact .inl ⟨rfl, rfl, Below.refl _ _⟩
    case round =>
      rcases hrel with ⟨rfl, rfl, HW⟩ | ⟨rfl, p, c, rfl, HW⟩
      · skip
        have HD2 := Lib.hid (HI1.out.below HW.out HI1.out.lt)
        have hkc : wr.cell? ⟨bk, ok, none⟩ = some (.int .i64 k) := ((HB1.out.trans (HW.out.mono HB1.out.size)).cell (p := ⟨bk, ok, none⟩) HKL.out).trans HKK.out
        have x0 : wr.cell? ⟨w.heap.size + 1, 0, none⟩ = some (.int .i64 x.s) := HD2.out.cell 0
        have x1 : wr.cell? ⟨w.heap.size + 1, 1, none⟩ = some (.int .i64 x.n) := HD2.out.cell 1
        have x2 : wr.cell? ⟨w.heap.size + 1, 2, none⟩ = some (.int .i64 x.b) := HD2.out.cell 2
        have x3 : wr.cell? ⟨w.heap.size + 1, 3, none⟩ = some (.int .i64 x.c) := HD2.out.cell 3
        have x4 : wr.cell? ⟨w.heap.size + 1, 4, none⟩ = some (.int .i64 x.a) := HD2.out.cell 4
        have x5 : wr.cell? ⟨w.heap.size + 1, 5, none⟩ = some (.int .i64 x.r) := HD2.out.cell 5
        have x6 : wr.cell? ⟨w.heap.size + 1, 6, none⟩ = some (.int .i64 x.t) := HD2.out.cell 6
        have x7 : wr.cell? ⟨w.heap.size + 1, 7, none⟩ = some (.int .i64 x.y) := HD2.out.cell 7
        have HAB := Lib.hid (about_any k x wr)
        unfold Msg.v aboutM at HAB
        try unfold Itm.v at HAB
        go_wp2_with fail
        clear hkc x0 x1 x2 x3 x4 x5 x6 x7
        refine HAB.out.mono ?_
        rintro y w3 ⟨rfl, hb3⟩
        have HB3 := Lib.hid (HW.out.trans (hb3.mono HW.out.size))
        have HOW : Hid (OwnT encS (w3.alloc (.cells #[.int .i64 x.b, .int .i64 k, .int .i64 x.s, .int .i64 x.n, .int .i64 x.b, .int .i64 x.c, .int .i64 x.r, .int .i64 0, .int .i64 x.a, .bool false, .slice none 0 0, .slice none 0 0] 58)) w2.heap.size 58 (.slice none 0 0) []) := OwnT.nil_ _ _ _ _
        have HROW : Hid (TRow encS (w3.alloc (.cells #[.int .i64 x.b, .int .i64 k, .int .i64 x.s, .int .i64 x.n, .int .i64 x.b, .int .i64 x.c, .int .i64 x.r, .int .i64 0, .int .i64 x.a, .bool false, .slice none 0 0, .slice none 0 0] 58)) (.slice (some ⟨w3.heap.size, 0, none⟩) 1 1) [(SdX.mk (x.b) (msgX0 (aboutM k x)))]) := TRow.one_ encS (SdX.mk (x.b) (msgX0 (aboutM k x))) (Blk.new w3 #[.int .i64 x.b, .int .i64 k, .int .i64 x.s, .int .i64 x.n, .int .i64 x.b, .int .i64 x.c, .int .i64 x.r, .int .i64 0, .int .i64 x.a, .bool false, .slice none 0 0, .slice none 0 0] 58) rfl (Nat.le_refl 1)
        have HB4 := Lib.hid (HB3.out.alloc HB3.out.size (.cells #[.int .i64 x.b, .int .i64 k, .int .i64 x.s, .int .i64 x.n, .int .i64 x.b, .int .i64 x.c, .int .i64 x.r, .int .i64 0, .int .i64 x.a, .bool false, .slice none 0 0, .slice none 0 0] 58))
        clear hb3 HAB HD2 HW
        go_wp2_with (at_builtin; with_reducible refine stop_appendT (.tmp 48) (.tmp 54) 43 rfl ?_)
        refine wpList_append_tg rfl (.tmp 48) (.tmp 54) 43 rfl 58 zeroVS 128 w2.heap.size eltS rfl (.slice none 0 0) (.slice (some ⟨w3.heap.size, 0, none⟩) 1 1) [] [(SdX.mk (x.b) (msgX0 (aboutM k x)))] rfl rfl HOW.out HROW.out (by simp) (by simp) HB4.out.size [(SdX.mk (x.b) (msgX0 (aboutM k x)))] 1 rfl rfl ?_
        intro p5 c5 w5 ho _ _ hb5
        have HN5 := Lib.hid (⟨HB4.out.trans hb5, ho⟩ : Below w2.heap.size w2 w5 ∧ OwnT encS w5 w2.heap.size 58 (.slice p5 1 c5) [(SdX.mk (x.b) (msgX0 (aboutM k x)))])
        clear ho hb5 HOW HROW HB4 HB3
        go_wp2_with fail
        go_roundw
        case rel => exact .inr ⟨by go_num, p5, c5, rfl, HN5⟩
        case measure => simp [intOf]
      · skip
        have HD2 := Lib.hid (HD1.out.below HW.out.1 HD1.out.lt)
        have HR2 := Lib.hid (HR1.out.below HW.out.1 HR1.out.lt)
        have HQ2 := Lib.hid (HQ1.out.below HW.out.1 HQ1.out.lt)
        have HX2 := Lib.hid (HX1.out.kept HW.out.1)
        have HB2 := Lib.hid (HB1.out.trans (HW.out.1.mono HB1.out.size))
        have a3 : wr.cell? ⟨w.heap.size, 3, none⟩ = some (.int .i64 d.far) := HD2.out.cell 3
        have b0 : wr.cell? ⟨gq, 0, none⟩ = some (.int .i64 d.me) := HQ2.out.cell 0
        have b1 : wr.cell? ⟨gq, 1, none⟩ = some (.slice pi2 nx ci2) := HQ2.out.cell 1
        have b2 : wr.cell? ⟨gq, 2, none⟩ = some (.slice po d.os.length co) := HQ2.out.cell 2
        have HO := Lib.hid HW.out.2
        have HZW : Hid (w.heap.size + 1 + 1 < w2.heap.size ∧ w.heap.size ≤ w2.heap.size) := ⟨HR1.out.lt, HB1.out.size⟩
        clear HW HD1 HR1 HQ1 HX1 HB1
        go_wp2_with (with_reducible refine stop_storeT 29 (.tmp 8) (.tmp 60) rfl ?_)
        have HTH : Hid (wr.there (w.heap.size + 1 + 1) 0 4) := HR2.out.thereAt
        have HF : Hid (Blk (wr.setCells (w.heap.size + 1 + 1) 0 (#[.int .i64 d.me, .slice pi2 nx ci2, .slice po d.os.length co, .int .i64 d.far] : Array Value).toList) (w.heap.size + 1 + 1) #[.int .i64 d.me, .slice pi2 nx ci2, .slice po d.os.length co, .int .i64 d.far] 29 ∧ Below w.heap.size w (wr.setCells (w.heap.size + 1 + 1) 0 (#[.int .i64 d.me, .slice pi2 nx ci2, .slice po d.os.length co, .int .i64 d.far] : Array Value).toList) ∧ Chg (w.heap.size + 1 + 1) wr (wr.setCells (w.heap.size + 1 + 1) 0 (#[.int .i64 d.me, .slice pi2 nx ci2, .slice po d.os.length co, .int .i64 d.far] : Array Value).toList)) := ⟨blk_put_all HR2.out _ rfl, below_put (by omega) _ _ _ _ HB2.out, chg_putL _ _ _ _ _ (Chg.refl _ wr)⟩
        refine wpList_store_mid rfl 29 (.tmp 8) (.tmp 60) rfl (w.heap.size + 1 + 1) 0 #[.int .i64 d.me, .slice pi2 nx ci2, .slice po d.os.length co, .int .i64 d.far] rfl rfl HTH.out (infoD4 rfl) (all_oneCell_toArray (by intro u hu; simp at hu; rcases hu with rfl | rfl | rfl | rfl <;> rfl)) ?_
        generalize World.setCells wr _ _ _ = w5 at *
        clear HTH HD2 HQ2 a3 b0 b1 b2
        go_wp2_with fail
        have hf := HF.out.1
        have hnx := HNX.out
        have hrow : TRow encI w5 (.slice pi2 nx ci2) (insX d.xs x) := HX2.out.keepP (by have h := HAT.out; rw [hnx]; exact h) (KeepP.of_chg HF.out.2.2 (fun hb => by have h2 := HWS.out; have h3 := HW0.out; rcases hb with hb | hb; (have h4 := h3 _ hb; omega); omega))
        have hord : TRow encO w5 (.slice po d.os.length co) d.os := HH.out.orders.kept HF.out.2.1
        have hdr : DRow w5 (d.put x) pi2 ci2 po co := Dsk.put_row (by rw [hnx]; exact hrow) hord HH.out.sx HH.out.so HNN.out HH.out.no
        have hto := HTO.out
        refine bodyPost_ret (v := .tuple #[.agg #[.int .i64 d.me, .slice pi2 nx ci2, .slice po d.os.length co, .int .i64 d.far], .slice p 1 c, .int .i64 0]) (by simp [results, Try.results49, go_sem, hf.cell 0, hf.cell 1, hf.cell 2, hf.cell 3]) rfl ⟨pi2, ci2, _, rfl, hdr, HAT.out.imp (fun b hb => hb.imp id (fun h => by have h2 := HWS.out; omega)), ?_, HF.out.2.1⟩
        rw [← hto]
        exact ⟨(HO.out.stay (fun b hb => HF.out.2.2.2 b (HO.out.lt b hb) (by have h1 := HO.out.block_ge b hb; have h2 := HZW.out; omega))).less HZW.out.2, fun b o n c e hn h => by have h1 := HXT.out b o n c e hn; have h2 := HO.out.block_ge b h; omega⟩
end Go.Proofs.Ytbpfbebebppleaa
namespace Go.Proofs.Ytbpfbebebppleaa
open Go.ChangeShapes Go.WideShapes Go.ChangeAt Go.RowKit
section
variable {H : Type} {enc : TypeId × Value → H} {P : Program} {w : World} {base : Nat} {held : Bool}
theorem wd_read {t tm : TypeId} {f0 fm : Field} (ht : P.underlying t = some (.struct #[f0, fm])) (o0 : f0.offset = 0) (om : fm.offset = 1)
    (u0 : P.underlying f0.type = some (.int .i64)) (tm' : fm.type = tm) (cc : P.cellsOf f0.type = 1 ∧ P.cellsOf tm = 11)
    (rd : ∀ (fuel : Nat) (cs : List Value) (y : DataW H × List MemPlace), cs.length = 11 → DataW.trod enc P w base (fun _ => true) held fuel tm cs = some y → ∃ x : MsgX, cs = x.cells ∧ x.In w)
    (fuel : Nat) (cs : List Value) (y : DataW H × List MemPlace) (hl : cs.length = 12) (hf : DataW.trod enc P w base (fun _ => true) held fuel t cs = some y) : ∃ x : SdX, cs = x.cells ∧ True := by
  obtain ⟨c0, cm⟩ := cc
  match cs, hl with
  | v0 :: ms, hl =>
    have hml : ms.length = 11 := by simpa using hl
    obtain ⟨xs, k, hk, hxy, _, hxl, hf⟩ := DataW.trod_struct ht hf
    match xs, hxl with
    | [y0, ym], _ =>
      have g0 := hf 0 f0 rfl
      have gm := hf 1 fm rfl
      subst tm'
      simp [o0, om, c0, cm] at g0 gm
      rw [List.take_of_length_le (by omega)] at gm
      obtain ⟨z0, q0, _, w0⟩ := DataW.trod_int u0 g0
      simp at q0
      obtain ⟨x, rfl, _⟩ := rd _ _ _ hml gm
      subst q0
      exact ⟨⟨z0, x⟩, rfl, trivial⟩
theorem wd_of_open {t : TypeId} {fs : Array Field} {r : Reach} {b0 : Nat} {v : Value} {d : DataW H} {pl : List MemPlace}
    (ht : P.underlying t = some (.struct fs)) (ct : P.cellsOf t = 12)
    (rd : ∀ (fuel : Nat) (cs : List Value) (y : DataW H × List MemPlace), cs.length = 12 → DataW.trod enc P w base (fun _ => true) held fuel t cs = some y → ∃ x : SdX, cs = x.cells ∧ True)
    (hv : Value.okWide P w r b0 t v) (h : DataW.Trod enc P w base (fun _ => true) held t v d pl) : ∃ x : SdX, v = .agg x.cells.toArray := by
  obtain ⟨cs, rfl, hsz⟩ := okWide_struct ht hv
  obtain ⟨fuel, hf⟩ := h
  obtain ⟨l⟩ := cs
  have hf' : DataW.trod enc P w base (fun _ => true) held fuel t l = some (d, pl) := by simpa [Value.cells] using hf
  obtain ⟨x, hx, _⟩ := rd fuel l _ (by simpa using hsz.trans ct) hf'
  subst hx
  exact ⟨x, rfl⟩
end
end Go.Proofs.Ytbpfbebebppleaa
namespace Go.Proofs.Ytbpfbebebppleaa
open Go.RowKit
set_option linter.unusedSimpArgs false
def thenA (p : Itm × Int) (f : Itm → Itm × Int) : Itm × Int := if p.2 = 0 then f p.1 else p
/-- What an act answers: an error and the desk as it was, or the desk with the item and what is said. -/
def ActPost (w : World) (P : Nat → Prop) (d : Dsk) (pi po : Option Addr) (ci co : Nat) (r : Itm × Int) (ks : List Int) (y : Ending) (w' : World) : Prop :=
  Below w.heap.size w w' ∧ ((r.2 ≠ 0 ∧ y = .returned (.tuple #[(deskV d.me pi d.xs.length ci po d.os.length co d.far), .slice none 0 0, .int .i64 r.2])) ∨ (r.2 = 0 ∧ ∃ pi' ci' vs, y = .returned (.tuple #[deskV d.me pi' (insX d.xs r.1).length ci' po d.os.length co d.far, vs, .int .i64 0]) ∧ DRow w' (d.put r.1) pi' ci' po co ∧ At (fun b => P b ∨ w.heap.size ≤ b) (.slice pi' (insX d.xs r.1).length ci') (insX d.xs r.1).length ∧ (ks = [] → vs = .slice none 0 0) ∧ (OwnT encS w' w.heap.size 58 vs (ks.map (fun k => ⟨toI d.me r.1, msgX0 (aboutM k r.1)⟩)) ∧ Apt vs (.slice pi' (insX d.xs r.1).length ci') (insX d.xs r.1).length)))
set_option linter.unusedSimpArgs false in
set_option maxHeartbeats 4000000 in
set_option maxRecDepth 100000 in
theorem dconfirm_any (w : World) (d : Dsk) (pi po : Option Addr) (ci co : Nat) (m : Msg) (vl vn : Value) (fro : Int) (h : DRow w d pi ci po co) (hn : d.xs.length < 1024) (P : Nat → Prop) (hw0 : ∀ b, P b → b < w.heap.size) (hat : At P (.slice pi d.xs.length ci) d.xs.length)
    (hok : (thenA (betwA d m.s m.n m.r d.me fro) (fun x => turnI x 1 3)).2 = 0 → chkI (thenA (betwA d m.s m.n m.r d.me fro) (fun x => turnI x 1 3)).1 = 0 ∧ ((thenA (betwA d m.s m.n m.r d.me fro) (fun x => turnI x 1 3)).1.s = d.me ∨ (thenA (betwA d m.s m.n m.r d.me fro) (fun x => turnI x 1 3)).1.b = d.me)) :
    Calls Try.prog 27 #[(deskV d.me pi d.xs.length ci po d.os.length co d.far), m.v vl vn, .int .i64 fro] w fun y w' => ActPost w P d pi po ci co (thenA (betwA d m.s m.n m.r d.me fro) (fun x => turnI x 1 3)) [] y w' := by
  have HT := Lib.hid (three_new w #[.int .i64 d.me, .slice pi d.xs.length ci, .slice po d.os.length co, .int .i64 d.far] #[.int .i64 m.k, .int .i64 m.s, .int .i64 m.n, .int .i64 m.b, .int .i64 m.c, .int .i64 m.r, .int .i64 m.y, .int .i64 m.a, .bool m.t, vl, vn] #[.int .i64 0, .slice none 0 0, .slice none 0 0, .int .i64 0] 29 40 29)
  have HG := Lib.hid (between_any (((w.alloc (.cells #[.int .i64 d.me, .slice pi d.xs.length ci, .slice po d.os.length co, .int .i64 d.far] 29)).alloc (.cells #[.int .i64 m.k, .int .i64 m.s, .int .i64 m.n, .int .i64 m.b, .int .i64 m.c, .int .i64 m.r, .int .i64 m.y, .int .i64 m.a, .bool m.t, vl, vn] 40)).alloc (.cells #[.int .i64 0, .slice none 0 0, .slice none 0 0, .int .i64 0] 29)) d pi po ci co m vl vn d.me fro (h.kept HT.out.low))
  have HH := Lib.hid h
  have HNN := Lib.hid hn
  have HW0 := Lib.hid hw0
  have HA0 := Lib.hid hat
  clear h hn hw0 hat
  obtain ⟨r, hr⟩ : ∃ r, thenA (betwA d m.s m.n m.r d.me fro) (fun x => turnI x 1 3) = r := ⟨_, rfl⟩
  rw [hr] at hok ⊢
  have HRQ := Lib.hid hr
  clear hr
  generalize betwA d m.s m.n m.r d.me fro = p0 at *
  obtain ⟨q, e⟩ := p0
  unfold ansI Itm.v deskV Msg.v at HG
  unfold deskV Msg.v
  go_enter Try.func27, Try.ntmps27
  go_upto_region 1 with fail
  generalize (((w.alloc (.cells #[.int .i64 d.me, .slice pi d.xs.length ci, .slice po d.os.length co, .int .i64 d.far] 29)).alloc (.cells #[.int .i64 m.k, .int .i64 m.s, .int .i64 m.n, .int .i64 m.b, .int .i64 m.c, .int .i64 m.r, .int .i64 m.y, .int .i64 m.a, .bool m.t, vl, vn] 40)).alloc (.cells #[.int .i64 0, .slice none 0 0, .slice none 0 0, .int .i64 0] 29)) = W at *
  have a0 : W.cell? ⟨w.heap.size, 0, none⟩ = some (.int .i64 d.me) := HT.out.b0.cell 0
  have a1 : W.cell? ⟨w.heap.size, 1, none⟩ = some (.slice pi d.xs.length ci) := HT.out.b0.cell 1
  have a2 : W.cell? ⟨w.heap.size, 2, none⟩ = some (.slice po d.os.length co) := HT.out.b0.cell 2
  have a3 : W.cell? ⟨w.heap.size, 3, none⟩ = some (.int .i64 d.far) := HT.out.b0.cell 3
  have c0 : W.cell? ⟨w.heap.size + 1, 0, none⟩ = some (.int .i64 m.k) := HT.out.b1.cell 0
  have c1 : W.cell? ⟨w.heap.size + 1, 1, none⟩ = some (.int .i64 m.s) := HT.out.b1.cell 1
  have c2 : W.cell? ⟨w.heap.size + 1, 2, none⟩ = some (.int .i64 m.n) := HT.out.b1.cell 2
  have c3 : W.cell? ⟨w.heap.size + 1, 3, none⟩ = some (.int .i64 m.b) := HT.out.b1.cell 3
  have c4 : W.cell? ⟨w.heap.size + 1, 4, none⟩ = some (.int .i64 m.c) := HT.out.b1.cell 4
  have c5 : W.cell? ⟨w.heap.size + 1, 5, none⟩ = some (.int .i64 m.r) := HT.out.b1.cell 5
  have c6 : W.cell? ⟨w.heap.size + 1, 6, none⟩ = some (.int .i64 m.y) := HT.out.b1.cell 6
  have c7 : W.cell? ⟨w.heap.size + 1, 7, none⟩ = some (.int .i64 m.a) := HT.out.b1.cell 7
  have c8 : W.cell? ⟨w.heap.size + 1, 8, none⟩ = some (.bool m.t) := HT.out.b1.cell 8
  have c9 : W.cell? ⟨w.heap.size + 1, 9, none⟩ = some (vl) := HT.out.b1.cell 9
  have c10 : W.cell? ⟨w.heap.size + 1, 10, none⟩ = some (vn) := HT.out.b1.cell 10
  go_wp2_with fail
  clear a0 a1 a2 a3 c0 c1 c2 c3 c4 c5 c6 c7 c8 c9 c10
  refine HG.out.mono ?_
  rintro y w1 ⟨rfl, hb⟩
  have HB6 := Lib.hid ((HT.out.low.trans (hb.mono HT.out.low.size)).alloc (HT.out.low.trans (hb.mono HT.out.low.size)).size (.cells #[.int .i64 q.s, .int .i64 q.n, .int .i64 q.b, .int .i64 q.c, .int .i64 q.a, .int .i64 q.r, .int .i64 q.t, .int .i64 q.y] 64))
  have HD6 : Hid (Blk (w1.alloc (.cells #[.int .i64 q.s, .int .i64 q.n, .int .i64 q.b, .int .i64 q.c, .int .i64 q.a, .int .i64 q.r, .int .i64 q.t, .int .i64 q.y] 64)) w.heap.size #[.int .i64 d.me, .slice pi d.xs.length ci, .slice po d.os.length co, .int .i64 d.far] 29) := (HT.out.b0.below hb HT.out.b0.lt).alloc _
  have HM6 : Hid (Blk (w1.alloc (.cells #[.int .i64 q.s, .int .i64 q.n, .int .i64 q.b, .int .i64 q.c, .int .i64 q.a, .int .i64 q.r, .int .i64 q.t, .int .i64 q.y] 64)) (w.heap.size + 1) #[.int .i64 m.k, .int .i64 m.s, .int .i64 m.n, .int .i64 m.b, .int .i64 m.c, .int .i64 m.r, .int .i64 m.y, .int .i64 m.a, .bool m.t, vl, vn] 40) := (HT.out.b1.below hb HT.out.b1.lt).alloc _
  have HR6 : Hid (Blk (w1.alloc (.cells #[.int .i64 q.s, .int .i64 q.n, .int .i64 q.b, .int .i64 q.c, .int .i64 q.a, .int .i64 q.r, .int .i64 q.t, .int .i64 q.y] 64)) (w.heap.size + 1 + 1) #[.int .i64 0, .slice none 0 0, .slice none 0 0, .int .i64 0] 29) := (HT.out.b2.below hb HT.out.b2.lt).alloc _
  have HQ6 := Lib.hid (Blk.new w1 #[.int .i64 q.s, .int .i64 q.n, .int .i64 q.b, .int .i64 q.c, .int .i64 q.a, .int .i64 q.r, .int .i64 q.t, .int .i64 q.y] 64)
  have HGX : Hid (w.heap.size + 1 + 1 < w1.heap.size) := by show _ < _; have h1 := HT.out.b2.lt; have h2 := hb.size; omega
  clear hb HG HT
  go_upto_region 2 with fail
  generalize w1.alloc (.cells #[.int .i64 q.s, .int .i64 q.n, .int .i64 q.b, .int .i64 q.c, .int .i64 q.a, .int .i64 q.r, .int .i64 q.t, .int .i64 q.y] 64) = w6 at *
  generalize w1.heap.size = gx at *
  by_cases he0 : e = 0
  · subst he0
    have hth : thenA (q, 0) (fun x => turnI x 1 3) = turnI q 1 3 := by unfold thenA; rw [if_pos rfl]
    have HRP : Hid (turnI q 1 3 = r) := by show _ = _; rw [← HRQ.out, hth]
    clear hth HRQ
    have HG := Lib.hid (agree_any q w6)
    generalize hp1 : turnI q 1 3 = p1 at *
    clear hp1
    obtain ⟨q1, e1⟩ := p1
    unfold ansI Itm.v at HG
    have x0 : w6.cell? ⟨gx, 0, none⟩ = some (.int .i64 q.s) := HQ6.out.cell 0
    have x1 : w6.cell? ⟨gx, 1, none⟩ = some (.int .i64 q.n) := HQ6.out.cell 1
    have x2 : w6.cell? ⟨gx, 2, none⟩ = some (.int .i64 q.b) := HQ6.out.cell 2
    have x3 : w6.cell? ⟨gx, 3, none⟩ = some (.int .i64 q.c) := HQ6.out.cell 3
    have x4 : w6.cell? ⟨gx, 4, none⟩ = some (.int .i64 q.a) := HQ6.out.cell 4
    have x5 : w6.cell? ⟨gx, 5, none⟩ = some (.int .i64 q.r) := HQ6.out.cell 5
    have x6 : w6.cell? ⟨gx, 6, none⟩ = some (.int .i64 q.t) := HQ6.out.cell 6
    have x7 : w6.cell? ⟨gx, 7, none⟩ = some (.int .i64 q.y) := HQ6.out.cell 7
    have c7 : w6.cell? ⟨w.heap.size + 1, 7, none⟩ = some (.int .i64 m.a) := HM6.out.cell 7
    have HOKQ := Lib.hid hok
    clear hok
    go_wp2_with fail
    clear x0 x1 x2 x3 x4 x5 x6 x7 c7
    refine HG.out.mono ?_
    rintro y w2 ⟨rfl, hb2⟩
    have HD2 := Lib.hid (HD6.out.below hb2 HD6.out.lt)
    have HR2 := Lib.hid (HR6.out.below hb2 HR6.out.lt)
    have HQ2 := Lib.hid (HQ6.out.below hb2 HQ6.out.lt)
    have HB2 := Lib.hid (HB6.out.trans (hb2.mono HB6.out.size))
    clear hb2 HG HD6 HR6 HQ6 HB6 HM6
    go_wp2_with (with_reducible refine stop_storeT 64 (.tmp 9) (.tmp 26) rfl ?_)
    have HTH : Hid (w2.there gx 0 8) := HQ2.out.thereAt
    have HFF : Hid (Blk (w2.setCells gx 0 (#[.int .i64 q1.s, .int .i64 q1.n, .int .i64 q1.b, .int .i64 q1.c, .int .i64 q1.a, .int .i64 q1.r, .int .i64 q1.t, .int .i64 q1.y] : Array Value).toList) gx #[.int .i64 q1.s, .int .i64 q1.n, .int .i64 q1.b, .int .i64 q1.c, .int .i64 q1.a, .int .i64 q1.r, .int .i64 q1.t, .int .i64 q1.y] 64 ∧ Chg gx w2 (w2.setCells gx 0 (#[.int .i64 q1.s, .int .i64 q1.n, .int .i64 q1.b, .int .i64 q1.c, .int .i64 q1.a, .int .i64 q1.r, .int .i64 q1.t, .int .i64 q1.y] : Array Value).toList)) := ⟨blk_put_all HQ2.out _ rfl, chg_putL _ _ _ _ _ (Chg.refl _ w2)⟩
    refine wpList_store_mid rfl 64 (.tmp 9) (.tmp 26) rfl gx 0 #[.int .i64 q1.s, .int .i64 q1.n, .int .i64 q1.b, .int .i64 q1.c, .int .i64 q1.a, .int .i64 q1.r, .int .i64 q1.t, .int .i64 q1.y] rfl rfl HTH.out (infoI8 rfl) (all_oneCell_toArray (encI.one q1)) ?_
    generalize World.setCells w2 gx _ _ = w6 at *
    clear HTH
    have HD6 := Lib.hid (HD2.out.chg HFF.out.2 (by have := HGX.out; omega))
    have HR6 := Lib.hid (HR2.out.chg HFF.out.2 (by have := HGX.out; omega))
    have HQ6 := Lib.hid HFF.out.1
    have HB6 := Lib.hid (HB2.out.trans (HFF.out.2.below (by have := HGX.out; omega) HB2.out.size))
    clear HD2 HR2 HQ2 HB2 HFF
    go_upto_region 4 with fail
    by_cases he2 : e1 = 0
    · subst he2
      have HOK : Hid (chkI q1 = 0 ∧ (q1.s = d.me ∨ q1.b = d.me)) := by
        have h := HOKQ.out
        rw [← HRP.out] at h
        exact h rfl
      have a0 : w6.cell? ⟨w.heap.size, 0, none⟩ = some (.int .i64 d.me) := HD6.out.cell 0
      have a1 : w6.cell? ⟨w.heap.size, 1, none⟩ = some (.slice pi d.xs.length ci) := HD6.out.cell 1
      have a2 : w6.cell? ⟨w.heap.size, 2, none⟩ = some (.slice po d.os.length co) := HD6.out.cell 2
      have a3 : w6.cell? ⟨w.heap.size, 3, none⟩ = some (.int .i64 d.far) := HD6.out.cell 3
      have x0 : w6.cell? ⟨gx, 0, none⟩ = some (.int .i64 q1.s) := HQ6.out.cell 0
      have x1 : w6.cell? ⟨gx, 1, none⟩ = some (.int .i64 q1.n) := HQ6.out.cell 1
      have x2 : w6.cell? ⟨gx, 2, none⟩ = some (.int .i64 q1.b) := HQ6.out.cell 2
      have x3 : w6.cell? ⟨gx, 3, none⟩ = some (.int .i64 q1.c) := HQ6.out.cell 3
      have x4 : w6.cell? ⟨gx, 4, none⟩ = some (.int .i64 q1.a) := HQ6.out.cell 4
      have x5 : w6.cell? ⟨gx, 5, none⟩ = some (.int .i64 q1.r) := HQ6.out.cell 5
      have x6 : w6.cell? ⟨gx, 6, none⟩ = some (.int .i64 q1.t) := HQ6.out.cell 6
      have x7 : w6.cell? ⟨gx, 7, none⟩ = some (.int .i64 q1.y) := HQ6.out.cell 7
      have HBH := Lib.hid (behind_0 w6 d pi po ci co q1 (HH.out.kept HB6.out) HOK.out.1 HOK.out.2 HNN.out P (fun b hb => Nat.lt_of_lt_of_le (HW0.out b hb) HB6.out.size) HA0.out)
      unfold deskV Itm.v at HBH
      go_wp2_with fail
      clear a0 a1 a2 a3 x0 x1 x2 x3 x4 x5 x6 x7
      refine HBH.out.mono ?_
      rintro y w7 ⟨pi2, ci2, rfl, hdr, hat7, hb7⟩
      have hb67 : Below w6.heap.size w6 w7 := hb7
      have HR7 := Lib.hid (HR6.out.below hb67 HR6.out.lt)
      have HB7 := Lib.hid (HB6.out.trans (hb67.mono HB6.out.size))
      have HZ7 : Hid (w.heap.size + 1 + 1 < w6.heap.size ∧ w.heap.size ≤ w6.heap.size) := ⟨HR6.out.lt, HB6.out.size⟩
      go_wp2_with (with_reducible refine stop_storeT 29 (.tmp 6) (.tmp 32) rfl ?_)
      have HTH : Hid (w7.there (w.heap.size + 1 + 1) 0 4) := HR7.out.thereAt
      have HF : Hid (Blk (w7.setCells (w.heap.size + 1 + 1) 0 (#[.int .i64 d.me, .slice pi2 (insX d.xs q1).length ci2, .slice po d.os.length co, .int .i64 d.far] : Array Value).toList) (w.heap.size + 1 + 1) #[.int .i64 d.me, .slice pi2 (insX d.xs q1).length ci2, .slice po d.os.length co, .int .i64 d.far] 29 ∧ Below w.heap.size w (w7.setCells (w.heap.size + 1 + 1) 0 (#[.int .i64 d.me, .slice pi2 (insX d.xs q1).length ci2, .slice po d.os.length co, .int .i64 d.far] : Array Value).toList) ∧ Chg (w.heap.size + 1 + 1) w7 (w7.setCells (w.heap.size + 1 + 1) 0 (#[.int .i64 d.me, .slice pi2 (insX d.xs q1).length ci2, .slice po d.os.length co, .int .i64 d.far] : Array Value).toList)) := ⟨blk_put_all HR7.out _ rfl, below_put (by omega) _ _ _ _ HB7.out, chg_putL _ _ _ _ _ (Chg.refl _ w7)⟩
      refine wpList_store_mid rfl 29 (.tmp 6) (.tmp 32) rfl (w.heap.size + 1 + 1) 0 #[.int .i64 d.me, .slice pi2 (insX d.xs q1).length ci2, .slice po d.os.length co, .int .i64 d.far] rfl rfl HTH.out (infoD4 rfl) (all_oneCell_toArray (by intro u hu; simp at hu; rcases hu with rfl | rfl | rfl | rfl <;> rfl)) ?_
      generalize World.setCells w7 _ _ _ = w8 at *
      clear HTH
      go_wp2_with fail
      have hf := HF.out.1
      have hrr := HRP.out
      subst hrr
      refine bodyPost_ret (v := .tuple #[.agg #[.int .i64 d.me, .slice pi2 (insX d.xs q1).length ci2, .slice po d.os.length co, .int .i64 d.far], .slice none 0 0, .int .i64 0]) (by simp [results, Try.results27, go_sem, hf.cell 0, hf.cell 1, hf.cell 2, hf.cell 3]) rfl ⟨HF.out.2.1, .inr ⟨rfl, pi2, ci2, _, rfl, ?_, ?_, ?_, ?_⟩⟩
      · exact ⟨hdr.items.keepP hat7 (KeepP.of_chg HF.out.2.2 (fun hb => by have h2 := HZ7.out; have h3 := HW0.out; rcases hb with hb | hb; (have h4 := h3 _ hb; omega); ((try simp at hb); omega))), HH.out.orders.kept HF.out.2.1, hdr.sx, hdr.so, hdr.nx, hdr.no⟩
      · exact hat7.imp (fun b hb => hb.imp id (fun h => by have h2 := HZ7.out; (try simp at h); omega))
      · intro _; first | rfl | (rename_i h; cases h)
      · exact ⟨OwnT.nil_ _ _ _ _, Apt.nil _ _⟩
    · have he1 := Lib.hid he2
      clear he2
      have a0 : w6.cell? ⟨w.heap.size, 0, none⟩ = some (.int .i64 d.me) := HD6.out.cell 0
      have a1 : w6.cell? ⟨w.heap.size, 1, none⟩ = some (.slice pi d.xs.length ci) := HD6.out.cell 1
      have a2 : w6.cell? ⟨w.heap.size, 2, none⟩ = some (.slice po d.os.length co) := HD6.out.cell 2
      have a3 : w6.cell? ⟨w.heap.size, 3, none⟩ = some (.int .i64 d.far) := HD6.out.cell 3
      have x0 : w6.cell? ⟨gx, 0, none⟩ = some (.int .i64 q1.s) := HQ6.out.cell 0
      have x1 : w6.cell? ⟨gx, 1, none⟩ = some (.int .i64 q1.n) := HQ6.out.cell 1
      have x2 : w6.cell? ⟨gx, 2, none⟩ = some (.int .i64 q1.b) := HQ6.out.cell 2
      have x3 : w6.cell? ⟨gx, 3, none⟩ = some (.int .i64 q1.c) := HQ6.out.cell 3
      have x4 : w6.cell? ⟨gx, 4, none⟩ = some (.int .i64 q1.a) := HQ6.out.cell 4
      have x5 : w6.cell? ⟨gx, 5, none⟩ = some (.int .i64 q1.r) := HQ6.out.cell 5
      have x6 : w6.cell? ⟨gx, 6, none⟩ = some (.int .i64 q1.t) := HQ6.out.cell 6
      have x7 : w6.cell? ⟨gx, 7, none⟩ = some (.int .i64 q1.y) := HQ6.out.cell 7
      have HBH := Lib.hid (behind_err w6 d pi po ci co q1 e1 (.slice none 0 0) (by first | exact he.out | exact he1.out))
      unfold deskV Itm.v at HBH
      go_wp2_with fail
      clear a0 a1 a2 a3 x0 x1 x2 x3 x4 x5 x6 x7
      refine HBH.out.mono ?_
      rintro y w7 ⟨rfl, hb7⟩
      have hb67 : Below w6.heap.size w6 w7 := hb7
      have HR7 := Lib.hid (HR6.out.below hb67 HR6.out.lt)
      have HB7 := Lib.hid (HB6.out.trans (hb67.mono HB6.out.size))
      have HZ7 : Hid (w.heap.size + 1 + 1 < w6.heap.size ∧ w.heap.size ≤ w6.heap.size) := ⟨HR6.out.lt, HB6.out.size⟩
      go_wp2_with (with_reducible refine stop_storeT 29 (.tmp 6) (.tmp 32) rfl ?_)
      have HTH : Hid (w7.there (w.heap.size + 1 + 1) 0 4) := HR7.out.thereAt
      have HF : Hid (Blk (w7.setCells (w.heap.size + 1 + 1) 0 (#[.int .i64 d.me, .slice pi d.xs.length ci, .slice po d.os.length co, .int .i64 d.far] : Array Value).toList) (w.heap.size + 1 + 1) #[.int .i64 d.me, .slice pi d.xs.length ci, .slice po d.os.length co, .int .i64 d.far] 29 ∧ Below w.heap.size w (w7.setCells (w.heap.size + 1 + 1) 0 (#[.int .i64 d.me, .slice pi d.xs.length ci, .slice po d.os.length co, .int .i64 d.far] : Array Value).toList) ∧ Chg (w.heap.size + 1 + 1) w7 (w7.setCells (w.heap.size + 1 + 1) 0 (#[.int .i64 d.me, .slice pi d.xs.length ci, .slice po d.os.length co, .int .i64 d.far] : Array Value).toList)) := ⟨blk_put_all HR7.out _ rfl, below_put (by omega) _ _ _ _ HB7.out, chg_putL _ _ _ _ _ (Chg.refl _ w7)⟩
      refine wpList_store_mid rfl 29 (.tmp 6) (.tmp 32) rfl (w.heap.size + 1 + 1) 0 #[.int .i64 d.me, .slice pi d.xs.length ci, .slice po d.os.length co, .int .i64 d.far] rfl rfl HTH.out (infoD4 rfl) (all_oneCell_toArray (by intro u hu; simp at hu; rcases hu with rfl | rfl | rfl | rfl <;> rfl)) ?_
      generalize World.setCells w7 _ _ _ = w8 at *
      clear HTH
      go_wp2_with fail
      have hf := HF.out.1
      have hrr := HRP.out
      subst hrr
      refine bodyPost_ret (v := .tuple #[.agg #[.int .i64 d.me, .slice pi d.xs.length ci, .slice po d.os.length co, .int .i64 d.far], .slice none 0 0, .int .i64 e1]) (by simp [results, Try.results27, go_sem, hf.cell 0, hf.cell 1, hf.cell 2, hf.cell 3]) rfl ⟨HF.out.2.1, .inl ⟨by first | exact he.out | exact he1.out, rfl⟩⟩
  · have he := Lib.hid he0
    have heb : (e == 0) = false := by simpa using he0
    have hth : thenA (q, e) (fun x => turnI x 1 3) = (q, e) := by unfold thenA; rw [if_neg he0]
    have HRP : Hid ((q, e) = r) := by show _ = _; rw [← HRQ.out, hth]
    clear hth he0 hok HRQ
    go_upto_region 4 with fail
    clear heb
    have a0 : w6.cell? ⟨w.heap.size, 0, none⟩ = some (.int .i64 d.me) := HD6.out.cell 0
    have a1 : w6.cell? ⟨w.heap.size, 1, none⟩ = some (.slice pi d.xs.length ci) := HD6.out.cell 1
    have a2 : w6.cell? ⟨w.heap.size, 2, none⟩ = some (.slice po d.os.length co) := HD6.out.cell 2
    have a3 : w6.cell? ⟨w.heap.size, 3, none⟩ = some (.int .i64 d.far) := HD6.out.cell 3
    have x0 : w6.cell? ⟨gx, 0, none⟩ = some (.int .i64 q.s) := HQ6.out.cell 0
    have x1 : w6.cell? ⟨gx, 1, none⟩ = some (.int .i64 q.n) := HQ6.out.cell 1
    have x2 : w6.cell? ⟨gx, 2, none⟩ = some (.int .i64 q.b) := HQ6.out.cell 2
    have x3 : w6.cell? ⟨gx, 3, none⟩ = some (.int .i64 q.c) := HQ6.out.cell 3
    have x4 : w6.cell? ⟨gx, 4, none⟩ = some (.int .i64 q.a) := HQ6.out.cell 4
    have x5 : w6.cell? ⟨gx, 5, none⟩ = some (.int .i64 q.r) := HQ6.out.cell 5
    have x6 : w6.cell? ⟨gx, 6, none⟩ = some (.int .i64 q.t) := HQ6.out.cell 6
    have x7 : w6.cell? ⟨gx, 7, none⟩ = some (.int .i64 q.y) := HQ6.out.cell 7
    have HBH := Lib.hid (behind_err w6 d pi po ci co q e (.slice none 0 0) (by first | exact he.out | exact he1.out))
    unfold deskV Itm.v at HBH
    go_wp2_with fail
    clear a0 a1 a2 a3 x0 x1 x2 x3 x4 x5 x6 x7
    refine HBH.out.mono ?_
    rintro y w7 ⟨rfl, hb7⟩
    have hb67 : Below w6.heap.size w6 w7 := hb7
    have HR7 := Lib.hid (HR6.out.below hb67 HR6.out.lt)
    have HB7 := Lib.hid (HB6.out.trans (hb67.mono HB6.out.size))
    have HZ7 : Hid (w.heap.size + 1 + 1 < w6.heap.size ∧ w.heap.size ≤ w6.heap.size) := ⟨HR6.out.lt, HB6.out.size⟩
    go_wp2_with (with_reducible refine stop_storeT 29 (.tmp 6) (.tmp 32) rfl ?_)
    have HTH : Hid (w7.there (w.heap.size + 1 + 1) 0 4) := HR7.out.thereAt
    have HF : Hid (Blk (w7.setCells (w.heap.size + 1 + 1) 0 (#[.int .i64 d.me, .slice pi d.xs.length ci, .slice po d.os.length co, .int .i64 d.far] : Array Value).toList) (w.heap.size + 1 + 1) #[.int .i64 d.me, .slice pi d.xs.length ci, .slice po d.os.length co, .int .i64 d.far] 29 ∧ Below w.heap.size w (w7.setCells (w.heap.size + 1 + 1) 0 (#[.int .i64 d.me, .slice pi d.xs.length ci, .slice po d.os.length co, .int .i64 d.far] : Array Value).toList) ∧ Chg (w.heap.size + 1 + 1) w7 (w7.setCells (w.heap.size + 1 + 1) 0 (#[.int .i64 d.me, .slice pi d.xs.length ci, .slice po d.os.length co, .int .i64 d.far] : Array Value).toList)) := ⟨blk_put_all HR7.out _ rfl, below_put (by omega) _ _ _ _ HB7.out, chg_putL _ _ _ _ _ (Chg.refl _ w7)⟩
    refine wpList_store_mid rfl 29 (.tmp 6) (.tmp 32) rfl (w.heap.size + 1 + 1) 0 #[.int .i64 d.me, .slice pi d.xs.length ci, .slice po d.os.length co, .int .i64 d.far] rfl rfl HTH.out (infoD4 rfl) (all_oneCell_toArray (by intro u hu; simp at hu; rcases hu with rfl | rfl | rfl | rfl <;> rfl)) ?_
    generalize World.setCells w7 _ _ _ = w8 at *
    clear HTH
    go_wp2_with fail
    have hf := HF.out.1
    have hrr := HRP.out
    subst hrr
    refine bodyPost_ret (v := .tuple #[.agg #[.int .i64 d.me, .slice pi d.xs.length ci, .slice po d.os.length co, .int .i64 d.far], .slice none 0 0, .int .i64 e]) (by simp [results, Try.results27, go_sem, hf.cell 0, hf.cell 1, hf.cell 2, hf.cell 3]) rfl ⟨HF.out.2.1, .inl ⟨by first | exact he.out | exact he1.out, rfl⟩⟩
set_option linter.unusedSimpArgs false in
set_option maxHeartbeats 4000000 in
set_option maxRecDepth 100000 in
theorem dcancel_any (w : World) (d : Dsk) (pi po : Option Addr) (ci co : Nat) (m : Msg) (vl vn : Value) (fro : Int) (h : DRow w d pi ci po co) (hn : d.xs.length < 1024) (P : Nat → Prop) (hw0 : ∀ b, P b → b < w.heap.size) (hat : At P (.slice pi d.xs.length ci) d.xs.length)
    (hok : (thenA (betwA d m.s m.n m.r fro d.me) (fun x => turnI x 2 4)).2 = 0 → chkI (thenA (betwA d m.s m.n m.r fro d.me) (fun x => turnI x 2 4)).1 = 0 ∧ ((thenA (betwA d m.s m.n m.r fro d.me) (fun x => turnI x 2 4)).1.s = d.me ∨ (thenA (betwA d m.s m.n m.r fro d.me) (fun x => turnI x 2 4)).1.b = d.me)) :
    Calls Try.prog 29 #[(deskV d.me pi d.xs.length ci po d.os.length co d.far), m.v vl vn, .int .i64 fro] w fun y w' => ActPost w P d pi po ci co (thenA (betwA d m.s m.n m.r fro d.me) (fun x => turnI x 2 4)) [] y w' := by
  have HT := Lib.hid (three_new w #[.int .i64 d.me, .slice pi d.xs.length ci, .slice po d.os.length co, .int .i64 d.far] #[.int .i64 m.k, .int .i64 m.s, .int .i64 m.n, .int .i64 m.b, .int .i64 m.c, .int .i64 m.r, .int .i64 m.y, .int .i64 m.a, .bool m.t, vl, vn] #[.int .i64 0, .slice none 0 0, .slice none 0 0, .int .i64 0] 29 40 29)
  have HG := Lib.hid (between_any (((w.alloc (.cells #[.int .i64 d.me, .slice pi d.xs.length ci, .slice po d.os.length co, .int .i64 d.far] 29)).alloc (.cells #[.int .i64 m.k, .int .i64 m.s, .int .i64 m.n, .int .i64 m.b, .int .i64 m.c, .int .i64 m.r, .int .i64 m.y, .int .i64 m.a, .bool m.t, vl, vn] 40)).alloc (.cells #[.int .i64 0, .slice none 0 0, .slice none 0 0, .int .i64 0] 29)) d pi po ci co m vl vn fro d.me (h.kept HT.out.low))
  have HH := Lib.hid h
  have HNN := Lib.hid hn
  have HW0 := Lib.hid hw0
  have HA0 := Lib.hid hat
  clear h hn hw0 hat
  obtain ⟨r, hr⟩ : ∃ r, thenA (betwA d m.s m.n m.r fro d.me) (fun x => turnI x 2 4) = r := ⟨_, rfl⟩
  rw [hr] at hok ⊢
  have HRQ := Lib.hid hr
  clear hr
  generalize betwA d m.s m.n m.r fro d.me = p0 at *
  obtain ⟨q, e⟩ := p0
  unfold ansI Itm.v deskV Msg.v at HG
  unfold deskV Msg.v
  go_enter Try.func29, Try.ntmps29
  go_upto_region 1 with fail
  generalize (((w.alloc (.cells #[.int .i64 d.me, .slice pi d.xs.length ci, .slice po d.os.length co, .int .i64 d.far] 29)).alloc (.cells #[.int .i64 m.k, .int .i64 m.s, .int .i64 m.n, .int .i64 m.b, .int .i64 m.c, .int .i64 m.r, .int .i64 m.y, .int .i64 m.a, .bool m.t, vl, vn] 40)).alloc (.cells #[.int .i64 0, .slice none 0 0, .slice none 0 0, .int .i64 0] 29)) = W at *
  have a0 : W.cell? ⟨w.heap.size, 0, none⟩ = some (.int .i64 d.me) := HT.out.b0.cell 0
  have a1 : W.cell? ⟨w.heap.size, 1, none⟩ = some (.slice pi d.xs.length ci) := HT.out.b0.cell 1
  have a2 : W.cell? ⟨w.heap.size, 2, none⟩ = some (.slice po d.os.length co) := HT.out.b0.cell 2
  have a3 : W.cell? ⟨w.heap.size, 3, none⟩ = some (.int .i64 d.far) := HT.out.b0.cell 3
  have c0 : W.cell? ⟨w.heap.size + 1, 0, none⟩ = some (.int .i64 m.k) := HT.out.b1.cell 0
  have c1 : W.cell? ⟨w.heap.size + 1, 1, none⟩ = some (.int .i64 m.s) := HT.out.b1.cell 1
  have c2 : W.cell? ⟨w.heap.size + 1, 2, none⟩ = some (.int .i64 m.n) := HT.out.b1.cell 2
  have c3 : W.cell? ⟨w.heap.size + 1, 3, none⟩ = some (.int .i64 m.b) := HT.out.b1.cell 3
  have c4 : W.cell? ⟨w.heap.size + 1, 4, none⟩ = some (.int .i64 m.c) := HT.out.b1.cell 4
  have c5 : W.cell? ⟨w.heap.size + 1, 5, none⟩ = some (.int .i64 m.r) := HT.out.b1.cell 5
  have c6 : W.cell? ⟨w.heap.size + 1, 6, none⟩ = some (.int .i64 m.y) := HT.out.b1.cell 6
  have c7 : W.cell? ⟨w.heap.size + 1, 7, none⟩ = some (.int .i64 m.a) := HT.out.b1.cell 7
  have c8 : W.cell? ⟨w.heap.size + 1, 8, none⟩ = some (.bool m.t) := HT.out.b1.cell 8
  have c9 : W.cell? ⟨w.heap.size + 1, 9, none⟩ = some (vl) := HT.out.b1.cell 9
  have c10 : W.cell? ⟨w.heap.size + 1, 10, none⟩ = some (vn) := HT.out.b1.cell 10
  go_wp2_with fail
  clear a0 a1 a2 a3 c0 c1 c2 c3 c4 c5 c6 c7 c8 c9 c10
  refine HG.out.mono ?_
  rintro y w1 ⟨rfl, hb⟩
  have HB6 := Lib.hid ((HT.out.low.trans (hb.mono HT.out.low.size)).alloc (HT.out.low.trans (hb.mono HT.out.low.size)).size (.cells #[.int .i64 q.s, .int .i64 q.n, .int .i64 q.b, .int .i64 q.c, .int .i64 q.a, .int .i64 q.r, .int .i64 q.t, .int .i64 q.y] 64))
  have HD6 : Hid (Blk (w1.alloc (.cells #[.int .i64 q.s, .int .i64 q.n, .int .i64 q.b, .int .i64 q.c, .int .i64 q.a, .int .i64 q.r, .int .i64 q.t, .int .i64 q.y] 64)) w.heap.size #[.int .i64 d.me, .slice pi d.xs.length ci, .slice po d.os.length co, .int .i64 d.far] 29) := (HT.out.b0.below hb HT.out.b0.lt).alloc _
  have HM6 : Hid (Blk (w1.alloc (.cells #[.int .i64 q.s, .int .i64 q.n, .int .i64 q.b, .int .i64 q.c, .int .i64 q.a, .int .i64 q.r, .int .i64 q.t, .int .i64 q.y] 64)) (w.heap.size + 1) #[.int .i64 m.k, .int .i64 m.s, .int .i64 m.n, .int .i64 m.b, .int .i64 m.c, .int .i64 m.r, .int .i64 m.y, .int .i64 m.a, .bool m.t, vl, vn] 40) := (HT.out.b1.below hb HT.out.b1.lt).alloc _
  have HR6 : Hid (Blk (w1.alloc (.cells #[.int .i64 q.s, .int .i64 q.n, .int .i64 q.b, .int .i64 q.c, .int .i64 q.a, .int .i64 q.r, .int .i64 q.t, .int .i64 q.y] 64)) (w.heap.size + 1 + 1) #[.int .i64 0, .slice none 0 0, .slice none 0 0, .int .i64 0] 29) := (HT.out.b2.below hb HT.out.b2.lt).alloc _
  have HQ6 := Lib.hid (Blk.new w1 #[.int .i64 q.s, .int .i64 q.n, .int .i64 q.b, .int .i64 q.c, .int .i64 q.a, .int .i64 q.r, .int .i64 q.t, .int .i64 q.y] 64)
  have HGX : Hid (w.heap.size + 1 + 1 < w1.heap.size) := by show _ < _; have h1 := HT.out.b2.lt; have h2 := hb.size; omega
  clear hb HG HT
  go_upto_region 2 with fail
  generalize w1.alloc (.cells #[.int .i64 q.s, .int .i64 q.n, .int .i64 q.b, .int .i64 q.c, .int .i64 q.a, .int .i64 q.r, .int .i64 q.t, .int .i64 q.y] 64) = w6 at *
  generalize w1.heap.size = gx at *
  by_cases he0 : e = 0
  · subst he0
    have hth : thenA (q, 0) (fun x => turnI x 2 4) = turnI q 2 4 := by unfold thenA; rw [if_pos rfl]
    have HRP : Hid (turnI q 2 4 = r) := by show _ = _; rw [← HRQ.out, hth]
    clear hth HRQ
    have HG := Lib.hid (cancel_any q w6)
    generalize hp1 : turnI q 2 4 = p1 at *
    clear hp1
    obtain ⟨q1, e1⟩ := p1
    unfold ansI Itm.v at HG
    have x0 : w6.cell? ⟨gx, 0, none⟩ = some (.int .i64 q.s) := HQ6.out.cell 0
    have x1 : w6.cell? ⟨gx, 1, none⟩ = some (.int .i64 q.n) := HQ6.out.cell 1
    have x2 : w6.cell? ⟨gx, 2, none⟩ = some (.int .i64 q.b) := HQ6.out.cell 2
    have x3 : w6.cell? ⟨gx, 3, none⟩ = some (.int .i64 q.c) := HQ6.out.cell 3
    have x4 : w6.cell? ⟨gx, 4, none⟩ = some (.int .i64 q.a) := HQ6.out.cell 4
    have x5 : w6.cell? ⟨gx, 5, none⟩ = some (.int .i64 q.r) := HQ6.out.cell 5
    have x6 : w6.cell? ⟨gx, 6, none⟩ = some (.int .i64 q.t) := HQ6.out.cell 6
    have x7 : w6.cell? ⟨gx, 7, none⟩ = some (.int .i64 q.y) := HQ6.out.cell 7
    have c7 : w6.cell? ⟨w.heap.size + 1, 7, none⟩ = some (.int .i64 m.a) := HM6.out.cell 7
    have HOKQ := Lib.hid hok
    clear hok
    go_wp2_with fail
    clear x0 x1 x2 x3 x4 x5 x6 x7 c7
    refine HG.out.mono ?_
    rintro y w2 ⟨rfl, hb2⟩
    have HD2 := Lib.hid (HD6.out.below hb2 HD6.out.lt)
    have HR2 := Lib.hid (HR6.out.below hb2 HR6.out.lt)
    have HQ2 := Lib.hid (HQ6.out.below hb2 HQ6.out.lt)
    have HB2 := Lib.hid (HB6.out.trans (hb2.mono HB6.out.size))
    clear hb2 HG HD6 HR6 HQ6 HB6 HM6
    go_wp2_with (with_reducible refine stop_storeT 64 (.tmp 9) (.tmp 26) rfl ?_)
    have HTH : Hid (w2.there gx 0 8) := HQ2.out.thereAt
    have HFF : Hid (Blk (w2.setCells gx 0 (#[.int .i64 q1.s, .int .i64 q1.n, .int .i64 q1.b, .int .i64 q1.c, .int .i64 q1.a, .int .i64 q1.r, .int .i64 q1.t, .int .i64 q1.y] : Array Value).toList) gx #[.int .i64 q1.s, .int .i64 q1.n, .int .i64 q1.b, .int .i64 q1.c, .int .i64 q1.a, .int .i64 q1.r, .int .i64 q1.t, .int .i64 q1.y] 64 ∧ Chg gx w2 (w2.setCells gx 0 (#[.int .i64 q1.s, .int .i64 q1.n, .int .i64 q1.b, .int .i64 q1.c, .int .i64 q1.a, .int .i64 q1.r, .int .i64 q1.t, .int .i64 q1.y] : Array Value).toList)) := ⟨blk_put_all HQ2.out _ rfl, chg_putL _ _ _ _ _ (Chg.refl _ w2)⟩
    refine wpList_store_mid rfl 64 (.tmp 9) (.tmp 26) rfl gx 0 #[.int .i64 q1.s, .int .i64 q1.n, .int .i64 q1.b, .int .i64 q1.c, .int .i64 q1.a, .int .i64 q1.r, .int .i64 q1.t, .int .i64 q1.y] rfl rfl HTH.out (infoI8 rfl) (all_oneCell_toArray (encI.one q1)) ?_
    generalize World.setCells w2 gx _ _ = w6 at *
    clear HTH
    have HD6 := Lib.hid (HD2.out.chg HFF.out.2 (by have := HGX.out; omega))
    have HR6 := Lib.hid (HR2.out.chg HFF.out.2 (by have := HGX.out; omega))
    have HQ6 := Lib.hid HFF.out.1
    have HB6 := Lib.hid (HB2.out.trans (HFF.out.2.below (by have := HGX.out; omega) HB2.out.size))
    clear HD2 HR2 HQ2 HB2 HFF
    go_upto_region 4 with fail
    by_cases he2 : e1 = 0
    · subst he2
      have HOK : Hid (chkI q1 = 0 ∧ (q1.s = d.me ∨ q1.b = d.me)) := by
        have h := HOKQ.out
        rw [← HRP.out] at h
        exact h rfl
      have a0 : w6.cell? ⟨w.heap.size, 0, none⟩ = some (.int .i64 d.me) := HD6.out.cell 0
      have a1 : w6.cell? ⟨w.heap.size, 1, none⟩ = some (.slice pi d.xs.length ci) := HD6.out.cell 1
      have a2 : w6.cell? ⟨w.heap.size, 2, none⟩ = some (.slice po d.os.length co) := HD6.out.cell 2
      have a3 : w6.cell? ⟨w.heap.size, 3, none⟩ = some (.int .i64 d.far) := HD6.out.cell 3
      have x0 : w6.cell? ⟨gx, 0, none⟩ = some (.int .i64 q1.s) := HQ6.out.cell 0
      have x1 : w6.cell? ⟨gx, 1, none⟩ = some (.int .i64 q1.n) := HQ6.out.cell 1
      have x2 : w6.cell? ⟨gx, 2, none⟩ = some (.int .i64 q1.b) := HQ6.out.cell 2
      have x3 : w6.cell? ⟨gx, 3, none⟩ = some (.int .i64 q1.c) := HQ6.out.cell 3
      have x4 : w6.cell? ⟨gx, 4, none⟩ = some (.int .i64 q1.a) := HQ6.out.cell 4
      have x5 : w6.cell? ⟨gx, 5, none⟩ = some (.int .i64 q1.r) := HQ6.out.cell 5
      have x6 : w6.cell? ⟨gx, 6, none⟩ = some (.int .i64 q1.t) := HQ6.out.cell 6
      have x7 : w6.cell? ⟨gx, 7, none⟩ = some (.int .i64 q1.y) := HQ6.out.cell 7
      have HBH := Lib.hid (behind_0 w6 d pi po ci co q1 (HH.out.kept HB6.out) HOK.out.1 HOK.out.2 HNN.out P (fun b hb => Nat.lt_of_lt_of_le (HW0.out b hb) HB6.out.size) HA0.out)
      unfold deskV Itm.v at HBH
      go_wp2_with fail
      clear a0 a1 a2 a3 x0 x1 x2 x3 x4 x5 x6 x7
      refine HBH.out.mono ?_
      rintro y w7 ⟨pi2, ci2, rfl, hdr, hat7, hb7⟩
      have hb67 : Below w6.heap.size w6 w7 := hb7
      have HR7 := Lib.hid (HR6.out.below hb67 HR6.out.lt)
      have HB7 := Lib.hid (HB6.out.trans (hb67.mono HB6.out.size))
      have HZ7 : Hid (w.heap.size + 1 + 1 < w6.heap.size ∧ w.heap.size ≤ w6.heap.size) := ⟨HR6.out.lt, HB6.out.size⟩
      go_wp2_with (with_reducible refine stop_storeT 29 (.tmp 6) (.tmp 32) rfl ?_)
      have HTH : Hid (w7.there (w.heap.size + 1 + 1) 0 4) := HR7.out.thereAt
      have HF : Hid (Blk (w7.setCells (w.heap.size + 1 + 1) 0 (#[.int .i64 d.me, .slice pi2 (insX d.xs q1).length ci2, .slice po d.os.length co, .int .i64 d.far] : Array Value).toList) (w.heap.size + 1 + 1) #[.int .i64 d.me, .slice pi2 (insX d.xs q1).length ci2, .slice po d.os.length co, .int .i64 d.far] 29 ∧ Below w.heap.size w (w7.setCells (w.heap.size + 1 + 1) 0 (#[.int .i64 d.me, .slice pi2 (insX d.xs q1).length ci2, .slice po d.os.length co, .int .i64 d.far] : Array Value).toList) ∧ Chg (w.heap.size + 1 + 1) w7 (w7.setCells (w.heap.size + 1 + 1) 0 (#[.int .i64 d.me, .slice pi2 (insX d.xs q1).length ci2, .slice po d.os.length co, .int .i64 d.far] : Array Value).toList)) := ⟨blk_put_all HR7.out _ rfl, below_put (by omega) _ _ _ _ HB7.out, chg_putL _ _ _ _ _ (Chg.refl _ w7)⟩
      refine wpList_store_mid rfl 29 (.tmp 6) (.tmp 32) rfl (w.heap.size + 1 + 1) 0 #[.int .i64 d.me, .slice pi2 (insX d.xs q1).length ci2, .slice po d.os.length co, .int .i64 d.far] rfl rfl HTH.out (infoD4 rfl) (all_oneCell_toArray (by intro u hu; simp at hu; rcases hu with rfl | rfl | rfl | rfl <;> rfl)) ?_
      generalize World.setCells w7 _ _ _ = w8 at *
      clear HTH
      go_wp2_with fail
      have hf := HF.out.1
      have hrr := HRP.out
      subst hrr
      refine bodyPost_ret (v := .tuple #[.agg #[.int .i64 d.me, .slice pi2 (insX d.xs q1).length ci2, .slice po d.os.length co, .int .i64 d.far], .slice none 0 0, .int .i64 0]) (by simp [results, Try.results29, go_sem, hf.cell 0, hf.cell 1, hf.cell 2, hf.cell 3]) rfl ⟨HF.out.2.1, .inr ⟨rfl, pi2, ci2, _, rfl, ?_, ?_, ?_, ?_⟩⟩
      · exact ⟨hdr.items.keepP hat7 (KeepP.of_chg HF.out.2.2 (fun hb => by have h2 := HZ7.out; have h3 := HW0.out; rcases hb with hb | hb; (have h4 := h3 _ hb; omega); ((try simp at hb); omega))), HH.out.orders.kept HF.out.2.1, hdr.sx, hdr.so, hdr.nx, hdr.no⟩
      · exact hat7.imp (fun b hb => hb.imp id (fun h => by have h2 := HZ7.out; (try simp at h); omega))
      · intro _; first | rfl | (rename_i h; cases h)
      · exact ⟨OwnT.nil_ _ _ _ _, Apt.nil _ _⟩
    · have he1 := Lib.hid he2
      clear he2
      have a0 : w6.cell? ⟨w.heap.size, 0, none⟩ = some (.int .i64 d.me) := HD6.out.cell 0
      have a1 : w6.cell? ⟨w.heap.size, 1, none⟩ = some (.slice pi d.xs.length ci) := HD6.out.cell 1
      have a2 : w6.cell? ⟨w.heap.size, 2, none⟩ = some (.slice po d.os.length co) := HD6.out.cell 2
      have a3 : w6.cell? ⟨w.heap.size, 3, none⟩ = some (.int .i64 d.far) := HD6.out.cell 3
      have x0 : w6.cell? ⟨gx, 0, none⟩ = some (.int .i64 q1.s) := HQ6.out.cell 0
      have x1 : w6.cell? ⟨gx, 1, none⟩ = some (.int .i64 q1.n) := HQ6.out.cell 1
      have x2 : w6.cell? ⟨gx, 2, none⟩ = some (.int .i64 q1.b) := HQ6.out.cell 2
      have x3 : w6.cell? ⟨gx, 3, none⟩ = some (.int .i64 q1.c) := HQ6.out.cell 3
      have x4 : w6.cell? ⟨gx, 4, none⟩ = some (.int .i64 q1.a) := HQ6.out.cell 4
      have x5 : w6.cell? ⟨gx, 5, none⟩ = some (.int .i64 q1.r) := HQ6.out.cell 5
      have x6 : w6.cell? ⟨gx, 6, none⟩ = some (.int .i64 q1.t) := HQ6.out.cell 6
      have x7 : w6.cell? ⟨gx, 7, none⟩ = some (.int .i64 q1.y) := HQ6.out.cell 7
      have HBH := Lib.hid (behind_err w6 d pi po ci co q1 e1 (.slice none 0 0) (by first | exact he.out | exact he1.out))
      unfold deskV Itm.v at HBH
      go_wp2_with fail
      clear a0 a1 a2 a3 x0 x1 x2 x3 x4 x5 x6 x7
      refine HBH.out.mono ?_
      rintro y w7 ⟨rfl, hb7⟩
      have hb67 : Below w6.heap.size w6 w7 := hb7
      have HR7 := Lib.hid (HR6.out.below hb67 HR6.out.lt)
      have HB7 := Lib.hid (HB6.out.trans (hb67.mono HB6.out.size))
      have HZ7 : Hid (w.heap.size + 1 + 1 < w6.heap.size ∧ w.heap.size ≤ w6.heap.size) := ⟨HR6.out.lt, HB6.out.size⟩
      go_wp2_with (with_reducible refine stop_storeT 29 (.tmp 6) (.tmp 32) rfl ?_)
      have HTH : Hid (w7.there (w.heap.size + 1 + 1) 0 4) := HR7.out.thereAt
      have HF : Hid (Blk (w7.setCells (w.heap.size + 1 + 1) 0 (#[.int .i64 d.me, .slice pi d.xs.length ci, .slice po d.os.length co, .int .i64 d.far] : Array Value).toList) (w.heap.size + 1 + 1) #[.int .i64 d.me, .slice pi d.xs.length ci, .slice po d.os.length co, .int .i64 d.far] 29 ∧ Below w.heap.size w (w7.setCells (w.heap.size + 1 + 1) 0 (#[.int .i64 d.me, .slice pi d.xs.length ci, .slice po d.os.length co, .int .i64 d.far] : Array Value).toList) ∧ Chg (w.heap.size + 1 + 1) w7 (w7.setCells (w.heap.size + 1 + 1) 0 (#[.int .i64 d.me, .slice pi d.xs.length ci, .slice po d.os.length co, .int .i64 d.far] : Array Value).toList)) := ⟨blk_put_all HR7.out _ rfl, below_put (by omega) _ _ _ _ HB7.out, chg_putL _ _ _ _ _ (Chg.refl _ w7)⟩
      refine wpList_store_mid rfl 29 (.tmp 6) (.tmp 32) rfl (w.heap.size + 1 + 1) 0 #[.int .i64 d.me, .slice pi d.xs.length ci, .slice po d.os.length co, .int .i64 d.far] rfl rfl HTH.out (infoD4 rfl) (all_oneCell_toArray (by intro u hu; simp at hu; rcases hu with rfl | rfl | rfl | rfl <;> rfl)) ?_
      generalize World.setCells w7 _ _ _ = w8 at *
      clear HTH
      go_wp2_with fail
      have hf := HF.out.1
      have hrr := HRP.out
      subst hrr
      refine bodyPost_ret (v := .tuple #[.agg #[.int .i64 d.me, .slice pi d.xs.length ci, .slice po d.os.length co, .int .i64 d.far], .slice none 0 0, .int .i64 e1]) (by simp [results, Try.results29, go_sem, hf.cell 0, hf.cell 1, hf.cell 2, hf.cell 3]) rfl ⟨HF.out.2.1, .inl ⟨by first | exact he.out | exact he1.out, rfl⟩⟩
  · have he := Lib.hid he0
    have heb : (e == 0) = false := by simpa using he0
    have hth : thenA (q, e) (fun x => turnI x 2 4) = (q, e) := by unfold thenA; rw [if_neg he0]
    have HRP : Hid ((q, e) = r) := by show _ = _; rw [← HRQ.out, hth]
    clear hth he0 hok HRQ
    go_upto_region 4 with fail
    clear heb
    have a0 : w6.cell? ⟨w.heap.size, 0, none⟩ = some (.int .i64 d.me) := HD6.out.cell 0
    have a1 : w6.cell? ⟨w.heap.size, 1, none⟩ = some (.slice pi d.xs.length ci) := HD6.out.cell 1
    have a2 : w6.cell? ⟨w.heap.size, 2, none⟩ = some (.slice po d.os.length co) := HD6.out.cell 2
    have a3 : w6.cell? ⟨w.heap.size, 3, none⟩ = some (.int .i64 d.far) := HD6.out.cell 3
    have x0 : w6.cell? ⟨gx, 0, none⟩ = some (.int .i64 q.s) := HQ6.out.cell 0
    have x1 : w6.cell? ⟨gx, 1, none⟩ = some (.int .i64 q.n) := HQ6.out.cell 1
    have x2 : w6.cell? ⟨gx, 2, none⟩ = some (.int .i64 q.b) := HQ6.out.cell 2
    have x3 : w6.cell? ⟨gx, 3, none⟩ = some (.int .i64 q.c) := HQ6.out.cell 3
    have x4 : w6.cell? ⟨gx, 4, none⟩ = some (.int .i64 q.a) := HQ6.out.cell 4
    have x5 : w6.cell? ⟨gx, 5, none⟩ = some (.int .i64 q.r) := HQ6.out.cell 5
    have x6 : w6.cell? ⟨gx, 6, none⟩ = some (.int .i64 q.t) := HQ6.out.cell 6
    have x7 : w6.cell? ⟨gx, 7, none⟩ = some (.int .i64 q.y) := HQ6.out.cell 7
    have HBH := Lib.hid (behind_err w6 d pi po ci co q e (.slice none 0 0) (by first | exact he.out | exact he1.out))
    unfold deskV Itm.v at HBH
    go_wp2_with fail
    clear a0 a1 a2 a3 x0 x1 x2 x3 x4 x5 x6 x7
    refine HBH.out.mono ?_
    rintro y w7 ⟨rfl, hb7⟩
    have hb67 : Below w6.heap.size w6 w7 := hb7
    have HR7 := Lib.hid (HR6.out.below hb67 HR6.out.lt)
    have HB7 := Lib.hid (HB6.out.trans (hb67.mono HB6.out.size))
    have HZ7 : Hid (w.heap.size + 1 + 1 < w6.heap.size ∧ w.heap.size ≤ w6.heap.size) := ⟨HR6.out.lt, HB6.out.size⟩
    go_wp2_with (with_reducible refine stop_storeT 29 (.tmp 6) (.tmp 32) rfl ?_)
    have HTH : Hid (w7.there (w.heap.size + 1 + 1) 0 4) := HR7.out.thereAt
    have HF : Hid (Blk (w7.setCells (w.heap.size + 1 + 1) 0 (#[.int .i64 d.me, .slice pi d.xs.length ci, .slice po d.os.length co, .int .i64 d.far] : Array Value).toList) (w.heap.size + 1 + 1) #[.int .i64 d.me, .slice pi d.xs.length ci, .slice po d.os.length co, .int .i64 d.far] 29 ∧ Below w.heap.size w (w7.setCells (w.heap.size + 1 + 1) 0 (#[.int .i64 d.me, .slice pi d.xs.length ci, .slice po d.os.length co, .int .i64 d.far] : Array Value).toList) ∧ Chg (w.heap.size + 1 + 1) w7 (w7.setCells (w.heap.size + 1 + 1) 0 (#[.int .i64 d.me, .slice pi d.xs.length ci, .slice po d.os.length co, .int .i64 d.far] : Array Value).toList)) := ⟨blk_put_all HR7.out _ rfl, below_put (by omega) _ _ _ _ HB7.out, chg_putL _ _ _ _ _ (Chg.refl _ w7)⟩
    refine wpList_store_mid rfl 29 (.tmp 6) (.tmp 32) rfl (w.heap.size + 1 + 1) 0 #[.int .i64 d.me, .slice pi d.xs.length ci, .slice po d.os.length co, .int .i64 d.far] rfl rfl HTH.out (infoD4 rfl) (all_oneCell_toArray (by intro u hu; simp at hu; rcases hu with rfl | rfl | rfl | rfl <;> rfl)) ?_
    generalize World.setCells w7 _ _ _ = w8 at *
    clear HTH
    go_wp2_with fail
    have hf := HF.out.1
    have hrr := HRP.out
    subst hrr
    refine bodyPost_ret (v := .tuple #[.agg #[.int .i64 d.me, .slice pi d.xs.length ci, .slice po d.os.length co, .int .i64 d.far], .slice none 0 0, .int .i64 e]) (by simp [results, Try.results29, go_sem, hf.cell 0, hf.cell 1, hf.cell 2, hf.cell 3]) rfl ⟨HF.out.2.1, .inl ⟨by first | exact he.out | exact he1.out, rfl⟩⟩
set_option linter.unusedSimpArgs false in
set_option maxHeartbeats 4000000 in
set_option maxRecDepth 100000 in
theorem dwithdraw_any (w : World) (d : Dsk) (pi po : Option Addr) (ci co : Nat) (m : Msg) (vl vn : Value) (fro : Int) (h : DRow w d pi ci po co) (hn : d.xs.length < 1024) (P : Nat → Prop) (hw0 : ∀ b, P b → b < w.heap.size) (hat : At P (.slice pi d.xs.length ci) d.xs.length)
    (hok : (thenA (soldA d m.s m.n) (fun x => turnI x 2 4)).2 = 0 → chkI (thenA (soldA d m.s m.n) (fun x => turnI x 2 4)).1 = 0 ∧ ((thenA (soldA d m.s m.n) (fun x => turnI x 2 4)).1.s = d.me ∨ (thenA (soldA d m.s m.n) (fun x => turnI x 2 4)).1.b = d.me)) :
    Calls Try.prog 33 #[(deskV d.me pi d.xs.length ci po d.os.length co d.far), m.v vl vn, .int .i64 fro] w fun y w' => ActPost w P d pi po ci co (thenA (soldA d m.s m.n) (fun x => turnI x 2 4)) [9] y w' := by
  have HT := Lib.hid (three_new w #[.int .i64 d.me, .slice pi d.xs.length ci, .slice po d.os.length co, .int .i64 d.far] #[.int .i64 m.k, .int .i64 m.s, .int .i64 m.n, .int .i64 m.b, .int .i64 m.c, .int .i64 m.r, .int .i64 m.y, .int .i64 m.a, .bool m.t, vl, vn] #[.int .i64 0, .slice none 0 0, .slice none 0 0, .int .i64 0] 29 40 29)
  have HG := Lib.hid (sold_any (((w.alloc (.cells #[.int .i64 d.me, .slice pi d.xs.length ci, .slice po d.os.length co, .int .i64 d.far] 29)).alloc (.cells #[.int .i64 m.k, .int .i64 m.s, .int .i64 m.n, .int .i64 m.b, .int .i64 m.c, .int .i64 m.r, .int .i64 m.y, .int .i64 m.a, .bool m.t, vl, vn] 40)).alloc (.cells #[.int .i64 0, .slice none 0 0, .slice none 0 0, .int .i64 0] 29)) d pi po ci co m vl vn (h.kept HT.out.low))
  have HH := Lib.hid h
  have HNN := Lib.hid hn
  have HW0 := Lib.hid hw0
  have HA0 := Lib.hid hat
  clear h hn hw0 hat
  obtain ⟨r, hr⟩ : ∃ r, thenA (soldA d m.s m.n) (fun x => turnI x 2 4) = r := ⟨_, rfl⟩
  rw [hr] at hok ⊢
  have HRQ := Lib.hid hr
  clear hr
  generalize soldA d m.s m.n = p0 at *
  obtain ⟨q, e⟩ := p0
  unfold ansI Itm.v deskV Msg.v at HG
  unfold deskV Msg.v
  go_enter Try.func33, Try.ntmps33
  go_upto_region 1 with fail
  generalize (((w.alloc (.cells #[.int .i64 d.me, .slice pi d.xs.length ci, .slice po d.os.length co, .int .i64 d.far] 29)).alloc (.cells #[.int .i64 m.k, .int .i64 m.s, .int .i64 m.n, .int .i64 m.b, .int .i64 m.c, .int .i64 m.r, .int .i64 m.y, .int .i64 m.a, .bool m.t, vl, vn] 40)).alloc (.cells #[.int .i64 0, .slice none 0 0, .slice none 0 0, .int .i64 0] 29)) = W at *
  have a0 : W.cell? ⟨w.heap.size, 0, none⟩ = some (.int .i64 d.me) := HT.out.b0.cell 0
  have a1 : W.cell? ⟨w.heap.size, 1, none⟩ = some (.slice pi d.xs.length ci) := HT.out.b0.cell 1
  have a2 : W.cell? ⟨w.heap.size, 2, none⟩ = some (.slice po d.os.length co) := HT.out.b0.cell 2
  have a3 : W.cell? ⟨w.heap.size, 3, none⟩ = some (.int .i64 d.far) := HT.out.b0.cell 3
  have c0 : W.cell? ⟨w.heap.size + 1, 0, none⟩ = some (.int .i64 m.k) := HT.out.b1.cell 0
  have c1 : W.cell? ⟨w.heap.size + 1, 1, none⟩ = some (.int .i64 m.s) := HT.out.b1.cell 1
  have c2 : W.cell? ⟨w.heap.size + 1, 2, none⟩ = some (.int .i64 m.n) := HT.out.b1.cell 2
  have c3 : W.cell? ⟨w.heap.size + 1, 3, none⟩ = some (.int .i64 m.b) := HT.out.b1.cell 3
  have c4 : W.cell? ⟨w.heap.size + 1, 4, none⟩ = some (.int .i64 m.c) := HT.out.b1.cell 4
  have c5 : W.cell? ⟨w.heap.size + 1, 5, none⟩ = some (.int .i64 m.r) := HT.out.b1.cell 5
  have c6 : W.cell? ⟨w.heap.size + 1, 6, none⟩ = some (.int .i64 m.y) := HT.out.b1.cell 6
  have c7 : W.cell? ⟨w.heap.size + 1, 7, none⟩ = some (.int .i64 m.a) := HT.out.b1.cell 7
  have c8 : W.cell? ⟨w.heap.size + 1, 8, none⟩ = some (.bool m.t) := HT.out.b1.cell 8
  have c9 : W.cell? ⟨w.heap.size + 1, 9, none⟩ = some (vl) := HT.out.b1.cell 9
  have c10 : W.cell? ⟨w.heap.size + 1, 10, none⟩ = some (vn) := HT.out.b1.cell 10
  go_wp2_with fail
  clear a0 a1 a2 a3 c0 c1 c2 c3 c4 c5 c6 c7 c8 c9 c10
  refine HG.out.mono ?_
  rintro y w1 ⟨rfl, hb⟩
  have HB6 := Lib.hid ((HT.out.low.trans (hb.mono HT.out.low.size)).alloc (HT.out.low.trans (hb.mono HT.out.low.size)).size (.cells #[.int .i64 q.s, .int .i64 q.n, .int .i64 q.b, .int .i64 q.c, .int .i64 q.a, .int .i64 q.r, .int .i64 q.t, .int .i64 q.y] 64))
  have HD6 : Hid (Blk (w1.alloc (.cells #[.int .i64 q.s, .int .i64 q.n, .int .i64 q.b, .int .i64 q.c, .int .i64 q.a, .int .i64 q.r, .int .i64 q.t, .int .i64 q.y] 64)) w.heap.size #[.int .i64 d.me, .slice pi d.xs.length ci, .slice po d.os.length co, .int .i64 d.far] 29) := (HT.out.b0.below hb HT.out.b0.lt).alloc _
  have HM6 : Hid (Blk (w1.alloc (.cells #[.int .i64 q.s, .int .i64 q.n, .int .i64 q.b, .int .i64 q.c, .int .i64 q.a, .int .i64 q.r, .int .i64 q.t, .int .i64 q.y] 64)) (w.heap.size + 1) #[.int .i64 m.k, .int .i64 m.s, .int .i64 m.n, .int .i64 m.b, .int .i64 m.c, .int .i64 m.r, .int .i64 m.y, .int .i64 m.a, .bool m.t, vl, vn] 40) := (HT.out.b1.below hb HT.out.b1.lt).alloc _
  have HR6 : Hid (Blk (w1.alloc (.cells #[.int .i64 q.s, .int .i64 q.n, .int .i64 q.b, .int .i64 q.c, .int .i64 q.a, .int .i64 q.r, .int .i64 q.t, .int .i64 q.y] 64)) (w.heap.size + 1 + 1) #[.int .i64 0, .slice none 0 0, .slice none 0 0, .int .i64 0] 29) := (HT.out.b2.below hb HT.out.b2.lt).alloc _
  have HQ6 := Lib.hid (Blk.new w1 #[.int .i64 q.s, .int .i64 q.n, .int .i64 q.b, .int .i64 q.c, .int .i64 q.a, .int .i64 q.r, .int .i64 q.t, .int .i64 q.y] 64)
  have HGX : Hid (w.heap.size + 1 + 1 < w1.heap.size) := by show _ < _; have h1 := HT.out.b2.lt; have h2 := hb.size; omega
  clear hb HG HT
  go_upto_region 2 with fail
  generalize w1.alloc (.cells #[.int .i64 q.s, .int .i64 q.n, .int .i64 q.b, .int .i64 q.c, .int .i64 q.a, .int .i64 q.r, .int .i64 q.t, .int .i64 q.y] 64) = w6 at *
  generalize w1.heap.size = gx at *
  by_cases he0 : e = 0
  · subst he0
    have hth : thenA (q, 0) (fun x => turnI x 2 4) = turnI q 2 4 := by unfold thenA; rw [if_pos rfl]
    have HRP : Hid (turnI q 2 4 = r) := by show _ = _; rw [← HRQ.out, hth]
    clear hth HRQ
    have HG := Lib.hid (cancel_any q w6)
    generalize hp1 : turnI q 2 4 = p1 at *
    clear hp1
    obtain ⟨q1, e1⟩ := p1
    unfold ansI Itm.v at HG
    have x0 : w6.cell? ⟨gx, 0, none⟩ = some (.int .i64 q.s) := HQ6.out.cell 0
    have x1 : w6.cell? ⟨gx, 1, none⟩ = some (.int .i64 q.n) := HQ6.out.cell 1
    have x2 : w6.cell? ⟨gx, 2, none⟩ = some (.int .i64 q.b) := HQ6.out.cell 2
    have x3 : w6.cell? ⟨gx, 3, none⟩ = some (.int .i64 q.c) := HQ6.out.cell 3
    have x4 : w6.cell? ⟨gx, 4, none⟩ = some (.int .i64 q.a) := HQ6.out.cell 4
    have x5 : w6.cell? ⟨gx, 5, none⟩ = some (.int .i64 q.r) := HQ6.out.cell 5
    have x6 : w6.cell? ⟨gx, 6, none⟩ = some (.int .i64 q.t) := HQ6.out.cell 6
    have x7 : w6.cell? ⟨gx, 7, none⟩ = some (.int .i64 q.y) := HQ6.out.cell 7
    have c7 : w6.cell? ⟨w.heap.size + 1, 7, none⟩ = some (.int .i64 m.a) := HM6.out.cell 7
    have HOKQ := Lib.hid hok
    clear hok
    go_wp2_with fail
    clear x0 x1 x2 x3 x4 x5 x6 x7 c7
    refine HG.out.mono ?_
    rintro y w2 ⟨rfl, hb2⟩
    have HD2 := Lib.hid (HD6.out.below hb2 HD6.out.lt)
    have HR2 := Lib.hid (HR6.out.below hb2 HR6.out.lt)
    have HQ2 := Lib.hid (HQ6.out.below hb2 HQ6.out.lt)
    have HB2 := Lib.hid (HB6.out.trans (hb2.mono HB6.out.size))
    clear hb2 HG HD6 HR6 HQ6 HB6 HM6
    go_wp2_with (with_reducible refine stop_storeT 64 (.tmp 9) (.tmp 22) rfl ?_)
    have HTH : Hid (w2.there gx 0 8) := HQ2.out.thereAt
    have HFF : Hid (Blk (w2.setCells gx 0 (#[.int .i64 q1.s, .int .i64 q1.n, .int .i64 q1.b, .int .i64 q1.c, .int .i64 q1.a, .int .i64 q1.r, .int .i64 q1.t, .int .i64 q1.y] : Array Value).toList) gx #[.int .i64 q1.s, .int .i64 q1.n, .int .i64 q1.b, .int .i64 q1.c, .int .i64 q1.a, .int .i64 q1.r, .int .i64 q1.t, .int .i64 q1.y] 64 ∧ Chg gx w2 (w2.setCells gx 0 (#[.int .i64 q1.s, .int .i64 q1.n, .int .i64 q1.b, .int .i64 q1.c, .int .i64 q1.a, .int .i64 q1.r, .int .i64 q1.t, .int .i64 q1.y] : Array Value).toList)) := ⟨blk_put_all HQ2.out _ rfl, chg_putL _ _ _ _ _ (Chg.refl _ w2)⟩
    refine wpList_store_mid rfl 64 (.tmp 9) (.tmp 22) rfl gx 0 #[.int .i64 q1.s, .int .i64 q1.n, .int .i64 q1.b, .int .i64 q1.c, .int .i64 q1.a, .int .i64 q1.r, .int .i64 q1.t, .int .i64 q1.y] rfl rfl HTH.out (infoI8 rfl) (all_oneCell_toArray (encI.one q1)) ?_
    generalize World.setCells w2 gx _ _ = w6 at *
    clear HTH
    have HD6 := Lib.hid (HD2.out.chg HFF.out.2 (by have := HGX.out; omega))
    have HR6 := Lib.hid (HR2.out.chg HFF.out.2 (by have := HGX.out; omega))
    have HQ6 := Lib.hid HFF.out.1
    have HB6 := Lib.hid (HB2.out.trans (HFF.out.2.below (by have := HGX.out; omega) HB2.out.size))
    clear HD2 HR2 HQ2 HB2 HFF
    go_upto_region 4 with fail
    by_cases he2 : e1 = 0
    · subst he2
      have HOK : Hid (chkI q1 = 0 ∧ (q1.s = d.me ∨ q1.b = d.me)) := by
        have h := HOKQ.out
        rw [← HRP.out] at h
        exact h rfl
      have a0 : w6.cell? ⟨w.heap.size, 0, none⟩ = some (.int .i64 d.me) := HD6.out.cell 0
      have a1 : w6.cell? ⟨w.heap.size, 1, none⟩ = some (.slice pi d.xs.length ci) := HD6.out.cell 1
      have a2 : w6.cell? ⟨w.heap.size, 2, none⟩ = some (.slice po d.os.length co) := HD6.out.cell 2
      have a3 : w6.cell? ⟨w.heap.size, 3, none⟩ = some (.int .i64 d.far) := HD6.out.cell 3
      have x0 : w6.cell? ⟨gx, 0, none⟩ = some (.int .i64 q1.s) := HQ6.out.cell 0
      have x1 : w6.cell? ⟨gx, 1, none⟩ = some (.int .i64 q1.n) := HQ6.out.cell 1
      have x2 : w6.cell? ⟨gx, 2, none⟩ = some (.int .i64 q1.b) := HQ6.out.cell 2
      have x3 : w6.cell? ⟨gx, 3, none⟩ = some (.int .i64 q1.c) := HQ6.out.cell 3
      have x4 : w6.cell? ⟨gx, 4, none⟩ = some (.int .i64 q1.a) := HQ6.out.cell 4
      have x5 : w6.cell? ⟨gx, 5, none⟩ = some (.int .i64 q1.r) := HQ6.out.cell 5
      have x6 : w6.cell? ⟨gx, 6, none⟩ = some (.int .i64 q1.t) := HQ6.out.cell 6
      have x7 : w6.cell? ⟨gx, 7, none⟩ = some (.int .i64 q1.y) := HQ6.out.cell 7
      have HBH := Lib.hid (behind_1 (w6.alloc (.cells #[.int .i64 9] 3)) d pi po ci co q1 9 w6.heap.size 0 1 ((Blk.new w6 #[.int .i64 9] 3).cell 0) ((HH.out.kept HB6.out).kept (oneB w6 _)) HOK.out.1 HOK.out.2 HNN.out P (fun b hb => Nat.lt_of_lt_of_le (HW0.out b hb) (Nat.le_trans HB6.out.size (oneB w6 _).size)) HA0.out)
      unfold deskV Itm.v at HBH
      go_wp2_with fail
      clear a0 a1 a2 a3 x0 x1 x2 x3 x4 x5 x6 x7
      refine HBH.out.mono ?_
      rintro y w7 ⟨pi2, ci2, vs, rfl, hdr, hat7, hown, hb7⟩
      have hb67 : Below w6.heap.size w6 w7 := (oneB w6 _).trans (hb7.mono (by simp))
      have HR7 := Lib.hid (HR6.out.below hb67 HR6.out.lt)
      have HB7 := Lib.hid (HB6.out.trans (hb67.mono HB6.out.size))
      have HZ7 : Hid (w.heap.size + 1 + 1 < w6.heap.size ∧ w.heap.size ≤ w6.heap.size) := ⟨HR6.out.lt, HB6.out.size⟩
      go_wp2_with (with_reducible refine stop_storeT 29 (.tmp 6) (.tmp 29) rfl ?_)
      have HTH : Hid (w7.there (w.heap.size + 1 + 1) 0 4) := HR7.out.thereAt
      have HF : Hid (Blk (w7.setCells (w.heap.size + 1 + 1) 0 (#[.int .i64 d.me, .slice pi2 (insX d.xs q1).length ci2, .slice po d.os.length co, .int .i64 d.far] : Array Value).toList) (w.heap.size + 1 + 1) #[.int .i64 d.me, .slice pi2 (insX d.xs q1).length ci2, .slice po d.os.length co, .int .i64 d.far] 29 ∧ Below w.heap.size w (w7.setCells (w.heap.size + 1 + 1) 0 (#[.int .i64 d.me, .slice pi2 (insX d.xs q1).length ci2, .slice po d.os.length co, .int .i64 d.far] : Array Value).toList) ∧ Chg (w.heap.size + 1 + 1) w7 (w7.setCells (w.heap.size + 1 + 1) 0 (#[.int .i64 d.me, .slice pi2 (insX d.xs q1).length ci2, .slice po d.os.length co, .int .i64 d.far] : Array Value).toList)) := ⟨blk_put_all HR7.out _ rfl, below_put (by omega) _ _ _ _ HB7.out, chg_putL _ _ _ _ _ (Chg.refl _ w7)⟩
      refine wpList_store_mid rfl 29 (.tmp 6) (.tmp 29) rfl (w.heap.size + 1 + 1) 0 #[.int .i64 d.me, .slice pi2 (insX d.xs q1).length ci2, .slice po d.os.length co, .int .i64 d.far] rfl rfl HTH.out (infoD4 rfl) (all_oneCell_toArray (by intro u hu; simp at hu; rcases hu with rfl | rfl | rfl | rfl <;> rfl)) ?_
      generalize World.setCells w7 _ _ _ = w8 at *
      clear HTH
      go_wp2_with fail
      have hf := HF.out.1
      have hrr := HRP.out
      subst hrr
      refine bodyPost_ret (v := .tuple #[.agg #[.int .i64 d.me, .slice pi2 (insX d.xs q1).length ci2, .slice po d.os.length co, .int .i64 d.far], vs, .int .i64 0]) (by simp [results, Try.results33, go_sem, hf.cell 0, hf.cell 1, hf.cell 2, hf.cell 3]) rfl ⟨HF.out.2.1, .inr ⟨rfl, pi2, ci2, vs, rfl, ?_, ?_, ?_, ?_⟩⟩
      · exact ⟨hdr.items.keepP hat7 (KeepP.of_chg HF.out.2.2 (fun hb => by have h2 := HZ7.out; have h3 := HW0.out; rcases hb with hb | hb; (have h4 := h3 _ hb; omega); ((try simp at hb); omega))), HH.out.orders.kept HF.out.2.1, hdr.sx, hdr.so, hdr.nx, hdr.no⟩
      · exact hat7.imp (fun b hb => hb.imp id (fun h => by have h2 := HZ7.out; (try simp at h); omega))
      · intro h; cases h
      · exact ⟨(hown.1.stay (fun b hb => HF.out.2.2.2 b (hown.1.lt b hb) (by have h1 := hown.1.block_ge b hb; have h2 := HZ7.out; simp at h1; omega))).less (by have h2 := HZ7.out; simp; omega), hown.2⟩
    · have he1 := Lib.hid he2
      clear he2
      have a0 : w6.cell? ⟨w.heap.size, 0, none⟩ = some (.int .i64 d.me) := HD6.out.cell 0
      have a1 : w6.cell? ⟨w.heap.size, 1, none⟩ = some (.slice pi d.xs.length ci) := HD6.out.cell 1
      have a2 : w6.cell? ⟨w.heap.size, 2, none⟩ = some (.slice po d.os.length co) := HD6.out.cell 2
      have a3 : w6.cell? ⟨w.heap.size, 3, none⟩ = some (.int .i64 d.far) := HD6.out.cell 3
      have x0 : w6.cell? ⟨gx, 0, none⟩ = some (.int .i64 q1.s) := HQ6.out.cell 0
      have x1 : w6.cell? ⟨gx, 1, none⟩ = some (.int .i64 q1.n) := HQ6.out.cell 1
      have x2 : w6.cell? ⟨gx, 2, none⟩ = some (.int .i64 q1.b) := HQ6.out.cell 2
      have x3 : w6.cell? ⟨gx, 3, none⟩ = some (.int .i64 q1.c) := HQ6.out.cell 3
      have x4 : w6.cell? ⟨gx, 4, none⟩ = some (.int .i64 q1.a) := HQ6.out.cell 4
      have x5 : w6.cell? ⟨gx, 5, none⟩ = some (.int .i64 q1.r) := HQ6.out.cell 5
      have x6 : w6.cell? ⟨gx, 6, none⟩ = some (.int .i64 q1.t) := HQ6.out.cell 6
      have x7 : w6.cell? ⟨gx, 7, none⟩ = some (.int .i64 q1.y) := HQ6.out.cell 7
      have HBH := Lib.hid (behind_err (w6.alloc (.cells #[.int .i64 9] 3)) d pi po ci co q1 e1 (.slice (some ⟨w6.heap.size, 0, none⟩) 1 1) (by first | exact he.out | exact he1.out))
      unfold deskV Itm.v at HBH
      go_wp2_with fail
      clear a0 a1 a2 a3 x0 x1 x2 x3 x4 x5 x6 x7
      refine HBH.out.mono ?_
      rintro y w7 ⟨rfl, hb7⟩
      have hb67 : Below w6.heap.size w6 w7 := (oneB w6 _).trans (hb7.mono (by simp))
      have HR7 := Lib.hid (HR6.out.below hb67 HR6.out.lt)
      have HB7 := Lib.hid (HB6.out.trans (hb67.mono HB6.out.size))
      have HZ7 : Hid (w.heap.size + 1 + 1 < w6.heap.size ∧ w.heap.size ≤ w6.heap.size) := ⟨HR6.out.lt, HB6.out.size⟩
      go_wp2_with (with_reducible refine stop_storeT 29 (.tmp 6) (.tmp 29) rfl ?_)
      have HTH : Hid (w7.there (w.heap.size + 1 + 1) 0 4) := HR7.out.thereAt
      have HF : Hid (Blk (w7.setCells (w.heap.size + 1 + 1) 0 (#[.int .i64 d.me, .slice pi d.xs.length ci, .slice po d.os.length co, .int .i64 d.far] : Array Value).toList) (w.heap.size + 1 + 1) #[.int .i64 d.me, .slice pi d.xs.length ci, .slice po d.os.length co, .int .i64 d.far] 29 ∧ Below w.heap.size w (w7.setCells (w.heap.size + 1 + 1) 0 (#[.int .i64 d.me, .slice pi d.xs.length ci, .slice po d.os.length co, .int .i64 d.far] : Array Value).toList) ∧ Chg (w.heap.size + 1 + 1) w7 (w7.setCells (w.heap.size + 1 + 1) 0 (#[.int .i64 d.me, .slice pi d.xs.length ci, .slice po d.os.length co, .int .i64 d.far] : Array Value).toList)) := ⟨blk_put_all HR7.out _ rfl, below_put (by omega) _ _ _ _ HB7.out, chg_putL _ _ _ _ _ (Chg.refl _ w7)⟩
      refine wpList_store_mid rfl 29 (.tmp 6) (.tmp 29) rfl (w.heap.size + 1 + 1) 0 #[.int .i64 d.me, .slice pi d.xs.length ci, .slice po d.os.length co, .int .i64 d.far] rfl rfl HTH.out (infoD4 rfl) (all_oneCell_toArray (by intro u hu; simp at hu; rcases hu with rfl | rfl | rfl | rfl <;> rfl)) ?_
      generalize World.setCells w7 _ _ _ = w8 at *
      clear HTH
      go_wp2_with fail
      have hf := HF.out.1
      have hrr := HRP.out
      subst hrr
      refine bodyPost_ret (v := .tuple #[.agg #[.int .i64 d.me, .slice pi d.xs.length ci, .slice po d.os.length co, .int .i64 d.far], .slice none 0 0, .int .i64 e1]) (by simp [results, Try.results33, go_sem, hf.cell 0, hf.cell 1, hf.cell 2, hf.cell 3]) rfl ⟨HF.out.2.1, .inl ⟨by first | exact he.out | exact he1.out, rfl⟩⟩
  · have he := Lib.hid he0
    have heb : (e == 0) = false := by simpa using he0
    have hth : thenA (q, e) (fun x => turnI x 2 4) = (q, e) := by unfold thenA; rw [if_neg he0]
    have HRP : Hid ((q, e) = r) := by show _ = _; rw [← HRQ.out, hth]
    clear hth he0 hok HRQ
    go_upto_region 4 with fail
    clear heb
    have a0 : w6.cell? ⟨w.heap.size, 0, none⟩ = some (.int .i64 d.me) := HD6.out.cell 0
    have a1 : w6.cell? ⟨w.heap.size, 1, none⟩ = some (.slice pi d.xs.length ci) := HD6.out.cell 1
    have a2 : w6.cell? ⟨w.heap.size, 2, none⟩ = some (.slice po d.os.length co) := HD6.out.cell 2
    have a3 : w6.cell? ⟨w.heap.size, 3, none⟩ = some (.int .i64 d.far) := HD6.out.cell 3
    have x0 : w6.cell? ⟨gx, 0, none⟩ = some (.int .i64 q.s) := HQ6.out.cell 0
    have x1 : w6.cell? ⟨gx, 1, none⟩ = some (.int .i64 q.n) := HQ6.out.cell 1
    have x2 : w6.cell? ⟨gx, 2, none⟩ = some (.int .i64 q.b) := HQ6.out.cell 2
    have x3 : w6.cell? ⟨gx, 3, none⟩ = some (.int .i64 q.c) := HQ6.out.cell 3
    have x4 : w6.cell? ⟨gx, 4, none⟩ = some (.int .i64 q.a) := HQ6.out.cell 4
    have x5 : w6.cell? ⟨gx, 5, none⟩ = some (.int .i64 q.r) := HQ6.out.cell 5
    have x6 : w6.cell? ⟨gx, 6, none⟩ = some (.int .i64 q.t) := HQ6.out.cell 6
    have x7 : w6.cell? ⟨gx, 7, none⟩ = some (.int .i64 q.y) := HQ6.out.cell 7
    have HBH := Lib.hid (behind_err (w6.alloc (.cells #[.int .i64 9] 3)) d pi po ci co q e (.slice (some ⟨w6.heap.size, 0, none⟩) 1 1) (by first | exact he.out | exact he1.out))
    unfold deskV Itm.v at HBH
    go_wp2_with fail
    clear a0 a1 a2 a3 x0 x1 x2 x3 x4 x5 x6 x7
    refine HBH.out.mono ?_
    rintro y w7 ⟨rfl, hb7⟩
    have hb67 : Below w6.heap.size w6 w7 := (oneB w6 _).trans (hb7.mono (by simp))
    have HR7 := Lib.hid (HR6.out.below hb67 HR6.out.lt)
    have HB7 := Lib.hid (HB6.out.trans (hb67.mono HB6.out.size))
    have HZ7 : Hid (w.heap.size + 1 + 1 < w6.heap.size ∧ w.heap.size ≤ w6.heap.size) := ⟨HR6.out.lt, HB6.out.size⟩
    go_wp2_with (with_reducible refine stop_storeT 29 (.tmp 6) (.tmp 29) rfl ?_)
    have HTH : Hid (w7.there (w.heap.size + 1 + 1) 0 4) := HR7.out.thereAt
    have HF : Hid (Blk (w7.setCells (w.heap.size + 1 + 1) 0 (#[.int .i64 d.me, .slice pi d.xs.length ci, .slice po d.os.length co, .int .i64 d.far] : Array Value).toList) (w.heap.size + 1 + 1) #[.int .i64 d.me, .slice pi d.xs.length ci, .slice po d.os.length co, .int .i64 d.far] 29 ∧ Below w.heap.size w (w7.setCells (w.heap.size + 1 + 1) 0 (#[.int .i64 d.me, .slice pi d.xs.length ci, .slice po d.os.length co, .int .i64 d.far] : Array Value).toList) ∧ Chg (w.heap.size + 1 + 1) w7 (w7.setCells (w.heap.size + 1 + 1) 0 (#[.int .i64 d.me, .slice pi d.xs.length ci, .slice po d.os.length co, .int .i64 d.far] : Array Value).toList)) := ⟨blk_put_all HR7.out _ rfl, below_put (by omega) _ _ _ _ HB7.out, chg_putL _ _ _ _ _ (Chg.refl _ w7)⟩
    refine wpList_store_mid rfl 29 (.tmp 6) (.tmp 29) rfl (w.heap.size + 1 + 1) 0 #[.int .i64 d.me, .slice pi d.xs.length ci, .slice po d.os.length co, .int .i64 d.far] rfl rfl HTH.out (infoD4 rfl) (all_oneCell_toArray (by intro u hu; simp at hu; rcases hu with rfl | rfl | rfl | rfl <;> rfl)) ?_
    generalize World.setCells w7 _ _ _ = w8 at *
    clear HTH
    go_wp2_with fail
    have hf := HF.out.1
    have hrr := HRP.out
    subst hrr
    refine bodyPost_ret (v := .tuple #[.agg #[.int .i64 d.me, .slice pi d.xs.length ci, .slice po d.os.length co, .int .i64 d.far], .slice none 0 0, .int .i64 e]) (by simp [results, Try.results33, go_sem, hf.cell 0, hf.cell 1, hf.cell 2, hf.cell 3]) rfl ⟨HF.out.2.1, .inl ⟨by first | exact he.out | exact he1.out, rfl⟩⟩
set_option linter.unusedSimpArgs false in
set_option maxHeartbeats 4000000 in
set_option maxRecDepth 100000 in
theorem dadjust_any (w : World) (d : Dsk) (pi po : Option Addr) (ci co : Nat) (m : Msg) (vl vn : Value) (fro : Int) (h : DRow w d pi ci po co) (hf : Hid (F64 ((soldA d m.s m.n).1.r + 1))) (hn : d.xs.length < 1024) (P : Nat → Prop) (hw0 : ∀ b, P b → b < w.heap.size) (hat : At P (.slice pi d.xs.length ci) d.xs.length)
    (hok : (thenA (soldA d m.s m.n) (fun x => adjI x m.a)).2 = 0 → chkI (thenA (soldA d m.s m.n) (fun x => adjI x m.a)).1 = 0 ∧ ((thenA (soldA d m.s m.n) (fun x => adjI x m.a)).1.s = d.me ∨ (thenA (soldA d m.s m.n) (fun x => adjI x m.a)).1.b = d.me)) :
    Calls Try.prog 32 #[(deskV d.me pi d.xs.length ci po d.os.length co d.far), m.v vl vn, .int .i64 fro] w fun y w' => ActPost w P d pi po ci co (thenA (soldA d m.s m.n) (fun x => adjI x m.a)) [6] y w' := by
  have HT := Lib.hid (three_new w #[.int .i64 d.me, .slice pi d.xs.length ci, .slice po d.os.length co, .int .i64 d.far] #[.int .i64 m.k, .int .i64 m.s, .int .i64 m.n, .int .i64 m.b, .int .i64 m.c, .int .i64 m.r, .int .i64 m.y, .int .i64 m.a, .bool m.t, vl, vn] #[.int .i64 0, .slice none 0 0, .slice none 0 0, .int .i64 0] 29 40 29)
  have HG := Lib.hid (sold_any (((w.alloc (.cells #[.int .i64 d.me, .slice pi d.xs.length ci, .slice po d.os.length co, .int .i64 d.far] 29)).alloc (.cells #[.int .i64 m.k, .int .i64 m.s, .int .i64 m.n, .int .i64 m.b, .int .i64 m.c, .int .i64 m.r, .int .i64 m.y, .int .i64 m.a, .bool m.t, vl, vn] 40)).alloc (.cells #[.int .i64 0, .slice none 0 0, .slice none 0 0, .int .i64 0] 29)) d pi po ci co m vl vn (h.kept HT.out.low))
  have HH := Lib.hid h
  have HNN := Lib.hid hn
  have HW0 := Lib.hid hw0
  have HA0 := Lib.hid hat
  clear h hn hw0 hat
  obtain ⟨r, hr⟩ : ∃ r, thenA (soldA d m.s m.n) (fun x => adjI x m.a) = r := ⟨_, rfl⟩
  rw [hr] at hok ⊢
  have HRQ := Lib.hid hr
  clear hr
  generalize soldA d m.s m.n = p0 at *
  obtain ⟨q, e⟩ := p0
  unfold ansI Itm.v deskV Msg.v at HG
  unfold deskV Msg.v
  go_enter Try.func32, Try.ntmps32
  go_upto_region 1 with fail
  generalize (((w.alloc (.cells #[.int .i64 d.me, .slice pi d.xs.length ci, .slice po d.os.length co, .int .i64 d.far] 29)).alloc (.cells #[.int .i64 m.k, .int .i64 m.s, .int .i64 m.n, .int .i64 m.b, .int .i64 m.c, .int .i64 m.r, .int .i64 m.y, .int .i64 m.a, .bool m.t, vl, vn] 40)).alloc (.cells #[.int .i64 0, .slice none 0 0, .slice none 0 0, .int .i64 0] 29)) = W at *
  have a0 : W.cell? ⟨w.heap.size, 0, none⟩ = some (.int .i64 d.me) := HT.out.b0.cell 0
  have a1 : W.cell? ⟨w.heap.size, 1, none⟩ = some (.slice pi d.xs.length ci) := HT.out.b0.cell 1
  have a2 : W.cell? ⟨w.heap.size, 2, none⟩ = some (.slice po d.os.length co) := HT.out.b0.cell 2
  have a3 : W.cell? ⟨w.heap.size, 3, none⟩ = some (.int .i64 d.far) := HT.out.b0.cell 3
  have c0 : W.cell? ⟨w.heap.size + 1, 0, none⟩ = some (.int .i64 m.k) := HT.out.b1.cell 0
  have c1 : W.cell? ⟨w.heap.size + 1, 1, none⟩ = some (.int .i64 m.s) := HT.out.b1.cell 1
  have c2 : W.cell? ⟨w.heap.size + 1, 2, none⟩ = some (.int .i64 m.n) := HT.out.b1.cell 2
  have c3 : W.cell? ⟨w.heap.size + 1, 3, none⟩ = some (.int .i64 m.b) := HT.out.b1.cell 3
  have c4 : W.cell? ⟨w.heap.size + 1, 4, none⟩ = some (.int .i64 m.c) := HT.out.b1.cell 4
  have c5 : W.cell? ⟨w.heap.size + 1, 5, none⟩ = some (.int .i64 m.r) := HT.out.b1.cell 5
  have c6 : W.cell? ⟨w.heap.size + 1, 6, none⟩ = some (.int .i64 m.y) := HT.out.b1.cell 6
  have c7 : W.cell? ⟨w.heap.size + 1, 7, none⟩ = some (.int .i64 m.a) := HT.out.b1.cell 7
  have c8 : W.cell? ⟨w.heap.size + 1, 8, none⟩ = some (.bool m.t) := HT.out.b1.cell 8
  have c9 : W.cell? ⟨w.heap.size + 1, 9, none⟩ = some (vl) := HT.out.b1.cell 9
  have c10 : W.cell? ⟨w.heap.size + 1, 10, none⟩ = some (vn) := HT.out.b1.cell 10
  go_wp2_with fail
  clear a0 a1 a2 a3 c0 c1 c2 c3 c4 c5 c6 c7 c8 c9 c10
  refine HG.out.mono ?_
  rintro y w1 ⟨rfl, hb⟩
  have HB6 := Lib.hid ((HT.out.low.trans (hb.mono HT.out.low.size)).alloc (HT.out.low.trans (hb.mono HT.out.low.size)).size (.cells #[.int .i64 q.s, .int .i64 q.n, .int .i64 q.b, .int .i64 q.c, .int .i64 q.a, .int .i64 q.r, .int .i64 q.t, .int .i64 q.y] 64))
  have HD6 : Hid (Blk (w1.alloc (.cells #[.int .i64 q.s, .int .i64 q.n, .int .i64 q.b, .int .i64 q.c, .int .i64 q.a, .int .i64 q.r, .int .i64 q.t, .int .i64 q.y] 64)) w.heap.size #[.int .i64 d.me, .slice pi d.xs.length ci, .slice po d.os.length co, .int .i64 d.far] 29) := (HT.out.b0.below hb HT.out.b0.lt).alloc _
  have HM6 : Hid (Blk (w1.alloc (.cells #[.int .i64 q.s, .int .i64 q.n, .int .i64 q.b, .int .i64 q.c, .int .i64 q.a, .int .i64 q.r, .int .i64 q.t, .int .i64 q.y] 64)) (w.heap.size + 1) #[.int .i64 m.k, .int .i64 m.s, .int .i64 m.n, .int .i64 m.b, .int .i64 m.c, .int .i64 m.r, .int .i64 m.y, .int .i64 m.a, .bool m.t, vl, vn] 40) := (HT.out.b1.below hb HT.out.b1.lt).alloc _
  have HR6 : Hid (Blk (w1.alloc (.cells #[.int .i64 q.s, .int .i64 q.n, .int .i64 q.b, .int .i64 q.c, .int .i64 q.a, .int .i64 q.r, .int .i64 q.t, .int .i64 q.y] 64)) (w.heap.size + 1 + 1) #[.int .i64 0, .slice none 0 0, .slice none 0 0, .int .i64 0] 29) := (HT.out.b2.below hb HT.out.b2.lt).alloc _
  have HQ6 := Lib.hid (Blk.new w1 #[.int .i64 q.s, .int .i64 q.n, .int .i64 q.b, .int .i64 q.c, .int .i64 q.a, .int .i64 q.r, .int .i64 q.t, .int .i64 q.y] 64)
  have HGX : Hid (w.heap.size + 1 + 1 < w1.heap.size) := by show _ < _; have h1 := HT.out.b2.lt; have h2 := hb.size; omega
  clear hb HG HT
  go_upto_region 2 with fail
  generalize w1.alloc (.cells #[.int .i64 q.s, .int .i64 q.n, .int .i64 q.b, .int .i64 q.c, .int .i64 q.a, .int .i64 q.r, .int .i64 q.t, .int .i64 q.y] 64) = w6 at *
  generalize w1.heap.size = gx at *
  by_cases he0 : e = 0
  · subst he0
    have hth : thenA (q, 0) (fun x => adjI x m.a) = adjI q m.a := by unfold thenA; rw [if_pos rfl]
    have HRP : Hid (adjI q m.a = r) := by show _ = _; rw [← HRQ.out, hth]
    clear hth HRQ
    have HG := Lib.hid (adjust_any q m.a w6 hf.out)
    generalize hp1 : adjI q m.a = p1 at *
    clear hp1
    obtain ⟨q1, e1⟩ := p1
    unfold ansI Itm.v at HG
    have x0 : w6.cell? ⟨gx, 0, none⟩ = some (.int .i64 q.s) := HQ6.out.cell 0
    have x1 : w6.cell? ⟨gx, 1, none⟩ = some (.int .i64 q.n) := HQ6.out.cell 1
    have x2 : w6.cell? ⟨gx, 2, none⟩ = some (.int .i64 q.b) := HQ6.out.cell 2
    have x3 : w6.cell? ⟨gx, 3, none⟩ = some (.int .i64 q.c) := HQ6.out.cell 3
    have x4 : w6.cell? ⟨gx, 4, none⟩ = some (.int .i64 q.a) := HQ6.out.cell 4
    have x5 : w6.cell? ⟨gx, 5, none⟩ = some (.int .i64 q.r) := HQ6.out.cell 5
    have x6 : w6.cell? ⟨gx, 6, none⟩ = some (.int .i64 q.t) := HQ6.out.cell 6
    have x7 : w6.cell? ⟨gx, 7, none⟩ = some (.int .i64 q.y) := HQ6.out.cell 7
    have c7 : w6.cell? ⟨w.heap.size + 1, 7, none⟩ = some (.int .i64 m.a) := HM6.out.cell 7
    have HOKQ := Lib.hid hok
    clear hok
    go_wp2_with fail
    clear x0 x1 x2 x3 x4 x5 x6 x7 c7
    refine HG.out.mono ?_
    rintro y w2 ⟨rfl, hb2⟩
    have HD2 := Lib.hid (HD6.out.below hb2 HD6.out.lt)
    have HR2 := Lib.hid (HR6.out.below hb2 HR6.out.lt)
    have HQ2 := Lib.hid (HQ6.out.below hb2 HQ6.out.lt)
    have HB2 := Lib.hid (HB6.out.trans (hb2.mono HB6.out.size))
    clear hb2 HG HD6 HR6 HQ6 HB6 HM6
    go_wp2_with (with_reducible refine stop_storeT 64 (.tmp 9) (.tmp 24) rfl ?_)
    have HTH : Hid (w2.there gx 0 8) := HQ2.out.thereAt
    have HFF : Hid (Blk (w2.setCells gx 0 (#[.int .i64 q1.s, .int .i64 q1.n, .int .i64 q1.b, .int .i64 q1.c, .int .i64 q1.a, .int .i64 q1.r, .int .i64 q1.t, .int .i64 q1.y] : Array Value).toList) gx #[.int .i64 q1.s, .int .i64 q1.n, .int .i64 q1.b, .int .i64 q1.c, .int .i64 q1.a, .int .i64 q1.r, .int .i64 q1.t, .int .i64 q1.y] 64 ∧ Chg gx w2 (w2.setCells gx 0 (#[.int .i64 q1.s, .int .i64 q1.n, .int .i64 q1.b, .int .i64 q1.c, .int .i64 q1.a, .int .i64 q1.r, .int .i64 q1.t, .int .i64 q1.y] : Array Value).toList)) := ⟨blk_put_all HQ2.out _ rfl, chg_putL _ _ _ _ _ (Chg.refl _ w2)⟩
    refine wpList_store_mid rfl 64 (.tmp 9) (.tmp 24) rfl gx 0 #[.int .i64 q1.s, .int .i64 q1.n, .int .i64 q1.b, .int .i64 q1.c, .int .i64 q1.a, .int .i64 q1.r, .int .i64 q1.t, .int .i64 q1.y] rfl rfl HTH.out (infoI8 rfl) (all_oneCell_toArray (encI.one q1)) ?_
    generalize World.setCells w2 gx _ _ = w6 at *
    clear HTH
    have HD6 := Lib.hid (HD2.out.chg HFF.out.2 (by have := HGX.out; omega))
    have HR6 := Lib.hid (HR2.out.chg HFF.out.2 (by have := HGX.out; omega))
    have HQ6 := Lib.hid HFF.out.1
    have HB6 := Lib.hid (HB2.out.trans (HFF.out.2.below (by have := HGX.out; omega) HB2.out.size))
    clear HD2 HR2 HQ2 HB2 HFF
    go_upto_region 4 with fail
    by_cases he2 : e1 = 0
    · subst he2
      have HOK : Hid (chkI q1 = 0 ∧ (q1.s = d.me ∨ q1.b = d.me)) := by
        have h := HOKQ.out
        rw [← HRP.out] at h
        exact h rfl
      have a0 : w6.cell? ⟨w.heap.size, 0, none⟩ = some (.int .i64 d.me) := HD6.out.cell 0
      have a1 : w6.cell? ⟨w.heap.size, 1, none⟩ = some (.slice pi d.xs.length ci) := HD6.out.cell 1
      have a2 : w6.cell? ⟨w.heap.size, 2, none⟩ = some (.slice po d.os.length co) := HD6.out.cell 2
      have a3 : w6.cell? ⟨w.heap.size, 3, none⟩ = some (.int .i64 d.far) := HD6.out.cell 3
      have x0 : w6.cell? ⟨gx, 0, none⟩ = some (.int .i64 q1.s) := HQ6.out.cell 0
      have x1 : w6.cell? ⟨gx, 1, none⟩ = some (.int .i64 q1.n) := HQ6.out.cell 1
      have x2 : w6.cell? ⟨gx, 2, none⟩ = some (.int .i64 q1.b) := HQ6.out.cell 2
      have x3 : w6.cell? ⟨gx, 3, none⟩ = some (.int .i64 q1.c) := HQ6.out.cell 3
      have x4 : w6.cell? ⟨gx, 4, none⟩ = some (.int .i64 q1.a) := HQ6.out.cell 4
      have x5 : w6.cell? ⟨gx, 5, none⟩ = some (.int .i64 q1.r) := HQ6.out.cell 5
      have x6 : w6.cell? ⟨gx, 6, none⟩ = some (.int .i64 q1.t) := HQ6.out.cell 6
      have x7 : w6.cell? ⟨gx, 7, none⟩ = some (.int .i64 q1.y) := HQ6.out.cell 7
      have HBH := Lib.hid (behind_1 (w6.alloc (.cells #[.int .i64 6] 3)) d pi po ci co q1 6 w6.heap.size 0 1 ((Blk.new w6 #[.int .i64 6] 3).cell 0) ((HH.out.kept HB6.out).kept (oneB w6 _)) HOK.out.1 HOK.out.2 HNN.out P (fun b hb => Nat.lt_of_lt_of_le (HW0.out b hb) (Nat.le_trans HB6.out.size (oneB w6 _).size)) HA0.out)
      unfold deskV Itm.v at HBH
      go_wp2_with fail
      clear a0 a1 a2 a3 x0 x1 x2 x3 x4 x5 x6 x7
      refine HBH.out.mono ?_
      rintro y w7 ⟨pi2, ci2, vs, rfl, hdr, hat7, hown, hb7⟩
      have hb67 : Below w6.heap.size w6 w7 := (oneB w6 _).trans (hb7.mono (by simp))
      have HR7 := Lib.hid (HR6.out.below hb67 HR6.out.lt)
      have HB7 := Lib.hid (HB6.out.trans (hb67.mono HB6.out.size))
      have HZ7 : Hid (w.heap.size + 1 + 1 < w6.heap.size ∧ w.heap.size ≤ w6.heap.size) := ⟨HR6.out.lt, HB6.out.size⟩
      go_wp2_with (with_reducible refine stop_storeT 29 (.tmp 6) (.tmp 31) rfl ?_)
      have HTH : Hid (w7.there (w.heap.size + 1 + 1) 0 4) := HR7.out.thereAt
      have HF : Hid (Blk (w7.setCells (w.heap.size + 1 + 1) 0 (#[.int .i64 d.me, .slice pi2 (insX d.xs q1).length ci2, .slice po d.os.length co, .int .i64 d.far] : Array Value).toList) (w.heap.size + 1 + 1) #[.int .i64 d.me, .slice pi2 (insX d.xs q1).length ci2, .slice po d.os.length co, .int .i64 d.far] 29 ∧ Below w.heap.size w (w7.setCells (w.heap.size + 1 + 1) 0 (#[.int .i64 d.me, .slice pi2 (insX d.xs q1).length ci2, .slice po d.os.length co, .int .i64 d.far] : Array Value).toList) ∧ Chg (w.heap.size + 1 + 1) w7 (w7.setCells (w.heap.size + 1 + 1) 0 (#[.int .i64 d.me, .slice pi2 (insX d.xs q1).length ci2, .slice po d.os.length co, .int .i64 d.far] : Array Value).toList)) := ⟨blk_put_all HR7.out _ rfl, below_put (by omega) _ _ _ _ HB7.out, chg_putL _ _ _ _ _ (Chg.refl _ w7)⟩
      refine wpList_store_mid rfl 29 (.tmp 6) (.tmp 31) rfl (w.heap.size + 1 + 1) 0 #[.int .i64 d.me, .slice pi2 (insX d.xs q1).length ci2, .slice po d.os.length co, .int .i64 d.far] rfl rfl HTH.out (infoD4 rfl) (all_oneCell_toArray (by intro u hu; simp at hu; rcases hu with rfl | rfl | rfl | rfl <;> rfl)) ?_
      generalize World.setCells w7 _ _ _ = w8 at *
      clear HTH
      go_wp2_with fail
      have hf := HF.out.1
      have hrr := HRP.out
      subst hrr
      refine bodyPost_ret (v := .tuple #[.agg #[.int .i64 d.me, .slice pi2 (insX d.xs q1).length ci2, .slice po d.os.length co, .int .i64 d.far], vs, .int .i64 0]) (by simp [results, Try.results32, go_sem, hf.cell 0, hf.cell 1, hf.cell 2, hf.cell 3]) rfl ⟨HF.out.2.1, .inr ⟨rfl, pi2, ci2, vs, rfl, ?_, ?_, ?_, ?_⟩⟩
      · exact ⟨hdr.items.keepP hat7 (KeepP.of_chg HF.out.2.2 (fun hb => by have h2 := HZ7.out; have h3 := HW0.out; rcases hb with hb | hb; (have h4 := h3 _ hb; omega); ((try simp at hb); omega))), HH.out.orders.kept HF.out.2.1, hdr.sx, hdr.so, hdr.nx, hdr.no⟩
      · exact hat7.imp (fun b hb => hb.imp id (fun h => by have h2 := HZ7.out; (try simp at h); omega))
      · intro h; cases h
      · exact ⟨(hown.1.stay (fun b hb => HF.out.2.2.2 b (hown.1.lt b hb) (by have h1 := hown.1.block_ge b hb; have h2 := HZ7.out; simp at h1; omega))).less (by have h2 := HZ7.out; simp; omega), hown.2⟩
    · have he1 := Lib.hid he2
      clear he2
      have a0 : w6.cell? ⟨w.heap.size, 0, none⟩ = some (.int .i64 d.me) := HD6.out.cell 0
      have a1 : w6.cell? ⟨w.heap.size, 1, none⟩ = some (.slice pi d.xs.length ci) := HD6.out.cell 1
      have a2 : w6.cell? ⟨w.heap.size, 2, none⟩ = some (.slice po d.os.length co) := HD6.out.cell 2
      have a3 : w6.cell? ⟨w.heap.size, 3, none⟩ = some (.int .i64 d.far) := HD6.out.cell 3
      have x0 : w6.cell? ⟨gx, 0, none⟩ = some (.int .i64 q1.s) := HQ6.out.cell 0
      have x1 : w6.cell? ⟨gx, 1, none⟩ = some (.int .i64 q1.n) := HQ6.out.cell 1
      have x2 : w6.cell? ⟨gx, 2, none⟩ = some (.int .i64 q1.b) := HQ6.out.cell 2
      have x3 : w6.cell? ⟨gx, 3, none⟩ = some (.int .i64 q1.c) := HQ6.out.cell 3
      have x4 : w6.cell? ⟨gx, 4, none⟩ = some (.int .i64 q1.a) := HQ6.out.cell 4
      have x5 : w6.cell? ⟨gx, 5, none⟩ = some (.int .i64 q1.r) := HQ6.out.cell 5
      have x6 : w6.cell? ⟨gx, 6, none⟩ = some (.int .i64 q1.t) := HQ6.out.cell 6
      have x7 : w6.cell? ⟨gx, 7, none⟩ = some (.int .i64 q1.y) := HQ6.out.cell 7
      have HBH := Lib.hid (behind_err (w6.alloc (.cells #[.int .i64 6] 3)) d pi po ci co q1 e1 (.slice (some ⟨w6.heap.size, 0, none⟩) 1 1) (by first | exact he.out | exact he1.out))
      unfold deskV Itm.v at HBH
      go_wp2_with fail
      clear a0 a1 a2 a3 x0 x1 x2 x3 x4 x5 x6 x7
      refine HBH.out.mono ?_
      rintro y w7 ⟨rfl, hb7⟩
      have hb67 : Below w6.heap.size w6 w7 := (oneB w6 _).trans (hb7.mono (by simp))
      have HR7 := Lib.hid (HR6.out.below hb67 HR6.out.lt)
      have HB7 := Lib.hid (HB6.out.trans (hb67.mono HB6.out.size))
      have HZ7 : Hid (w.heap.size + 1 + 1 < w6.heap.size ∧ w.heap.size ≤ w6.heap.size) := ⟨HR6.out.lt, HB6.out.size⟩
      go_wp2_with (with_reducible refine stop_storeT 29 (.tmp 6) (.tmp 31) rfl ?_)
      have HTH : Hid (w7.there (w.heap.size + 1 + 1) 0 4) := HR7.out.thereAt
      have HF : Hid (Blk (w7.setCells (w.heap.size + 1 + 1) 0 (#[.int .i64 d.me, .slice pi d.xs.length ci, .slice po d.os.length co, .int .i64 d.far] : Array Value).toList) (w.heap.size + 1 + 1) #[.int .i64 d.me, .slice pi d.xs.length ci, .slice po d.os.length co, .int .i64 d.far] 29 ∧ Below w.heap.size w (w7.setCells (w.heap.size + 1 + 1) 0 (#[.int .i64 d.me, .slice pi d.xs.length ci, .slice po d.os.length co, .int .i64 d.far] : Array Value).toList) ∧ Chg (w.heap.size + 1 + 1) w7 (w7.setCells (w.heap.size + 1 + 1) 0 (#[.int .i64 d.me, .slice pi d.xs.length ci, .slice po d.os.length co, .int .i64 d.far] : Array Value).toList)) := ⟨blk_put_all HR7.out _ rfl, below_put (by omega) _ _ _ _ HB7.out, chg_putL _ _ _ _ _ (Chg.refl _ w7)⟩
      refine wpList_store_mid rfl 29 (.tmp 6) (.tmp 31) rfl (w.heap.size + 1 + 1) 0 #[.int .i64 d.me, .slice pi d.xs.length ci, .slice po d.os.length co, .int .i64 d.far] rfl rfl HTH.out (infoD4 rfl) (all_oneCell_toArray (by intro u hu; simp at hu; rcases hu with rfl | rfl | rfl | rfl <;> rfl)) ?_
      generalize World.setCells w7 _ _ _ = w8 at *
      clear HTH
      go_wp2_with fail
      have hf := HF.out.1
      have hrr := HRP.out
      subst hrr
      refine bodyPost_ret (v := .tuple #[.agg #[.int .i64 d.me, .slice pi d.xs.length ci, .slice po d.os.length co, .int .i64 d.far], .slice none 0 0, .int .i64 e1]) (by simp [results, Try.results32, go_sem, hf.cell 0, hf.cell 1, hf.cell 2, hf.cell 3]) rfl ⟨HF.out.2.1, .inl ⟨by first | exact he.out | exact he1.out, rfl⟩⟩
  · have he := Lib.hid he0
    have heb : (e == 0) = false := by simpa using he0
    have hth : thenA (q, e) (fun x => adjI x m.a) = (q, e) := by unfold thenA; rw [if_neg he0]
    have HRP : Hid ((q, e) = r) := by show _ = _; rw [← HRQ.out, hth]
    clear hth he0 hok HRQ
    go_upto_region 4 with fail
    clear heb
    have a0 : w6.cell? ⟨w.heap.size, 0, none⟩ = some (.int .i64 d.me) := HD6.out.cell 0
    have a1 : w6.cell? ⟨w.heap.size, 1, none⟩ = some (.slice pi d.xs.length ci) := HD6.out.cell 1
    have a2 : w6.cell? ⟨w.heap.size, 2, none⟩ = some (.slice po d.os.length co) := HD6.out.cell 2
    have a3 : w6.cell? ⟨w.heap.size, 3, none⟩ = some (.int .i64 d.far) := HD6.out.cell 3
    have x0 : w6.cell? ⟨gx, 0, none⟩ = some (.int .i64 q.s) := HQ6.out.cell 0
    have x1 : w6.cell? ⟨gx, 1, none⟩ = some (.int .i64 q.n) := HQ6.out.cell 1
    have x2 : w6.cell? ⟨gx, 2, none⟩ = some (.int .i64 q.b) := HQ6.out.cell 2
    have x3 : w6.cell? ⟨gx, 3, none⟩ = some (.int .i64 q.c) := HQ6.out.cell 3
    have x4 : w6.cell? ⟨gx, 4, none⟩ = some (.int .i64 q.a) := HQ6.out.cell 4
    have x5 : w6.cell? ⟨gx, 5, none⟩ = some (.int .i64 q.r) := HQ6.out.cell 5
    have x6 : w6.cell? ⟨gx, 6, none⟩ = some (.int .i64 q.t) := HQ6.out.cell 6
    have x7 : w6.cell? ⟨gx, 7, none⟩ = some (.int .i64 q.y) := HQ6.out.cell 7
    have HBH := Lib.hid (behind_err (w6.alloc (.cells #[.int .i64 6] 3)) d pi po ci co q e (.slice (some ⟨w6.heap.size, 0, none⟩) 1 1) (by first | exact he.out | exact he1.out))
    unfold deskV Itm.v at HBH
    go_wp2_with fail
    clear a0 a1 a2 a3 x0 x1 x2 x3 x4 x5 x6 x7
    refine HBH.out.mono ?_
    rintro y w7 ⟨rfl, hb7⟩
    have hb67 : Below w6.heap.size w6 w7 := (oneB w6 _).trans (hb7.mono (by simp))
    have HR7 := Lib.hid (HR6.out.below hb67 HR6.out.lt)
    have HB7 := Lib.hid (HB6.out.trans (hb67.mono HB6.out.size))
    have HZ7 : Hid (w.heap.size + 1 + 1 < w6.heap.size ∧ w.heap.size ≤ w6.heap.size) := ⟨HR6.out.lt, HB6.out.size⟩
    go_wp2_with (with_reducible refine stop_storeT 29 (.tmp 6) (.tmp 31) rfl ?_)
    have HTH : Hid (w7.there (w.heap.size + 1 + 1) 0 4) := HR7.out.thereAt
    have HF : Hid (Blk (w7.setCells (w.heap.size + 1 + 1) 0 (#[.int .i64 d.me, .slice pi d.xs.length ci, .slice po d.os.length co, .int .i64 d.far] : Array Value).toList) (w.heap.size + 1 + 1) #[.int .i64 d.me, .slice pi d.xs.length ci, .slice po d.os.length co, .int .i64 d.far] 29 ∧ Below w.heap.size w (w7.setCells (w.heap.size + 1 + 1) 0 (#[.int .i64 d.me, .slice pi d.xs.length ci, .slice po d.os.length co, .int .i64 d.far] : Array Value).toList) ∧ Chg (w.heap.size + 1 + 1) w7 (w7.setCells (w.heap.size + 1 + 1) 0 (#[.int .i64 d.me, .slice pi d.xs.length ci, .slice po d.os.length co, .int .i64 d.far] : Array Value).toList)) := ⟨blk_put_all HR7.out _ rfl, below_put (by omega) _ _ _ _ HB7.out, chg_putL _ _ _ _ _ (Chg.refl _ w7)⟩
    refine wpList_store_mid rfl 29 (.tmp 6) (.tmp 31) rfl (w.heap.size + 1 + 1) 0 #[.int .i64 d.me, .slice pi d.xs.length ci, .slice po d.os.length co, .int .i64 d.far] rfl rfl HTH.out (infoD4 rfl) (all_oneCell_toArray (by intro u hu; simp at hu; rcases hu with rfl | rfl | rfl | rfl <;> rfl)) ?_
    generalize World.setCells w7 _ _ _ = w8 at *
    clear HTH
    go_wp2_with fail
    have hf := HF.out.1
    have hrr := HRP.out
    subst hrr
    refine bodyPost_ret (v := .tuple #[.agg #[.int .i64 d.me, .slice pi d.xs.length ci, .slice po d.os.length co, .int .i64 d.far], .slice none 0 0, .int .i64 e]) (by simp [results, Try.results32, go_sem, hf.cell 0, hf.cell 1, hf.cell 2, hf.cell 3]) rfl ⟨HF.out.2.1, .inl ⟨by first | exact he.out | exact he1.out, rfl⟩⟩
end Go.Proofs.Ytbpfbebebppleaa
