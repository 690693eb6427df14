/- msg.About, Item by contract. -/
import Derived.Test.YtbpfbebebppleaaMsgData
import Derived.Test.YtbpfbebebppleaaItem2
import Derived.Test.YtbpfbebebppleaaTRow2
import Derived.Test.YtbpfbebebppleaaThree
namespace Go.Proofs.Ytbpfbebebppleaa
open Go.RowKit
def aboutM (k : Int) (x : Itm) : Msg := ⟨k, x.s, x.n, x.b, x.c, x.r, 0, x.a, false, [], []⟩
def itemM (m : Msg) : Itm := ⟨m.s, m.n, m.b, m.c, m.a, m.r, 1, 0⟩
set_option linter.unusedSimpArgs false in
set_option maxHeartbeats 2000000 in
theorem about_any (k : Int) (x : Itm) (w : World) : Calls Try.prog 67 #[.int .i64 k, x.v] w fun e w' => e = .returned ((aboutM k x).v (.slice none 0 0) (.slice none 0 0)) ∧ Below w.heap.size w w' := by
  unfold Itm.v Msg.v aboutM
  go_enter Try.func67, Try.ntmps67
  go_wp2_with fail
  refine bodyPost_ret (v := .agg #[.int .i64 k, .int .i64 x.s, .int .i64 x.n, .int .i64 x.b, .int .i64 x.c, .int .i64 x.r, .int .i64 0, .int .i64 x.a, .bool false, .slice none 0 0, .slice none 0 0]) (by simp [results, Try.results67, go_sem]) rfl ⟨rfl, (oneB w _).trans ((oneB _ _).mono (by simp))⟩
set_option linter.unusedSimpArgs false in
set_option maxHeartbeats 2000000 in
theorem mitem_any (m : Msg) (vl vn : Value) (w : World) : Calls Try.prog 45 #[m.v vl vn] w fun e w' => e = .returned (.tuple #[(if chkI (itemM m) = 0 then itemM m else itm0).v, .int .i64 (chkI (itemM m))]) ∧ Below w.heap.size w w' := by
  by_cases hE : chkI (itemM m) = 0
  · have HE := Lib.hid hE
    rw [if_pos hE, hE]
    clear hE
    unfold Msg.v
    go_enter Try.func45, Try.ntmps45
    go_wp2_with fail
    have HT := Lib.hid (three_new w #[.int .i64 m.k, .int .i64 m.s, .int .i64 m.n, .int .i64 m.b, .int .i64 m.c, .int .i64 m.r, .int .i64 m.y, .int .i64 m.a, .bool m.t, vl, vn] #[.int .i64 0, .int .i64 0, .int .i64 0, .int .i64 0, .int .i64 0, .int .i64 0, .int .i64 0, .int .i64 0] #[.int .i64 m.s, .int .i64 m.n, .int .i64 m.b, .int .i64 m.c, .int .i64 m.a, .int .i64 m.r, .int .i64 1, .int .i64 0] 40 64 64)
    generalize hW : ((w.alloc (.cells #[.int .i64 m.k, .int .i64 m.s, .int .i64 m.n, .int .i64 m.b, .int .i64 m.c, .int .i64 m.r, .int .i64 m.y, .int .i64 m.a, .bool m.t, vl, vn] 40)).alloc (.cells #[.int .i64 0, .int .i64 0, .int .i64 0, .int .i64 0, .int .i64 0, .int .i64 0, .int .i64 0, .int .i64 0] 64)).alloc (.cells #[.int .i64 m.s, .int .i64 m.n, .int .i64 m.b, .int .i64 m.c, .int .i64 m.a, .int .i64 m.r, .int .i64 1, .int .i64 0] 64) = W at *
    clear hW
    refine (check_any (itemM m) W).mono ?_
    rintro y w3 ⟨rfl, hb3⟩
    have HB3 := Lib.hid (HT.out.low.trans (hb3.mono HT.out.low.size))
    have HK1 := Lib.hid (HT.out.b1.below hb3 HT.out.b1.lt)
    have hk2 := HT.out.b2.below hb3 HT.out.b2.lt
    have c0 := hk2.cell 0
    have c1 := hk2.cell 1
    have c2 := hk2.cell 2
    have c3 := hk2.cell 3
    have c4 := hk2.cell 4
    have c5 := hk2.cell 5
    have c6 := hk2.cell 6
    have c7 := hk2.cell 7
    clear hb3 hk2 HT
    rw [HE.out]
    have HTH : Hid (w3.there (w.heap.size + 1) 0 8) := HK1.out.thereAt
    have HINF : Hid ((Try.prog.info? 64).map (·.size) = some (#[.int .i64 m.s, .int .i64 m.n, .int .i64 m.b, .int .i64 m.c, .int .i64 m.a, .int .i64 m.r, .int .i64 1, .int .i64 0] : Array Value).size) := by
      show _ = _
      kernel_rfl
    have HF : Hid (Blk (w3.setCells (w.heap.size + 1) 0 (#[.int .i64 m.s, .int .i64 m.n, .int .i64 m.b, .int .i64 m.c, .int .i64 m.a, .int .i64 m.r, .int .i64 1, .int .i64 0] : Array Value).toList) (w.heap.size + 1) #[.int .i64 m.s, .int .i64 m.n, .int .i64 m.b, .int .i64 m.c, .int .i64 m.a, .int .i64 m.r, .int .i64 1, .int .i64 0] 64 ∧ Below w.heap.size w (w3.setCells (w.heap.size + 1) 0 (#[.int .i64 m.s, .int .i64 m.n, .int .i64 m.b, .int .i64 m.c, .int .i64 m.a, .int .i64 m.r, .int .i64 1, .int .i64 0] : Array Value).toList)) := ⟨blk_put_all HK1.out _ rfl, below_put (by omega) _ _ _ _ HB3.out⟩
    go_wp2_with (with_reducible refine stop_storeT 64 (.tmp 2) (.tmp 23) rfl ?_)
    refine wpList_store_mid rfl 64 (.tmp 2) (.tmp 23) rfl (w.heap.size + 1) 0 #[.int .i64 m.s, .int .i64 m.n, .int .i64 m.b, .int .i64 m.c, .int .i64 m.a, .int .i64 m.r, .int .i64 1, .int .i64 0] rfl rfl HTH.out HINF.out (all_oneCell_toArray (by intro v hv; simp at hv; rcases hv with rfl | rfl | rfl | rfl | rfl | rfl | rfl | rfl <;> rfl)) ?_
    generalize World.setCells w3 _ _ _ = W9 at *
    clear HTH HK1 HB3 c0 c1 c2 c3 c4 c5 c6 c7
    go_wp2_with fail
    have hf := HF.out.1
    refine bodyPost_ret (v := .tuple #[.agg #[.int .i64 m.s, .int .i64 m.n, .int .i64 m.b, .int .i64 m.c, .int .i64 m.a, .int .i64 m.r, .int .i64 1, .int .i64 0], .int .i64 0]) (by simp [results, Try.results45, go_sem, hf.cell 0, hf.cell 1, hf.cell 2, hf.cell 3, hf.cell 4, hf.cell 5, hf.cell 6, hf.cell 7]) rfl ⟨rfl, HF.out.2⟩
  · rw [if_neg hE]
    generalize hEE : chkI (itemM m) = E at *
    have HE := Lib.hid hE
    have HEE := Lib.hid hEE
    clear hE hEE
    unfold Msg.v
    go_enter Try.func45, Try.ntmps45
    go_wp2_with fail
    have HT := Lib.hid (three_new w #[.int .i64 m.k, .int .i64 m.s, .int .i64 m.n, .int .i64 m.b, .int .i64 m.c, .int .i64 m.r, .int .i64 m.y, .int .i64 m.a, .bool m.t, vl, vn] #[.int .i64 0, .int .i64 0, .int .i64 0, .int .i64 0, .int .i64 0, .int .i64 0, .int .i64 0, .int .i64 0] #[.int .i64 m.s, .int .i64 m.n, .int .i64 m.b, .int .i64 m.c, .int .i64 m.a, .int .i64 m.r, .int .i64 1, .int .i64 0] 40 64 64)
    generalize hW : ((w.alloc (.cells #[.int .i64 m.k, .int .i64 m.s, .int .i64 m.n, .int .i64 m.b, .int .i64 m.c, .int .i64 m.r, .int .i64 m.y, .int .i64 m.a, .bool m.t, vl, vn] 40)).alloc (.cells #[.int .i64 0, .int .i64 0, .int .i64 0, .int .i64 0, .int .i64 0, .int .i64 0, .int .i64 0, .int .i64 0] 64)).alloc (.cells #[.int .i64 m.s, .int .i64 m.n, .int .i64 m.b, .int .i64 m.c, .int .i64 m.a, .int .i64 m.r, .int .i64 1, .int .i64 0] 64) = W at *
    clear hW
    refine (check_any (itemM m) W).mono ?_
    rintro y w3 ⟨rfl, hb3⟩
    have HB3 := Lib.hid (HT.out.low.trans (hb3.mono HT.out.low.size))
    have HK1 := Lib.hid (HT.out.b1.below hb3 HT.out.b1.lt)
    have hk2 := HT.out.b2.below hb3 HT.out.b2.lt
    have c0 := hk2.cell 0
    have c1 := hk2.cell 1
    have c2 := hk2.cell 2
    have c3 := hk2.cell 3
    have c4 := hk2.cell 4
    have c5 := hk2.cell 5
    have c6 := hk2.cell 6
    have c7 := hk2.cell 7
    clear hb3 hk2 HT
    have e1 : (E != 0) = true := by simpa using HE.out
    rw [HEE.out]
    have HTH : Hid (w3.there (w.heap.size + 1) 0 8) := HK1.out.thereAt
    have HINF : Hid ((Try.prog.info? 64).map (·.size) = some (#[.int .i64 0, .int .i64 0, .int .i64 0, .int .i64 0, .int .i64 0, .int .i64 0, .int .i64 0, .int .i64 0] : Array Value).size) := by
      show _ = _
      kernel_rfl
    have HF : Hid (Blk (w3.setCells (w.heap.size + 1) 0 (#[.int .i64 0, .int .i64 0, .int .i64 0, .int .i64 0, .int .i64 0, .int .i64 0, .int .i64 0, .int .i64 0] : Array Value).toList) (w.heap.size + 1) #[.int .i64 0, .int .i64 0, .int .i64 0, .int .i64 0, .int .i64 0, .int .i64 0, .int .i64 0, .int .i64 0] 64 ∧ Below w.heap.size w (w3.setCells (w.heap.size + 1) 0 (#[.int .i64 0, .int .i64 0, .int .i64 0, .int .i64 0, .int .i64 0, .int .i64 0, .int .i64 0, .int .i64 0] : Array Value).toList)) := ⟨blk_put_all HK1.out _ rfl, below_put (by omega) _ _ _ _ HB3.out⟩
    go_wp2_with (with_reducible refine stop_storeT 64 (.tmp 2) (.tmp 21) rfl ?_)
    refine wpList_store_mid rfl 64 (.tmp 2) (.tmp 21) rfl (w.heap.size + 1) 0 #[.int .i64 0, .int .i64 0, .int .i64 0, .int .i64 0, .int .i64 0, .int .i64 0, .int .i64 0, .int .i64 0] rfl rfl HTH.out HINF.out (all_oneCell_toArray (by intro v hv; simp at hv; subst hv; rfl)) ?_
    generalize World.setCells w3 _ _ _ = W9 at *
    clear HTH HK1 HB3 c0 c1 c2 c3 c4 c5 c6 c7
    go_wp2_with fail
    have hf := HF.out.1
    refine bodyPost_ret (v := .tuple #[.agg #[.int .i64 0, .int .i64 0, .int .i64 0, .int .i64 0, .int .i64 0, .int .i64 0, .int .i64 0, .int .i64 0], .int .i64 E]) (by simp [results, Try.results45, go_sem, hf.cell 0, hf.cell 1, hf.cell 2, hf.cell 3, hf.cell 4, hf.cell 5, hf.cell 6, hf.cell 7]) rfl ⟨rfl, HF.out.2⟩
end Go.Proofs.Ytbpfbebebppleaa
