/- MsgWrites: the walk. -/
import Derived.Test.YtengkgpobckhjaaLawMsgShort
import Derived.Test.YtengkgpobckhjaaMsgSame
import Derived.Test.YtengkgpobckhjaaRefMsgW
namespace Go.Proofs.Ytengkgpobckhjaa
open Go.RowKit
set_option linter.unusedSimpArgs false
theorem row_from {k : IntKind} {w : World} {b n c : Nat} {zs : List Int} (h : Row k w (.slice (some ⟨b, 0, none⟩) n c) zs) (m : Nat) (hm : m ≤ zs.length) : Row k w (.slice (some ⟨b, m, none⟩) (n - m) (c - m)) (zs.drop m) := by
  obtain ⟨p', c', e, hc, h⟩ := h
  cases e
  refine ⟨_, _, by rw [List.length_drop], by rw [List.length_drop]; omega, ?_⟩
  rcases h with h | ⟨b', o', hp, h⟩
  · left; rw [h]; simp
  · cases hp
    refine .inr ⟨b, m, rfl, fun i hi => ?_⟩
    rw [List.length_drop] at hi
    have := h (m + i) (by omega)
    rw [Nat.zero_add] at this
    rw [this, List.getD_eq_getElem?_getD, List.getD_eq_getElem?_getD, List.getElem?_drop]
set_option maxHeartbeats 8000000 in
set_option maxRecDepth 100000 in
theorem mwrites_walk (vf : Value) (fs : List Int) (x : MsgX) (W : World) (of_ : Oct fs) (rf : Row .u8 W vf fs) (_lf : fs.length ≤ 140737488355328) (hx : x.In W) :
    Calls Try.prog 3 #[vf, x.m.v x.vl x.vn] W fun e w' => e = .returned (.bool true) ∧ Below W.heap.size W w' := by
  obtain ⟨m, pl, cl, pn, cn⟩ := x
  obtain ⟨pf, cf, rfl⟩ := rf.shape
  have HX := Lib.hid hx
  have HFO := Lib.hid of_
  have HFR := Lib.hid rf
  clear hx of_ rf _lf
  generalize hfl : fs.length = F at *
  have HFL := Lib.hid hfl
  clear hfl
  unfold Msg.v MsgX.vl MsgX.vn
  dsimp only
  by_cases h1 : 500 < F
  · have g1 : (500 : Int) < (F : Int) := by omega
    go_enter Try.func3, Try.ntmps3
    go_wp2_with fail
    refine (says_any _).mono ?_
    rintro z w1 ⟨rfl, hb1⟩
    have HK1 := Lib.hid ((Blk.new W #[.int .i64 m.k, .int .i64 m.s, .int .i64 m.n, .int .i64 m.b, .int .i64 m.c, .int .i64 m.r, .int .i64 m.y, .int .i64 m.a, .bool m.t, .slice pl m.ls.length cl, .slice pn m.ns.length cn] 28).below hb1 (Blk.new W #[.int .i64 m.k, .int .i64 m.s, .int .i64 m.n, .int .i64 m.b, .int .i64 m.c, .int .i64 m.r, .int .i64 m.y, .int .i64 m.a, .bool m.t, .slice pl m.ls.length cl, .slice pn m.ns.length cn] 28).lt)
    have B1 := Lib.hid ((oneB W (.cells #[.int .i64 m.k, .int .i64 m.s, .int .i64 m.n, .int .i64 m.b, .int .i64 m.c, .int .i64 m.r, .int .i64 m.y, .int .i64 m.a, .bool m.t, .slice pl m.ls.length cl, .slice pn m.ns.length cn] 28)).trans (hb1.mono (oneB W (.cells #[.int .i64 m.k, .int .i64 m.s, .int .i64 m.n, .int .i64 m.b, .int .i64 m.c, .int .i64 m.r, .int .i64 m.y, .int .i64 m.a, .bool m.t, .slice pl m.ls.length cl, .slice pn m.ns.length cn] 28)).size))
    clear hb1
    have hk1 := HK1.out
    have c0 : w1.cell? ⟨W.heap.size, 0, none⟩ = some (.int .i64 m.k) := hk1.cell 0
    have c1 : w1.cell? ⟨W.heap.size, 1, none⟩ = some (.int .i64 m.s) := hk1.cell 1
    have c2 : w1.cell? ⟨W.heap.size, 2, none⟩ = some (.int .i64 m.n) := hk1.cell 2
    have c3 : w1.cell? ⟨W.heap.size, 3, none⟩ = some (.int .i64 m.b) := hk1.cell 3
    have c4 : w1.cell? ⟨W.heap.size, 4, none⟩ = some (.int .i64 m.c) := hk1.cell 4
    have c5 : w1.cell? ⟨W.heap.size, 5, none⟩ = some (.int .i64 m.r) := hk1.cell 5
    have c6 : w1.cell? ⟨W.heap.size, 6, none⟩ = some (.int .i64 m.y) := hk1.cell 6
    have c7 : w1.cell? ⟨W.heap.size, 7, none⟩ = some (.int .i64 m.a) := hk1.cell 7
    have c8 : w1.cell? ⟨W.heap.size, 8, none⟩ = some (.bool m.t) := hk1.cell 8
    have c9 : w1.cell? ⟨W.heap.size, 9, none⟩ = some (.slice pl m.ls.length cl) := hk1.cell 9
    have c10 : w1.cell? ⟨W.heap.size, 10, none⟩ = some (.slice pn m.ns.length cn) := hk1.cell 10
    clear hk1
    go_wp2_with fail
    go_ret
    exact ⟨rfl, B1.out⟩
  have g1 : ¬ (500 : Int) < (F : Int) := by omega
  have HF5 : Hid (F ≤ 500) := by show F ≤ 500; omega
  go_enter Try.func3, Try.ntmps3
  go_wp2_with fail
  refine (says_any _).mono ?_
  rintro z w1 ⟨rfl, hb1⟩
  have HK1 := Lib.hid ((Blk.new W #[.int .i64 m.k, .int .i64 m.s, .int .i64 m.n, .int .i64 m.b, .int .i64 m.c, .int .i64 m.r, .int .i64 m.y, .int .i64 m.a, .bool m.t, .slice pl m.ls.length cl, .slice pn m.ns.length cn] 28).below hb1 (Blk.new W #[.int .i64 m.k, .int .i64 m.s, .int .i64 m.n, .int .i64 m.b, .int .i64 m.c, .int .i64 m.r, .int .i64 m.y, .int .i64 m.a, .bool m.t, .slice pl m.ls.length cl, .slice pn m.ns.length cn] 28).lt)
  have B1 := Lib.hid ((oneB W (.cells #[.int .i64 m.k, .int .i64 m.s, .int .i64 m.n, .int .i64 m.b, .int .i64 m.c, .int .i64 m.r, .int .i64 m.y, .int .i64 m.a, .bool m.t, .slice pl m.ls.length cl, .slice pn m.ns.length cn] 28)).trans (hb1.mono (oneB W (.cells #[.int .i64 m.k, .int .i64 m.s, .int .i64 m.n, .int .i64 m.b, .int .i64 m.c, .int .i64 m.r, .int .i64 m.y, .int .i64 m.a, .bool m.t, .slice pl m.ls.length cl, .slice pn m.ns.length cn] 28)).size))
  clear hb1
  have hk1 := HK1.out
  have c0 : w1.cell? ⟨W.heap.size, 0, none⟩ = some (.int .i64 m.k) := hk1.cell 0
  have c1 : w1.cell? ⟨W.heap.size, 1, none⟩ = some (.int .i64 m.s) := hk1.cell 1
  have c2 : w1.cell? ⟨W.heap.size, 2, none⟩ = some (.int .i64 m.n) := hk1.cell 2
  have c3 : w1.cell? ⟨W.heap.size, 3, none⟩ = some (.int .i64 m.b) := hk1.cell 3
  have c4 : w1.cell? ⟨W.heap.size, 4, none⟩ = some (.int .i64 m.c) := hk1.cell 4
  have c5 : w1.cell? ⟨W.heap.size, 5, none⟩ = some (.int .i64 m.r) := hk1.cell 5
  have c6 : w1.cell? ⟨W.heap.size, 6, none⟩ = some (.int .i64 m.y) := hk1.cell 6
  have c7 : w1.cell? ⟨W.heap.size, 7, none⟩ = some (.int .i64 m.a) := hk1.cell 7
  have c8 : w1.cell? ⟨W.heap.size, 8, none⟩ = some (.bool m.t) := hk1.cell 8
  have c9 : w1.cell? ⟨W.heap.size, 9, none⟩ = some (.slice pl m.ls.length cl) := hk1.cell 9
  have c10 : w1.cell? ⟨W.heap.size, 10, none⟩ = some (.slice pn m.ns.length cn) := hk1.cell 10
  clear hk1
  go_wp2_with fail
  have HB1 := Lib.hid HK1.out
  clear c0 c1 c2 c3 c4 c5 c6 c7 c8 c9 c10
  by_cases hf : m.ls.length ≤ 1100 ∧ m.ns.length ≤ 20
  rotate_left
  · refine (fits_any ⟨m, pl, cl, pn, cn⟩ _).mono ?_
    rintro z w2 ⟨rfl, hb2⟩
    dsimp only
    rw [decide_eq_false hf]
    go_wp2_with fail
    go_ret
    exact ⟨rfl, B1.out.trans (hb2.mono B1.out.size)⟩
  refine (fits_any ⟨m, pl, cl, pn, cn⟩ _).mono ?_
  rintro z w2 ⟨rfl, hb2⟩
  dsimp only
  rw [decide_eq_true hf]
  have HFT := Lib.hid hf
  have HK2 := Lib.hid (HK1.out.below hb2 HK1.out.lt)
  have B2 := Lib.hid (B1.out.trans (hb2.mono B1.out.size))
  have hk2 := HK2.out
  have c0 : w2.cell? ⟨W.heap.size, 0, none⟩ = some (.int .i64 m.k) := hk2.cell 0
  have c1 : w2.cell? ⟨W.heap.size, 1, none⟩ = some (.int .i64 m.s) := hk2.cell 1
  have c2 : w2.cell? ⟨W.heap.size, 2, none⟩ = some (.int .i64 m.n) := hk2.cell 2
  have c3 : w2.cell? ⟨W.heap.size, 3, none⟩ = some (.int .i64 m.b) := hk2.cell 3
  have c4 : w2.cell? ⟨W.heap.size, 4, none⟩ = some (.int .i64 m.c) := hk2.cell 4
  have c5 : w2.cell? ⟨W.heap.size, 5, none⟩ = some (.int .i64 m.r) := hk2.cell 5
  have c6 : w2.cell? ⟨W.heap.size, 6, none⟩ = some (.int .i64 m.y) := hk2.cell 6
  have c7 : w2.cell? ⟨W.heap.size, 7, none⟩ = some (.int .i64 m.a) := hk2.cell 7
  have c8 : w2.cell? ⟨W.heap.size, 8, none⟩ = some (.bool m.t) := hk2.cell 8
  have c9 : w2.cell? ⟨W.heap.size, 9, none⟩ = some (.slice pl m.ls.length cl) := hk2.cell 9
  have c10 : w2.cell? ⟨W.heap.size, 10, none⟩ = some (.slice pn m.ns.length cn) := hk2.cell 10
  clear hf hb2 hk2 HK1 HB1
  go_wp2_with fail
  clear c0 c1 c2 c3 c4 c5 c6 c7 c8 c9 c10
  refine (write_any _ fs m _ _ w2 (HFR.out.kept B2.out) (HX.out.ls.kept B2.out) (HX.out.ns.kept B2.out) HX.out.fit (by rw [HFL.out]; have := HF5.out; omega) (by have := HFT.out.1; omega) (by have := HFT.out.2; omega)).mono ?_
  rintro z w3 ⟨v3, rfl, ho3, hb3⟩
  obtain ⟨p3, c3, rfl⟩ := ho3.form
  have HO3 := Lib.hid ho3
  have HK3 := Lib.hid (HK2.out.below hb3 HK2.out.lt)
  have B3 := Lib.hid (B2.out.trans (hb3.mono B2.out.size))
  have hk3 := HK3.out
  have c0 : w3.cell? ⟨W.heap.size, 0, none⟩ = some (.int .i64 m.k) := hk3.cell 0
  have c1 : w3.cell? ⟨W.heap.size, 1, none⟩ = some (.int .i64 m.s) := hk3.cell 1
  have c2 : w3.cell? ⟨W.heap.size, 2, none⟩ = some (.int .i64 m.n) := hk3.cell 2
  have c3 : w3.cell? ⟨W.heap.size, 3, none⟩ = some (.int .i64 m.b) := hk3.cell 3
  have c4 : w3.cell? ⟨W.heap.size, 4, none⟩ = some (.int .i64 m.c) := hk3.cell 4
  have c5 : w3.cell? ⟨W.heap.size, 5, none⟩ = some (.int .i64 m.r) := hk3.cell 5
  have c6 : w3.cell? ⟨W.heap.size, 6, none⟩ = some (.int .i64 m.y) := hk3.cell 6
  have c7 : w3.cell? ⟨W.heap.size, 7, none⟩ = some (.int .i64 m.a) := hk3.cell 7
  have c8 : w3.cell? ⟨W.heap.size, 8, none⟩ = some (.bool m.t) := hk3.cell 8
  have c9 : w3.cell? ⟨W.heap.size, 9, none⟩ = some (.slice pl m.ls.length cl) := hk3.cell 9
  have c10 : w3.cell? ⟨W.heap.size, 10, none⟩ = some (.slice pn m.ns.length cn) := hk3.cell 10
  clear ho3 hb3 hk3 HK2
  go_wp2_with fail
  clear c0 c1 c2 c3 c4 c5 c6 c7 c8 c9 c10
  refine (refwrite_any m pl cl pn cn w3 HX.out.fit (HX.out.ls.kept B3.out) (HX.out.ns.kept B3.out)).mono ?_
  rintro z w4 ⟨rfl, hb4⟩
  have HO4 := Lib.hid (HO3.out.later hb4)
  have HK4 := Lib.hid (HK3.out.below hb4 HK3.out.lt)
  have B4 := Lib.hid (B3.out.trans (hb4.mono B3.out.size))
  clear hb4 HK3 HO3
  by_cases hE : msgE m = 0
  rotate_left
  · have hw : wrL fs m = [] := by unfold wrL; rw [if_neg hE]
    have he : (msgE m != 0) = true := by simpa using hE
    have he2 : (msgE m == 0) = false := by simpa using hE
    rw [hw] at HO4 ⊢
    generalize wrL [] m = ws at *
    generalize msgE m = E at *
    clear hw hE
    go_wp2_with fail
    go_ret
    exact ⟨rfl, B4.out⟩
  have hw : wrL fs m = fs ++ msgL m := by unfold wrL; rw [if_pos hE]
  have hw2 : wrL [] m = msgL m := wr_ok hE
  rw [hw] at HO4 ⊢
  rw [hE, hw2]
  have HE := Lib.hid hE
  have HRW := Lib.hid (rE_w hE HX.out.fit)
  have HL := Lib.hid (msgL_len HX.out.fit (msgE_ok hE).2.1 (msgE_ok hE).2.2.1)
  have HP := Lib.hid (msgL_pos m)
  have HBK := Lib.hid (msgL_oct m)
  clear hw hw2 hE
  generalize msgL m = L at *
  generalize hln : L.length = ln at *
  have HLN := Lib.hid hln
  have hlen : (fs ++ L).length = F + ln := by rw [List.length_append, HFL.out, hln]
  rw [hlen] at HO4 ⊢
  clear hln
  have HFLN := Lib.hid hlen
  clear hlen
  obtain ⟨g3, rfl, _, _, _⟩ := HO4.out.at_ (by have := HP.out; omega)
  have HR4 := Lib.hid HO4.out.row
  have hcap : F + ln ≤ c3 := by have := row_cap HR4.out; rw [HFLN.out] at this; exact this
  have hcF : ¬ c3 = F := by have := HP.out; omega
  have hcF2 : F ≤ F + ln := by omega
  have hA : ∀ a b : List Int, strOfNums a ++ strOfNums b = strOfNums (a ++ b) := strOfNums_append
  have hZ1 : (strOfNums fs).size = F := (strOfNums_size fs).trans HFL.out
  have hZ2 : (strOfNums L).size = ln := (strOfNums_size L).trans HLN.out
  have q1 : ¬ 9223372036854775807 < F + ln := by have h1 := HF5.out; have h2 := HL.out; omega
  have kb := conv_row (P := Try.prog) w4 22 9 5 Try.underlying22 Try.underlying5 Try.underlying9 (.slice (some ⟨g3, 0, none⟩) (F + ln) c3) _ HR4.out
  have kf := conv_row (P := Try.prog) w4 22 9 5 Try.underlying22 Try.underlying5 Try.underlying9 (.slice pf F cf) _ (HFR.out.kept B4.out)
  clear HO4 hcap
  go_wp2_with fail
  have HRD := row_from HR4.out F (by rw [HFLN.out]; omega)
  rw [List.drop_left' HFL.out, show F + ln - F = ln from by omega] at HRD
  have HRD2 := Lib.hid HRD
  clear HRD
  refine (mread_any _ L w4 HRD2.out HBK.out (by rw [HLN.out]; have := HL.out; omega)).mono ?_
  rintro z w5 ⟨vl5, vn5, rfl, ol5, on5, hb5⟩
  rw [HRW.out.2] at ol5 on5
  rw [HRW.out.1, HRW.out.2]
  obtain ⟨pl5, cl5, rfl⟩ := ol5.form
  obtain ⟨pn5, cn5, rfl⟩ := on5.form
  unfold Msg.v
  have C5 := Lib.hid (B4.out.trans (hb5.mono B4.out.size))
  have hk5 := (HK4.out.below hb5 HK4.out.lt).alloc (.cells #[.int .i64 m.k, .int .i64 m.s, .int .i64 m.n, .int .i64 m.b, .int .i64 m.c, .int .i64 m.r, .int .i64 m.y, .int .i64 m.a, .bool m.t, .slice pl5 m.ls.length cl5, .slice pn5 m.ns.length cn5] 28)
  have HSA := Lib.hid (fun w' (h : Below w5.heap.size w5 w') => msame_any m _ _ _ _ w' (ol5.row.kept h) (on5.row.kept h) ((HX.out.ls.kept C5.out).kept h) ((HX.out.ns.kept C5.out).kept h) (by have := HFT.out.1; omega) (by have := HFT.out.2; omega))
  unfold Msg.v at HSA
  have cc0 : (w5.alloc (.cells #[.int .i64 m.k, .int .i64 m.s, .int .i64 m.n, .int .i64 m.b, .int .i64 m.c, .int .i64 m.r, .int .i64 m.y, .int .i64 m.a, .bool m.t, .slice pl5 m.ls.length cl5, .slice pn5 m.ns.length cn5] 28)).cell? ⟨W.heap.size, 0, none⟩ = some (.int .i64 m.k) := hk5.cell 0
  have cc1 : (w5.alloc (.cells #[.int .i64 m.k, .int .i64 m.s, .int .i64 m.n, .int .i64 m.b, .int .i64 m.c, .int .i64 m.r, .int .i64 m.y, .int .i64 m.a, .bool m.t, .slice pl5 m.ls.length cl5, .slice pn5 m.ns.length cn5] 28)).cell? ⟨W.heap.size, 1, none⟩ = some (.int .i64 m.s) := hk5.cell 1
  have cc2 : (w5.alloc (.cells #[.int .i64 m.k, .int .i64 m.s, .int .i64 m.n, .int .i64 m.b, .int .i64 m.c, .int .i64 m.r, .int .i64 m.y, .int .i64 m.a, .bool m.t, .slice pl5 m.ls.length cl5, .slice pn5 m.ns.length cn5] 28)).cell? ⟨W.heap.size, 2, none⟩ = some (.int .i64 m.n) := hk5.cell 2
  have cc3 : (w5.alloc (.cells #[.int .i64 m.k, .int .i64 m.s, .int .i64 m.n, .int .i64 m.b, .int .i64 m.c, .int .i64 m.r, .int .i64 m.y, .int .i64 m.a, .bool m.t, .slice pl5 m.ls.length cl5, .slice pn5 m.ns.length cn5] 28)).cell? ⟨W.heap.size, 3, none⟩ = some (.int .i64 m.b) := hk5.cell 3
  have cc4 : (w5.alloc (.cells #[.int .i64 m.k, .int .i64 m.s, .int .i64 m.n, .int .i64 m.b, .int .i64 m.c, .int .i64 m.r, .int .i64 m.y, .int .i64 m.a, .bool m.t, .slice pl5 m.ls.length cl5, .slice pn5 m.ns.length cn5] 28)).cell? ⟨W.heap.size, 4, none⟩ = some (.int .i64 m.c) := hk5.cell 4
  have cc5 : (w5.alloc (.cells #[.int .i64 m.k, .int .i64 m.s, .int .i64 m.n, .int .i64 m.b, .int .i64 m.c, .int .i64 m.r, .int .i64 m.y, .int .i64 m.a, .bool m.t, .slice pl5 m.ls.length cl5, .slice pn5 m.ns.length cn5] 28)).cell? ⟨W.heap.size, 5, none⟩ = some (.int .i64 m.r) := hk5.cell 5
  have cc6 : (w5.alloc (.cells #[.int .i64 m.k, .int .i64 m.s, .int .i64 m.n, .int .i64 m.b, .int .i64 m.c, .int .i64 m.r, .int .i64 m.y, .int .i64 m.a, .bool m.t, .slice pl5 m.ls.length cl5, .slice pn5 m.ns.length cn5] 28)).cell? ⟨W.heap.size, 6, none⟩ = some (.int .i64 m.y) := hk5.cell 6
  have cc7 : (w5.alloc (.cells #[.int .i64 m.k, .int .i64 m.s, .int .i64 m.n, .int .i64 m.b, .int .i64 m.c, .int .i64 m.r, .int .i64 m.y, .int .i64 m.a, .bool m.t, .slice pl5 m.ls.length cl5, .slice pn5 m.ns.length cn5] 28)).cell? ⟨W.heap.size, 7, none⟩ = some (.int .i64 m.a) := hk5.cell 7
  have cc8 : (w5.alloc (.cells #[.int .i64 m.k, .int .i64 m.s, .int .i64 m.n, .int .i64 m.b, .int .i64 m.c, .int .i64 m.r, .int .i64 m.y, .int .i64 m.a, .bool m.t, .slice pl5 m.ls.length cl5, .slice pn5 m.ns.length cn5] 28)).cell? ⟨W.heap.size, 8, none⟩ = some (.bool m.t) := hk5.cell 8
  have cc9 : (w5.alloc (.cells #[.int .i64 m.k, .int .i64 m.s, .int .i64 m.n, .int .i64 m.b, .int .i64 m.c, .int .i64 m.r, .int .i64 m.y, .int .i64 m.a, .bool m.t, .slice pl5 m.ls.length cl5, .slice pn5 m.ns.length cn5] 28)).cell? ⟨W.heap.size, 9, none⟩ = some (.slice pl m.ls.length cl) := hk5.cell 9
  have cc10 : (w5.alloc (.cells #[.int .i64 m.k, .int .i64 m.s, .int .i64 m.n, .int .i64 m.b, .int .i64 m.c, .int .i64 m.r, .int .i64 m.y, .int .i64 m.a, .bool m.t, .slice pl5 m.ls.length cl5, .slice pn5 m.ns.length cn5] 28)).cell? ⟨W.heap.size, 10, none⟩ = some (.slice pn m.ns.length cn) := hk5.cell 10
  clear hk5 hb5 ol5 on5
  go_wp2_with fail
  refine (HSA.out _ (oneB _ _)).mono ?_
  rintro z w10 ⟨rfl, hb10⟩
  have B10 := Lib.hid ((C5.out.trans ((oneB w5 _).mono C5.out.size)).trans (hb10.mono (Nat.le_trans C5.out.size (oneB w5 _).size)))
  clear hb10
  go_wp2_with fail
  go_ret
  exact ⟨rfl, B10.out⟩
end Go.Proofs.Ytengkgpobckhjaa
