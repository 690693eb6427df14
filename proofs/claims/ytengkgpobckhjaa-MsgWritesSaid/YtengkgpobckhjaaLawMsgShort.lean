/- MsgShort: the walk. -/
import Derived.Test.YtengkgpobckhjaaMsgFits
import Derived.Test.YtengkgpobckhjaaElt
namespace Go.Proofs.Ytengkgpobckhjaa
open Go.RowKit
set_option linter.unusedSimpArgs false
theorem row_cap {k : IntKind} {w : World} {p : Option Addr} {n c : Nat} {zs : List Int} (h : Row k w (.slice p n c) zs) : zs.length ≤ c := by
  obtain ⟨_, _, e, hc, _⟩ := h
  cases e
  exact hc
theorem wr_ok {m : Msg} (h : msgE m = 0) : wrL [] m = msgL m := by unfold wrL; rw [if_pos h]; rfl
theorem wr_no {m : Msg} {L : List Int} (h : msgE m ≠ 0) : wrL L m = [] := by unfold wrL; rw [if_neg h]
theorem msgL_pos (m : Msg) : 1 ≤ (msgL m).length := by
  unfold msgL
  have := numL_ne m.k
  rcases h : numL m.k with _ | ⟨a, l⟩
  · exact absurd h this
  · simp
set_option maxHeartbeats 4000000 in
set_option maxRecDepth 100000 in
theorem mshort_walk (x : MsgX) (r : Int) (W : World) (hx : x.In W) (hr : 0 ≤ r ∧ r < 256) :
    Calls Try.prog 8 #[x.m.v x.vl x.vn, .int .u8 r] W fun e w' => e = .returned (.bool true) ∧ Below W.heap.size W w' := by
  obtain ⟨m, pl, cl, pn, cn⟩ := x
  have HX := Lib.hid hx
  have HR := Lib.hid hr
  clear hx hr
  unfold Msg.v MsgX.vl MsgX.vn
  dsimp only
  by_cases hf : m.ls.length ≤ 1100 ∧ m.ns.length ≤ 20
  · have HF := Lib.hid hf
    clear hf
    go_enter Try.func8, Try.ntmps8
    go_wp2_with fail
    refine (says_any _).mono ?_
    rintro z w1 ⟨rfl, hb1⟩
    have HK1 := Lib.hid ((Blk.new W #[.int .i64 m.k, .int .i64 m.s, .int .i64 m.n, .int .i64 m.b, .int .i64 m.c, .int .i64 m.r, .int .i64 m.y, .int .i64 m.a, .bool m.t, .slice pl m.ls.length cl, .slice pn m.ns.length cn] 28).below hb1 (Blk.new W #[.int .i64 m.k, .int .i64 m.s, .int .i64 m.n, .int .i64 m.b, .int .i64 m.c, .int .i64 m.r, .int .i64 m.y, .int .i64 m.a, .bool m.t, .slice pl m.ls.length cl, .slice pn m.ns.length cn] 28).lt)
    have B1 := Lib.hid ((oneB W (.cells #[.int .i64 m.k, .int .i64 m.s, .int .i64 m.n, .int .i64 m.b, .int .i64 m.c, .int .i64 m.r, .int .i64 m.y, .int .i64 m.a, .bool m.t, .slice pl m.ls.length cl, .slice pn m.ns.length cn] 28)).trans (hb1.mono (oneB W (.cells #[.int .i64 m.k, .int .i64 m.s, .int .i64 m.n, .int .i64 m.b, .int .i64 m.c, .int .i64 m.r, .int .i64 m.y, .int .i64 m.a, .bool m.t, .slice pl m.ls.length cl, .slice pn m.ns.length cn] 28)).size))
    clear hb1
    have hk1 := HK1.out
    have c0 : w1.cell? ⟨W.heap.size, 0, none⟩ = some (.int .i64 m.k) := hk1.cell 0
    have c1 : w1.cell? ⟨W.heap.size, 1, none⟩ = some (.int .i64 m.s) := hk1.cell 1
    have c2 : w1.cell? ⟨W.heap.size, 2, none⟩ = some (.int .i64 m.n) := hk1.cell 2
    have c3 : w1.cell? ⟨W.heap.size, 3, none⟩ = some (.int .i64 m.b) := hk1.cell 3
    have c4 : w1.cell? ⟨W.heap.size, 4, none⟩ = some (.int .i64 m.c) := hk1.cell 4
    have c5 : w1.cell? ⟨W.heap.size, 5, none⟩ = some (.int .i64 m.r) := hk1.cell 5
    have c6 : w1.cell? ⟨W.heap.size, 6, none⟩ = some (.int .i64 m.y) := hk1.cell 6
    have c7 : w1.cell? ⟨W.heap.size, 7, none⟩ = some (.int .i64 m.a) := hk1.cell 7
    have c8 : w1.cell? ⟨W.heap.size, 8, none⟩ = some (.bool m.t) := hk1.cell 8
    have c9 : w1.cell? ⟨W.heap.size, 9, none⟩ = some (.slice pl m.ls.length cl) := hk1.cell 9
    have c10 : w1.cell? ⟨W.heap.size, 10, none⟩ = some (.slice pn m.ns.length cn) := hk1.cell 10
    clear hk1
    go_wp2_with fail
    refine (fits_any ⟨m, pl, cl, pn, cn⟩ _).mono ?_
    rintro z w2 ⟨rfl, hb2⟩
    dsimp only
    have HK2 := Lib.hid (HK1.out.below hb2 HK1.out.lt)
    have B2 := Lib.hid (B1.out.trans (hb2.mono B1.out.size))
    clear hb2 HK1 c0 c1 c2 c3 c4 c5 c6 c7 c8 c9 c10
    rw [decide_eq_true HF.out]
    have hk2 := HK2.out
    have c0 : w2.cell? ⟨W.heap.size, 0, none⟩ = some (.int .i64 m.k) := hk2.cell 0
    have c1 : w2.cell? ⟨W.heap.size, 1, none⟩ = some (.int .i64 m.s) := hk2.cell 1
    have c2 : w2.cell? ⟨W.heap.size, 2, none⟩ = some (.int .i64 m.n) := hk2.cell 2
    have c3 : w2.cell? ⟨W.heap.size, 3, none⟩ = some (.int .i64 m.b) := hk2.cell 3
    have c4 : w2.cell? ⟨W.heap.size, 4, none⟩ = some (.int .i64 m.c) := hk2.cell 4
    have c5 : w2.cell? ⟨W.heap.size, 5, none⟩ = some (.int .i64 m.r) := hk2.cell 5
    have c6 : w2.cell? ⟨W.heap.size, 6, none⟩ = some (.int .i64 m.y) := hk2.cell 6
    have c7 : w2.cell? ⟨W.heap.size, 7, none⟩ = some (.int .i64 m.a) := hk2.cell 7
    have c8 : w2.cell? ⟨W.heap.size, 8, none⟩ = some (.bool m.t) := hk2.cell 8
    have c9 : w2.cell? ⟨W.heap.size, 9, none⟩ = some (.slice pl m.ls.length cl) := hk2.cell 9
    have c10 : w2.cell? ⟨W.heap.size, 10, none⟩ = some (.slice pn m.ns.length cn) := hk2.cell 10
    clear hk2
    go_wp2_with fail
    refine (write_any _ [] m _ _ w2 (Row.nil_ _ _ 0) (HX.out.ls.kept B2.out) (HX.out.ns.kept B2.out) HX.out.fit (by simp) (by have := HF.out.1; omega) (by have := HF.out.2; omega)).mono ?_
    rintro z w3 ⟨v3, rfl, ho3, hb3⟩
    have B3 := Lib.hid (B2.out.trans (hb3.mono B2.out.size))
    clear c0 c1 c2 c3 c4 c5 c6 c7 c8 c9 c10
    by_cases hE : msgE m = 0
    · rw [wr_ok hE] at ho3
      rw [hE]
      have HE := Lib.hid hE
      have HBK := Lib.hid (msgL_oct m)
      have HSH := Lib.hid (rE_short hE HX.out.fit)
      have HMO := Lib.hid (rE_more hE HX.out.fit r)
      have HL := Lib.hid (msgL_len HX.out.fit (msgE_ok hE).2.1 (msgE_ok hE).2.2.1)
      have HP := Lib.hid (msgL_pos m)
      clear hE
      generalize msgL m = L at *
      have HO3 := Lib.hid ho3.row
      obtain ⟨p3, c3, rfl⟩ := ho3.form
      generalize hn : L.length = n at *
      have HN := Lib.hid hn
      obtain ⟨q, rfl⟩ : ∃ q, n = q + 1 := ⟨n - 1, by have := HP.out; omega⟩
      have h1 : wrap64 (q : Int) = (q : Int) := by have := HL.out; unfold wrap64; omega
      have h2 : q ≤ c3 := by have hc := row_cap HO3.out; have := HN.out; omega
      have HCUT := Lib.hid (HO3.out.cut q (by rw [HN.out]; omega))
      have HDL : Hid (L.take q = L.dropLast) := by show _ = _; rw [List.dropLast_eq_take, HN.out]; rfl
      rw [HDL.out] at HCUT
      clear ho3 hn hb3
      go_wp2_with fail
      refine (mread_any _ _ w3 HCUT.out (fun a ha => HBK.out a (List.dropLast_subset _ ha)) (by rw [List.length_dropLast, HN.out]; have := HL.out; omega)).mono ?_
      rintro z w4 ⟨vl4, vn4, rfl, ol4, on4, hb4⟩
      have hM0 : rM L.dropLast = msg0 := by unfold rM; rw [if_neg (by rw [HSH.out]; decide)]
      rw [hM0] at ol4 on4
      rw [HSH.out, hM0]
      obtain ⟨pl4, cl4, rfl⟩ := ol4.form
      obtain ⟨pn4, cn4, rfl⟩ := on4.form
      clear ol4 on4 hM0
      have B4 := Lib.hid (B3.out.trans (hb4.mono B3.out.size))
      have HO4 := Lib.hid (HO3.out.kept hb4)
      clear hb4 HO3 HCUT
      unfold msg0 Msg.v
      dsimp only
      have HC5 := Lib.hid (oneB w4 (.cells #[.int .i64 0, .int .i64 0, .int .i64 0, .int .i64 0, .int .i64 0, .int .i64 0, .int .i64 0, .int .i64 0, .bool false, .slice pl4 0 cl4, .slice pn4 0 cn4] 28))
      have HS5 : Hid ((w4.alloc (.cells #[.int .i64 0, .int .i64 0, .int .i64 0, .int .i64 0, .int .i64 0, .int .i64 0, .int .i64 0, .int .i64 0, .bool false, .slice pl4 0 cl4, .slice pn4 0 cn4] 28)).heap.size = w4.heap.size + 1) := by show _ = _; simp
      have O5 := Lib.hid (Own.made_at .u8 (w4.alloc (.cells #[.int .i64 0, .int .i64 0, .int .i64 0, .int .i64 0, .int .i64 0, .int .i64 0, .int .i64 0, .int .i64 0, .bool false, .slice pl4 0 cl4, .slice pn4 0 cn4] 28)) (w4.heap.size + 1) (w4.heap.size + 1) 5 (Nat.le_refl _) HS5.out.symm)
      have C5 := Lib.hid (oneB (w4.alloc (.cells #[.int .i64 0, .int .i64 0, .int .i64 0, .int .i64 0, .int .i64 0, .int .i64 0, .int .i64 0, .int .i64 0, .bool false, .slice pl4 0 cl4, .slice pn4 0 cn4] 28)) (.cells #[] 5))
      have R5 := Lib.hid ((HO4.out.kept HC5.out).kept C5.out)
      have B5 := Lib.hid ((B4.out.trans (HC5.out.mono B4.out.size)).trans (C5.out.mono (Nat.le_trans B4.out.size HC5.out.size)))
      go_wp2_with (at_builtin; (first
        | (refine wpList_append_row rfl (.tmp 33) (.tmp 34) 22 rfl 5 .u8 1 (w4.heap.size + 1) elt8 _ _ [] L rfl rfl O5.out R5.out (by have h1 := HL.out; have h2 := HN.out; simp; omega) (by have h1 := HL.out; have h2 := HN.out; simp; omega) (by simp) L (q + 1) rfl HN.out ?_; intro p6 c6 w6 ho6 hb6; have O6 := Lib.hid (ho6.alloc (.cells #[.int .u8 r] 5)); have S6 : Hid (w4.heap.size + 1 ≤ w6.heap.size) := (by show _ ≤ _; have := hb6.size; simp at this; omega); have B6 := Lib.hid ((B5.out.trans (hb6.mono (by have := B4.out.size; omega))).alloc (by have := B4.out.size; have := S6.out; omega) (.cells #[.int .u8 r] 5)); have R6 := Lib.hid (Row.laid .u8 w6 5 [r] #[.int .u8 r] rfl (0, 0) 1 1 rfl (Nat.le_refl _)); clear ho6 hb6)
        | (refine wpList_append_row rfl (.tmp 35) (.tmp 37) 22 rfl 5 .u8 1 (w4.heap.size + 1) elt8 _ _ L [r] rfl rfl O6.out R6.out (by have h1 := HL.out; have h2 := HN.out; simp; omega) (by have h1 := HL.out; have h2 := HN.out; simp; omega) (by have := S6.out; simp; omega) (L ++ [r]) (q + 2) rfl (by rw [List.length_append, HN.out]; rfl) ?_; intro p7 c7 w7 ho7 hb7; have R7 := Lib.hid ho7.row; have B7 := Lib.hid (B6.out.trans (hb7.mono (by have := B4.out.size; omega))); clear ho7 hb7)))
      refine (mread_any _ _ w7 R7.out (HBK.out.append (by intro a ha; simp at ha; have := HR.out; omega)) (by have h1 := HL.out; have h2 := HN.out; rw [List.length_append]; simp; omega)).mono ?_
      rintro z w8 ⟨vl8, vn8, rfl, ol8, on8, hb8⟩
      rw [HMO.out.2] at ol8 on8
      rw [HMO.out.1, HMO.out.2]
      obtain ⟨pl8, cl8, rfl⟩ := ol8.form
      obtain ⟨pn8, cn8, rfl⟩ := on8.form
      have B8 := Lib.hid (B7.out.trans (hb8.mono B7.out.size))
      clear ol8 on8 hb8
      unfold msg0 Msg.v
      dsimp only
      go_wp2_with fail
      go_ret
      exact ⟨rfl, B8.out.alloc B8.out.size _⟩
    · have he : (msgE m != 0) = true := by simpa using hE
      rw [wr_no hE] at ho3
      generalize msgE m = E at *
      obtain ⟨p3, c3, rfl⟩ := ho3.form
      clear hE ho3 hb3
      go_wp2_with fail
      go_ret
      exact ⟨rfl, B3.out⟩
  · have HF : Hid (decide (m.ls.length ≤ 1100 ∧ m.ns.length ≤ 20) = false) := decide_eq_false hf
    clear hf
    go_enter Try.func8, Try.ntmps8
    go_wp2_with fail
    refine (says_any _).mono ?_
    rintro z w1 ⟨rfl, hb1⟩
    have HK1 := Lib.hid ((Blk.new W #[.int .i64 m.k, .int .i64 m.s, .int .i64 m.n, .int .i64 m.b, .int .i64 m.c, .int .i64 m.r, .int .i64 m.y, .int .i64 m.a, .bool m.t, .slice pl m.ls.length cl, .slice pn m.ns.length cn] 28).below hb1 (Blk.new W #[.int .i64 m.k, .int .i64 m.s, .int .i64 m.n, .int .i64 m.b, .int .i64 m.c, .int .i64 m.r, .int .i64 m.y, .int .i64 m.a, .bool m.t, .slice pl m.ls.length cl, .slice pn m.ns.length cn] 28).lt)
    have B1 := Lib.hid ((oneB W (.cells #[.int .i64 m.k, .int .i64 m.s, .int .i64 m.n, .int .i64 m.b, .int .i64 m.c, .int .i64 m.r, .int .i64 m.y, .int .i64 m.a, .bool m.t, .slice pl m.ls.length cl, .slice pn m.ns.length cn] 28)).trans (hb1.mono (oneB W (.cells #[.int .i64 m.k, .int .i64 m.s, .int .i64 m.n, .int .i64 m.b, .int .i64 m.c, .int .i64 m.r, .int .i64 m.y, .int .i64 m.a, .bool m.t, .slice pl m.ls.length cl, .slice pn m.ns.length cn] 28)).size))
    clear hb1
    have hk1 := HK1.out
    have c0 : w1.cell? ⟨W.heap.size, 0, none⟩ = some (.int .i64 m.k) := hk1.cell 0
    have c1 : w1.cell? ⟨W.heap.size, 1, none⟩ = some (.int .i64 m.s) := hk1.cell 1
    have c2 : w1.cell? ⟨W.heap.size, 2, none⟩ = some (.int .i64 m.n) := hk1.cell 2
    have c3 : w1.cell? ⟨W.heap.size, 3, none⟩ = some (.int .i64 m.b) := hk1.cell 3
    have c4 : w1.cell? ⟨W.heap.size, 4, none⟩ = some (.int .i64 m.c) := hk1.cell 4
    have c5 : w1.cell? ⟨W.heap.size, 5, none⟩ = some (.int .i64 m.r) := hk1.cell 5
    have c6 : w1.cell? ⟨W.heap.size, 6, none⟩ = some (.int .i64 m.y) := hk1.cell 6
    have c7 : w1.cell? ⟨W.heap.size, 7, none⟩ = some (.int .i64 m.a) := hk1.cell 7
    have c8 : w1.cell? ⟨W.heap.size, 8, none⟩ = some (.bool m.t) := hk1.cell 8
    have c9 : w1.cell? ⟨W.heap.size, 9, none⟩ = some (.slice pl m.ls.length cl) := hk1.cell 9
    have c10 : w1.cell? ⟨W.heap.size, 10, none⟩ = some (.slice pn m.ns.length cn) := hk1.cell 10
    clear hk1
    go_wp2_with fail
    refine (fits_any ⟨m, pl, cl, pn, cn⟩ _).mono ?_
    rintro z w2 ⟨rfl, hb2⟩
    dsimp only
    have HK2 := Lib.hid (HK1.out.below hb2 HK1.out.lt)
    have B2 := Lib.hid (B1.out.trans (hb2.mono B1.out.size))
    clear hb2 HK1 c0 c1 c2 c3 c4 c5 c6 c7 c8 c9 c10
    rw [HF.out]
    go_wp2_with fail
    go_ret
    exact ⟨rfl, B2.out⟩
end Go.Proofs.Ytengkgpobckhjaa
