/- MsgOwn: the walk. -/
import Derived.Test.YtengkgpobckhjaaLawMsgShort
import Derived.Test.YtengkgpobckhjaaMsgSame
namespace Go.Proofs.Ytengkgpobckhjaa
open Go.RowKit
set_option linter.unusedSimpArgs false
/-- Bytes that are bumped: their block alone changes. -/
def MBump (w1 : World) (base g n c : Nat) (wr : World) : Prop := (∃ zs, Oct zs ∧ zs.length = n ∧ Own .u8 wr base 5 (.slice (some ⟨g, 0, none⟩) n c) zs) ∧ Chg g w1 wr
theorem bump_set {w1 : World} {base g n c : Nat} {wr : World} {zs : List Int} (ho : Oct zs) (hl : zs.length = n) (h : Own .u8 wr base 5 (.slice (some ⟨g, 0, none⟩) n c) zs) (hc : Chg g w1 wr) (k : Nat) : MBump w1 base g n c (wr.setCell ⟨g, k, none⟩ (.int .u8 ((zs.getD k 0 + 1) % 256))) := by
  refine ⟨⟨zs.set k ((zs.getD k 0 + 1) % 256), ?_, by rw [List.length_set, hl], h.set k _⟩, hc.set k _⟩
  intro a ha
  rcases List.mem_or_eq_of_mem_set ha with ha | rfl
  · exact ho a ha
  · omega
/-- Lines of which the amounts are bumped. -/
def LBump (w1 : World) (g n : Nat) (wr : World) : Prop := Chg g w1 wr ∧ (0 < n → ∃ cs ty, Blk wr g cs ty ∧ ∀ j, j < n → ∃ z, cs[j * 4 + 3]? = some (.int .i64 z))
theorem lbump_set {w1 wr : World} {g n : Nat} (h : LBump w1 g n wr) (k : Nat) (v : Int) : LBump w1 g n (wr.setCell ⟨g, k * 4 + 3, none⟩ (.int .i64 v)) := by
  refine ⟨h.1.set _ _, fun hn => ?_⟩
  obtain ⟨cs, ty, hb, hc⟩ := h.2 hn
  refine ⟨_, ty, hb.set (k * 4 + 3) (.int .i64 v), fun j hj => ?_⟩
  obtain ⟨z, hz⟩ := hc j hj
  by_cases hjk : j = k
  · subst hjk
    refine ⟨v, ?_⟩
    rw [Array.getElem?_setIfInBounds_self_of_lt (by
      rcases Nat.lt_or_ge (j * 4 + 3) cs.size with h | h
      · exact h
      · rw [Array.getElem?_eq_none h] at hz; cases hz)]
  · exact ⟨z, by rw [Array.getElem?_setIfInBounds_ne (by omega)]; exact hz⟩
theorem lbump_at {w1 wr : World} {g n : Nat} (h : LBump w1 g n wr) (k : Nat) (hk : k < n) : ∃ z, wr.cell? ⟨g, k * 4 + 3, none⟩ = some (.int .i64 z) ∧ wr.frozen? ⟨g, k * 4 + 3, none⟩ = false := by
  obtain ⟨cs, ty, hb, hc⟩ := h.2 (by omega)
  obtain ⟨z, hz⟩ := hc k hk
  exact ⟨z, (hb.cell _).trans hz, hb.free _⟩
theorem lbump_start {w : World} {base n c : Nat} {p : Option Addr} {xs : List Lin} (h : OwnT encN w base 53 (.slice p n c) xs) (hl : xs.length = n) (gn : Nat) (hgn : base ≤ gn) (hne : ∀ g, (Value.slice p n c).ownBlock = some g → g ≠ gn) : ∃ g, base ≤ g ∧ g ≠ gn ∧ (0 < n → p = some ⟨g, 0, none⟩) ∧ LBump w g n w := by
  by_cases hn : 0 < n
  · obtain ⟨g, cur, rfl, hb, hB, _⟩ := h.lies hn
    refine ⟨g, hb, hne g rfl, fun _ => rfl, Chg.refl _ _, fun _ => ⟨cur, _, hB, fun j hj => ?_⟩⟩
    obtain ⟨b', o', e', _, hx⟩ := h.row.at_ j (by omega)
    cases e'
    have := hx 3 (by decide)
    rw [Nat.zero_add] at this
    exact ⟨xs[j].a, (hB.cell _).symm.trans this⟩
  · exact ⟨gn + 1, by omega, by omega, fun h => absurd h hn, Chg.refl _ _, fun h => absurd h hn⟩
set_option maxHeartbeats 4000000 in
set_option maxRecDepth 100000 in
theorem mown_walk (x : MsgX) (W : World) (hx : x.In W) :
    Calls Try.prog 7 #[x.m.v x.vl x.vn] W fun e w' => e = .returned (.bool true) ∧ Below W.heap.size W w' := by
  obtain ⟨m, pl, cl, pn, cn⟩ := x
  have HX := Lib.hid hx
  clear hx
  unfold Msg.v MsgX.vl MsgX.vn
  dsimp only
  obtain ⟨nl, hnl⟩ : ∃ nl, nl = m.ls.length := ⟨_, rfl⟩
  obtain ⟨nn, hnn⟩ : ∃ nn, nn = m.ns.length := ⟨_, rfl⟩
  rw [← hnl, ← hnn]
  have HNL := Lib.hid hnl
  have HNN := Lib.hid hnn
  have HXL : Hid (TRow encN W (.slice pl nl cl) m.ls) := by show TRow _ _ _ _; rw [hnl]; exact HX.out.ls
  have HXN : Hid (Row .i64 W (.slice pn nn cn) m.ns) := by show Row _ _ _ _; rw [hnn]; exact HX.out.ns
  clear hnl hnn
  by_cases h1 : 50 < nl
  · have h1' : (50 : Int) < (nl : Int) := by omega
    go_enter Try.func7, Try.ntmps7
    go_wp2_with fail
    refine (says_any _).mono ?_
    rintro z w1 ⟨rfl, hb1⟩
    have HK1 := Lib.hid ((Blk.new W #[.int .i64 m.k, .int .i64 m.s, .int .i64 m.n, .int .i64 m.b, .int .i64 m.c, .int .i64 m.r, .int .i64 m.y, .int .i64 m.a, .bool m.t, .slice pl nl cl, .slice pn nn cn] 28).below hb1 (Blk.new W #[.int .i64 m.k, .int .i64 m.s, .int .i64 m.n, .int .i64 m.b, .int .i64 m.c, .int .i64 m.r, .int .i64 m.y, .int .i64 m.a, .bool m.t, .slice pl nl cl, .slice pn nn cn] 28).lt)
    have B1 := Lib.hid ((oneB W (.cells #[.int .i64 m.k, .int .i64 m.s, .int .i64 m.n, .int .i64 m.b, .int .i64 m.c, .int .i64 m.r, .int .i64 m.y, .int .i64 m.a, .bool m.t, .slice pl nl cl, .slice pn nn cn] 28)).trans (hb1.mono (oneB W (.cells #[.int .i64 m.k, .int .i64 m.s, .int .i64 m.n, .int .i64 m.b, .int .i64 m.c, .int .i64 m.r, .int .i64 m.y, .int .i64 m.a, .bool m.t, .slice pl nl cl, .slice pn nn cn] 28)).size))
    clear hb1
    have hk1 := HK1.out
    have c0 : w1.cell? ⟨W.heap.size, 0, none⟩ = some (.int .i64 m.k) := hk1.cell 0
    have c1 : w1.cell? ⟨W.heap.size, 1, none⟩ = some (.int .i64 m.s) := hk1.cell 1
    have c2 : w1.cell? ⟨W.heap.size, 2, none⟩ = some (.int .i64 m.n) := hk1.cell 2
    have c3 : w1.cell? ⟨W.heap.size, 3, none⟩ = some (.int .i64 m.b) := hk1.cell 3
    have c4 : w1.cell? ⟨W.heap.size, 4, none⟩ = some (.int .i64 m.c) := hk1.cell 4
    have c5 : w1.cell? ⟨W.heap.size, 5, none⟩ = some (.int .i64 m.r) := hk1.cell 5
    have c6 : w1.cell? ⟨W.heap.size, 6, none⟩ = some (.int .i64 m.y) := hk1.cell 6
    have c7 : w1.cell? ⟨W.heap.size, 7, none⟩ = some (.int .i64 m.a) := hk1.cell 7
    have c8 : w1.cell? ⟨W.heap.size, 8, none⟩ = some (.bool m.t) := hk1.cell 8
    have c9 : w1.cell? ⟨W.heap.size, 9, none⟩ = some (.slice pl nl cl) := hk1.cell 9
    have c10 : w1.cell? ⟨W.heap.size, 10, none⟩ = some (.slice pn nn cn) := hk1.cell 10
    clear hk1
    go_wp2_with fail
    go_ret
    exact ⟨rfl, B1.out⟩
  have h1' : ¬ (50 : Int) < (nl : Int) := by omega
  by_cases h2 : 8 < nn
  · have h2' : (8 : Int) < (nn : Int) := by omega
    go_enter Try.func7, Try.ntmps7
    go_wp2_with fail
    refine (says_any _).mono ?_
    rintro z w1 ⟨rfl, hb1⟩
    have HK1 := Lib.hid ((Blk.new W #[.int .i64 m.k, .int .i64 m.s, .int .i64 m.n, .int .i64 m.b, .int .i64 m.c, .int .i64 m.r, .int .i64 m.y, .int .i64 m.a, .bool m.t, .slice pl nl cl, .slice pn nn cn] 28).below hb1 (Blk.new W #[.int .i64 m.k, .int .i64 m.s, .int .i64 m.n, .int .i64 m.b, .int .i64 m.c, .int .i64 m.r, .int .i64 m.y, .int .i64 m.a, .bool m.t, .slice pl nl cl, .slice pn nn cn] 28).lt)
    have B1 := Lib.hid ((oneB W (.cells #[.int .i64 m.k, .int .i64 m.s, .int .i64 m.n, .int .i64 m.b, .int .i64 m.c, .int .i64 m.r, .int .i64 m.y, .int .i64 m.a, .bool m.t, .slice pl nl cl, .slice pn nn cn] 28)).trans (hb1.mono (oneB W (.cells #[.int .i64 m.k, .int .i64 m.s, .int .i64 m.n, .int .i64 m.b, .int .i64 m.c, .int .i64 m.r, .int .i64 m.y, .int .i64 m.a, .bool m.t, .slice pl nl cl, .slice pn nn cn] 28)).size))
    clear hb1
    have hk1 := HK1.out
    have c0 : w1.cell? ⟨W.heap.size, 0, none⟩ = some (.int .i64 m.k) := hk1.cell 0
    have c1 : w1.cell? ⟨W.heap.size, 1, none⟩ = some (.int .i64 m.s) := hk1.cell 1
    have c2 : w1.cell? ⟨W.heap.size, 2, none⟩ = some (.int .i64 m.n) := hk1.cell 2
    have c3 : w1.cell? ⟨W.heap.size, 3, none⟩ = some (.int .i64 m.b) := hk1.cell 3
    have c4 : w1.cell? ⟨W.heap.size, 4, none⟩ = some (.int .i64 m.c) := hk1.cell 4
    have c5 : w1.cell? ⟨W.heap.size, 5, none⟩ = some (.int .i64 m.r) := hk1.cell 5
    have c6 : w1.cell? ⟨W.heap.size, 6, none⟩ = some (.int .i64 m.y) := hk1.cell 6
    have c7 : w1.cell? ⟨W.heap.size, 7, none⟩ = some (.int .i64 m.a) := hk1.cell 7
    have c8 : w1.cell? ⟨W.heap.size, 8, none⟩ = some (.bool m.t) := hk1.cell 8
    have c9 : w1.cell? ⟨W.heap.size, 9, none⟩ = some (.slice pl nl cl) := hk1.cell 9
    have c10 : w1.cell? ⟨W.heap.size, 10, none⟩ = some (.slice pn nn cn) := hk1.cell 10
    clear hk1
    go_wp2_with fail
    go_ret
    exact ⟨rfl, B1.out⟩
  have h2' : ¬ (8 : Int) < (nn : Int) := by omega
  have H1 := Lib.hid h1
  have H2 := Lib.hid h2
  clear h1 h2
  go_enter Try.func7, Try.ntmps7
  go_wp2_with fail
  refine (says_any _).mono ?_
  rintro z w1 ⟨rfl, hb1⟩
  have HK1 := Lib.hid ((Blk.new W #[.int .i64 m.k, .int .i64 m.s, .int .i64 m.n, .int .i64 m.b, .int .i64 m.c, .int .i64 m.r, .int .i64 m.y, .int .i64 m.a, .bool m.t, .slice pl nl cl, .slice pn nn cn] 28).below hb1 (Blk.new W #[.int .i64 m.k, .int .i64 m.s, .int .i64 m.n, .int .i64 m.b, .int .i64 m.c, .int .i64 m.r, .int .i64 m.y, .int .i64 m.a, .bool m.t, .slice pl nl cl, .slice pn nn cn] 28).lt)
  have B1 := Lib.hid ((oneB W (.cells #[.int .i64 m.k, .int .i64 m.s, .int .i64 m.n, .int .i64 m.b, .int .i64 m.c, .int .i64 m.r, .int .i64 m.y, .int .i64 m.a, .bool m.t, .slice pl nl cl, .slice pn nn cn] 28)).trans (hb1.mono (oneB W (.cells #[.int .i64 m.k, .int .i64 m.s, .int .i64 m.n, .int .i64 m.b, .int .i64 m.c, .int .i64 m.r, .int .i64 m.y, .int .i64 m.a, .bool m.t, .slice pl nl cl, .slice pn nn cn] 28)).size))
  clear hb1
  have hk1 := HK1.out
  have c0 : w1.cell? ⟨W.heap.size, 0, none⟩ = some (.int .i64 m.k) := hk1.cell 0
  have c1 : w1.cell? ⟨W.heap.size, 1, none⟩ = some (.int .i64 m.s) := hk1.cell 1
  have c2 : w1.cell? ⟨W.heap.size, 2, none⟩ = some (.int .i64 m.n) := hk1.cell 2
  have c3 : w1.cell? ⟨W.heap.size, 3, none⟩ = some (.int .i64 m.b) := hk1.cell 3
  have c4 : w1.cell? ⟨W.heap.size, 4, none⟩ = some (.int .i64 m.c) := hk1.cell 4
  have c5 : w1.cell? ⟨W.heap.size, 5, none⟩ = some (.int .i64 m.r) := hk1.cell 5
  have c6 : w1.cell? ⟨W.heap.size, 6, none⟩ = some (.int .i64 m.y) := hk1.cell 6
  have c7 : w1.cell? ⟨W.heap.size, 7, none⟩ = some (.int .i64 m.a) := hk1.cell 7
  have c8 : w1.cell? ⟨W.heap.size, 8, none⟩ = some (.bool m.t) := hk1.cell 8
  have c9 : w1.cell? ⟨W.heap.size, 9, none⟩ = some (.slice pl nl cl) := hk1.cell 9
  have c10 : w1.cell? ⟨W.heap.size, 10, none⟩ = some (.slice pn nn cn) := hk1.cell 10
  clear hk1
  go_wp2_with fail
  clear h1' h2'
  refine (write_any _ [] m _ _ w1 (Row.nil_ _ _ 0) (HXL.out.kept B1.out) (HXN.out.kept B1.out) HX.out.fit (by simp) (by have := HNL.out; have := H1.out; omega) (by have := HNN.out; have := H2.out; omega)).mono ?_
  rintro z w3 ⟨v3, rfl, ho3, hb3⟩
  clear c0 c1 c2 c3 c4 c5 c6 c7 c8 c9 c10
  by_cases hE : msgE m = 0
  · rw [wr_ok hE] at ho3
    rw [hE]
    have HE := Lib.hid hE
    have HBK := Lib.hid (msgL_oct m)
    have HRW := Lib.hid (rE_w hE HX.out.fit)
    have HL := Lib.hid (msgL_len HX.out.fit (msgE_ok hE).2.1 (msgE_ok hE).2.2.1)
    have HP := Lib.hid (msgL_pos m)
    have HWR := Lib.hid (wr_ok hE)
    clear hE
    generalize msgL m = L at *
    obtain ⟨p3, c3, rfl⟩ := ho3.form
    generalize hn : L.length = n at *
    have HN := Lib.hid hn
    obtain ⟨g3, rfl, hgb, hgl, _⟩ := ho3.at_ (by have := HP.out; omega)
    have HG3 : Hid (w1.heap.size ≤ g3 ∧ g3 < w3.heap.size) := ⟨hgb, hgl⟩
    have HO3 := Lib.hid ho3
    have C3 := Lib.hid hb3
    clear ho3 hn hgb hgl hb3
    go_wp2_with fail
    refine (mread_any _ _ w3 HO3.out.row HBK.out (by rw [HN.out]; have := HL.out; omega)).mono ?_
    rintro z w4 ⟨vl4, vn4, rfl, ol4, on4, hb4⟩
    rw [HRW.out.2] at ol4 on4
    rw [HRW.out.1, HRW.out.2]
    obtain ⟨pl4, cl4, rfl⟩ := ol4.form
    obtain ⟨pn4, cn4, rfl⟩ := on4.form
    rw [← HNL.out] at ol4 ⊢
    rw [← HNN.out]
    unfold Msg.v
    have HO4 := Lib.hid (HO3.out.later hb4)
    have C4 := Lib.hid (C3.out.trans (hb4.mono C3.out.size))
    have HOL4 := Lib.hid ol4
    have HS4 := Lib.hid hb4.size
    clear ol4 on4 hb4
    have HK5 := Lib.hid (Blk.new w4 #[.int .i64 m.k, .int .i64 m.s, .int .i64 m.n, .int .i64 m.b, .int .i64 m.c, .int .i64 m.r, .int .i64 m.y, .int .i64 m.a, .bool m.t, .slice pl4 nl cl4, .slice pn4 nn cn4] 28)
    have D5 := Lib.hid (oneB w4 (.cells #[.int .i64 m.k, .int .i64 m.s, .int .i64 m.n, .int .i64 m.b, .int .i64 m.c, .int .i64 m.r, .int .i64 m.y, .int .i64 m.a, .bool m.t, .slice pl4 nl cl4, .slice pn4 nn cn4] 28))
    go_wp2_with fail
    generalize hw5 : w4.alloc (.cells #[.int .i64 m.k, .int .i64 m.s, .int .i64 m.n, .int .i64 m.b, .int .i64 m.c, .int .i64 m.r, .int .i64 m.y, .int .i64 m.a, .bool m.t, .slice pl4 nl cl4, .slice pn4 nn cn4] 28) = w5 at *
    clear hw5
    have HO5 := Lib.hid (HO4.out.later D5.out)
    have C5 := Lib.hid (C4.out.trans (D5.out.mono C4.out.size))
    have HOL5 := Lib.hid (HOL4.out.later D5.out)
    have HOLT := Lib.hid (HOL4.out.lt)
    have HSZ5 := Lib.hid D5.out.size
    clear HO3 HO4 HOL4 C3 C4 D5
    go_loopw [38] (fun v wr => ∃ k : Nat, k ≤ n ∧ v = .int .i64 k ∧ Hid (MBump w5 w1.heap.size g3 n c3 wr)) (fun v _ => n - (intOf v).toNat)
    case atStart => exact ⟨0, by omega, rfl, Lib.hid ⟨⟨L, HBK.out, HN.out, HO5.out⟩, Chg.refl _ _⟩⟩
    case round =>
      obtain ⟨k, hk, rfl, HK⟩ := hrel
      by_cases hlt : k < n
      · obtain ⟨⟨zs, hoz, hzl, hown⟩, hchg⟩ := HK.out
        obtain ⟨hcell, hfree⟩ := hown.cell k hlt
        have hoct := hoz.getD k
        have HST := Lib.hid (bump_set hoz hzl hown hchg k)
        have hkb : k + 1 ≤ 60000 := by have := HL.out; have := HN.out; omega
        clear HK hoz hzl hown hchg
        generalize zs.getD k 0 = x at *
        go_wp2_with fail
        go_roundw
        case rel => exact ⟨k + 1, by omega, by go_num, HST⟩
        case measure => simp [intOf]; omega
      · have hkq : (n : Int) ≤ (k : Int) := by omega
        have HCH := Lib.hid HK.out.2
        have HKN := Lib.hid (HK5.out.chg HCH.out (by have := HG3.out.2; have := HS4.out; omega))
        have HOL6 := Lib.hid (HOL5.out.stay (fun b hb => HCH.out.2 b (HOL5.out.lt b hb) (by have := HOL5.out.block_ge b hb; have := HG3.out.2; omega)))
        have C6 := Lib.hid (C5.out.trans (HCH.out.below HG3.out.1 C5.out.size))
        have hk6 := HKN.out.cell 9
        have h69 : wr.cell? ⟨w4.heap.size, 9, none⟩ = some (.slice pl4 nl cl4) := hk6
        clear hk6 HK
        go_wp2_with fail
        clear h69
        generalize wr = w6 at *
        obtain ⟨g5, hg5, hg5n, hg5p, hlb⟩ := lbump_start HOL6.out HNL.out.symm w4.heap.size HS4.out (fun b hb => by have := HOLT.out b hb; omega)
        have HG5 := Lib.hid hg5
        have HGN := Lib.hid hg5n
        have HGP := Lib.hid hg5p
        have HLB := Lib.hid hlb
        clear hg5 hg5n hg5p hlb
        go_loopw [51] (fun v wr => ∃ j : Nat, j ≤ nl ∧ v = .int .i64 j ∧ Hid (LBump w6 g5 nl wr)) (fun v _ => nl - (intOf v).toNat)
        case atStart => exact ⟨0, by omega, rfl, HLB⟩
        case round =>
          obtain ⟨j, hj, rfl, HK2⟩ := hrel
          by_cases hlt2 : j < nl
          · obtain ⟨z, hcell, hfree⟩ := lbump_at HK2.out j hlt2
            have hpl := HGP.out (by omega)
            have hb9 := HKN.out.chg HK2.out.1 (Ne.symm HGN.out)
            have h69 : wr.cell? ⟨w4.heap.size, 9, none⟩ = some (.slice pl4 nl cl4) := hb9.cell 9
            have HST := Lib.hid (fun v => lbump_set HK2.out j v)
            subst hpl
            have hjb : j + 1 ≤ 60 := by have := H1.out; omega
            clear hb9 HK2
            go_wp2_with fail
            go_roundw
            case rel => exact ⟨j + 1, by omega, by go_num, HST.out _⟩
            case measure => simp [intOf]; omega
          · have hkl : (nl : Int) ≤ (j : Int) := by omega
            have C7 := Lib.hid (C6.out.trans (HK2.out.1.below (by have := HG5.out; have := HG3.out; omega) C6.out.size))
            have hk7 := HK1.out.below C7.out HK1.out.lt
            have cc0 : wr.cell? ⟨W.heap.size, 0, none⟩ = some (.int .i64 m.k) := hk7.cell 0
            have cc1 : wr.cell? ⟨W.heap.size, 1, none⟩ = some (.int .i64 m.s) := hk7.cell 1
            have cc2 : wr.cell? ⟨W.heap.size, 2, none⟩ = some (.int .i64 m.n) := hk7.cell 2
            have cc3 : wr.cell? ⟨W.heap.size, 3, none⟩ = some (.int .i64 m.b) := hk7.cell 3
            have cc4 : wr.cell? ⟨W.heap.size, 4, none⟩ = some (.int .i64 m.c) := hk7.cell 4
            have cc5 : wr.cell? ⟨W.heap.size, 5, none⟩ = some (.int .i64 m.r) := hk7.cell 5
            have cc6 : wr.cell? ⟨W.heap.size, 6, none⟩ = some (.int .i64 m.y) := hk7.cell 6
            have cc7 : wr.cell? ⟨W.heap.size, 7, none⟩ = some (.int .i64 m.a) := hk7.cell 7
            have cc8 : wr.cell? ⟨W.heap.size, 8, none⟩ = some (.bool m.t) := hk7.cell 8
            have cc9 : wr.cell? ⟨W.heap.size, 9, none⟩ = some (.slice pl nl cl) := hk7.cell 9
            have cc10 : wr.cell? ⟨W.heap.size, 10, none⟩ = some (.slice pn nn cn) := hk7.cell 10
            clear hk7 HK2 HLB
            go_wp2_with fail
            refine (write_any _ [] m _ _ wr (Row.nil_ _ _ 0) ((HXL.out.kept B1.out).kept C7.out) ((HXN.out.kept B1.out).kept C7.out) HX.out.fit (by simp) (by have := HNL.out; have := H1.out; omega) (by have := HNN.out; have := H2.out; omega)).mono ?_
            rintro z w8 ⟨v8, rfl, ho8, hb8⟩
            rw [HWR.out] at ho8
            rw [HE.out]
            obtain ⟨p8, c8, rfl⟩ := ho8.form
            have HO8 := Lib.hid ho8.row
            have C8 := Lib.hid (C7.out.trans (hb8.mono C7.out.size))
            clear ho8 hb8 cc0 cc1 cc2 cc3 cc4 cc5 cc6 cc7 cc8 cc9 cc10
            rw [HN.out]
            go_wp2_with fail
            refine (mread_any _ _ w8 (HN.out ▸ HO8.out) HBK.out (by rw [HN.out]; have := HL.out; omega)).mono ?_
            rintro z w9 ⟨vl9, vn9, rfl, ol9, on9, hb9⟩
            rw [HRW.out.2] at ol9 on9
            rw [HRW.out.1, HRW.out.2]
            obtain ⟨pl9, cl9, rfl⟩ := ol9.form
            obtain ⟨pn9, cn9, rfl⟩ := on9.form
            rw [← HNL.out, ← HNN.out]
            unfold Msg.v
            have C9 := Lib.hid (C8.out.trans (hb9.mono C8.out.size))
            have hk9 := (HK1.out.below C9.out HK1.out.lt).alloc (.cells #[.int .i64 m.k, .int .i64 m.s, .int .i64 m.n, .int .i64 m.b, .int .i64 m.c, .int .i64 m.r, .int .i64 m.y, .int .i64 m.a, .bool m.t, .slice pl9 nl cl9, .slice pn9 nn cn9] 28)
            have HSA := Lib.hid (fun w' (h : Below w9.heap.size w9 w') => msame_any m _ _ _ _ w' (ol9.row.kept h) (on9.row.kept h) (((HXL.out.kept B1.out).kept C9.out).kept h) (((HXN.out.kept B1.out).kept C9.out).kept h) (by have := HNL.out; have := H1.out; omega) (by have := HNN.out; have := H2.out; omega))
            rw [← HNL.out, ← HNN.out] at HSA
            unfold Msg.v at HSA
            have cc0 : (w9.alloc (.cells #[.int .i64 m.k, .int .i64 m.s, .int .i64 m.n, .int .i64 m.b, .int .i64 m.c, .int .i64 m.r, .int .i64 m.y, .int .i64 m.a, .bool m.t, .slice pl9 nl cl9, .slice pn9 nn cn9] 28)).cell? ⟨W.heap.size, 0, none⟩ = some (.int .i64 m.k) := hk9.cell 0
            have cc1 : (w9.alloc (.cells #[.int .i64 m.k, .int .i64 m.s, .int .i64 m.n, .int .i64 m.b, .int .i64 m.c, .int .i64 m.r, .int .i64 m.y, .int .i64 m.a, .bool m.t, .slice pl9 nl cl9, .slice pn9 nn cn9] 28)).cell? ⟨W.heap.size, 1, none⟩ = some (.int .i64 m.s) := hk9.cell 1
            have cc2 : (w9.alloc (.cells #[.int .i64 m.k, .int .i64 m.s, .int .i64 m.n, .int .i64 m.b, .int .i64 m.c, .int .i64 m.r, .int .i64 m.y, .int .i64 m.a, .bool m.t, .slice pl9 nl cl9, .slice pn9 nn cn9] 28)).cell? ⟨W.heap.size, 2, none⟩ = some (.int .i64 m.n) := hk9.cell 2
            have cc3 : (w9.alloc (.cells #[.int .i64 m.k, .int .i64 m.s, .int .i64 m.n, .int .i64 m.b, .int .i64 m.c, .int .i64 m.r, .int .i64 m.y, .int .i64 m.a, .bool m.t, .slice pl9 nl cl9, .slice pn9 nn cn9] 28)).cell? ⟨W.heap.size, 3, none⟩ = some (.int .i64 m.b) := hk9.cell 3
            have cc4 : (w9.alloc (.cells #[.int .i64 m.k, .int .i64 m.s, .int .i64 m.n, .int .i64 m.b, .int .i64 m.c, .int .i64 m.r, .int .i64 m.y, .int .i64 m.a, .bool m.t, .slice pl9 nl cl9, .slice pn9 nn cn9] 28)).cell? ⟨W.heap.size, 4, none⟩ = some (.int .i64 m.c) := hk9.cell 4
            have cc5 : (w9.alloc (.cells #[.int .i64 m.k, .int .i64 m.s, .int .i64 m.n, .int .i64 m.b, .int .i64 m.c, .int .i64 m.r, .int .i64 m.y, .int .i64 m.a, .bool m.t, .slice pl9 nl cl9, .slice pn9 nn cn9] 28)).cell? ⟨W.heap.size, 5, none⟩ = some (.int .i64 m.r) := hk9.cell 5
            have cc6 : (w9.alloc (.cells #[.int .i64 m.k, .int .i64 m.s, .int .i64 m.n, .int .i64 m.b, .int .i64 m.c, .int .i64 m.r, .int .i64 m.y, .int .i64 m.a, .bool m.t, .slice pl9 nl cl9, .slice pn9 nn cn9] 28)).cell? ⟨W.heap.size, 6, none⟩ = some (.int .i64 m.y) := hk9.cell 6
            have cc7 : (w9.alloc (.cells #[.int .i64 m.k, .int .i64 m.s, .int .i64 m.n, .int .i64 m.b, .int .i64 m.c, .int .i64 m.r, .int .i64 m.y, .int .i64 m.a, .bool m.t, .slice pl9 nl cl9, .slice pn9 nn cn9] 28)).cell? ⟨W.heap.size, 7, none⟩ = some (.int .i64 m.a) := hk9.cell 7
            have cc8 : (w9.alloc (.cells #[.int .i64 m.k, .int .i64 m.s, .int .i64 m.n, .int .i64 m.b, .int .i64 m.c, .int .i64 m.r, .int .i64 m.y, .int .i64 m.a, .bool m.t, .slice pl9 nl cl9, .slice pn9 nn cn9] 28)).cell? ⟨W.heap.size, 8, none⟩ = some (.bool m.t) := hk9.cell 8
            have cc9 : (w9.alloc (.cells #[.int .i64 m.k, .int .i64 m.s, .int .i64 m.n, .int .i64 m.b, .int .i64 m.c, .int .i64 m.r, .int .i64 m.y, .int .i64 m.a, .bool m.t, .slice pl9 nl cl9, .slice pn9 nn cn9] 28)).cell? ⟨W.heap.size, 9, none⟩ = some (.slice pl nl cl) := hk9.cell 9
            have cc10 : (w9.alloc (.cells #[.int .i64 m.k, .int .i64 m.s, .int .i64 m.n, .int .i64 m.b, .int .i64 m.c, .int .i64 m.r, .int .i64 m.y, .int .i64 m.a, .bool m.t, .slice pl9 nl cl9, .slice pn9 nn cn9] 28)).cell? ⟨W.heap.size, 10, none⟩ = some (.slice pn nn cn) := hk9.cell 10
            clear hk9 hb9 ol9 on9
            go_wp2_with fail
            refine (HSA.out _ (oneB _ _)).mono ?_
            rintro z w10 ⟨rfl, hb10⟩
            have B10 := Lib.hid (B1.out.trans ((C9.out.trans ((oneB w9 _).mono C9.out.size)).trans (hb10.mono (Nat.le_trans C9.out.size (oneB w9 _).size)) |>.mono B1.out.size))
            clear hb10
            go_wp2_with fail
            go_ret
            exact ⟨rfl, B10.out⟩
  · have he : (msgE m != 0) = true := by simpa using hE
    rw [wr_no hE] at ho3
    generalize msgE m = E at *
    obtain ⟨p3, c3, rfl⟩ := ho3.form
    have B3 := Lib.hid (B1.out.trans (hb3.mono B1.out.size))
    clear hE ho3 hb3
    go_wp2_with fail
    go_ret
    exact ⟨rfl, B3.out⟩
end Go.Proofs.Ytengkgpobckhjaa
