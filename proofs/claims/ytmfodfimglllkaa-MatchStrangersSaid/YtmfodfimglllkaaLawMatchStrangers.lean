/- MatchStrangers: its walk. -/
import Derived.Test.YtmfodfimglllkaaMatchDo
namespace Go.Proofs.Ytmfodfimglllkaa
open Go.RowKit
set_option linter.unusedSimpArgs false
theorem beh_bad {d : Dsk} {r : Itm × Int} {ks : List Int} (h : r.2 ≠ 0) : d.beh r ks = (d, [], r.2) := by
  unfold Dsk.beh
  rw [if_neg h]
/-- Who isn't the other party of an item can't do anything to it. -/
theorem strange {d : Dsk} {m : Msg} {fro : Int} {q : Itm} (h0 : fro ≠ -1) (hq : findX d.xs m.s m.n = some q) (hs : q.s ≠ fro) (hb : q.b ≠ fro) : ∃ e, e ≠ 0 ∧ doM d m fro = (d, [], e) := by
  have hms : m.s ≠ fro := by
    have := (findX_mem hq).2.1
    omega
  have hbet : ∀ r, betwA d m.s m.n r d.me fro = (q, 140) := by
    intro r
    unfold betwA
    rw [hq]
    dsimp only
    rw [if_pos (.inr hb)]
  have hbet2 : ∀ r, betwA d m.s m.n r fro d.me = (q, 140) := by
    intro r
    unfold betwA
    rw [hq]
    dsimp only
    rw [if_pos (.inl hs)]
  have hth : ∀ f, thenA (q, 140) f = (q, 140) := fun f => rfl
  unfold doM nodeM
  rw [if_neg h0]
  split
  · unfold proI
    by_cases hc : chkI (itemM m) = 0
    · rw [if_neg (fun h => h hc), if_pos (.inl hms), beh_bad (show (140 : Int) ≠ 0 by decide)]
      exact ⟨140, by decide, rfl⟩
    · rw [if_pos hc, beh_bad hc]
      exact ⟨_, hc, rfl⟩
  · split
    · rw [hbet, hth, beh_bad (show (140 : Int) ≠ 0 by decide)]
      exact ⟨140, by decide, rfl⟩
    · split
      · have hd : dispI d m fro = (q, 140) := by unfold dispI; rw [hbet, hth]
        rw [hd]
        have hr : dispR (q, 140) = (q, 140) := rfl
        rw [hr, beh_bad (show (140 : Int) ≠ 0 by decide)]
        exact ⟨140, by decide, rfl⟩
      · split
        · rw [hbet2, hth, beh_bad (show (140 : Int) ≠ 0 by decide)]
          exact ⟨140, by decide, rfl⟩
        · exact ⟨110, by decide, rfl⟩
set_option linter.unusedSimpArgs false in
set_option maxHeartbeats 4000000 in
set_option maxRecDepth 100000 in
theorem strangers_walk (p : Option Addr) (n c : Nat) (ws : List SdX) (y : SdX) (w : World) (hx : TRow encS w (.slice p n c) ws) : Calls Try.prog 8 #[.slice p n c, .agg y.cells.toArray] w fun e w' => e = .returned (.bool true) ∧ Below w.heap.size w w' := by
  have HMA := Lib.hid (fun W => matches_any W)
  have HDA := Lib.hid (fun W => desk_any W 0 10 (by decide))
  have HX := Lib.hid hx
  have HN := Lib.hid (hx.shape)
  have hln : n = ws.length := by
    obtain ⟨p', c', e1⟩ := hx.shape
    exact (Value.slice.inj e1).2.1
  clear HN
  rw [show y.cells.toArray = #[.int .i64 y.tw, .int .i64 y.x.m.k, .int .i64 y.x.m.s, .int .i64 y.x.m.n, .int .i64 y.x.m.b, .int .i64 y.x.m.c, .int .i64 y.x.m.r, .int .i64 y.x.m.y, .int .i64 y.x.m.a, .bool y.x.m.t, .slice y.x.pl y.x.m.ls.length y.x.cl, .slice y.x.pn y.x.m.ns.length y.x.cn] from rfl]
  have HWB : Hid (Blk (w.alloc (.cells #[.int .i64 y.tw, .int .i64 y.x.m.k, .int .i64 y.x.m.s, .int .i64 y.x.m.n, .int .i64 y.x.m.b, .int .i64 y.x.m.c, .int .i64 y.x.m.r, .int .i64 y.x.m.y, .int .i64 y.x.m.a, .bool y.x.m.t, .slice y.x.pl y.x.m.ls.length y.x.cl, .slice y.x.pn y.x.m.ns.length y.x.cn] 42)) w.heap.size #[.int .i64 y.tw, .int .i64 y.x.m.k, .int .i64 y.x.m.s, .int .i64 y.x.m.n, .int .i64 y.x.m.b, .int .i64 y.x.m.c, .int .i64 y.x.m.r, .int .i64 y.x.m.y, .int .i64 y.x.m.a, .bool y.x.m.t, .slice y.x.pl y.x.m.ls.length y.x.cl, .slice y.x.pn y.x.m.ns.length y.x.cn] 42) := Blk.new w _ _
  have HBM := Lib.hid (oneB w (.cells #[.int .i64 y.tw, .int .i64 y.x.m.k, .int .i64 y.x.m.s, .int .i64 y.x.m.n, .int .i64 y.x.m.b, .int .i64 y.x.m.c, .int .i64 y.x.m.r, .int .i64 y.x.m.y, .int .i64 y.x.m.a, .bool y.x.m.t, .slice y.x.pl y.x.m.ls.length y.x.cl, .slice y.x.pn y.x.m.ns.length y.x.cn] 42))
  have HXA := Lib.hid (hx.kept (oneB w (.cells #[.int .i64 y.tw, .int .i64 y.x.m.k, .int .i64 y.x.m.s, .int .i64 y.x.m.n, .int .i64 y.x.m.b, .int .i64 y.x.m.c, .int .i64 y.x.m.r, .int .i64 y.x.m.y, .int .i64 y.x.m.a, .bool y.x.m.t, .slice y.x.pl y.x.m.ls.length y.x.cl, .slice y.x.pn y.x.m.ns.length y.x.cn] 42)))
  clear hx
  go_enter Try.func8, Try.ntmps8
  go_upto_region 1 with fail
  generalize w.alloc (.cells #[.int .i64 y.tw, .int .i64 y.x.m.k, .int .i64 y.x.m.s, .int .i64 y.x.m.n, .int .i64 y.x.m.b, .int .i64 y.x.m.c, .int .i64 y.x.m.r, .int .i64 y.x.m.y, .int .i64 y.x.m.a, .bool y.x.m.t, .slice y.x.pl y.x.m.ls.length y.x.cl, .slice y.x.pn y.x.m.ns.length y.x.cn] 42) = wB at *
  go_wp2_with fail
  refine (HMA.out _).mono ?_
  rintro y w0 ⟨rfl, hb⟩
  have HW0 := Lib.hid (HWB.out.below hb HWB.out.lt)
  have HB00 := Lib.hid (HBM.out.trans (hb.mono HBM.out.size))
  clear hb HBM HWB HMA
  have z0 : w0.cell? ⟨w.heap.size, 0, none⟩ = some (.int .i64 y.tw) := HW0.out.cell 0
  by_cases hn40 : 40 < n
  · have hn40I : (40 : Int) < (n : Int) := by omega
    go_wp2_with fail
    go_ret
    exact ⟨rfl, HB00.out⟩
  have hn40I : ¬ (40 : Int) < (n : Int) := by omega
  by_cases hneg : y.tw < 0
  · go_wp2_with fail
    go_ret
    exact ⟨rfl, HB00.out⟩
  go_upto_region 5 with fail
  have HNEG : Hid (y.tw ≠ -1) := by show _ ≠ _; omega
  have HN40 : Hid (n ≤ 40) := by show _ ≤ _; omega
  clear z0
  generalize hD1 : decide ((40 : Int) < (n : Int)) = D1 at *
  generalize hD2 : decide (y.tw < 0) = D2 at *
  clear hD1 hD2 hn40I hneg hn40
  go_wp2_with fail
  refine (HDA.out _).mono ?_
  rintro y9 w1 ⟨rfl, hb⟩
  have Hw0 := Lib.hid (HW0.out.below hb HW0.out.lt)
  have HB0 := Lib.hid (HB00.out.trans (hb.mono HB00.out.size))
  have HZ0 : Hid (w.heap.size ≤ w1.heap.size) := Lib.hid HB0.out.size
  have n0 : Hid (w.heap.size < w1.heap.size) := Lib.hid Hw0.out.lt
  clear hb HB00 HW0 HDA
  have Hw1 := Lib.hid (Hw0.out.alloc (.cells #[.int .i64 0, .slice none 0 0, .slice none 0 0, .int .i64 10] 29))
  have Hd1 := Lib.hid (Blk.new w1 #[.int .i64 0, .slice none 0 0, .slice none 0 0, .int .i64 10] 29)
  have HB1 := Lib.hid (HB0.out.alloc HB0.out.size (.cells #[.int .i64 0, .slice none 0 0, .slice none 0 0, .int .i64 10] 29))
  have HZ1 : Hid (w.heap.size ≤ (w1.alloc (.cells #[.int .i64 0, .slice none 0 0, .slice none 0 0, .int .i64 10] 29)).heap.size) := Lib.hid (Nat.le_trans HZ0.out (oneB w1 (.cells #[.int .i64 0, .slice none 0 0, .slice none 0 0, .int .i64 10] 29)).size)
  clear Hw0 HB0 HZ0
  go_upto_region 6 with fail
  generalize (w1.alloc (.cells #[.int .i64 0, .slice none 0 0, .slice none 0 0, .int .i64 10] 29)) = wA at *
  generalize hggd : w1.heap.size = gd at *
  obtain ⟨B, hB⟩ : ∃ B, B = wA.heap.size := ⟨_, rfl⟩
  have n3 : gd < B := by rw [hB]; exact Hd1.out.lt
  have NG : Hid (w.heap.size < gd ∧ gd < B) := ⟨n0.out, n3⟩
  clear HZ1
  have HZ1 : Hid (B ≤ wA.heap.size) := Lib.hid (Nat.le_of_eq hB)
  clear hB n0 n3
  have Kd1 := Lib.hid (dkR0 (fun b => B ≤ b) wA 0 10 (by decide) (by unfold Fits; omega))
  have HXW := Lib.hid HX
  clear HXW
  go_wp2_with fail
  go_loopw [32] (fun i wr => ∃ (k : Nat) (d : Dsk) (pi : Option Addr) (ci : Nat) (po : Option Addr) (co : Nat), k ≤ n ∧ i = .int .i64 k ∧ Hid (d.me = 0 ∧ d.xs.length ≤ k ∧ d.os.length ≤ k) ∧ Hid (Blk wr gd #[.int .i64 d.me, .slice pi d.xs.length ci, .slice po d.os.length co, .int .i64 d.far] 29) ∧ Hid (DkR (fun b => B ≤ b) wr d pi ci po co) ∧ Hid (Blk wr w.heap.size #[.int .i64 y.tw, .int .i64 y.x.m.k, .int .i64 y.x.m.s, .int .i64 y.x.m.n, .int .i64 y.x.m.b, .int .i64 y.x.m.c, .int .i64 y.x.m.r, .int .i64 y.x.m.y, .int .i64 y.x.m.a, .bool y.x.m.t, .slice y.x.pl y.x.m.ls.length y.x.cl, .slice y.x.pn y.x.m.ns.length y.x.cn] 42) ∧ Hid (Below w.heap.size w wr) ∧ Hid (B ≤ wr.heap.size)) (fun i _ => n - (intOf i).toNat)
  case atStart => exact ⟨0, dsk0 0 10, none, 0, none, 0, by omega, rfl, ⟨rfl, Nat.le_refl _, Nat.le_refl _⟩, Hd1, Kd1, Hw1, HB1, HZ1⟩
  case round =>
    obtain ⟨k, d, pi, ci, po, co, hk, rfl, HL, Hd90, Kd90, Hw90, HB90, HZ90⟩ := hrel
    clear Hd1 Kd1 Hw1 HB1 HZ1
    by_cases hlt : k < n
    · skip
      have hltI : (k : Int) < (n : Int) := by omega
      have hkw : k < ws.length := by omega
      obtain ⟨b, o, rfl, hbl, hcs⟩ := (HX.out.kept HB90.out).at_ k hkw
      generalize ws[k] = x at *
      have c0 : wr.cell? ⟨b, o + k * 12, none⟩ = some (.int .i64 x.tw) := hcs 0 (by decide)
      have c1 : wr.cell? ⟨b, o + k * 12 + 1, none⟩ = some (.int .i64 x.x.m.k) := hcs 1 (by decide)
      have c2 : wr.cell? ⟨b, o + k * 12 + 2, none⟩ = some (.int .i64 x.x.m.s) := hcs 2 (by decide)
      have c3 : wr.cell? ⟨b, o + k * 12 + 3, none⟩ = some (.int .i64 x.x.m.n) := hcs 3 (by decide)
      have c4 : wr.cell? ⟨b, o + k * 12 + 4, none⟩ = some (.int .i64 x.x.m.b) := hcs 4 (by decide)
      have c5 : wr.cell? ⟨b, o + k * 12 + 5, none⟩ = some (.int .i64 x.x.m.c) := hcs 5 (by decide)
      have c6 : wr.cell? ⟨b, o + k * 12 + 6, none⟩ = some (.int .i64 x.x.m.r) := hcs 6 (by decide)
      have c7 : wr.cell? ⟨b, o + k * 12 + 7, none⟩ = some (.int .i64 x.x.m.y) := hcs 7 (by decide)
      have c8 : wr.cell? ⟨b, o + k * 12 + 8, none⟩ = some (.int .i64 x.x.m.a) := hcs 8 (by decide)
      have c9 : wr.cell? ⟨b, o + k * 12 + 9, none⟩ = some (.bool x.x.m.t) := hcs 9 (by decide)
      have c10 : wr.cell? ⟨b, o + k * 12 + 10, none⟩ = some (.slice x.x.pl x.x.m.ls.length x.x.cl) := hcs 10 (by decide)
      have c11 : wr.cell? ⟨b, o + k * 12 + 11, none⟩ = some (.slice x.x.pn x.x.m.ns.length x.x.cn) := hcs 11 (by decide)
      clear hcs hbl
      have HK40 : Hid (k < 40 ∧ k + 1 ≤ n) := ⟨by have := HN40.out; omega, by omega⟩
      have Hw91 := Lib.hid (Hw90.out.alloc (.cells #[.int .i64 x.tw, .int .i64 x.x.m.k, .int .i64 x.x.m.s, .int .i64 x.x.m.n, .int .i64 x.x.m.b, .int .i64 x.x.m.c, .int .i64 x.x.m.r, .int .i64 x.x.m.y, .int .i64 x.x.m.a, .bool x.x.m.t, .slice x.x.pl x.x.m.ls.length x.x.cl, .slice x.x.pn x.x.m.ns.length x.x.cn] 42))
      have Hd91 := Lib.hid (Hd90.out.alloc (.cells #[.int .i64 x.tw, .int .i64 x.x.m.k, .int .i64 x.x.m.s, .int .i64 x.x.m.n, .int .i64 x.x.m.b, .int .i64 x.x.m.c, .int .i64 x.x.m.r, .int .i64 x.x.m.y, .int .i64 x.x.m.a, .bool x.x.m.t, .slice x.x.pl x.x.m.ls.length x.x.cl, .slice x.x.pn x.x.m.ns.length x.x.cn] 42))
      have Kd91 := Lib.hid (Kd90.out.kept (oneB wr (.cells #[.int .i64 x.tw, .int .i64 x.x.m.k, .int .i64 x.x.m.s, .int .i64 x.x.m.n, .int .i64 x.x.m.b, .int .i64 x.x.m.c, .int .i64 x.x.m.r, .int .i64 x.x.m.y, .int .i64 x.x.m.a, .bool x.x.m.t, .slice x.x.pl x.x.m.ls.length x.x.cl, .slice x.x.pn x.x.m.ns.length x.x.cn] 42)))
      have Hx91 := Lib.hid (Blk.new wr #[.int .i64 x.tw, .int .i64 x.x.m.k, .int .i64 x.x.m.s, .int .i64 x.x.m.n, .int .i64 x.x.m.b, .int .i64 x.x.m.c, .int .i64 x.x.m.r, .int .i64 x.x.m.y, .int .i64 x.x.m.a, .bool x.x.m.t, .slice x.x.pl x.x.m.ls.length x.x.cl, .slice x.x.pn x.x.m.ns.length x.x.cn] 42)
      have HB91 := Lib.hid (HB90.out.alloc HB90.out.size (.cells #[.int .i64 x.tw, .int .i64 x.x.m.k, .int .i64 x.x.m.s, .int .i64 x.x.m.n, .int .i64 x.x.m.b, .int .i64 x.x.m.c, .int .i64 x.x.m.r, .int .i64 x.x.m.y, .int .i64 x.x.m.a, .bool x.x.m.t, .slice x.x.pl x.x.m.ls.length x.x.cl, .slice x.x.pn x.x.m.ns.length x.x.cn] 42))
      have HZ91 : Hid (B ≤ (wr.alloc (.cells #[.int .i64 x.tw, .int .i64 x.x.m.k, .int .i64 x.x.m.s, .int .i64 x.x.m.n, .int .i64 x.x.m.b, .int .i64 x.x.m.c, .int .i64 x.x.m.r, .int .i64 x.x.m.y, .int .i64 x.x.m.a, .bool x.x.m.t, .slice x.x.pl x.x.m.ls.length x.x.cl, .slice x.x.pn x.x.m.ns.length x.x.cn] 42)).heap.size) := Lib.hid (Nat.le_trans HZ90.out (oneB wr (.cells #[.int .i64 x.tw, .int .i64 x.x.m.k, .int .i64 x.x.m.s, .int .i64 x.x.m.n, .int .i64 x.x.m.b, .int .i64 x.x.m.c, .int .i64 x.x.m.r, .int .i64 x.x.m.y, .int .i64 x.x.m.a, .bool x.x.m.t, .slice x.x.pl x.x.m.ls.length x.x.cl, .slice x.x.pn x.x.m.ns.length x.x.cn] 42)).size)
      clear Hw90 Hd90 Kd90 HB90 HZ90
      go_upto_region 9 with fail
      clear c0 c1 c2 c3 c4 c5 c6 c7 c8 c9 c10 c11
      generalize (wr.alloc (.cells #[.int .i64 x.tw, .int .i64 x.x.m.k, .int .i64 x.x.m.s, .int .i64 x.x.m.n, .int .i64 x.x.m.b, .int .i64 x.x.m.c, .int .i64 x.x.m.r, .int .i64 x.x.m.y, .int .i64 x.x.m.a, .bool x.x.m.t, .slice x.x.pl x.x.m.ls.length x.x.cl, .slice x.x.pn x.x.m.ns.length x.x.cn] 42)) = wX at *
      generalize hggx : wr.heap.size = gx at *
      obtain ⟨d2, out, e, hR⟩ : ∃ d2 out e, doM d x.x.m x.tw = (d2, out, e) := ⟨_, _, _, rfl⟩
      have HL2 : Hid (d2.me = 0 ∧ d2.xs.length ≤ k + 1 ∧ d2.os.length ≤ k + 1) := by
        have h1 := do_ok Kd91.out.ok x.x.m x.tw
        have h2 := do_len Kd91.out.row.sx Kd91.out.row.so x.x.m x.tw
        rw [hR] at h1 h2
        dsimp only at h1 h2
        have h3 := HL.out
        exact ⟨by rw [h1.2.1]; exact h3.1, by omega, by omega⟩
      have c0 : wX.cell? ⟨gx, 0, none⟩ = some (.int .i64 x.tw) := Hx91.out.cell 0
      have c1 : wX.cell? ⟨gx, 1, none⟩ = some (.int .i64 x.x.m.k) := Hx91.out.cell 1
      have c2 : wX.cell? ⟨gx, 2, none⟩ = some (.int .i64 x.x.m.s) := Hx91.out.cell 2
      have c3 : wX.cell? ⟨gx, 3, none⟩ = some (.int .i64 x.x.m.n) := Hx91.out.cell 3
      have c4 : wX.cell? ⟨gx, 4, none⟩ = some (.int .i64 x.x.m.b) := Hx91.out.cell 4
      have c5 : wX.cell? ⟨gx, 5, none⟩ = some (.int .i64 x.x.m.c) := Hx91.out.cell 5
      have c6 : wX.cell? ⟨gx, 6, none⟩ = some (.int .i64 x.x.m.r) := Hx91.out.cell 6
      have c7 : wX.cell? ⟨gx, 7, none⟩ = some (.int .i64 x.x.m.y) := Hx91.out.cell 7
      have c8 : wX.cell? ⟨gx, 8, none⟩ = some (.int .i64 x.x.m.a) := Hx91.out.cell 8
      have c9 : wX.cell? ⟨gx, 9, none⟩ = some (.bool x.x.m.t) := Hx91.out.cell 9
      have c10 : wX.cell? ⟨gx, 10, none⟩ = some (.slice x.x.pl x.x.m.ls.length x.x.cl) := Hx91.out.cell 10
      have c11 : wX.cell? ⟨gx, 11, none⟩ = some (.slice x.x.pn x.x.m.ns.length x.x.cn) := Hx91.out.cell 11
      have HG := Lib.hid (Kd91.out.do_ (by have := HL.out; have := HK40.out; omega) (by have := HL.out; have := HK40.out; omega) x.x.m (.slice x.x.pl x.x.m.ls.length x.x.cl) (.slice x.x.pn x.x.m.ns.length x.x.cn) x.tw out e hR)
      unfold dcells Msg.v at HG
      clear hR
      have a0 : wX.cell? ⟨gd, 0, none⟩ = some (.int .i64 d.me) := Hd91.out.cell 0
      have a1 : wX.cell? ⟨gd, 1, none⟩ = some (.slice pi d.xs.length ci) := Hd91.out.cell 1
      have a2 : wX.cell? ⟨gd, 2, none⟩ = some (.slice po d.os.length co) := Hd91.out.cell 2
      have a3 : wX.cell? ⟨gd, 3, none⟩ = some (.int .i64 d.far) := Hd91.out.cell 3
      go_wp2_with fail
      clear a0 a1 a2 a3 c0 c1 c2 c3 c4 c5 c6 c7 c8 c9 c10 c11
      clear Hx91
      refine HG.out.mono ?_
      rintro y w1 ⟨hb, p1, c1, q1, e1, vs1, rfl, hk, hown⟩
      clear HG
      have hle : B ≤ wX.heap.size := HZ91.out
      have hk2 := hk.imp (Q := fun b => B ≤ b) (fun b hb => hb.elim id (fun h => Nat.le_trans hle h))
      have ho2 := hown.less hle
      clear hk hown hle
      have Hw92 := Lib.hid (Hw91.out.below hb Hw91.out.lt)
      have Hd92 := Lib.hid (Hd91.out.below hb Hd91.out.lt)
      have HB92 := Lib.hid (HB91.out.trans (hb.mono HB91.out.size))
      have HZ92 : Hid (B ≤ w1.heap.size) := Lib.hid (Nat.le_trans HZ91.out hb.size)
      clear Hw91 Hd91 HB91 HZ91
      have Kd92 := Lib.hid hk2
      clear hb hk2 ho2
      go_wp2_with (with_reducible refine stop_storeT 29 (.tmp 5) (.tmp 43) rfl ?_)
      have HTH : Hid (w1.there gd 0 4) := Hd92.out.thereAt
      have hch : Hid (Chg gd w1 (w1.setCells gd 0 (#[.int .i64 d2.me, .slice p1 d2.xs.length c1, .slice q1 d2.os.length e1, .int .i64 d2.far] : Array Value).toList)) := Lib.hid (chg_putL _ _ _ _ _ (Chg.refl _ w1))
      have Hd93 : Hid (Blk (w1.setCells gd 0 (#[.int .i64 d2.me, .slice p1 d2.xs.length c1, .slice q1 d2.os.length e1, .int .i64 d2.far] : Array Value).toList) gd #[.int .i64 d2.me, .slice p1 d2.xs.length c1, .slice q1 d2.os.length e1, .int .i64 d2.far] 29) := Lib.hid (blk_put_all Hd92.out _ rfl)
      have HB93 : Hid (Below w.heap.size w (w1.setCells gd 0 (#[.int .i64 d2.me, .slice p1 d2.xs.length c1, .slice q1 d2.os.length e1, .int .i64 d2.far] : Array Value).toList)) := Lib.hid (below_put (by have := NG.out; omega) _ _ _ _ HB92.out)
      have HZ93 : Hid (B ≤ (w1.setCells gd 0 (#[.int .i64 d2.me, .slice p1 d2.xs.length c1, .slice q1 d2.os.length e1, .int .i64 d2.far] : Array Value).toList).heap.size) := Lib.hid (Nat.le_trans HZ92.out hch.out.size)
      have Hw93 := Lib.hid (Hw92.out.chg hch.out (by have := NG.out; omega))
      have Kd93 := Lib.hid (Kd92.out.keepP (KeepP.of_chg hch.out (by have := NG.out; show ¬ _ ≤ _; omega)))
      clear hch Hw92 Hd92 Kd92 HB92 HZ92
      refine wpList_store_mid rfl 29 (.tmp 5) (.tmp 43) rfl gd 0 #[.int .i64 d2.me, .slice p1 d2.xs.length c1, .slice q1 d2.os.length e1, .int .i64 d2.far] rfl rfl HTH.out (infoD4 rfl) (all_oneCell_toArray (by intro u hu; simp at hu; rcases hu with rfl | rfl | rfl | rfl <;> rfl)) ?_
      generalize (w1.setCells gd 0 (#[.int .i64 d2.me, .slice p1 d2.xs.length c1, .slice q1 d2.os.length e1, .int .i64 d2.far] : Array Value).toList) = W1 at *
      clear HTH
      go_wp2_with fail
      go_roundw
      case rel => exact ⟨k + 1, d2, p1, c1, q1, e1, HK40.out.2, by go_num, HL2, Hd93, Kd93, Hw93, HB93, HZ93⟩
      case measure => have := HK40.out; simp [intOf]; omega
    · skip
      have hltI : ¬ (k : Int) < (n : Int) := by omega
      have hk40 : k ≤ 40 := by have := HN40.out; omega
      go_upto_region 11 with fail
      have HG := Lib.hid (dget_any wr d.me pi po d.xs.length ci d.os.length co y.x.m.s y.x.m.n d.xs Kd90.out.row.items rfl Kd90.out.row.sx (by have := Kd90.out.row.nx; omega))
      obtain ⟨fA, hfA⟩ : ∃ f, findX d.xs y.x.m.s y.x.m.n = f := ⟨_, rfl⟩
      rw [hfA] at HG
      have HFA := Lib.hid hfA
      clear hfA
      obtain ⟨bA, hbA⟩ : ∃ b, fA.isSome = b := ⟨_, rfl⟩
      obtain ⟨qA, hqA⟩ : ∃ q, fA.getD itm0 = q := ⟨_, rfl⟩
      rw [hbA, hqA] at HG
      have HBQA : Hid (fA.isSome = bA ∧ fA.getD itm0 = qA) := ⟨hbA, hqA⟩
      clear hbA hqA
      unfold bookV idV Itm.v at HG
      have a0 : wr.cell? ⟨gd, 0, none⟩ = some (.int .i64 d.me) := Hd90.out.cell 0
      have a1 : wr.cell? ⟨gd, 1, none⟩ = some (.slice pi d.xs.length ci) := Hd90.out.cell 1
      have a2 : wr.cell? ⟨gd, 2, none⟩ = some (.slice po d.os.length co) := Hd90.out.cell 2
      have c2 : wr.cell? ⟨w.heap.size, 2, none⟩ = some (.int .i64 y.x.m.s) := Hw90.out.cell 2
      have c3 : wr.cell? ⟨w.heap.size, 3, none⟩ = some (.int .i64 y.x.m.n) := Hw90.out.cell 3
      go_wp2_with fail
      clear a0 a1 a2 c2 c3
      refine HG.out.mono ?_
      rintro y8 w4 ⟨rfl, hb⟩
      clear HG
      have Hw91 := Lib.hid (Hw90.out.below hb Hw90.out.lt)
      have Hd91 := Lib.hid (Hd90.out.below hb Hd90.out.lt)
      have Kd91 := Lib.hid (Kd90.out.kept hb)
      have HB91 := Lib.hid (HB90.out.trans (hb.mono HB90.out.size))
      have HZ91 : Hid (B ≤ w4.heap.size) := Lib.hid (Nat.le_trans HZ90.out hb.size)
      clear Hw90 Hd90 Kd90 HB90 HZ90
      clear hb
      have Hw92 := Lib.hid (Hw91.out.alloc (.cells #[.int .i64 qA.s, .int .i64 qA.n, .int .i64 qA.b, .int .i64 qA.c, .int .i64 qA.a, .int .i64 qA.r, .int .i64 qA.t, .int .i64 qA.y] 64))
      have Hd92 := Lib.hid (Hd91.out.alloc (.cells #[.int .i64 qA.s, .int .i64 qA.n, .int .i64 qA.b, .int .i64 qA.c, .int .i64 qA.a, .int .i64 qA.r, .int .i64 qA.t, .int .i64 qA.y] 64))
      have Kd92 := Lib.hid (Kd91.out.kept (oneB w4 (.cells #[.int .i64 qA.s, .int .i64 qA.n, .int .i64 qA.b, .int .i64 qA.c, .int .i64 qA.a, .int .i64 qA.r, .int .i64 qA.t, .int .i64 qA.y] 64)))
      have HA92 := Lib.hid (Blk.new w4 #[.int .i64 qA.s, .int .i64 qA.n, .int .i64 qA.b, .int .i64 qA.c, .int .i64 qA.a, .int .i64 qA.r, .int .i64 qA.t, .int .i64 qA.y] 64)
      have HB92 := Lib.hid (HB91.out.alloc HB91.out.size (.cells #[.int .i64 qA.s, .int .i64 qA.n, .int .i64 qA.b, .int .i64 qA.c, .int .i64 qA.a, .int .i64 qA.r, .int .i64 qA.t, .int .i64 qA.y] 64))
      have HZ92 : Hid (B ≤ (w4.alloc (.cells #[.int .i64 qA.s, .int .i64 qA.n, .int .i64 qA.b, .int .i64 qA.c, .int .i64 qA.a, .int .i64 qA.r, .int .i64 qA.t, .int .i64 qA.y] 64)).heap.size) := Lib.hid (Nat.le_trans HZ91.out (oneB w4 (.cells #[.int .i64 qA.s, .int .i64 qA.n, .int .i64 qA.b, .int .i64 qA.c, .int .i64 qA.a, .int .i64 qA.r, .int .i64 qA.t, .int .i64 qA.y] 64)).size)
      clear Hw91 Hd91 Kd91 HB91 HZ91
      go_upto_region 12 with fail
      generalize (w4.alloc (.cells #[.int .i64 qA.s, .int .i64 qA.n, .int .i64 qA.b, .int .i64 qA.c, .int .i64 qA.a, .int .i64 qA.r, .int .i64 qA.t, .int .i64 qA.y] 64)) = W4 at *
      generalize hggA : w4.heap.size = gA at *
      obtain ⟨d2, out, e, hR⟩ : ∃ d2 out e, doM d y.x.m y.tw = (d2, out, e) := ⟨_, _, _, rfl⟩
      have HST : Hid (bA = true → qA.s ≠ y.tw → qA.b ≠ y.tw → d2 = d ∧ out = [] ∧ e ≠ 0) := by
        intro h1 h2 h3
        have h4 : findX d.xs y.x.m.s y.x.m.n = some qA := by
          rw [HFA.out]
          have h5 := HBQA.out
          cases fA with
          | none => rw [h1] at h5; exact absurd h5.1 (by decide)
          | some q => rw [show q = qA from h5.2]
        obtain ⟨e', he, h5⟩ := strange HNEG.out h4 h2 h3
        rw [hR] at h5
        cases h5
        exact ⟨rfl, rfl, he⟩
      have c0 : W4.cell? ⟨w.heap.size, 0, none⟩ = some (.int .i64 y.tw) := Hw92.out.cell 0
      have c1 : W4.cell? ⟨w.heap.size, 1, none⟩ = some (.int .i64 y.x.m.k) := Hw92.out.cell 1
      have c2 : W4.cell? ⟨w.heap.size, 2, none⟩ = some (.int .i64 y.x.m.s) := Hw92.out.cell 2
      have c3 : W4.cell? ⟨w.heap.size, 3, none⟩ = some (.int .i64 y.x.m.n) := Hw92.out.cell 3
      have c4 : W4.cell? ⟨w.heap.size, 4, none⟩ = some (.int .i64 y.x.m.b) := Hw92.out.cell 4
      have c5 : W4.cell? ⟨w.heap.size, 5, none⟩ = some (.int .i64 y.x.m.c) := Hw92.out.cell 5
      have c6 : W4.cell? ⟨w.heap.size, 6, none⟩ = some (.int .i64 y.x.m.r) := Hw92.out.cell 6
      have c7 : W4.cell? ⟨w.heap.size, 7, none⟩ = some (.int .i64 y.x.m.y) := Hw92.out.cell 7
      have c8 : W4.cell? ⟨w.heap.size, 8, none⟩ = some (.int .i64 y.x.m.a) := Hw92.out.cell 8
      have c9 : W4.cell? ⟨w.heap.size, 9, none⟩ = some (.bool y.x.m.t) := Hw92.out.cell 9
      have c10 : W4.cell? ⟨w.heap.size, 10, none⟩ = some (.slice y.x.pl y.x.m.ls.length y.x.cl) := Hw92.out.cell 10
      have c11 : W4.cell? ⟨w.heap.size, 11, none⟩ = some (.slice y.x.pn y.x.m.ns.length y.x.cn) := Hw92.out.cell 11
      have HG := Lib.hid (Kd92.out.do_ (by have := HL.out; omega) (by have := HL.out; omega) y.x.m (.slice y.x.pl y.x.m.ls.length y.x.cl) (.slice y.x.pn y.x.m.ns.length y.x.cn) y.tw out e hR)
      unfold dcells Msg.v at HG
      clear hR
      have a0 : W4.cell? ⟨gd, 0, none⟩ = some (.int .i64 d.me) := Hd92.out.cell 0
      have a1 : W4.cell? ⟨gd, 1, none⟩ = some (.slice pi d.xs.length ci) := Hd92.out.cell 1
      have a2 : W4.cell? ⟨gd, 2, none⟩ = some (.slice po d.os.length co) := Hd92.out.cell 2
      have a3 : W4.cell? ⟨gd, 3, none⟩ = some (.int .i64 d.far) := Hd92.out.cell 3
      go_wp2_with fail
      clear a0 a1 a2 a3 c0 c1 c2 c3 c4 c5 c6 c7 c8 c9 c10 c11
      refine HG.out.mono ?_
      rintro y7 w5 ⟨hb, p1, c1, q1, e1, vs1, rfl, hk2, hown⟩
      clear HG
      have hle : B ≤ W4.heap.size := HZ92.out
      have hk3 := hk2.imp (Q := fun b => B ≤ b) (fun b hb => hb.elim id (fun h => Nat.le_trans hle h))
      have hown2 := hown.less hle
      clear hk2 hown hle
      have Hw93 := Lib.hid (Hw92.out.below hb Hw92.out.lt)
      have Hd93 := Lib.hid (Hd92.out.below hb Hd92.out.lt)
      have HA93 := Lib.hid (HA92.out.below hb HA92.out.lt)
      have HB93 := Lib.hid (HB92.out.trans (hb.mono HB92.out.size))
      have HZ93 : Hid (B ≤ w5.heap.size) := Lib.hid (Nat.le_trans HZ92.out hb.size)
      clear Hw92 Hd92 HA92 HB92 HZ92
      have Kn93 := Lib.hid hk3
      have Ss93 := Lib.hid hown2
      clear hb hk3 hown2
      have Hw94 := Lib.hid (Hw93.out.alloc (.cells #[.int .i64 d2.me, .slice p1 d2.xs.length c1, .slice q1 d2.os.length e1, .int .i64 d2.far] 29))
      have Hd94 := Lib.hid (Hd93.out.alloc (.cells #[.int .i64 d2.me, .slice p1 d2.xs.length c1, .slice q1 d2.os.length e1, .int .i64 d2.far] 29))
      have HA94 := Lib.hid (HA93.out.alloc (.cells #[.int .i64 d2.me, .slice p1 d2.xs.length c1, .slice q1 d2.os.length e1, .int .i64 d2.far] 29))
      have Kn94 := Lib.hid (Kn93.out.kept (oneB w5 (.cells #[.int .i64 d2.me, .slice p1 d2.xs.length c1, .slice q1 d2.os.length e1, .int .i64 d2.far] 29)))
      have Ss94 := Lib.hid (Ss93.out.later (oneB w5 (.cells #[.int .i64 d2.me, .slice p1 d2.xs.length c1, .slice q1 d2.os.length e1, .int .i64 d2.far] 29)))
      have Hn94 := Lib.hid (Blk.new w5 #[.int .i64 d2.me, .slice p1 d2.xs.length c1, .slice q1 d2.os.length e1, .int .i64 d2.far] 29)
      have HB94 := Lib.hid (HB93.out.alloc HB93.out.size (.cells #[.int .i64 d2.me, .slice p1 d2.xs.length c1, .slice q1 d2.os.length e1, .int .i64 d2.far] 29))
      have HZ94 : Hid (B ≤ (w5.alloc (.cells #[.int .i64 d2.me, .slice p1 d2.xs.length c1, .slice q1 d2.os.length e1, .int .i64 d2.far] 29)).heap.size) := Lib.hid (Nat.le_trans HZ93.out (oneB w5 (.cells #[.int .i64 d2.me, .slice p1 d2.xs.length c1, .slice q1 d2.os.length e1, .int .i64 d2.far] 29)).size)
      clear Hw93 Hd93 HA93 Kn93 Ss93 HB93 HZ93
      go_upto_region 13 with fail
      generalize (w5.alloc (.cells #[.int .i64 d2.me, .slice p1 d2.xs.length c1, .slice q1 d2.os.length e1, .int .i64 d2.far] 29)) = W5 at *
      generalize hggn : w5.heap.size = gn at *
      have HG := Lib.hid (dget_any W5 d2.me p1 q1 d2.xs.length c1 d2.os.length e1 y.x.m.s y.x.m.n d2.xs Kn94.out.row.items rfl Kn94.out.row.sx (by have := Kn94.out.row.nx; omega))
      obtain ⟨fC, hfC⟩ : ∃ f, findX d2.xs y.x.m.s y.x.m.n = f := ⟨_, rfl⟩
      rw [hfC] at HG
      have HFC := Lib.hid hfC
      clear hfC
      obtain ⟨bC, hbC⟩ : ∃ b, fC.isSome = b := ⟨_, rfl⟩
      obtain ⟨qC, hqC⟩ : ∃ q, fC.getD itm0 = q := ⟨_, rfl⟩
      rw [hbC, hqC] at HG
      have HBQC : Hid (fC.isSome = bC ∧ fC.getD itm0 = qC) := ⟨hbC, hqC⟩
      clear hbC hqC
      unfold bookV idV Itm.v at HG
      have a0 : W5.cell? ⟨gn, 0, none⟩ = some (.int .i64 d2.me) := Hn94.out.cell 0
      have a1 : W5.cell? ⟨gn, 1, none⟩ = some (.slice p1 d2.xs.length c1) := Hn94.out.cell 1
      have a2 : W5.cell? ⟨gn, 2, none⟩ = some (.slice q1 d2.os.length e1) := Hn94.out.cell 2
      have c2 : W5.cell? ⟨w.heap.size, 2, none⟩ = some (.int .i64 y.x.m.s) := Hw94.out.cell 2
      have c3 : W5.cell? ⟨w.heap.size, 3, none⟩ = some (.int .i64 y.x.m.n) := Hw94.out.cell 3
      go_wp2_with fail
      clear a0 a1 a2 c2 c3
      refine HG.out.mono ?_
      rintro y8 w6 ⟨rfl, hb⟩
      clear HG
      have Hw95 := Lib.hid (Hw94.out.below hb Hw94.out.lt)
      have Hd95 := Lib.hid (Hd94.out.below hb Hd94.out.lt)
      have HA95 := Lib.hid (HA94.out.below hb HA94.out.lt)
      have Hn95 := Lib.hid (Hn94.out.below hb Hn94.out.lt)
      have Kn95 := Lib.hid (Kn94.out.kept hb)
      have Ss95 := Lib.hid (Ss94.out.later hb)
      have HB95 := Lib.hid (HB94.out.trans (hb.mono HB94.out.size))
      have HZ95 : Hid (B ≤ w6.heap.size) := Lib.hid (Nat.le_trans HZ94.out hb.size)
      clear Hw94 Hd94 HA94 Hn94 Kn94 Ss94 HB94 HZ94
      clear hb
      have Hw96 := Lib.hid (Hw95.out.alloc (.cells #[.int .i64 qC.s, .int .i64 qC.n, .int .i64 qC.b, .int .i64 qC.c, .int .i64 qC.a, .int .i64 qC.r, .int .i64 qC.t, .int .i64 qC.y] 64))
      have Hd96 := Lib.hid (Hd95.out.alloc (.cells #[.int .i64 qC.s, .int .i64 qC.n, .int .i64 qC.b, .int .i64 qC.c, .int .i64 qC.a, .int .i64 qC.r, .int .i64 qC.t, .int .i64 qC.y] 64))
      have HA96 := Lib.hid (HA95.out.alloc (.cells #[.int .i64 qC.s, .int .i64 qC.n, .int .i64 qC.b, .int .i64 qC.c, .int .i64 qC.a, .int .i64 qC.r, .int .i64 qC.t, .int .i64 qC.y] 64))
      have Hn96 := Lib.hid (Hn95.out.alloc (.cells #[.int .i64 qC.s, .int .i64 qC.n, .int .i64 qC.b, .int .i64 qC.c, .int .i64 qC.a, .int .i64 qC.r, .int .i64 qC.t, .int .i64 qC.y] 64))
      have Kn96 := Lib.hid (Kn95.out.kept (oneB w6 (.cells #[.int .i64 qC.s, .int .i64 qC.n, .int .i64 qC.b, .int .i64 qC.c, .int .i64 qC.a, .int .i64 qC.r, .int .i64 qC.t, .int .i64 qC.y] 64)))
      have Ss96 := Lib.hid (Ss95.out.later (oneB w6 (.cells #[.int .i64 qC.s, .int .i64 qC.n, .int .i64 qC.b, .int .i64 qC.c, .int .i64 qC.a, .int .i64 qC.r, .int .i64 qC.t, .int .i64 qC.y] 64)))
      have HC96 := Lib.hid (Blk.new w6 #[.int .i64 qC.s, .int .i64 qC.n, .int .i64 qC.b, .int .i64 qC.c, .int .i64 qC.a, .int .i64 qC.r, .int .i64 qC.t, .int .i64 qC.y] 64)
      have HB96 := Lib.hid (HB95.out.alloc HB95.out.size (.cells #[.int .i64 qC.s, .int .i64 qC.n, .int .i64 qC.b, .int .i64 qC.c, .int .i64 qC.a, .int .i64 qC.r, .int .i64 qC.t, .int .i64 qC.y] 64))
      have HZ96 : Hid (B ≤ (w6.alloc (.cells #[.int .i64 qC.s, .int .i64 qC.n, .int .i64 qC.b, .int .i64 qC.c, .int .i64 qC.a, .int .i64 qC.r, .int .i64 qC.t, .int .i64 qC.y] 64)).heap.size) := Lib.hid (Nat.le_trans HZ95.out (oneB w6 (.cells #[.int .i64 qC.s, .int .i64 qC.n, .int .i64 qC.b, .int .i64 qC.c, .int .i64 qC.a, .int .i64 qC.r, .int .i64 qC.t, .int .i64 qC.y] 64)).size)
      clear Hw95 Hd95 HA95 Hn95 Kn95 Ss95 HB95 HZ95
      go_upto_region 14 with fail
      generalize (w6.alloc (.cells #[.int .i64 qC.s, .int .i64 qC.n, .int .i64 qC.b, .int .i64 qC.c, .int .i64 qC.a, .int .i64 qC.r, .int .i64 qC.t, .int .i64 qC.y] 64)) = W6 at *
      generalize hggC : w6.heap.size = gC at *
      obtain ⟨pv, cv, hpv⟩ := Ss96.out.form
      subst hpv
      have x0 : W6.cell? ⟨gA, 0, none⟩ = some (.int .i64 qA.s) := HA96.out.cell 0
      have x1 : W6.cell? ⟨gA, 1, none⟩ = some (.int .i64 qA.n) := HA96.out.cell 1
      have x2 : W6.cell? ⟨gA, 2, none⟩ = some (.int .i64 qA.b) := HA96.out.cell 2
      have x3 : W6.cell? ⟨gA, 3, none⟩ = some (.int .i64 qA.c) := HA96.out.cell 3
      have x4 : W6.cell? ⟨gA, 4, none⟩ = some (.int .i64 qA.a) := HA96.out.cell 4
      have x5 : W6.cell? ⟨gA, 5, none⟩ = some (.int .i64 qA.r) := HA96.out.cell 5
      have x6 : W6.cell? ⟨gA, 6, none⟩ = some (.int .i64 qA.t) := HA96.out.cell 6
      have x7 : W6.cell? ⟨gA, 7, none⟩ = some (.int .i64 qA.y) := HA96.out.cell 7
      have y0 : W6.cell? ⟨gC, 0, none⟩ = some (.int .i64 qC.s) := HC96.out.cell 0
      have y1 : W6.cell? ⟨gC, 1, none⟩ = some (.int .i64 qC.n) := HC96.out.cell 1
      have y2 : W6.cell? ⟨gC, 2, none⟩ = some (.int .i64 qC.b) := HC96.out.cell 2
      have y3 : W6.cell? ⟨gC, 3, none⟩ = some (.int .i64 qC.c) := HC96.out.cell 3
      have y4 : W6.cell? ⟨gC, 4, none⟩ = some (.int .i64 qC.a) := HC96.out.cell 4
      have y5 : W6.cell? ⟨gC, 5, none⟩ = some (.int .i64 qC.r) := HC96.out.cell 5
      have y6 : W6.cell? ⟨gC, 6, none⟩ = some (.int .i64 qC.t) := HC96.out.cell 6
      have y7 : W6.cell? ⟨gC, 7, none⟩ = some (.int .i64 qC.y) := HC96.out.cell 7
      have c0 : W6.cell? ⟨w.heap.size, 0, none⟩ = some (.int .i64 y.tw) := Hw96.out.cell 0
      have HBE := Lib.hid HB96.out
      cases bA with
      | false =>
        go_wp2_with fail
        go_ret
        exact ⟨rfl, HBE.out⟩
      | true =>
        by_cases h1 : qA.s = y.tw
        · have h1' : (qA.s == y.tw) = true := by simpa using h1
          clear h1
          go_wp2_with fail
          go_ret
          exact ⟨rfl, HBE.out⟩
        have h1' : (qA.s == y.tw) = false := by simpa using h1
        by_cases h2 : qA.b = y.tw
        · have h2' : (qA.b == y.tw) = true := by simpa using h2
          clear h1 h2
          go_wp2_with fail
          go_ret
          exact ⟨rfl, HBE.out⟩
        have h2' : (qA.b == y.tw) = false := by simpa using h2
        obtain ⟨rfl, rfl, he⟩ := HST.out rfl h1 h2
        have hsame : bC = true ∧ qC = qA := by
          have h5 := HBQA.out
          have h6 := HBQC.out
          have h7 := HFA.out
          rw [HFC.out] at h7
          subst h7
          exact ⟨h6.1.symm.trans h5.1, h6.2.symm.trans h5.2⟩
        obtain ⟨rfl, rfl⟩ := hsame
        have heb : (e != 0) = true := by simpa using he
        have keq := fun (w : World) => item_eq qC qC w
        rw [itmEq_iff.2 rfl] at keq
        clear h1 h2 he
        go_wp2_with fail
        go_ret
        exact ⟨rfl, HBE.out⟩
end Go.Proofs.Ytmfodfimglllkaa
