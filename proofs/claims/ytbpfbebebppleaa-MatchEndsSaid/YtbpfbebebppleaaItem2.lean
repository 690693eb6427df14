/- item.Check, turn, locked by contract. -/
import Derived.Test.YtbpfbebebppleaaItem1
namespace Go.Proofs.Ytbpfbebebppleaa
open Go.RowKit
theorem retI {a b : Int} (h : a = b) : Ending.returned (.int .i64 a) = .returned (.int .i64 b) := by rw [h]
theorem itemB (x : Itm) (w : World) : Below w.heap.size w (w.alloc (.cells #[.int .i64 x.s, .int .i64 x.n, .int .i64 x.b, .int .i64 x.c, .int .i64 x.a, .int .i64 x.r, .int .i64 x.t, .int .i64 x.y] 64)) := oneB w _
theorem itemK (x : Itm) (w : World) : Blk (w.alloc (.cells #[.int .i64 x.s, .int .i64 x.n, .int .i64 x.b, .int .i64 x.c, .int .i64 x.a, .int .i64 x.r, .int .i64 x.t, .int .i64 x.y] 64)) w.heap.size #[.int .i64 x.s, .int .i64 x.n, .int .i64 x.b, .int .i64 x.c, .int .i64 x.a, .int .i64 x.r, .int .i64 x.t, .int .i64 x.y] 64 := Blk.new w _ _
set_option linter.unusedSimpArgs false in
set_option maxHeartbeats 1000000 in
theorem check_any (x : Itm) (w : World) : Calls Try.prog 63 #[x.v] w fun e w' => e = .returned (.int .i64 (chkI x)) ∧ Below w.heap.size w w' := by
  have HP := Lib.hid (fun w => parties_any x w)
  have HN := Lib.hid (fun w => numbers_any x w)
  have HB := Lib.hid (itemB x w)
  have HK := Lib.hid (itemK x w)
  unfold Itm.v at *
  by_cases hp : partsOk x
  · rw [decide_eq_true hp] at HP
    by_cases hn : numsOk x
    · rw [decide_eq_true hn] at HN
      have HC : Hid (chkI x = if cycBad x then 90 else 0) := by show _ = _; unfold chkI; rw [if_pos ⟨hp, hn⟩]
      clear hp hn
      go_enter Try.func63, Try.ntmps63
      go_wp2_with fail
      refine (HP.out _).mono ?_
      rintro y w1 ⟨rfl, hb1⟩
      have hk1 := HK.out.below hb1 HK.out.lt
      have HB1 := Lib.hid (HB.out.trans (hb1.mono HB.out.size))
      have HK1 := Lib.hid hk1
      have c0 : w1.cell? ⟨w.heap.size, 0, none⟩ = some (.int .i64 x.s) := hk1.cell 0
      have c1 : w1.cell? ⟨w.heap.size, 1, none⟩ = some (.int .i64 x.n) := hk1.cell 1
      have c2 : w1.cell? ⟨w.heap.size, 2, none⟩ = some (.int .i64 x.b) := hk1.cell 2
      have c3 : w1.cell? ⟨w.heap.size, 3, none⟩ = some (.int .i64 x.c) := hk1.cell 3
      have c4 : w1.cell? ⟨w.heap.size, 4, none⟩ = some (.int .i64 x.a) := hk1.cell 4
      have c5 : w1.cell? ⟨w.heap.size, 5, none⟩ = some (.int .i64 x.r) := hk1.cell 5
      have c6 : w1.cell? ⟨w.heap.size, 6, none⟩ = some (.int .i64 x.t) := hk1.cell 6
      have c7 : w1.cell? ⟨w.heap.size, 7, none⟩ = some (.int .i64 x.y) := hk1.cell 7
      clear hb1 hk1
      go_wp2_with fail
      refine (HN.out _).mono ?_
      rintro y w2 ⟨rfl, hb2⟩
      have hk2 := HK1.out.below hb2 HK1.out.lt
      have HB2 := Lib.hid (HB1.out.trans (hb2.mono HB1.out.size))
      have d6 : w2.cell? ⟨w.heap.size, 6, none⟩ = some (.int .i64 x.t) := hk2.cell 6
      have d7 : w2.cell? ⟨w.heap.size, 7, none⟩ = some (.int .i64 x.y) := hk2.cell 7
      clear hb2 hk2 c0 c1 c2 c3 c4 c5 c6 c7
      go_wp2
      all_goals
        go_ret
        refine ⟨retI ?_, HB2.out⟩
        rw [HC.out]
        clear HP HN HB HK HK1 d6 d7
        try simp only [beq_iff_eq, beq_eq_false_iff_ne, bne_iff_ne, bne_eq_false_iff_eq, ne_eq] at *
        by_cases hc : cycBad x
        · rw [if_pos hc]; all_goals (exfalso; unfold cycBad at hc; omega)
        · rw [if_neg hc]; all_goals (exfalso; unfold cycBad at hc; omega)
    · rw [decide_eq_false hn] at HN
      have HC : Hid (chkI x = 1) := by show _ = _; unfold chkI; rw [if_neg (fun h => hn h.2)]
      clear hp hn
      go_enter Try.func63, Try.ntmps63
      go_wp2_with fail
      refine (HP.out _).mono ?_
      rintro y w1 ⟨rfl, hb1⟩
      have hk1 := HK.out.below hb1 HK.out.lt
      have HB1 := Lib.hid (HB.out.trans (hb1.mono HB.out.size))
      have c0 : w1.cell? ⟨w.heap.size, 0, none⟩ = some (.int .i64 x.s) := hk1.cell 0
      have c1 : w1.cell? ⟨w.heap.size, 1, none⟩ = some (.int .i64 x.n) := hk1.cell 1
      have c2 : w1.cell? ⟨w.heap.size, 2, none⟩ = some (.int .i64 x.b) := hk1.cell 2
      have c3 : w1.cell? ⟨w.heap.size, 3, none⟩ = some (.int .i64 x.c) := hk1.cell 3
      have c4 : w1.cell? ⟨w.heap.size, 4, none⟩ = some (.int .i64 x.a) := hk1.cell 4
      have c5 : w1.cell? ⟨w.heap.size, 5, none⟩ = some (.int .i64 x.r) := hk1.cell 5
      have c6 : w1.cell? ⟨w.heap.size, 6, none⟩ = some (.int .i64 x.t) := hk1.cell 6
      have c7 : w1.cell? ⟨w.heap.size, 7, none⟩ = some (.int .i64 x.y) := hk1.cell 7
      clear hb1 hk1
      go_wp2_with fail
      refine (HN.out _).mono ?_
      rintro y w2 ⟨rfl, hb2⟩
      have HB2 := Lib.hid (HB1.out.trans (hb2.mono HB1.out.size))
      clear hb2 c0 c1 c2 c3 c4 c5 c6 c7
      go_wp2
      go_ret
      exact ⟨retI HC.out.symm, HB2.out⟩
  · rw [decide_eq_false hp] at HP
    have HC : Hid (chkI x = 1) := by show _ = _; unfold chkI; rw [if_neg (fun h => hp h.1)]
    clear hp
    go_enter Try.func63, Try.ntmps63
    go_wp2_with fail
    refine (HP.out _).mono ?_
    rintro y w1 ⟨rfl, hb1⟩
    have HB1 := Lib.hid (HB.out.trans (hb1.mono HB.out.size))
    clear hb1
    go_wp2
    go_ret
    exact ⟨retI HC.out.symm, HB1.out⟩
end Go.Proofs.Ytbpfbebebppleaa
