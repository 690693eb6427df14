/- contralaw16.line, reckons by contract. -/
import Derived.Test.YteofblabimneiaaCycBoth
import Derived.Test.YteofblabimneiaaCycNets
namespace Go.Proofs.Yteofblabimneiaa
open Go.RowKit
theorem TRow.lit {α : Type} (e : Enc α) {w : World} {b : Nat} {cs : Array Value} {ty : TypeId} (xs : List α) (n c : Nat) (hB : Blk w b cs ty) (hcs : cs.toList = xs.flatMap e.E) (hn : n = xs.length) (hc : n ≤ c) : TRow e w (.slice (some ⟨b, 0, none⟩) n c) xs := by
  subst hn
  refine ⟨_, c, rfl, hc, .inr ⟨b, 0, rfl, hB.lt, fun i hi t ht => ?_⟩⟩
  rw [Nat.zero_add, hB.cell, ← Array.getElem?_toList, hcs, flat_get e xs i t hi ht]
set_option linter.unusedSimpArgs false in
set_option maxHeartbeats 4000000 in
set_option maxRecDepth 100000 in
theorem line_any (s n b a : Int) (w : World) : Calls Try.prog 19 #[.int .i64 s, .int .i64 n, .int .i64 b, .int .i64 a] w fun e w' => e = .returned (.agg #[.int .i64 s, .int .i64 n, .int .i64 b, .int .i64 a]) ∧ Below w.heap.size w w' := by
  have HB := Lib.hid (oneB w (.cells #[.int .i64 s, .int .i64 n, .int .i64 b, .int .i64 a] 45))
  go_enter Try.func19, Try.ntmps19
  go_wp2_with fail
  refine bodyPost_ret (v := .agg #[.int .i64 s, .int .i64 n, .int .i64 b, .int .i64 a]) (by simp [results, Try.results19, go_sem]) rfl ⟨rfl, HB.out⟩
def l0 : List Lin := [⟨0, 1, 1, 70⟩, ⟨1, 5, 0, 30⟩]
theorem l0_sort : SortN l0 := by
  unfold SortN SortedP l0
  simp only [List.map_cons, List.map_nil, List.pairwise_cons, List.not_mem_nil, false_implies, implies_true, List.Pairwise.nil, and_true, List.mem_singleton, forall_eq]
  decide
set_option linter.unusedSimpArgs false in
set_option maxHeartbeats 4000000 in
set_option maxRecDepth 100000 in
theorem reckons_any (w : World) : Calls Try.prog 8 #[] w fun e w' => e = .returned (.bool true) ∧ Below w.heap.size w w' := by
  go_enter Try.func8, Try.ntmps8
  go_wp2_with fail
  refine (line_any 0 1 1 70 w).mono ?_
  rintro y w1 ⟨rfl, hb1⟩
  have HB1 := Lib.hid hb1
  clear hb1
  go_wp2_with fail
  refine (line_any 1 5 0 30 w1).mono ?_
  rintro y w2 ⟨rfl, hb2⟩
  have HB2 := Lib.hid (HB1.out.trans (hb2.mono HB1.out.size))
  clear hb2 HB1
  go_wp2_with fail
  have HRL : Hid (TRow encN (w2.alloc (.cells #[.int .i64 0, .int .i64 1, .int .i64 1, .int .i64 70, .int .i64 1, .int .i64 5, .int .i64 0, .int .i64 30] 45)) (.slice (some ⟨w2.heap.size, 0, none⟩) 2 2) l0) := TRow.lit encN l0 2 2 (Blk.new w2 #[.int .i64 0, .int .i64 1, .int .i64 1, .int .i64 70, .int .i64 1, .int .i64 5, .int .i64 0, .int .i64 30] 45) rfl rfl (Nat.le_refl _)
  have HB3 := Lib.hid (HB2.out.trans ((oneB w2 (.cells #[.int .i64 0, .int .i64 1, .int .i64 1, .int .i64 70, .int .i64 1, .int .i64 5, .int .i64 0, .int .i64 30] 45)).mono HB2.out.size))
  have HNL := Lib.hid (lnets_any _ 2 _ l0 HRL.out (by decide))
  generalize w2.alloc (.cells #[.int .i64 0, .int .i64 1, .int .i64 1, .int .i64 70, .int .i64 1, .int .i64 5, .int .i64 0, .int .i64 30] 45) = W3 at *
  generalize w2.heap.size = g at *
  clear HB2
  refine HNL.out.mono ?_
  rintro y w4 ⟨v4, rfl, ho4, hb4⟩
  rw [show netsV 2 l0 = [40, -40] by decide +kernel] at ho4
  rw [show netsE 2 l0 = 0 by decide +kernel]
  obtain ⟨p4, c4, hv4⟩ := ho4.form
  subst hv4
  have HO4 := Lib.hid ho4
  have HB4 := Lib.hid (HB3.out.trans (hb4.mono HB3.out.size))
  have HR4 := Lib.hid (HRL.out.kept hb4)
  clear ho4 hb4 HNL HRL
  simp only [List.length_cons, List.length_nil]
  go_wp2_with fail
  have HLL : Hid (LL (w4.alloc (.cells #[.slice (some ⟨g, 0, none⟩) 2 2, .slice (some ⟨g, 0, none⟩) 2 2] 22)) (.slice (some ⟨w4.heap.size, 0, none⟩) 2 2) [l0, l0]) := by
    have hb := Blk.new w4 #[.slice (some ⟨g, 0, none⟩) 2 2, .slice (some ⟨g, 0, none⟩) 2 2] 22
    have hr := HR4.out.kept (oneB w4 (.cells #[.slice (some ⟨g, 0, none⟩) 2 2, .slice (some ⟨g, 0, none⟩) 2 2] 22))
    refine ⟨_, 2, rfl, Nat.le_refl _, .inr ⟨w4.heap.size, 0, rfl, hb.lt, fun i hi => ?_⟩⟩
    match i, hi with
    | 0, _ => exact ⟨_, hb.cell 0, hr⟩
    | 1, _ => exact ⟨_, hb.cell 1, hr⟩
  have HB5 := Lib.hid (HB4.out.trans ((oneB w4 (.cells #[.slice (some ⟨g, 0, none⟩) 2 2, .slice (some ⟨g, 0, none⟩) 2 2] 22)).mono HB4.out.size))
  have HO5 := Lib.hid (HO4.out.later (oneB w4 (.cells #[.slice (some ⟨g, 0, none⟩) 2 2, .slice (some ⟨g, 0, none⟩) 2 2] 22)))
  have HR5 := Lib.hid (HR4.out.kept (oneB w4 (.cells #[.slice (some ⟨g, 0, none⟩) 2 2, .slice (some ⟨g, 0, none⟩) 2 2] 22)))
  have HBO := Lib.hid (both_any _ _ [l0, l0] HLL.out (by decide) (fun o ho => by
    have : o = l0 := by simpa using ho
    subst this
    exact ⟨l0_sort, by decide⟩))
  generalize w4.alloc (.cells #[.slice (some ⟨g, 0, none⟩) 2 2, .slice (some ⟨g, 0, none⟩) 2 2] 22) = W5 at *
  clear HB4 HO4 HR4 HLL
  refine HBO.out.mono ?_
  rintro y w6 ⟨v6, rfl, ho6, hb6⟩
  obtain ⟨p6, c6, hv6⟩ := ho6.form
  rw [show (bothL [l0, l0] [l0, l0].length).length = 2 by decide +kernel] at hv6
  subst hv6
  have HB6 := Lib.hid (HB5.out.trans (hb6.mono HB5.out.size))
  have HO6 := Lib.hid (HO5.out.later hb6)
  have HR6 := Lib.hid (HR5.out.kept hb6)
  clear ho6 hb6 HBO HB5 HO5 HR5
  obtain ⟨b, o, e1, _, n0⟩ := HO6.out.row.atc 0 (by decide)
  obtain ⟨b', o', e2, _, n1⟩ := HO6.out.row.atc 1 (by decide)
  subst e1
  cases e2
  have n0 : w6.cell? ⟨b, o, none⟩ = some (.int .i64 40) := n0
  have n1 : w6.cell? ⟨b, o + 1, none⟩ = some (.int .i64 (-40)) := n1
  have HRI := Lib.hid (lright_any w6 _ _ l0 [40, -40] HR6.out (by decide) HO6.out.row (by decide))
  rw [show rightE l0 [40, -40] = 0 by decide +kernel] at HRI
  simp only [List.length_cons, List.length_nil] at HRI
  go_wp2_with fail
  refine HRI.out.mono ?_
  rintro y w7 ⟨rfl, hb7⟩
  have HMI := Lib.hid (mine_any w7 2 _ l0 (HR6.out.kept hb7) (by decide))
  have HB7 := Lib.hid (HB6.out.trans (hb7.mono HB6.out.size))
  clear hb7 HRI HB6
  go_wp2_with fail
  refine HMI.out.mono ?_
  rintro y w8 ⟨v8, rfl, ho8, hb8⟩
  rw [show mineL 2 l0 = [] by decide +kernel] at ho8
  obtain ⟨p8, c8, hv8⟩ := ho8.form
  subst hv8
  have HB8 := Lib.hid (HB7.out.trans (hb8.mono HB7.out.size))
  clear ho8 hb8 HMI
  simp only [List.length_nil]
  go_wp2_with fail
  go_ret
  exact ⟨rfl, HB8.out⟩
end Go.Proofs.Yteofblabimneiaa
