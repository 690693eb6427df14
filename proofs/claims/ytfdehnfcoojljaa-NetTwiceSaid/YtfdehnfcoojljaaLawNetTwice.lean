/- NetTwice: the walk. -/
import Derived.Test.YtfdehnfcoojljaaNetIn
import Derived.Deep.RegionHeld3
namespace Go.Proofs.Ytfdehnfcoojljaa
open Go.RowKit
set_option linter.unusedSimpArgs false
set_option maxHeartbeats 4000000 in
set_option maxRecDepth 100000 in
theorem ntwice_walk (va : Value) (ys : List PkX) (i : Int) (lose : Bool) (W : World) (hx : TRow encK W va ys) (hf : ∀ y ∈ ys, y.In W) (_ : -9223372036854775808 ≤ i ∧ i ≤ 9223372036854775807) : Calls Try.prog 7 #[va, .int .i64 i, .bool lose] W fun e w' => e = .returned (.bool true) ∧ Below W.heap.size W w'  := by
  obtain ⟨pv, cv, rfl⟩ := hx.shape
  have HX := Lib.hid hx
  have HF := Lib.hid hf
  clear hx hf
  generalize hl : ys.length = n at *
  have HL := Lib.hid hl
  clear hl
  by_cases h1 : 20 < n
  · have g1 : (20 : Int) < (n : Int) := by omega
    go_enter Try.func7, Try.ntmps7
    go_wp2_with fail
    refine (carries_any _).mono ?_
    rintro y w1 ⟨rfl, hb1⟩
    have B1 := Lib.hid hb1
    clear hb1
    go_wp2_with fail
    go_ret
    exact ⟨rfl, B1.out⟩
  have g1 : ¬ (20 : Int) < (n : Int) := by omega
  by_cases h2 : i < 0
  · skip
    go_enter Try.func7, Try.ntmps7
    go_wp2_with fail
    refine (carries_any _).mono ?_
    rintro y w1 ⟨rfl, hb1⟩
    have B1 := Lib.hid hb1
    clear hb1
    go_wp2_with fail
    go_ret
    exact ⟨rfl, B1.out⟩
  by_cases h3 : (n : Int) ≤ i
  · skip
    go_enter Try.func7, Try.ntmps7
    go_wp2_with fail
    refine (carries_any _).mono ?_
    rintro y w1 ⟨rfl, hb1⟩
    have B1 := Lib.hid hb1
    clear hb1
    go_wp2_with fail
    go_ret
    exact ⟨rfl, B1.out⟩
  obtain ⟨j, rfl⟩ : ∃ j : Nat, i = j := ⟨i.toNat, by omega⟩
  have hjn : j < n := by omega
  have hjI : (j : Int) < (n : Int) := by omega
  have hjy : j < ys.length := by rw [HL.out]; exact hjn
  have HPL : Hid ((ys.map PkX.pk).length = n) := by show _ = _; rw [List.length_map]; exact HL.out
  have HYI : Hid (ys[j].In W) := HF.out _ (List.getElem_mem hjy)
  obtain ⟨b, o, rfl, hbl, hcs⟩ := HX.out.at_ j hjy
  have HBL : Hid (b < W.heap.size) := hbl
  have HCS : Hid (∀ t, t < 15 → W.cell? ⟨b, o + j * 15 + t, none⟩ = (PkX.cells ys[j])[t]?) := fun t ht => hcs t ht
  have HPJ : Hid (∀ h, (ys.map PkX.pk)[j]'h = ys[j].pk) := fun h => by simp
  have HRW := Lib.hid (PkRow.of_in HX.out HF.out)
  generalize ys[j] = y at *
  generalize ys.map PkX.pk = ks at *
  clear hbl hcs
  have HN20 : Hid (n ≤ 20) := by show n ≤ 20; omega
  go_enter Try.func7, Try.ntmps7
  go_wp2_with fail
  refine (carries_any _).mono ?_
  rintro y0 w1 ⟨rfl, hb1⟩
  have B1 := Lib.hid (hb1.alloc hb1.size (.cells #[.slice none 0 0] 26))
  have HN1 : Hid (Net W.heap.size (fun _ => False) (w1.alloc (.cells #[.slice none 0 0] 26)) w1.heap.size []) := Net.zero W.heap.size (fun _ => False) w1 hb1.size (fun h => h)
  clear hb1
  go_upto_region 6 with fail
  generalize (w1.alloc (.cells #[.slice none 0 0] 26)) = w2 at *
  generalize w1.heap.size = g at *
  go_wp2_with fail
  refine (net_send w2 _ HN1.out (HRW.out.keepP (KeepP.of_below B1.out)) (fun b hb => .inl hb) (fun _ h => h.elim)).mono ?_
  rintro y0 w3 ⟨rfl, hn3, hb3, _⟩
  have hks : ([] : List Pk) ++ ks.take (8192 - ([] : List Pk).length) = ks := by rw [List.nil_append, List.take_of_length_le (by rw [HPL.out]; have := HN20.out; simp; omega)]
  rw [hks] at hn3
  have HN3 := Lib.hid hn3
  have B3 := Lib.hid (B1.out.trans hb3)
  clear hks hn3 hb3 HN1 HRW B1
  go_wp2_with fail
  refine (net_twice w3 j HN3.out (by rw [HPL.out]; exact hjn) (by rw [HPL.out]; have := HN20.out; omega) (fun _ h => h.elim)).mono ?_
  rintro y0 w4 ⟨rfl, hn4, hb4, _⟩
  rw [HPJ.out] at hn4
  have HN4 := Lib.hid hn4
  have B4 := Lib.hid (B3.out.trans hb4)
  clear hn4 hb4 HN3 B3
  go_wp2_with fail
  refine (net_look w4 n HN4.out (by rw [List.length_append, HPL.out]; simp)).mono ?_
  rintro y0 w5 ⟨z, rfl, hz1, hz2, hb5⟩
  have HZ1 : Hid (z.pk = y.pk) := by
    show _ = _
    rw [hz1, List.getElem_append_right (by rw [HPL.out]; exact Nat.le_refl _)]
    simp
  have HN5 := Lib.hid ((HN4.out.kept hb5).kept (oneB w5 (.cells #[.int .i64 z.f, .int .i64 z.t, .int .i64 z.n, .int .i64 z.h, .int .i64 z.x.m.k, .int .i64 z.x.m.s, .int .i64 z.x.m.n, .int .i64 z.x.m.b, .int .i64 z.x.m.c, .int .i64 z.x.m.r, .int .i64 z.x.m.y, .int .i64 z.x.m.a, .bool z.x.m.t, .slice z.x.pl z.x.m.ls.length z.x.cl, .slice z.x.pn z.x.m.ns.length z.x.cn] 38)))
  have B5 : Hid (Below W.heap.size W (w5.alloc (.cells #[.int .i64 z.f, .int .i64 z.t, .int .i64 z.n, .int .i64 z.h, .int .i64 z.x.m.k, .int .i64 z.x.m.s, .int .i64 z.x.m.n, .int .i64 z.x.m.b, .int .i64 z.x.m.c, .int .i64 z.x.m.r, .int .i64 z.x.m.y, .int .i64 z.x.m.a, .bool z.x.m.t, .slice z.x.pl z.x.m.ls.length z.x.cl, .slice z.x.pn z.x.m.ns.length z.x.cn] 38))) := (B4.out.trans (hb5.mono B4.out.size)).alloc (B4.out.trans (hb5.mono B4.out.size)).size _
  have HZ2 := Lib.hid (hz2.kept (oneB w5 (.cells #[.int .i64 z.f, .int .i64 z.t, .int .i64 z.n, .int .i64 z.h, .int .i64 z.x.m.k, .int .i64 z.x.m.s, .int .i64 z.x.m.n, .int .i64 z.x.m.b, .int .i64 z.x.m.c, .int .i64 z.x.m.r, .int .i64 z.x.m.y, .int .i64 z.x.m.a, .bool z.x.m.t, .slice z.x.pl z.x.m.ls.length z.x.cl, .slice z.x.pn z.x.m.ns.length z.x.cn] 38)))
  have HZB := Lib.hid (Blk.new w5 #[.int .i64 z.f, .int .i64 z.t, .int .i64 z.n, .int .i64 z.h, .int .i64 z.x.m.k, .int .i64 z.x.m.s, .int .i64 z.x.m.n, .int .i64 z.x.m.b, .int .i64 z.x.m.c, .int .i64 z.x.m.r, .int .i64 z.x.m.y, .int .i64 z.x.m.a, .bool z.x.m.t, .slice z.x.pl z.x.m.ls.length z.x.cl, .slice z.x.pn z.x.m.ns.length z.x.cn] 38)
  clear hz1 hz2 hb5 HN4 B4
  unfold PkX.v
  go_upto_region 10 with fail
  generalize w5.alloc (.cells #[.int .i64 z.f, .int .i64 z.t, .int .i64 z.n, .int .i64 z.h, .int .i64 z.x.m.k, .int .i64 z.x.m.s, .int .i64 z.x.m.n, .int .i64 z.x.m.b, .int .i64 z.x.m.c, .int .i64 z.x.m.r, .int .i64 z.x.m.y, .int .i64 z.x.m.a, .bool z.x.m.t, .slice z.x.pl z.x.m.ls.length z.x.cl, .slice z.x.pn z.x.m.ns.length z.x.cn] 38) = w6 at *
  generalize w5.heap.size = gz at *
  have HSM := Lib.hid (ksame_in z y w6.drew HZ1.out (HZ2.out.kept (Below.refl _ _).drew) ((HYI.out.inP.kept B5.out).kept (Below.refl _ _).drew))
  unfold PkX.v at HSM
  refine wp_region_held_drew (S := fun w' => Blk w' gz #[.int .i64 z.f, .int .i64 z.t, .int .i64 z.n, .int .i64 z.h, .int .i64 z.x.m.k, .int .i64 z.x.m.s, .int .i64 z.x.m.n, .int .i64 z.x.m.b, .int .i64 z.x.m.c, .int .i64 z.x.m.r, .int .i64 z.x.m.y, .int .i64 z.x.m.a, .bool z.x.m.t, .slice z.x.pl z.x.m.ls.length z.x.cl, .slice z.x.pn z.x.m.ns.length z.x.cn] 38 ∧ ∀ t, t < 15 → w'.cell? ⟨b, o + j * 15 + t, none⟩ = (PkX.cells y)[t]?) (by kernel_rfl) ⟨HZB.out.drew, (fun t ht => (B5.out.drew.cell (p := ⟨b, _, none⟩) HBL.out).trans (HCS.out t ht))⟩ (fun hS0 => ?_)
  refine wpAnyH_take (i := 0) (v := ?_) rfl (by kernel_rfl) (by kernel_rfl) (by kernel_rfl) (fun _ _ _ h => h) (Or.inl ⟨by kernel_rfl, ?_⟩) (by first | assumption | trivial) ?_
  rotate_left
  · intro w hSw
    try dsimp only at hSw
    first | (go_simp; done) | (go_simp; with_reducible rfl)
  try simp only [Act.put, List.getElem_toArray, List.getElem_cons_succ, List.getElem_cons_zero, List.setIfInBounds_toArray, List.set_cons_zero, List.set_cons_succ]
  refine wpAnyH_take (i := 1) (v := ?_) rfl (by kernel_rfl) (by kernel_rfl) (by kernel_rfl) (fun _ _ _ h => h) (Or.inl ⟨by kernel_rfl, ?_⟩) (by first | assumption | trivial) ?_
  rotate_left
  · intro w hSw
    try dsimp only at hSw
    first | (go_simp; done) | (go_simp; with_reducible rfl)
  try simp only [Act.put, List.getElem_toArray, List.getElem_cons_succ, List.getElem_cons_zero, List.setIfInBounds_toArray, List.set_cons_zero, List.set_cons_succ]
  refine wpAnyH_take (i := 2) (v := ?_) rfl (by kernel_rfl) (by kernel_rfl) (by kernel_rfl) (fun _ _ _ h => h) (Or.inl ⟨by kernel_rfl, ?_⟩) (by first | assumption | trivial) ?_
  rotate_left
  · intro w hSw
    try dsimp only at hSw
    first | (go_simp; done) | (go_simp; with_reducible rfl)
  try simp only [Act.put, List.getElem_toArray, List.getElem_cons_succ, List.getElem_cons_zero, List.setIfInBounds_toArray, List.set_cons_zero, List.set_cons_succ]
  refine wpAnyH_take (i := 3) (v := ?_) rfl (by kernel_rfl) (by kernel_rfl) (by kernel_rfl) (fun _ _ _ h => h) (Or.inl ⟨by kernel_rfl, ?_⟩) (by first | assumption | trivial) ?_
  rotate_left
  · intro w hSw
    try dsimp only at hSw
    have a0 : w.cell? ⟨gz, 0, none⟩ = some (.int .i64 z.f) := hSw.1.cell 0
    have a1 : w.cell? ⟨gz, 1, none⟩ = some (.int .i64 z.t) := hSw.1.cell 1
    have a2 : w.cell? ⟨gz, 2, none⟩ = some (.int .i64 z.n) := hSw.1.cell 2
    have a3 : w.cell? ⟨gz, 3, none⟩ = some (.int .i64 z.h) := hSw.1.cell 3
    have a4 : w.cell? ⟨gz, 4, none⟩ = some (.int .i64 z.x.m.k) := hSw.1.cell 4
    have a5 : w.cell? ⟨gz, 5, none⟩ = some (.int .i64 z.x.m.s) := hSw.1.cell 5
    have a6 : w.cell? ⟨gz, 6, none⟩ = some (.int .i64 z.x.m.n) := hSw.1.cell 6
    have a7 : w.cell? ⟨gz, 7, none⟩ = some (.int .i64 z.x.m.b) := hSw.1.cell 7
    have a8 : w.cell? ⟨gz, 8, none⟩ = some (.int .i64 z.x.m.c) := hSw.1.cell 8
    have a9 : w.cell? ⟨gz, 9, none⟩ = some (.int .i64 z.x.m.r) := hSw.1.cell 9
    have a10 : w.cell? ⟨gz, 10, none⟩ = some (.int .i64 z.x.m.y) := hSw.1.cell 10
    have a11 : w.cell? ⟨gz, 11, none⟩ = some (.int .i64 z.x.m.a) := hSw.1.cell 11
    have a12 : w.cell? ⟨gz, 12, none⟩ = some (.bool z.x.m.t) := hSw.1.cell 12
    have a13 : w.cell? ⟨gz, 13, none⟩ = some (.slice z.x.pl z.x.m.ls.length z.x.cl) := hSw.1.cell 13
    have a14 : w.cell? ⟨gz, 14, none⟩ = some (.slice z.x.pn z.x.m.ns.length z.x.cn) := hSw.1.cell 14
    clear hSw
    first | (go_simp; done) | (go_simp; with_reducible rfl)
  try simp only [Act.put, List.getElem_toArray, List.getElem_cons_succ, List.getElem_cons_zero, List.setIfInBounds_toArray, List.set_cons_zero, List.set_cons_succ]
  refine wpAnyH_take (i := 4) (v := ?_) rfl (by kernel_rfl) (by kernel_rfl) (by kernel_rfl) (fun _ _ _ h => h) (Or.inl ⟨by kernel_rfl, ?_⟩) (by first | assumption | trivial) ?_
  rotate_left
  · intro w hSw
    try dsimp only at hSw
    first | (go_simp; done) | (go_simp; with_reducible rfl)
  try simp only [Act.put, List.getElem_toArray, List.getElem_cons_succ, List.getElem_cons_zero, List.setIfInBounds_toArray, List.set_cons_zero, List.set_cons_succ]
  refine wpAnyH_take (i := 5) (v := ?_) rfl (by kernel_rfl) (by kernel_rfl) (by kernel_rfl) (fun _ _ _ h => h) (Or.inl ⟨by kernel_rfl, ?_⟩) (by first | assumption | trivial) ?_
  rotate_left
  · intro w hSw
    try dsimp only at hSw
    first | (go_simp; done) | (go_simp; with_reducible rfl)
  try simp only [Act.put, List.getElem_toArray, List.getElem_cons_succ, List.getElem_cons_zero, List.setIfInBounds_toArray, List.set_cons_zero, List.set_cons_succ]
  refine wpAnyH_take (i := 6) (v := ?_) rfl (by kernel_rfl) (by kernel_rfl) (by kernel_rfl) (fun _ _ _ h => h) (Or.inl ⟨by kernel_rfl, ?_⟩) (by first | assumption | trivial) ?_
  rotate_left
  · intro w hSw
    try dsimp only at hSw
    first | (go_simp; done) | (go_simp; with_reducible rfl)
  try simp only [Act.put, List.getElem_toArray, List.getElem_cons_succ, List.getElem_cons_zero, List.setIfInBounds_toArray, List.set_cons_zero, List.set_cons_succ]
  refine wpAnyH_take (i := 7) (v := ?_) rfl (by kernel_rfl) (by kernel_rfl) (by kernel_rfl) (fun _ _ _ h => h) (Or.inl ⟨by kernel_rfl, ?_⟩) (by first | assumption | trivial) ?_
  rotate_left
  · intro w hSw
    try dsimp only at hSw
    have a0 : w.cell? ⟨b, o + j * 15, none⟩ = some (.int .i64 y.f) := hSw.2 0 (by decide)
    have a1 : w.cell? ⟨b, o + j * 15 + 1, none⟩ = some (.int .i64 y.t) := hSw.2 1 (by decide)
    have a2 : w.cell? ⟨b, o + j * 15 + 2, none⟩ = some (.int .i64 y.n) := hSw.2 2 (by decide)
    have a3 : w.cell? ⟨b, o + j * 15 + 3, none⟩ = some (.int .i64 y.h) := hSw.2 3 (by decide)
    have a4 : w.cell? ⟨b, o + j * 15 + 4, none⟩ = some (.int .i64 y.x.m.k) := hSw.2 4 (by decide)
    have a5 : w.cell? ⟨b, o + j * 15 + 5, none⟩ = some (.int .i64 y.x.m.s) := hSw.2 5 (by decide)
    have a6 : w.cell? ⟨b, o + j * 15 + 6, none⟩ = some (.int .i64 y.x.m.n) := hSw.2 6 (by decide)
    have a7 : w.cell? ⟨b, o + j * 15 + 7, none⟩ = some (.int .i64 y.x.m.b) := hSw.2 7 (by decide)
    have a8 : w.cell? ⟨b, o + j * 15 + 8, none⟩ = some (.int .i64 y.x.m.c) := hSw.2 8 (by decide)
    have a9 : w.cell? ⟨b, o + j * 15 + 9, none⟩ = some (.int .i64 y.x.m.r) := hSw.2 9 (by decide)
    have a10 : w.cell? ⟨b, o + j * 15 + 10, none⟩ = some (.int .i64 y.x.m.y) := hSw.2 10 (by decide)
    have a11 : w.cell? ⟨b, o + j * 15 + 11, none⟩ = some (.int .i64 y.x.m.a) := hSw.2 11 (by decide)
    have a12 : w.cell? ⟨b, o + j * 15 + 12, none⟩ = some (.bool y.x.m.t) := hSw.2 12 (by decide)
    have a13 : w.cell? ⟨b, o + j * 15 + 13, none⟩ = some (.slice y.x.pl y.x.m.ls.length y.x.cl) := hSw.2 13 (by decide)
    have a14 : w.cell? ⟨b, o + j * 15 + 14, none⟩ = some (.slice y.x.pn y.x.m.ns.length y.x.cn) := hSw.2 14 (by decide)
    clear hSw
    first | (go_simp; done) | (go_simp; with_reducible rfl)
  try simp only [Act.put, List.getElem_toArray, List.getElem_cons_succ, List.getElem_cons_zero, List.setIfInBounds_toArray, List.set_cons_zero, List.set_cons_succ]
  refine wpAnyH_ready (rs := [8]) (by kernel_rfl) (by simp) ?_
  refine AllReadyH.cons rfl (fun K hK => ?_) AllReadyH.nil
  go_simp
  go_at_call 11
  refine (HSM.out).mono ?_
  rintro y0 w7 ⟨rfl, hbs⟩
  have B7 := Lib.hid (B5.out.trans ((Below.refl w6.heap.size w6).drew.trans hbs |>.mono B5.out.size))
  have hS2 : Blk w7 gz #[.int .i64 z.f, .int .i64 z.t, .int .i64 z.n, .int .i64 z.h, .int .i64 z.x.m.k, .int .i64 z.x.m.s, .int .i64 z.x.m.n, .int .i64 z.x.m.b, .int .i64 z.x.m.c, .int .i64 z.x.m.r, .int .i64 z.x.m.y, .int .i64 z.x.m.a, .bool z.x.m.t, .slice z.x.pl z.x.m.ls.length z.x.cl, .slice z.x.pn z.x.m.ns.length z.x.cn] 38 ∧ ∀ t, t < 15 → w7.cell? ⟨b, o + j * 15 + t, none⟩ = (PkX.cells y)[t]? := ⟨(HZB.out.drew).below hbs HZB.out.lt, fun t ht => (B7.out.cell (p := ⟨b, _, none⟩) HBL.out).trans (HCS.out t ht)⟩
  have HN7 := Lib.hid ((HN5.out.kept (Below.refl _ _).drew).kept hbs)
  clear hbs HSM
  try go_wp2_with fail
  refine hK.out _ _ hS2 (fun hS => ?_)
  clear hK K
  try simp only [Act.put, List.getElem_toArray, List.getElem_cons_succ, List.getElem_cons_zero, List.setIfInBounds_toArray, List.set_cons_zero, List.set_cons_succ]
  refine wpAnyH_take (i := 9) (v := ?_) rfl (by kernel_rfl) (by kernel_rfl) (by kernel_rfl) (fun _ _ _ h => h) (Or.inl ⟨by kernel_rfl, ?_⟩) (by first | assumption | trivial) ?_
  rotate_left
  · intro w hSw
    try dsimp only at hSw
    first | (go_simp; done) | (go_simp; with_reducible rfl)
  try simp only [Act.put, List.getElem_toArray, List.getElem_cons_succ, List.getElem_cons_zero, List.setIfInBounds_toArray, List.set_cons_zero, List.set_cons_succ]
  refine wpAnyH_take (i := 10) (v := ?_) rfl (by kernel_rfl) (by kernel_rfl) (by kernel_rfl) (fun _ _ _ h => h) (Or.inl ⟨by kernel_rfl, ?_⟩) (by first | assumption | trivial) ?_
  rotate_left
  · intro w hSw
    try dsimp only at hSw
    first | (go_simp; done) | (go_simp; with_reducible rfl)
  try simp only [Act.put, List.getElem_toArray, List.getElem_cons_succ, List.getElem_cons_zero, List.setIfInBounds_toArray, List.set_cons_zero, List.set_cons_succ]
  refine wpAnyH_done (by kernel_rfl) ?_ _
  clear hS hS0
  clear HZB HZ2 HN5 B5
  cases lose
  · as_aux_lemma =>
    go_wp2_with fail
    refine (net_take w7 j HN7.out (by rw [List.length_append, HPL.out]; simp; omega)).mono ?_
    rintro y0 w9 ⟨q, rfl, hz1, hz2, hn9, hb9, _⟩
    have HZ1' : Hid (q.pk = y.pk) := by
      show _ = _
      rw [hz1]
      rw [List.getElem_append_left (by rw [HPL.out]; exact hjn)]; exact HPJ.out _
    have HN9 := Lib.hid (hn9.kept (oneB w9 (.cells #[.int .i64 q.f, .int .i64 q.t, .int .i64 q.n, .int .i64 q.h, .int .i64 q.x.m.k, .int .i64 q.x.m.s, .int .i64 q.x.m.n, .int .i64 q.x.m.b, .int .i64 q.x.m.c, .int .i64 q.x.m.r, .int .i64 q.x.m.y, .int .i64 q.x.m.a, .bool q.x.m.t, .slice q.x.pl q.x.m.ls.length q.x.cl, .slice q.x.pn q.x.m.ns.length q.x.cn] 38)))
    have HL9 : Hid (((ks ++ [y.pk]).eraseIdx j).length = n) := by show _ = _; rw [List.length_eraseIdx, List.length_append, HPL.out]; simp; omega
    have B9 : Hid (Below W.heap.size W (w9.alloc (.cells #[.int .i64 q.f, .int .i64 q.t, .int .i64 q.n, .int .i64 q.h, .int .i64 q.x.m.k, .int .i64 q.x.m.s, .int .i64 q.x.m.n, .int .i64 q.x.m.b, .int .i64 q.x.m.c, .int .i64 q.x.m.r, .int .i64 q.x.m.y, .int .i64 q.x.m.a, .bool q.x.m.t, .slice q.x.pl q.x.m.ls.length q.x.cl, .slice q.x.pn q.x.m.ns.length q.x.cn] 38))) := (B7.out.trans hb9).alloc (B7.out.trans hb9).size _
    have HZ2 := Lib.hid (hz2.kept (oneB w9 (.cells #[.int .i64 q.f, .int .i64 q.t, .int .i64 q.n, .int .i64 q.h, .int .i64 q.x.m.k, .int .i64 q.x.m.s, .int .i64 q.x.m.n, .int .i64 q.x.m.b, .int .i64 q.x.m.c, .int .i64 q.x.m.r, .int .i64 q.x.m.y, .int .i64 q.x.m.a, .bool q.x.m.t, .slice q.x.pl q.x.m.ls.length q.x.cl, .slice q.x.pn q.x.m.ns.length q.x.cn] 38)))
    have HZB := Lib.hid (Blk.new w9 #[.int .i64 q.f, .int .i64 q.t, .int .i64 q.n, .int .i64 q.h, .int .i64 q.x.m.k, .int .i64 q.x.m.s, .int .i64 q.x.m.n, .int .i64 q.x.m.b, .int .i64 q.x.m.c, .int .i64 q.x.m.r, .int .i64 q.x.m.y, .int .i64 q.x.m.a, .bool q.x.m.t, .slice q.x.pl q.x.m.ls.length q.x.cl, .slice q.x.pn q.x.m.ns.length q.x.cn] 38)
    clear hz1 hz2 hn9 hb9 HN7 B7
    unfold PkX.v
    go_upto_region 15 with fail
    generalize w9.alloc (.cells #[.int .i64 q.f, .int .i64 q.t, .int .i64 q.n, .int .i64 q.h, .int .i64 q.x.m.k, .int .i64 q.x.m.s, .int .i64 q.x.m.n, .int .i64 q.x.m.b, .int .i64 q.x.m.c, .int .i64 q.x.m.r, .int .i64 q.x.m.y, .int .i64 q.x.m.a, .bool q.x.m.t, .slice q.x.pl q.x.m.ls.length q.x.cl, .slice q.x.pn q.x.m.ns.length q.x.cn] 38) = wa at *
    generalize w9.heap.size = gq at *
    have HSM := Lib.hid (ksame_in q y wa.drew HZ1'.out (HZ2.out.kept (Below.refl _ _).drew) ((HYI.out.inP.kept B9.out).kept (Below.refl _ _).drew))
    unfold PkX.v at HSM
    refine wp_region_held_drew (S := fun w' => Blk w' gq #[.int .i64 q.f, .int .i64 q.t, .int .i64 q.n, .int .i64 q.h, .int .i64 q.x.m.k, .int .i64 q.x.m.s, .int .i64 q.x.m.n, .int .i64 q.x.m.b, .int .i64 q.x.m.c, .int .i64 q.x.m.r, .int .i64 q.x.m.y, .int .i64 q.x.m.a, .bool q.x.m.t, .slice q.x.pl q.x.m.ls.length q.x.cl, .slice q.x.pn q.x.m.ns.length q.x.cn] 38 ∧ ∀ t, t < 15 → w'.cell? ⟨b, o + j * 15 + t, none⟩ = (PkX.cells y)[t]?) (by kernel_rfl) ⟨HZB.out.drew, (fun t ht => (B9.out.drew.cell (p := ⟨b, _, none⟩) HBL.out).trans (HCS.out t ht))⟩ (fun hS0 => ?_)
    refine wpAnyH_take (i := 0) (v := ?_) rfl (by kernel_rfl) (by kernel_rfl) (by kernel_rfl) (fun _ _ _ h => h) (Or.inl ⟨by kernel_rfl, ?_⟩) (by first | assumption | trivial) ?_
    rotate_left
    · intro w hSw
      try dsimp only at hSw
      first | (go_simp; done) | (go_simp; with_reducible rfl)
    try simp only [Act.put, List.getElem_toArray, List.getElem_cons_succ, List.getElem_cons_zero, List.setIfInBounds_toArray, List.set_cons_zero, List.set_cons_succ]
    refine wpAnyH_take (i := 1) (v := ?_) rfl (by kernel_rfl) (by kernel_rfl) (by kernel_rfl) (fun _ _ _ h => h) (Or.inl ⟨by kernel_rfl, ?_⟩) (by first | assumption | trivial) ?_
    rotate_left
    · intro w hSw
      try dsimp only at hSw
      first | (go_simp; done) | (go_simp; with_reducible rfl)
    try simp only [Act.put, List.getElem_toArray, List.getElem_cons_succ, List.getElem_cons_zero, List.setIfInBounds_toArray, List.set_cons_zero, List.set_cons_succ]
    refine wpAnyH_take (i := 2) (v := ?_) rfl (by kernel_rfl) (by kernel_rfl) (by kernel_rfl) (fun _ _ _ h => h) (Or.inl ⟨by kernel_rfl, ?_⟩) (by first | assumption | trivial) ?_
    rotate_left
    · intro w hSw
      try dsimp only at hSw
      first | (go_simp; done) | (go_simp; with_reducible rfl)
    try simp only [Act.put, List.getElem_toArray, List.getElem_cons_succ, List.getElem_cons_zero, List.setIfInBounds_toArray, List.set_cons_zero, List.set_cons_succ]
    refine wpAnyH_take (i := 3) (v := ?_) rfl (by kernel_rfl) (by kernel_rfl) (by kernel_rfl) (fun _ _ _ h => h) (Or.inl ⟨by kernel_rfl, ?_⟩) (by first | assumption | trivial) ?_
    rotate_left
    · intro w hSw
      try dsimp only at hSw
      have a0 : w.cell? ⟨gq, 0, none⟩ = some (.int .i64 q.f) := hSw.1.cell 0
      have a1 : w.cell? ⟨gq, 1, none⟩ = some (.int .i64 q.t) := hSw.1.cell 1
      have a2 : w.cell? ⟨gq, 2, none⟩ = some (.int .i64 q.n) := hSw.1.cell 2
      have a3 : w.cell? ⟨gq, 3, none⟩ = some (.int .i64 q.h) := hSw.1.cell 3
      have a4 : w.cell? ⟨gq, 4, none⟩ = some (.int .i64 q.x.m.k) := hSw.1.cell 4
      have a5 : w.cell? ⟨gq, 5, none⟩ = some (.int .i64 q.x.m.s) := hSw.1.cell 5
      have a6 : w.cell? ⟨gq, 6, none⟩ = some (.int .i64 q.x.m.n) := hSw.1.cell 6
      have a7 : w.cell? ⟨gq, 7, none⟩ = some (.int .i64 q.x.m.b) := hSw.1.cell 7
      have a8 : w.cell? ⟨gq, 8, none⟩ = some (.int .i64 q.x.m.c) := hSw.1.cell 8
      have a9 : w.cell? ⟨gq, 9, none⟩ = some (.int .i64 q.x.m.r) := hSw.1.cell 9
      have a10 : w.cell? ⟨gq, 10, none⟩ = some (.int .i64 q.x.m.y) := hSw.1.cell 10
      have a11 : w.cell? ⟨gq, 11, none⟩ = some (.int .i64 q.x.m.a) := hSw.1.cell 11
      have a12 : w.cell? ⟨gq, 12, none⟩ = some (.bool q.x.m.t) := hSw.1.cell 12
      have a13 : w.cell? ⟨gq, 13, none⟩ = some (.slice q.x.pl q.x.m.ls.length q.x.cl) := hSw.1.cell 13
      have a14 : w.cell? ⟨gq, 14, none⟩ = some (.slice q.x.pn q.x.m.ns.length q.x.cn) := hSw.1.cell 14
      clear hSw
      first | (go_simp; done) | (go_simp; with_reducible rfl)
    try simp only [Act.put, List.getElem_toArray, List.getElem_cons_succ, List.getElem_cons_zero, List.setIfInBounds_toArray, List.set_cons_zero, List.set_cons_succ]
    refine wpAnyH_take (i := 4) (v := ?_) rfl (by kernel_rfl) (by kernel_rfl) (by kernel_rfl) (fun _ _ _ h => h) (Or.inl ⟨by kernel_rfl, ?_⟩) (by first | assumption | trivial) ?_
    rotate_left
    · intro w hSw
      try dsimp only at hSw
      first | (go_simp; done) | (go_simp; with_reducible rfl)
    try simp only [Act.put, List.getElem_toArray, List.getElem_cons_succ, List.getElem_cons_zero, List.setIfInBounds_toArray, List.set_cons_zero, List.set_cons_succ]
    refine wpAnyH_take (i := 5) (v := ?_) rfl (by kernel_rfl) (by kernel_rfl) (by kernel_rfl) (fun _ _ _ h => h) (Or.inl ⟨by kernel_rfl, ?_⟩) (by first | assumption | trivial) ?_
    rotate_left
    · intro w hSw
      try dsimp only at hSw
      first | (go_simp; done) | (go_simp; with_reducible rfl)
    try simp only [Act.put, List.getElem_toArray, List.getElem_cons_succ, List.getElem_cons_zero, List.setIfInBounds_toArray, List.set_cons_zero, List.set_cons_succ]
    refine wpAnyH_take (i := 6) (v := ?_) rfl (by kernel_rfl) (by kernel_rfl) (by kernel_rfl) (fun _ _ _ h => h) (Or.inl ⟨by kernel_rfl, ?_⟩) (by first | assumption | trivial) ?_
    rotate_left
    · intro w hSw
      try dsimp only at hSw
      first | (go_simp; done) | (go_simp; with_reducible rfl)
    try simp only [Act.put, List.getElem_toArray, List.getElem_cons_succ, List.getElem_cons_zero, List.setIfInBounds_toArray, List.set_cons_zero, List.set_cons_succ]
    refine wpAnyH_take (i := 7) (v := ?_) rfl (by kernel_rfl) (by kernel_rfl) (by kernel_rfl) (fun _ _ _ h => h) (Or.inl ⟨by kernel_rfl, ?_⟩) (by first | assumption | trivial) ?_
    rotate_left
    · intro w hSw
      try dsimp only at hSw
      have a0 : w.cell? ⟨b, o + j * 15, none⟩ = some (.int .i64 y.f) := hSw.2 0 (by decide)
      have a1 : w.cell? ⟨b, o + j * 15 + 1, none⟩ = some (.int .i64 y.t) := hSw.2 1 (by decide)
      have a2 : w.cell? ⟨b, o + j * 15 + 2, none⟩ = some (.int .i64 y.n) := hSw.2 2 (by decide)
      have a3 : w.cell? ⟨b, o + j * 15 + 3, none⟩ = some (.int .i64 y.h) := hSw.2 3 (by decide)
      have a4 : w.cell? ⟨b, o + j * 15 + 4, none⟩ = some (.int .i64 y.x.m.k) := hSw.2 4 (by decide)
      have a5 : w.cell? ⟨b, o + j * 15 + 5, none⟩ = some (.int .i64 y.x.m.s) := hSw.2 5 (by decide)
      have a6 : w.cell? ⟨b, o + j * 15 + 6, none⟩ = some (.int .i64 y.x.m.n) := hSw.2 6 (by decide)
      have a7 : w.cell? ⟨b, o + j * 15 + 7, none⟩ = some (.int .i64 y.x.m.b) := hSw.2 7 (by decide)
      have a8 : w.cell? ⟨b, o + j * 15 + 8, none⟩ = some (.int .i64 y.x.m.c) := hSw.2 8 (by decide)
      have a9 : w.cell? ⟨b, o + j * 15 + 9, none⟩ = some (.int .i64 y.x.m.r) := hSw.2 9 (by decide)
      have a10 : w.cell? ⟨b, o + j * 15 + 10, none⟩ = some (.int .i64 y.x.m.y) := hSw.2 10 (by decide)
      have a11 : w.cell? ⟨b, o + j * 15 + 11, none⟩ = some (.int .i64 y.x.m.a) := hSw.2 11 (by decide)
      have a12 : w.cell? ⟨b, o + j * 15 + 12, none⟩ = some (.bool y.x.m.t) := hSw.2 12 (by decide)
      have a13 : w.cell? ⟨b, o + j * 15 + 13, none⟩ = some (.slice y.x.pl y.x.m.ls.length y.x.cl) := hSw.2 13 (by decide)
      have a14 : w.cell? ⟨b, o + j * 15 + 14, none⟩ = some (.slice y.x.pn y.x.m.ns.length y.x.cn) := hSw.2 14 (by decide)
      clear hSw
      first | (go_simp; done) | (go_simp; with_reducible rfl)
    try simp only [Act.put, List.getElem_toArray, List.getElem_cons_succ, List.getElem_cons_zero, List.setIfInBounds_toArray, List.set_cons_zero, List.set_cons_succ]
    refine wpAnyH_ready (rs := [8]) (by kernel_rfl) (by simp) ?_
    refine AllReadyH.cons rfl (fun K hK => ?_) AllReadyH.nil
    go_simp
    go_at_call 11
    refine (HSM.out).mono ?_
    rintro y0 wb ⟨rfl, hbs⟩
    have Bb := Lib.hid (B9.out.trans ((Below.refl wa.heap.size wa).drew.trans hbs |>.mono B9.out.size))
    have hS2 : Blk wb gq #[.int .i64 q.f, .int .i64 q.t, .int .i64 q.n, .int .i64 q.h, .int .i64 q.x.m.k, .int .i64 q.x.m.s, .int .i64 q.x.m.n, .int .i64 q.x.m.b, .int .i64 q.x.m.c, .int .i64 q.x.m.r, .int .i64 q.x.m.y, .int .i64 q.x.m.a, .bool q.x.m.t, .slice q.x.pl q.x.m.ls.length q.x.cl, .slice q.x.pn q.x.m.ns.length q.x.cn] 38 ∧ ∀ t, t < 15 → wb.cell? ⟨b, o + j * 15 + t, none⟩ = (PkX.cells y)[t]? := ⟨(HZB.out.drew).below hbs HZB.out.lt, fun t ht => (Bb.out.cell (p := ⟨b, _, none⟩) HBL.out).trans (HCS.out t ht)⟩
    have HNb := Lib.hid ((HN9.out.kept (Below.refl _ _).drew).kept hbs)
    clear hbs HSM
    try go_wp2_with fail
    refine hK.out _ _ hS2 (fun hS => ?_)
    clear hK K
    try simp only [Act.put, List.getElem_toArray, List.getElem_cons_succ, List.getElem_cons_zero, List.setIfInBounds_toArray, List.set_cons_zero, List.set_cons_succ]
    refine wpAnyH_take (i := 9) (v := ?_) rfl (by kernel_rfl) (by kernel_rfl) (by kernel_rfl) (fun _ _ _ h => h) (Or.inl ⟨by kernel_rfl, ?_⟩) (by first | assumption | trivial) ?_
    rotate_left
    · intro w hSw
      try dsimp only at hSw
      first | (go_simp; done) | (go_simp; with_reducible rfl)
    try simp only [Act.put, List.getElem_toArray, List.getElem_cons_succ, List.getElem_cons_zero, List.setIfInBounds_toArray, List.set_cons_zero, List.set_cons_succ]
    refine wpAnyH_take (i := 10) (v := ?_) rfl (by kernel_rfl) (by kernel_rfl) (by kernel_rfl) (fun _ _ _ h => h) (Or.inl ⟨by kernel_rfl, ?_⟩) (by first | assumption | trivial) ?_
    rotate_left
    · intro w hSw
      try dsimp only at hSw
      first | (go_simp; done) | (go_simp; with_reducible rfl)
    try simp only [Act.put, List.getElem_toArray, List.getElem_cons_succ, List.getElem_cons_zero, List.setIfInBounds_toArray, List.set_cons_zero, List.set_cons_succ]
    refine wpAnyH_take (i := 12) (v := ?_) rfl (by kernel_rfl) (by kernel_rfl) (by kernel_rfl) (fun _ _ _ h => h) (Or.inl ⟨by kernel_rfl, ?_⟩) (by first | assumption | trivial) ?_
    rotate_left
    · intro w hSw
      try dsimp only at hSw
      first | (go_simp; done) | (go_simp; with_reducible rfl)
    try simp only [Act.put, List.getElem_toArray, List.getElem_cons_succ, List.getElem_cons_zero, List.setIfInBounds_toArray, List.set_cons_zero, List.set_cons_succ]
    refine wpAnyH_take (i := 13) (v := ?_) rfl (by kernel_rfl) (by kernel_rfl) (by kernel_rfl) (fun _ _ _ h => h) (Or.inl ⟨by kernel_rfl, ?_⟩) (by first | assumption | trivial) ?_
    rotate_left
    · intro w hSw
      try dsimp only at hSw
      first | (go_simp; done) | (go_simp; with_reducible rfl)
    try simp only [Act.put, List.getElem_toArray, List.getElem_cons_succ, List.getElem_cons_zero, List.setIfInBounds_toArray, List.set_cons_zero, List.set_cons_succ]
    refine wpAnyH_take (i := 15) (v := ?_) rfl (by kernel_rfl) (by kernel_rfl) (by kernel_rfl) (fun _ _ _ h => h) (Or.inl ⟨by kernel_rfl, ?_⟩) (by first | assumption | trivial) ?_
    rotate_left
    · intro w hSw
      try dsimp only at hSw
      first | (go_simp; done) | (go_simp; with_reducible rfl)
    try simp only [Act.put, List.getElem_toArray, List.getElem_cons_succ, List.getElem_cons_zero, List.setIfInBounds_toArray, List.set_cons_zero, List.set_cons_succ]
    refine wpAnyH_ready (rs := [11]) (by kernel_rfl) (by simp) ?_
    refine AllReadyH.cons rfl (fun K hK => ?_) AllReadyH.nil
    go_simp
    go_at_call 14
    refine (net_len wb HNb.out).mono ?_
    rintro y0 wc ⟨rfl, rfl⟩
    rw [HL9.out]
    try go_wp2_with fail
    refine hK.out _ _ hS (fun hS => ?_)
    clear hK K
    try simp only [Act.put, List.getElem_toArray, List.getElem_cons_succ, List.getElem_cons_zero, List.setIfInBounds_toArray, List.set_cons_zero, List.set_cons_succ]
    refine wpAnyH_take (i := 14) (v := ?_) rfl (by kernel_rfl) (by kernel_rfl) (by kernel_rfl) (fun _ _ _ h => h) (Or.inl ⟨by kernel_rfl, ?_⟩) (by first | assumption | trivial) ?_
    rotate_left
    · intro w hSw
      try dsimp only at hSw
      first | (go_simp; done) | (go_simp; with_reducible rfl)
    try simp only [Act.put, List.getElem_toArray, List.getElem_cons_succ, List.getElem_cons_zero, List.setIfInBounds_toArray, List.set_cons_zero, List.set_cons_succ]
    refine wpAnyH_take (i := 16) (v := ?_) rfl (by kernel_rfl) (by kernel_rfl) (by kernel_rfl) (fun _ _ _ h => h) (Or.inl ⟨by kernel_rfl, ?_⟩) (by first | assumption | trivial) ?_
    rotate_left
    · intro w hSw
      try dsimp only at hSw
      first | (go_simp; done) | (go_simp; with_reducible rfl)
    try simp only [Act.put, List.getElem_toArray, List.getElem_cons_succ, List.getElem_cons_zero, List.setIfInBounds_toArray, List.set_cons_zero, List.set_cons_succ]
    refine wpAnyH_take (i := 17) (v := ?_) rfl (by kernel_rfl) (by kernel_rfl) (by kernel_rfl) (fun _ _ _ h => h) (Or.inl ⟨by kernel_rfl, ?_⟩) (by first | assumption | trivial) ?_
    rotate_left
    · intro w hSw
      try dsimp only at hSw
      first | (go_simp; done) | (go_simp; with_reducible rfl)
    try simp only [Act.put, List.getElem_toArray, List.getElem_cons_succ, List.getElem_cons_zero, List.setIfInBounds_toArray, List.set_cons_zero, List.set_cons_succ]
    refine wpAnyH_take (i := 18) (v := ?_) rfl (by kernel_rfl) (by kernel_rfl) (by kernel_rfl) (fun _ _ _ h => h) (Or.inl ⟨by kernel_rfl, ?_⟩) (by first | assumption | trivial) ?_
    rotate_left
    · intro w hSw
      try dsimp only at hSw
      first | (go_simp; done) | (go_simp; with_reducible rfl)
    try simp only [Act.put, List.getElem_toArray, List.getElem_cons_succ, List.getElem_cons_zero, List.setIfInBounds_toArray, List.set_cons_zero, List.set_cons_succ]
    refine wpAnyH_done (by kernel_rfl) ?_ _
    clear hS hS0
    go_wp2_with fail
    go_ret
    exact ⟨rfl, Bb.out⟩
  · as_aux_lemma =>
    go_wp2_with fail
    refine (net_take w7 n HN7.out (by rw [List.length_append, HPL.out]; simp)).mono ?_
    rintro y0 w8 ⟨_, rfl, _, _, hn8, hb8, _⟩
    have hks : (ks ++ [y.pk]).eraseIdx n = ks := by
      rw [List.eraseIdx_append_of_length_le (by rw [HPL.out]; exact Nat.le_refl _), HPL.out, Nat.sub_self]
      simp
    rw [hks] at hn8
    have HN8 := Lib.hid hn8
    have B8 := Lib.hid (B7.out.trans hb8)
    clear hks hn8 hb8 HN7 B7
    go_wp2_with fail
    refine (net_take w8 j HN8.out (by rw [HPL.out]; exact hjn)).mono ?_
    rintro y0 w9 ⟨q, rfl, hz1, hz2, hn9, hb9, _⟩
    have HZ1' : Hid (q.pk = y.pk) := by
      show _ = _
      rw [hz1]
      exact HPJ.out _
    have HN9 := Lib.hid (hn9.kept (oneB w9 (.cells #[.int .i64 q.f, .int .i64 q.t, .int .i64 q.n, .int .i64 q.h, .int .i64 q.x.m.k, .int .i64 q.x.m.s, .int .i64 q.x.m.n, .int .i64 q.x.m.b, .int .i64 q.x.m.c, .int .i64 q.x.m.r, .int .i64 q.x.m.y, .int .i64 q.x.m.a, .bool q.x.m.t, .slice q.x.pl q.x.m.ls.length q.x.cl, .slice q.x.pn q.x.m.ns.length q.x.cn] 38)))
    have HL9 : Hid ((ks.eraseIdx j).length = n - 1) := by show _ = _; rw [List.length_eraseIdx, HPL.out]; rw [if_pos hjn]
    have B9 : Hid (Below W.heap.size W (w9.alloc (.cells #[.int .i64 q.f, .int .i64 q.t, .int .i64 q.n, .int .i64 q.h, .int .i64 q.x.m.k, .int .i64 q.x.m.s, .int .i64 q.x.m.n, .int .i64 q.x.m.b, .int .i64 q.x.m.c, .int .i64 q.x.m.r, .int .i64 q.x.m.y, .int .i64 q.x.m.a, .bool q.x.m.t, .slice q.x.pl q.x.m.ls.length q.x.cl, .slice q.x.pn q.x.m.ns.length q.x.cn] 38))) := (B8.out.trans hb9).alloc (B8.out.trans hb9).size _
    have HZ2 := Lib.hid (hz2.kept (oneB w9 (.cells #[.int .i64 q.f, .int .i64 q.t, .int .i64 q.n, .int .i64 q.h, .int .i64 q.x.m.k, .int .i64 q.x.m.s, .int .i64 q.x.m.n, .int .i64 q.x.m.b, .int .i64 q.x.m.c, .int .i64 q.x.m.r, .int .i64 q.x.m.y, .int .i64 q.x.m.a, .bool q.x.m.t, .slice q.x.pl q.x.m.ls.length q.x.cl, .slice q.x.pn q.x.m.ns.length q.x.cn] 38)))
    have HZB := Lib.hid (Blk.new w9 #[.int .i64 q.f, .int .i64 q.t, .int .i64 q.n, .int .i64 q.h, .int .i64 q.x.m.k, .int .i64 q.x.m.s, .int .i64 q.x.m.n, .int .i64 q.x.m.b, .int .i64 q.x.m.c, .int .i64 q.x.m.r, .int .i64 q.x.m.y, .int .i64 q.x.m.a, .bool q.x.m.t, .slice q.x.pl q.x.m.ls.length q.x.cl, .slice q.x.pn q.x.m.ns.length q.x.cn] 38)
    clear hz1 hz2 hn9 hb9 HN8 B8
    unfold PkX.v
    go_upto_region 15 with fail
    generalize w9.alloc (.cells #[.int .i64 q.f, .int .i64 q.t, .int .i64 q.n, .int .i64 q.h, .int .i64 q.x.m.k, .int .i64 q.x.m.s, .int .i64 q.x.m.n, .int .i64 q.x.m.b, .int .i64 q.x.m.c, .int .i64 q.x.m.r, .int .i64 q.x.m.y, .int .i64 q.x.m.a, .bool q.x.m.t, .slice q.x.pl q.x.m.ls.length q.x.cl, .slice q.x.pn q.x.m.ns.length q.x.cn] 38) = wa at *
    generalize w9.heap.size = gq at *
    have HSM := Lib.hid (ksame_in q y wa.drew HZ1'.out (HZ2.out.kept (Below.refl _ _).drew) ((HYI.out.inP.kept B9.out).kept (Below.refl _ _).drew))
    unfold PkX.v at HSM
    refine wp_region_held_drew (S := fun w' => Blk w' gq #[.int .i64 q.f, .int .i64 q.t, .int .i64 q.n, .int .i64 q.h, .int .i64 q.x.m.k, .int .i64 q.x.m.s, .int .i64 q.x.m.n, .int .i64 q.x.m.b, .int .i64 q.x.m.c, .int .i64 q.x.m.r, .int .i64 q.x.m.y, .int .i64 q.x.m.a, .bool q.x.m.t, .slice q.x.pl q.x.m.ls.length q.x.cl, .slice q.x.pn q.x.m.ns.length q.x.cn] 38 ∧ ∀ t, t < 15 → w'.cell? ⟨b, o + j * 15 + t, none⟩ = (PkX.cells y)[t]?) (by kernel_rfl) ⟨HZB.out.drew, (fun t ht => (B9.out.drew.cell (p := ⟨b, _, none⟩) HBL.out).trans (HCS.out t ht))⟩ (fun hS0 => ?_)
    refine wpAnyH_take (i := 0) (v := ?_) rfl (by kernel_rfl) (by kernel_rfl) (by kernel_rfl) (fun _ _ _ h => h) (Or.inl ⟨by kernel_rfl, ?_⟩) (by first | assumption | trivial) ?_
    rotate_left
    · intro w hSw
      try dsimp only at hSw
      first | (go_simp; done) | (go_simp; with_reducible rfl)
    try simp only [Act.put, List.getElem_toArray, List.getElem_cons_succ, List.getElem_cons_zero, List.setIfInBounds_toArray, List.set_cons_zero, List.set_cons_succ]
    refine wpAnyH_take (i := 1) (v := ?_) rfl (by kernel_rfl) (by kernel_rfl) (by kernel_rfl) (fun _ _ _ h => h) (Or.inl ⟨by kernel_rfl, ?_⟩) (by first | assumption | trivial) ?_
    rotate_left
    · intro w hSw
      try dsimp only at hSw
      first | (go_simp; done) | (go_simp; with_reducible rfl)
    try simp only [Act.put, List.getElem_toArray, List.getElem_cons_succ, List.getElem_cons_zero, List.setIfInBounds_toArray, List.set_cons_zero, List.set_cons_succ]
    refine wpAnyH_take (i := 2) (v := ?_) rfl (by kernel_rfl) (by kernel_rfl) (by kernel_rfl) (fun _ _ _ h => h) (Or.inl ⟨by kernel_rfl, ?_⟩) (by first | assumption | trivial) ?_
    rotate_left
    · intro w hSw
      try dsimp only at hSw
      first | (go_simp; done) | (go_simp; with_reducible rfl)
    try simp only [Act.put, List.getElem_toArray, List.getElem_cons_succ, List.getElem_cons_zero, List.setIfInBounds_toArray, List.set_cons_zero, List.set_cons_succ]
    refine wpAnyH_take (i := 3) (v := ?_) rfl (by kernel_rfl) (by kernel_rfl) (by kernel_rfl) (fun _ _ _ h => h) (Or.inl ⟨by kernel_rfl, ?_⟩) (by first | assumption | trivial) ?_
    rotate_left
    · intro w hSw
      try dsimp only at hSw
      have a0 : w.cell? ⟨gq, 0, none⟩ = some (.int .i64 q.f) := hSw.1.cell 0
      have a1 : w.cell? ⟨gq, 1, none⟩ = some (.int .i64 q.t) := hSw.1.cell 1
      have a2 : w.cell? ⟨gq, 2, none⟩ = some (.int .i64 q.n) := hSw.1.cell 2
      have a3 : w.cell? ⟨gq, 3, none⟩ = some (.int .i64 q.h) := hSw.1.cell 3
      have a4 : w.cell? ⟨gq, 4, none⟩ = some (.int .i64 q.x.m.k) := hSw.1.cell 4
      have a5 : w.cell? ⟨gq, 5, none⟩ = some (.int .i64 q.x.m.s) := hSw.1.cell 5
      have a6 : w.cell? ⟨gq, 6, none⟩ = some (.int .i64 q.x.m.n) := hSw.1.cell 6
      have a7 : w.cell? ⟨gq, 7, none⟩ = some (.int .i64 q.x.m.b) := hSw.1.cell 7
      have a8 : w.cell? ⟨gq, 8, none⟩ = some (.int .i64 q.x.m.c) := hSw.1.cell 8
      have a9 : w.cell? ⟨gq, 9, none⟩ = some (.int .i64 q.x.m.r) := hSw.1.cell 9
      have a10 : w.cell? ⟨gq, 10, none⟩ = some (.int .i64 q.x.m.y) := hSw.1.cell 10
      have a11 : w.cell? ⟨gq, 11, none⟩ = some (.int .i64 q.x.m.a) := hSw.1.cell 11
      have a12 : w.cell? ⟨gq, 12, none⟩ = some (.bool q.x.m.t) := hSw.1.cell 12
      have a13 : w.cell? ⟨gq, 13, none⟩ = some (.slice q.x.pl q.x.m.ls.length q.x.cl) := hSw.1.cell 13
      have a14 : w.cell? ⟨gq, 14, none⟩ = some (.slice q.x.pn q.x.m.ns.length q.x.cn) := hSw.1.cell 14
      clear hSw
      first | (go_simp; done) | (go_simp; with_reducible rfl)
    try simp only [Act.put, List.getElem_toArray, List.getElem_cons_succ, List.getElem_cons_zero, List.setIfInBounds_toArray, List.set_cons_zero, List.set_cons_succ]
    refine wpAnyH_take (i := 4) (v := ?_) rfl (by kernel_rfl) (by kernel_rfl) (by kernel_rfl) (fun _ _ _ h => h) (Or.inl ⟨by kernel_rfl, ?_⟩) (by first | assumption | trivial) ?_
    rotate_left
    · intro w hSw
      try dsimp only at hSw
      first | (go_simp; done) | (go_simp; with_reducible rfl)
    try simp only [Act.put, List.getElem_toArray, List.getElem_cons_succ, List.getElem_cons_zero, List.setIfInBounds_toArray, List.set_cons_zero, List.set_cons_succ]
    refine wpAnyH_take (i := 5) (v := ?_) rfl (by kernel_rfl) (by kernel_rfl) (by kernel_rfl) (fun _ _ _ h => h) (Or.inl ⟨by kernel_rfl, ?_⟩) (by first | assumption | trivial) ?_
    rotate_left
    · intro w hSw
      try dsimp only at hSw
      first | (go_simp; done) | (go_simp; with_reducible rfl)
    try simp only [Act.put, List.getElem_toArray, List.getElem_cons_succ, List.getElem_cons_zero, List.setIfInBounds_toArray, List.set_cons_zero, List.set_cons_succ]
    refine wpAnyH_take (i := 6) (v := ?_) rfl (by kernel_rfl) (by kernel_rfl) (by kernel_rfl) (fun _ _ _ h => h) (Or.inl ⟨by kernel_rfl, ?_⟩) (by first | assumption | trivial) ?_
    rotate_left
    · intro w hSw
      try dsimp only at hSw
      first | (go_simp; done) | (go_simp; with_reducible rfl)
    try simp only [Act.put, List.getElem_toArray, List.getElem_cons_succ, List.getElem_cons_zero, List.setIfInBounds_toArray, List.set_cons_zero, List.set_cons_succ]
    refine wpAnyH_take (i := 7) (v := ?_) rfl (by kernel_rfl) (by kernel_rfl) (by kernel_rfl) (fun _ _ _ h => h) (Or.inl ⟨by kernel_rfl, ?_⟩) (by first | assumption | trivial) ?_
    rotate_left
    · intro w hSw
      try dsimp only at hSw
      have a0 : w.cell? ⟨b, o + j * 15, none⟩ = some (.int .i64 y.f) := hSw.2 0 (by decide)
      have a1 : w.cell? ⟨b, o + j * 15 + 1, none⟩ = some (.int .i64 y.t) := hSw.2 1 (by decide)
      have a2 : w.cell? ⟨b, o + j * 15 + 2, none⟩ = some (.int .i64 y.n) := hSw.2 2 (by decide)
      have a3 : w.cell? ⟨b, o + j * 15 + 3, none⟩ = some (.int .i64 y.h) := hSw.2 3 (by decide)
      have a4 : w.cell? ⟨b, o + j * 15 + 4, none⟩ = some (.int .i64 y.x.m.k) := hSw.2 4 (by decide)
      have a5 : w.cell? ⟨b, o + j * 15 + 5, none⟩ = some (.int .i64 y.x.m.s) := hSw.2 5 (by decide)
      have a6 : w.cell? ⟨b, o + j * 15 + 6, none⟩ = some (.int .i64 y.x.m.n) := hSw.2 6 (by decide)
      have a7 : w.cell? ⟨b, o + j * 15 + 7, none⟩ = some (.int .i64 y.x.m.b) := hSw.2 7 (by decide)
      have a8 : w.cell? ⟨b, o + j * 15 + 8, none⟩ = some (.int .i64 y.x.m.c) := hSw.2 8 (by decide)
      have a9 : w.cell? ⟨b, o + j * 15 + 9, none⟩ = some (.int .i64 y.x.m.r) := hSw.2 9 (by decide)
      have a10 : w.cell? ⟨b, o + j * 15 + 10, none⟩ = some (.int .i64 y.x.m.y) := hSw.2 10 (by decide)
      have a11 : w.cell? ⟨b, o + j * 15 + 11, none⟩ = some (.int .i64 y.x.m.a) := hSw.2 11 (by decide)
      have a12 : w.cell? ⟨b, o + j * 15 + 12, none⟩ = some (.bool y.x.m.t) := hSw.2 12 (by decide)
      have a13 : w.cell? ⟨b, o + j * 15 + 13, none⟩ = some (.slice y.x.pl y.x.m.ls.length y.x.cl) := hSw.2 13 (by decide)
      have a14 : w.cell? ⟨b, o + j * 15 + 14, none⟩ = some (.slice y.x.pn y.x.m.ns.length y.x.cn) := hSw.2 14 (by decide)
      clear hSw
      first | (go_simp; done) | (go_simp; with_reducible rfl)
    try simp only [Act.put, List.getElem_toArray, List.getElem_cons_succ, List.getElem_cons_zero, List.setIfInBounds_toArray, List.set_cons_zero, List.set_cons_succ]
    refine wpAnyH_ready (rs := [8]) (by kernel_rfl) (by simp) ?_
    refine AllReadyH.cons rfl (fun K hK => ?_) AllReadyH.nil
    go_simp
    go_at_call 11
    refine (HSM.out).mono ?_
    rintro y0 wb ⟨rfl, hbs⟩
    have Bb := Lib.hid (B9.out.trans ((Below.refl wa.heap.size wa).drew.trans hbs |>.mono B9.out.size))
    have hS2 : Blk wb gq #[.int .i64 q.f, .int .i64 q.t, .int .i64 q.n, .int .i64 q.h, .int .i64 q.x.m.k, .int .i64 q.x.m.s, .int .i64 q.x.m.n, .int .i64 q.x.m.b, .int .i64 q.x.m.c, .int .i64 q.x.m.r, .int .i64 q.x.m.y, .int .i64 q.x.m.a, .bool q.x.m.t, .slice q.x.pl q.x.m.ls.length q.x.cl, .slice q.x.pn q.x.m.ns.length q.x.cn] 38 ∧ ∀ t, t < 15 → wb.cell? ⟨b, o + j * 15 + t, none⟩ = (PkX.cells y)[t]? := ⟨(HZB.out.drew).below hbs HZB.out.lt, fun t ht => (Bb.out.cell (p := ⟨b, _, none⟩) HBL.out).trans (HCS.out t ht)⟩
    have HNb := Lib.hid ((HN9.out.kept (Below.refl _ _).drew).kept hbs)
    clear hbs HSM
    try go_wp2_with fail
    refine hK.out _ _ hS2 (fun hS => ?_)
    clear hK K
    try simp only [Act.put, List.getElem_toArray, List.getElem_cons_succ, List.getElem_cons_zero, List.setIfInBounds_toArray, List.set_cons_zero, List.set_cons_succ]
    refine wpAnyH_take (i := 9) (v := ?_) rfl (by kernel_rfl) (by kernel_rfl) (by kernel_rfl) (fun _ _ _ h => h) (Or.inl ⟨by kernel_rfl, ?_⟩) (by first | assumption | trivial) ?_
    rotate_left
    · intro w hSw
      try dsimp only at hSw
      first | (go_simp; done) | (go_simp; with_reducible rfl)
    try simp only [Act.put, List.getElem_toArray, List.getElem_cons_succ, List.getElem_cons_zero, List.setIfInBounds_toArray, List.set_cons_zero, List.set_cons_succ]
    refine wpAnyH_take (i := 10) (v := ?_) rfl (by kernel_rfl) (by kernel_rfl) (by kernel_rfl) (fun _ _ _ h => h) (Or.inl ⟨by kernel_rfl, ?_⟩) (by first | assumption | trivial) ?_
    rotate_left
    · intro w hSw
      try dsimp only at hSw
      first | (go_simp; done) | (go_simp; with_reducible rfl)
    try simp only [Act.put, List.getElem_toArray, List.getElem_cons_succ, List.getElem_cons_zero, List.setIfInBounds_toArray, List.set_cons_zero, List.set_cons_succ]
    refine wpAnyH_take (i := 12) (v := ?_) rfl (by kernel_rfl) (by kernel_rfl) (by kernel_rfl) (fun _ _ _ h => h) (Or.inl ⟨by kernel_rfl, ?_⟩) (by first | assumption | trivial) ?_
    rotate_left
    · intro w hSw
      try dsimp only at hSw
      first | (go_simp; done) | (go_simp; with_reducible rfl)
    try simp only [Act.put, List.getElem_toArray, List.getElem_cons_succ, List.getElem_cons_zero, List.setIfInBounds_toArray, List.set_cons_zero, List.set_cons_succ]
    refine wpAnyH_take (i := 13) (v := ?_) rfl (by kernel_rfl) (by kernel_rfl) (by kernel_rfl) (fun _ _ _ h => h) (Or.inl ⟨by kernel_rfl, ?_⟩) (by first | assumption | trivial) ?_
    rotate_left
    · intro w hSw
      try dsimp only at hSw
      first | (go_simp; done) | (go_simp; with_reducible rfl)
    try simp only [Act.put, List.getElem_toArray, List.getElem_cons_succ, List.getElem_cons_zero, List.setIfInBounds_toArray, List.set_cons_zero, List.set_cons_succ]
    refine wpAnyH_take (i := 15) (v := ?_) rfl (by kernel_rfl) (by kernel_rfl) (by kernel_rfl) (fun _ _ _ h => h) (Or.inl ⟨by kernel_rfl, ?_⟩) (by first | assumption | trivial) ?_
    rotate_left
    · intro w hSw
      try dsimp only at hSw
      first | (go_simp; done) | (go_simp; with_reducible rfl)
    try simp only [Act.put, List.getElem_toArray, List.getElem_cons_succ, List.getElem_cons_zero, List.setIfInBounds_toArray, List.set_cons_zero, List.set_cons_succ]
    refine wpAnyH_ready (rs := [11]) (by kernel_rfl) (by simp) ?_
    refine AllReadyH.cons rfl (fun K hK => ?_) AllReadyH.nil
    go_simp
    go_at_call 14
    refine (net_len wb HNb.out).mono ?_
    rintro y0 wc ⟨rfl, rfl⟩
    rw [HL9.out]
    try go_wp2_with fail
    refine hK.out _ _ hS (fun hS => ?_)
    clear hK K
    try simp only [Act.put, List.getElem_toArray, List.getElem_cons_succ, List.getElem_cons_zero, List.setIfInBounds_toArray, List.set_cons_zero, List.set_cons_succ]
    have hne : (((n - 1 : Nat) : Int) == (n : Int)) = false := by simp; omega
    refine wpAnyH_take (i := 14) (v := ?_) rfl (by kernel_rfl) (by kernel_rfl) (by kernel_rfl) (fun _ _ _ h => h) (Or.inl ⟨by kernel_rfl, ?_⟩) (by first | assumption | trivial) ?_
    rotate_left
    · intro w hSw
      try dsimp only at hSw
      first | (go_simp; done) | (go_simp; with_reducible rfl)
    try simp only [Act.put, List.getElem_toArray, List.getElem_cons_succ, List.getElem_cons_zero, List.setIfInBounds_toArray, List.set_cons_zero, List.set_cons_succ]
    refine wpAnyH_take (i := 16) (v := ?_) rfl (by kernel_rfl) (by kernel_rfl) (by kernel_rfl) (fun _ _ _ h => h) (Or.inl ⟨by kernel_rfl, ?_⟩) (by first | assumption | trivial) ?_
    rotate_left
    · intro w hSw
      try dsimp only at hSw
      first | (go_simp; done) | (go_simp; with_reducible rfl)
    try simp only [Act.put, List.getElem_toArray, List.getElem_cons_succ, List.getElem_cons_zero, List.setIfInBounds_toArray, List.set_cons_zero, List.set_cons_succ]
    refine wpAnyH_take (i := 17) (v := ?_) rfl (by kernel_rfl) (by kernel_rfl) (by kernel_rfl) (fun _ _ _ h => h) (Or.inl ⟨by kernel_rfl, ?_⟩) (by first | assumption | trivial) ?_
    rotate_left
    · intro w hSw
      try dsimp only at hSw
      first | (go_simp; done) | (go_simp; with_reducible rfl)
    try simp only [Act.put, List.getElem_toArray, List.getElem_cons_succ, List.getElem_cons_zero, List.setIfInBounds_toArray, List.set_cons_zero, List.set_cons_succ]
    refine wpAnyH_take (i := 18) (v := ?_) rfl (by kernel_rfl) (by kernel_rfl) (by kernel_rfl) (fun _ _ _ h => h) (Or.inl ⟨by kernel_rfl, ?_⟩) (by first | assumption | trivial) ?_
    rotate_left
    · intro w hSw
      try dsimp only at hSw
      first | (go_simp; done) | (go_simp; with_reducible rfl)
    try simp only [Act.put, List.getElem_toArray, List.getElem_cons_succ, List.getElem_cons_zero, List.setIfInBounds_toArray, List.set_cons_zero, List.set_cons_succ]
    refine wpAnyH_done (by kernel_rfl) ?_ _
    clear hS hS0
    go_wp2_with fail
    go_ret
    exact ⟨rfl, Bb.out⟩
end Go.Proofs.Ytfdehnfcoojljaa
