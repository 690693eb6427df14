/- NetOrder: the walk. -/
import Derived.Test.YtfdehnfcoojljaaNetIn
import Derived.Deep.RegionHeld3
namespace Go.Proofs.Ytfdehnfcoojljaa
open Go.RowKit
set_option linter.unusedSimpArgs false
/-- The state of the law's loops. -/
structure NSt (W : World) (g : Nat) (ks : List Pk) (wr : World) : Prop where
  net : Net W.heap.size (fun _ => False) wr g ks
  low : Below W.heap.size W wr
theorem drop_cons {ks ex : List Pk} {t : Nat} (h : t < ks.length) : ks.drop t ++ ex = ks[t] :: (ks.drop (t + 1) ++ ex) := by rw [List.drop_eq_getElem_cons h, List.cons_append]
set_option maxHeartbeats 4000000 in
set_option maxRecDepth 100000 in
theorem norder_walk (va : Value) (ys : List PkX) (vb : Value) (zs : List Int) (W : World) (hx : TRow encK W va ys) (hf : ∀ y ∈ ys, y.In W) (hz : All64 zs) (hr : Row .i64 W vb zs) : Calls Try.prog 6 #[va, vb] W fun e w' => e = .returned (.bool true) ∧ Below W.heap.size W w'  := by
  obtain ⟨pv, cv, rfl⟩ := hx.shape
  obtain ⟨po, co, rfl⟩ := hr.shape
  have HX := Lib.hid hx
  have HF := Lib.hid hf
  have HZ := Lib.hid hz
  have HR := Lib.hid hr
  clear hx hf hz hr
  generalize hl : ys.length = n at *
  have HL := Lib.hid hl
  generalize hol : zs.length = O at *
  have HOL := Lib.hid hol
  clear hl hol
  by_cases h1 : 50 < n
  · have g1 : (50 : Int) < (n : Int) := by omega
    go_enter Try.func6, Try.ntmps6
    go_wp2_with fail
    refine (carries_any _).mono ?_
    rintro y w1 ⟨rfl, hb1⟩
    have B1 := Lib.hid hb1
    clear hb1
    go_wp2_with fail
    go_ret
    exact ⟨rfl, B1.out⟩
  have g1 : ¬ (50 : Int) < (n : Int) := by omega
  by_cases h2 : 50 < O
  · have g2 : (50 : Int) < (O : Int) := by omega
    go_enter Try.func6, Try.ntmps6
    go_wp2_with fail
    refine (carries_any _).mono ?_
    rintro y w1 ⟨rfl, hb1⟩
    have B1 := Lib.hid hb1
    clear hb1
    go_wp2_with fail
    go_ret
    exact ⟨rfl, B1.out⟩
  have g2 : ¬ (50 : Int) < (O : Int) := by omega
  have HPL : Hid ((ys.map PkX.pk).length = n) := by show _ = _; rw [List.length_map]; exact HL.out
  have HRW := Lib.hid (PkRow.of_in HX.out HF.out)
  have HPJ : Hid (∀ j (h : j < ys.length) h', (ys.map PkX.pk)[j]'h' = ys[j].pk) := fun j h h' => by simp
  generalize ys.map PkX.pk = ks at *
  have HN50 : Hid (n ≤ 50 ∧ O ≤ 50) := ⟨by omega, by omega⟩
  go_enter Try.func6, Try.ntmps6
  go_wp2_with fail
  refine (carries_any _).mono ?_
  rintro y0 w1 ⟨rfl, hb1⟩
  have B1 := Lib.hid (hb1.alloc hb1.size (.cells #[.slice none 0 0] 26))
  have HN1 : Hid (Net W.heap.size (fun _ => False) (w1.alloc (.cells #[.slice none 0 0] 26)) w1.heap.size []) := Net.zero W.heap.size (fun _ => False) w1 hb1.size (fun h => h)
  clear hb1
  go_upto_region 6 with fail
  clear g1 g2 h1 h2
  generalize (w1.alloc (.cells #[.slice none 0 0] 26)) = w2 at *
  generalize w1.heap.size = g at *
  go_wp2_with fail
  refine (net_send w2 _ HN1.out (HRW.out.keepP (KeepP.of_below B1.out)) (fun b hb => .inl hb) (fun _ h => h.elim)).mono ?_
  rintro y0 w3 ⟨rfl, hn3, hb3, _⟩
  have hks : ([] : List Pk) ++ ks.take (8192 - ([] : List Pk).length) = ks := by rw [List.nil_append, List.take_of_length_le (by rw [HPL.out]; have := HN50.out; simp; omega)]
  rw [hks] at hn3
  have HS3 : Hid (NSt W g (ks ++ []) w3) := ⟨by rw [List.append_nil]; exact hn3, B1.out.trans hb3⟩
  clear hks hn3 hb3 HN1 HRW B1
  go_wp2_with fail
  go_loopw [6, 30] (fun mv i wr => ∃ (t : Nat) (ex : List Pk), t ≤ O ∧ ex.length ≤ t ∧ mv = .int .i64 ex.length ∧ i = .int .i64 t ∧ Hid (NSt W g (ks ++ ex) wr)) (fun _ i _ => O - (intOf i).toNat)
  case atStart => exact ⟨0, [], by omega, Nat.le_refl _, rfl, rfl, HS3⟩
  case round =>
    obtain ⟨t, ex, ht, hex, rfl, rfl, HK⟩ := hrel
    clear HS3
    by_cases hlt : t < O
    · have hltI : (t : Int) < (O : Int) := by omega
      as_aux_lemma =>
      have ho := HN50.out.2
      have ht51 : t + 1 ≤ 51 := by omega
      have hx51 : ex.length + 1 ≤ 51 := by omega
      obtain ⟨bo, oo, rfl, hcz⟩ := rowi_at (HR.out.kept HK.out.low) t (by rw [HOL.out]; exact hlt)
      generalize zs.getD t 0 = z at *
      by_cases hz : 0 ≤ z ∧ z < (((ks ++ ex).length : Nat) : Int)
      · obtain ⟨Z, rfl⟩ : ∃ Z : Nat, z = Z := ⟨z.toNat, by omega⟩
        have hZl : Z < (ks ++ ex).length := by have := hz.2; omega
        have HZL := Lib.hid hZl
        clear hz hZl ho
        go_wp2_with fail
        clear hcz
        refine (net_twice wr Z HK.out.net HZL.out (by rw [List.length_append, HPL.out]; have := HN50.out; omega) (fun _ h => h.elim)).mono ?_
        rintro y0 w4 ⟨rfl, hn4, hb4, _⟩
        have HNX : Hid (NSt W g (ks ++ (ex ++ [(ks ++ ex)[Z]'HZL.out])) w4) := ⟨by rw [← List.append_assoc]; exact hn4, HK.out.low.trans hb4⟩
        generalize (ks ++ ex)[Z]'HZL.out = kz at *
        clear hn4 hb4
        go_wp2_with fail
        go_roundw
        case rel => exact ⟨t + 1, ex ++ [kz], by omega, by rw [List.length_append]; simp; omega, by rw [List.length_append]; go_num, by go_num, HNX⟩
        case measure => simp [intOf]; omega
      · have HZ2 := Lib.hid hz
        clear hz ho
        go_wp2_with fail
        clear hcz
        refine (net_twice_no wr z HK.out.net HZ2.out).mono ?_
        rintro y0 w4 ⟨rfl, rfl⟩
        go_wp2_with fail
        go_roundw
        case rel => exact ⟨t + 1, ex, by omega, by omega, rfl, by go_num, HK⟩
        case measure => simp [intOf]; omega
    · have hltI : (O : Int) ≤ (t : Int) := by omega
      as_aux_lemma =>
      have HX50 : Hid (ex.length ≤ 50) := by show _ ≤ _; have := HN50.out.2; omega
      clear ht hex
      go_wp2_with fail
      have HSB : Hid (NSt W g (ks.drop 0 ++ ex) wr) := by rw [List.drop_zero]; exact HK.out
      clear HK
      generalize wr = w5 at *
      go_loopw [42] (fun i wr => ∃ t : Nat, t ≤ n ∧ i = .int .i64 t ∧ Hid (NSt W g (ks.drop t ++ ex) wr)) (fun i _ => n - (intOf i).toNat)
      case atStart => exact ⟨0, by omega, rfl, HSB⟩
      case round =>
        obtain ⟨t, ht, rfl, HK⟩ := hrel
        clear HSB
        by_cases hlt : t < n
        · have hltI : (t : Int) < (n : Int) := by omega
          as_aux_lemma =>
          have hty : t < ys.length := by rw [HL.out]; exact hlt
          have htk : t < ks.length := by rw [HPL.out]; exact hlt
          have HYI : Hid (ys[t].In W) := HF.out _ (List.getElem_mem hty)
          obtain ⟨b, o, rfl, hbl, hcs⟩ := HX.out.at_ t hty
          have HBL : Hid (b < W.heap.size) := hbl
          have HCS : Hid (∀ u, u < 15 → W.cell? ⟨b, o + t * 15 + u, none⟩ = (PkX.cells ys[t])[u]?) := fun u hu => hcs u hu
          have HKT : Hid (ks[t]'htk = ys[t].pk) := HPJ.out t hty htk
          have HDC := Lib.hid (drop_cons (ex := ex) htk)
          generalize ys[t] = y at *
          rw [HDC.out] at HK
          rw [HKT.out] at HK
          clear hbl hcs hty HKT HDC
          have ht51 : t + 1 ≤ 51 := by have := HN50.out.1; omega
          go_wp2_with fail
          refine (net_take wr 0 HK.out.net (by simp)).mono ?_
          rintro y0 w6 ⟨z, rfl, hz1, hz2, hn6, hb6, _⟩
          have HZ1 : Hid (z.pk = y.pk) := hz1
          have HS6 : Hid (NSt W g (ks.drop (t + 1) ++ ex) (w6.alloc (.cells #[.int .i64 z.f, .int .i64 z.t, .int .i64 z.n, .int .i64 z.h, .int .i64 z.x.m.k, .int .i64 z.x.m.s, .int .i64 z.x.m.n, .int .i64 z.x.m.b, .int .i64 z.x.m.c, .int .i64 z.x.m.r, .int .i64 z.x.m.y, .int .i64 z.x.m.a, .bool z.x.m.t, .slice z.x.pl z.x.m.ls.length z.x.cl, .slice z.x.pn z.x.m.ns.length z.x.cn] 38))) := ⟨(show Net W.heap.size (fun _ => False) w6 g (ks.drop (t + 1) ++ ex) from hn6).kept (oneB w6 _), (HK.out.low.trans hb6).alloc (HK.out.low.trans hb6).size _⟩
          have HZ2 := Lib.hid (hz2.kept (oneB w6 (.cells #[.int .i64 z.f, .int .i64 z.t, .int .i64 z.n, .int .i64 z.h, .int .i64 z.x.m.k, .int .i64 z.x.m.s, .int .i64 z.x.m.n, .int .i64 z.x.m.b, .int .i64 z.x.m.c, .int .i64 z.x.m.r, .int .i64 z.x.m.y, .int .i64 z.x.m.a, .bool z.x.m.t, .slice z.x.pl z.x.m.ls.length z.x.cl, .slice z.x.pn z.x.m.ns.length z.x.cn] 38)))
          have HZB := Lib.hid (Blk.new w6 #[.int .i64 z.f, .int .i64 z.t, .int .i64 z.n, .int .i64 z.h, .int .i64 z.x.m.k, .int .i64 z.x.m.s, .int .i64 z.x.m.n, .int .i64 z.x.m.b, .int .i64 z.x.m.c, .int .i64 z.x.m.r, .int .i64 z.x.m.y, .int .i64 z.x.m.a, .bool z.x.m.t, .slice z.x.pl z.x.m.ls.length z.x.cl, .slice z.x.pn z.x.m.ns.length z.x.cn] 38)
          clear hz1 hz2 hn6 hb6 HK
          unfold PkX.v
          go_upto_region 18 with fail
          generalize w6.alloc (.cells #[.int .i64 z.f, .int .i64 z.t, .int .i64 z.n, .int .i64 z.h, .int .i64 z.x.m.k, .int .i64 z.x.m.s, .int .i64 z.x.m.n, .int .i64 z.x.m.b, .int .i64 z.x.m.c, .int .i64 z.x.m.r, .int .i64 z.x.m.y, .int .i64 z.x.m.a, .bool z.x.m.t, .slice z.x.pl z.x.m.ls.length z.x.cl, .slice z.x.pn z.x.m.ns.length z.x.cn] 38) = wz at *
          generalize w6.heap.size = gz at *
          have HSM := Lib.hid (ksame_in z y wz.drew HZ1.out (HZ2.out.kept (Below.refl _ _).drew) ((HYI.out.inP.kept HS6.out.low).kept (Below.refl _ _).drew))
          unfold PkX.v at HSM
          refine wp_region_held_drew (S := fun w' => Blk w' gz #[.int .i64 z.f, .int .i64 z.t, .int .i64 z.n, .int .i64 z.h, .int .i64 z.x.m.k, .int .i64 z.x.m.s, .int .i64 z.x.m.n, .int .i64 z.x.m.b, .int .i64 z.x.m.c, .int .i64 z.x.m.r, .int .i64 z.x.m.y, .int .i64 z.x.m.a, .bool z.x.m.t, .slice z.x.pl z.x.m.ls.length z.x.cl, .slice z.x.pn z.x.m.ns.length z.x.cn] 38 ∧ ∀ q9, q9 < 15 → w'.cell? ⟨b, o + t * 15 + q9, none⟩ = (PkX.cells y)[q9]?) (by kernel_rfl) ⟨HZB.out.drew, (fun u hu => (HS6.out.low.drew.cell (p := ⟨b, _, none⟩) HBL.out).trans (HCS.out u hu))⟩ (fun hS0 => ?_)
          refine wpAnyH_take (i := 0) (v := ?_) rfl (by kernel_rfl) (by kernel_rfl) (by kernel_rfl) (fun _ _ _ h => h) (Or.inl ⟨by kernel_rfl, ?_⟩) (by first | assumption | trivial) ?_
          rotate_left
          · intro w hSw
            try dsimp only at hSw
            first | (go_simp; done) | (go_simp; with_reducible rfl)
          try simp only [Act.put, List.getElem_toArray, List.getElem_cons_succ, List.getElem_cons_zero, List.setIfInBounds_toArray, List.set_cons_zero, List.set_cons_succ]
          refine wpAnyH_take (i := 1) (v := ?_) rfl (by kernel_rfl) (by kernel_rfl) (by kernel_rfl) (fun _ _ _ h => h) (Or.inl ⟨by kernel_rfl, ?_⟩) (by first | assumption | trivial) ?_
          rotate_left
          · intro w hSw
            try dsimp only at hSw
            first | (go_simp; done) | (go_simp; with_reducible rfl)
          try simp only [Act.put, List.getElem_toArray, List.getElem_cons_succ, List.getElem_cons_zero, List.setIfInBounds_toArray, List.set_cons_zero, List.set_cons_succ]
          refine wpAnyH_take (i := 2) (v := ?_) rfl (by kernel_rfl) (by kernel_rfl) (by kernel_rfl) (fun _ _ _ h => h) (Or.inl ⟨by kernel_rfl, ?_⟩) (by first | assumption | trivial) ?_
          rotate_left
          · intro w hSw
            try dsimp only at hSw
            first | (go_simp; done) | (go_simp; with_reducible rfl)
          try simp only [Act.put, List.getElem_toArray, List.getElem_cons_succ, List.getElem_cons_zero, List.setIfInBounds_toArray, List.set_cons_zero, List.set_cons_succ]
          refine wpAnyH_take (i := 3) (v := ?_) rfl (by kernel_rfl) (by kernel_rfl) (by kernel_rfl) (fun _ _ _ h => h) (Or.inl ⟨by kernel_rfl, ?_⟩) (by first | assumption | trivial) ?_
          rotate_left
          · intro w hSw
            try dsimp only at hSw
            have a0 : w.cell? ⟨gz, 0, none⟩ = some (.int .i64 z.f) := hSw.1.cell 0
            have a1 : w.cell? ⟨gz, 1, none⟩ = some (.int .i64 z.t) := hSw.1.cell 1
            have a2 : w.cell? ⟨gz, 2, none⟩ = some (.int .i64 z.n) := hSw.1.cell 2
            have a3 : w.cell? ⟨gz, 3, none⟩ = some (.int .i64 z.h) := hSw.1.cell 3
            have a4 : w.cell? ⟨gz, 4, none⟩ = some (.int .i64 z.x.m.k) := hSw.1.cell 4
            have a5 : w.cell? ⟨gz, 5, none⟩ = some (.int .i64 z.x.m.s) := hSw.1.cell 5
            have a6 : w.cell? ⟨gz, 6, none⟩ = some (.int .i64 z.x.m.n) := hSw.1.cell 6
            have a7 : w.cell? ⟨gz, 7, none⟩ = some (.int .i64 z.x.m.b) := hSw.1.cell 7
            have a8 : w.cell? ⟨gz, 8, none⟩ = some (.int .i64 z.x.m.c) := hSw.1.cell 8
            have a9 : w.cell? ⟨gz, 9, none⟩ = some (.int .i64 z.x.m.r) := hSw.1.cell 9
            have a10 : w.cell? ⟨gz, 10, none⟩ = some (.int .i64 z.x.m.y) := hSw.1.cell 10
            have a11 : w.cell? ⟨gz, 11, none⟩ = some (.int .i64 z.x.m.a) := hSw.1.cell 11
            have a12 : w.cell? ⟨gz, 12, none⟩ = some (.bool z.x.m.t) := hSw.1.cell 12
            have a13 : w.cell? ⟨gz, 13, none⟩ = some (.slice z.x.pl z.x.m.ls.length z.x.cl) := hSw.1.cell 13
            have a14 : w.cell? ⟨gz, 14, none⟩ = some (.slice z.x.pn z.x.m.ns.length z.x.cn) := hSw.1.cell 14
            clear hSw
            first | (go_simp; done) | (go_simp; with_reducible rfl)
          try simp only [Act.put, List.getElem_toArray, List.getElem_cons_succ, List.getElem_cons_zero, List.setIfInBounds_toArray, List.set_cons_zero, List.set_cons_succ]
          refine wpAnyH_take (i := 4) (v := ?_) rfl (by kernel_rfl) (by kernel_rfl) (by kernel_rfl) (fun _ _ _ h => h) (Or.inl ⟨by kernel_rfl, ?_⟩) (by first | assumption | trivial) ?_
          rotate_left
          · intro w hSw
            try dsimp only at hSw
            first | (go_simp; done) | (go_simp; with_reducible rfl)
          try simp only [Act.put, List.getElem_toArray, List.getElem_cons_succ, List.getElem_cons_zero, List.setIfInBounds_toArray, List.set_cons_zero, List.set_cons_succ]
          refine wpAnyH_take (i := 5) (v := ?_) rfl (by kernel_rfl) (by kernel_rfl) (by kernel_rfl) (fun _ _ _ h => h) (Or.inl ⟨by kernel_rfl, ?_⟩) (by first | assumption | trivial) ?_
          rotate_left
          · intro w hSw
            try dsimp only at hSw
            first | (go_simp; done) | (go_simp; with_reducible rfl)
          try simp only [Act.put, List.getElem_toArray, List.getElem_cons_succ, List.getElem_cons_zero, List.setIfInBounds_toArray, List.set_cons_zero, List.set_cons_succ]
          refine wpAnyH_take (i := 6) (v := ?_) rfl (by kernel_rfl) (by kernel_rfl) (by kernel_rfl) (fun _ _ _ h => h) (Or.inl ⟨by kernel_rfl, ?_⟩) (by first | assumption | trivial) ?_
          rotate_left
          · intro w hSw
            try dsimp only at hSw
            first | (go_simp; done) | (go_simp; with_reducible rfl)
          try simp only [Act.put, List.getElem_toArray, List.getElem_cons_succ, List.getElem_cons_zero, List.setIfInBounds_toArray, List.set_cons_zero, List.set_cons_succ]
          refine wpAnyH_take (i := 7) (v := ?_) rfl (by kernel_rfl) (by kernel_rfl) (by kernel_rfl) (fun _ _ _ h => h) (Or.inl ⟨by kernel_rfl, ?_⟩) (by first | assumption | trivial) ?_
          rotate_left
          · intro w hSw
            try dsimp only at hSw
            have a0 : w.cell? ⟨b, o + t * 15, none⟩ = some (.int .i64 y.f) := hSw.2 0 (by decide)
            have a1 : w.cell? ⟨b, o + t * 15 + 1, none⟩ = some (.int .i64 y.t) := hSw.2 1 (by decide)
            have a2 : w.cell? ⟨b, o + t * 15 + 2, none⟩ = some (.int .i64 y.n) := hSw.2 2 (by decide)
            have a3 : w.cell? ⟨b, o + t * 15 + 3, none⟩ = some (.int .i64 y.h) := hSw.2 3 (by decide)
            have a4 : w.cell? ⟨b, o + t * 15 + 4, none⟩ = some (.int .i64 y.x.m.k) := hSw.2 4 (by decide)
            have a5 : w.cell? ⟨b, o + t * 15 + 5, none⟩ = some (.int .i64 y.x.m.s) := hSw.2 5 (by decide)
            have a6 : w.cell? ⟨b, o + t * 15 + 6, none⟩ = some (.int .i64 y.x.m.n) := hSw.2 6 (by decide)
            have a7 : w.cell? ⟨b, o + t * 15 + 7, none⟩ = some (.int .i64 y.x.m.b) := hSw.2 7 (by decide)
            have a8 : w.cell? ⟨b, o + t * 15 + 8, none⟩ = some (.int .i64 y.x.m.c) := hSw.2 8 (by decide)
            have a9 : w.cell? ⟨b, o + t * 15 + 9, none⟩ = some (.int .i64 y.x.m.r) := hSw.2 9 (by decide)
            have a10 : w.cell? ⟨b, o + t * 15 + 10, none⟩ = some (.int .i64 y.x.m.y) := hSw.2 10 (by decide)
            have a11 : w.cell? ⟨b, o + t * 15 + 11, none⟩ = some (.int .i64 y.x.m.a) := hSw.2 11 (by decide)
            have a12 : w.cell? ⟨b, o + t * 15 + 12, none⟩ = some (.bool y.x.m.t) := hSw.2 12 (by decide)
            have a13 : w.cell? ⟨b, o + t * 15 + 13, none⟩ = some (.slice y.x.pl y.x.m.ls.length y.x.cl) := hSw.2 13 (by decide)
            have a14 : w.cell? ⟨b, o + t * 15 + 14, none⟩ = some (.slice y.x.pn y.x.m.ns.length y.x.cn) := hSw.2 14 (by decide)
            clear hSw
            first | (go_simp; done) | (go_simp; with_reducible rfl)
          try simp only [Act.put, List.getElem_toArray, List.getElem_cons_succ, List.getElem_cons_zero, List.setIfInBounds_toArray, List.set_cons_zero, List.set_cons_succ]
          refine wpAnyH_ready (rs := [8]) (by kernel_rfl) (by simp) ?_
          refine AllReadyH.cons rfl (fun K hK => ?_) AllReadyH.nil
          go_simp
          go_at_call 11
          refine (HSM.out).mono ?_
          rintro y0 w7 ⟨rfl, hbs⟩
          have HNX : Hid (NSt W g (ks.drop (t + 1) ++ ex) w7) := ⟨(HS6.out.net.kept (Below.refl _ _).drew).kept hbs, HS6.out.low.trans ((Below.refl wz.heap.size wz).drew.trans hbs |>.mono HS6.out.low.size)⟩
          have hS2 : Blk w7 gz #[.int .i64 z.f, .int .i64 z.t, .int .i64 z.n, .int .i64 z.h, .int .i64 z.x.m.k, .int .i64 z.x.m.s, .int .i64 z.x.m.n, .int .i64 z.x.m.b, .int .i64 z.x.m.c, .int .i64 z.x.m.r, .int .i64 z.x.m.y, .int .i64 z.x.m.a, .bool z.x.m.t, .slice z.x.pl z.x.m.ls.length z.x.cl, .slice z.x.pn z.x.m.ns.length z.x.cn] 38 ∧ ∀ u, u < 15 → w7.cell? ⟨b, o + t * 15 + u, none⟩ = (PkX.cells y)[u]? := ⟨(HZB.out.drew).below hbs HZB.out.lt, fun u hu => (HNX.out.low.cell (p := ⟨b, _, none⟩) HBL.out).trans (HCS.out u hu)⟩
          clear hbs HSM
          try go_wp2_with fail
          refine hK.out _ _ hS2 (fun hS => ?_)
          clear hK K
          try simp only [Act.put, List.getElem_toArray, List.getElem_cons_succ, List.getElem_cons_zero, List.setIfInBounds_toArray, List.set_cons_zero, List.set_cons_succ]
          refine wpAnyH_take (i := 9) (v := ?_) rfl (by kernel_rfl) (by kernel_rfl) (by kernel_rfl) (fun _ _ _ h => h) (Or.inl ⟨by kernel_rfl, ?_⟩) (by first | assumption | trivial) ?_
          rotate_left
          · intro w hSw
            try dsimp only at hSw
            first | (go_simp; done) | (go_simp; with_reducible rfl)
          try simp only [Act.put, List.getElem_toArray, List.getElem_cons_succ, List.getElem_cons_zero, List.setIfInBounds_toArray, List.set_cons_zero, List.set_cons_succ]
          refine wpAnyH_take (i := 10) (v := ?_) rfl (by kernel_rfl) (by kernel_rfl) (by kernel_rfl) (fun _ _ _ h => h) (Or.inl ⟨by kernel_rfl, ?_⟩) (by first | assumption | trivial) ?_
          rotate_left
          · intro w hSw
            try dsimp only at hSw
            first | (go_simp; done) | (go_simp; with_reducible rfl)
          try simp only [Act.put, List.getElem_toArray, List.getElem_cons_succ, List.getElem_cons_zero, List.setIfInBounds_toArray, List.set_cons_zero, List.set_cons_succ]
          refine wpAnyH_done (by kernel_rfl) ?_ _
          clear hS hS0 HZB HZ2 HS6
          go_wp2_with fail
          go_roundw
          case rel => exact ⟨t + 1, by omega, by go_num, HNX⟩
          case measure => simp [intOf]; omega
        · have hltI : (n : Int) ≤ (t : Int) := by omega
          as_aux_lemma =>
          have htn : t = n := by omega
          subst htn
          have hdr : ks.drop t ++ ex = ex := by rw [List.drop_of_length_le (by rw [HPL.out]; exact Nat.le_refl _), List.nil_append]
          rw [hdr] at HK
          clear hdr
          go_wp2_with fail
          refine (net_len wr HK.out.net).mono ?_
          rintro y0 w8 ⟨rfl, rfl⟩
          go_wp2_with fail
          have HSC : Hid (NSt W g (ex.drop 0) w8) := by rw [List.drop_zero]; exact HK.out
          clear HK
          go_loopw [65] (fun i wr => ∃ t : Nat, t ≤ ex.length ∧ i = .int .i64 t ∧ Hid (NSt W g (ex.drop t) wr)) (fun i _ => ex.length - (intOf i).toNat)
          case atStart => exact ⟨0, by omega, rfl, HSC⟩
          case round =>
            obtain ⟨u, hu, rfl, HK⟩ := hrel
            clear HSC
            by_cases hlt2 : u < ex.length
            · have hltI2 : (u : Int) < (ex.length : Int) := by omega
              have HDC : Hid (ex.drop u = ex[u] :: ex.drop (u + 1)) := List.drop_eq_getElem_cons hlt2
              rw [HDC.out] at HK
              have hu51 : u + 1 ≤ 51 := by have := HX50.out; omega
              go_wp2_with fail
              refine (net_take wr 0 HK.out.net (Nat.succ_pos _)).mono ?_
              rintro y0 w9 ⟨z, rfl, _, _, hn9, hb9, _⟩
              have HNX : Hid (NSt W g (ex.drop (u + 1)) (w9.alloc (.cells #[.int .i64 z.f, .int .i64 z.t, .int .i64 z.n, .int .i64 z.h, .int .i64 z.x.m.k, .int .i64 z.x.m.s, .int .i64 z.x.m.n, .int .i64 z.x.m.b, .int .i64 z.x.m.c, .int .i64 z.x.m.r, .int .i64 z.x.m.y, .int .i64 z.x.m.a, .bool z.x.m.t, .slice z.x.pl z.x.m.ls.length z.x.cl, .slice z.x.pn z.x.m.ns.length z.x.cn] 38))) := ⟨(show Net W.heap.size (fun _ => False) w9 g (ex.drop (u + 1)) from hn9).kept (oneB w9 _), (HK.out.low.trans hb9).alloc (HK.out.low.trans hb9).size _⟩
              clear hn9 hb9 HK HDC
              unfold PkX.v
              go_wp2_with fail
              go_roundw
              case rel => exact ⟨u + 1, by omega, by go_num, HNX⟩
              case measure => simp [intOf]; omega
            · have hltI2 : (ex.length : Int) ≤ (u : Int) := by omega
              have hdr : ex.drop u = [] := List.drop_of_length_le (by omega)
              rw [hdr] at HK
              clear hdr
              go_wp2_with fail
              refine (net_take_no wr 0 HK.out.net (by simp)).mono ?_
              rintro y0 w9 ⟨rfl, hb9⟩
              have HNX : Hid (NSt W g [] (w9.alloc (.cells #[.int .i64 0, .int .i64 0, .int .i64 0, .int .i64 0, .int .i64 0, .int .i64 0, .int .i64 0, .int .i64 0, .int .i64 0, .int .i64 0, .int .i64 0, .int .i64 0, .bool false, .slice none 0 0, .slice none 0 0] 38))) := ⟨(HK.out.net.kept hb9).kept (oneB w9 _), (HK.out.low.trans (hb9.mono HK.out.low.size)).alloc (HK.out.low.trans (hb9.mono HK.out.low.size)).size _⟩
              clear hb9 HK
              unfold zeroVK
              go_upto_region 30 with fail
              generalize w9.alloc (.cells #[.int .i64 0, .int .i64 0, .int .i64 0, .int .i64 0, .int .i64 0, .int .i64 0, .int .i64 0, .int .i64 0, .int .i64 0, .int .i64 0, .int .i64 0, .int .i64 0, .bool false, .slice none 0 0, .slice none 0 0] 38) = wb at *
              go_wp2_with fail
              refine (net_len wb HNX.out.net).mono ?_
              rintro y0 wc ⟨rfl, rfl⟩
              rw [show ((([] : List Pk).length : Nat) : Int) = 0 from rfl]
              go_wp2_with fail
              go_ret
              exact ⟨rfl, HNX.out.low⟩
end Go.Proofs.Ytfdehnfcoojljaa
