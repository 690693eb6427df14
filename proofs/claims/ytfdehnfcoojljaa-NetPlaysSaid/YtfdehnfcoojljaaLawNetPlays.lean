/- NetPlays: the walk. -/
import Derived.Test.YtfdehnfcoojljaaNetPlaysD
import Derived.Deep.RegionHeld3
namespace Go.Proofs.Ytfdehnfcoojljaa
open Go.RowKit
set_option linter.unusedSimpArgs false
set_option maxHeartbeats 40000000 in
set_option maxRecDepth 100000 in
theorem nplays_walk (va : Value) (xs : List OpX) (W : World) (hx : TRow encOp W va xs) (hf : ∀ x ∈ xs, x.In W) : Calls Try.prog 3 #[va] W fun e w' => e = .returned (.bool true) ∧ Below W.heap.size W w'  := by
  obtain ⟨pa, ca, rfl⟩ := hx.shape
  have HX := Lib.hid hx
  have HF := Lib.hid hf
  clear hx hf
  generalize hl : xs.length = n at *
  have HL := Lib.hid hl
  clear hl
  by_cases h1 : 60 < n
  · have g1 : (60 : Int) < (n : Int) := by omega
    go_enter Try.func3, Try.ntmps3
    go_wp2_with fail
    refine (carries_any _).mono ?_
    rintro y w1 ⟨rfl, hb1⟩
    have B1 := Lib.hid hb1
    clear hb1
    go_wp2_with fail
    go_ret
    exact ⟨rfl, B1.out⟩
  have g1 : ¬ (60 : Int) < (n : Int) := by omega
  have HN60 : Hid (n ≤ 60) := by show n ≤ 60; omega
  go_enter Try.func3, Try.ntmps3
  go_wp2_with fail
  refine (carries_any _).mono ?_
  rintro y0 w1 ⟨rfl, hb1⟩
  have B1 := Lib.hid (hb1.alloc hb1.size (.cells #[.slice none 0 0] 26))
  have HN1 : Hid (Net W.heap.size (fun b => (Value.slice none 0 0).ownBlock = some b) (w1.alloc (.cells #[.slice none 0 0] 26)) w1.heap.size []) := Net.zero W.heap.size _ w1 hb1.size (fun h => by cases h)
  have HS1 : Hid (PSt W w1.heap.size [] (.slice none 0 0) (w1.alloc (.cells #[.slice none 0 0] 26))) := ⟨HN1.out, OwnT.nil_ _ _ _ _, (fun _ h => by cases h), B1.out⟩
  clear hb1 HN1 B1
  go_upto_region 8 with fail
  clear g1 h1
  generalize (w1.alloc (.cells #[.slice none 0 0] 26)) = w2 at *
  generalize w1.heap.size = g at *
  go_loopw [4, 23] (fun v i wr => ∃ (t : Nat) (zs : List PkX), t ≤ n ∧ zs.length ≤ 51 * t ∧ i = .int .i64 t ∧ Hid (PSt W g zs v wr)) (fun _ i _ => n - (intOf i).toNat)
  case atStart => exact ⟨0, [], by omega, Nat.le_refl _, rfl, HS1⟩
  case round =>
    obtain ⟨t, zs, ht, hzl, rfl, HK⟩ := hrel
    clear HS1
    have hf := HK.out.own.form
    obtain ⟨pv, cv, rfl⟩ := hf
    by_cases hlt : t < n
    · have hltI : (t : Int) < (n : Int) := by omega
      have htx : t < xs.length := by rw [HL.out]; exact hlt
      have HXI := Lib.hid (HF.out xs[t] (List.getElem_mem htx))
      obtain ⟨b, o, rfl, hbl, hcs⟩ := (HX.out.kept HK.out.low).at_ t htx
      generalize xs[t] = x at *
      obtain ⟨k, i, lp, lc, ys⟩ := x
      have c0 : wr.cell? ⟨b, o + t * 3, none⟩ = some (.int .i64 k) := hcs 0 (by decide)
      have c1 : wr.cell? ⟨b, o + t * 3 + 1, none⟩ = some (.int .i64 i) := hcs 1 (by decide)
      have c2 : wr.cell? ⟨b, o + t * 3 + 2, none⟩ = some (.slice lp ys.length lc) := hcs 2 (by decide)
      have ht61 : t + 1 ≤ 61 := by have := HN60.out; omega
      have HZ : Hid (zs.length ≤ 3060) := by show _ ≤ _; omega
      clear hcs hbl htx
      go_upto_region 10 with fail
      clear c0 c1 c2
      have HS2 := Lib.hid (HK.out.kept (oneB wr (.cells #[.int .i64 k, .int .i64 i, .slice lp ys.length lc] 29)))
      have HGO := Lib.hid (Blk.new wr #[.int .i64 k, .int .i64 i, .slice lp ys.length lc] 29)
      have HN2 : Hid (Net W.heap.size (fun b => (Value.slice pv zs.length cv).ownBlock = some b ∨ b = wr.heap.size) (wr.alloc (.cells #[.int .i64 k, .int .i64 i, .slice lp ys.length lc] 29)) g (zs.map PkX.pk)) := (HK.out.net.ext (fun b hb h => h.elim id (fun e => by omega))).kept (oneB wr _)
      have HGW : Hid (W.heap.size ≤ wr.heap.size) := HK.out.low.size
      clear HK
      generalize wr.alloc (.cells #[.int .i64 k, .int .i64 i, .slice lp ys.length lc] 29) = w2 at *
      generalize wr.heap.size = go at *
      have o0 : w2.cell? ⟨go, 0, none⟩ = some (.int .i64 k) := HGO.out.cell 0
      have o1 : w2.cell? ⟨go, 1, none⟩ = some (.int .i64 i) := HGO.out.cell 1
      have o2 : w2.cell? ⟨go, 2, none⟩ = some (.slice lp ys.length lc) := HGO.out.cell 2
      by_cases hi0 : 0 ≤ i
      · by_cases hi1 : i < (zs.length : Int)
        · obtain ⟨j, rfl⟩ : ∃ j : Nat, i = j := ⟨i.toNat, by omega⟩
          have HJ : Hid (j < zs.length) := by show _ < _; omega
          go_upto_region 11 with fail
          by_cases hk0 : k = 0
          · subst hk0
            as_aux_lemma =>
            by_cases h50 : 50 < ys.length
            · have h50I : (50 : Int) < (ys.length : Int) := by omega
              go_wp2_with fail
              go_ret
              exact ⟨rfl, HS2.out.low⟩
            · have h50I : ¬ (50 : Int) < (ys.length : Int) := by omega
              go_upto_region 15 with fail
              have HG0 : Hid (w2.drew.cell? ⟨go, 2, none⟩ = some (.slice lp ys.length lc)) := HGO.out.drew.cell 2
              have HNs : Hid (Net W.heap.size (fun b => (Value.slice pv zs.length cv).ownBlock = some b ∨ b = go) w2.drew g (zs.map PkX.pk)) := HN2.out.kept (Below.refl _ _).drew
              have HRs : Hid (PkRow (fun b => b < W.heap.size) w2.drew (.slice lp ys.length lc) (ys.map PkX.pk)) := ((PkRow.of_in HXI.out.1 HXI.out.2).keepP (KeepP.of_below HS2.out.low)).keepP (KeepP.of_below (Below.refl _ _).drew)
              refine wp_region_held_drew (S := fun w' => w'.cell? ⟨go, 2, none⟩ = some (.slice lp ys.length lc)) (by kernel_rfl) HG0.out (fun hS0 => ?_)
              refine wpAnyH_take (i := 0) (v := ?_) rfl (by kernel_rfl) (by kernel_rfl) (by kernel_rfl) (fun _ _ _ h => h) (Or.inl ⟨by kernel_rfl, ?_⟩) (by first | assumption | trivial) ?_
              rotate_left
              · intro w hSw
                try dsimp only at hSw
                first | (go_simp; done) | (go_simp; with_reducible rfl)
              try simp only [Act.put, List.getElem_toArray, List.getElem_cons_succ, List.getElem_cons_zero, List.setIfInBounds_toArray, List.set_cons_zero, List.set_cons_succ]
              refine wpAnyH_take (i := 1) (v := ?_) rfl (by kernel_rfl) (by kernel_rfl) (by kernel_rfl) (fun _ _ _ h => h) (Or.inl ⟨by kernel_rfl, ?_⟩) (by first | assumption | trivial) ?_
              rotate_left
              · intro w hSw
                try dsimp only at hSw
                have a0 := hSw
                clear hSw
                first | (go_simp; done) | (go_simp; with_reducible rfl)
              try simp only [Act.put, List.getElem_toArray, List.getElem_cons_succ, List.getElem_cons_zero, List.setIfInBounds_toArray, List.set_cons_zero, List.set_cons_succ]
              refine wpAnyH_take (i := 3) (v := ?_) rfl (by kernel_rfl) (by kernel_rfl) (by kernel_rfl) (fun _ _ _ h => h) (Or.inl ⟨by kernel_rfl, ?_⟩) (by first | assumption | trivial) ?_
              rotate_left
              · intro w hSw
                try dsimp only at hSw
                first | (go_simp; done) | (go_simp; with_reducible rfl)
              try simp only [Act.put, List.getElem_toArray, List.getElem_cons_succ, List.getElem_cons_zero, List.setIfInBounds_toArray, List.set_cons_zero, List.set_cons_succ]
              refine wpAnyH_take (i := 4) (v := ?_) rfl (by kernel_rfl) (by kernel_rfl) (by kernel_rfl) (fun _ _ _ h => h) (Or.inl ⟨by kernel_rfl, ?_⟩) (by first | assumption | trivial) ?_
              rotate_left
              · intro w hSw
                try dsimp only at hSw
                have a0 := hSw
                clear hSw
                first | (go_simp; done) | (go_simp; with_reducible rfl)
              try simp only [Act.put, List.getElem_toArray, List.getElem_cons_succ, List.getElem_cons_zero, List.setIfInBounds_toArray, List.set_cons_zero, List.set_cons_succ]
              refine wpAnyH_take (i := 5) (v := ?_) rfl (by kernel_rfl) (by kernel_rfl) (by kernel_rfl) (fun _ _ _ h => h) (Or.inl ⟨by kernel_rfl, ?_⟩) (by first | assumption | trivial) ?_
              rotate_left
              · intro w hSw
                try dsimp only at hSw
                first | (go_simp; done) | (go_simp; with_reducible rfl)
              try simp only [Act.put, List.getElem_toArray, List.getElem_cons_succ, List.getElem_cons_zero, List.setIfInBounds_toArray, List.set_cons_zero, List.set_cons_succ]
              refine wpAnyH_ready (rs := [2]) (by kernel_rfl) (by simp) ?_
              refine AllReadyH.cons rfl (fun K hK => ?_) AllReadyH.nil
              go_simp
              go_at_call 9
              refine (net_send w2.drew _ HNs.out HRs.out (fun b hb => .inl hb) (fun b hb => hb.elim (fun h => HS2.out.own.lt b h) (fun h => by subst h; exact HGO.out.lt))).mono ?_
              rintro y0 w3 ⟨rfl, hn3, hb3, hk3⟩
              rw [show ((min (ys.map PkX.pk).length (8192 - (zs.map PkX.pk).length) : Nat) : Int) = (ys.length : Int) by rw [List.length_map, List.length_map]; have := HZ.out; omega]
              have hS2 : w3.cell? ⟨go, 2, none⟩ = some (.slice lp ys.length lc) := (World.cell?_of_block (hk3.2 go HGO.out.lt (.inr rfl))).trans HG0.out
              have hks : zs.map PkX.pk ++ (ys.map PkX.pk).take (8192 - (zs.map PkX.pk).length) = (zs ++ ys).map PkX.pk := by rw [List.map_append, List.take_of_length_le (by rw [List.length_map, List.length_map]; have := HZ.out; omega)]
              rw [hks] at hn3
              have HN3 := Lib.hid (hn3.ext (L' := fun b => (Value.slice pv zs.length cv).ownBlock = some b) (fun b hb h => .inl h))
              have HO3 := Lib.hid (HS2.out.own.stay (fun b hb => hk3.2 b (HS2.out.own.lt b hb) (.inl hb)))
              have HL3 := Lib.hid (HS2.out.low.trans ((Below.refl _ _).drew.trans hb3))
              clear hn3 hb3 hk3 hks
              try go_wp2_with fail
              refine hK.out _ _ hS2 (fun hS => ?_)
              clear hK K
              try simp only [Act.put, List.getElem_toArray, List.getElem_cons_succ, List.getElem_cons_zero, List.setIfInBounds_toArray, List.set_cons_zero, List.set_cons_succ]
              refine wpAnyH_take (i := 6) (v := ?_) rfl (by kernel_rfl) (by kernel_rfl) (by kernel_rfl) (fun _ _ _ h => h) (Or.inl ⟨by kernel_rfl, ?_⟩) (by first | assumption | trivial) ?_
              rotate_left
              · intro w hSw
                try dsimp only at hSw
                first | (go_simp; done) | (go_simp; with_reducible rfl)
              try simp only [Act.put, List.getElem_toArray, List.getElem_cons_succ, List.getElem_cons_zero, List.setIfInBounds_toArray, List.set_cons_zero, List.set_cons_succ]
              refine wpAnyH_done (by kernel_rfl) ?_ _
              clear HG0 HNs HRs HN2
              go_wp2_with (at_builtin; with_reducible refine stop_appendT (.tmp 52) (.tmp 54) 27 rfl ?_)
              refine wpList_append_tg rfl (.tmp 52) (.tmp 54) 27 rfl 38 zeroVK 152 W.heap.size eltK rfl (.slice pv zs.length cv) (.slice lp ys.length lc) zs ys rfl rfl HO3.out (HXI.out.1.kept HL3.out) (by have := HZ.out; omega) (by have := HZ.out; omega) HL3.out.size (zs ++ ys) (zs.length + ys.length) rfl (by rw [List.length_append]) ?_
              intro p4 c4 w4 ho hg hor hb
              have HS4 : Hid (PSt W g (zs ++ ys) (.slice p4 (zs.length + ys.length) c4) w4) := PSt.more HN3.out (fun z hz => (List.mem_append.1 hz).elim (HS2.out.rows z) (fun h => (HXI.out.2 z h).inP)) HL3.out rfl ho hg hor hb
              clear ho hg hor hb hS hS0 HN3 HO3 HL3
              go_wp2_with fail
              refine (net_len w4 HS4.out.net).mono ?_
              rintro y0 wt ⟨rfl, rfl⟩
              rw [List.length_map]
              go_wp2_with fail
              go_roundw
              case rel => exact ⟨t + 1, _, by omega, by rw [List.length_append]; omega, by go_num, HS4⟩
              case measure => simp [intOf]; omega
          have hb0 : (k == 0) = false := by simpa using hk0
          by_cases hk1 : k = 1
          · subst hk1
            as_aux_lemma =>
            go_wp2_with fail
            refine (net_take w2 j HN2.out (by rw [List.length_map]; exact HJ.out)).mono ?_
            rintro y0 w3 ⟨z, rfl, hz1, hz2, hn3, hb3, hk3⟩
            have hO3 := HS2.out.own.stay (fun b hb => hk3.2 b (HS2.out.own.lt b hb) (.inl hb))
            obtain ⟨sm, cur, rfl, hrest⟩ := hO3.lies (by have := HJ.out; omega)
            obtain ⟨hsmB, hsmK, hncv, hcvm, hrest⟩ := hrest
            clear hrest
            have hO4 := hO3.later (oneB w3 (.cells #[.int .i64 z.f, .int .i64 z.t, .int .i64 z.n, .int .i64 z.h, .int .i64 z.x.m.k, .int .i64 z.x.m.s, .int .i64 z.x.m.n, .int .i64 z.x.m.b, .int .i64 z.x.m.c, .int .i64 z.x.m.r, .int .i64 z.x.m.y, .int .i64 z.x.m.a, .bool z.x.m.t, .slice z.x.pl z.x.m.ls.length z.x.cl, .slice z.x.pn z.x.m.ns.length z.x.cn] 38))
            have HSMB : Hid (sm < (w3.alloc (.cells #[.int .i64 z.f, .int .i64 z.t, .int .i64 z.n, .int .i64 z.h, .int .i64 z.x.m.k, .int .i64 z.x.m.s, .int .i64 z.x.m.n, .int .i64 z.x.m.b, .int .i64 z.x.m.c, .int .i64 z.x.m.r, .int .i64 z.x.m.y, .int .i64 z.x.m.a, .bool z.x.m.t, .slice z.x.pl z.x.m.ls.length z.x.cl, .slice z.x.pn z.x.m.ns.length z.x.cn] 38)).drew.heap.size) := hO4.lt sm rfl
            have HO4 := Lib.hid hO4
            have HZ1 : Hid (z.pk = (zs[j]'HJ.out).pk) := by show _ = _; rw [hz1]; simp
            have HYR : Hid ((zs[j]'HJ.out).x.InP (fun b => b < W.heap.size) W) := HS2.out.rows _ (List.getElem_mem _)
            have HRWS : Hid (∀ q ∈ zs.eraseIdx j, q.x.InP (fun b => b < W.heap.size) W) := fun q hq => HS2.out.rows q (List.mem_of_mem_eraseIdx hq)
            have hks : (zs.map PkX.pk).eraseIdx j = (zs.eraseIdx j).map PkX.pk := by rw [List.eraseIdx_eq_take_drop_succ, List.eraseIdx_eq_take_drop_succ, List.map_append, List.map_take, List.map_drop]
            rw [hks] at hn3
            have HN4 := Lib.hid (hn3.kept (oneB w3 (.cells #[.int .i64 z.f, .int .i64 z.t, .int .i64 z.n, .int .i64 z.h, .int .i64 z.x.m.k, .int .i64 z.x.m.s, .int .i64 z.x.m.n, .int .i64 z.x.m.b, .int .i64 z.x.m.c, .int .i64 z.x.m.r, .int .i64 z.x.m.y, .int .i64 z.x.m.a, .bool z.x.m.t, .slice z.x.pl z.x.m.ls.length z.x.cl, .slice z.x.pn z.x.m.ns.length z.x.cn] 38)))
            have HL4 : Hid (Below W.heap.size W (w3.alloc (.cells #[.int .i64 z.f, .int .i64 z.t, .int .i64 z.n, .int .i64 z.h, .int .i64 z.x.m.k, .int .i64 z.x.m.s, .int .i64 z.x.m.n, .int .i64 z.x.m.b, .int .i64 z.x.m.c, .int .i64 z.x.m.r, .int .i64 z.x.m.y, .int .i64 z.x.m.a, .bool z.x.m.t, .slice z.x.pl z.x.m.ls.length z.x.cl, .slice z.x.pn z.x.m.ns.length z.x.cn] 38))) := (HS2.out.low.trans hb3).alloc (HS2.out.low.trans hb3).size _
            have HGO4 : Hid (Blk (w3.alloc (.cells #[.int .i64 z.f, .int .i64 z.t, .int .i64 z.n, .int .i64 z.h, .int .i64 z.x.m.k, .int .i64 z.x.m.s, .int .i64 z.x.m.n, .int .i64 z.x.m.b, .int .i64 z.x.m.c, .int .i64 z.x.m.r, .int .i64 z.x.m.y, .int .i64 z.x.m.a, .bool z.x.m.t, .slice z.x.pl z.x.m.ls.length z.x.cl, .slice z.x.pn z.x.m.ns.length z.x.cn] 38)) go #[.int .i64 1, .int .i64 (j : Nat), .slice lp ys.length lc] 29) := Blk.alloc (show Blk w3 go _ _ from (hk3.2 go HGO.out.lt (.inr rfl)).trans HGO.out) _
            have HZ2 := Lib.hid (hz2.kept (oneB w3 (.cells #[.int .i64 z.f, .int .i64 z.t, .int .i64 z.n, .int .i64 z.h, .int .i64 z.x.m.k, .int .i64 z.x.m.s, .int .i64 z.x.m.n, .int .i64 z.x.m.b, .int .i64 z.x.m.c, .int .i64 z.x.m.r, .int .i64 z.x.m.y, .int .i64 z.x.m.a, .bool z.x.m.t, .slice z.x.pl z.x.m.ls.length z.x.cl, .slice z.x.pn z.x.m.ns.length z.x.cn] 38)))
            have HBZ := Lib.hid (Blk.new w3 #[.int .i64 z.f, .int .i64 z.t, .int .i64 z.n, .int .i64 z.h, .int .i64 z.x.m.k, .int .i64 z.x.m.s, .int .i64 z.x.m.n, .int .i64 z.x.m.b, .int .i64 z.x.m.c, .int .i64 z.x.m.r, .int .i64 z.x.m.y, .int .i64 z.x.m.a, .bool z.x.m.t, .slice z.x.pl z.x.m.ls.length z.x.cl, .slice z.x.pn z.x.m.ns.length z.x.cn] 38)
            clear hz1 hz2 hn3 hb3 hk3 hks hO3 hO4 o0 o1 o2 hsmB hsmK
            unfold PkX.v
            go_upto_region 20 with fail
            generalize w3.alloc (.cells #[.int .i64 z.f, .int .i64 z.t, .int .i64 z.n, .int .i64 z.h, .int .i64 z.x.m.k, .int .i64 z.x.m.s, .int .i64 z.x.m.n, .int .i64 z.x.m.b, .int .i64 z.x.m.c, .int .i64 z.x.m.r, .int .i64 z.x.m.y, .int .i64 z.x.m.a, .bool z.x.m.t, .slice z.x.pl z.x.m.ls.length z.x.cl, .slice z.x.pn z.x.m.ns.length z.x.cn] 38) = w4 at *
            generalize w3.heap.size = gz at *
            have hcm : ∀ q, q < 15 → w4.cell? ⟨sm, j * 15 + q, none⟩ = (PkX.cells (zs[j]'HJ.out))[q]? := by
              obtain ⟨b', o', e1, _, h⟩ := HO4.out.row.at_ j HJ.out
              cases e1
              intro q hq
              have h2 := h q hq
              rwa [Nat.zero_add] at h2
            generalize zs[j]'HJ.out = y at *
            have HCM : Hid (∀ q, q < 15 → w4.drew.cell? ⟨sm, j * 15 + q, none⟩ = (PkX.cells y)[q]?) := hcm
            have HG1 : Hid (w4.drew.cell? ⟨go, 1, none⟩ = some (.int .i64 (j : Nat))) := HGO4.out.cell 1
            have HGB : Hid (go < w4.drew.heap.size) := HGO4.out.lt
            have HSM := Lib.hid (ksame_in z y w4.drew HZ1.out (HZ2.out.kept (Below.refl _ _).drew) ((HYR.out.kept HL4.out).kept (Below.refl _ _).drew))
            unfold PkX.v at HSM
            clear hcm
            have hjz : (j : Int) < (zs.length : Int) := by have := HJ.out; omega
            refine wp_region_held_drew (S := fun w' => Blk w' gz #[.int .i64 z.f, .int .i64 z.t, .int .i64 z.n, .int .i64 z.h, .int .i64 z.x.m.k, .int .i64 z.x.m.s, .int .i64 z.x.m.n, .int .i64 z.x.m.b, .int .i64 z.x.m.c, .int .i64 z.x.m.r, .int .i64 z.x.m.y, .int .i64 z.x.m.a, .bool z.x.m.t, .slice z.x.pl z.x.m.ls.length z.x.cl, .slice z.x.pn z.x.m.ns.length z.x.cn] 38 ∧ (∀ q9, q9 < 15 → w'.cell? ⟨sm, j * 15 + q9, none⟩ = (PkX.cells y)[q9]?) ∧ w'.cell? ⟨go, 1, none⟩ = some (.int .i64 (j : Nat))) (by kernel_rfl) ⟨HBZ.out.drew, HCM.out, HG1.out⟩ (fun hS0 => ?_)
            refine wpAnyH_take (i := 0) (v := ?_) rfl (by kernel_rfl) (by kernel_rfl) (by kernel_rfl) (fun _ _ _ h => h) (Or.inl ⟨by kernel_rfl, ?_⟩) (by first | assumption | trivial) ?_
            rotate_left
            · intro w hSw
              try dsimp only at hSw
              first | (go_simp; done) | (go_simp; with_reducible rfl)
            try simp only [Act.put, List.getElem_toArray, List.getElem_cons_succ, List.getElem_cons_zero, List.setIfInBounds_toArray, List.set_cons_zero, List.set_cons_succ]
            refine wpAnyH_take (i := 1) (v := ?_) rfl (by kernel_rfl) (by kernel_rfl) (by kernel_rfl) (fun _ _ _ h => h) (Or.inl ⟨by kernel_rfl, ?_⟩) (by first | assumption | trivial) ?_
            rotate_left
            · intro w hSw
              try dsimp only at hSw
              first | (go_simp; done) | (go_simp; with_reducible rfl)
            try simp only [Act.put, List.getElem_toArray, List.getElem_cons_succ, List.getElem_cons_zero, List.setIfInBounds_toArray, List.set_cons_zero, List.set_cons_succ]
            refine wpAnyH_take (i := 2) (v := ?_) rfl (by kernel_rfl) (by kernel_rfl) (by kernel_rfl) (fun _ _ _ h => h) (Or.inl ⟨by kernel_rfl, ?_⟩) (by first | assumption | trivial) ?_
            rotate_left
            · intro w hSw
              try dsimp only at hSw
              first | (go_simp; done) | (go_simp; with_reducible rfl)
            try simp only [Act.put, List.getElem_toArray, List.getElem_cons_succ, List.getElem_cons_zero, List.setIfInBounds_toArray, List.set_cons_zero, List.set_cons_succ]
            refine wpAnyH_take (i := 3) (v := ?_) rfl (by kernel_rfl) (by kernel_rfl) (by kernel_rfl) (fun _ _ _ h => h) (Or.inl ⟨by kernel_rfl, ?_⟩) (by first | assumption | trivial) ?_
            rotate_left
            · intro w hSw
              try dsimp only at hSw
              first | (go_simp; done) | (go_simp; with_reducible rfl)
            try simp only [Act.put, List.getElem_toArray, List.getElem_cons_succ, List.getElem_cons_zero, List.setIfInBounds_toArray, List.set_cons_zero, List.set_cons_succ]
            refine wpAnyH_take (i := 4) (v := ?_) rfl (by kernel_rfl) (by kernel_rfl) (by kernel_rfl) (fun _ _ _ h => h) (Or.inl ⟨by kernel_rfl, ?_⟩) (by first | assumption | trivial) ?_
            rotate_left
            · intro w hSw
              try dsimp only at hSw
              first | (go_simp; done) | (go_simp; with_reducible rfl)
            try simp only [Act.put, List.getElem_toArray, List.getElem_cons_succ, List.getElem_cons_zero, List.setIfInBounds_toArray, List.set_cons_zero, List.set_cons_succ]
            refine wpAnyH_take (i := 5) (v := ?_) rfl (by kernel_rfl) (by kernel_rfl) (by kernel_rfl) (fun _ _ _ h => h) (Or.inl ⟨by kernel_rfl, ?_⟩) (by first | assumption | trivial) ?_
            rotate_left
            · intro w hSw
              try dsimp only at hSw
              first | (go_simp; done) | (go_simp; with_reducible rfl)
            try simp only [Act.put, List.getElem_toArray, List.getElem_cons_succ, List.getElem_cons_zero, List.setIfInBounds_toArray, List.set_cons_zero, List.set_cons_succ]
            refine wpAnyH_take (i := 6) (v := ?_) rfl (by kernel_rfl) (by kernel_rfl) (by kernel_rfl) (fun _ _ _ h => h) (Or.inl ⟨by kernel_rfl, ?_⟩) (by first | assumption | trivial) ?_
            rotate_left
            · intro w hSw
              try dsimp only at hSw
              first | (go_simp; done) | (go_simp; with_reducible rfl)
            try simp only [Act.put, List.getElem_toArray, List.getElem_cons_succ, List.getElem_cons_zero, List.setIfInBounds_toArray, List.set_cons_zero, List.set_cons_succ]
            refine wpAnyH_take (i := 7) (v := ?_) rfl (by kernel_rfl) (by kernel_rfl) (by kernel_rfl) (fun _ _ _ h => h) (Or.inl ⟨by kernel_rfl, ?_⟩) (by first | assumption | trivial) ?_
            rotate_left
            · intro w hSw
              try dsimp only at hSw
              have a0 : w.cell? ⟨gz, 0, none⟩ = some (.int .i64 z.f) := hSw.1.cell 0
              have a1 : w.cell? ⟨gz, 1, none⟩ = some (.int .i64 z.t) := hSw.1.cell 1
              have a2 : w.cell? ⟨gz, 2, none⟩ = some (.int .i64 z.n) := hSw.1.cell 2
              have a3 : w.cell? ⟨gz, 3, none⟩ = some (.int .i64 z.h) := hSw.1.cell 3
              have a4 : w.cell? ⟨gz, 4, none⟩ = some (.int .i64 z.x.m.k) := hSw.1.cell 4
              have a5 : w.cell? ⟨gz, 5, none⟩ = some (.int .i64 z.x.m.s) := hSw.1.cell 5
              have a6 : w.cell? ⟨gz, 6, none⟩ = some (.int .i64 z.x.m.n) := hSw.1.cell 6
              have a7 : w.cell? ⟨gz, 7, none⟩ = some (.int .i64 z.x.m.b) := hSw.1.cell 7
              have a8 : w.cell? ⟨gz, 8, none⟩ = some (.int .i64 z.x.m.c) := hSw.1.cell 8
              have a9 : w.cell? ⟨gz, 9, none⟩ = some (.int .i64 z.x.m.r) := hSw.1.cell 9
              have a10 : w.cell? ⟨gz, 10, none⟩ = some (.int .i64 z.x.m.y) := hSw.1.cell 10
              have a11 : w.cell? ⟨gz, 11, none⟩ = some (.int .i64 z.x.m.a) := hSw.1.cell 11
              have a12 : w.cell? ⟨gz, 12, none⟩ = some (.bool z.x.m.t) := hSw.1.cell 12
              have a13 : w.cell? ⟨gz, 13, none⟩ = some (.slice z.x.pl z.x.m.ls.length z.x.cl) := hSw.1.cell 13
              have a14 : w.cell? ⟨gz, 14, none⟩ = some (.slice z.x.pn z.x.m.ns.length z.x.cn) := hSw.1.cell 14
              clear hSw
              first | (go_simp; done) | (go_simp; with_reducible rfl)
            try simp only [Act.put, List.getElem_toArray, List.getElem_cons_succ, List.getElem_cons_zero, List.setIfInBounds_toArray, List.set_cons_zero, List.set_cons_succ]
            refine wpAnyH_take (i := 8) (v := ?_) rfl (by kernel_rfl) (by kernel_rfl) (by kernel_rfl) (fun _ _ _ h => h) (Or.inl ⟨by kernel_rfl, ?_⟩) (by first | assumption | trivial) ?_
            rotate_left
            · intro w hSw
              try dsimp only at hSw
              first | (go_simp; done) | (go_simp; with_reducible rfl)
            try simp only [Act.put, List.getElem_toArray, List.getElem_cons_succ, List.getElem_cons_zero, List.setIfInBounds_toArray, List.set_cons_zero, List.set_cons_succ]
            refine wpAnyH_take (i := 9) (v := ?_) rfl (by kernel_rfl) (by kernel_rfl) (by kernel_rfl) (fun _ _ _ h => h) (Or.inl ⟨by kernel_rfl, ?_⟩) (by first | assumption | trivial) ?_
            rotate_left
            · intro w hSw
              try dsimp only at hSw
              first | (go_simp; done) | (go_simp; with_reducible rfl)
            try simp only [Act.put, List.getElem_toArray, List.getElem_cons_succ, List.getElem_cons_zero, List.setIfInBounds_toArray, List.set_cons_zero, List.set_cons_succ]
            refine wpAnyH_take (i := 10) (v := ?_) rfl (by kernel_rfl) (by kernel_rfl) (by kernel_rfl) (fun _ _ _ h => h) (Or.inl ⟨by kernel_rfl, ?_⟩) (by first | assumption | trivial) ?_
            rotate_left
            · intro w hSw
              try dsimp only at hSw
              have a0 := hSw.2.2
              clear hSw
              first | (go_simp; done) | (go_simp; with_reducible rfl)
            try simp only [Act.put, List.getElem_toArray, List.getElem_cons_succ, List.getElem_cons_zero, List.setIfInBounds_toArray, List.set_cons_zero, List.set_cons_succ]
            refine wpAnyH_take (i := 11) (v := ?_) rfl (by kernel_rfl) (by kernel_rfl) (by kernel_rfl) (fun _ _ _ h => h) (Or.inl ⟨by kernel_rfl, ?_⟩) (by first | assumption | trivial) ?_
            rotate_left
            · intro w hSw
              try dsimp only at hSw
              first | (go_simp; done) | (go_simp; with_reducible rfl)
            try simp only [Act.put, List.getElem_toArray, List.getElem_cons_succ, List.getElem_cons_zero, List.setIfInBounds_toArray, List.set_cons_zero, List.set_cons_succ]
            refine wpAnyH_take (i := 12) (v := ?_) rfl (by kernel_rfl) (by kernel_rfl) (by kernel_rfl) (fun _ _ _ h => h) (Or.inl ⟨by kernel_rfl, ?_⟩) (by first | assumption | trivial) ?_
            rotate_left
            · intro w hSw
              try dsimp only at hSw
              have a0 : w.cell? ⟨sm, j * 15, none⟩ = some (.int .i64 y.f) := hSw.2.1 0 (by decide)
              have a1 : w.cell? ⟨sm, j * 15 + 1, none⟩ = some (.int .i64 y.t) := hSw.2.1 1 (by decide)
              have a2 : w.cell? ⟨sm, j * 15 + 2, none⟩ = some (.int .i64 y.n) := hSw.2.1 2 (by decide)
              have a3 : w.cell? ⟨sm, j * 15 + 3, none⟩ = some (.int .i64 y.h) := hSw.2.1 3 (by decide)
              have a4 : w.cell? ⟨sm, j * 15 + 4, none⟩ = some (.int .i64 y.x.m.k) := hSw.2.1 4 (by decide)
              have a5 : w.cell? ⟨sm, j * 15 + 5, none⟩ = some (.int .i64 y.x.m.s) := hSw.2.1 5 (by decide)
              have a6 : w.cell? ⟨sm, j * 15 + 6, none⟩ = some (.int .i64 y.x.m.n) := hSw.2.1 6 (by decide)
              have a7 : w.cell? ⟨sm, j * 15 + 7, none⟩ = some (.int .i64 y.x.m.b) := hSw.2.1 7 (by decide)
              have a8 : w.cell? ⟨sm, j * 15 + 8, none⟩ = some (.int .i64 y.x.m.c) := hSw.2.1 8 (by decide)
              have a9 : w.cell? ⟨sm, j * 15 + 9, none⟩ = some (.int .i64 y.x.m.r) := hSw.2.1 9 (by decide)
              have a10 : w.cell? ⟨sm, j * 15 + 10, none⟩ = some (.int .i64 y.x.m.y) := hSw.2.1 10 (by decide)
              have a11 : w.cell? ⟨sm, j * 15 + 11, none⟩ = some (.int .i64 y.x.m.a) := hSw.2.1 11 (by decide)
              have a12 : w.cell? ⟨sm, j * 15 + 12, none⟩ = some (.bool y.x.m.t) := hSw.2.1 12 (by decide)
              have a13 : w.cell? ⟨sm, j * 15 + 13, none⟩ = some (.slice y.x.pl y.x.m.ls.length y.x.cl) := hSw.2.1 13 (by decide)
              have a14 : w.cell? ⟨sm, j * 15 + 14, none⟩ = some (.slice y.x.pn y.x.m.ns.length y.x.cn) := hSw.2.1 14 (by decide)
              clear hSw
              first | (go_simp; done) | (go_simp; with_reducible rfl)
            try simp only [Act.put, List.getElem_toArray, List.getElem_cons_succ, List.getElem_cons_zero, List.setIfInBounds_toArray, List.set_cons_zero, List.set_cons_succ]
            refine wpAnyH_ready (rs := [13]) (by kernel_rfl) (by simp) ?_
            refine AllReadyH.cons rfl (fun K hK => ?_) AllReadyH.nil
            go_simp
            go_at_call 11
            refine HSM.out.mono ?_
            rintro y0 w6 ⟨rfl, hbs⟩
            have hS2 : Blk w6 gz #[.int .i64 z.f, .int .i64 z.t, .int .i64 z.n, .int .i64 z.h, .int .i64 z.x.m.k, .int .i64 z.x.m.s, .int .i64 z.x.m.n, .int .i64 z.x.m.b, .int .i64 z.x.m.c, .int .i64 z.x.m.r, .int .i64 z.x.m.y, .int .i64 z.x.m.a, .bool z.x.m.t, .slice z.x.pl z.x.m.ls.length z.x.cl, .slice z.x.pn z.x.m.ns.length z.x.cn] 38 ∧ (∀ q9, q9 < 15 → w6.cell? ⟨sm, j * 15 + q9, none⟩ = (PkX.cells y)[q9]?) ∧ w6.cell? ⟨go, 1, none⟩ = some (.int .i64 (j : Nat)) := ⟨HBZ.out.drew.below hbs HBZ.out.lt, fun q hq => (hbs.cell (p := ⟨sm, _, none⟩) HSMB.out).trans (HCM.out q hq), (hbs.cell (p := ⟨go, _, none⟩) HGB.out).trans HG1.out⟩
            have HB6 := Lib.hid hbs
            clear hbs HSM
            try go_wp2_with fail
            refine hK.out _ _ hS2 (fun hS => ?_)
            clear hK K
            try simp only [Act.put, List.getElem_toArray, List.getElem_cons_succ, List.getElem_cons_zero, List.setIfInBounds_toArray, List.set_cons_zero, List.set_cons_succ]
            refine wpAnyH_take (i := 14) (v := ?_) rfl (by kernel_rfl) (by kernel_rfl) (by kernel_rfl) (fun _ _ _ h => h) (Or.inl ⟨by kernel_rfl, ?_⟩) (by first | assumption | trivial) ?_
            rotate_left
            · intro w hSw
              try dsimp only at hSw
              first | (go_simp; done) | (go_simp; with_reducible rfl)
            try simp only [Act.put, List.getElem_toArray, List.getElem_cons_succ, List.getElem_cons_zero, List.setIfInBounds_toArray, List.set_cons_zero, List.set_cons_succ]
            refine wpAnyH_take (i := 15) (v := ?_) rfl (by kernel_rfl) (by kernel_rfl) (by kernel_rfl) (fun _ _ _ h => h) (Or.inl ⟨by kernel_rfl, ?_⟩) (by first | assumption | trivial) ?_
            rotate_left
            · intro w hSw
              try dsimp only at hSw
              first | (go_simp; done) | (go_simp; with_reducible rfl)
            try simp only [Act.put, List.getElem_toArray, List.getElem_cons_succ, List.getElem_cons_zero, List.setIfInBounds_toArray, List.set_cons_zero, List.set_cons_succ]
            refine wpAnyH_take (i := 16) (v := ?_) rfl (by kernel_rfl) (by kernel_rfl) (by kernel_rfl) (fun _ _ _ h => h) (Or.inl ⟨by kernel_rfl, ?_⟩) (by first | assumption | trivial) ?_
            rotate_left
            · intro w hSw
              try dsimp only at hSw
              first | (go_simp; done) | (go_simp; with_reducible rfl)
            try simp only [Act.put, List.getElem_toArray, List.getElem_cons_succ, List.getElem_cons_zero, List.setIfInBounds_toArray, List.set_cons_zero, List.set_cons_succ]
            refine wpAnyH_take (i := 17) (v := ?_) rfl (by kernel_rfl) (by kernel_rfl) (by kernel_rfl) (fun _ _ _ h => h) (Or.inl ⟨by kernel_rfl, ?_⟩) (by first | assumption | trivial) ?_
            rotate_left
            · intro w hSw
              try dsimp only at hSw
              first | (go_simp; done) | (go_simp; with_reducible rfl)
            try simp only [Act.put, List.getElem_toArray, List.getElem_cons_succ, List.getElem_cons_zero, List.setIfInBounds_toArray, List.set_cons_zero, List.set_cons_succ]
            refine wpAnyH_take (i := 18) (v := ?_) rfl (by kernel_rfl) (by kernel_rfl) (by kernel_rfl) (fun _ _ _ h => h) (Or.inl ⟨by kernel_rfl, ?_⟩) (by first | assumption | trivial) ?_
            rotate_left
            · intro w hSw
              try dsimp only at hSw
              first | (go_simp; done) | (go_simp; with_reducible rfl)
            try simp only [Act.put, List.getElem_toArray, List.getElem_cons_succ, List.getElem_cons_zero, List.setIfInBounds_toArray, List.set_cons_zero, List.set_cons_succ]
            refine wpAnyH_take (i := 19) (v := ?_) rfl (by kernel_rfl) (by kernel_rfl) (by kernel_rfl) (fun _ _ _ h => h) (Or.inl ⟨by kernel_rfl, ?_⟩) (by first | assumption | trivial) ?_
            rotate_left
            · intro w hSw
              try dsimp only at hSw
              first | (go_simp; done) | (go_simp; with_reducible rfl)
            try simp only [Act.put, List.getElem_toArray, List.getElem_cons_succ, List.getElem_cons_zero, List.setIfInBounds_toArray, List.set_cons_zero, List.set_cons_succ]
            refine wpAnyH_take (i := 20) (v := ?_) rfl (by kernel_rfl) (by kernel_rfl) (by kernel_rfl) (fun _ _ _ h => h) (Or.inl ⟨by kernel_rfl, ?_⟩) (by first | assumption | trivial) ?_
            rotate_left
            · intro w hSw
              try dsimp only at hSw
              first | (go_simp; done) | (go_simp; with_reducible rfl)
            try simp only [Act.put, List.getElem_toArray, List.getElem_cons_succ, List.getElem_cons_zero, List.setIfInBounds_toArray, List.set_cons_zero, List.set_cons_succ]
            refine wpAnyH_take (i := 21) (v := undef) rfl (by kernel_rfl) (by kernel_rfl) (by kernel_rfl) (fun _ _ _ h => h) (Or.inr ⟨by kernel_rfl, rfl⟩) (by first | assumption | trivial) ?_
            try simp only [Act.put, List.getElem_toArray, List.getElem_cons_succ, List.getElem_cons_zero, List.setIfInBounds_toArray, List.set_cons_zero, List.set_cons_succ]
            refine wpAnyH_take (i := 22) (v := undef) rfl (by kernel_rfl) (by kernel_rfl) (by kernel_rfl) (fun _ _ _ h => h) (Or.inr ⟨by kernel_rfl, rfl⟩) (by first | assumption | trivial) ?_
            try simp only [Act.put, List.getElem_toArray, List.getElem_cons_succ, List.getElem_cons_zero, List.setIfInBounds_toArray, List.set_cons_zero, List.set_cons_succ]
            refine wpAnyH_take (i := 23) (v := ?_) rfl (by kernel_rfl) (by kernel_rfl) (by kernel_rfl) (fun _ _ _ h => h) (Or.inl ⟨by kernel_rfl, ?_⟩) (by first | assumption | trivial) ?_
            rotate_left
            · intro w hSw
              try dsimp only at hSw
              first | (go_simp; done) | (go_simp; with_reducible rfl)
            try simp only [Act.put, List.getElem_toArray, List.getElem_cons_succ, List.getElem_cons_zero, List.setIfInBounds_toArray, List.set_cons_zero, List.set_cons_succ]
            refine wpAnyH_take (i := 24) (v := ?_) rfl (by kernel_rfl) (by kernel_rfl) (by kernel_rfl) (fun _ _ _ h => h) (Or.inl ⟨by kernel_rfl, ?_⟩) (by first | assumption | trivial) ?_
            rotate_left
            · intro w hSw
              try dsimp only at hSw
              first | (go_simp; done) | (go_simp; with_reducible rfl)
            try simp only [Act.put, List.getElem_toArray, List.getElem_cons_succ, List.getElem_cons_zero, List.setIfInBounds_toArray, List.set_cons_zero, List.set_cons_succ]
            refine wpAnyH_done (by kernel_rfl) ?_ _
            have HO6 := Lib.hid ((HO4.out.later (Below.refl _ _).drew).later HB6.out)
            have HN6 := Lib.hid (((HN4.out.kept (Below.refl _ _).drew).kept HB6.out).ext (L' := fun b => w6.heap.size ≤ b) (fun b hb h => by omega))
            have HL6 := Lib.hid (HL4.out.trans ((Below.refl w4.heap.size w4).drew.trans HB6.out |>.mono HL4.out.size))
            have HGO6 := Lib.hid ((HGO4.out.drew).below HB6.out HGO4.out.lt)
            clear hS hS0 HCM HG1 HGB HO4 HN4 HL4 HGO4 HBZ HZ2 HSMB HB6 HZ1 HYR
            have HW6 : Hid (W.heap.size ≤ w6.heap.size) := HL6.out.size
            have hm : cv ≤ 9223372036854775807 := by unfold maxLen at hcvm; omega
            have e0 : (0 : Int) ≤ (j : Int) + 1 := by omega
            have e1 : (j : Int) + 1 ≤ (zs.length : Int) := by omega
            have e2 : (zs.length : Int) ≤ (cv : Int) := by omega
            have e3 : ((j : Int) + 1).toNat = j + 1 := by omega
            have e4 : (j : Int) ≤ (cv : Int) := by omega
            have e5 : (j : Int) + 1 ≤ (cv : Int) := by omega
            have ejw : IntKind.i64.wrap ((j : Int) + 1) = (j : Int) + 1 := by
              have h1 := HZ.out
              rw [IntKind.wrap_i64]
              omega
            have HSMW : Hid (sm < w6.heap.size) := HO6.out.lt sm rfl
            go_upto_region 23 with fail
            have hb7 : Below w6.heap.size w6 ((w6.alloc (.cells #[] 38)).drew) := (oneB w6 _).drew
            have HMD : Hid (OwnT encK ((w6.alloc (.cells #[] 38)).drew) W.heap.size 38 (.slice (some ⟨w6.heap.size, 0, none⟩) 0 0) []) := (OwnT.madeE encK w6 W.heap.size 38 HW6.out).later (Below.refl _ _).drew
            have HRT : Hid (TRow encK ((w6.alloc (.cells #[] 38)).drew) (.slice (some ⟨sm, 0, none⟩) j cv) (zs.take j)) := (HO6.out.row.kept hb7).take j (by have := HJ.out; omega)
            have HRD : Hid (TRow encK ((w6.alloc (.cells #[] 38)).drew) (.slice (if cv = j + 1 then some ⟨sm, 0, none⟩ else some ⟨sm, (j + 1) * 15, none⟩) (zs.length - (j + 1)) (cv - (j + 1))) (zs.drop (j + 1))) := (HO6.out.row.kept hb7).tail (j + 1) (by have := HJ.out; omega) rfl (by omega) (fun b o e hlt => by
              cases e
              rw [if_neg (by omega), Nat.zero_add]
              rfl)
            have HG6 : Hid (w6.drew.cell? ⟨go, 1, none⟩ = some (.int .i64 (j : Nat))) := HGO6.out.drew.cell 1
            have HN7 := Lib.hid (HN6.out.kept hb7)
            have HL7 := Lib.hid (HL6.out.trans (hb7.mono HW6.out))
            have HG7 : Hid (Blk ((w6.alloc (.cells #[] 38)).drew) go #[.int .i64 1, .int .i64 (j : Nat), .slice lp ys.length lc] 29) := HGO6.out.below hb7 HGO6.out.lt
            have HG7c : Hid (((w6.alloc (.cells #[] 38)).drew).cell? ⟨go, 1, none⟩ = some (.int .i64 (j : Nat))) := HG7.out.cell 1
            have HGL : Hid (go < w6.heap.size) := HGO6.out.lt
            have HS7 : Hid (((w6.alloc (.cells #[] 38)).drew).heap.size = w6.heap.size + 1) := by show _ = _; simp
            have HNJ : Hid (j < zs.length) := HJ.out
            clear hb7 HN6 HL6 HGO6 HO6
            refine wp_region_held_drew (S := fun w' => w'.cell? ⟨go, 1, none⟩ = some (.int .i64 (j : Nat))) (by kernel_rfl) HG6.out (fun hS0 => ?_)
            refine wpAnyH_take (i := 1) (v := ?_) rfl (by kernel_rfl) (by kernel_rfl) (by kernel_rfl) (fun _ _ _ h => h) (Or.inl ⟨by kernel_rfl, ?_⟩) (by first | assumption | trivial) ?_
            rotate_left
            · intro w hSw
              try dsimp only at hSw
              first | (go_simp; done) | (go_simp; with_reducible rfl)
            try simp only [Act.put, List.getElem_toArray, List.getElem_cons_succ, List.getElem_cons_zero, List.setIfInBounds_toArray, List.set_cons_zero, List.set_cons_succ]
            refine wpAnyH_take (i := 2) (v := ?_) rfl (by kernel_rfl) (by kernel_rfl) (by kernel_rfl) (fun _ _ _ h => h) (Or.inl ⟨by kernel_rfl, ?_⟩) (by first | assumption | trivial) ?_
            rotate_left
            · intro w hSw
              try dsimp only at hSw
              first | (go_simp; done) | (go_simp; with_reducible rfl)
            try simp only [Act.put, List.getElem_toArray, List.getElem_cons_succ, List.getElem_cons_zero, List.setIfInBounds_toArray, List.set_cons_zero, List.set_cons_succ]
            refine wpAnyH_take (i := 3) (v := ?_) rfl (by kernel_rfl) (by kernel_rfl) (by kernel_rfl) (fun _ _ _ h => h) (Or.inl ⟨by kernel_rfl, ?_⟩) (by first | assumption | trivial) ?_
            rotate_left
            · intro w hSw
              try dsimp only at hSw
              have a0 := hSw
              clear hSw
              first | (go_simp; done) | (go_simp; with_reducible rfl)
            try simp only [Act.put, List.getElem_toArray, List.getElem_cons_succ, List.getElem_cons_zero, List.setIfInBounds_toArray, List.set_cons_zero, List.set_cons_succ]
            refine wpAnyH_take (i := 4) (v := ?_) rfl (by kernel_rfl) (by kernel_rfl) (by kernel_rfl) (fun _ _ _ h => h) (Or.inl ⟨by kernel_rfl, ?_⟩) (by first | assumption | trivial) ?_
            rotate_left
            · intro w hSw
              try dsimp only at hSw
              first | (go_simp; done) | (go_simp; with_reducible rfl)
            try simp only [Act.put, List.getElem_toArray, List.getElem_cons_succ, List.getElem_cons_zero, List.setIfInBounds_toArray, List.set_cons_zero, List.set_cons_succ]
            refine wpAnyH_take (i := 6) (v := ?_) rfl (by kernel_rfl) (by kernel_rfl) (by kernel_rfl) (fun _ _ _ h => h) (Or.inl ⟨by kernel_rfl, ?_⟩) (by first | assumption | trivial) ?_
            rotate_left
            · intro w hSw
              try dsimp only at hSw
              first | (go_simp; done) | (go_simp; with_reducible rfl)
            try simp only [Act.put, List.getElem_toArray, List.getElem_cons_succ, List.getElem_cons_zero, List.setIfInBounds_toArray, List.set_cons_zero, List.set_cons_succ]
            refine wpAnyH_take (i := 7) (v := ?_) rfl (by kernel_rfl) (by kernel_rfl) (by kernel_rfl) (fun _ _ _ h => h) (Or.inl ⟨by kernel_rfl, ?_⟩) (by first | assumption | trivial) ?_
            rotate_left
            · intro w hSw
              try dsimp only at hSw
              first | (go_simp; done) | (go_simp; with_reducible rfl)
            try simp only [Act.put, List.getElem_toArray, List.getElem_cons_succ, List.getElem_cons_zero, List.setIfInBounds_toArray, List.set_cons_zero, List.set_cons_succ]
            refine wpAnyH_take (i := 8) (v := ?_) rfl (by kernel_rfl) (by kernel_rfl) (by kernel_rfl) (fun _ _ _ h => h) (Or.inl ⟨by kernel_rfl, ?_⟩) (by first | assumption | trivial) ?_
            rotate_left
            · intro w hSw
              try dsimp only at hSw
              have a0 := hSw
              clear hSw
              first | (go_simp; done) | (go_simp; with_reducible rfl)
            try simp only [Act.put, List.getElem_toArray, List.getElem_cons_succ, List.getElem_cons_zero, List.setIfInBounds_toArray, List.set_cons_zero, List.set_cons_succ]
            refine wpAnyH_take (i := 9) (v := ?_) rfl (by kernel_rfl) (by kernel_rfl) (by kernel_rfl) (fun _ _ _ h => h) (Or.inl ⟨by kernel_rfl, ?_⟩) (by first | assumption | trivial) ?_
            rotate_left
            · intro w hSw
              try dsimp only at hSw
              first | (go_simp; done) | (go_simp; with_reducible rfl)
            try simp only [Act.put, List.getElem_toArray, List.getElem_cons_succ, List.getElem_cons_zero, List.setIfInBounds_toArray, List.set_cons_zero, List.set_cons_succ]
            refine wpAnyH_take (i := 10) (v := ?_) rfl (by kernel_rfl) (by kernel_rfl) (by kernel_rfl) (fun _ _ _ h => h) (Or.inl ⟨by kernel_rfl, ?_⟩) (by first | assumption | trivial) ?_
            rotate_left
            · intro w hSw
              try dsimp only at hSw
              first | (go_simp; done) | (go_simp; with_reducible rfl)
            try simp only [Act.put, List.getElem_toArray, List.getElem_cons_succ, List.getElem_cons_zero, List.setIfInBounds_toArray, List.set_cons_zero, List.set_cons_succ]
            refine wpAnyH_ready (rs := [0]) (by kernel_rfl) (by simp) ?_
            refine AllReadyH.cons rfl (fun K hK => ?_) AllReadyH.nil
            go_simp
            refine hK.out _ _ HG7c.out (fun hS => ?_)
            clear hK K
            try simp only [Act.put, List.getElem_toArray, List.getElem_cons_succ, List.getElem_cons_zero, List.setIfInBounds_toArray, List.set_cons_zero, List.set_cons_succ]
            refine wpAnyH_ready (rs := [5]) (by kernel_rfl) (by simp) ?_
            refine AllReadyH.cons rfl (fun K hK => ?_) AllReadyH.nil
            refine step_append_tg rfl (.tmp 90) (.tmp 94) 27 rfl 38 zeroVK 152 W.heap.size eltK rfl (.slice (some ⟨w6.heap.size, 0, none⟩) 0 0) (.slice (some ⟨sm, 0, none⟩) j cv) [] (zs.take j) rfl rfl HMD.out HRT.out (by have h1 := HZ.out; have h2 := HNJ.out; rw [List.length_take]; simp; omega) (by have h1 := HZ.out; have h2 := HNJ.out; rw [List.length_take]; simp; omega) HL7.out.size (zs.take j) j (List.nil_append _) (by rw [List.length_take]; have h2 := HNJ.out; omega) ?_
            intro p8 c8 w8 ho8 hg8 hor8 hb8
            have HO8 := Lib.hid ho8
            have hgb8 := HG7.out.grown hg8 (fun e => by have h1 := HGL.out; have h2 : go = w6.heap.size := Option.some.inj e; omega)
            have HG8 : Hid (w8.cell? ⟨go, 1, none⟩ = some (.int .i64 (j : Nat))) := hgb8.cell 1
            have HGB8 := Lib.hid hgb8
            have HN8 := Lib.hid (HN7.out.grown hg8 (fun b hb => by have h2 : w6.heap.size = b := Option.some.inj hb; show w6.heap.size ≤ b; omega))
            have HV8 : Hid (∀ b, (Value.slice p8 j c8).ownBlock = some b → w6.heap.size ≤ b) := fun b hb => by
              rcases hor8 with h | h
              · rw [h] at hb
                have h2 : w6.heap.size = b := Option.some.inj hb
                omega
              · rw [h] at hb
                have h2 : ((w6.alloc (.cells #[] 38)).drew).heap.size = b := Option.some.inj hb
                have h3 := HS7.out
                omega
            have hat : At (fun b => b < w6.heap.size) (.slice (if cv = j + 1 then some ⟨sm, 0, none⟩ else some ⟨sm, (j + 1) * 15, none⟩) (zs.length - (j + 1)) (cv - (j + 1))) (zs.drop (j + 1)).length := fun b' o' n' c' e hlt => by
              have h1 := (Value.slice.inj e).1
              split at h1
              · cases h1; exact HSMW.out
              · cases h1; exact HSMW.out
            have HRD8 := Lib.hid (HRD.out.keepP hat (KeepP.of_grown hg8 hg8.size (fun b hb e => by have h2 : b = w6.heap.size := Option.some.inj e; have h3 : b < w6.heap.size := hb; omega)))
            have HL8 := Lib.hid (HL7.out.trans hb8)
            have HS8 : Hid (w6.heap.size ≤ w8.heap.size) := by show _ ≤ _; have h1 := hg8.size; have h2 := HS7.out; omega
            clear ho8 hg8 hor8 hb8 hgb8 hat HN7 HL7 HRD HRT HMD
            refine hK.out _ _ HG8.out (fun hS => ?_)
            clear hK K
            try simp only [Act.put, List.getElem_toArray, List.getElem_cons_succ, List.getElem_cons_zero, List.setIfInBounds_toArray, List.set_cons_zero, List.set_cons_succ]
            refine wpAnyH_ready (rs := [11]) (by kernel_rfl) (by simp) ?_
            refine AllReadyH.cons rfl (fun K hK => ?_) AllReadyH.nil
            refine step_append_tg rfl (.tmp 95) (.tmp 100) 27 rfl 38 zeroVK 152 W.heap.size eltK rfl (.slice p8 j c8) (.slice (if cv = j + 1 then some ⟨sm, 0, none⟩ else some ⟨sm, (j + 1) * 15, none⟩) (zs.length - (j + 1)) (cv - (j + 1))) (zs.take j) (zs.drop (j + 1)) rfl rfl HO8.out HRD8.out (by have h1 := HZ.out; have h2 := HNJ.out; rw [List.length_take, List.length_drop]; omega) (by have h1 := HZ.out; have h2 := HNJ.out; rw [List.length_take, List.length_drop]; omega) HL8.out.size (zs.eraseIdx j) (zs.length - 1) (List.eraseIdx_eq_take_drop_succ _ _).symm (by rw [List.length_eraseIdx, if_pos HNJ.out]) ?_
            intro p9 c9 w9 ho9 hg9 hor9 hb9
            have HS9 : Hid (PSt W g (zs.eraseIdx j) (.slice p9 (zs.length - 1) c9) w9) := ⟨((HN8.out.ext (L' := fun b => w6.heap.size ≤ b) (fun b _ h => h)).grown hg9 (fun b hb => HV8.out b hb)).ext (fun b hb h => by rcases hor9 with h1 | h1; exact HV8.out b (h1 ▸ h); rw [h1] at h; have h2 := Option.some.inj h; have h3 := HGL.out; have h4 := HS8.out; show w6.heap.size ≤ b; omega), ho9, HRWS.out, HL8.out.trans hb9⟩
            have HG9 : Hid (w9.cell? ⟨go, 1, none⟩ = some (.int .i64 (j : Nat))) := (HGB8.out.grown hg9 (fun e => by have h1 := HGL.out; have h2 := HV8.out go e.symm; omega)).cell 1
            clear ho9 hg9 hor9 hb9
            refine hK.out _ _ HG9.out (fun hS => ?_)
            clear hK K
            try simp only [Act.put, List.getElem_toArray, List.getElem_cons_succ, List.getElem_cons_zero, List.setIfInBounds_toArray, List.set_cons_zero, List.set_cons_succ]
            refine wpAnyH_take (i := 12) (v := ?_) rfl (by kernel_rfl) (by kernel_rfl) (by kernel_rfl) (fun _ _ _ h => h) (Or.inl ⟨by kernel_rfl, ?_⟩) (by first | assumption | trivial) ?_
            rotate_left
            · intro w hSw
              try dsimp only at hSw
              first | (go_simp; done) | (go_simp; with_reducible rfl)
            try simp only [Act.put, List.getElem_toArray, List.getElem_cons_succ, List.getElem_cons_zero, List.setIfInBounds_toArray, List.set_cons_zero, List.set_cons_succ]
            refine wpAnyH_done (by kernel_rfl) ?_ _
            clear hS hS0 HN8 HO8 HRD8 HL8 HGB8 HV8 hjz e0 e1 e2 e3 e4 e5 ejw hm hcvm hncv
            go_wp2_with fail
            all_goals
              refine (net_len w9 HS9.out.net).mono ?_
              rintro y0 wt ⟨rfl, rfl⟩
              rw [List.length_map, List.length_eraseIdx, if_pos HNJ.out]
              go_wp2_with fail
              go_roundw
              case rel => exact ⟨t + 1, _, by omega, by rw [List.length_eraseIdx]; split <;> omega, by go_num, HS9⟩
              case measure => simp [intOf]; omega
          have hb1 : (k == 1) = false := by simpa using hk1
          by_cases hk2 : k = 2
          · subst hk2
            as_aux_lemma =>
            go_wp2_with fail
            refine (net_twice w2 j HN2.out (by rw [List.length_map]; exact HJ.out) (by rw [List.length_map]; have := HZ.out; omega) (fun b hb => hb.elim (fun h => HS2.out.own.lt b h) (fun h => by subst h; exact HGO.out.lt))).mono ?_
            rintro y0 w3 ⟨rfl, hn3, hb3, hk3⟩
            obtain ⟨sm, om, rfl, _, _⟩ := HS2.out.own.row.at_ j HJ.out
            have HVM : Hid (∀ z ∈ zs ++ [zs[j]'HJ.out], z.x.InP (fun b => b < W.heap.size) W) := fun z hz => (List.mem_append.1 hz).elim (HS2.out.rows z) (fun h => by simp at h; subst h; exact HS2.out.rows _ (List.getElem_mem _))
            have hks : zs.map PkX.pk ++ [(zs.map PkX.pk)[j]'(by rw [List.length_map]; exact HJ.out)] = (zs ++ [zs[j]'HJ.out]).map PkX.pk := by simp
            rw [hks] at hn3
            have HO3 := Lib.hid (HS2.out.own.stay (fun b hb => hk3.2 b (HS2.out.own.lt b hb) (.inl hb)))
            have HL3 := Lib.hid (HS2.out.low.trans hb3)
            have HN3 := Lib.hid (hn3.ext (L' := fun b => (Value.slice (some ⟨sm, om, none⟩) zs.length cv).ownBlock = some b) (fun b hb h => .inl h))
            have HGO3 : Hid (Blk w3 go #[.int .i64 2, .int .i64 (j : Nat), .slice lp ys.length lc] 29) := (hk3.2 go HGO.out.lt (.inr rfl)).trans HGO.out
            have hcm : ∀ q, q < 15 → w3.cell? ⟨sm, om + j * 15 + q, none⟩ = (PkX.cells (zs[j]'HJ.out))[q]? := by
              obtain ⟨b', o', e1, _, h⟩ := HO3.out.row.at_ j HJ.out
              cases e1
              exact fun q hq => h q hq
            have q1 : w3.cell? ⟨go, 1, none⟩ = some (.int .i64 (j : Nat)) := HGO3.out.cell 1
            clear hn3 hb3 hk3 hks o0 o1 o2
            go_upto_region 29 with fail
            generalize zs[j]'HJ.out = y at *
            have d0 : w3.cell? ⟨sm, om + j * 15, none⟩ = some (.int .i64 y.f) := hcm 0 (by decide)
            have d1 : w3.cell? ⟨sm, om + j * 15 + 1, none⟩ = some (.int .i64 y.t) := hcm 1 (by decide)
            have d2 : w3.cell? ⟨sm, om + j * 15 + 2, none⟩ = some (.int .i64 y.n) := hcm 2 (by decide)
            have d3 : w3.cell? ⟨sm, om + j * 15 + 3, none⟩ = some (.int .i64 y.h) := hcm 3 (by decide)
            have d4 : w3.cell? ⟨sm, om + j * 15 + 4, none⟩ = some (.int .i64 y.x.m.k) := hcm 4 (by decide)
            have d5 : w3.cell? ⟨sm, om + j * 15 + 5, none⟩ = some (.int .i64 y.x.m.s) := hcm 5 (by decide)
            have d6 : w3.cell? ⟨sm, om + j * 15 + 6, none⟩ = some (.int .i64 y.x.m.n) := hcm 6 (by decide)
            have d7 : w3.cell? ⟨sm, om + j * 15 + 7, none⟩ = some (.int .i64 y.x.m.b) := hcm 7 (by decide)
            have d8 : w3.cell? ⟨sm, om + j * 15 + 8, none⟩ = some (.int .i64 y.x.m.c) := hcm 8 (by decide)
            have d9 : w3.cell? ⟨sm, om + j * 15 + 9, none⟩ = some (.int .i64 y.x.m.r) := hcm 9 (by decide)
            have d10 : w3.cell? ⟨sm, om + j * 15 + 10, none⟩ = some (.int .i64 y.x.m.y) := hcm 10 (by decide)
            have d11 : w3.cell? ⟨sm, om + j * 15 + 11, none⟩ = some (.int .i64 y.x.m.a) := hcm 11 (by decide)
            have d12 : w3.cell? ⟨sm, om + j * 15 + 12, none⟩ = some (.bool y.x.m.t) := hcm 12 (by decide)
            have d13 : w3.cell? ⟨sm, om + j * 15 + 13, none⟩ = some (.slice y.x.pl y.x.m.ls.length y.x.cl) := hcm 13 (by decide)
            have d14 : w3.cell? ⟨sm, om + j * 15 + 14, none⟩ = some (.slice y.x.pn y.x.m.ns.length y.x.cn) := hcm 14 (by decide)
            clear hcm
            have hjz : (j : Int) < (zs.length : Int) := by have := HJ.out; omega
            have hb4 := oneB w3 (.cells #[.int .i64 y.f, .int .i64 y.t, .int .i64 y.n, .int .i64 y.h, .int .i64 y.x.m.k, .int .i64 y.x.m.s, .int .i64 y.x.m.n, .int .i64 y.x.m.b, .int .i64 y.x.m.c, .int .i64 y.x.m.r, .int .i64 y.x.m.y, .int .i64 y.x.m.a, .bool y.x.m.t, .slice y.x.pl y.x.m.ls.length y.x.cl, .slice y.x.pn y.x.m.ns.length y.x.cn] 38)
            have HO4 := Lib.hid (HO3.out.later hb4)
            have HN4 := Lib.hid (HN3.out.kept hb4)
            have HL4 := Lib.hid (HL3.out.trans (hb4.mono HL3.out.size))
            have HROW : Hid (TRow encK (w3.alloc (.cells #[.int .i64 y.f, .int .i64 y.t, .int .i64 y.n, .int .i64 y.h, .int .i64 y.x.m.k, .int .i64 y.x.m.s, .int .i64 y.x.m.n, .int .i64 y.x.m.b, .int .i64 y.x.m.c, .int .i64 y.x.m.r, .int .i64 y.x.m.y, .int .i64 y.x.m.a, .bool y.x.m.t, .slice y.x.pl y.x.m.ls.length y.x.cl, .slice y.x.pn y.x.m.ns.length y.x.cn] 38)) (.slice (some ⟨w3.heap.size, 0, none⟩) 1 1) [y]) := TRow.one_ encK y (Blk.new w3 #[.int .i64 y.f, .int .i64 y.t, .int .i64 y.n, .int .i64 y.h, .int .i64 y.x.m.k, .int .i64 y.x.m.s, .int .i64 y.x.m.n, .int .i64 y.x.m.b, .int .i64 y.x.m.c, .int .i64 y.x.m.r, .int .i64 y.x.m.y, .int .i64 y.x.m.a, .bool y.x.m.t, .slice y.x.pl y.x.m.ls.length y.x.cl, .slice y.x.pn y.x.m.ns.length y.x.cn] 38) rfl (Nat.le_refl 1)
            clear hb4
            go_wp2_with (with_reducible refine stop_op (.buildSlice 27 1 #[(0, .tmp 125)]) rfl ?_)
            clear d0 d1 d2 d3 d4 d5 d6 d7 d8 d9 d10 d11 d12 d13 d14 q1
            refine wpList_build rfl 27 (.tmp 125) rfl _ _ rfl (bs_pk y w3) ?_
            generalize w3.alloc (.cells #[.int .i64 y.f, .int .i64 y.t, .int .i64 y.n, .int .i64 y.h, .int .i64 y.x.m.k, .int .i64 y.x.m.s, .int .i64 y.x.m.n, .int .i64 y.x.m.b, .int .i64 y.x.m.c, .int .i64 y.x.m.r, .int .i64 y.x.m.y, .int .i64 y.x.m.a, .bool y.x.m.t, .slice y.x.pl y.x.m.ls.length y.x.cl, .slice y.x.pn y.x.m.ns.length y.x.cn] 38) = w4 at *
            refine wpList_append_tg rfl (.tmp 120) (.tmp 126) 27 rfl 38 zeroVK 152 W.heap.size eltK rfl (.slice (some ⟨sm, om, none⟩) zs.length cv) (.slice (some ⟨w3.heap.size, 0, none⟩) 1 1) zs [y] rfl rfl HO4.out HROW.out (by have := HZ.out; simp; omega) (by have := HZ.out; simp; omega) HL4.out.size (zs ++ [y]) (zs.length + 1) rfl (by rw [List.length_append]; rfl) ?_
            intro p5 c5 w5 ho hg hor hb
            have HS5 : Hid (PSt W g (zs ++ [y]) (.slice p5 (zs.length + 1) c5) w5) := PSt.more HN4.out HVM.out HL4.out rfl ho hg hor hb
            clear ho hg hor hb HO4 HN4 HL4 HROW hjz
            go_wp2_with fail
            refine (net_len w5 HS5.out.net).mono ?_
            rintro y0 wt ⟨rfl, rfl⟩
            rw [List.length_map]
            go_wp2_with fail
            go_roundw
            case rel => exact ⟨t + 1, _, by omega, by rw [List.length_append]; simp; omega, by go_num, HS5⟩
            case measure => simp [intOf]; omega
          have hb2 : (k == 2) = false := by simpa using hk2
          by_cases hk3 : k = 3
          · subst hk3
            as_aux_lemma =>
            go_wp2_with fail
            refine (net_look w2 j HN2.out (by rw [List.length_map]; exact HJ.out)).mono ?_
            rintro y0 w3 ⟨z, rfl, hz1, hz2, hb3⟩
            obtain ⟨sm, om, rfl, hsm, _⟩ := HS2.out.own.row.at_ j HJ.out
            have HZ1 : Hid (z.pk = (zs[j]'HJ.out).pk) := by show _ = _; rw [hz1]; simp
            have HYR : Hid ((zs[j]'HJ.out).x.InP (fun b => b < W.heap.size) W) := HS2.out.rows _ (List.getElem_mem _)
            have hb4 := hb3.trans ((oneB w3 (.cells #[.int .i64 z.f, .int .i64 z.t, .int .i64 z.n, .int .i64 z.h, .int .i64 z.x.m.k, .int .i64 z.x.m.s, .int .i64 z.x.m.n, .int .i64 z.x.m.b, .int .i64 z.x.m.c, .int .i64 z.x.m.r, .int .i64 z.x.m.y, .int .i64 z.x.m.a, .bool z.x.m.t, .slice z.x.pl z.x.m.ls.length z.x.cl, .slice z.x.pn z.x.m.ns.length z.x.cn] 38)).mono hb3.size)
            have HS4 := Lib.hid (HS2.out.kept hb4)
            have HGO4 := Lib.hid (HGO.out.below hb4 HGO.out.lt)
            have HZ2 := Lib.hid (hz2.kept (oneB w3 (.cells #[.int .i64 z.f, .int .i64 z.t, .int .i64 z.n, .int .i64 z.h, .int .i64 z.x.m.k, .int .i64 z.x.m.s, .int .i64 z.x.m.n, .int .i64 z.x.m.b, .int .i64 z.x.m.c, .int .i64 z.x.m.r, .int .i64 z.x.m.y, .int .i64 z.x.m.a, .bool z.x.m.t, .slice z.x.pl z.x.m.ls.length z.x.cl, .slice z.x.pn z.x.m.ns.length z.x.cn] 38)))
            have HBZ := Lib.hid (Blk.new w3 #[.int .i64 z.f, .int .i64 z.t, .int .i64 z.n, .int .i64 z.h, .int .i64 z.x.m.k, .int .i64 z.x.m.s, .int .i64 z.x.m.n, .int .i64 z.x.m.b, .int .i64 z.x.m.c, .int .i64 z.x.m.r, .int .i64 z.x.m.y, .int .i64 z.x.m.a, .bool z.x.m.t, .slice z.x.pl z.x.m.ls.length z.x.cl, .slice z.x.pn z.x.m.ns.length z.x.cn] 38)
            have HSMB : Hid (sm < (w3.alloc (.cells #[.int .i64 z.f, .int .i64 z.t, .int .i64 z.n, .int .i64 z.h, .int .i64 z.x.m.k, .int .i64 z.x.m.s, .int .i64 z.x.m.n, .int .i64 z.x.m.b, .int .i64 z.x.m.c, .int .i64 z.x.m.r, .int .i64 z.x.m.y, .int .i64 z.x.m.a, .bool z.x.m.t, .slice z.x.pl z.x.m.ls.length z.x.cl, .slice z.x.pn z.x.m.ns.length z.x.cn] 38)).drew.heap.size) := by show _ < _; have := hb4.size; simp at this ⊢; omega
            clear hz1 hz2 hb3 hb4 o0 o1 o2 hsm
            unfold PkX.v
            go_upto_region 32 with fail
            generalize w3.alloc (.cells #[.int .i64 z.f, .int .i64 z.t, .int .i64 z.n, .int .i64 z.h, .int .i64 z.x.m.k, .int .i64 z.x.m.s, .int .i64 z.x.m.n, .int .i64 z.x.m.b, .int .i64 z.x.m.c, .int .i64 z.x.m.r, .int .i64 z.x.m.y, .int .i64 z.x.m.a, .bool z.x.m.t, .slice z.x.pl z.x.m.ls.length z.x.cl, .slice z.x.pn z.x.m.ns.length z.x.cn] 38) = w4 at *
            generalize w3.heap.size = gz at *
            have HL4 : Hid (Below W.heap.size W w4) := HS4.out.low
            have hcm : ∀ q, q < 15 → w4.cell? ⟨sm, om + j * 15 + q, none⟩ = (PkX.cells (zs[j]'HJ.out))[q]? := by
              obtain ⟨b', o', e1, _, h⟩ := (Lib.hid HS4.out.own).out.row.at_ j HJ.out
              cases e1
              exact fun q hq => h q hq
            generalize zs[j]'HJ.out = y at *
            have HCM : Hid (∀ q, q < 15 → w4.drew.cell? ⟨sm, om + j * 15 + q, none⟩ = (PkX.cells y)[q]?) := hcm
            have HG1 : Hid (w4.drew.cell? ⟨go, 1, none⟩ = some (.int .i64 (j : Nat))) := HGO4.out.cell 1
            have HGB : Hid (go < w4.drew.heap.size) := HGO4.out.lt
            have HSM := Lib.hid (ksame_in z y w4.drew HZ1.out (HZ2.out.kept (Below.refl _ _).drew) ((HYR.out.kept HL4.out).kept (Below.refl _ _).drew))
            unfold PkX.v at HSM
            clear hcm
            have hjz : (j : Int) < (zs.length : Int) := by have := HJ.out; omega
            refine wp_region_held_drew (S := fun w' => Blk w' gz #[.int .i64 z.f, .int .i64 z.t, .int .i64 z.n, .int .i64 z.h, .int .i64 z.x.m.k, .int .i64 z.x.m.s, .int .i64 z.x.m.n, .int .i64 z.x.m.b, .int .i64 z.x.m.c, .int .i64 z.x.m.r, .int .i64 z.x.m.y, .int .i64 z.x.m.a, .bool z.x.m.t, .slice z.x.pl z.x.m.ls.length z.x.cl, .slice z.x.pn z.x.m.ns.length z.x.cn] 38 ∧ (∀ q9, q9 < 15 → w'.cell? ⟨sm, om + j * 15 + q9, none⟩ = (PkX.cells y)[q9]?) ∧ w'.cell? ⟨go, 1, none⟩ = some (.int .i64 (j : Nat))) (by kernel_rfl) ⟨HBZ.out.drew, HCM.out, HG1.out⟩ (fun hS0 => ?_)
            refine wpAnyH_take (i := 0) (v := ?_) rfl (by kernel_rfl) (by kernel_rfl) (by kernel_rfl) (fun _ _ _ h => h) (Or.inl ⟨by kernel_rfl, ?_⟩) (by first | assumption | trivial) ?_
            rotate_left
            · intro w hSw
              try dsimp only at hSw
              first | (go_simp; done) | (go_simp; with_reducible rfl)
            try simp only [Act.put, List.getElem_toArray, List.getElem_cons_succ, List.getElem_cons_zero, List.setIfInBounds_toArray, List.set_cons_zero, List.set_cons_succ]
            refine wpAnyH_take (i := 1) (v := ?_) rfl (by kernel_rfl) (by kernel_rfl) (by kernel_rfl) (fun _ _ _ h => h) (Or.inl ⟨by kernel_rfl, ?_⟩) (by first | assumption | trivial) ?_
            rotate_left
            · intro w hSw
              try dsimp only at hSw
              first | (go_simp; done) | (go_simp; with_reducible rfl)
            try simp only [Act.put, List.getElem_toArray, List.getElem_cons_succ, List.getElem_cons_zero, List.setIfInBounds_toArray, List.set_cons_zero, List.set_cons_succ]
            refine wpAnyH_take (i := 2) (v := ?_) rfl (by kernel_rfl) (by kernel_rfl) (by kernel_rfl) (fun _ _ _ h => h) (Or.inl ⟨by kernel_rfl, ?_⟩) (by first | assumption | trivial) ?_
            rotate_left
            · intro w hSw
              try dsimp only at hSw
              first | (go_simp; done) | (go_simp; with_reducible rfl)
            try simp only [Act.put, List.getElem_toArray, List.getElem_cons_succ, List.getElem_cons_zero, List.setIfInBounds_toArray, List.set_cons_zero, List.set_cons_succ]
            refine wpAnyH_take (i := 3) (v := ?_) rfl (by kernel_rfl) (by kernel_rfl) (by kernel_rfl) (fun _ _ _ h => h) (Or.inl ⟨by kernel_rfl, ?_⟩) (by first | assumption | trivial) ?_
            rotate_left
            · intro w hSw
              try dsimp only at hSw
              first | (go_simp; done) | (go_simp; with_reducible rfl)
            try simp only [Act.put, List.getElem_toArray, List.getElem_cons_succ, List.getElem_cons_zero, List.setIfInBounds_toArray, List.set_cons_zero, List.set_cons_succ]
            refine wpAnyH_take (i := 4) (v := ?_) rfl (by kernel_rfl) (by kernel_rfl) (by kernel_rfl) (fun _ _ _ h => h) (Or.inl ⟨by kernel_rfl, ?_⟩) (by first | assumption | trivial) ?_
            rotate_left
            · intro w hSw
              try dsimp only at hSw
              first | (go_simp; done) | (go_simp; with_reducible rfl)
            try simp only [Act.put, List.getElem_toArray, List.getElem_cons_succ, List.getElem_cons_zero, List.setIfInBounds_toArray, List.set_cons_zero, List.set_cons_succ]
            refine wpAnyH_take (i := 5) (v := ?_) rfl (by kernel_rfl) (by kernel_rfl) (by kernel_rfl) (fun _ _ _ h => h) (Or.inl ⟨by kernel_rfl, ?_⟩) (by first | assumption | trivial) ?_
            rotate_left
            · intro w hSw
              try dsimp only at hSw
              first | (go_simp; done) | (go_simp; with_reducible rfl)
            try simp only [Act.put, List.getElem_toArray, List.getElem_cons_succ, List.getElem_cons_zero, List.setIfInBounds_toArray, List.set_cons_zero, List.set_cons_succ]
            refine wpAnyH_take (i := 6) (v := ?_) rfl (by kernel_rfl) (by kernel_rfl) (by kernel_rfl) (fun _ _ _ h => h) (Or.inl ⟨by kernel_rfl, ?_⟩) (by first | assumption | trivial) ?_
            rotate_left
            · intro w hSw
              try dsimp only at hSw
              first | (go_simp; done) | (go_simp; with_reducible rfl)
            try simp only [Act.put, List.getElem_toArray, List.getElem_cons_succ, List.getElem_cons_zero, List.setIfInBounds_toArray, List.set_cons_zero, List.set_cons_succ]
            refine wpAnyH_take (i := 7) (v := ?_) rfl (by kernel_rfl) (by kernel_rfl) (by kernel_rfl) (fun _ _ _ h => h) (Or.inl ⟨by kernel_rfl, ?_⟩) (by first | assumption | trivial) ?_
            rotate_left
            · intro w hSw
              try dsimp only at hSw
              have a0 : w.cell? ⟨gz, 0, none⟩ = some (.int .i64 z.f) := hSw.1.cell 0
              have a1 : w.cell? ⟨gz, 1, none⟩ = some (.int .i64 z.t) := hSw.1.cell 1
              have a2 : w.cell? ⟨gz, 2, none⟩ = some (.int .i64 z.n) := hSw.1.cell 2
              have a3 : w.cell? ⟨gz, 3, none⟩ = some (.int .i64 z.h) := hSw.1.cell 3
              have a4 : w.cell? ⟨gz, 4, none⟩ = some (.int .i64 z.x.m.k) := hSw.1.cell 4
              have a5 : w.cell? ⟨gz, 5, none⟩ = some (.int .i64 z.x.m.s) := hSw.1.cell 5
              have a6 : w.cell? ⟨gz, 6, none⟩ = some (.int .i64 z.x.m.n) := hSw.1.cell 6
              have a7 : w.cell? ⟨gz, 7, none⟩ = some (.int .i64 z.x.m.b) := hSw.1.cell 7
              have a8 : w.cell? ⟨gz, 8, none⟩ = some (.int .i64 z.x.m.c) := hSw.1.cell 8
              have a9 : w.cell? ⟨gz, 9, none⟩ = some (.int .i64 z.x.m.r) := hSw.1.cell 9
              have a10 : w.cell? ⟨gz, 10, none⟩ = some (.int .i64 z.x.m.y) := hSw.1.cell 10
              have a11 : w.cell? ⟨gz, 11, none⟩ = some (.int .i64 z.x.m.a) := hSw.1.cell 11
              have a12 : w.cell? ⟨gz, 12, none⟩ = some (.bool z.x.m.t) := hSw.1.cell 12
              have a13 : w.cell? ⟨gz, 13, none⟩ = some (.slice z.x.pl z.x.m.ls.length z.x.cl) := hSw.1.cell 13
              have a14 : w.cell? ⟨gz, 14, none⟩ = some (.slice z.x.pn z.x.m.ns.length z.x.cn) := hSw.1.cell 14
              clear hSw
              first | (go_simp; done) | (go_simp; with_reducible rfl)
            try simp only [Act.put, List.getElem_toArray, List.getElem_cons_succ, List.getElem_cons_zero, List.setIfInBounds_toArray, List.set_cons_zero, List.set_cons_succ]
            refine wpAnyH_take (i := 8) (v := ?_) rfl (by kernel_rfl) (by kernel_rfl) (by kernel_rfl) (fun _ _ _ h => h) (Or.inl ⟨by kernel_rfl, ?_⟩) (by first | assumption | trivial) ?_
            rotate_left
            · intro w hSw
              try dsimp only at hSw
              first | (go_simp; done) | (go_simp; with_reducible rfl)
            try simp only [Act.put, List.getElem_toArray, List.getElem_cons_succ, List.getElem_cons_zero, List.setIfInBounds_toArray, List.set_cons_zero, List.set_cons_succ]
            refine wpAnyH_take (i := 9) (v := ?_) rfl (by kernel_rfl) (by kernel_rfl) (by kernel_rfl) (fun _ _ _ h => h) (Or.inl ⟨by kernel_rfl, ?_⟩) (by first | assumption | trivial) ?_
            rotate_left
            · intro w hSw
              try dsimp only at hSw
              first | (go_simp; done) | (go_simp; with_reducible rfl)
            try simp only [Act.put, List.getElem_toArray, List.getElem_cons_succ, List.getElem_cons_zero, List.setIfInBounds_toArray, List.set_cons_zero, List.set_cons_succ]
            refine wpAnyH_take (i := 10) (v := ?_) rfl (by kernel_rfl) (by kernel_rfl) (by kernel_rfl) (fun _ _ _ h => h) (Or.inl ⟨by kernel_rfl, ?_⟩) (by first | assumption | trivial) ?_
            rotate_left
            · intro w hSw
              try dsimp only at hSw
              have a0 := hSw.2.2
              clear hSw
              first | (go_simp; done) | (go_simp; with_reducible rfl)
            try simp only [Act.put, List.getElem_toArray, List.getElem_cons_succ, List.getElem_cons_zero, List.setIfInBounds_toArray, List.set_cons_zero, List.set_cons_succ]
            refine wpAnyH_take (i := 11) (v := ?_) rfl (by kernel_rfl) (by kernel_rfl) (by kernel_rfl) (fun _ _ _ h => h) (Or.inl ⟨by kernel_rfl, ?_⟩) (by first | assumption | trivial) ?_
            rotate_left
            · intro w hSw
              try dsimp only at hSw
              first | (go_simp; done) | (go_simp; with_reducible rfl)
            try simp only [Act.put, List.getElem_toArray, List.getElem_cons_succ, List.getElem_cons_zero, List.setIfInBounds_toArray, List.set_cons_zero, List.set_cons_succ]
            refine wpAnyH_take (i := 12) (v := ?_) rfl (by kernel_rfl) (by kernel_rfl) (by kernel_rfl) (fun _ _ _ h => h) (Or.inl ⟨by kernel_rfl, ?_⟩) (by first | assumption | trivial) ?_
            rotate_left
            · intro w hSw
              try dsimp only at hSw
              have a0 : w.cell? ⟨sm, om + j * 15, none⟩ = some (.int .i64 y.f) := hSw.2.1 0 (by decide)
              have a1 : w.cell? ⟨sm, om + j * 15 + 1, none⟩ = some (.int .i64 y.t) := hSw.2.1 1 (by decide)
              have a2 : w.cell? ⟨sm, om + j * 15 + 2, none⟩ = some (.int .i64 y.n) := hSw.2.1 2 (by decide)
              have a3 : w.cell? ⟨sm, om + j * 15 + 3, none⟩ = some (.int .i64 y.h) := hSw.2.1 3 (by decide)
              have a4 : w.cell? ⟨sm, om + j * 15 + 4, none⟩ = some (.int .i64 y.x.m.k) := hSw.2.1 4 (by decide)
              have a5 : w.cell? ⟨sm, om + j * 15 + 5, none⟩ = some (.int .i64 y.x.m.s) := hSw.2.1 5 (by decide)
              have a6 : w.cell? ⟨sm, om + j * 15 + 6, none⟩ = some (.int .i64 y.x.m.n) := hSw.2.1 6 (by decide)
              have a7 : w.cell? ⟨sm, om + j * 15 + 7, none⟩ = some (.int .i64 y.x.m.b) := hSw.2.1 7 (by decide)
              have a8 : w.cell? ⟨sm, om + j * 15 + 8, none⟩ = some (.int .i64 y.x.m.c) := hSw.2.1 8 (by decide)
              have a9 : w.cell? ⟨sm, om + j * 15 + 9, none⟩ = some (.int .i64 y.x.m.r) := hSw.2.1 9 (by decide)
              have a10 : w.cell? ⟨sm, om + j * 15 + 10, none⟩ = some (.int .i64 y.x.m.y) := hSw.2.1 10 (by decide)
              have a11 : w.cell? ⟨sm, om + j * 15 + 11, none⟩ = some (.int .i64 y.x.m.a) := hSw.2.1 11 (by decide)
              have a12 : w.cell? ⟨sm, om + j * 15 + 12, none⟩ = some (.bool y.x.m.t) := hSw.2.1 12 (by decide)
              have a13 : w.cell? ⟨sm, om + j * 15 + 13, none⟩ = some (.slice y.x.pl y.x.m.ls.length y.x.cl) := hSw.2.1 13 (by decide)
              have a14 : w.cell? ⟨sm, om + j * 15 + 14, none⟩ = some (.slice y.x.pn y.x.m.ns.length y.x.cn) := hSw.2.1 14 (by decide)
              clear hSw
              first | (go_simp; done) | (go_simp; with_reducible rfl)
            try simp only [Act.put, List.getElem_toArray, List.getElem_cons_succ, List.getElem_cons_zero, List.setIfInBounds_toArray, List.set_cons_zero, List.set_cons_succ]
            refine wpAnyH_ready (rs := [13]) (by kernel_rfl) (by simp) ?_
            refine AllReadyH.cons rfl (fun K hK => ?_) AllReadyH.nil
            go_simp
            go_at_call 11
            refine HSM.out.mono ?_
            rintro y0 w6 ⟨rfl, hbs⟩
            have hS2 : Blk w6 gz #[.int .i64 z.f, .int .i64 z.t, .int .i64 z.n, .int .i64 z.h, .int .i64 z.x.m.k, .int .i64 z.x.m.s, .int .i64 z.x.m.n, .int .i64 z.x.m.b, .int .i64 z.x.m.c, .int .i64 z.x.m.r, .int .i64 z.x.m.y, .int .i64 z.x.m.a, .bool z.x.m.t, .slice z.x.pl z.x.m.ls.length z.x.cl, .slice z.x.pn z.x.m.ns.length z.x.cn] 38 ∧ (∀ q9, q9 < 15 → w6.cell? ⟨sm, om + j * 15 + q9, none⟩ = (PkX.cells y)[q9]?) ∧ w6.cell? ⟨go, 1, none⟩ = some (.int .i64 (j : Nat)) := ⟨HBZ.out.drew.below hbs HBZ.out.lt, fun q hq => (hbs.cell (p := ⟨sm, _, none⟩) HSMB.out).trans (HCM.out q hq), (hbs.cell (p := ⟨go, _, none⟩) HGB.out).trans HG1.out⟩
            have HB6 := Lib.hid hbs
            clear hbs HSM
            try go_wp2_with fail
            refine hK.out _ _ hS2 (fun hS => ?_)
            clear hK K
            try simp only [Act.put, List.getElem_toArray, List.getElem_cons_succ, List.getElem_cons_zero, List.setIfInBounds_toArray, List.set_cons_zero, List.set_cons_succ]
            refine wpAnyH_take (i := 14) (v := ?_) rfl (by kernel_rfl) (by kernel_rfl) (by kernel_rfl) (fun _ _ _ h => h) (Or.inl ⟨by kernel_rfl, ?_⟩) (by first | assumption | trivial) ?_
            rotate_left
            · intro w hSw
              try dsimp only at hSw
              first | (go_simp; done) | (go_simp; with_reducible rfl)
            try simp only [Act.put, List.getElem_toArray, List.getElem_cons_succ, List.getElem_cons_zero, List.setIfInBounds_toArray, List.set_cons_zero, List.set_cons_succ]
            refine wpAnyH_take (i := 15) (v := ?_) rfl (by kernel_rfl) (by kernel_rfl) (by kernel_rfl) (fun _ _ _ h => h) (Or.inl ⟨by kernel_rfl, ?_⟩) (by first | assumption | trivial) ?_
            rotate_left
            · intro w hSw
              try dsimp only at hSw
              first | (go_simp; done) | (go_simp; with_reducible rfl)
            try simp only [Act.put, List.getElem_toArray, List.getElem_cons_succ, List.getElem_cons_zero, List.setIfInBounds_toArray, List.set_cons_zero, List.set_cons_succ]
            refine wpAnyH_take (i := 16) (v := ?_) rfl (by kernel_rfl) (by kernel_rfl) (by kernel_rfl) (fun _ _ _ h => h) (Or.inl ⟨by kernel_rfl, ?_⟩) (by first | assumption | trivial) ?_
            rotate_left
            · intro w hSw
              try dsimp only at hSw
              first | (go_simp; done) | (go_simp; with_reducible rfl)
            try simp only [Act.put, List.getElem_toArray, List.getElem_cons_succ, List.getElem_cons_zero, List.setIfInBounds_toArray, List.set_cons_zero, List.set_cons_succ]
            refine wpAnyH_take (i := 17) (v := ?_) rfl (by kernel_rfl) (by kernel_rfl) (by kernel_rfl) (fun _ _ _ h => h) (Or.inl ⟨by kernel_rfl, ?_⟩) (by first | assumption | trivial) ?_
            rotate_left
            · intro w hSw
              try dsimp only at hSw
              first | (go_simp; done) | (go_simp; with_reducible rfl)
            try simp only [Act.put, List.getElem_toArray, List.getElem_cons_succ, List.getElem_cons_zero, List.setIfInBounds_toArray, List.set_cons_zero, List.set_cons_succ]
            refine wpAnyH_take (i := 18) (v := ?_) rfl (by kernel_rfl) (by kernel_rfl) (by kernel_rfl) (fun _ _ _ h => h) (Or.inl ⟨by kernel_rfl, ?_⟩) (by first | assumption | trivial) ?_
            rotate_left
            · intro w hSw
              try dsimp only at hSw
              first | (go_simp; done) | (go_simp; with_reducible rfl)
            try simp only [Act.put, List.getElem_toArray, List.getElem_cons_succ, List.getElem_cons_zero, List.setIfInBounds_toArray, List.set_cons_zero, List.set_cons_succ]
            refine wpAnyH_take (i := 19) (v := ?_) rfl (by kernel_rfl) (by kernel_rfl) (by kernel_rfl) (fun _ _ _ h => h) (Or.inl ⟨by kernel_rfl, ?_⟩) (by first | assumption | trivial) ?_
            rotate_left
            · intro w hSw
              try dsimp only at hSw
              first | (go_simp; done) | (go_simp; with_reducible rfl)
            try simp only [Act.put, List.getElem_toArray, List.getElem_cons_succ, List.getElem_cons_zero, List.setIfInBounds_toArray, List.set_cons_zero, List.set_cons_succ]
            refine wpAnyH_take (i := 20) (v := ?_) rfl (by kernel_rfl) (by kernel_rfl) (by kernel_rfl) (fun _ _ _ h => h) (Or.inl ⟨by kernel_rfl, ?_⟩) (by first | assumption | trivial) ?_
            rotate_left
            · intro w hSw
              try dsimp only at hSw
              first | (go_simp; done) | (go_simp; with_reducible rfl)
            try simp only [Act.put, List.getElem_toArray, List.getElem_cons_succ, List.getElem_cons_zero, List.setIfInBounds_toArray, List.set_cons_zero, List.set_cons_succ]
            refine wpAnyH_take (i := 21) (v := undef) rfl (by kernel_rfl) (by kernel_rfl) (by kernel_rfl) (fun _ _ _ h => h) (Or.inr ⟨by kernel_rfl, rfl⟩) (by first | assumption | trivial) ?_
            try simp only [Act.put, List.getElem_toArray, List.getElem_cons_succ, List.getElem_cons_zero, List.setIfInBounds_toArray, List.set_cons_zero, List.set_cons_succ]
            refine wpAnyH_take (i := 22) (v := undef) rfl (by kernel_rfl) (by kernel_rfl) (by kernel_rfl) (fun _ _ _ h => h) (Or.inr ⟨by kernel_rfl, rfl⟩) (by first | assumption | trivial) ?_
            try simp only [Act.put, List.getElem_toArray, List.getElem_cons_succ, List.getElem_cons_zero, List.setIfInBounds_toArray, List.set_cons_zero, List.set_cons_succ]
            refine wpAnyH_take (i := 23) (v := undef) rfl (by kernel_rfl) (by kernel_rfl) (by kernel_rfl) (fun _ _ _ h => h) (Or.inr ⟨by kernel_rfl, rfl⟩) (by first | assumption | trivial) ?_
            try simp only [Act.put, List.getElem_toArray, List.getElem_cons_succ, List.getElem_cons_zero, List.setIfInBounds_toArray, List.set_cons_zero, List.set_cons_succ]
            refine wpAnyH_take (i := 24) (v := ?_) rfl (by kernel_rfl) (by kernel_rfl) (by kernel_rfl) (fun _ _ _ h => h) (Or.inl ⟨by kernel_rfl, ?_⟩) (by first | assumption | trivial) ?_
            rotate_left
            · intro w hSw
              try dsimp only at hSw
              first | (go_simp; done) | (go_simp; with_reducible rfl)
            try simp only [Act.put, List.getElem_toArray, List.getElem_cons_succ, List.getElem_cons_zero, List.setIfInBounds_toArray, List.set_cons_zero, List.set_cons_succ]
            refine wpAnyH_take (i := 25) (v := ?_) rfl (by kernel_rfl) (by kernel_rfl) (by kernel_rfl) (fun _ _ _ h => h) (Or.inl ⟨by kernel_rfl, ?_⟩) (by first | assumption | trivial) ?_
            rotate_left
            · intro w hSw
              try dsimp only at hSw
              first | (go_simp; done) | (go_simp; with_reducible rfl)
            try simp only [Act.put, List.getElem_toArray, List.getElem_cons_succ, List.getElem_cons_zero, List.setIfInBounds_toArray, List.set_cons_zero, List.set_cons_succ]
            refine wpAnyH_done (by kernel_rfl) ?_ _
            have HS6 := Lib.hid ((HS4.out.kept (Below.refl _ _).drew).kept HB6.out)
            clear hS hS0 HCM HG1 HGB HS4 HGO4 HBZ HZ2 HSMB HB6 HL4 HZ1 HYR hjz
            go_wp2_with fail
            refine (net_len w6 HS6.out.net).mono ?_
            rintro y0 wt ⟨rfl, rfl⟩
            rw [List.length_map]
            go_wp2_with fail
            go_roundw
            case rel => exact ⟨t + 1, _, by omega, by omega, by go_num, HS6⟩
            case measure => simp [intOf]; omega
          have hb3 : (k == 3) = false := by simpa using hk3
          as_aux_lemma =>
          go_wp2_with fail
          refine (net_len w2 HS2.out.net).mono ?_
          rintro y0 wt ⟨rfl, rfl⟩
          rw [List.length_map]
          go_wp2_with fail
          go_roundw
          case rel => exact ⟨t + 1, _, by omega, by omega, by go_num, HS2⟩
          case measure => simp [intOf]; omega
        · have HNT : Hid (¬ (0 ≤ i ∧ i < (((zs.map PkX.pk).length : Nat) : Int))) := by rw [List.length_map]; exact fun h => hi1 h.2
          go_upto_region 11 with fail
          by_cases hk0 : k = 0
          · subst hk0
            as_aux_lemma =>
            by_cases h50 : 50 < ys.length
            · have h50I : (50 : Int) < (ys.length : Int) := by omega
              go_wp2_with fail
              go_ret
              exact ⟨rfl, HS2.out.low⟩
            · have h50I : ¬ (50 : Int) < (ys.length : Int) := by omega
              go_upto_region 15 with fail
              have HG0 : Hid (w2.drew.cell? ⟨go, 2, none⟩ = some (.slice lp ys.length lc)) := HGO.out.drew.cell 2
              have HNs : Hid (Net W.heap.size (fun b => (Value.slice pv zs.length cv).ownBlock = some b ∨ b = go) w2.drew g (zs.map PkX.pk)) := HN2.out.kept (Below.refl _ _).drew
              have HRs : Hid (PkRow (fun b => b < W.heap.size) w2.drew (.slice lp ys.length lc) (ys.map PkX.pk)) := ((PkRow.of_in HXI.out.1 HXI.out.2).keepP (KeepP.of_below HS2.out.low)).keepP (KeepP.of_below (Below.refl _ _).drew)
              refine wp_region_held_drew (S := fun w' => w'.cell? ⟨go, 2, none⟩ = some (.slice lp ys.length lc)) (by kernel_rfl) HG0.out (fun hS0 => ?_)
              refine wpAnyH_take (i := 0) (v := ?_) rfl (by kernel_rfl) (by kernel_rfl) (by kernel_rfl) (fun _ _ _ h => h) (Or.inl ⟨by kernel_rfl, ?_⟩) (by first | assumption | trivial) ?_
              rotate_left
              · intro w hSw
                try dsimp only at hSw
                first | (go_simp; done) | (go_simp; with_reducible rfl)
              try simp only [Act.put, List.getElem_toArray, List.getElem_cons_succ, List.getElem_cons_zero, List.setIfInBounds_toArray, List.set_cons_zero, List.set_cons_succ]
              refine wpAnyH_take (i := 1) (v := ?_) rfl (by kernel_rfl) (by kernel_rfl) (by kernel_rfl) (fun _ _ _ h => h) (Or.inl ⟨by kernel_rfl, ?_⟩) (by first | assumption | trivial) ?_
              rotate_left
              · intro w hSw
                try dsimp only at hSw
                have a0 := hSw
                clear hSw
                first | (go_simp; done) | (go_simp; with_reducible rfl)
              try simp only [Act.put, List.getElem_toArray, List.getElem_cons_succ, List.getElem_cons_zero, List.setIfInBounds_toArray, List.set_cons_zero, List.set_cons_succ]
              refine wpAnyH_take (i := 3) (v := ?_) rfl (by kernel_rfl) (by kernel_rfl) (by kernel_rfl) (fun _ _ _ h => h) (Or.inl ⟨by kernel_rfl, ?_⟩) (by first | assumption | trivial) ?_
              rotate_left
              · intro w hSw
                try dsimp only at hSw
                first | (go_simp; done) | (go_simp; with_reducible rfl)
              try simp only [Act.put, List.getElem_toArray, List.getElem_cons_succ, List.getElem_cons_zero, List.setIfInBounds_toArray, List.set_cons_zero, List.set_cons_succ]
              refine wpAnyH_take (i := 4) (v := ?_) rfl (by kernel_rfl) (by kernel_rfl) (by kernel_rfl) (fun _ _ _ h => h) (Or.inl ⟨by kernel_rfl, ?_⟩) (by first | assumption | trivial) ?_
              rotate_left
              · intro w hSw
                try dsimp only at hSw
                have a0 := hSw
                clear hSw
                first | (go_simp; done) | (go_simp; with_reducible rfl)
              try simp only [Act.put, List.getElem_toArray, List.getElem_cons_succ, List.getElem_cons_zero, List.setIfInBounds_toArray, List.set_cons_zero, List.set_cons_succ]
              refine wpAnyH_take (i := 5) (v := ?_) rfl (by kernel_rfl) (by kernel_rfl) (by kernel_rfl) (fun _ _ _ h => h) (Or.inl ⟨by kernel_rfl, ?_⟩) (by first | assumption | trivial) ?_
              rotate_left
              · intro w hSw
                try dsimp only at hSw
                first | (go_simp; done) | (go_simp; with_reducible rfl)
              try simp only [Act.put, List.getElem_toArray, List.getElem_cons_succ, List.getElem_cons_zero, List.setIfInBounds_toArray, List.set_cons_zero, List.set_cons_succ]
              refine wpAnyH_ready (rs := [2]) (by kernel_rfl) (by simp) ?_
              refine AllReadyH.cons rfl (fun K hK => ?_) AllReadyH.nil
              go_simp
              go_at_call 9
              refine (net_send w2.drew _ HNs.out HRs.out (fun b hb => .inl hb) (fun b hb => hb.elim (fun h => HS2.out.own.lt b h) (fun h => by subst h; exact HGO.out.lt))).mono ?_
              rintro y0 w3 ⟨rfl, hn3, hb3, hk3⟩
              rw [show ((min (ys.map PkX.pk).length (8192 - (zs.map PkX.pk).length) : Nat) : Int) = (ys.length : Int) by rw [List.length_map, List.length_map]; have := HZ.out; omega]
              have hS2 : w3.cell? ⟨go, 2, none⟩ = some (.slice lp ys.length lc) := (World.cell?_of_block (hk3.2 go HGO.out.lt (.inr rfl))).trans HG0.out
              have hks : zs.map PkX.pk ++ (ys.map PkX.pk).take (8192 - (zs.map PkX.pk).length) = (zs ++ ys).map PkX.pk := by rw [List.map_append, List.take_of_length_le (by rw [List.length_map, List.length_map]; have := HZ.out; omega)]
              rw [hks] at hn3
              have HN3 := Lib.hid (hn3.ext (L' := fun b => (Value.slice pv zs.length cv).ownBlock = some b) (fun b hb h => .inl h))
              have HO3 := Lib.hid (HS2.out.own.stay (fun b hb => hk3.2 b (HS2.out.own.lt b hb) (.inl hb)))
              have HL3 := Lib.hid (HS2.out.low.trans ((Below.refl _ _).drew.trans hb3))
              clear hn3 hb3 hk3 hks
              try go_wp2_with fail
              refine hK.out _ _ hS2 (fun hS => ?_)
              clear hK K
              try simp only [Act.put, List.getElem_toArray, List.getElem_cons_succ, List.getElem_cons_zero, List.setIfInBounds_toArray, List.set_cons_zero, List.set_cons_succ]
              refine wpAnyH_take (i := 6) (v := ?_) rfl (by kernel_rfl) (by kernel_rfl) (by kernel_rfl) (fun _ _ _ h => h) (Or.inl ⟨by kernel_rfl, ?_⟩) (by first | assumption | trivial) ?_
              rotate_left
              · intro w hSw
                try dsimp only at hSw
                first | (go_simp; done) | (go_simp; with_reducible rfl)
              try simp only [Act.put, List.getElem_toArray, List.getElem_cons_succ, List.getElem_cons_zero, List.setIfInBounds_toArray, List.set_cons_zero, List.set_cons_succ]
              refine wpAnyH_done (by kernel_rfl) ?_ _
              clear HG0 HNs HRs HN2
              go_wp2_with (at_builtin; with_reducible refine stop_appendT (.tmp 52) (.tmp 54) 27 rfl ?_)
              refine wpList_append_tg rfl (.tmp 52) (.tmp 54) 27 rfl 38 zeroVK 152 W.heap.size eltK rfl (.slice pv zs.length cv) (.slice lp ys.length lc) zs ys rfl rfl HO3.out (HXI.out.1.kept HL3.out) (by have := HZ.out; omega) (by have := HZ.out; omega) HL3.out.size (zs ++ ys) (zs.length + ys.length) rfl (by rw [List.length_append]) ?_
              intro p4 c4 w4 ho hg hor hb
              have HS4 : Hid (PSt W g (zs ++ ys) (.slice p4 (zs.length + ys.length) c4) w4) := PSt.more HN3.out (fun z hz => (List.mem_append.1 hz).elim (HS2.out.rows z) (fun h => (HXI.out.2 z h).inP)) HL3.out rfl ho hg hor hb
              clear ho hg hor hb hS hS0 HN3 HO3 HL3
              go_wp2_with fail
              refine (net_len w4 HS4.out.net).mono ?_
              rintro y0 wt ⟨rfl, rfl⟩
              rw [List.length_map]
              go_wp2_with fail
              go_roundw
              case rel => exact ⟨t + 1, _, by omega, by rw [List.length_append]; omega, by go_num, HS4⟩
              case measure => simp [intOf]; omega
          have hb0 : (k == 0) = false := by simpa using hk0
          by_cases hk1 : k = 1
          · subst hk1
            as_aux_lemma =>
            go_wp2_with fail
            refine (net_take_no w2 i HS2.out.net HNT.out).mono ?_
            rintro y0 w3 ⟨rfl, hb3⟩
            have HS3 := Lib.hid ((HS2.out.kept hb3).kept (oneB w3 (.cells #[.int .i64 0, .int .i64 0, .int .i64 0, .int .i64 0, .int .i64 0, .int .i64 0, .int .i64 0, .int .i64 0, .int .i64 0, .int .i64 0, .int .i64 0, .int .i64 0, .bool false, .slice none 0 0, .slice none 0 0] 38)))
            clear hb3
            unfold zeroVK
            go_upto_region 20 with fail
            generalize w3.alloc (.cells #[.int .i64 0, .int .i64 0, .int .i64 0, .int .i64 0, .int .i64 0, .int .i64 0, .int .i64 0, .int .i64 0, .int .i64 0, .int .i64 0, .int .i64 0, .int .i64 0, .bool false, .slice none 0 0, .slice none 0 0] 38) = w4 at *
            refine wp_region_held_drew (S := fun w' => True) (by kernel_rfl) trivial (fun hS0 => ?_)
            refine wpAnyH_take (i := 0) (v := ?_) rfl (by kernel_rfl) (by kernel_rfl) (by kernel_rfl) (fun _ _ _ h => h) (Or.inl ⟨by kernel_rfl, ?_⟩) (by first | assumption | trivial) ?_
            rotate_left
            · intro w hSw
              try dsimp only at hSw
              first | (go_simp; done) | (go_simp; with_reducible rfl)
            try simp only [Act.put, List.getElem_toArray, List.getElem_cons_succ, List.getElem_cons_zero, List.setIfInBounds_toArray, List.set_cons_zero, List.set_cons_succ]
            refine wpAnyH_take (i := 1) (v := ?_) rfl (by kernel_rfl) (by kernel_rfl) (by kernel_rfl) (fun _ _ _ h => h) (Or.inl ⟨by kernel_rfl, ?_⟩) (by first | assumption | trivial) ?_
            rotate_left
            · intro w hSw
              try dsimp only at hSw
              first | (go_simp; done) | (go_simp; with_reducible rfl)
            try simp only [Act.put, List.getElem_toArray, List.getElem_cons_succ, List.getElem_cons_zero, List.setIfInBounds_toArray, List.set_cons_zero, List.set_cons_succ]
            refine wpAnyH_take (i := 2) (v := ?_) rfl (by kernel_rfl) (by kernel_rfl) (by kernel_rfl) (fun _ _ _ h => h) (Or.inl ⟨by kernel_rfl, ?_⟩) (by first | assumption | trivial) ?_
            rotate_left
            · intro w hSw
              try dsimp only at hSw
              first | (go_simp; done) | (go_simp; with_reducible rfl)
            try simp only [Act.put, List.getElem_toArray, List.getElem_cons_succ, List.getElem_cons_zero, List.setIfInBounds_toArray, List.set_cons_zero, List.set_cons_succ]
            refine wpAnyH_take (i := 3) (v := ?_) rfl (by kernel_rfl) (by kernel_rfl) (by kernel_rfl) (fun _ _ _ h => h) (Or.inl ⟨by kernel_rfl, ?_⟩) (by first | assumption | trivial) ?_
            rotate_left
            · intro w hSw
              try dsimp only at hSw
              first | (go_simp; done) | (go_simp; with_reducible rfl)
            try simp only [Act.put, List.getElem_toArray, List.getElem_cons_succ, List.getElem_cons_zero, List.setIfInBounds_toArray, List.set_cons_zero, List.set_cons_succ]
            refine wpAnyH_take (i := 4) (v := ?_) rfl (by kernel_rfl) (by kernel_rfl) (by kernel_rfl) (fun _ _ _ h => h) (Or.inl ⟨by kernel_rfl, ?_⟩) (by first | assumption | trivial) ?_
            rotate_left
            · intro w hSw
              try dsimp only at hSw
              first | (go_simp; done) | (go_simp; with_reducible rfl)
            try simp only [Act.put, List.getElem_toArray, List.getElem_cons_succ, List.getElem_cons_zero, List.setIfInBounds_toArray, List.set_cons_zero, List.set_cons_succ]
            refine wpAnyH_take (i := 5) (v := ?_) rfl (by kernel_rfl) (by kernel_rfl) (by kernel_rfl) (fun _ _ _ h => h) (Or.inl ⟨by kernel_rfl, ?_⟩) (by first | assumption | trivial) ?_
            rotate_left
            · intro w hSw
              try dsimp only at hSw
              first | (go_simp; done) | (go_simp; with_reducible rfl)
            try simp only [Act.put, List.getElem_toArray, List.getElem_cons_succ, List.getElem_cons_zero, List.setIfInBounds_toArray, List.set_cons_zero, List.set_cons_succ]
            refine wpAnyH_take (i := 6) (v := ?_) rfl (by kernel_rfl) (by kernel_rfl) (by kernel_rfl) (fun _ _ _ h => h) (Or.inl ⟨by kernel_rfl, ?_⟩) (by first | assumption | trivial) ?_
            rotate_left
            · intro w hSw
              try dsimp only at hSw
              first | (go_simp; done) | (go_simp; with_reducible rfl)
            try simp only [Act.put, List.getElem_toArray, List.getElem_cons_succ, List.getElem_cons_zero, List.setIfInBounds_toArray, List.set_cons_zero, List.set_cons_succ]
            refine wpAnyH_take (i := 7) (v := undef) rfl (by kernel_rfl) (by kernel_rfl) (by kernel_rfl) (fun _ _ _ h => h) (Or.inr ⟨by kernel_rfl, rfl⟩) (by first | assumption | trivial) ?_
            try simp only [Act.put, List.getElem_toArray, List.getElem_cons_succ, List.getElem_cons_zero, List.setIfInBounds_toArray, List.set_cons_zero, List.set_cons_succ]
            refine wpAnyH_take (i := 8) (v := undef) rfl (by kernel_rfl) (by kernel_rfl) (by kernel_rfl) (fun _ _ _ h => h) (Or.inr ⟨by kernel_rfl, rfl⟩) (by first | assumption | trivial) ?_
            try simp only [Act.put, List.getElem_toArray, List.getElem_cons_succ, List.getElem_cons_zero, List.setIfInBounds_toArray, List.set_cons_zero, List.set_cons_succ]
            refine wpAnyH_take (i := 9) (v := undef) rfl (by kernel_rfl) (by kernel_rfl) (by kernel_rfl) (fun _ _ _ h => h) (Or.inr ⟨by kernel_rfl, rfl⟩) (by first | assumption | trivial) ?_
            try simp only [Act.put, List.getElem_toArray, List.getElem_cons_succ, List.getElem_cons_zero, List.setIfInBounds_toArray, List.set_cons_zero, List.set_cons_succ]
            refine wpAnyH_take (i := 10) (v := undef) rfl (by kernel_rfl) (by kernel_rfl) (by kernel_rfl) (fun _ _ _ h => h) (Or.inr ⟨by kernel_rfl, rfl⟩) (by first | assumption | trivial) ?_
            try simp only [Act.put, List.getElem_toArray, List.getElem_cons_succ, List.getElem_cons_zero, List.setIfInBounds_toArray, List.set_cons_zero, List.set_cons_succ]
            refine wpAnyH_take (i := 11) (v := undef) rfl (by kernel_rfl) (by kernel_rfl) (by kernel_rfl) (fun _ _ _ h => h) (Or.inr ⟨by kernel_rfl, rfl⟩) (by first | assumption | trivial) ?_
            try simp only [Act.put, List.getElem_toArray, List.getElem_cons_succ, List.getElem_cons_zero, List.setIfInBounds_toArray, List.set_cons_zero, List.set_cons_succ]
            refine wpAnyH_take (i := 12) (v := undef) rfl (by kernel_rfl) (by kernel_rfl) (by kernel_rfl) (fun _ _ _ h => h) (Or.inr ⟨by kernel_rfl, rfl⟩) (by first | assumption | trivial) ?_
            try simp only [Act.put, List.getElem_toArray, List.getElem_cons_succ, List.getElem_cons_zero, List.setIfInBounds_toArray, List.set_cons_zero, List.set_cons_succ]
            refine wpAnyH_take (i := 13) (v := undef) rfl (by kernel_rfl) (by kernel_rfl) (by kernel_rfl) (fun _ _ _ h => h) (Or.inr ⟨by kernel_rfl, rfl⟩) (by first | assumption | trivial) ?_
            try simp only [Act.put, List.getElem_toArray, List.getElem_cons_succ, List.getElem_cons_zero, List.setIfInBounds_toArray, List.set_cons_zero, List.set_cons_succ]
            refine wpAnyH_take (i := 14) (v := undef) rfl (by kernel_rfl) (by kernel_rfl) (by kernel_rfl) (fun _ _ _ h => h) (Or.inr ⟨by kernel_rfl, rfl⟩) (by first | assumption | trivial) ?_
            try simp only [Act.put, List.getElem_toArray, List.getElem_cons_succ, List.getElem_cons_zero, List.setIfInBounds_toArray, List.set_cons_zero, List.set_cons_succ]
            refine wpAnyH_take (i := 15) (v := ?_) rfl (by kernel_rfl) (by kernel_rfl) (by kernel_rfl) (fun _ _ _ h => h) (Or.inl ⟨by kernel_rfl, ?_⟩) (by first | assumption | trivial) ?_
            rotate_left
            · intro w hSw
              try dsimp only at hSw
              first | (go_simp; done) | (go_simp; with_reducible rfl)
            try simp only [Act.put, List.getElem_toArray, List.getElem_cons_succ, List.getElem_cons_zero, List.setIfInBounds_toArray, List.set_cons_zero, List.set_cons_succ]
            refine wpAnyH_take (i := 16) (v := ?_) rfl (by kernel_rfl) (by kernel_rfl) (by kernel_rfl) (fun _ _ _ h => h) (Or.inl ⟨by kernel_rfl, ?_⟩) (by first | assumption | trivial) ?_
            rotate_left
            · intro w hSw
              try dsimp only at hSw
              first | (go_simp; done) | (go_simp; with_reducible rfl)
            try simp only [Act.put, List.getElem_toArray, List.getElem_cons_succ, List.getElem_cons_zero, List.setIfInBounds_toArray, List.set_cons_zero, List.set_cons_succ]
            refine wpAnyH_take (i := 17) (v := ?_) rfl (by kernel_rfl) (by kernel_rfl) (by kernel_rfl) (fun _ _ _ h => h) (Or.inl ⟨by kernel_rfl, ?_⟩) (by first | assumption | trivial) ?_
            rotate_left
            · intro w hSw
              try dsimp only at hSw
              first | (go_simp; done) | (go_simp; with_reducible rfl)
            try simp only [Act.put, List.getElem_toArray, List.getElem_cons_succ, List.getElem_cons_zero, List.setIfInBounds_toArray, List.set_cons_zero, List.set_cons_succ]
            refine wpAnyH_take (i := 18) (v := ?_) rfl (by kernel_rfl) (by kernel_rfl) (by kernel_rfl) (fun _ _ _ h => h) (Or.inl ⟨by kernel_rfl, ?_⟩) (by first | assumption | trivial) ?_
            rotate_left
            · intro w hSw
              try dsimp only at hSw
              first | (go_simp; done) | (go_simp; with_reducible rfl)
            try simp only [Act.put, List.getElem_toArray, List.getElem_cons_succ, List.getElem_cons_zero, List.setIfInBounds_toArray, List.set_cons_zero, List.set_cons_succ]
            refine wpAnyH_take (i := 19) (v := ?_) rfl (by kernel_rfl) (by kernel_rfl) (by kernel_rfl) (fun _ _ _ h => h) (Or.inl ⟨by kernel_rfl, ?_⟩) (by first | assumption | trivial) ?_
            rotate_left
            · intro w hSw
              try dsimp only at hSw
              first | (go_simp; done) | (go_simp; with_reducible rfl)
            try simp only [Act.put, List.getElem_toArray, List.getElem_cons_succ, List.getElem_cons_zero, List.setIfInBounds_toArray, List.set_cons_zero, List.set_cons_succ]
            refine wpAnyH_take (i := 20) (v := ?_) rfl (by kernel_rfl) (by kernel_rfl) (by kernel_rfl) (fun _ _ _ h => h) (Or.inl ⟨by kernel_rfl, ?_⟩) (by first | assumption | trivial) ?_
            rotate_left
            · intro w hSw
              try dsimp only at hSw
              first | (go_simp; done) | (go_simp; with_reducible rfl)
            try simp only [Act.put, List.getElem_toArray, List.getElem_cons_succ, List.getElem_cons_zero, List.setIfInBounds_toArray, List.set_cons_zero, List.set_cons_succ]
            refine wpAnyH_take (i := 21) (v := ?_) rfl (by kernel_rfl) (by kernel_rfl) (by kernel_rfl) (fun _ _ _ h => h) (Or.inl ⟨by kernel_rfl, ?_⟩) (by first | assumption | trivial) ?_
            rotate_left
            · intro w hSw
              try dsimp only at hSw
              first | (go_simp; done) | (go_simp; with_reducible rfl)
            try simp only [Act.put, List.getElem_toArray, List.getElem_cons_succ, List.getElem_cons_zero, List.setIfInBounds_toArray, List.set_cons_zero, List.set_cons_succ]
            refine wpAnyH_take (i := 22) (v := ?_) rfl (by kernel_rfl) (by kernel_rfl) (by kernel_rfl) (fun _ _ _ h => h) (Or.inl ⟨by kernel_rfl, ?_⟩) (by first | assumption | trivial) ?_
            rotate_left
            · intro w hSw
              try dsimp only at hSw
              first | (go_simp; done) | (go_simp; with_reducible rfl)
            try simp only [Act.put, List.getElem_toArray, List.getElem_cons_succ, List.getElem_cons_zero, List.setIfInBounds_toArray, List.set_cons_zero, List.set_cons_succ]
            refine wpAnyH_take (i := 23) (v := ?_) rfl (by kernel_rfl) (by kernel_rfl) (by kernel_rfl) (fun _ _ _ h => h) (Or.inl ⟨by kernel_rfl, ?_⟩) (by first | assumption | trivial) ?_
            rotate_left
            · intro w hSw
              try dsimp only at hSw
              first | (go_simp; done) | (go_simp; with_reducible rfl)
            try simp only [Act.put, List.getElem_toArray, List.getElem_cons_succ, List.getElem_cons_zero, List.setIfInBounds_toArray, List.set_cons_zero, List.set_cons_succ]
            refine wpAnyH_take (i := 24) (v := ?_) rfl (by kernel_rfl) (by kernel_rfl) (by kernel_rfl) (fun _ _ _ h => h) (Or.inl ⟨by kernel_rfl, ?_⟩) (by first | assumption | trivial) ?_
            rotate_left
            · intro w hSw
              try dsimp only at hSw
              first | (go_simp; done) | (go_simp; with_reducible rfl)
            try simp only [Act.put, List.getElem_toArray, List.getElem_cons_succ, List.getElem_cons_zero, List.setIfInBounds_toArray, List.set_cons_zero, List.set_cons_succ]
            refine wpAnyH_done (by kernel_rfl) ?_ _
            have HS4 : Hid (PSt W g zs (.slice pv zs.length cv) w4.drew) := HS3.out.kept (Below.refl _ _).drew
            clear HS3 hS0
            go_wp2_with fail
            refine (net_len w4.drew HS4.out.net).mono ?_
            rintro y0 wt ⟨rfl, rfl⟩
            rw [List.length_map]
            go_wp2_with fail
            go_roundw
            case rel => exact ⟨t + 1, _, by omega, by omega, by go_num, HS4⟩
            case measure => simp [intOf]; omega
          have hb1 : (k == 1) = false := by simpa using hk1
          by_cases hk2 : k = 2
          · subst hk2
            as_aux_lemma =>
            go_wp2_with fail
            refine (net_twice_no w2 i HS2.out.net HNT.out).mono ?_
            rintro y0 w3 ⟨rfl, rfl⟩
            go_wp2_with fail
            refine (net_len w3 HS2.out.net).mono ?_
            rintro y0 wt ⟨rfl, rfl⟩
            rw [List.length_map]
            go_wp2_with fail
            go_roundw
            case rel => exact ⟨t + 1, _, by omega, by omega, by go_num, HS2⟩
            case measure => simp [intOf]; omega
          have hb2 : (k == 2) = false := by simpa using hk2
          by_cases hk3 : k = 3
          · subst hk3
            as_aux_lemma =>
            go_wp2_with fail
            refine (net_look_no w2 i HS2.out.net HNT.out).mono ?_
            rintro y0 w3 ⟨rfl, hb3⟩
            have HS3 := Lib.hid ((HS2.out.kept hb3).kept (oneB w3 (.cells #[.int .i64 0, .int .i64 0, .int .i64 0, .int .i64 0, .int .i64 0, .int .i64 0, .int .i64 0, .int .i64 0, .int .i64 0, .int .i64 0, .int .i64 0, .int .i64 0, .bool false, .slice none 0 0, .slice none 0 0] 38)))
            have HBZ := Lib.hid (Blk.new w3 #[.int .i64 0, .int .i64 0, .int .i64 0, .int .i64 0, .int .i64 0, .int .i64 0, .int .i64 0, .int .i64 0, .int .i64 0, .int .i64 0, .int .i64 0, .int .i64 0, .bool false, .slice none 0 0, .slice none 0 0] 38)
            clear hb3
            unfold zeroVK
            go_upto_region 32 with fail
            generalize w3.alloc (.cells #[.int .i64 0, .int .i64 0, .int .i64 0, .int .i64 0, .int .i64 0, .int .i64 0, .int .i64 0, .int .i64 0, .int .i64 0, .int .i64 0, .int .i64 0, .int .i64 0, .bool false, .slice none 0 0, .slice none 0 0] 38) = w4 at *
            generalize w3.heap.size = gz at *
            have HZ2 : Hid (w4.drew.cell? ⟨gz, 2, none⟩ = some (.int .i64 0)) := HBZ.out.drew.cell 2
            refine wp_region_held_drew (S := fun w' => w'.cell? ⟨gz, 2, none⟩ = some (.int .i64 0)) (by kernel_rfl) HZ2.out (fun hS0 => ?_)
            refine wpAnyH_take (i := 0) (v := ?_) rfl (by kernel_rfl) (by kernel_rfl) (by kernel_rfl) (fun _ _ _ h => h) (Or.inl ⟨by kernel_rfl, ?_⟩) (by first | assumption | trivial) ?_
            rotate_left
            · intro w hSw
              try dsimp only at hSw
              first | (go_simp; done) | (go_simp; with_reducible rfl)
            try simp only [Act.put, List.getElem_toArray, List.getElem_cons_succ, List.getElem_cons_zero, List.setIfInBounds_toArray, List.set_cons_zero, List.set_cons_succ]
            refine wpAnyH_take (i := 1) (v := ?_) rfl (by kernel_rfl) (by kernel_rfl) (by kernel_rfl) (fun _ _ _ h => h) (Or.inl ⟨by kernel_rfl, ?_⟩) (by first | assumption | trivial) ?_
            rotate_left
            · intro w hSw
              try dsimp only at hSw
              first | (go_simp; done) | (go_simp; with_reducible rfl)
            try simp only [Act.put, List.getElem_toArray, List.getElem_cons_succ, List.getElem_cons_zero, List.setIfInBounds_toArray, List.set_cons_zero, List.set_cons_succ]
            refine wpAnyH_take (i := 2) (v := ?_) rfl (by kernel_rfl) (by kernel_rfl) (by kernel_rfl) (fun _ _ _ h => h) (Or.inl ⟨by kernel_rfl, ?_⟩) (by first | assumption | trivial) ?_
            rotate_left
            · intro w hSw
              try dsimp only at hSw
              first | (go_simp; done) | (go_simp; with_reducible rfl)
            try simp only [Act.put, List.getElem_toArray, List.getElem_cons_succ, List.getElem_cons_zero, List.setIfInBounds_toArray, List.set_cons_zero, List.set_cons_succ]
            refine wpAnyH_take (i := 3) (v := ?_) rfl (by kernel_rfl) (by kernel_rfl) (by kernel_rfl) (fun _ _ _ h => h) (Or.inl ⟨by kernel_rfl, ?_⟩) (by first | assumption | trivial) ?_
            rotate_left
            · intro w hSw
              try dsimp only at hSw
              first | (go_simp; done) | (go_simp; with_reducible rfl)
            try simp only [Act.put, List.getElem_toArray, List.getElem_cons_succ, List.getElem_cons_zero, List.setIfInBounds_toArray, List.set_cons_zero, List.set_cons_succ]
            refine wpAnyH_take (i := 4) (v := ?_) rfl (by kernel_rfl) (by kernel_rfl) (by kernel_rfl) (fun _ _ _ h => h) (Or.inl ⟨by kernel_rfl, ?_⟩) (by first | assumption | trivial) ?_
            rotate_left
            · intro w hSw
              try dsimp only at hSw
              first | (go_simp; done) | (go_simp; with_reducible rfl)
            try simp only [Act.put, List.getElem_toArray, List.getElem_cons_succ, List.getElem_cons_zero, List.setIfInBounds_toArray, List.set_cons_zero, List.set_cons_succ]
            refine wpAnyH_take (i := 5) (v := ?_) rfl (by kernel_rfl) (by kernel_rfl) (by kernel_rfl) (fun _ _ _ h => h) (Or.inl ⟨by kernel_rfl, ?_⟩) (by first | assumption | trivial) ?_
            rotate_left
            · intro w hSw
              try dsimp only at hSw
              first | (go_simp; done) | (go_simp; with_reducible rfl)
            try simp only [Act.put, List.getElem_toArray, List.getElem_cons_succ, List.getElem_cons_zero, List.setIfInBounds_toArray, List.set_cons_zero, List.set_cons_succ]
            refine wpAnyH_take (i := 6) (v := ?_) rfl (by kernel_rfl) (by kernel_rfl) (by kernel_rfl) (fun _ _ _ h => h) (Or.inl ⟨by kernel_rfl, ?_⟩) (by first | assumption | trivial) ?_
            rotate_left
            · intro w hSw
              try dsimp only at hSw
              first | (go_simp; done) | (go_simp; with_reducible rfl)
            try simp only [Act.put, List.getElem_toArray, List.getElem_cons_succ, List.getElem_cons_zero, List.setIfInBounds_toArray, List.set_cons_zero, List.set_cons_succ]
            refine wpAnyH_take (i := 7) (v := undef) rfl (by kernel_rfl) (by kernel_rfl) (by kernel_rfl) (fun _ _ _ h => h) (Or.inr ⟨by kernel_rfl, rfl⟩) (by first | assumption | trivial) ?_
            try simp only [Act.put, List.getElem_toArray, List.getElem_cons_succ, List.getElem_cons_zero, List.setIfInBounds_toArray, List.set_cons_zero, List.set_cons_succ]
            refine wpAnyH_take (i := 8) (v := undef) rfl (by kernel_rfl) (by kernel_rfl) (by kernel_rfl) (fun _ _ _ h => h) (Or.inr ⟨by kernel_rfl, rfl⟩) (by first | assumption | trivial) ?_
            try simp only [Act.put, List.getElem_toArray, List.getElem_cons_succ, List.getElem_cons_zero, List.setIfInBounds_toArray, List.set_cons_zero, List.set_cons_succ]
            refine wpAnyH_take (i := 9) (v := undef) rfl (by kernel_rfl) (by kernel_rfl) (by kernel_rfl) (fun _ _ _ h => h) (Or.inr ⟨by kernel_rfl, rfl⟩) (by first | assumption | trivial) ?_
            try simp only [Act.put, List.getElem_toArray, List.getElem_cons_succ, List.getElem_cons_zero, List.setIfInBounds_toArray, List.set_cons_zero, List.set_cons_succ]
            refine wpAnyH_take (i := 10) (v := undef) rfl (by kernel_rfl) (by kernel_rfl) (by kernel_rfl) (fun _ _ _ h => h) (Or.inr ⟨by kernel_rfl, rfl⟩) (by first | assumption | trivial) ?_
            try simp only [Act.put, List.getElem_toArray, List.getElem_cons_succ, List.getElem_cons_zero, List.setIfInBounds_toArray, List.set_cons_zero, List.set_cons_succ]
            refine wpAnyH_take (i := 11) (v := undef) rfl (by kernel_rfl) (by kernel_rfl) (by kernel_rfl) (fun _ _ _ h => h) (Or.inr ⟨by kernel_rfl, rfl⟩) (by first | assumption | trivial) ?_
            try simp only [Act.put, List.getElem_toArray, List.getElem_cons_succ, List.getElem_cons_zero, List.setIfInBounds_toArray, List.set_cons_zero, List.set_cons_succ]
            refine wpAnyH_take (i := 12) (v := undef) rfl (by kernel_rfl) (by kernel_rfl) (by kernel_rfl) (fun _ _ _ h => h) (Or.inr ⟨by kernel_rfl, rfl⟩) (by first | assumption | trivial) ?_
            try simp only [Act.put, List.getElem_toArray, List.getElem_cons_succ, List.getElem_cons_zero, List.setIfInBounds_toArray, List.set_cons_zero, List.set_cons_succ]
            refine wpAnyH_take (i := 13) (v := undef) rfl (by kernel_rfl) (by kernel_rfl) (by kernel_rfl) (fun _ _ _ h => h) (Or.inr ⟨by kernel_rfl, rfl⟩) (by first | assumption | trivial) ?_
            try simp only [Act.put, List.getElem_toArray, List.getElem_cons_succ, List.getElem_cons_zero, List.setIfInBounds_toArray, List.set_cons_zero, List.set_cons_succ]
            refine wpAnyH_take (i := 14) (v := undef) rfl (by kernel_rfl) (by kernel_rfl) (by kernel_rfl) (fun _ _ _ h => h) (Or.inr ⟨by kernel_rfl, rfl⟩) (by first | assumption | trivial) ?_
            try simp only [Act.put, List.getElem_toArray, List.getElem_cons_succ, List.getElem_cons_zero, List.setIfInBounds_toArray, List.set_cons_zero, List.set_cons_succ]
            refine wpAnyH_take (i := 15) (v := ?_) rfl (by kernel_rfl) (by kernel_rfl) (by kernel_rfl) (fun _ _ _ h => h) (Or.inl ⟨by kernel_rfl, ?_⟩) (by first | assumption | trivial) ?_
            rotate_left
            · intro w hSw
              try dsimp only at hSw
              first | (go_simp; done) | (go_simp; with_reducible rfl)
            try simp only [Act.put, List.getElem_toArray, List.getElem_cons_succ, List.getElem_cons_zero, List.setIfInBounds_toArray, List.set_cons_zero, List.set_cons_succ]
            refine wpAnyH_take (i := 16) (v := ?_) rfl (by kernel_rfl) (by kernel_rfl) (by kernel_rfl) (fun _ _ _ h => h) (Or.inl ⟨by kernel_rfl, ?_⟩) (by first | assumption | trivial) ?_
            rotate_left
            · intro w hSw
              try dsimp only at hSw
              first | (go_simp; done) | (go_simp; with_reducible rfl)
            try simp only [Act.put, List.getElem_toArray, List.getElem_cons_succ, List.getElem_cons_zero, List.setIfInBounds_toArray, List.set_cons_zero, List.set_cons_succ]
            refine wpAnyH_take (i := 17) (v := ?_) rfl (by kernel_rfl) (by kernel_rfl) (by kernel_rfl) (fun _ _ _ h => h) (Or.inl ⟨by kernel_rfl, ?_⟩) (by first | assumption | trivial) ?_
            rotate_left
            · intro w hSw
              try dsimp only at hSw
              first | (go_simp; done) | (go_simp; with_reducible rfl)
            try simp only [Act.put, List.getElem_toArray, List.getElem_cons_succ, List.getElem_cons_zero, List.setIfInBounds_toArray, List.set_cons_zero, List.set_cons_succ]
            refine wpAnyH_take (i := 18) (v := ?_) rfl (by kernel_rfl) (by kernel_rfl) (by kernel_rfl) (fun _ _ _ h => h) (Or.inl ⟨by kernel_rfl, ?_⟩) (by first | assumption | trivial) ?_
            rotate_left
            · intro w hSw
              try dsimp only at hSw
              first | (go_simp; done) | (go_simp; with_reducible rfl)
            try simp only [Act.put, List.getElem_toArray, List.getElem_cons_succ, List.getElem_cons_zero, List.setIfInBounds_toArray, List.set_cons_zero, List.set_cons_succ]
            refine wpAnyH_take (i := 19) (v := ?_) rfl (by kernel_rfl) (by kernel_rfl) (by kernel_rfl) (fun _ _ _ h => h) (Or.inl ⟨by kernel_rfl, ?_⟩) (by first | assumption | trivial) ?_
            rotate_left
            · intro w hSw
              try dsimp only at hSw
              first | (go_simp; done) | (go_simp; with_reducible rfl)
            try simp only [Act.put, List.getElem_toArray, List.getElem_cons_succ, List.getElem_cons_zero, List.setIfInBounds_toArray, List.set_cons_zero, List.set_cons_succ]
            refine wpAnyH_take (i := 20) (v := ?_) rfl (by kernel_rfl) (by kernel_rfl) (by kernel_rfl) (fun _ _ _ h => h) (Or.inl ⟨by kernel_rfl, ?_⟩) (by first | assumption | trivial) ?_
            rotate_left
            · intro w hSw
              try dsimp only at hSw
              first | (go_simp; done) | (go_simp; with_reducible rfl)
            try simp only [Act.put, List.getElem_toArray, List.getElem_cons_succ, List.getElem_cons_zero, List.setIfInBounds_toArray, List.set_cons_zero, List.set_cons_succ]
            refine wpAnyH_take (i := 21) (v := ?_) rfl (by kernel_rfl) (by kernel_rfl) (by kernel_rfl) (fun _ _ _ h => h) (Or.inl ⟨by kernel_rfl, ?_⟩) (by first | assumption | trivial) ?_
            rotate_left
            · intro w hSw
              try dsimp only at hSw
              first | (go_simp; done) | (go_simp; with_reducible rfl)
            try simp only [Act.put, List.getElem_toArray, List.getElem_cons_succ, List.getElem_cons_zero, List.setIfInBounds_toArray, List.set_cons_zero, List.set_cons_succ]
            refine wpAnyH_take (i := 22) (v := ?_) rfl (by kernel_rfl) (by kernel_rfl) (by kernel_rfl) (fun _ _ _ h => h) (Or.inl ⟨by kernel_rfl, ?_⟩) (by first | assumption | trivial) ?_
            rotate_left
            · intro w hSw
              try dsimp only at hSw
              have a0 := hSw
              clear hSw
              first | (go_simp; done) | (go_simp; with_reducible rfl)
            try simp only [Act.put, List.getElem_toArray, List.getElem_cons_succ, List.getElem_cons_zero, List.setIfInBounds_toArray, List.set_cons_zero, List.set_cons_succ]
            refine wpAnyH_take (i := 23) (v := ?_) rfl (by kernel_rfl) (by kernel_rfl) (by kernel_rfl) (fun _ _ _ h => h) (Or.inl ⟨by kernel_rfl, ?_⟩) (by first | assumption | trivial) ?_
            rotate_left
            · intro w hSw
              try dsimp only at hSw
              first | (go_simp; done) | (go_simp; with_reducible rfl)
            try simp only [Act.put, List.getElem_toArray, List.getElem_cons_succ, List.getElem_cons_zero, List.setIfInBounds_toArray, List.set_cons_zero, List.set_cons_succ]
            refine wpAnyH_take (i := 24) (v := ?_) rfl (by kernel_rfl) (by kernel_rfl) (by kernel_rfl) (fun _ _ _ h => h) (Or.inl ⟨by kernel_rfl, ?_⟩) (by first | assumption | trivial) ?_
            rotate_left
            · intro w hSw
              try dsimp only at hSw
              first | (go_simp; done) | (go_simp; with_reducible rfl)
            try simp only [Act.put, List.getElem_toArray, List.getElem_cons_succ, List.getElem_cons_zero, List.setIfInBounds_toArray, List.set_cons_zero, List.set_cons_succ]
            refine wpAnyH_take (i := 25) (v := ?_) rfl (by kernel_rfl) (by kernel_rfl) (by kernel_rfl) (fun _ _ _ h => h) (Or.inl ⟨by kernel_rfl, ?_⟩) (by first | assumption | trivial) ?_
            rotate_left
            · intro w hSw
              try dsimp only at hSw
              first | (go_simp; done) | (go_simp; with_reducible rfl)
            try simp only [Act.put, List.getElem_toArray, List.getElem_cons_succ, List.getElem_cons_zero, List.setIfInBounds_toArray, List.set_cons_zero, List.set_cons_succ]
            refine wpAnyH_done (by kernel_rfl) ?_ _
            have HS4 : Hid (PSt W g zs (.slice pv zs.length cv) w4.drew) := HS3.out.kept (Below.refl _ _).drew
            clear HS3 hS0 HZ2 HBZ
            go_wp2_with fail
            refine (net_len w4.drew HS4.out.net).mono ?_
            rintro y0 wt ⟨rfl, rfl⟩
            rw [List.length_map]
            go_wp2_with fail
            go_roundw
            case rel => exact ⟨t + 1, _, by omega, by omega, by go_num, HS4⟩
            case measure => simp [intOf]; omega
          have hb3 : (k == 3) = false := by simpa using hk3
          as_aux_lemma =>
          go_wp2_with fail
          refine (net_len w2 HS2.out.net).mono ?_
          rintro y0 wt ⟨rfl, rfl⟩
          rw [List.length_map]
          go_wp2_with fail
          go_roundw
          case rel => exact ⟨t + 1, _, by omega, by omega, by go_num, HS2⟩
          case measure => simp [intOf]; omega
      · have HNT : Hid (¬ (0 ≤ i ∧ i < (((zs.map PkX.pk).length : Nat) : Int))) := fun h => hi0 h.1
        go_upto_region 11 with fail
        by_cases hk0 : k = 0
        · subst hk0
          as_aux_lemma =>
          by_cases h50 : 50 < ys.length
          · have h50I : (50 : Int) < (ys.length : Int) := by omega
            go_wp2_with fail
            go_ret
            exact ⟨rfl, HS2.out.low⟩
          · have h50I : ¬ (50 : Int) < (ys.length : Int) := by omega
            go_upto_region 15 with fail
            have HG0 : Hid (w2.drew.cell? ⟨go, 2, none⟩ = some (.slice lp ys.length lc)) := HGO.out.drew.cell 2
            have HNs : Hid (Net W.heap.size (fun b => (Value.slice pv zs.length cv).ownBlock = some b ∨ b = go) w2.drew g (zs.map PkX.pk)) := HN2.out.kept (Below.refl _ _).drew
            have HRs : Hid (PkRow (fun b => b < W.heap.size) w2.drew (.slice lp ys.length lc) (ys.map PkX.pk)) := ((PkRow.of_in HXI.out.1 HXI.out.2).keepP (KeepP.of_below HS2.out.low)).keepP (KeepP.of_below (Below.refl _ _).drew)
            refine wp_region_held_drew (S := fun w' => w'.cell? ⟨go, 2, none⟩ = some (.slice lp ys.length lc)) (by kernel_rfl) HG0.out (fun hS0 => ?_)
            refine wpAnyH_take (i := 0) (v := ?_) rfl (by kernel_rfl) (by kernel_rfl) (by kernel_rfl) (fun _ _ _ h => h) (Or.inl ⟨by kernel_rfl, ?_⟩) (by first | assumption | trivial) ?_
            rotate_left
            · intro w hSw
              try dsimp only at hSw
              first | (go_simp; done) | (go_simp; with_reducible rfl)
            try simp only [Act.put, List.getElem_toArray, List.getElem_cons_succ, List.getElem_cons_zero, List.setIfInBounds_toArray, List.set_cons_zero, List.set_cons_succ]
            refine wpAnyH_take (i := 1) (v := ?_) rfl (by kernel_rfl) (by kernel_rfl) (by kernel_rfl) (fun _ _ _ h => h) (Or.inl ⟨by kernel_rfl, ?_⟩) (by first | assumption | trivial) ?_
            rotate_left
            · intro w hSw
              try dsimp only at hSw
              have a0 := hSw
              clear hSw
              first | (go_simp; done) | (go_simp; with_reducible rfl)
            try simp only [Act.put, List.getElem_toArray, List.getElem_cons_succ, List.getElem_cons_zero, List.setIfInBounds_toArray, List.set_cons_zero, List.set_cons_succ]
            refine wpAnyH_take (i := 3) (v := ?_) rfl (by kernel_rfl) (by kernel_rfl) (by kernel_rfl) (fun _ _ _ h => h) (Or.inl ⟨by kernel_rfl, ?_⟩) (by first | assumption | trivial) ?_
            rotate_left
            · intro w hSw
              try dsimp only at hSw
              first | (go_simp; done) | (go_simp; with_reducible rfl)
            try simp only [Act.put, List.getElem_toArray, List.getElem_cons_succ, List.getElem_cons_zero, List.setIfInBounds_toArray, List.set_cons_zero, List.set_cons_succ]
            refine wpAnyH_take (i := 4) (v := ?_) rfl (by kernel_rfl) (by kernel_rfl) (by kernel_rfl) (fun _ _ _ h => h) (Or.inl ⟨by kernel_rfl, ?_⟩) (by first | assumption | trivial) ?_
            rotate_left
            · intro w hSw
              try dsimp only at hSw
              have a0 := hSw
              clear hSw
              first | (go_simp; done) | (go_simp; with_reducible rfl)
            try simp only [Act.put, List.getElem_toArray, List.getElem_cons_succ, List.getElem_cons_zero, List.setIfInBounds_toArray, List.set_cons_zero, List.set_cons_succ]
            refine wpAnyH_take (i := 5) (v := ?_) rfl (by kernel_rfl) (by kernel_rfl) (by kernel_rfl) (fun _ _ _ h => h) (Or.inl ⟨by kernel_rfl, ?_⟩) (by first | assumption | trivial) ?_
            rotate_left
            · intro w hSw
              try dsimp only at hSw
              first | (go_simp; done) | (go_simp; with_reducible rfl)
            try simp only [Act.put, List.getElem_toArray, List.getElem_cons_succ, List.getElem_cons_zero, List.setIfInBounds_toArray, List.set_cons_zero, List.set_cons_succ]
            refine wpAnyH_ready (rs := [2]) (by kernel_rfl) (by simp) ?_
            refine AllReadyH.cons rfl (fun K hK => ?_) AllReadyH.nil
            go_simp
            go_at_call 9
            refine (net_send w2.drew _ HNs.out HRs.out (fun b hb => .inl hb) (fun b hb => hb.elim (fun h => HS2.out.own.lt b h) (fun h => by subst h; exact HGO.out.lt))).mono ?_
            rintro y0 w3 ⟨rfl, hn3, hb3, hk3⟩
            rw [show ((min (ys.map PkX.pk).length (8192 - (zs.map PkX.pk).length) : Nat) : Int) = (ys.length : Int) by rw [List.length_map, List.length_map]; have := HZ.out; omega]
            have hS2 : w3.cell? ⟨go, 2, none⟩ = some (.slice lp ys.length lc) := (World.cell?_of_block (hk3.2 go HGO.out.lt (.inr rfl))).trans HG0.out
            have hks : zs.map PkX.pk ++ (ys.map PkX.pk).take (8192 - (zs.map PkX.pk).length) = (zs ++ ys).map PkX.pk := by rw [List.map_append, List.take_of_length_le (by rw [List.length_map, List.length_map]; have := HZ.out; omega)]
            rw [hks] at hn3
            have HN3 := Lib.hid (hn3.ext (L' := fun b => (Value.slice pv zs.length cv).ownBlock = some b) (fun b hb h => .inl h))
            have HO3 := Lib.hid (HS2.out.own.stay (fun b hb => hk3.2 b (HS2.out.own.lt b hb) (.inl hb)))
            have HL3 := Lib.hid (HS2.out.low.trans ((Below.refl _ _).drew.trans hb3))
            clear hn3 hb3 hk3 hks
            try go_wp2_with fail
            refine hK.out _ _ hS2 (fun hS => ?_)
            clear hK K
            try simp only [Act.put, List.getElem_toArray, List.getElem_cons_succ, List.getElem_cons_zero, List.setIfInBounds_toArray, List.set_cons_zero, List.set_cons_succ]
            refine wpAnyH_take (i := 6) (v := ?_) rfl (by kernel_rfl) (by kernel_rfl) (by kernel_rfl) (fun _ _ _ h => h) (Or.inl ⟨by kernel_rfl, ?_⟩) (by first | assumption | trivial) ?_
            rotate_left
            · intro w hSw
              try dsimp only at hSw
              first | (go_simp; done) | (go_simp; with_reducible rfl)
            try simp only [Act.put, List.getElem_toArray, List.getElem_cons_succ, List.getElem_cons_zero, List.setIfInBounds_toArray, List.set_cons_zero, List.set_cons_succ]
            refine wpAnyH_done (by kernel_rfl) ?_ _
            clear HG0 HNs HRs HN2
            go_wp2_with (at_builtin; with_reducible refine stop_appendT (.tmp 52) (.tmp 54) 27 rfl ?_)
            refine wpList_append_tg rfl (.tmp 52) (.tmp 54) 27 rfl 38 zeroVK 152 W.heap.size eltK rfl (.slice pv zs.length cv) (.slice lp ys.length lc) zs ys rfl rfl HO3.out (HXI.out.1.kept HL3.out) (by have := HZ.out; omega) (by have := HZ.out; omega) HL3.out.size (zs ++ ys) (zs.length + ys.length) rfl (by rw [List.length_append]) ?_
            intro p4 c4 w4 ho hg hor hb
            have HS4 : Hid (PSt W g (zs ++ ys) (.slice p4 (zs.length + ys.length) c4) w4) := PSt.more HN3.out (fun z hz => (List.mem_append.1 hz).elim (HS2.out.rows z) (fun h => (HXI.out.2 z h).inP)) HL3.out rfl ho hg hor hb
            clear ho hg hor hb hS hS0 HN3 HO3 HL3
            go_wp2_with fail
            refine (net_len w4 HS4.out.net).mono ?_
            rintro y0 wt ⟨rfl, rfl⟩
            rw [List.length_map]
            go_wp2_with fail
            go_roundw
            case rel => exact ⟨t + 1, _, by omega, by rw [List.length_append]; omega, by go_num, HS4⟩
            case measure => simp [intOf]; omega
        have hb0 : (k == 0) = false := by simpa using hk0
        by_cases hk1 : k = 1
        · subst hk1
          as_aux_lemma =>
          go_wp2_with fail
          refine (net_take_no w2 i HS2.out.net HNT.out).mono ?_
          rintro y0 w3 ⟨rfl, hb3⟩
          have HS3 := Lib.hid ((HS2.out.kept hb3).kept (oneB w3 (.cells #[.int .i64 0, .int .i64 0, .int .i64 0, .int .i64 0, .int .i64 0, .int .i64 0, .int .i64 0, .int .i64 0, .int .i64 0, .int .i64 0, .int .i64 0, .int .i64 0, .bool false, .slice none 0 0, .slice none 0 0] 38)))
          clear hb3
          unfold zeroVK
          go_upto_region 20 with fail
          generalize w3.alloc (.cells #[.int .i64 0, .int .i64 0, .int .i64 0, .int .i64 0, .int .i64 0, .int .i64 0, .int .i64 0, .int .i64 0, .int .i64 0, .int .i64 0, .int .i64 0, .int .i64 0, .bool false, .slice none 0 0, .slice none 0 0] 38) = w4 at *
          refine wp_region_held_drew (S := fun w' => True) (by kernel_rfl) trivial (fun hS0 => ?_)
          refine wpAnyH_take (i := 0) (v := ?_) rfl (by kernel_rfl) (by kernel_rfl) (by kernel_rfl) (fun _ _ _ h => h) (Or.inl ⟨by kernel_rfl, ?_⟩) (by first | assumption | trivial) ?_
          rotate_left
          · intro w hSw
            try dsimp only at hSw
            first | (go_simp; done) | (go_simp; with_reducible rfl)
          try simp only [Act.put, List.getElem_toArray, List.getElem_cons_succ, List.getElem_cons_zero, List.setIfInBounds_toArray, List.set_cons_zero, List.set_cons_succ]
          refine wpAnyH_take (i := 1) (v := ?_) rfl (by kernel_rfl) (by kernel_rfl) (by kernel_rfl) (fun _ _ _ h => h) (Or.inl ⟨by kernel_rfl, ?_⟩) (by first | assumption | trivial) ?_
          rotate_left
          · intro w hSw
            try dsimp only at hSw
            first | (go_simp; done) | (go_simp; with_reducible rfl)
          try simp only [Act.put, List.getElem_toArray, List.getElem_cons_succ, List.getElem_cons_zero, List.setIfInBounds_toArray, List.set_cons_zero, List.set_cons_succ]
          refine wpAnyH_take (i := 2) (v := ?_) rfl (by kernel_rfl) (by kernel_rfl) (by kernel_rfl) (fun _ _ _ h => h) (Or.inl ⟨by kernel_rfl, ?_⟩) (by first | assumption | trivial) ?_
          rotate_left
          · intro w hSw
            try dsimp only at hSw
            first | (go_simp; done) | (go_simp; with_reducible rfl)
          try simp only [Act.put, List.getElem_toArray, List.getElem_cons_succ, List.getElem_cons_zero, List.setIfInBounds_toArray, List.set_cons_zero, List.set_cons_succ]
          refine wpAnyH_take (i := 3) (v := ?_) rfl (by kernel_rfl) (by kernel_rfl) (by kernel_rfl) (fun _ _ _ h => h) (Or.inl ⟨by kernel_rfl, ?_⟩) (by first | assumption | trivial) ?_
          rotate_left
          · intro w hSw
            try dsimp only at hSw
            first | (go_simp; done) | (go_simp; with_reducible rfl)
          try simp only [Act.put, List.getElem_toArray, List.getElem_cons_succ, List.getElem_cons_zero, List.setIfInBounds_toArray, List.set_cons_zero, List.set_cons_succ]
          refine wpAnyH_take (i := 4) (v := ?_) rfl (by kernel_rfl) (by kernel_rfl) (by kernel_rfl) (fun _ _ _ h => h) (Or.inl ⟨by kernel_rfl, ?_⟩) (by first | assumption | trivial) ?_
          rotate_left
          · intro w hSw
            try dsimp only at hSw
            first | (go_simp; done) | (go_simp; with_reducible rfl)
          try simp only [Act.put, List.getElem_toArray, List.getElem_cons_succ, List.getElem_cons_zero, List.setIfInBounds_toArray, List.set_cons_zero, List.set_cons_succ]
          refine wpAnyH_take (i := 5) (v := ?_) rfl (by kernel_rfl) (by kernel_rfl) (by kernel_rfl) (fun _ _ _ h => h) (Or.inl ⟨by kernel_rfl, ?_⟩) (by first | assumption | trivial) ?_
          rotate_left
          · intro w hSw
            try dsimp only at hSw
            first | (go_simp; done) | (go_simp; with_reducible rfl)
          try simp only [Act.put, List.getElem_toArray, List.getElem_cons_succ, List.getElem_cons_zero, List.setIfInBounds_toArray, List.set_cons_zero, List.set_cons_succ]
          refine wpAnyH_take (i := 6) (v := ?_) rfl (by kernel_rfl) (by kernel_rfl) (by kernel_rfl) (fun _ _ _ h => h) (Or.inl ⟨by kernel_rfl, ?_⟩) (by first | assumption | trivial) ?_
          rotate_left
          · intro w hSw
            try dsimp only at hSw
            first | (go_simp; done) | (go_simp; with_reducible rfl)
          try simp only [Act.put, List.getElem_toArray, List.getElem_cons_succ, List.getElem_cons_zero, List.setIfInBounds_toArray, List.set_cons_zero, List.set_cons_succ]
          refine wpAnyH_take (i := 7) (v := undef) rfl (by kernel_rfl) (by kernel_rfl) (by kernel_rfl) (fun _ _ _ h => h) (Or.inr ⟨by kernel_rfl, rfl⟩) (by first | assumption | trivial) ?_
          try simp only [Act.put, List.getElem_toArray, List.getElem_cons_succ, List.getElem_cons_zero, List.setIfInBounds_toArray, List.set_cons_zero, List.set_cons_succ]
          refine wpAnyH_take (i := 8) (v := undef) rfl (by kernel_rfl) (by kernel_rfl) (by kernel_rfl) (fun _ _ _ h => h) (Or.inr ⟨by kernel_rfl, rfl⟩) (by first | assumption | trivial) ?_
          try simp only [Act.put, List.getElem_toArray, List.getElem_cons_succ, List.getElem_cons_zero, List.setIfInBounds_toArray, List.set_cons_zero, List.set_cons_succ]
          refine wpAnyH_take (i := 9) (v := undef) rfl (by kernel_rfl) (by kernel_rfl) (by kernel_rfl) (fun _ _ _ h => h) (Or.inr ⟨by kernel_rfl, rfl⟩) (by first | assumption | trivial) ?_
          try simp only [Act.put, List.getElem_toArray, List.getElem_cons_succ, List.getElem_cons_zero, List.setIfInBounds_toArray, List.set_cons_zero, List.set_cons_succ]
          refine wpAnyH_take (i := 10) (v := undef) rfl (by kernel_rfl) (by kernel_rfl) (by kernel_rfl) (fun _ _ _ h => h) (Or.inr ⟨by kernel_rfl, rfl⟩) (by first | assumption | trivial) ?_
          try simp only [Act.put, List.getElem_toArray, List.getElem_cons_succ, List.getElem_cons_zero, List.setIfInBounds_toArray, List.set_cons_zero, List.set_cons_succ]
          refine wpAnyH_take (i := 11) (v := undef) rfl (by kernel_rfl) (by kernel_rfl) (by kernel_rfl) (fun _ _ _ h => h) (Or.inr ⟨by kernel_rfl, rfl⟩) (by first | assumption | trivial) ?_
          try simp only [Act.put, List.getElem_toArray, List.getElem_cons_succ, List.getElem_cons_zero, List.setIfInBounds_toArray, List.set_cons_zero, List.set_cons_succ]
          refine wpAnyH_take (i := 12) (v := undef) rfl (by kernel_rfl) (by kernel_rfl) (by kernel_rfl) (fun _ _ _ h => h) (Or.inr ⟨by kernel_rfl, rfl⟩) (by first | assumption | trivial) ?_
          try simp only [Act.put, List.getElem_toArray, List.getElem_cons_succ, List.getElem_cons_zero, List.setIfInBounds_toArray, List.set_cons_zero, List.set_cons_succ]
          refine wpAnyH_take (i := 13) (v := undef) rfl (by kernel_rfl) (by kernel_rfl) (by kernel_rfl) (fun _ _ _ h => h) (Or.inr ⟨by kernel_rfl, rfl⟩) (by first | assumption | trivial) ?_
          try simp only [Act.put, List.getElem_toArray, List.getElem_cons_succ, List.getElem_cons_zero, List.setIfInBounds_toArray, List.set_cons_zero, List.set_cons_succ]
          refine wpAnyH_take (i := 14) (v := undef) rfl (by kernel_rfl) (by kernel_rfl) (by kernel_rfl) (fun _ _ _ h => h) (Or.inr ⟨by kernel_rfl, rfl⟩) (by first | assumption | trivial) ?_
          try simp only [Act.put, List.getElem_toArray, List.getElem_cons_succ, List.getElem_cons_zero, List.setIfInBounds_toArray, List.set_cons_zero, List.set_cons_succ]
          refine wpAnyH_take (i := 15) (v := ?_) rfl (by kernel_rfl) (by kernel_rfl) (by kernel_rfl) (fun _ _ _ h => h) (Or.inl ⟨by kernel_rfl, ?_⟩) (by first | assumption | trivial) ?_
          rotate_left
          · intro w hSw
            try dsimp only at hSw
            first | (go_simp; done) | (go_simp; with_reducible rfl)
          try simp only [Act.put, List.getElem_toArray, List.getElem_cons_succ, List.getElem_cons_zero, List.setIfInBounds_toArray, List.set_cons_zero, List.set_cons_succ]
          refine wpAnyH_take (i := 16) (v := ?_) rfl (by kernel_rfl) (by kernel_rfl) (by kernel_rfl) (fun _ _ _ h => h) (Or.inl ⟨by kernel_rfl, ?_⟩) (by first | assumption | trivial) ?_
          rotate_left
          · intro w hSw
            try dsimp only at hSw
            first | (go_simp; done) | (go_simp; with_reducible rfl)
          try simp only [Act.put, List.getElem_toArray, List.getElem_cons_succ, List.getElem_cons_zero, List.setIfInBounds_toArray, List.set_cons_zero, List.set_cons_succ]
          refine wpAnyH_take (i := 17) (v := ?_) rfl (by kernel_rfl) (by kernel_rfl) (by kernel_rfl) (fun _ _ _ h => h) (Or.inl ⟨by kernel_rfl, ?_⟩) (by first | assumption | trivial) ?_
          rotate_left
          · intro w hSw
            try dsimp only at hSw
            first | (go_simp; done) | (go_simp; with_reducible rfl)
          try simp only [Act.put, List.getElem_toArray, List.getElem_cons_succ, List.getElem_cons_zero, List.setIfInBounds_toArray, List.set_cons_zero, List.set_cons_succ]
          refine wpAnyH_take (i := 18) (v := ?_) rfl (by kernel_rfl) (by kernel_rfl) (by kernel_rfl) (fun _ _ _ h => h) (Or.inl ⟨by kernel_rfl, ?_⟩) (by first | assumption | trivial) ?_
          rotate_left
          · intro w hSw
            try dsimp only at hSw
            first | (go_simp; done) | (go_simp; with_reducible rfl)
          try simp only [Act.put, List.getElem_toArray, List.getElem_cons_succ, List.getElem_cons_zero, List.setIfInBounds_toArray, List.set_cons_zero, List.set_cons_succ]
          refine wpAnyH_take (i := 19) (v := ?_) rfl (by kernel_rfl) (by kernel_rfl) (by kernel_rfl) (fun _ _ _ h => h) (Or.inl ⟨by kernel_rfl, ?_⟩) (by first | assumption | trivial) ?_
          rotate_left
          · intro w hSw
            try dsimp only at hSw
            first | (go_simp; done) | (go_simp; with_reducible rfl)
          try simp only [Act.put, List.getElem_toArray, List.getElem_cons_succ, List.getElem_cons_zero, List.setIfInBounds_toArray, List.set_cons_zero, List.set_cons_succ]
          refine wpAnyH_take (i := 20) (v := ?_) rfl (by kernel_rfl) (by kernel_rfl) (by kernel_rfl) (fun _ _ _ h => h) (Or.inl ⟨by kernel_rfl, ?_⟩) (by first | assumption | trivial) ?_
          rotate_left
          · intro w hSw
            try dsimp only at hSw
            first | (go_simp; done) | (go_simp; with_reducible rfl)
          try simp only [Act.put, List.getElem_toArray, List.getElem_cons_succ, List.getElem_cons_zero, List.setIfInBounds_toArray, List.set_cons_zero, List.set_cons_succ]
          refine wpAnyH_take (i := 21) (v := ?_) rfl (by kernel_rfl) (by kernel_rfl) (by kernel_rfl) (fun _ _ _ h => h) (Or.inl ⟨by kernel_rfl, ?_⟩) (by first | assumption | trivial) ?_
          rotate_left
          · intro w hSw
            try dsimp only at hSw
            first | (go_simp; done) | (go_simp; with_reducible rfl)
          try simp only [Act.put, List.getElem_toArray, List.getElem_cons_succ, List.getElem_cons_zero, List.setIfInBounds_toArray, List.set_cons_zero, List.set_cons_succ]
          refine wpAnyH_take (i := 22) (v := ?_) rfl (by kernel_rfl) (by kernel_rfl) (by kernel_rfl) (fun _ _ _ h => h) (Or.inl ⟨by kernel_rfl, ?_⟩) (by first | assumption | trivial) ?_
          rotate_left
          · intro w hSw
            try dsimp only at hSw
            first | (go_simp; done) | (go_simp; with_reducible rfl)
          try simp only [Act.put, List.getElem_toArray, List.getElem_cons_succ, List.getElem_cons_zero, List.setIfInBounds_toArray, List.set_cons_zero, List.set_cons_succ]
          refine wpAnyH_take (i := 23) (v := ?_) rfl (by kernel_rfl) (by kernel_rfl) (by kernel_rfl) (fun _ _ _ h => h) (Or.inl ⟨by kernel_rfl, ?_⟩) (by first | assumption | trivial) ?_
          rotate_left
          · intro w hSw
            try dsimp only at hSw
            first | (go_simp; done) | (go_simp; with_reducible rfl)
          try simp only [Act.put, List.getElem_toArray, List.getElem_cons_succ, List.getElem_cons_zero, List.setIfInBounds_toArray, List.set_cons_zero, List.set_cons_succ]
          refine wpAnyH_take (i := 24) (v := ?_) rfl (by kernel_rfl) (by kernel_rfl) (by kernel_rfl) (fun _ _ _ h => h) (Or.inl ⟨by kernel_rfl, ?_⟩) (by first | assumption | trivial) ?_
          rotate_left
          · intro w hSw
            try dsimp only at hSw
            first | (go_simp; done) | (go_simp; with_reducible rfl)
          try simp only [Act.put, List.getElem_toArray, List.getElem_cons_succ, List.getElem_cons_zero, List.setIfInBounds_toArray, List.set_cons_zero, List.set_cons_succ]
          refine wpAnyH_done (by kernel_rfl) ?_ _
          have HS4 : Hid (PSt W g zs (.slice pv zs.length cv) w4.drew) := HS3.out.kept (Below.refl _ _).drew
          clear HS3 hS0
          go_wp2_with fail
          refine (net_len w4.drew HS4.out.net).mono ?_
          rintro y0 wt ⟨rfl, rfl⟩
          rw [List.length_map]
          go_wp2_with fail
          go_roundw
          case rel => exact ⟨t + 1, _, by omega, by omega, by go_num, HS4⟩
          case measure => simp [intOf]; omega
        have hb1 : (k == 1) = false := by simpa using hk1
        by_cases hk2 : k = 2
        · subst hk2
          as_aux_lemma =>
          go_wp2_with fail
          refine (net_twice_no w2 i HS2.out.net HNT.out).mono ?_
          rintro y0 w3 ⟨rfl, rfl⟩
          go_wp2_with fail
          refine (net_len w3 HS2.out.net).mono ?_
          rintro y0 wt ⟨rfl, rfl⟩
          rw [List.length_map]
          go_wp2_with fail
          go_roundw
          case rel => exact ⟨t + 1, _, by omega, by omega, by go_num, HS2⟩
          case measure => simp [intOf]; omega
        have hb2 : (k == 2) = false := by simpa using hk2
        by_cases hk3 : k = 3
        · subst hk3
          as_aux_lemma =>
          go_wp2_with fail
          refine (net_look_no w2 i HS2.out.net HNT.out).mono ?_
          rintro y0 w3 ⟨rfl, hb3⟩
          have HS3 := Lib.hid ((HS2.out.kept hb3).kept (oneB w3 (.cells #[.int .i64 0, .int .i64 0, .int .i64 0, .int .i64 0, .int .i64 0, .int .i64 0, .int .i64 0, .int .i64 0, .int .i64 0, .int .i64 0, .int .i64 0, .int .i64 0, .bool false, .slice none 0 0, .slice none 0 0] 38)))
          have HBZ := Lib.hid (Blk.new w3 #[.int .i64 0, .int .i64 0, .int .i64 0, .int .i64 0, .int .i64 0, .int .i64 0, .int .i64 0, .int .i64 0, .int .i64 0, .int .i64 0, .int .i64 0, .int .i64 0, .bool false, .slice none 0 0, .slice none 0 0] 38)
          clear hb3
          unfold zeroVK
          go_upto_region 32 with fail
          generalize w3.alloc (.cells #[.int .i64 0, .int .i64 0, .int .i64 0, .int .i64 0, .int .i64 0, .int .i64 0, .int .i64 0, .int .i64 0, .int .i64 0, .int .i64 0, .int .i64 0, .int .i64 0, .bool false, .slice none 0 0, .slice none 0 0] 38) = w4 at *
          generalize w3.heap.size = gz at *
          have HZ2 : Hid (w4.drew.cell? ⟨gz, 2, none⟩ = some (.int .i64 0)) := HBZ.out.drew.cell 2
          refine wp_region_held_drew (S := fun w' => w'.cell? ⟨gz, 2, none⟩ = some (.int .i64 0)) (by kernel_rfl) HZ2.out (fun hS0 => ?_)
          refine wpAnyH_take (i := 0) (v := ?_) rfl (by kernel_rfl) (by kernel_rfl) (by kernel_rfl) (fun _ _ _ h => h) (Or.inl ⟨by kernel_rfl, ?_⟩) (by first | assumption | trivial) ?_
          rotate_left
          · intro w hSw
            try dsimp only at hSw
            first | (go_simp; done) | (go_simp; with_reducible rfl)
          try simp only [Act.put, List.getElem_toArray, List.getElem_cons_succ, List.getElem_cons_zero, List.setIfInBounds_toArray, List.set_cons_zero, List.set_cons_succ]
          refine wpAnyH_take (i := 1) (v := ?_) rfl (by kernel_rfl) (by kernel_rfl) (by kernel_rfl) (fun _ _ _ h => h) (Or.inl ⟨by kernel_rfl, ?_⟩) (by first | assumption | trivial) ?_
          rotate_left
          · intro w hSw
            try dsimp only at hSw
            first | (go_simp; done) | (go_simp; with_reducible rfl)
          try simp only [Act.put, List.getElem_toArray, List.getElem_cons_succ, List.getElem_cons_zero, List.setIfInBounds_toArray, List.set_cons_zero, List.set_cons_succ]
          refine wpAnyH_take (i := 2) (v := ?_) rfl (by kernel_rfl) (by kernel_rfl) (by kernel_rfl) (fun _ _ _ h => h) (Or.inl ⟨by kernel_rfl, ?_⟩) (by first | assumption | trivial) ?_
          rotate_left
          · intro w hSw
            try dsimp only at hSw
            first | (go_simp; done) | (go_simp; with_reducible rfl)
          try simp only [Act.put, List.getElem_toArray, List.getElem_cons_succ, List.getElem_cons_zero, List.setIfInBounds_toArray, List.set_cons_zero, List.set_cons_succ]
          refine wpAnyH_take (i := 3) (v := ?_) rfl (by kernel_rfl) (by kernel_rfl) (by kernel_rfl) (fun _ _ _ h => h) (Or.inl ⟨by kernel_rfl, ?_⟩) (by first | assumption | trivial) ?_
          rotate_left
          · intro w hSw
            try dsimp only at hSw
            first | (go_simp; done) | (go_simp; with_reducible rfl)
          try simp only [Act.put, List.getElem_toArray, List.getElem_cons_succ, List.getElem_cons_zero, List.setIfInBounds_toArray, List.set_cons_zero, List.set_cons_succ]
          refine wpAnyH_take (i := 4) (v := ?_) rfl (by kernel_rfl) (by kernel_rfl) (by kernel_rfl) (fun _ _ _ h => h) (Or.inl ⟨by kernel_rfl, ?_⟩) (by first | assumption | trivial) ?_
          rotate_left
          · intro w hSw
            try dsimp only at hSw
            first | (go_simp; done) | (go_simp; with_reducible rfl)
          try simp only [Act.put, List.getElem_toArray, List.getElem_cons_succ, List.getElem_cons_zero, List.setIfInBounds_toArray, List.set_cons_zero, List.set_cons_succ]
          refine wpAnyH_take (i := 5) (v := ?_) rfl (by kernel_rfl) (by kernel_rfl) (by kernel_rfl) (fun _ _ _ h => h) (Or.inl ⟨by kernel_rfl, ?_⟩) (by first | assumption | trivial) ?_
          rotate_left
          · intro w hSw
            try dsimp only at hSw
            first | (go_simp; done) | (go_simp; with_reducible rfl)
          try simp only [Act.put, List.getElem_toArray, List.getElem_cons_succ, List.getElem_cons_zero, List.setIfInBounds_toArray, List.set_cons_zero, List.set_cons_succ]
          refine wpAnyH_take (i := 6) (v := ?_) rfl (by kernel_rfl) (by kernel_rfl) (by kernel_rfl) (fun _ _ _ h => h) (Or.inl ⟨by kernel_rfl, ?_⟩) (by first | assumption | trivial) ?_
          rotate_left
          · intro w hSw
            try dsimp only at hSw
            first | (go_simp; done) | (go_simp; with_reducible rfl)
          try simp only [Act.put, List.getElem_toArray, List.getElem_cons_succ, List.getElem_cons_zero, List.setIfInBounds_toArray, List.set_cons_zero, List.set_cons_succ]
          refine wpAnyH_take (i := 7) (v := undef) rfl (by kernel_rfl) (by kernel_rfl) (by kernel_rfl) (fun _ _ _ h => h) (Or.inr ⟨by kernel_rfl, rfl⟩) (by first | assumption | trivial) ?_
          try simp only [Act.put, List.getElem_toArray, List.getElem_cons_succ, List.getElem_cons_zero, List.setIfInBounds_toArray, List.set_cons_zero, List.set_cons_succ]
          refine wpAnyH_take (i := 8) (v := undef) rfl (by kernel_rfl) (by kernel_rfl) (by kernel_rfl) (fun _ _ _ h => h) (Or.inr ⟨by kernel_rfl, rfl⟩) (by first | assumption | trivial) ?_
          try simp only [Act.put, List.getElem_toArray, List.getElem_cons_succ, List.getElem_cons_zero, List.setIfInBounds_toArray, List.set_cons_zero, List.set_cons_succ]
          refine wpAnyH_take (i := 9) (v := undef) rfl (by kernel_rfl) (by kernel_rfl) (by kernel_rfl) (fun _ _ _ h => h) (Or.inr ⟨by kernel_rfl, rfl⟩) (by first | assumption | trivial) ?_
          try simp only [Act.put, List.getElem_toArray, List.getElem_cons_succ, List.getElem_cons_zero, List.setIfInBounds_toArray, List.set_cons_zero, List.set_cons_succ]
          refine wpAnyH_take (i := 10) (v := undef) rfl (by kernel_rfl) (by kernel_rfl) (by kernel_rfl) (fun _ _ _ h => h) (Or.inr ⟨by kernel_rfl, rfl⟩) (by first | assumption | trivial) ?_
          try simp only [Act.put, List.getElem_toArray, List.getElem_cons_succ, List.getElem_cons_zero, List.setIfInBounds_toArray, List.set_cons_zero, List.set_cons_succ]
          refine wpAnyH_take (i := 11) (v := undef) rfl (by kernel_rfl) (by kernel_rfl) (by kernel_rfl) (fun _ _ _ h => h) (Or.inr ⟨by kernel_rfl, rfl⟩) (by first | assumption | trivial) ?_
          try simp only [Act.put, List.getElem_toArray, List.getElem_cons_succ, List.getElem_cons_zero, List.setIfInBounds_toArray, List.set_cons_zero, List.set_cons_succ]
          refine wpAnyH_take (i := 12) (v := undef) rfl (by kernel_rfl) (by kernel_rfl) (by kernel_rfl) (fun _ _ _ h => h) (Or.inr ⟨by kernel_rfl, rfl⟩) (by first | assumption | trivial) ?_
          try simp only [Act.put, List.getElem_toArray, List.getElem_cons_succ, List.getElem_cons_zero, List.setIfInBounds_toArray, List.set_cons_zero, List.set_cons_succ]
          refine wpAnyH_take (i := 13) (v := undef) rfl (by kernel_rfl) (by kernel_rfl) (by kernel_rfl) (fun _ _ _ h => h) (Or.inr ⟨by kernel_rfl, rfl⟩) (by first | assumption | trivial) ?_
          try simp only [Act.put, List.getElem_toArray, List.getElem_cons_succ, List.getElem_cons_zero, List.setIfInBounds_toArray, List.set_cons_zero, List.set_cons_succ]
          refine wpAnyH_take (i := 14) (v := undef) rfl (by kernel_rfl) (by kernel_rfl) (by kernel_rfl) (fun _ _ _ h => h) (Or.inr ⟨by kernel_rfl, rfl⟩) (by first | assumption | trivial) ?_
          try simp only [Act.put, List.getElem_toArray, List.getElem_cons_succ, List.getElem_cons_zero, List.setIfInBounds_toArray, List.set_cons_zero, List.set_cons_succ]
          refine wpAnyH_take (i := 15) (v := ?_) rfl (by kernel_rfl) (by kernel_rfl) (by kernel_rfl) (fun _ _ _ h => h) (Or.inl ⟨by kernel_rfl, ?_⟩) (by first | assumption | trivial) ?_
          rotate_left
          · intro w hSw
            try dsimp only at hSw
            first | (go_simp; done) | (go_simp; with_reducible rfl)
          try simp only [Act.put, List.getElem_toArray, List.getElem_cons_succ, List.getElem_cons_zero, List.setIfInBounds_toArray, List.set_cons_zero, List.set_cons_succ]
          refine wpAnyH_take (i := 16) (v := ?_) rfl (by kernel_rfl) (by kernel_rfl) (by kernel_rfl) (fun _ _ _ h => h) (Or.inl ⟨by kernel_rfl, ?_⟩) (by first | assumption | trivial) ?_
          rotate_left
          · intro w hSw
            try dsimp only at hSw
            first | (go_simp; done) | (go_simp; with_reducible rfl)
          try simp only [Act.put, List.getElem_toArray, List.getElem_cons_succ, List.getElem_cons_zero, List.setIfInBounds_toArray, List.set_cons_zero, List.set_cons_succ]
          refine wpAnyH_take (i := 17) (v := ?_) rfl (by kernel_rfl) (by kernel_rfl) (by kernel_rfl) (fun _ _ _ h => h) (Or.inl ⟨by kernel_rfl, ?_⟩) (by first | assumption | trivial) ?_
          rotate_left
          · intro w hSw
            try dsimp only at hSw
            first | (go_simp; done) | (go_simp; with_reducible rfl)
          try simp only [Act.put, List.getElem_toArray, List.getElem_cons_succ, List.getElem_cons_zero, List.setIfInBounds_toArray, List.set_cons_zero, List.set_cons_succ]
          refine wpAnyH_take (i := 18) (v := ?_) rfl (by kernel_rfl) (by kernel_rfl) (by kernel_rfl) (fun _ _ _ h => h) (Or.inl ⟨by kernel_rfl, ?_⟩) (by first | assumption | trivial) ?_
          rotate_left
          · intro w hSw
            try dsimp only at hSw
            first | (go_simp; done) | (go_simp; with_reducible rfl)
          try simp only [Act.put, List.getElem_toArray, List.getElem_cons_succ, List.getElem_cons_zero, List.setIfInBounds_toArray, List.set_cons_zero, List.set_cons_succ]
          refine wpAnyH_take (i := 19) (v := ?_) rfl (by kernel_rfl) (by kernel_rfl) (by kernel_rfl) (fun _ _ _ h => h) (Or.inl ⟨by kernel_rfl, ?_⟩) (by first | assumption | trivial) ?_
          rotate_left
          · intro w hSw
            try dsimp only at hSw
            first | (go_simp; done) | (go_simp; with_reducible rfl)
          try simp only [Act.put, List.getElem_toArray, List.getElem_cons_succ, List.getElem_cons_zero, List.setIfInBounds_toArray, List.set_cons_zero, List.set_cons_succ]
          refine wpAnyH_take (i := 20) (v := ?_) rfl (by kernel_rfl) (by kernel_rfl) (by kernel_rfl) (fun _ _ _ h => h) (Or.inl ⟨by kernel_rfl, ?_⟩) (by first | assumption | trivial) ?_
          rotate_left
          · intro w hSw
            try dsimp only at hSw
            first | (go_simp; done) | (go_simp; with_reducible rfl)
          try simp only [Act.put, List.getElem_toArray, List.getElem_cons_succ, List.getElem_cons_zero, List.setIfInBounds_toArray, List.set_cons_zero, List.set_cons_succ]
          refine wpAnyH_take (i := 21) (v := ?_) rfl (by kernel_rfl) (by kernel_rfl) (by kernel_rfl) (fun _ _ _ h => h) (Or.inl ⟨by kernel_rfl, ?_⟩) (by first | assumption | trivial) ?_
          rotate_left
          · intro w hSw
            try dsimp only at hSw
            first | (go_simp; done) | (go_simp; with_reducible rfl)
          try simp only [Act.put, List.getElem_toArray, List.getElem_cons_succ, List.getElem_cons_zero, List.setIfInBounds_toArray, List.set_cons_zero, List.set_cons_succ]
          refine wpAnyH_take (i := 22) (v := ?_) rfl (by kernel_rfl) (by kernel_rfl) (by kernel_rfl) (fun _ _ _ h => h) (Or.inl ⟨by kernel_rfl, ?_⟩) (by first | assumption | trivial) ?_
          rotate_left
          · intro w hSw
            try dsimp only at hSw
            have a0 := hSw
            clear hSw
            first | (go_simp; done) | (go_simp; with_reducible rfl)
          try simp only [Act.put, List.getElem_toArray, List.getElem_cons_succ, List.getElem_cons_zero, List.setIfInBounds_toArray, List.set_cons_zero, List.set_cons_succ]
          refine wpAnyH_take (i := 23) (v := ?_) rfl (by kernel_rfl) (by kernel_rfl) (by kernel_rfl) (fun _ _ _ h => h) (Or.inl ⟨by kernel_rfl, ?_⟩) (by first | assumption | trivial) ?_
          rotate_left
          · intro w hSw
            try dsimp only at hSw
            first | (go_simp; done) | (go_simp; with_reducible rfl)
          try simp only [Act.put, List.getElem_toArray, List.getElem_cons_succ, List.getElem_cons_zero, List.setIfInBounds_toArray, List.set_cons_zero, List.set_cons_succ]
          refine wpAnyH_take (i := 24) (v := ?_) rfl (by kernel_rfl) (by kernel_rfl) (by kernel_rfl) (fun _ _ _ h => h) (Or.inl ⟨by kernel_rfl, ?_⟩) (by first | assumption | trivial) ?_
          rotate_left
          · intro w hSw
            try dsimp only at hSw
            first | (go_simp; done) | (go_simp; with_reducible rfl)
          try simp only [Act.put, List.getElem_toArray, List.getElem_cons_succ, List.getElem_cons_zero, List.setIfInBounds_toArray, List.set_cons_zero, List.set_cons_succ]
          refine wpAnyH_take (i := 25) (v := ?_) rfl (by kernel_rfl) (by kernel_rfl) (by kernel_rfl) (fun _ _ _ h => h) (Or.inl ⟨by kernel_rfl, ?_⟩) (by first | assumption | trivial) ?_
          rotate_left
          · intro w hSw
            try dsimp only at hSw
            first | (go_simp; done) | (go_simp; with_reducible rfl)
          try simp only [Act.put, List.getElem_toArray, List.getElem_cons_succ, List.getElem_cons_zero, List.setIfInBounds_toArray, List.set_cons_zero, List.set_cons_succ]
          refine wpAnyH_done (by kernel_rfl) ?_ _
          have HS4 : Hid (PSt W g zs (.slice pv zs.length cv) w4.drew) := HS3.out.kept (Below.refl _ _).drew
          clear HS3 hS0 HZ2 HBZ
          go_wp2_with fail
          refine (net_len w4.drew HS4.out.net).mono ?_
          rintro y0 wt ⟨rfl, rfl⟩
          rw [List.length_map]
          go_wp2_with fail
          go_roundw
          case rel => exact ⟨t + 1, _, by omega, by omega, by go_num, HS4⟩
          case measure => simp [intOf]; omega
        have hb3 : (k == 3) = false := by simpa using hk3
        as_aux_lemma =>
        go_wp2_with fail
        refine (net_len w2 HS2.out.net).mono ?_
        rintro y0 wt ⟨rfl, rfl⟩
        rw [List.length_map]
        go_wp2_with fail
        go_roundw
        case rel => exact ⟨t + 1, _, by omega, by omega, by go_num, HS2⟩
        case measure => simp [intOf]; omega
    · have hltI : (n : Int) ≤ (t : Int) := by omega
      as_aux_lemma =>
      have HZ : Hid (zs.length ≤ 3060) := by show _ ≤ _; have := HN60.out; omega
      clear hzl ht
      go_wp2_with fail
      generalize wr = w5 at *
      go_loopw [169] (fun i wr => ∃ u : Nat, u ≤ zs.length ∧ i = .int .i64 u ∧ Hid (PSt W g zs (.slice pv zs.length cv) wr)) (fun i _ => zs.length - (intOf i).toNat)
      case atStart => exact ⟨0, by omega, rfl, HK⟩
      case round =>
        obtain ⟨u, hu, rfl, HS⟩ := hrel
        clear HK
        by_cases hlt2 : u < zs.length
        · have hltI2 : (u : Int) < (zs.length : Int) := by omega
          as_aux_lemma =>
          have HU : Hid (u < zs.length) := hlt2
          have hu61 : u + 1 ≤ 3061 := by have := HZ.out; omega
          go_wp2_with fail
          refine (net_look wr u HS.out.net (by rw [List.length_map]; exact HU.out)).mono ?_
          rintro y0 w3 ⟨z, rfl, hz1, hz2, hb3⟩
          obtain ⟨sm, om, rfl, hsm, _⟩ := HS.out.own.row.at_ u HU.out
          have HZ1 : Hid (z.pk = (zs[u]'HU.out).pk) := by show _ = _; rw [hz1]; simp
          have HYR : Hid ((zs[u]'HU.out).x.InP (fun b => b < W.heap.size) W) := HS.out.rows _ (List.getElem_mem _)
          have hb4 := hb3.trans ((oneB w3 (.cells #[.int .i64 z.f, .int .i64 z.t, .int .i64 z.n, .int .i64 z.h, .int .i64 z.x.m.k, .int .i64 z.x.m.s, .int .i64 z.x.m.n, .int .i64 z.x.m.b, .int .i64 z.x.m.c, .int .i64 z.x.m.r, .int .i64 z.x.m.y, .int .i64 z.x.m.a, .bool z.x.m.t, .slice z.x.pl z.x.m.ls.length z.x.cl, .slice z.x.pn z.x.m.ns.length z.x.cn] 38)).mono hb3.size)
          have HS4 := Lib.hid (HS.out.kept hb4)
          have HZ2 := Lib.hid (hz2.kept (oneB w3 (.cells #[.int .i64 z.f, .int .i64 z.t, .int .i64 z.n, .int .i64 z.h, .int .i64 z.x.m.k, .int .i64 z.x.m.s, .int .i64 z.x.m.n, .int .i64 z.x.m.b, .int .i64 z.x.m.c, .int .i64 z.x.m.r, .int .i64 z.x.m.y, .int .i64 z.x.m.a, .bool z.x.m.t, .slice z.x.pl z.x.m.ls.length z.x.cl, .slice z.x.pn z.x.m.ns.length z.x.cn] 38)))
          have HBZ := Lib.hid (Blk.new w3 #[.int .i64 z.f, .int .i64 z.t, .int .i64 z.n, .int .i64 z.h, .int .i64 z.x.m.k, .int .i64 z.x.m.s, .int .i64 z.x.m.n, .int .i64 z.x.m.b, .int .i64 z.x.m.c, .int .i64 z.x.m.r, .int .i64 z.x.m.y, .int .i64 z.x.m.a, .bool z.x.m.t, .slice z.x.pl z.x.m.ls.length z.x.cl, .slice z.x.pn z.x.m.ns.length z.x.cn] 38)
          have HSMB : Hid (sm < (w3.alloc (.cells #[.int .i64 z.f, .int .i64 z.t, .int .i64 z.n, .int .i64 z.h, .int .i64 z.x.m.k, .int .i64 z.x.m.s, .int .i64 z.x.m.n, .int .i64 z.x.m.b, .int .i64 z.x.m.c, .int .i64 z.x.m.r, .int .i64 z.x.m.y, .int .i64 z.x.m.a, .bool z.x.m.t, .slice z.x.pl z.x.m.ls.length z.x.cl, .slice z.x.pn z.x.m.ns.length z.x.cn] 38)).drew.heap.size) := by show _ < _; have := hb4.size; simp at this ⊢; omega
          clear hz1 hz2 hb3 hb4 hsm HS
          unfold PkX.v
          go_upto_region 41 with fail
          generalize w3.alloc (.cells #[.int .i64 z.f, .int .i64 z.t, .int .i64 z.n, .int .i64 z.h, .int .i64 z.x.m.k, .int .i64 z.x.m.s, .int .i64 z.x.m.n, .int .i64 z.x.m.b, .int .i64 z.x.m.c, .int .i64 z.x.m.r, .int .i64 z.x.m.y, .int .i64 z.x.m.a, .bool z.x.m.t, .slice z.x.pl z.x.m.ls.length z.x.cl, .slice z.x.pn z.x.m.ns.length z.x.cn] 38) = w4 at *
          generalize w3.heap.size = gz at *
          have hcm : ∀ q, q < 15 → w4.cell? ⟨sm, om + u * 15 + q, none⟩ = (PkX.cells (zs[u]'HU.out))[q]? := by
            obtain ⟨b', o', e1, _, h⟩ := HS4.out.own.row.at_ u HU.out
            cases e1
            exact fun q hq => h q hq
          generalize zs[u]'HU.out = y at *
          have HCM : Hid (∀ q, q < 15 → w4.drew.cell? ⟨sm, om + u * 15 + q, none⟩ = (PkX.cells y)[q]?) := hcm
          have HSM := Lib.hid (ksame_in z y w4.drew HZ1.out (HZ2.out.kept (Below.refl _ _).drew) ((HYR.out.kept HS4.out.low).kept (Below.refl _ _).drew))
          unfold PkX.v at HSM
          clear hcm
          refine wp_region_held_drew (S := fun w' => Blk w' gz #[.int .i64 z.f, .int .i64 z.t, .int .i64 z.n, .int .i64 z.h, .int .i64 z.x.m.k, .int .i64 z.x.m.s, .int .i64 z.x.m.n, .int .i64 z.x.m.b, .int .i64 z.x.m.c, .int .i64 z.x.m.r, .int .i64 z.x.m.y, .int .i64 z.x.m.a, .bool z.x.m.t, .slice z.x.pl z.x.m.ls.length z.x.cl, .slice z.x.pn z.x.m.ns.length z.x.cn] 38 ∧ ∀ q9, q9 < 15 → w'.cell? ⟨sm, om + u * 15 + q9, none⟩ = (PkX.cells y)[q9]?) (by kernel_rfl) ⟨HBZ.out.drew, HCM.out⟩ (fun hS0 => ?_)
          refine wpAnyH_take (i := 0) (v := ?_) rfl (by kernel_rfl) (by kernel_rfl) (by kernel_rfl) (fun _ _ _ h => h) (Or.inl ⟨by kernel_rfl, ?_⟩) (by first | assumption | trivial) ?_
          rotate_left
          · intro w hSw
            try dsimp only at hSw
            first | (go_simp; done) | (go_simp; with_reducible rfl)
          try simp only [Act.put, List.getElem_toArray, List.getElem_cons_succ, List.getElem_cons_zero, List.setIfInBounds_toArray, List.set_cons_zero, List.set_cons_succ]
          refine wpAnyH_take (i := 1) (v := ?_) rfl (by kernel_rfl) (by kernel_rfl) (by kernel_rfl) (fun _ _ _ h => h) (Or.inl ⟨by kernel_rfl, ?_⟩) (by first | assumption | trivial) ?_
          rotate_left
          · intro w hSw
            try dsimp only at hSw
            first | (go_simp; done) | (go_simp; with_reducible rfl)
          try simp only [Act.put, List.getElem_toArray, List.getElem_cons_succ, List.getElem_cons_zero, List.setIfInBounds_toArray, List.set_cons_zero, List.set_cons_succ]
          refine wpAnyH_take (i := 2) (v := ?_) rfl (by kernel_rfl) (by kernel_rfl) (by kernel_rfl) (fun _ _ _ h => h) (Or.inl ⟨by kernel_rfl, ?_⟩) (by first | assumption | trivial) ?_
          rotate_left
          · intro w hSw
            try dsimp only at hSw
            first | (go_simp; done) | (go_simp; with_reducible rfl)
          try simp only [Act.put, List.getElem_toArray, List.getElem_cons_succ, List.getElem_cons_zero, List.setIfInBounds_toArray, List.set_cons_zero, List.set_cons_succ]
          refine wpAnyH_take (i := 3) (v := ?_) rfl (by kernel_rfl) (by kernel_rfl) (by kernel_rfl) (fun _ _ _ h => h) (Or.inl ⟨by kernel_rfl, ?_⟩) (by first | assumption | trivial) ?_
          rotate_left
          · intro w hSw
            try dsimp only at hSw
            have a0 : w.cell? ⟨gz, 0, none⟩ = some (.int .i64 z.f) := hSw.1.cell 0
            have a1 : w.cell? ⟨gz, 1, none⟩ = some (.int .i64 z.t) := hSw.1.cell 1
            have a2 : w.cell? ⟨gz, 2, none⟩ = some (.int .i64 z.n) := hSw.1.cell 2
            have a3 : w.cell? ⟨gz, 3, none⟩ = some (.int .i64 z.h) := hSw.1.cell 3
            have a4 : w.cell? ⟨gz, 4, none⟩ = some (.int .i64 z.x.m.k) := hSw.1.cell 4
            have a5 : w.cell? ⟨gz, 5, none⟩ = some (.int .i64 z.x.m.s) := hSw.1.cell 5
            have a6 : w.cell? ⟨gz, 6, none⟩ = some (.int .i64 z.x.m.n) := hSw.1.cell 6
            have a7 : w.cell? ⟨gz, 7, none⟩ = some (.int .i64 z.x.m.b) := hSw.1.cell 7
            have a8 : w.cell? ⟨gz, 8, none⟩ = some (.int .i64 z.x.m.c) := hSw.1.cell 8
            have a9 : w.cell? ⟨gz, 9, none⟩ = some (.int .i64 z.x.m.r) := hSw.1.cell 9
            have a10 : w.cell? ⟨gz, 10, none⟩ = some (.int .i64 z.x.m.y) := hSw.1.cell 10
            have a11 : w.cell? ⟨gz, 11, none⟩ = some (.int .i64 z.x.m.a) := hSw.1.cell 11
            have a12 : w.cell? ⟨gz, 12, none⟩ = some (.bool z.x.m.t) := hSw.1.cell 12
            have a13 : w.cell? ⟨gz, 13, none⟩ = some (.slice z.x.pl z.x.m.ls.length z.x.cl) := hSw.1.cell 13
            have a14 : w.cell? ⟨gz, 14, none⟩ = some (.slice z.x.pn z.x.m.ns.length z.x.cn) := hSw.1.cell 14
            clear hSw
            first | (go_simp; done) | (go_simp; with_reducible rfl)
          try simp only [Act.put, List.getElem_toArray, List.getElem_cons_succ, List.getElem_cons_zero, List.setIfInBounds_toArray, List.set_cons_zero, List.set_cons_succ]
          refine wpAnyH_take (i := 4) (v := ?_) rfl (by kernel_rfl) (by kernel_rfl) (by kernel_rfl) (fun _ _ _ h => h) (Or.inl ⟨by kernel_rfl, ?_⟩) (by first | assumption | trivial) ?_
          rotate_left
          · intro w hSw
            try dsimp only at hSw
            first | (go_simp; done) | (go_simp; with_reducible rfl)
          try simp only [Act.put, List.getElem_toArray, List.getElem_cons_succ, List.getElem_cons_zero, List.setIfInBounds_toArray, List.set_cons_zero, List.set_cons_succ]
          refine wpAnyH_take (i := 5) (v := ?_) rfl (by kernel_rfl) (by kernel_rfl) (by kernel_rfl) (fun _ _ _ h => h) (Or.inl ⟨by kernel_rfl, ?_⟩) (by first | assumption | trivial) ?_
          rotate_left
          · intro w hSw
            try dsimp only at hSw
            first | (go_simp; done) | (go_simp; with_reducible rfl)
          try simp only [Act.put, List.getElem_toArray, List.getElem_cons_succ, List.getElem_cons_zero, List.setIfInBounds_toArray, List.set_cons_zero, List.set_cons_succ]
          refine wpAnyH_take (i := 6) (v := ?_) rfl (by kernel_rfl) (by kernel_rfl) (by kernel_rfl) (fun _ _ _ h => h) (Or.inl ⟨by kernel_rfl, ?_⟩) (by first | assumption | trivial) ?_
          rotate_left
          · intro w hSw
            try dsimp only at hSw
            first | (go_simp; done) | (go_simp; with_reducible rfl)
          try simp only [Act.put, List.getElem_toArray, List.getElem_cons_succ, List.getElem_cons_zero, List.setIfInBounds_toArray, List.set_cons_zero, List.set_cons_succ]
          refine wpAnyH_take (i := 7) (v := ?_) rfl (by kernel_rfl) (by kernel_rfl) (by kernel_rfl) (fun _ _ _ h => h) (Or.inl ⟨by kernel_rfl, ?_⟩) (by first | assumption | trivial) ?_
          rotate_left
          · intro w hSw
            try dsimp only at hSw
            have a0 : w.cell? ⟨sm, om + u * 15, none⟩ = some (.int .i64 y.f) := hSw.2 0 (by decide)
            have a1 : w.cell? ⟨sm, om + u * 15 + 1, none⟩ = some (.int .i64 y.t) := hSw.2 1 (by decide)
            have a2 : w.cell? ⟨sm, om + u * 15 + 2, none⟩ = some (.int .i64 y.n) := hSw.2 2 (by decide)
            have a3 : w.cell? ⟨sm, om + u * 15 + 3, none⟩ = some (.int .i64 y.h) := hSw.2 3 (by decide)
            have a4 : w.cell? ⟨sm, om + u * 15 + 4, none⟩ = some (.int .i64 y.x.m.k) := hSw.2 4 (by decide)
            have a5 : w.cell? ⟨sm, om + u * 15 + 5, none⟩ = some (.int .i64 y.x.m.s) := hSw.2 5 (by decide)
            have a6 : w.cell? ⟨sm, om + u * 15 + 6, none⟩ = some (.int .i64 y.x.m.n) := hSw.2 6 (by decide)
            have a7 : w.cell? ⟨sm, om + u * 15 + 7, none⟩ = some (.int .i64 y.x.m.b) := hSw.2 7 (by decide)
            have a8 : w.cell? ⟨sm, om + u * 15 + 8, none⟩ = some (.int .i64 y.x.m.c) := hSw.2 8 (by decide)
            have a9 : w.cell? ⟨sm, om + u * 15 + 9, none⟩ = some (.int .i64 y.x.m.r) := hSw.2 9 (by decide)
            have a10 : w.cell? ⟨sm, om + u * 15 + 10, none⟩ = some (.int .i64 y.x.m.y) := hSw.2 10 (by decide)
            have a11 : w.cell? ⟨sm, om + u * 15 + 11, none⟩ = some (.int .i64 y.x.m.a) := hSw.2 11 (by decide)
            have a12 : w.cell? ⟨sm, om + u * 15 + 12, none⟩ = some (.bool y.x.m.t) := hSw.2 12 (by decide)
            have a13 : w.cell? ⟨sm, om + u * 15 + 13, none⟩ = some (.slice y.x.pl y.x.m.ls.length y.x.cl) := hSw.2 13 (by decide)
            have a14 : w.cell? ⟨sm, om + u * 15 + 14, none⟩ = some (.slice y.x.pn y.x.m.ns.length y.x.cn) := hSw.2 14 (by decide)
            clear hSw
            first | (go_simp; done) | (go_simp; with_reducible rfl)
          try simp only [Act.put, List.getElem_toArray, List.getElem_cons_succ, List.getElem_cons_zero, List.setIfInBounds_toArray, List.set_cons_zero, List.set_cons_succ]
          refine wpAnyH_ready (rs := [8]) (by kernel_rfl) (by simp) ?_
          refine AllReadyH.cons rfl (fun K hK => ?_) AllReadyH.nil
          go_simp
          go_at_call 11
          refine (HSM.out).mono ?_
          rintro y0 w7 ⟨rfl, hbs⟩
          have hS2 : Blk w7 gz #[.int .i64 z.f, .int .i64 z.t, .int .i64 z.n, .int .i64 z.h, .int .i64 z.x.m.k, .int .i64 z.x.m.s, .int .i64 z.x.m.n, .int .i64 z.x.m.b, .int .i64 z.x.m.c, .int .i64 z.x.m.r, .int .i64 z.x.m.y, .int .i64 z.x.m.a, .bool z.x.m.t, .slice z.x.pl z.x.m.ls.length z.x.cl, .slice z.x.pn z.x.m.ns.length z.x.cn] 38 ∧ ∀ q9, q9 < 15 → w7.cell? ⟨sm, om + u * 15 + q9, none⟩ = (PkX.cells y)[q9]? := ⟨(HBZ.out.drew).below hbs HBZ.out.lt, fun q hq => (hbs.cell (p := ⟨sm, _, none⟩) HSMB.out).trans (HCM.out q hq)⟩
          have HNX := Lib.hid ((HS4.out.kept (Below.refl _ _).drew).kept hbs)
          clear hbs HSM
          try go_wp2_with fail
          refine hK.out _ _ hS2 (fun hS => ?_)
          clear hK K
          try simp only [Act.put, List.getElem_toArray, List.getElem_cons_succ, List.getElem_cons_zero, List.setIfInBounds_toArray, List.set_cons_zero, List.set_cons_succ]
          refine wpAnyH_take (i := 9) (v := ?_) rfl (by kernel_rfl) (by kernel_rfl) (by kernel_rfl) (fun _ _ _ h => h) (Or.inl ⟨by kernel_rfl, ?_⟩) (by first | assumption | trivial) ?_
          rotate_left
          · intro w hSw
            try dsimp only at hSw
            first | (go_simp; done) | (go_simp; with_reducible rfl)
          try simp only [Act.put, List.getElem_toArray, List.getElem_cons_succ, List.getElem_cons_zero, List.setIfInBounds_toArray, List.set_cons_zero, List.set_cons_succ]
          refine wpAnyH_take (i := 10) (v := ?_) rfl (by kernel_rfl) (by kernel_rfl) (by kernel_rfl) (fun _ _ _ h => h) (Or.inl ⟨by kernel_rfl, ?_⟩) (by first | assumption | trivial) ?_
          rotate_left
          · intro w hSw
            try dsimp only at hSw
            first | (go_simp; done) | (go_simp; with_reducible rfl)
          try simp only [Act.put, List.getElem_toArray, List.getElem_cons_succ, List.getElem_cons_zero, List.setIfInBounds_toArray, List.set_cons_zero, List.set_cons_succ]
          refine wpAnyH_done (by kernel_rfl) ?_ _
          clear hS hS0 HBZ HZ2 HS4 HCM HSMB HZ1 HYR
          go_wp2_with fail
          go_roundw
          case rel => exact ⟨u + 1, by omega, by go_num, HNX⟩
          case measure => simp [intOf]; omega
        · have hltI2 : (zs.length : Int) ≤ (u : Int) := by omega
          go_wp2_with fail
          go_ret
          exact ⟨rfl, HS.out.low⟩
end Go.Proofs.Ytfdehnfcoojljaa
