/- Send by contract. -/
import Derived.Test.YtfdehnfcoojljaaNetFns
import Derived.Test.YtfdehnfcoojljaaNetPush
import Derived.Test.YtfdehnfcoojljaaNetTwice
import Derived.Deep.CutRange
import Derived.Deep.CutBlock
namespace Go.Proofs.Ytfdehnfcoojljaa
open Go.RowKit
set_option linter.unusedSimpArgs false
theorem PkRow.mono {P Q : Nat → Prop} {w : World} {v : Value} {ks : List Pk} (h : PkRow P w v ks) (hq : ∀ b, b < w.heap.size → P b → Q b) : PkRow Q w v ks := by
  obtain ⟨ys, h1, h2, h3, h4⟩ := h
  exact ⟨ys, h1, fun b o n c e hn => hq b (by have h2 := h1; rw [e] at h2; exact h2.lt_ hn) (h2 b o n c e hn), fun y hy => (h3 y hy).mono hq, h4⟩
/-- What is sent so far. -/
structure SendL (P : Nat → Prop) (w : World) (g : Nat) (ks ls : List Pk) (k : Nat) (wr : World) : Prop where
  fly : ∃ p c aa, FlyX (fun b => P b ∨ w.heap.size ≤ b) wr g (ks ++ ls.take k) p (ks.length + k) c aa
  chg : ChgP (fun b => P b ∨ w.heap.size ≤ b) w wr
set_option maxHeartbeats 4000000 in
set_option maxRecDepth 100000 in
theorem send_any {P Q : Nat → Prop} {g : Nat} {ks ls : List Pk} (w : World) (v : Value) (h : Fly P w g ks) (hr : PkRow Q w v ls) (hQ : ∀ b, Q b → ¬ P b) : Calls Try.prog 9 #[.pointer (some ⟨g, 0, none⟩), v] w fun e w' => e = .returned (.int .i64 (min ls.length (8192 - ks.length) : Nat)) ∧ Fly (Grow P w w') w' g (ks ++ ls.take (8192 - ks.length)) ∧ ChgP P w w'  := by
  obtain ⟨ys, hy1, hy2, hy3, hy4⟩ := hr.mono (Q := fun b => Q b ∧ b < w.heap.size) (fun b hb hq => ⟨hq, hb⟩)
  obtain ⟨pv, cv, rfl⟩ := hy1.shape
  have hyl : ys.length = ls.length := by rw [← hy4, List.length_map]
  have hcap := hy1.cap
  have HY1 := Lib.hid hy1
  have HY2 := Lib.hid hy2
  have HY3 := Lib.hid hy3
  have HY4 := Lib.hid hy4
  have HQ := Lib.hid hQ
  obtain ⟨p, c, aa, hx⟩ := h
  have hmax := hx.max
  have c0 : w.cell? ⟨g, 0, none⟩ = some (.slice p ks.length c) := hx.blk.cell 0
  have HST0 : Hid (SendL P w g ks ls 0 w) := ⟨⟨p, c, aa, by rw [List.take_zero, List.append_nil]; exact hx.mono (fun b _ hp => .inl hp)⟩, ChgP.refl _ _⟩
  clear hx hy1 hy2 hy3 hy4 hQ
  obtain ⟨m, hm⟩ : ∃ m : Nat, m = min ls.length (8192 - ks.length) := ⟨_, rfl⟩
  rw [← hm]
  have HTK : Hid (ls.take (8192 - ks.length) = ls.take m) := by
    show _ = _
    rw [hm, List.take_eq_take_iff]
    omega
  rw [HTK.out]
  generalize hk : ks.length = K at *
  have HKL := Lib.hid hk
  clear hk
  rw [hyl]
  rw [hyl] at hcap
  generalize hn : ls.length = n at *
  have HN := Lib.hid hn
  have HYL := Lib.hid hyl
  clear hn hyl
  have hmin : (if (8192 : Int) - (K : Int) < (n : Int) then (8192 : Int) - (K : Int) else (n : Int)) = (m : Int) := by split <;> omega
  have HMK : Hid (m + K ≤ 8192 ∧ m ≤ n) := ⟨by omega, by omega⟩
  have hmc : (m : Int) ≤ (cv : Int) := by omega
  have hK8 : (K : Int) ≤ 8192 := by omega
  have hm8 : (m : Int) ≤ 8192 := by omega
  clear hm hcap hmax
  go_enter Try.func9, Try.ntmps9
  go_wp2_with fail
  clear hmin c0
  go_loopw [20] (fun i wr => ∃ k : Nat, k ≤ m ∧ i = .int .i64 k ∧ Hid (SendL P w g ks ls k wr)) (fun i _ => m - (intOf i).toNat)
  case atStart => exact ⟨0, by omega, rfl, HST0⟩
  case round =>
    obtain ⟨k, hk, rfl, HR⟩ := hrel
    clear HST0
    by_cases hlt : k < m
    · have hltI : (k : Int) < (m : Int) := by omega
      have hky : k < ys.length := by have h1 := HYL.out; have h2 := HMK.out; omega
      have hkp : KeepP (fun b => Q b ∧ b < w.heap.size) w wr := HR.out.chg.keep (fun b hb hp => hp.elim (HQ.out b hb.1) (fun h => by omega))
      obtain ⟨b, o, rfl, hbl, hcs⟩ := (HY1.out.keepP HY2.out hkp).at_ k hky
      have HIP := Lib.hid ((HY3.out ys[k] (List.getElem_mem hky)).keepP hkp)
      have HPK : Hid (ls.take (k + 1) = ls.take k ++ [ys[k].pk]) := by
        show _ = _
        rw [← HY4.out, List.take_succ_eq_append_getElem (by rw [List.length_map]; exact hky)]
        simp
      generalize ys[k] = y at *
      have c0 : wr.cell? ⟨b, o + k * 15, none⟩ = some (.int .i64 y.f) := hcs 0 (by decide)
      have c1 : wr.cell? ⟨b, o + k * 15 + 1, none⟩ = some (.int .i64 y.t) := hcs 1 (by decide)
      have c2 : wr.cell? ⟨b, o + k * 15 + 2, none⟩ = some (.int .i64 y.n) := hcs 2 (by decide)
      have c3 : wr.cell? ⟨b, o + k * 15 + 3, none⟩ = some (.int .i64 y.h) := hcs 3 (by decide)
      have c4 : wr.cell? ⟨b, o + k * 15 + 4, none⟩ = some (.int .i64 y.x.m.k) := hcs 4 (by decide)
      have c5 : wr.cell? ⟨b, o + k * 15 + 5, none⟩ = some (.int .i64 y.x.m.s) := hcs 5 (by decide)
      have c6 : wr.cell? ⟨b, o + k * 15 + 6, none⟩ = some (.int .i64 y.x.m.n) := hcs 6 (by decide)
      have c7 : wr.cell? ⟨b, o + k * 15 + 7, none⟩ = some (.int .i64 y.x.m.b) := hcs 7 (by decide)
      have c8 : wr.cell? ⟨b, o + k * 15 + 8, none⟩ = some (.int .i64 y.x.m.c) := hcs 8 (by decide)
      have c9 : wr.cell? ⟨b, o + k * 15 + 9, none⟩ = some (.int .i64 y.x.m.r) := hcs 9 (by decide)
      have c10 : wr.cell? ⟨b, o + k * 15 + 10, none⟩ = some (.int .i64 y.x.m.y) := hcs 10 (by decide)
      have c11 : wr.cell? ⟨b, o + k * 15 + 11, none⟩ = some (.int .i64 y.x.m.a) := hcs 11 (by decide)
      have c12 : wr.cell? ⟨b, o + k * 15 + 12, none⟩ = some (.bool y.x.m.t) := hcs 12 (by decide)
      have c13 : wr.cell? ⟨b, o + k * 15 + 13, none⟩ = some (.slice y.x.pl y.x.m.ls.length y.x.cl) := hcs 13 (by decide)
      have c14 : wr.cell? ⟨b, o + k * 15 + 14, none⟩ = some (.slice y.x.pn y.x.m.ns.length y.x.cn) := hcs 14 (by decide)
      clear hcs hbl hkp hky
      have HOW := Lib.hid (nown_any y _ (wr.alloc (.cells #[.int .i64 y.f, .int .i64 y.t, .int .i64 y.n, .int .i64 y.h, .int .i64 y.x.m.k, .int .i64 y.x.m.s, .int .i64 y.x.m.n, .int .i64 y.x.m.b, .int .i64 y.x.m.c, .int .i64 y.x.m.r, .int .i64 y.x.m.y, .int .i64 y.x.m.a, .bool y.x.m.t, .slice y.x.pl y.x.m.ls.length y.x.cl, .slice y.x.pn y.x.m.ns.length y.x.cn] 38)) (HIP.out.kept (oneB wr _)))
      have HBY := Lib.hid (Blk.new wr #[.int .i64 y.f, .int .i64 y.t, .int .i64 y.n, .int .i64 y.h, .int .i64 y.x.m.k, .int .i64 y.x.m.s, .int .i64 y.x.m.n, .int .i64 y.x.m.b, .int .i64 y.x.m.c, .int .i64 y.x.m.r, .int .i64 y.x.m.y, .int .i64 y.x.m.a, .bool y.x.m.t, .slice y.x.pl y.x.m.ls.length y.x.cl, .slice y.x.pn y.x.m.ns.length y.x.cn] 38)
      unfold PkX.v at HOW
      go_wp2_with fail
      refine HOW.out.mono ?_
      rintro y0 w2 ⟨z, rfl, hz1, hz2, hb2⟩
      have HZ1 := Lib.hid hz1
      have HZ2 := Lib.hid hz2
      have HB2 := Lib.hid ((oneB wr (.cells #[.int .i64 y.f, .int .i64 y.t, .int .i64 y.n, .int .i64 y.h, .int .i64 y.x.m.k, .int .i64 y.x.m.s, .int .i64 y.x.m.n, .int .i64 y.x.m.b, .int .i64 y.x.m.c, .int .i64 y.x.m.r, .int .i64 y.x.m.y, .int .i64 y.x.m.a, .bool y.x.m.t, .slice y.x.pl y.x.m.ls.length y.x.cl, .slice y.x.pn y.x.m.ns.length y.x.cn] 38)).trans (hb2.mono (by simp)))
      have HG2 := Lib.hid (HBY.out.below hb2 HBY.out.lt)
      have HLT : Hid (wr.heap.size < w2.heap.size) := HG2.out.lt
      clear hz1 hz2 hb2 HOW HBY c0 c1 c2 c3 c4 c5 c6 c7 c8 c9 c10 c11 c12 c13 c14
      go_wp2_with (with_reducible refine stop_storeT 38 (.tmp 6) (.tmp 25) rfl ?_)
      have HTH : Hid (w2.there wr.heap.size 0 15) := HG2.out.thereAt
      have HST : Hid (Blk (w2.setCells wr.heap.size 0 (#[.int .i64 z.f, .int .i64 z.t, .int .i64 z.n, .int .i64 z.h, .int .i64 z.x.m.k, .int .i64 z.x.m.s, .int .i64 z.x.m.n, .int .i64 z.x.m.b, .int .i64 z.x.m.c, .int .i64 z.x.m.r, .int .i64 z.x.m.y, .int .i64 z.x.m.a, .bool z.x.m.t, .slice z.x.pl z.x.m.ls.length z.x.cl, .slice z.x.pn z.x.m.ns.length z.x.cn] : Array Value).toList) wr.heap.size #[.int .i64 z.f, .int .i64 z.t, .int .i64 z.n, .int .i64 z.h, .int .i64 z.x.m.k, .int .i64 z.x.m.s, .int .i64 z.x.m.n, .int .i64 z.x.m.b, .int .i64 z.x.m.c, .int .i64 z.x.m.r, .int .i64 z.x.m.y, .int .i64 z.x.m.a, .bool z.x.m.t, .slice z.x.pl z.x.m.ls.length z.x.cl, .slice z.x.pn z.x.m.ns.length z.x.cn] 38 ∧ Chg wr.heap.size w2 (w2.setCells wr.heap.size 0 (#[.int .i64 z.f, .int .i64 z.t, .int .i64 z.n, .int .i64 z.h, .int .i64 z.x.m.k, .int .i64 z.x.m.s, .int .i64 z.x.m.n, .int .i64 z.x.m.b, .int .i64 z.x.m.c, .int .i64 z.x.m.r, .int .i64 z.x.m.y, .int .i64 z.x.m.a, .bool z.x.m.t, .slice z.x.pl z.x.m.ls.length z.x.cl, .slice z.x.pn z.x.m.ns.length z.x.cn] : Array Value).toList)) := ⟨blk_put_all HG2.out _ rfl, chg_putL _ _ _ _ _ (Chg.refl _ w2)⟩
      refine wpList_store_mid rfl 38 (.tmp 6) (.tmp 25) rfl wr.heap.size 0 #[.int .i64 z.f, .int .i64 z.t, .int .i64 z.n, .int .i64 z.h, .int .i64 z.x.m.k, .int .i64 z.x.m.s, .int .i64 z.x.m.n, .int .i64 z.x.m.b, .int .i64 z.x.m.c, .int .i64 z.x.m.r, .int .i64 z.x.m.y, .int .i64 z.x.m.a, .bool z.x.m.t, .slice z.x.pl z.x.m.ls.length z.x.cl, .slice z.x.pn z.x.m.ns.length z.x.cn] rfl rfl HTH.out (infoK15 rfl) (all_oneCell_toArray (one15 z)) ?_
      generalize World.setCells w2 wr.heap.size _ _ = w3 at *
      clear HTH
      obtain ⟨⟨p, c, aa, hx⟩, hchg⟩ := HR.out
      rw [HKL.out] at hx
      have hgl := hx.blk.lt
      have hol := hx.own.lt
      have h23 := HST.out.2.size
      have h3 := HLT.out
      have hws := hchg.size
      have hx3 : FlyX (fun b => P b ∨ w.heap.size ≤ b) w3 g (ks ++ ls.take k) p (K + k) c aa := ((((hx.mono (Q := fun b => (P b ∨ w.heap.size ≤ b) ∧ b < wr.heap.size) (fun b hb hp => ⟨hp, hb⟩)).keepP (KeepP.of_below HB2.out)).keepP (KeepP.of_chg HST.out.2 (fun hb => absurd hb.2 (Nat.lt_irrefl _))))).mono (fun b _ hb => hb.1)
      have hz3 : z.x.InP (InF (fun b => P b ∨ w.heap.size ≤ b) g (.slice p (K + k) c)) w3 := InP.mono' (HZ2.out.keepP (KeepP.of_chg HST.out.2 (fun hb => by have := hb.1; simp at this; omega))) (fun b hb => ⟨.inr (by have := hb.1; simp at this; omega), by have := hb.1; simp at this; omega, fun e => by have := hol b e; have := hb.1; simp at this; omega⟩)
      have hpk3 : PkAt (InF (fun b => P b ∨ w.heap.size ≤ b) g (.slice p (K + k) c)) w3 wr.heap.size y.pk := ⟨z, HST.out.1, ⟨.inr (by omega), by omega, fun e => by have := hol _ e; omega⟩, hz3, HZ1.out⟩
      have HX3 := Lib.hid (hx3.keepP (KeepP.of_below (oneB w3 (.cells #[.pointer (some ⟨wr.heap.size, 0, none⟩)] 55))))
      have HPK3 := Lib.hid (hpk3.keepP (KeepP.of_below (oneB w3 (.cells #[.pointer (some ⟨wr.heap.size, 0, none⟩)] 55))))
      have HROW : Hid (TRow encA (w3.alloc (.cells #[.pointer (some ⟨wr.heap.size, 0, none⟩)] 55)) (.slice (some ⟨w3.heap.size, 0, none⟩) 1 1) [wr.heap.size]) := TRow.one_ encA wr.heap.size (Blk.new w3 #[.pointer (some ⟨wr.heap.size, 0, none⟩)] 55) rfl (Nat.le_refl 1)
      have HCH : Hid (ChgP (fun b => P b ∨ w.heap.size ≤ b) w (w3.alloc (.cells #[.pointer (some ⟨wr.heap.size, 0, none⟩)] 55))) := ((hchg.trans (ChgP.of_below HB2.out)).trans (ChgP.of_chg HST.out.2 (.inr (by omega)))).trans (ChgP.of_below (oneB w3 _))
      have HWS := Lib.hid hws
      have HW3 : Hid (w.heap.size ≤ (w3.alloc (.cells #[.pointer (some ⟨wr.heap.size, 0, none⟩)] 55)).heap.size) := by show _ ≤ _; simp; omega
      have HAL : Hid (aa.length = K + k) := by show _ = _; obtain ⟨p', c', e⟩ := hx.own.form; exact (Value.slice.inj e).2.1.symm
      have g0 : w3.cell? ⟨g, 0, none⟩ = some (.slice p (K + k) c) := hx3.blk.cell 0
      clear hx hchg hgl hol h23 h3 hws hx3 hz3 hpk3 HST HZ1 HZ2 HB2 HG2 HR HIP
      go_wp2_with (at_builtin; with_reducible refine stop_appendT (.tmp 30) (.tmp 31) 24 rfl ?_)
      clear g0
      refine wpList_append_tg rfl (.tmp 30) (.tmp 31) 24 rfl 55 (.pointer none) 8 0 eltA rfl (.slice p (K + k) c) (.slice (some ⟨w3.heap.size, 0, none⟩) 1 1) aa [wr.heap.size] rfl rfl HX3.out.own HROW.out (by have h1 := HAL.out; have h2 := HMK.out; simp; omega) (by have h1 := HAL.out; have h2 := HMK.out; simp; omega) (Nat.zero_le _) (aa ++ [wr.heap.size]) (K + k + 1) rfl (by rw [List.length_append, HAL.out]; rfl) ?_
      intro p2 c2 w4 ho hg hor hb
      have hgb := HX3.out.blk.grown hg (fun e => (HX3.out.sown g e.symm).2 rfl)
      have hg0 : w4.cell? ⟨g, 0, none⟩ = some (.slice p (K + k) c) := hgb.cell 0
      have hg1 := hgb.free 0
      have HNX : Hid (SendL P w g ks ls (k + 1) (w4.setCell ⟨g, 0, none⟩ (.slice p2 (K + k + 1) c2))) := by
        refine ⟨⟨p2, c2, aa ++ [wr.heap.size], ?_⟩, (HCH.out.trans ⟨hb, fun b hb' hp => hg.block b hb' (fun e => hp (HX3.out.sown b e.symm).1)⟩).trans (ChgP.of_chg ((Chg.refl g w4).set 0 _) HX3.out.inP)⟩
        have hpush := HX3.out.push ho hg hor HPK3.out (.inr HW3.out) (by have h2 := HMK.out; omega)
        rw [HPK.out, ← List.append_assoc, HKL.out, ← Nat.add_assoc]
        exact hpush
      clear ho hg hor hb hgb
      go_wp2_with fail
      go_roundw
      case rel => exact ⟨k + 1, by omega, by go_num, HNX⟩
      case measure => simp [intOf]; omega
    · have hltI : (m : Int) ≤ (k : Int) := by omega
      have hkm : k = m := by omega
      subst hkm
      go_wp2_with fail
      go_ret
      obtain ⟨⟨p, c, aa, hx⟩, hchg⟩ := HR.out
      have hmx := hx.max
      refine ⟨rfl, Fly.grow ⟨p, c, aa, ?_⟩, hchg.imp (fun b hb hp => hp.resolve_right (by omega))⟩
      rw [List.length_append, List.length_take, HN.out, Nat.min_eq_left HMK.out.2]
      exact hx
end Go.Proofs.Ytfdehnfcoojljaa
