/- The methods of a net that only look: has, Len, Look by contract. -/
import Derived.Test.YtfdehnfcoojljaaNetOwn
namespace Go.Proofs.Ytfdehnfcoojljaa
open Go.RowKit
set_option linter.unusedSimpArgs false
def hasB (n : Nat) (i : Int) : Bool := decide (0 ≤ i) && decide (i < (n : Int))
theorem hasB_nat (n i : Nat) (h : i < n) : hasB n i = true := by simp [hasB]; omega
theorem hasB_no (n : Nat) (i : Int) (h : ¬ (0 ≤ i ∧ i < (n : Int))) : hasB n i = false := by
  cases hb : hasB n i with
  | false => rfl
  | true => simp [hasB] at hb; exact absurd hb h
set_option maxHeartbeats 4000000 in
set_option maxRecDepth 100000 in
theorem has_any {P : Nat → Prop} {g : Nat} {ks : List Pk} (w : World) (i : Int) (h : Fly P w g ks) : Calls Try.prog 18 #[.pointer (some ⟨g, 0, none⟩), .int .i64 i] w fun e w' => e = .returned (.bool (hasB ks.length i)) ∧ w' = w := by
  obtain ⟨p, c, aa, h⟩ := h
  have c0 : w.cell? ⟨g, 0, none⟩ = some (.slice p ks.length c) := h.blk.cell 0
  clear h
  by_cases hi : 0 ≤ i ∧ i < (ks.length : Int)
  · have hb : hasB ks.length i = true := by obtain ⟨h1, h2⟩ := hi; simp [hasB, h1, h2]
    rw [hb]
    clear hb
    obtain ⟨h1, h2⟩ := hi
    generalize ks.length = n at *
    go_enter Try.func18, Try.ntmps18
    go_wp2_with fail
    go_ret
    exact ⟨rfl, rfl⟩
  · rw [hasB_no _ _ hi]
    generalize ks.length = n at *
    by_cases h1 : 0 ≤ i
    · have h2 : ¬ i < (n : Int) := fun h => hi ⟨h1, h⟩
      clear hi
      go_enter Try.func18, Try.ntmps18
      go_wp2_with fail
      go_ret
      exact ⟨rfl, rfl⟩
    · clear hi
      go_enter Try.func18, Try.ntmps18
      go_wp2_with fail
      go_ret
      exact ⟨rfl, rfl⟩
set_option maxHeartbeats 4000000 in
set_option maxRecDepth 100000 in
theorem len_any {P : Nat → Prop} {g : Nat} {ks : List Pk} (w : World) (h : Fly P w g ks) : Calls Try.prog 14 #[.pointer (some ⟨g, 0, none⟩)] w fun e w' => e = .returned (.int .i64 ks.length) ∧ w' = w := by
  obtain ⟨p, c, aa, h⟩ := h
  have c0 : w.cell? ⟨g, 0, none⟩ = some (.slice p ks.length c) := h.blk.cell 0
  clear h
  generalize ks.length = n at *
  go_enter Try.func14, Try.ntmps14
  go_wp2_with fail
  go_ret
  exact ⟨rfl, rfl⟩
set_option maxHeartbeats 4000000 in
set_option maxRecDepth 100000 in
theorem look_no {P : Nat → Prop} {g : Nat} {ks : List Pk} (w : World) (i : Int) (h : Fly P w g ks) (hi : ¬ (0 ≤ i ∧ i < (ks.length : Int))) : Calls Try.prog 13 #[.pointer (some ⟨g, 0, none⟩), .int .i64 i] w fun e w' => e = .returned (.tuple #[zeroVK, .int .i64 4]) ∧ Below w.heap.size w w'  := by
  have HH := Lib.hid (has_any (w.alloc (.cells #[.int .i64 0, .int .i64 0, .int .i64 0, .int .i64 0, .int .i64 0, .int .i64 0, .int .i64 0, .int .i64 0, .int .i64 0, .int .i64 0, .int .i64 0, .int .i64 0, .bool false, .slice none 0 0, .slice none 0 0] 38)) i (h.kept (oneB w _)))
  rw [hasB_no _ _ hi] at HH
  clear h hi
  go_enter Try.func13, Try.ntmps13
  go_wp2_with fail
  refine HH.out.mono ?_
  rintro y w1 ⟨rfl, rfl⟩
  clear HH
  go_wp2_with fail
  have hf := Blk.new w #[.int .i64 0, .int .i64 0, .int .i64 0, .int .i64 0, .int .i64 0, .int .i64 0, .int .i64 0, .int .i64 0, .int .i64 0, .int .i64 0, .int .i64 0, .int .i64 0, .bool false, .slice none 0 0, .slice none 0 0] 38
  refine bodyPost_ret (v := .tuple #[.agg #[.int .i64 0, .int .i64 0, .int .i64 0, .int .i64 0, .int .i64 0, .int .i64 0, .int .i64 0, .int .i64 0, .int .i64 0, .int .i64 0, .int .i64 0, .int .i64 0, .bool false, .slice none 0 0, .slice none 0 0], .int .i64 4]) (by simp [results, Try.results13, go_sem, hf.cell 0, hf.cell 1, hf.cell 2, hf.cell 3, hf.cell 4, hf.cell 5, hf.cell 6, hf.cell 7, hf.cell 8, hf.cell 9, hf.cell 10, hf.cell 11, hf.cell 12, hf.cell 13, hf.cell 14]) rfl ⟨rfl, oneB w _⟩
theorem InP.mono' {P Q : Nat → Prop} {w : World} {x : MsgX} (h : x.InP P w) (hq : ∀ b, P b → Q b) : x.InP Q w := h.mono (fun b _ hb => hq b hb)
set_option maxHeartbeats 4000000 in
set_option maxRecDepth 100000 in
theorem look_own {P : Nat → Prop} {g : Nat} {ks : List Pk} (w : World) (i : Nat) (h : Fly P w g ks) (hi : i < ks.length) : Calls Try.prog 13 #[.pointer (some ⟨g, 0, none⟩), .int .i64 i] w fun e w' => ∃ z : PkX, e = .returned (.tuple #[z.v, .int .i64 0]) ∧ z.pk = ks[i] ∧ (z.x.InP (fun b => w.heap.size ≤ b ∧ b < w'.heap.size) w' ∧ OwnT encN w' w.heap.size 48 z.x.vl z.x.m.ls) ∧ Below w.heap.size w w'  := by
  have HH := Lib.hid (has_any (w.alloc (.cells #[.int .i64 0, .int .i64 0, .int .i64 0, .int .i64 0, .int .i64 0, .int .i64 0, .int .i64 0, .int .i64 0, .int .i64 0, .int .i64 0, .int .i64 0, .int .i64 0, .bool false, .slice none 0 0, .slice none 0 0] 38)) i (h.kept (oneB w _)))
  rw [hasB_nat _ _ hi] at HH
  obtain ⟨p, c, aa, h⟩ := h.kept (oneB w (.cells #[.int .i64 0, .int .i64 0, .int .i64 0, .int .i64 0, .int .i64 0, .int .i64 0, .int .i64 0, .int .i64 0, .int .i64 0, .int .i64 0, .int .i64 0, .int .i64 0, .bool false, .slice none 0 0, .slice none 0 0] 38))
  have c0 : (w.alloc (.cells #[.int .i64 0, .int .i64 0, .int .i64 0, .int .i64 0, .int .i64 0, .int .i64 0, .int .i64 0, .int .i64 0, .int .i64 0, .int .i64 0, .int .i64 0, .int .i64 0, .bool false, .slice none 0 0, .slice none 0 0] 38)).cell? ⟨g, 0, none⟩ = some (.slice p ks.length c) := h.blk.cell 0
  have hia : i < aa.length := by rw [h.len]; exact hi
  obtain ⟨s, o, rfl, hsl, hcs⟩ := h.own.row.at_ i hia
  obtain ⟨y, hy1, _, hy3, hy4⟩ := h.at_ i hia hi
  rw [← hy4]
  clear hy4
  generalize aa[i] = a at *
  have d0 : (w.alloc (.cells #[.int .i64 0, .int .i64 0, .int .i64 0, .int .i64 0, .int .i64 0, .int .i64 0, .int .i64 0, .int .i64 0, .int .i64 0, .int .i64 0, .int .i64 0, .int .i64 0, .bool false, .slice none 0 0, .slice none 0 0] 38)).cell? ⟨s, o + i, none⟩ = some (.pointer (some ⟨a, 0, none⟩)) := by
    have := hcs 0 (by decide)
    rwa [show encA.k = 1 from rfl, Nat.mul_one, Nat.add_zero] at this
  have c10 : (w.alloc (.cells #[.int .i64 0, .int .i64 0, .int .i64 0, .int .i64 0, .int .i64 0, .int .i64 0, .int .i64 0, .int .i64 0, .int .i64 0, .int .i64 0, .int .i64 0, .int .i64 0, .bool false, .slice none 0 0, .slice none 0 0] 38)).cell? ⟨a, 0, none⟩ = some (.int .i64 y.f) := hy1.cell 0
  have c11 : (w.alloc (.cells #[.int .i64 0, .int .i64 0, .int .i64 0, .int .i64 0, .int .i64 0, .int .i64 0, .int .i64 0, .int .i64 0, .int .i64 0, .int .i64 0, .int .i64 0, .int .i64 0, .bool false, .slice none 0 0, .slice none 0 0] 38)).cell? ⟨a, 1, none⟩ = some (.int .i64 y.t) := hy1.cell 1
  have c12 : (w.alloc (.cells #[.int .i64 0, .int .i64 0, .int .i64 0, .int .i64 0, .int .i64 0, .int .i64 0, .int .i64 0, .int .i64 0, .int .i64 0, .int .i64 0, .int .i64 0, .int .i64 0, .bool false, .slice none 0 0, .slice none 0 0] 38)).cell? ⟨a, 2, none⟩ = some (.int .i64 y.n) := hy1.cell 2
  have c13 : (w.alloc (.cells #[.int .i64 0, .int .i64 0, .int .i64 0, .int .i64 0, .int .i64 0, .int .i64 0, .int .i64 0, .int .i64 0, .int .i64 0, .int .i64 0, .int .i64 0, .int .i64 0, .bool false, .slice none 0 0, .slice none 0 0] 38)).cell? ⟨a, 3, none⟩ = some (.int .i64 y.h) := hy1.cell 3
  have c14 : (w.alloc (.cells #[.int .i64 0, .int .i64 0, .int .i64 0, .int .i64 0, .int .i64 0, .int .i64 0, .int .i64 0, .int .i64 0, .int .i64 0, .int .i64 0, .int .i64 0, .int .i64 0, .bool false, .slice none 0 0, .slice none 0 0] 38)).cell? ⟨a, 4, none⟩ = some (.int .i64 y.x.m.k) := hy1.cell 4
  have c15 : (w.alloc (.cells #[.int .i64 0, .int .i64 0, .int .i64 0, .int .i64 0, .int .i64 0, .int .i64 0, .int .i64 0, .int .i64 0, .int .i64 0, .int .i64 0, .int .i64 0, .int .i64 0, .bool false, .slice none 0 0, .slice none 0 0] 38)).cell? ⟨a, 5, none⟩ = some (.int .i64 y.x.m.s) := hy1.cell 5
  have c16 : (w.alloc (.cells #[.int .i64 0, .int .i64 0, .int .i64 0, .int .i64 0, .int .i64 0, .int .i64 0, .int .i64 0, .int .i64 0, .int .i64 0, .int .i64 0, .int .i64 0, .int .i64 0, .bool false, .slice none 0 0, .slice none 0 0] 38)).cell? ⟨a, 6, none⟩ = some (.int .i64 y.x.m.n) := hy1.cell 6
  have c17 : (w.alloc (.cells #[.int .i64 0, .int .i64 0, .int .i64 0, .int .i64 0, .int .i64 0, .int .i64 0, .int .i64 0, .int .i64 0, .int .i64 0, .int .i64 0, .int .i64 0, .int .i64 0, .bool false, .slice none 0 0, .slice none 0 0] 38)).cell? ⟨a, 7, none⟩ = some (.int .i64 y.x.m.b) := hy1.cell 7
  have c18 : (w.alloc (.cells #[.int .i64 0, .int .i64 0, .int .i64 0, .int .i64 0, .int .i64 0, .int .i64 0, .int .i64 0, .int .i64 0, .int .i64 0, .int .i64 0, .int .i64 0, .int .i64 0, .bool false, .slice none 0 0, .slice none 0 0] 38)).cell? ⟨a, 8, none⟩ = some (.int .i64 y.x.m.c) := hy1.cell 8
  have c19 : (w.alloc (.cells #[.int .i64 0, .int .i64 0, .int .i64 0, .int .i64 0, .int .i64 0, .int .i64 0, .int .i64 0, .int .i64 0, .int .i64 0, .int .i64 0, .int .i64 0, .int .i64 0, .bool false, .slice none 0 0, .slice none 0 0] 38)).cell? ⟨a, 9, none⟩ = some (.int .i64 y.x.m.r) := hy1.cell 9
  have c110 : (w.alloc (.cells #[.int .i64 0, .int .i64 0, .int .i64 0, .int .i64 0, .int .i64 0, .int .i64 0, .int .i64 0, .int .i64 0, .int .i64 0, .int .i64 0, .int .i64 0, .int .i64 0, .bool false, .slice none 0 0, .slice none 0 0] 38)).cell? ⟨a, 10, none⟩ = some (.int .i64 y.x.m.y) := hy1.cell 10
  have c111 : (w.alloc (.cells #[.int .i64 0, .int .i64 0, .int .i64 0, .int .i64 0, .int .i64 0, .int .i64 0, .int .i64 0, .int .i64 0, .int .i64 0, .int .i64 0, .int .i64 0, .int .i64 0, .bool false, .slice none 0 0, .slice none 0 0] 38)).cell? ⟨a, 11, none⟩ = some (.int .i64 y.x.m.a) := hy1.cell 11
  have c112 : (w.alloc (.cells #[.int .i64 0, .int .i64 0, .int .i64 0, .int .i64 0, .int .i64 0, .int .i64 0, .int .i64 0, .int .i64 0, .int .i64 0, .int .i64 0, .int .i64 0, .int .i64 0, .bool false, .slice none 0 0, .slice none 0 0] 38)).cell? ⟨a, 12, none⟩ = some (.bool y.x.m.t) := hy1.cell 12
  have c113 : (w.alloc (.cells #[.int .i64 0, .int .i64 0, .int .i64 0, .int .i64 0, .int .i64 0, .int .i64 0, .int .i64 0, .int .i64 0, .int .i64 0, .int .i64 0, .int .i64 0, .int .i64 0, .bool false, .slice none 0 0, .slice none 0 0] 38)).cell? ⟨a, 13, none⟩ = some (.slice y.x.pl y.x.m.ls.length y.x.cl) := hy1.cell 13
  have c114 : (w.alloc (.cells #[.int .i64 0, .int .i64 0, .int .i64 0, .int .i64 0, .int .i64 0, .int .i64 0, .int .i64 0, .int .i64 0, .int .i64 0, .int .i64 0, .int .i64 0, .int .i64 0, .bool false, .slice none 0 0, .slice none 0 0] 38)).cell? ⟨a, 14, none⟩ = some (.slice y.x.pn y.x.m.ns.length y.x.cn) := hy1.cell 14
  have HOW := Lib.hid (nown_own y _ (w.alloc (.cells #[.int .i64 0, .int .i64 0, .int .i64 0, .int .i64 0, .int .i64 0, .int .i64 0, .int .i64 0, .int .i64 0, .int .i64 0, .int .i64 0, .int .i64 0, .int .i64 0, .bool false, .slice none 0 0, .slice none 0 0] 38)) hy3)
  have HF := Lib.hid (Blk.new w #[.int .i64 0, .int .i64 0, .int .i64 0, .int .i64 0, .int .i64 0, .int .i64 0, .int .i64 0, .int .i64 0, .int .i64 0, .int .i64 0, .int .i64 0, .int .i64 0, .bool false, .slice none 0 0, .slice none 0 0] 38)
  have hin : (i : Int) < (ks.length : Int) := by omega
  clear h hcs hy1 hy3 hsl hia
  generalize ks.length = n at *
  unfold PkX.v at HOW
  go_enter Try.func13, Try.ntmps13
  go_wp2_with fail
  refine HH.out.mono ?_
  rintro y0 w1 ⟨rfl, rfl⟩
  clear HH
  go_wp2_with fail
  refine HOW.out.mono ?_
  rintro y0 w2 ⟨z, rfl, hz1, ⟨hz2, hz3⟩, hb2⟩
  have HZ1 := Lib.hid hz1
  have HZ3 := Lib.hid hz3
  have HZ2 := Lib.hid hz2
  have HB2 := Lib.hid ((oneB w (.cells #[.int .i64 0, .int .i64 0, .int .i64 0, .int .i64 0, .int .i64 0, .int .i64 0, .int .i64 0, .int .i64 0, .int .i64 0, .int .i64 0, .int .i64 0, .int .i64 0, .bool false, .slice none 0 0, .slice none 0 0] 38)).trans (hb2.mono (by simp)))
  have HF2 := Lib.hid (HF.out.below hb2 HF.out.lt)
  clear hz1 hz2 hz3 hb2 HOW c0 d0 c10 c11 c12 c13 c14 c15 c16 c17 c18 c19 c110 c111 c112 c113 c114
  go_wp2_with (with_reducible refine stop_storeT 38 (.tmp 4) (.tmp 20) rfl ?_)
  have HTH : Hid (w2.there w.heap.size 0 15) := HF2.out.thereAt
  have HF3 : Hid (Blk (w2.setCells w.heap.size 0 (#[.int .i64 z.f, .int .i64 z.t, .int .i64 z.n, .int .i64 z.h, .int .i64 z.x.m.k, .int .i64 z.x.m.s, .int .i64 z.x.m.n, .int .i64 z.x.m.b, .int .i64 z.x.m.c, .int .i64 z.x.m.r, .int .i64 z.x.m.y, .int .i64 z.x.m.a, .bool z.x.m.t, .slice z.x.pl z.x.m.ls.length z.x.cl, .slice z.x.pn z.x.m.ns.length z.x.cn] : Array Value).toList) w.heap.size #[.int .i64 z.f, .int .i64 z.t, .int .i64 z.n, .int .i64 z.h, .int .i64 z.x.m.k, .int .i64 z.x.m.s, .int .i64 z.x.m.n, .int .i64 z.x.m.b, .int .i64 z.x.m.c, .int .i64 z.x.m.r, .int .i64 z.x.m.y, .int .i64 z.x.m.a, .bool z.x.m.t, .slice z.x.pl z.x.m.ls.length z.x.cl, .slice z.x.pn z.x.m.ns.length z.x.cn] 38 ∧ Chg w.heap.size w2 (w2.setCells w.heap.size 0 (#[.int .i64 z.f, .int .i64 z.t, .int .i64 z.n, .int .i64 z.h, .int .i64 z.x.m.k, .int .i64 z.x.m.s, .int .i64 z.x.m.n, .int .i64 z.x.m.b, .int .i64 z.x.m.c, .int .i64 z.x.m.r, .int .i64 z.x.m.y, .int .i64 z.x.m.a, .bool z.x.m.t, .slice z.x.pl z.x.m.ls.length z.x.cl, .slice z.x.pn z.x.m.ns.length z.x.cn] : Array Value).toList)) := ⟨blk_put_all HF2.out _ rfl, chg_putL _ _ _ _ _ (Chg.refl _ w2)⟩
  refine wpList_store_mid rfl 38 (.tmp 4) (.tmp 20) rfl w.heap.size 0 #[.int .i64 z.f, .int .i64 z.t, .int .i64 z.n, .int .i64 z.h, .int .i64 z.x.m.k, .int .i64 z.x.m.s, .int .i64 z.x.m.n, .int .i64 z.x.m.b, .int .i64 z.x.m.c, .int .i64 z.x.m.r, .int .i64 z.x.m.y, .int .i64 z.x.m.a, .bool z.x.m.t, .slice z.x.pl z.x.m.ls.length z.x.cl, .slice z.x.pn z.x.m.ns.length z.x.cn] rfl rfl HTH.out (infoK15 rfl) (all_oneCell_toArray (one15 z)) ?_
  have HLT := Lib.hid HF2.out.lt
  generalize World.setCells w2 w.heap.size _ _ = w3 at *
  clear HTH HF2 HF
  go_wp2_with fail
  have hf := HF3.out.1
  refine bodyPost_ret (v := .tuple #[.agg #[.int .i64 z.f, .int .i64 z.t, .int .i64 z.n, .int .i64 z.h, .int .i64 z.x.m.k, .int .i64 z.x.m.s, .int .i64 z.x.m.n, .int .i64 z.x.m.b, .int .i64 z.x.m.c, .int .i64 z.x.m.r, .int .i64 z.x.m.y, .int .i64 z.x.m.a, .bool z.x.m.t, .slice z.x.pl z.x.m.ls.length z.x.cl, .slice z.x.pn z.x.m.ns.length z.x.cn], .int .i64 0]) (by simp [results, Try.results13, go_sem, hf.cell 0, hf.cell 1, hf.cell 2, hf.cell 3, hf.cell 4, hf.cell 5, hf.cell 6, hf.cell 7, hf.cell 8, hf.cell 9, hf.cell 10, hf.cell 11, hf.cell 12, hf.cell 13, hf.cell 14]) rfl ?_
  have hsz := HF3.out.2.size
  have hlt2 := HLT.out
  refine ⟨z, rfl, HZ1.out, ⟨?_, ?_⟩, HB2.out.trans (HF3.out.2.below (Nat.le_refl _) (by omega))⟩
  · refine InP.mono' (HZ2.out.keepP (KeepP.of_chg HF3.out.2 (fun hb => by have h1 := hb.1; simp at h1; omega))) (fun b hb => ?_)
    have h1 := hb.1
    simp at h1
    exact ⟨by omega, by omega⟩
  · refine (HZ3.out.stay (fun b hb => HF3.out.2.2 b (HZ3.out.lt b hb) (by have h1 := HZ3.out.block_ge b hb; simp at h1; omega))).less (by simp)
theorem look_ok {P : Nat → Prop} {g : Nat} {ks : List Pk} (w : World) (i : Nat) (h : Fly P w g ks) (hi : i < ks.length) : Calls Try.prog 13 #[.pointer (some ⟨g, 0, none⟩), .int .i64 i] w fun e w' => ∃ z : PkX, e = .returned (.tuple #[z.v, .int .i64 0]) ∧ z.pk = ks[i] ∧ z.x.InP (fun b => w.heap.size ≤ b ∧ b < w'.heap.size) w' ∧ Below w.heap.size w w' := by
  refine (look_own w i h hi).mono ?_
  rintro e w' ⟨z, rfl, h1, ⟨h2, _⟩, h3⟩
  exact ⟨z, rfl, h1, h2, h3⟩
end Go.Proofs.Ytfdehnfcoojljaa
