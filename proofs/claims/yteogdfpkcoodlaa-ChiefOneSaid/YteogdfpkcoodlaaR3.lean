/- slices.ContainsFunc over what was said and over cycles by contract; the closure of start. (Chief).offer by contract. (Chief).vote by contract. Grow and Concat of slices of contra/chief.Run, by contract. (Chief).start by contract. -/
import Derived.Test.YteogdfpkcoodlaaR1
import Derived.Test.YteogdfpkcoodlaaR2
import Derived.Lib.AppendZeros
namespace Go.Proofs.Yteogdfpkcoodlaa
open Go.RowKit
set_option linter.unusedSimpArgs false
set_option linter.unusedSimpArgs false in
set_option maxHeartbeats 4000000 in
set_option maxRecDepth 100000 in
theorem idx_offer (w : World) (v : Value) (xs : List HdX) (p : HdX → Bool) (base : Nat) (hr : TRow encH w v xs) (hin : ∀ x ∈ xs, ∃ Q, x.In Q w) (hP : ∀ W, Below base w W → ∀ x : HdX, (∃ Q, x.In Q W) → Calls Try.prog 47 #[x.v] W fun e w' => e = .returned (.bool (p x)) ∧ Below W.heap.size W w') (hb : base ≤ w.heap.size) (hn : xs.length ≤ 2000) :
  Calls Try.prog 63 #[v, (.func (.func 47) #[] #[])] w fun e w' => ∃ r : Int, e = .returned (.int .i64 r) ∧ decide (0 ≤ r) = xs.any p ∧ Below w.heap.size w w' := by
 obtain ⟨pv, c, rfl⟩ := hr.shape
 have HR := Lib.hid hr
 have HPP := Lib.hid hP
 have HBB := Lib.hid hb
 have HIN := Lib.hid hin
 clear hr hP hb hin
 generalize hl : xs.length = n at *
 have HL := Lib.hid hl
 clear hl
 go_enter Try.func63, Try.ntmps63
 go_wp2_with fail
 go_loopw [5, 8] (fun _ i wr => ∃ k : Nat, k ≤ n ∧ i = .int .i64 k ∧ Hid (Below w.heap.size w wr ∧ ∀ j (hj : j < xs.length), j < k → p xs[j] = false)) (fun _ i _ => n - (intOf i).toNat)
 case atStart => exact ⟨0, by omega, rfl, ⟨Below.refl _ _, fun j hj h => by omega⟩⟩
 case round =>
  obtain ⟨k, hk, rfl, HB⟩ := hrel
  by_cases hlt : k < n
  ·have hkl : k < xs.length := by rw [HL.out]; exact hlt
   have hltI : (k : Int) < (n : Int) := by omega
   obtain ⟨b, o, rfl, hbl, hcs⟩ := (HR.out.kept HB.out.1).at_ k hkl
   obtain ⟨x, hx⟩ : ∃ x, xs[k] = x := ⟨_, rfl⟩
   have HX := Lib.hid hx
   rw [hx] at hcs
   have c0 : wr.cell? ⟨b, o + k * 3, none⟩ = some (.bool x.h.o) := hcs 0 (by decide)
   have c1 : wr.cell? ⟨b, o + k * 3 + 1, none⟩ = some (.bool x.h.t) := hcs 1 (by decide)
   have c2 : wr.cell? ⟨b, o + k * 3 + 2, none⟩ = some (.slice x.p x.h.ls.length x.c) := hcs 2 (by decide)
   have HD := Lib.hid (HPP.out wr (HB.out.1.mono HBB.out) x (by have h1 := HIN.out x (by rw [← hx]; exact List.getElem_mem hkl); obtain ⟨Q, h2⟩ := h1; exact ⟨Q, h2.kept HB.out.1⟩))
   clear hx
   unfold HdX.v at HD
   obtain ⟨px, hpx⟩ : ∃ px, p x = px := ⟨_, rfl⟩
   rw [hpx] at HD
   have HPX := Lib.hid hpx
   clear hcs hpx
   cases px
   ·go_wp2_with fail
    refine HD.out.mono ?_
    rintro y w1 ⟨rfl, hb⟩
    have HN : Hid (Below w.heap.size w w1 ∧ ∀ j (hj : j < xs.length), j < k + 1 → p xs[j] = false) := ⟨HB.out.1.trans (hb.mono HB.out.1.size), fun j hj h => by
     by_cases e : j = k
     ·subst e; rw [HX.out]; exact HPX.out
     ·exact HB.out.2 j hj (by omega)⟩
    clear hb c0 c1 c2 HD
    go_wp2_with fail
    go_roundw
    case rel => exact ⟨k + 1, by omega, by go_num, HN⟩
    case measure => simp [intOf]; omega
   ·go_wp2_with fail
    refine HD.out.mono ?_
    rintro y w1 ⟨rfl, hb⟩
    have HN := Lib.hid (HB.out.1.trans (hb.mono HB.out.1.size))
    clear hb c0 c1 c2 HD
    go_wp2_with fail
    go_ret
    refine ⟨_, rfl, ?_, HN.out⟩
    rw [show xs.any p = true from List.any_eq_true.2 ⟨xs[k], List.getElem_mem hkl, by rw [HX.out]; exact HPX.out⟩]
    exact decide_eq_true (by omega)
  ·have hle : (n : Int) ≤ (k : Int) := by omega
   go_wp2_with fail
   go_ret
   refine ⟨_, rfl, ?_, HB.out.1⟩
   rw [show xs.any p = false from List.any_eq_false.2 (fun x hx => by
    obtain ⟨j, hj, rfl⟩ := List.mem_iff_getElem.1 hx
    rw [HB.out.2 j hj (by have := HL.out; omega)]
    simp)]
   rfl
set_option linter.unusedSimpArgs false in
set_option maxHeartbeats 4000000 in
set_option maxRecDepth 100000 in
theorem has_offer (w : World) (v : Value) (xs : List HdX) (p : HdX → Bool) (base : Nat) (hr : TRow encH w v xs) (hin : ∀ x ∈ xs, ∃ Q, x.In Q w) (hP : ∀ W, Below base w W → ∀ x : HdX, (∃ Q, x.In Q W) → Calls Try.prog 47 #[x.v] W fun e w' => e = .returned (.bool (p x)) ∧ Below W.heap.size W w') (hb : base ≤ w.heap.size) (hn : xs.length ≤ 2000) :
  Calls Try.prog 46 #[v, (.func (.func 47) #[] #[])] w fun e w' => e = .returned (.bool (xs.any p)) ∧ Below w.heap.size w w' := by
 have HG := Lib.hid (idx_offer w v xs p base hr hin hP hb hn)
 clear hr hin hP hb hn
 go_enter Try.func46, Try.ntmps46
 go_wp2_with fail
 refine HG.out.mono ?_
 rintro y9 w1 ⟨r, rfl, hr, hb⟩
 have HR := Lib.hid hr
 have HB := Lib.hid hb
 clear hr hb HG
 go_wp2_with fail
 go_ret
 exact ⟨by rw [HR.out]; rfl, HB.out⟩
set_option linter.unusedSimpArgs false in
set_option maxHeartbeats 4000000 in
set_option maxRecDepth 100000 in
theorem idx_vote (w : World) (v : Value) (xs : List HdX) (p : HdX → Bool) (base : Nat) (hr : TRow encH w v xs) (hin : ∀ x ∈ xs, ∃ Q, x.In Q w) (hP : ∀ W, Below base w W → ∀ x : HdX, (∃ Q, x.In Q W) → Calls Try.prog 51 #[x.v] W fun e w' => e = .returned (.bool (p x)) ∧ Below W.heap.size W w') (hb : base ≤ w.heap.size) (hn : xs.length ≤ 2000) :
  Calls Try.prog 63 #[v, (.func (.func 51) #[] #[])] w fun e w' => ∃ r : Int, e = .returned (.int .i64 r) ∧ decide (0 ≤ r) = xs.any p ∧ Below w.heap.size w w' := by
 obtain ⟨pv, c, rfl⟩ := hr.shape
 have HR := Lib.hid hr
 have HPP := Lib.hid hP
 have HBB := Lib.hid hb
 have HIN := Lib.hid hin
 clear hr hP hb hin
 generalize hl : xs.length = n at *
 have HL := Lib.hid hl
 clear hl
 go_enter Try.func63, Try.ntmps63
 go_wp2_with fail
 go_loopw [5, 8] (fun _ i wr => ∃ k : Nat, k ≤ n ∧ i = .int .i64 k ∧ Hid (Below w.heap.size w wr ∧ ∀ j (hj : j < xs.length), j < k → p xs[j] = false)) (fun _ i _ => n - (intOf i).toNat)
 case atStart => exact ⟨0, by omega, rfl, ⟨Below.refl _ _, fun j hj h => by omega⟩⟩
 case round =>
  obtain ⟨k, hk, rfl, HB⟩ := hrel
  by_cases hlt : k < n
  ·have hkl : k < xs.length := by rw [HL.out]; exact hlt
   have hltI : (k : Int) < (n : Int) := by omega
   obtain ⟨b, o, rfl, hbl, hcs⟩ := (HR.out.kept HB.out.1).at_ k hkl
   obtain ⟨x, hx⟩ : ∃ x, xs[k] = x := ⟨_, rfl⟩
   have HX := Lib.hid hx
   rw [hx] at hcs
   have c0 : wr.cell? ⟨b, o + k * 3, none⟩ = some (.bool x.h.o) := hcs 0 (by decide)
   have c1 : wr.cell? ⟨b, o + k * 3 + 1, none⟩ = some (.bool x.h.t) := hcs 1 (by decide)
   have c2 : wr.cell? ⟨b, o + k * 3 + 2, none⟩ = some (.slice x.p x.h.ls.length x.c) := hcs 2 (by decide)
   have HD := Lib.hid (HPP.out wr (HB.out.1.mono HBB.out) x (by have h1 := HIN.out x (by rw [← hx]; exact List.getElem_mem hkl); obtain ⟨Q, h2⟩ := h1; exact ⟨Q, h2.kept HB.out.1⟩))
   clear hx
   unfold HdX.v at HD
   obtain ⟨px, hpx⟩ : ∃ px, p x = px := ⟨_, rfl⟩
   rw [hpx] at HD
   have HPX := Lib.hid hpx
   clear hcs hpx
   cases px
   ·go_wp2_with fail
    refine HD.out.mono ?_
    rintro y w1 ⟨rfl, hb⟩
    have HN : Hid (Below w.heap.size w w1 ∧ ∀ j (hj : j < xs.length), j < k + 1 → p xs[j] = false) := ⟨HB.out.1.trans (hb.mono HB.out.1.size), fun j hj h => by
     by_cases e : j = k
     ·subst e; rw [HX.out]; exact HPX.out
     ·exact HB.out.2 j hj (by omega)⟩
    clear hb c0 c1 c2 HD
    go_wp2_with fail
    go_roundw
    case rel => exact ⟨k + 1, by omega, by go_num, HN⟩
    case measure => simp [intOf]; omega
   ·go_wp2_with fail
    refine HD.out.mono ?_
    rintro y w1 ⟨rfl, hb⟩
    have HN := Lib.hid (HB.out.1.trans (hb.mono HB.out.1.size))
    clear hb c0 c1 c2 HD
    go_wp2_with fail
    go_ret
    refine ⟨_, rfl, ?_, HN.out⟩
    rw [show xs.any p = true from List.any_eq_true.2 ⟨xs[k], List.getElem_mem hkl, by rw [HX.out]; exact HPX.out⟩]
    exact decide_eq_true (by omega)
  ·have hle : (n : Int) ≤ (k : Int) := by omega
   go_wp2_with fail
   go_ret
   refine ⟨_, rfl, ?_, HB.out.1⟩
   rw [show xs.any p = false from List.any_eq_false.2 (fun x hx => by
    obtain ⟨j, hj, rfl⟩ := List.mem_iff_getElem.1 hx
    rw [HB.out.2 j hj (by have := HL.out; omega)]
    simp)]
   rfl
set_option linter.unusedSimpArgs false in
set_option maxHeartbeats 4000000 in
set_option maxRecDepth 100000 in
theorem has_vote (w : World) (v : Value) (xs : List HdX) (p : HdX → Bool) (base : Nat) (hr : TRow encH w v xs) (hin : ∀ x ∈ xs, ∃ Q, x.In Q w) (hP : ∀ W, Below base w W → ∀ x : HdX, (∃ Q, x.In Q W) → Calls Try.prog 51 #[x.v] W fun e w' => e = .returned (.bool (p x)) ∧ Below W.heap.size W w') (hb : base ≤ w.heap.size) (hn : xs.length ≤ 2000) :
  Calls Try.prog 46 #[v, (.func (.func 51) #[] #[])] w fun e w' => e = .returned (.bool (xs.any p)) ∧ Below w.heap.size w w' := by
 have HG := Lib.hid (idx_vote w v xs p base hr hin hP hb hn)
 clear hr hin hP hb hn
 go_enter Try.func46, Try.ntmps46
 go_wp2_with fail
 refine HG.out.mono ?_
 rintro y9 w1 ⟨r, rfl, hr, hb⟩
 have HR := Lib.hid hr
 have HB := Lib.hid hb
 clear hr hb HG
 go_wp2_with fail
 go_ret
 exact ⟨by rw [HR.out]; rfl, HB.out⟩
set_option linter.unusedSimpArgs false in
set_option maxHeartbeats 4000000 in
set_option maxRecDepth 100000 in
theorem idx_start (w : World) (v : Value) (xs : List RunX) (p : RunX → Bool) (base : Nat) (bf : Nat) (hr : TRow encR w v xs) (hin : ∀ x ∈ xs, ∃ Q, x.In Q w) (hP : ∀ W, Below base w W → ∀ x : RunX, (∃ Q, x.In Q W) → Calls Try.prog 53 #[x.v, .pointer (some ⟨bf, 0, none⟩)] W fun e w' => e = .returned (.bool (p x)) ∧ Below W.heap.size W w') (hb : base ≤ w.heap.size) (hn : xs.length ≤ 2000) :
  Calls Try.prog 67 #[v, (.func (.func 53) #[] #[.pointer (some ⟨bf, 0, none⟩)])] w fun e w' => ∃ r : Int, e = .returned (.int .i64 r) ∧ decide (0 ≤ r) = xs.any p ∧ Below w.heap.size w w' := by
 obtain ⟨pv, c, rfl⟩ := hr.shape
 have HR := Lib.hid hr
 have HPP := Lib.hid hP
 have HBB := Lib.hid hb
 have HIN := Lib.hid hin
 clear hr hP hb hin
 generalize hl : xs.length = n at *
 have HL := Lib.hid hl
 clear hl
 go_enter Try.func67, Try.ntmps67
 go_wp2_with fail
 go_loopw [5, 8] (fun _ i wr => ∃ k : Nat, k ≤ n ∧ i = .int .i64 k ∧ Hid (Below w.heap.size w wr ∧ ∀ j (hj : j < xs.length), j < k → p xs[j] = false)) (fun _ i _ => n - (intOf i).toNat)
 case atStart => exact ⟨0, by omega, rfl, ⟨Below.refl _ _, fun j hj h => by omega⟩⟩
 case round =>
  obtain ⟨k, hk, rfl, HB⟩ := hrel
  by_cases hlt : k < n
  ·have hkl : k < xs.length := by rw [HL.out]; exact hlt
   have hltI : (k : Int) < (n : Int) := by omega
   obtain ⟨b, o, rfl, hbl, hcs⟩ := (HR.out.kept HB.out.1).at_ k hkl
   obtain ⟨x, hx⟩ : ∃ x, xs[k] = x := ⟨_, rfl⟩
   have HX := Lib.hid hx
   rw [hx] at hcs
   have c0 : wr.cell? ⟨b, o + k * 5, none⟩ = some (.int .i64 x.r.cu) := hcs 0 (by decide)
   have c1 : wr.cell? ⟨b, o + k * 5 + 1, none⟩ = some (.int .i64 x.r.st) := hcs 1 (by decide)
   have c2 : wr.cell? ⟨b, o + k * 5 + 2, none⟩ = some (.slice x.pf x.r.hs.length x.cf) := hcs 2 (by decide)
   have c3 : wr.cell? ⟨b, o + k * 5 + 3, none⟩ = some (.slice x.pl x.r.ls.length x.cl) := hcs 3 (by decide)
   have c4 : wr.cell? ⟨b, o + k * 5 + 4, none⟩ = some (.slice x.pn x.r.ns.length x.cn) := hcs 4 (by decide)
   have HD := Lib.hid (HPP.out wr (HB.out.1.mono HBB.out) x (by have h1 := HIN.out x (by rw [← hx]; exact List.getElem_mem hkl); obtain ⟨Q, h2⟩ := h1; exact ⟨Q, h2.kept HB.out.1⟩))
   clear hx
   unfold RunX.v at HD
   obtain ⟨px, hpx⟩ : ∃ px, p x = px := ⟨_, rfl⟩
   rw [hpx] at HD
   have HPX := Lib.hid hpx
   clear hcs hpx
   cases px
   ·go_wp2_with fail
    refine HD.out.mono ?_
    rintro y w1 ⟨rfl, hb⟩
    have HN : Hid (Below w.heap.size w w1 ∧ ∀ j (hj : j < xs.length), j < k + 1 → p xs[j] = false) := ⟨HB.out.1.trans (hb.mono HB.out.1.size), fun j hj h => by
     by_cases e : j = k
     ·subst e; rw [HX.out]; exact HPX.out
     ·exact HB.out.2 j hj (by omega)⟩
    clear hb c0 c1 c2 c3 c4 HD
    go_wp2_with fail
    go_roundw
    case rel => exact ⟨k + 1, by omega, by go_num, HN⟩
    case measure => simp [intOf]; omega
   ·go_wp2_with fail
    refine HD.out.mono ?_
    rintro y w1 ⟨rfl, hb⟩
    have HN := Lib.hid (HB.out.1.trans (hb.mono HB.out.1.size))
    clear hb c0 c1 c2 c3 c4 HD
    go_wp2_with fail
    go_ret
    refine ⟨_, rfl, ?_, HN.out⟩
    rw [show xs.any p = true from List.any_eq_true.2 ⟨xs[k], List.getElem_mem hkl, by rw [HX.out]; exact HPX.out⟩]
    exact decide_eq_true (by omega)
  ·have hle : (n : Int) ≤ (k : Int) := by omega
   go_wp2_with fail
   go_ret
   refine ⟨_, rfl, ?_, HB.out.1⟩
   rw [show xs.any p = false from List.any_eq_false.2 (fun x hx => by
    obtain ⟨j, hj, rfl⟩ := List.mem_iff_getElem.1 hx
    rw [HB.out.2 j hj (by have := HL.out; omega)]
    simp)]
   rfl
set_option linter.unusedSimpArgs false in
set_option maxHeartbeats 4000000 in
set_option maxRecDepth 100000 in
theorem has_start (w : World) (v : Value) (xs : List RunX) (p : RunX → Bool) (base : Nat) (bf : Nat) (hr : TRow encR w v xs) (hin : ∀ x ∈ xs, ∃ Q, x.In Q w) (hP : ∀ W, Below base w W → ∀ x : RunX, (∃ Q, x.In Q W) → Calls Try.prog 53 #[x.v, .pointer (some ⟨bf, 0, none⟩)] W fun e w' => e = .returned (.bool (p x)) ∧ Below W.heap.size W w') (hb : base ≤ w.heap.size) (hn : xs.length ≤ 2000) :
  Calls Try.prog 54 #[v, (.func (.func 53) #[] #[.pointer (some ⟨bf, 0, none⟩)])] w fun e w' => e = .returned (.bool (xs.any p)) ∧ Below w.heap.size w w' := by
 have HG := Lib.hid (idx_start w v xs p base bf hr hin hP hb hn)
 clear hr hin hP hb hn
 go_enter Try.func54, Try.ntmps54
 go_wp2_with fail
 refine HG.out.mono ?_
 rintro y9 w1 ⟨r, rfl, hr, hb⟩
 have HR := Lib.hid hr
 have HB := Lib.hid hb
 clear hr hb HG
 go_wp2_with fail
 go_ret
 exact ⟨by rw [HR.out]; rfl, HB.out⟩
set_option linter.unusedSimpArgs false in
set_option maxHeartbeats 4000000 in
set_option maxRecDepth 100000 in
theorem another_any (w : World) (x : RunX) (cu : Int) (bf : Nat) (hm : w.cell? ⟨bf, 4, none⟩ = some (.int .i64 cu)) :
  Calls Try.prog 53 #[x.v, .pointer (some ⟨bf, 0, none⟩)] w fun e w' => e = .returned (.bool (x.r.cu == cu && openB x.r)) ∧ Below w.heap.size w w' := by
 unfold RunX.v
 obtain ⟨b0, h1⟩ : ∃ b0, (x.r.cu == cu) = b0 := ⟨_, rfl⟩
 rw [h1]
 have HB0 : Hid (Below w.heap.size w (w.alloc (.cells #[.int .i64 x.r.cu, .int .i64 x.r.st, .slice x.pf x.r.hs.length x.cf, .slice x.pl x.r.ls.length x.cl, .slice x.pn x.r.ns.length x.cn] 56))) := Lib.hid ((oneB w _))
 have Hx0 : Hid (Blk (w.alloc (.cells #[.int .i64 x.r.cu, .int .i64 x.r.st, .slice x.pf x.r.hs.length x.cf, .slice x.pl x.r.ls.length x.cl, .slice x.pn x.r.ns.length x.cn] 56)) w.heap.size #[.int .i64 x.r.cu, .int .i64 x.r.st, .slice x.pf x.r.hs.length x.cf, .slice x.pl x.r.ls.length x.cl, .slice x.pn x.r.ns.length x.cn] 56) := Lib.hid (Blk.new w #[.int .i64 x.r.cu, .int .i64 x.r.st, .slice x.pf x.r.hs.length x.cf, .slice x.pl x.r.ls.length x.cl, .slice x.pn x.r.ns.length x.cn] 56)
 have HZ0 : Hid (w.heap.size ≤ (w.alloc (.cells #[.int .i64 x.r.cu, .int .i64 x.r.st, .slice x.pf x.r.hs.length x.cf, .slice x.pl x.r.ls.length x.cl, .slice x.pn x.r.ns.length x.cn] 56)).heap.size) := Lib.hid HB0.out.size
 have HM : Hid ((w.alloc (.cells #[.int .i64 x.r.cu, .int .i64 x.r.st, .slice x.pf x.r.hs.length x.cf, .slice x.pl x.r.ls.length x.cl, .slice x.pn x.r.ns.length x.cn] 56)).cell? ⟨bf, 4, none⟩ = some (.int .i64 cu)) := (HB0.out.cell (p := ⟨bf, 4, none⟩) (World.block_lt_of_cell? w _ hm)).trans hm
 clear hm
 go_enter Try.func53, Try.ntmps53
 go_upto_region 1 with fail
 generalize (w.alloc (.cells #[.int .i64 x.r.cu, .int .i64 x.r.st, .slice x.pf x.r.hs.length x.cf, .slice x.pl x.r.ls.length x.cl, .slice x.pn x.r.ns.length x.cn] 56)) = W at *
 have m4 := HM.out
 cases b0
 ·skip
  have x0 : W.cell? ⟨w.heap.size, 0, none⟩ = some (.int .i64 x.r.cu) := Hx0.out.cell 0
  have x1 : W.cell? ⟨w.heap.size, 1, none⟩ = some (.int .i64 x.r.st) := Hx0.out.cell 1
  have x2 : W.cell? ⟨w.heap.size, 2, none⟩ = some (.slice x.pf x.r.hs.length x.cf) := Hx0.out.cell 2
  have x3 : W.cell? ⟨w.heap.size, 3, none⟩ = some (.slice x.pl x.r.ls.length x.cl) := Hx0.out.cell 3
  have x4 : W.cell? ⟨w.heap.size, 4, none⟩ = some (.slice x.pn x.r.ns.length x.cn) := Hx0.out.cell 4
  go_wp2_with fail
  go_ret
  exact ⟨rfl, HB0.out⟩
 ·skip
  have HG := Lib.hid (copen_any W x)
  unfold RunX.v at HG
  have x0 : W.cell? ⟨w.heap.size, 0, none⟩ = some (.int .i64 x.r.cu) := Hx0.out.cell 0
  have x1 : W.cell? ⟨w.heap.size, 1, none⟩ = some (.int .i64 x.r.st) := Hx0.out.cell 1
  have x2 : W.cell? ⟨w.heap.size, 2, none⟩ = some (.slice x.pf x.r.hs.length x.cf) := Hx0.out.cell 2
  have x3 : W.cell? ⟨w.heap.size, 3, none⟩ = some (.slice x.pl x.r.ls.length x.cl) := Hx0.out.cell 3
  have x4 : W.cell? ⟨w.heap.size, 4, none⟩ = some (.slice x.pn x.r.ns.length x.cn) := Hx0.out.cell 4
  go_wp2_with fail
  clear x0 x1 x2 x3 x4 m4
  refine HG.out.mono ?_
  rintro y9 w1 ⟨rfl, hb⟩
  have HB1 := ktq HB0 hb
  clear hb HG
  go_wp2_with fail
  go_ret
  exact ⟨rfl, HB1.out⟩
end Go.Proofs.Yteogdfpkcoodlaa
namespace Go.Proofs.Yteogdfpkcoodlaa
open Go.RowKit
set_option linter.unusedSimpArgs false
def Rn.offer (r : Rn) (j : Nat) (ls : List Lin) : Rn := { r with hs := r.hs.set j ⟨true, (r.hs.getD j hd0).t, ls⟩ }
/-- What an entity's offer does. -/
def offerC (N : Nat) (rs : List Rn) (m : Msg) (j : Nat) : CAns :=
 if ((rnAt rs m.y).st != 1) = true then (rs, [], 90) else if ((rnAt rs m.y).hs.getD j hd0).o = true then (rs, [], 5) else
 if (mineL (j : Int) m.ls).length < m.ls.length then (rs, [], 140) else if fitE (N : Int) m.ls ≠ 0 then (rs, [], fitE (N : Int) m.ls) else
 if ((rnAt rs m.y).offer j m.ls).hs.any (fun h => !h.o) = true then (rs.set (m.y - 1).toNat ((rnAt rs m.y).offer j m.ls), [], 0) else (rs.set (m.y - 1).toNat (((rnAt rs m.y).offer j m.ls).rec_ N), toAllL N (prepM m.y (((rnAt rs m.y).offer j m.ls).rec_ N)), 0)
set_option linter.unusedSimpArgs false in
set_option maxHeartbeats 4000000 in
set_option maxRecDepth 100000 in
theorem coffer_any (w : World) (P : Nat → Prop) (N : Nat) (p : Option Addr) (n c : Nat) (rs : List Rn) (y : MsgX) (j : Nat) (hrs : RsR P w (.slice p n c) rs) (hpw : ∀ b, P b → b < w.heap.size) (hn : n = rs.length) (hl : n ≤ 2000) (hk1 : 1 ≤ y.m.y) (hk2 : y.m.y ≤ n) (hN1 : 1 ≤ N) (hN8 : N ≤ 8) (hlen : ∀ r ∈ rs, r.hs.length = N) (hj : j < N) (Pm : Nat → Prop) (hy : y.InP Pm w) (hyl : y.m.ls.length ≤ 60) (hfit : ∀ r ∈ rs, ∀ h ∈ r.hs, fitE (N : Int) h.ls = 0 ∧ h.ls.length ≤ 60) :
  Calls Try.prog 29 #[.agg #[.int .i64 (N : Int), .slice p n c], y.m.v (.slice y.pl y.m.ls.length y.cl) (.slice y.pn y.m.ns.length y.cn), .int .i64 (j : Int)] w (CP w P N (offerC N rs y.m j)) := by
 unfold CP
 have HRS := Lib.hid hrs
 have HPW := Lib.hid hpw
 have HNN : Hid (1 ≤ N ∧ N ≤ 8) := Lib.hid ⟨hN1, hN8⟩
 have HKK : Hid (n = rs.length ∧ n ≤ 2000 ∧ 1 ≤ y.m.y ∧ y.m.y ≤ n) := Lib.hid ⟨hn, hl, hk1, hk2⟩
 have HLN := Lib.hid hlen
 have HJ : Hid (j < N) := Lib.hid hj
 have HY := Lib.hid hy
 have HYL : Hid (y.m.ls.length ≤ 60) := Lib.hid hyl
 have HFT := Lib.hid hfit
 clear hrs hpw hN1 hN8 hn hl hk1 hk2 hlen hj hy hyl hfit
 unfold Msg.v
 have HB0 : Hid (Below w.heap.size w (((w.alloc (.cells #[.int .i64 (N : Int), .slice p n c] 27)).alloc (.cells #[.int .i64 y.m.k, .int .i64 y.m.s, .int .i64 y.m.n, .int .i64 y.m.b, .int .i64 y.m.c, .int .i64 y.m.r, .int .i64 y.m.y, .int .i64 y.m.a, .bool y.m.t, .slice y.pl y.m.ls.length y.cl, .slice y.pn y.m.ns.length y.cn] 36)).alloc (.cells #[.int .i64 0, .slice none 0 0] 27))) := Lib.hid ((((oneB w _).alloc (by simp <;> omega) _).alloc (by simp <;> omega) _))
 have Hc0 : Hid (Blk (((w.alloc (.cells #[.int .i64 (N : Int), .slice p n c] 27)).alloc (.cells #[.int .i64 y.m.k, .int .i64 y.m.s, .int .i64 y.m.n, .int .i64 y.m.b, .int .i64 y.m.c, .int .i64 y.m.r, .int .i64 y.m.y, .int .i64 y.m.a, .bool y.m.t, .slice y.pl y.m.ls.length y.cl, .slice y.pn y.m.ns.length y.cn] 36)).alloc (.cells #[.int .i64 0, .slice none 0 0] 27)) w.heap.size #[.int .i64 (N : Int), .slice p n c] 27) := Lib.hid (((Blk.new w #[.int .i64 (N : Int), .slice p n c] 27).alloc _).alloc _)
 have Hm0 : Hid (Blk (((w.alloc (.cells #[.int .i64 (N : Int), .slice p n c] 27)).alloc (.cells #[.int .i64 y.m.k, .int .i64 y.m.s, .int .i64 y.m.n, .int .i64 y.m.b, .int .i64 y.m.c, .int .i64 y.m.r, .int .i64 y.m.y, .int .i64 y.m.a, .bool y.m.t, .slice y.pl y.m.ls.length y.cl, .slice y.pn y.m.ns.length y.cn] 36)).alloc (.cells #[.int .i64 0, .slice none 0 0] 27)) (w.heap.size + 1) #[.int .i64 y.m.k, .int .i64 y.m.s, .int .i64 y.m.n, .int .i64 y.m.b, .int .i64 y.m.c, .int .i64 y.m.r, .int .i64 y.m.y, .int .i64 y.m.a, .bool y.m.t, .slice y.pl y.m.ls.length y.cl, .slice y.pn y.m.ns.length y.cn] 36) := Lib.hid ((Blk.new' (w.alloc (.cells #[.int .i64 (N : Int), .slice p n c] 27)) #[.int .i64 y.m.k, .int .i64 y.m.s, .int .i64 y.m.n, .int .i64 y.m.b, .int .i64 y.m.c, .int .i64 y.m.r, .int .i64 y.m.y, .int .i64 y.m.a, .bool y.m.t, .slice y.pl y.m.ls.length y.cl, .slice y.pn y.m.ns.length y.cn] 36 (by simp)).alloc _)
 have Hr0 : Hid (Blk (((w.alloc (.cells #[.int .i64 (N : Int), .slice p n c] 27)).alloc (.cells #[.int .i64 y.m.k, .int .i64 y.m.s, .int .i64 y.m.n, .int .i64 y.m.b, .int .i64 y.m.c, .int .i64 y.m.r, .int .i64 y.m.y, .int .i64 y.m.a, .bool y.m.t, .slice y.pl y.m.ls.length y.cl, .slice y.pn y.m.ns.length y.cn] 36)).alloc (.cells #[.int .i64 0, .slice none 0 0] 27)) (w.heap.size + 1 + 1) #[.int .i64 0, .slice none 0 0] 27) := Lib.hid (Blk.new' ((w.alloc (.cells #[.int .i64 (N : Int), .slice p n c] 27)).alloc (.cells #[.int .i64 y.m.k, .int .i64 y.m.s, .int .i64 y.m.n, .int .i64 y.m.b, .int .i64 y.m.c, .int .i64 y.m.r, .int .i64 y.m.y, .int .i64 y.m.a, .bool y.m.t, .slice y.pl y.m.ls.length y.cl, .slice y.pn y.m.ns.length y.cn] 36)) #[.int .i64 0, .slice none 0 0] 27 (by simp))
 have HZ0 : Hid (w.heap.size ≤ (((w.alloc (.cells #[.int .i64 (N : Int), .slice p n c] 27)).alloc (.cells #[.int .i64 y.m.k, .int .i64 y.m.s, .int .i64 y.m.n, .int .i64 y.m.b, .int .i64 y.m.c, .int .i64 y.m.r, .int .i64 y.m.y, .int .i64 y.m.a, .bool y.m.t, .slice y.pl y.m.ls.length y.cl, .slice y.pn y.m.ns.length y.cn] 36)).alloc (.cells #[.int .i64 0, .slice none 0 0] 27)).heap.size) := Lib.hid HB0.out.size
 go_enter Try.func29, Try.ntmps29
 go_upto_region 1 with fail
 generalize (((w.alloc (.cells #[.int .i64 (N : Int), .slice p n c] 27)).alloc (.cells #[.int .i64 y.m.k, .int .i64 y.m.s, .int .i64 y.m.n, .int .i64 y.m.b, .int .i64 y.m.c, .int .i64 y.m.r, .int .i64 y.m.y, .int .i64 y.m.a, .bool y.m.t, .slice y.pl y.m.ls.length y.cl, .slice y.pn y.m.ns.length y.cn] 36)).alloc (.cells #[.int .i64 0, .slice none 0 0] 27)) = W at *
 have HWL : Hid (w.heap.size + 1 + 1 < W.heap.size) := Lib.hid Hr0.out.lt
 have HG := Lib.hid (crun_any W P N y.m.y p n c rs (HRS.out.kept HB0.out) HKK.out.1 HKK.out.2.1 HKK.out.2.2.1 HKK.out.2.2.2 HNN.out.1 HNN.out.2 HLN.out)
 have a0 : W.cell? ⟨w.heap.size, 0, none⟩ = some (.int .i64 (N : Int)) := Hc0.out.cell 0
 have a1 : W.cell? ⟨w.heap.size, 1, none⟩ = some (.slice p n c) := Hc0.out.cell 1
 have m6 : W.cell? ⟨(w.heap.size + 1), 6, none⟩ = some (.int .i64 y.m.y) := Hm0.out.cell 6
 go_wp2_with fail
 clear a0 a1 m6
 refine HG.out.mono ?_
 rintro y9 w1 ⟨x, rfl, hx, hro, hb⟩
 clear HG
 obtain ⟨r, pf, cf, pl, cl, pn, cn⟩ := x
 obtain ⟨g, hpf, hgb, hgl⟩ := hro.g
 have hcf : N = cf := hro.cap.symm
 have hpf : some ⟨g, 0, none⟩ = pf := hpf.symm
 subst hcf
 subst hpf
 have HLR : Hid (r.hs.length = N) := Lib.hid hro.len
 have HGL : Hid (W.heap.size ≤ g ∧ g < w1.heap.size) := Lib.hid ⟨hgb, hgl⟩
 clear hgb hgl
 have HX : Hid (rnAt rs y.m.y = r) := Lib.hid (by unfold rnAt; rw [hx]; rfl)
 have HXS : Hid (rs[(y.m.y - 1).toNat]? = some r) := Lib.hid hx
 have HO := Lib.hid hro
 have HW1 : Hid (W.heap.size ≤ w1.heap.size) := Lib.hid hb.size
 clear hx hro
 have Hc1 := kbq Hc0 hb
 have Hm1 := kbq Hm0 hb
 have Hr1 := kbq Hr0 hb
 have HB1 := ktq HB0 hb
 have HZ1 := kzq HZ0 hb.size
 clear Hc0 Hm0 Hr0 HB0 HZ0
 clear hb
 rw [RunX.v_mk]
 have hba9 := oneB w1 (.cells #[.int .i64 r.cu, .int .i64 r.st, .slice (some ⟨g, 0, none⟩) r.hs.length N, .slice pl r.ls.length cl, .slice pn r.ns.length cn] 56)
 have HO2 := Lib.hid (HO.out.kept hba9)
 clear hba9 HO
 have hba := oneB w1 (.cells #[.int .i64 r.cu, .int .i64 r.st, .slice (some ⟨g, 0, none⟩) r.hs.length N, .slice pl r.ls.length cl, .slice pn r.ns.length cn] 56)
 have Hc2 := kbq Hc1 hba
 have Hm2 := kbq Hm1 hba
 have Hr2 := kbq Hr1 hba
 have Hx2 := Lib.hid (Blk.new w1 #[.int .i64 r.cu, .int .i64 r.st, .slice (some ⟨g, 0, none⟩) r.hs.length N, .slice pl r.ls.length cl, .slice pn r.ns.length cn] 56)
 have HB2 := Lib.hid (HB1.out.alloc HB1.out.size (.cells #[.int .i64 r.cu, .int .i64 r.st, .slice (some ⟨g, 0, none⟩) r.hs.length N, .slice pl r.ls.length cl, .slice pn r.ns.length cn] 56))
 have HZ2 := kzq HZ1 hba.size
 have HGgx : Hid (w.heap.size ≤ w1.heap.size) := Lib.hid HB1.out.size
 clear hba Hc1 Hm1 Hr1 HB1 HZ1
 go_upto_region 2 with fail
 generalize (w1.alloc (.cells #[.int .i64 r.cu, .int .i64 r.st, .slice (some ⟨g, 0, none⟩) r.hs.length N, .slice pl r.ls.length cl, .slice pn r.ns.length cn] 56)) = W2 at *
 generalize hggx : w1.heap.size = gx at *
 clear hggx
 obtain ⟨bs, hbs⟩ : ∃ bs, (r.st != 1) = bs := ⟨_, rfl⟩
 have HBS := Lib.hid hbs
 cases bs
 ·skip
  have hst : (r.st != 1) = false := hbs
  clear hbs
  have x1 : W2.cell? ⟨gx, 1, none⟩ = some (.int .i64 r.st) := Hx2.out.cell 1
  go_upto_region 4 with fail
  clear x1 hst
  have HJL : Hid (j < r.hs.length) := Lib.hid (by have := HJ.out; have := HLR.out; omega)
  obtain ⟨xo, hxo, hco, hio⟩ := HO2.out.hs.at1 j HJL.out
  have hxo : xo.h = r.hs[j]'HJL.out := hxo
  have HXO : Hid (r.hs.getD j hd0 = xo.h) := Lib.hid (by rw [hxo, List.getD_eq_getElem?_getD, List.getElem?_eq_getElem HJL.out]; rfl)
  have HXQ : Hid (∀ x : HdX, x.h = r.hs[j]'HJL.out → x.h = xo.h) := Lib.hid (fun x h => h.trans hxo.symm)
  obtain ⟨bo, hbo⟩ : ∃ bo, xo.h.o = bo := ⟨_, rfl⟩
  have HBO := Lib.hid hbo
  have z1 : W2.cell? ⟨g, j * 3, none⟩ = some (.bool bo) := by rw [← hbo]; exact (hco 0 (by decide)).1
  clear hxo hco hio hbo
  have hjN : (j : Int) < (r.hs.length : Int) := by have := HJL.out; omega
  have hjC : (j : Int) < (N : Int) := by have := HJ.out; omega
  cases bo
  ·skip
   have x2 : W2.cell? ⟨gx, 2, none⟩ = some (.slice (some ⟨g, 0, none⟩) r.hs.length N) := Hx2.out.cell 2
   go_upto_region 6 with fail
   clear x2 z1
   obtain ⟨lm, hlm⟩ : ∃ lm, (mineL (j : Int) y.m.ls).length = lm := ⟨_, rfl⟩
   have HLM := Lib.hid hlm
   clear hlm
   by_cases hmi : lm < y.m.ls.length
   ·skip
    have hmiI : (lm : Int) < (y.m.ls.length : Int) := by omega
    have HMI : Hid ((mineL (j : Int) y.m.ls).length < y.m.ls.length) := Lib.hid (by rw [HLM.out]; exact hmi)
    clear hmi
    have hbd := (Below.refl W2.heap.size W2).drew
    have Hc3 := kbq Hc2 hbd
    have Hm3 := kbq Hm2 hbd
    have Hr3 := kbq Hr2 hbd
    have Hx3 := kbq Hx2 hbd
    have HB3 := ktq HB2 hbd
    have HZ3 := kzq HZ2 hbd.size
    clear Hc2 Hm2 Hr2 Hx2 HB2 HZ2
    have hS1 : W2.drew.cell? ⟨w.heap.size + 1, 0, none⟩ = some (.int .i64 y.m.k) ∧ W2.drew.cell? ⟨w.heap.size + 1, 1, none⟩ = some (.int .i64 y.m.s) ∧ W2.drew.cell? ⟨w.heap.size + 1, 2, none⟩ = some (.int .i64 y.m.n) ∧ W2.drew.cell? ⟨w.heap.size + 1, 3, none⟩ = some (.int .i64 y.m.b) ∧ W2.drew.cell? ⟨w.heap.size + 1, 4, none⟩ = some (.int .i64 y.m.c) ∧ W2.drew.cell? ⟨w.heap.size + 1, 5, none⟩ = some (.int .i64 y.m.r) ∧ W2.drew.cell? ⟨w.heap.size + 1, 6, none⟩ = some (.int .i64 y.m.y) ∧ W2.drew.cell? ⟨w.heap.size + 1, 7, none⟩ = some (.int .i64 y.m.a) ∧ W2.drew.cell? ⟨w.heap.size + 1, 8, none⟩ = some (.bool y.m.t) ∧ W2.drew.cell? ⟨w.heap.size + 1, 9, none⟩ = some (.slice y.pl y.m.ls.length y.cl) ∧ W2.drew.cell? ⟨w.heap.size + 1, 10, none⟩ = some (.slice y.pn y.m.ns.length y.cn) := ⟨Hm3.out.cell 0, Hm3.out.cell 1, Hm3.out.cell 2, Hm3.out.cell 3, Hm3.out.cell 4, Hm3.out.cell 5, Hm3.out.cell 6, Hm3.out.cell 7, Hm3.out.cell 8, Hm3.out.cell 9, Hm3.out.cell 10⟩
    have HO2 := Lib.hid (HO2.out.kept hbd)
    refine wp_region_held_drew (S := fun w' => w'.cell? ⟨w.heap.size + 1, 0, none⟩ = some (.int .i64 y.m.k) ∧ w'.cell? ⟨w.heap.size + 1, 1, none⟩ = some (.int .i64 y.m.s) ∧ w'.cell? ⟨w.heap.size + 1, 2, none⟩ = some (.int .i64 y.m.n) ∧ w'.cell? ⟨w.heap.size + 1, 3, none⟩ = some (.int .i64 y.m.b) ∧ w'.cell? ⟨w.heap.size + 1, 4, none⟩ = some (.int .i64 y.m.c) ∧ w'.cell? ⟨w.heap.size + 1, 5, none⟩ = some (.int .i64 y.m.r) ∧ w'.cell? ⟨w.heap.size + 1, 6, none⟩ = some (.int .i64 y.m.y) ∧ w'.cell? ⟨w.heap.size + 1, 7, none⟩ = some (.int .i64 y.m.a) ∧ w'.cell? ⟨w.heap.size + 1, 8, none⟩ = some (.bool y.m.t) ∧ w'.cell? ⟨w.heap.size + 1, 9, none⟩ = some (.slice y.pl y.m.ls.length y.cl) ∧ w'.cell? ⟨w.heap.size + 1, 10, none⟩ = some (.slice y.pn y.m.ns.length y.cn)) (by kernel_rfl) hS1 (fun hS0 => ?_)
    clear hS1
    generalize W2.drew = WDa at *
    clear hbd
    refine tkq 0 ?_
    refine tkq 1 ?_
    refine tkq 2 ?_
    refine tkq 5 ?_
    refine tkq 6 ?_
    refine tkq 7 ?_
    refine rdq 3 (fun K hK => ?_)
    have HG := Lib.hid (mine_any WDa (j : Int) (.slice y.pl y.m.ls.length y.cl) y.m.ls (HY.out.kept HB3.out).ls (by have := HYL.out; omega))
    go_simp
    go_at_call 44
    refine HG.out.mono ?_
    rintro y9 w4a ⟨v4, rfl, ho, hb⟩
    clear HG
    have HO2 := Lib.hid (HO2.out.kept hb)
    obtain ⟨p4, c4, hv4⟩ := ho.form
    rw [HLM.out] at hv4
    subst hv4
    clear ho
    have Hc4 := kbq Hc3 hb
    have Hm4 := kbq Hm3 hb
    have Hr4 := kbq Hr3 hb
    have Hx4 := kbq Hx3 hb
    have HB4 := ktq HB3 hb
    have HZ4 := kzq HZ3 hb.size
    clear Hc3 Hm3 Hr3 Hx3 HB3 HZ3
    clear hb hS0
    try go_wp2_with fail
    refine hK.out _ _ ⟨Hm4.out.cell 0, Hm4.out.cell 1, Hm4.out.cell 2, Hm4.out.cell 3, Hm4.out.cell 4, Hm4.out.cell 5, Hm4.out.cell 6, Hm4.out.cell 7, Hm4.out.cell 8, Hm4.out.cell 9, Hm4.out.cell 10⟩ (fun hS0 => ?_)
    clear hK K
    try simp only [Act.put, List.getElem_toArray, List.getElem_cons_succ, List.getElem_cons_zero, List.setIfInBounds_toArray, List.set_cons_zero, List.set_cons_succ]
    refine tkq 4 ?_
    refine tkq 8 ?_
    refine tkq 9 ?_
    refine wpAnyH_done (by kernel_rfl) ?_ _
    clear hS0
    have HE : Hid (offerC N rs y.m j = (rs, [], 140)) := by show _ = _; unfold offerC; rw [HX.out, if_neg (by rw [HBS.out]; decide), if_neg (by rw [HXO.out, HBO.out]; decide), if_pos HMI.out]
    go_upto_region 7 with fail
    clear hmiI hjN hjC
    have a0 : w4a.cell? ⟨w.heap.size, 0, none⟩ = some (.int .i64 (N : Int)) := Hc4.out.cell 0
    have a1 : w4a.cell? ⟨w.heap.size, 1, none⟩ = some (.slice p n c) := Hc4.out.cell 1
    go_wp2_with (with_reducible refine stop_storeT 27 (.tmp 6) (.tmp 38) rfl ?_)
    clear a0 a1
    have HTH : Hid (w4a.there (w.heap.size + 1 + 1) 0 2) := Hr4.out.thereAt
    have hch : Hid (Chg (w.heap.size + 1 + 1) w4a (w4a.setCells (w.heap.size + 1 + 1) 0 (#[.int .i64 (N : Int), .slice p n c] : Array Value).toList)) := Lib.hid (chg_putL _ _ _ _ _ (Chg.refl _ w4a))
    have Hr5 : Hid (Blk (w4a.setCells (w.heap.size + 1 + 1) 0 (#[.int .i64 (N : Int), .slice p n c] : Array Value).toList) (w.heap.size + 1 + 1) #[.int .i64 (N : Int), .slice p n c] 27) := Lib.hid (blk_put_all Hr4.out _ rfl)
    have HB5 : Hid (Below w.heap.size w (w4a.setCells (w.heap.size + 1 + 1) 0 (#[.int .i64 (N : Int), .slice p n c] : Array Value).toList)) := Lib.hid (below_put (by have := HWL.out; have := HW1.out; have := HGL.out; omega) _ _ _ _ HB4.out)
    have HZ5 := kzq HZ4 hch.out.size
    have Hc5 := kcq Hc4 hch (by have := HWL.out; have := HW1.out; have := HGL.out; omega)
    have Hm5 := kcq Hm4 hch (by have := HWL.out; have := HW1.out; have := HGL.out; omega)
    have Hx5 := kcq Hx4 hch (by have := HWL.out; have := HW1.out; have := HGL.out; omega)
    clear hch Hc4 Hm4 Hr4 Hx4 HB4 HZ4
    refine wpList_store_mid rfl 27 (.tmp 6) (.tmp 38) rfl (w.heap.size + 1 + 1) 0 #[.int .i64 (N : Int), .slice p n c] rfl rfl HTH.out (infoC2 rfl) (all_oneCell_toArray (by intro u hu; simp at hu; rcases hu with rfl | rfl <;> rfl)) ?_
    generalize (w4a.setCells (w.heap.size + 1 + 1) 0 (#[.int .i64 (N : Int), .slice p n c] : Array Value).toList) = W9m at *
    clear HTH
    go_wp2_with fail
    have hfr := Hr5.out
    refine bodyPost_ret (v := .tuple #[.agg #[.int .i64 (N : Int), .slice p n c], .slice none 0 0, .int .i64 140]) (by simp [results, Try.results29, go_sem, hfr.cell 0, hfr.cell 1]) rfl (by rw [HE.out]; exact ⟨p, n, c, none, 0, 0, W9m.heap.size, rfl, HKK.out.1, rfl, HZ5.out, (HRS.out.kept HB5.out).imp (fun b h => .inl h), SaidL.nil_ _ _, HB5.out⟩)
   ·skip
    have hmiI : ¬ (lm : Int) < (y.m.ls.length : Int) := by omega
    have HMI : Hid (¬ (mineL (j : Int) y.m.ls).length < y.m.ls.length) := Lib.hid (by rw [HLM.out]; exact hmi)
    clear hmi
    have hbd := (Below.refl W2.heap.size W2).drew
    have Hc3 := kbq Hc2 hbd
    have Hm3 := kbq Hm2 hbd
    have Hr3 := kbq Hr2 hbd
    have Hx3 := kbq Hx2 hbd
    have HB3 := ktq HB2 hbd
    have HZ3 := kzq HZ2 hbd.size
    clear Hc2 Hm2 Hr2 Hx2 HB2 HZ2
    have hS1 : W2.drew.cell? ⟨w.heap.size + 1, 0, none⟩ = some (.int .i64 y.m.k) ∧ W2.drew.cell? ⟨w.heap.size + 1, 1, none⟩ = some (.int .i64 y.m.s) ∧ W2.drew.cell? ⟨w.heap.size + 1, 2, none⟩ = some (.int .i64 y.m.n) ∧ W2.drew.cell? ⟨w.heap.size + 1, 3, none⟩ = some (.int .i64 y.m.b) ∧ W2.drew.cell? ⟨w.heap.size + 1, 4, none⟩ = some (.int .i64 y.m.c) ∧ W2.drew.cell? ⟨w.heap.size + 1, 5, none⟩ = some (.int .i64 y.m.r) ∧ W2.drew.cell? ⟨w.heap.size + 1, 6, none⟩ = some (.int .i64 y.m.y) ∧ W2.drew.cell? ⟨w.heap.size + 1, 7, none⟩ = some (.int .i64 y.m.a) ∧ W2.drew.cell? ⟨w.heap.size + 1, 8, none⟩ = some (.bool y.m.t) ∧ W2.drew.cell? ⟨w.heap.size + 1, 9, none⟩ = some (.slice y.pl y.m.ls.length y.cl) ∧ W2.drew.cell? ⟨w.heap.size + 1, 10, none⟩ = some (.slice y.pn y.m.ns.length y.cn) := ⟨Hm3.out.cell 0, Hm3.out.cell 1, Hm3.out.cell 2, Hm3.out.cell 3, Hm3.out.cell 4, Hm3.out.cell 5, Hm3.out.cell 6, Hm3.out.cell 7, Hm3.out.cell 8, Hm3.out.cell 9, Hm3.out.cell 10⟩
    have HO2 := Lib.hid (HO2.out.kept hbd)
    refine wp_region_held_drew (S := fun w' => w'.cell? ⟨w.heap.size + 1, 0, none⟩ = some (.int .i64 y.m.k) ∧ w'.cell? ⟨w.heap.size + 1, 1, none⟩ = some (.int .i64 y.m.s) ∧ w'.cell? ⟨w.heap.size + 1, 2, none⟩ = some (.int .i64 y.m.n) ∧ w'.cell? ⟨w.heap.size + 1, 3, none⟩ = some (.int .i64 y.m.b) ∧ w'.cell? ⟨w.heap.size + 1, 4, none⟩ = some (.int .i64 y.m.c) ∧ w'.cell? ⟨w.heap.size + 1, 5, none⟩ = some (.int .i64 y.m.r) ∧ w'.cell? ⟨w.heap.size + 1, 6, none⟩ = some (.int .i64 y.m.y) ∧ w'.cell? ⟨w.heap.size + 1, 7, none⟩ = some (.int .i64 y.m.a) ∧ w'.cell? ⟨w.heap.size + 1, 8, none⟩ = some (.bool y.m.t) ∧ w'.cell? ⟨w.heap.size + 1, 9, none⟩ = some (.slice y.pl y.m.ls.length y.cl) ∧ w'.cell? ⟨w.heap.size + 1, 10, none⟩ = some (.slice y.pn y.m.ns.length y.cn)) (by kernel_rfl) hS1 (fun hS0 => ?_)
    clear hS1
    generalize W2.drew = WDb at *
    clear hbd
    refine tkq 0 ?_
    refine tkq 1 ?_
    refine tkq 2 ?_
    refine tkq 5 ?_
    refine tkq 6 ?_
    refine tkq 7 ?_
    refine rdq 3 (fun K hK => ?_)
    have HG := Lib.hid (mine_any WDb (j : Int) (.slice y.pl y.m.ls.length y.cl) y.m.ls (HY.out.kept HB3.out).ls (by have := HYL.out; omega))
    go_simp
    go_at_call 44
    refine HG.out.mono ?_
    rintro y9 w4b ⟨v4, rfl, ho, hb⟩
    clear HG
    have HO2 := Lib.hid (HO2.out.kept hb)
    obtain ⟨p4, c4, hv4⟩ := ho.form
    rw [HLM.out] at hv4
    subst hv4
    clear ho
    have Hc4 := kbq Hc3 hb
    have Hm4 := kbq Hm3 hb
    have Hr4 := kbq Hr3 hb
    have Hx4 := kbq Hx3 hb
    have HB4 := ktq HB3 hb
    have HZ4 := kzq HZ3 hb.size
    clear Hc3 Hm3 Hr3 Hx3 HB3 HZ3
    clear hb hS0
    try go_wp2_with fail
    refine hK.out _ _ ⟨Hm4.out.cell 0, Hm4.out.cell 1, Hm4.out.cell 2, Hm4.out.cell 3, Hm4.out.cell 4, Hm4.out.cell 5, Hm4.out.cell 6, Hm4.out.cell 7, Hm4.out.cell 8, Hm4.out.cell 9, Hm4.out.cell 10⟩ (fun hS0 => ?_)
    clear hK K
    try simp only [Act.put, List.getElem_toArray, List.getElem_cons_succ, List.getElem_cons_zero, List.setIfInBounds_toArray, List.set_cons_zero, List.set_cons_succ]
    refine tkq 4 ?_
    refine tkq 8 ?_
    refine tkq 9 ?_
    refine wpAnyH_done (by kernel_rfl) ?_ _
    clear hS0
    go_upto_region 8 with fail
    clear hmiI
    have hbd := (Below.refl w4b.heap.size w4b).drew
    have Hc5 := kbq Hc4 hbd
    have Hm5 := kbq Hm4 hbd
    have Hr5 := kbq Hr4 hbd
    have Hx5 := kbq Hx4 hbd
    have HB5 := ktq HB4 hbd
    have HZ5 := kzq HZ4 hbd.size
    clear Hc4 Hm4 Hr4 Hx4 HB4 HZ4
    have hS1 : w4b.drew.cell? ⟨w.heap.size, 0, none⟩ = some (.int .i64 (N : Int)) ∧ w4b.drew.cell? ⟨w.heap.size, 1, none⟩ = some (.slice p n c) ∧ w4b.drew.cell? ⟨w.heap.size + 1, 0, none⟩ = some (.int .i64 y.m.k) ∧ w4b.drew.cell? ⟨w.heap.size + 1, 1, none⟩ = some (.int .i64 y.m.s) ∧ w4b.drew.cell? ⟨w.heap.size + 1, 2, none⟩ = some (.int .i64 y.m.n) ∧ w4b.drew.cell? ⟨w.heap.size + 1, 3, none⟩ = some (.int .i64 y.m.b) ∧ w4b.drew.cell? ⟨w.heap.size + 1, 4, none⟩ = some (.int .i64 y.m.c) ∧ w4b.drew.cell? ⟨w.heap.size + 1, 5, none⟩ = some (.int .i64 y.m.r) ∧ w4b.drew.cell? ⟨w.heap.size + 1, 6, none⟩ = some (.int .i64 y.m.y) ∧ w4b.drew.cell? ⟨w.heap.size + 1, 7, none⟩ = some (.int .i64 y.m.a) ∧ w4b.drew.cell? ⟨w.heap.size + 1, 8, none⟩ = some (.bool y.m.t) ∧ w4b.drew.cell? ⟨w.heap.size + 1, 9, none⟩ = some (.slice y.pl y.m.ls.length y.cl) ∧ w4b.drew.cell? ⟨w.heap.size + 1, 10, none⟩ = some (.slice y.pn y.m.ns.length y.cn) := ⟨Hc5.out.cell 0, Hc5.out.cell 1, Hm5.out.cell 0, Hm5.out.cell 1, Hm5.out.cell 2, Hm5.out.cell 3, Hm5.out.cell 4, Hm5.out.cell 5, Hm5.out.cell 6, Hm5.out.cell 7, Hm5.out.cell 8, Hm5.out.cell 9, Hm5.out.cell 10⟩
    have HO2 := Lib.hid (HO2.out.kept hbd)
    refine wp_region_held_drew (S := fun w' => w'.cell? ⟨w.heap.size, 0, none⟩ = some (.int .i64 (N : Int)) ∧ w'.cell? ⟨w.heap.size, 1, none⟩ = some (.slice p n c) ∧ w'.cell? ⟨w.heap.size + 1, 0, none⟩ = some (.int .i64 y.m.k) ∧ w'.cell? ⟨w.heap.size + 1, 1, none⟩ = some (.int .i64 y.m.s) ∧ w'.cell? ⟨w.heap.size + 1, 2, none⟩ = some (.int .i64 y.m.n) ∧ w'.cell? ⟨w.heap.size + 1, 3, none⟩ = some (.int .i64 y.m.b) ∧ w'.cell? ⟨w.heap.size + 1, 4, none⟩ = some (.int .i64 y.m.c) ∧ w'.cell? ⟨w.heap.size + 1, 5, none⟩ = some (.int .i64 y.m.r) ∧ w'.cell? ⟨w.heap.size + 1, 6, none⟩ = some (.int .i64 y.m.y) ∧ w'.cell? ⟨w.heap.size + 1, 7, none⟩ = some (.int .i64 y.m.a) ∧ w'.cell? ⟨w.heap.size + 1, 8, none⟩ = some (.bool y.m.t) ∧ w'.cell? ⟨w.heap.size + 1, 9, none⟩ = some (.slice y.pl y.m.ls.length y.cl) ∧ w'.cell? ⟨w.heap.size + 1, 10, none⟩ = some (.slice y.pn y.m.ns.length y.cn)) (by kernel_rfl) hS1 (fun hS0 => ?_)
    clear hS1
    generalize w4b.drew = WE at *
    clear hbd
    refine tkq 0 ?_
    refine tkq 2 ?_
    refine tkq 3 ?_
    refine rdq 1 (fun K hK => ?_)
    have HG := Lib.hid (entities_any WE (N : Int) p n c (by omega) (by have := HNN.out; omega))
    go_simp
    go_at_call 16
    refine HG.out.mono ?_
    rintro y9 w5 ⟨rfl, hb⟩
    clear HG
    have HO2 := Lib.hid (HO2.out.kept hb)
    have Hc6 := kbq Hc5 hb
    have Hm6 := kbq Hm5 hb
    have Hr6 := kbq Hr5 hb
    have Hx6 := kbq Hx5 hb
    have HB6 := ktq HB5 hb
    have HZ6 := kzq HZ5 hb.size
    clear Hc5 Hm5 Hr5 Hx5 HB5 HZ5
    clear hb hS0
    try go_wp2_with fail
    refine hK.out _ _ ⟨Hc6.out.cell 0, Hc6.out.cell 1, Hm6.out.cell 0, Hm6.out.cell 1, Hm6.out.cell 2, Hm6.out.cell 3, Hm6.out.cell 4, Hm6.out.cell 5, Hm6.out.cell 6, Hm6.out.cell 7, Hm6.out.cell 8, Hm6.out.cell 9, Hm6.out.cell 10⟩ (fun hS0 => ?_)
    clear hK K
    try simp only [Act.put, List.getElem_toArray, List.getElem_cons_succ, List.getElem_cons_zero, List.setIfInBounds_toArray, List.set_cons_zero, List.set_cons_succ]
    refine rdq 4 (fun K hK => ?_)
    have HG := Lib.hid (lfits_any w5 (N : Int) (.slice y.pl y.m.ls.length y.cl) y.m.ls (HY.out.kept HB6.out).ls (by have := HYL.out; omega))
    obtain ⟨fe, hfe⟩ : ∃ fe, fitE (N : Int) y.m.ls = fe := ⟨_, rfl⟩
    rw [hfe] at HG
    have HFQ := Lib.hid hfe
    clear hfe
    go_simp
    go_at_call 45
    refine HG.out.mono ?_
    rintro y9 w6 ⟨rfl, hb⟩
    clear HG
    have HO2 := Lib.hid (HO2.out.kept hb)
    have Hc7 := kbq Hc6 hb
    have Hm7 := kbq Hm6 hb
    have Hr7 := kbq Hr6 hb
    have Hx7 := kbq Hx6 hb
    have HB7 := ktq HB6 hb
    have HZ7 := kzq HZ6 hb.size
    clear Hc6 Hm6 Hr6 Hx6 HB6 HZ6
    clear hb hS0
    try go_wp2_with fail
    refine hK.out _ _ ⟨Hc7.out.cell 0, Hc7.out.cell 1, Hm7.out.cell 0, Hm7.out.cell 1, Hm7.out.cell 2, Hm7.out.cell 3, Hm7.out.cell 4, Hm7.out.cell 5, Hm7.out.cell 6, Hm7.out.cell 7, Hm7.out.cell 8, Hm7.out.cell 9, Hm7.out.cell 10⟩ (fun hS0 => ?_)
    clear hK K
    try simp only [Act.put, List.getElem_toArray, List.getElem_cons_succ, List.getElem_cons_zero, List.setIfInBounds_toArray, List.set_cons_zero, List.set_cons_succ]
    refine tkq 5 ?_
    refine wpAnyH_done (by kernel_rfl) ?_ _
    clear hS0
    by_cases hfe : fe = 0
    ·skip
     have HFE : Hid (fitE (N : Int) y.m.ls = 0) := Lib.hid (by rw [HFQ.out]; exact hfe)
     have hfb : (fe != 0) = false := by simpa using hfe
     clear hfe
     go_upto_region 11 with fail
     clear hfb
     have hbd := (Below.refl w6.heap.size w6).drew
     have Hc8 := kbq Hc7 hbd
     have Hm8 := kbq Hm7 hbd
     have Hr8 := kbq Hr7 hbd
     have Hx8 := kbq Hx7 hbd
     have HB8 := ktq HB7 hbd
     have HZ8 := kzq HZ7 hbd.size
     clear Hc7 Hm7 Hr7 Hx7 HB7 HZ7
     have hS1 : w6.drew.cell? ⟨gx, 0, none⟩ = some (.int .i64 r.cu) ∧ w6.drew.cell? ⟨gx, 1, none⟩ = some (.int .i64 r.st) ∧ w6.drew.cell? ⟨gx, 2, none⟩ = some (.slice (some ⟨g, 0, none⟩) r.hs.length N) ∧ w6.drew.cell? ⟨gx, 3, none⟩ = some (.slice pl r.ls.length cl) ∧ w6.drew.cell? ⟨gx, 4, none⟩ = some (.slice pn r.ns.length cn) ∧ w6.drew.cell? ⟨w.heap.size + 1, 0, none⟩ = some (.int .i64 y.m.k) ∧ w6.drew.cell? ⟨w.heap.size + 1, 1, none⟩ = some (.int .i64 y.m.s) ∧ w6.drew.cell? ⟨w.heap.size + 1, 2, none⟩ = some (.int .i64 y.m.n) ∧ w6.drew.cell? ⟨w.heap.size + 1, 3, none⟩ = some (.int .i64 y.m.b) ∧ w6.drew.cell? ⟨w.heap.size + 1, 4, none⟩ = some (.int .i64 y.m.c) ∧ w6.drew.cell? ⟨w.heap.size + 1, 5, none⟩ = some (.int .i64 y.m.r) ∧ w6.drew.cell? ⟨w.heap.size + 1, 6, none⟩ = some (.int .i64 y.m.y) ∧ w6.drew.cell? ⟨w.heap.size + 1, 7, none⟩ = some (.int .i64 y.m.a) ∧ w6.drew.cell? ⟨w.heap.size + 1, 8, none⟩ = some (.bool y.m.t) ∧ w6.drew.cell? ⟨w.heap.size + 1, 9, none⟩ = some (.slice y.pl y.m.ls.length y.cl) ∧ w6.drew.cell? ⟨w.heap.size + 1, 10, none⟩ = some (.slice y.pn y.m.ns.length y.cn) := ⟨Hx8.out.cell 0, Hx8.out.cell 1, Hx8.out.cell 2, Hx8.out.cell 3, Hx8.out.cell 4, Hm8.out.cell 0, Hm8.out.cell 1, Hm8.out.cell 2, Hm8.out.cell 3, Hm8.out.cell 4, Hm8.out.cell 5, Hm8.out.cell 6, Hm8.out.cell 7, Hm8.out.cell 8, Hm8.out.cell 9, Hm8.out.cell 10⟩
     have HO2 := Lib.hid (HO2.out.kept hbd)
     refine wp_region_held_drew (S := fun w' => w'.cell? ⟨gx, 0, none⟩ = some (.int .i64 r.cu) ∧ w'.cell? ⟨gx, 1, none⟩ = some (.int .i64 r.st) ∧ w'.cell? ⟨gx, 2, none⟩ = some (.slice (some ⟨g, 0, none⟩) r.hs.length N) ∧ w'.cell? ⟨gx, 3, none⟩ = some (.slice pl r.ls.length cl) ∧ w'.cell? ⟨gx, 4, none⟩ = some (.slice pn r.ns.length cn) ∧ w'.cell? ⟨w.heap.size + 1, 0, none⟩ = some (.int .i64 y.m.k) ∧ w'.cell? ⟨w.heap.size + 1, 1, none⟩ = some (.int .i64 y.m.s) ∧ w'.cell? ⟨w.heap.size + 1, 2, none⟩ = some (.int .i64 y.m.n) ∧ w'.cell? ⟨w.heap.size + 1, 3, none⟩ = some (.int .i64 y.m.b) ∧ w'.cell? ⟨w.heap.size + 1, 4, none⟩ = some (.int .i64 y.m.c) ∧ w'.cell? ⟨w.heap.size + 1, 5, none⟩ = some (.int .i64 y.m.r) ∧ w'.cell? ⟨w.heap.size + 1, 6, none⟩ = some (.int .i64 y.m.y) ∧ w'.cell? ⟨w.heap.size + 1, 7, none⟩ = some (.int .i64 y.m.a) ∧ w'.cell? ⟨w.heap.size + 1, 8, none⟩ = some (.bool y.m.t) ∧ w'.cell? ⟨w.heap.size + 1, 9, none⟩ = some (.slice y.pl y.m.ls.length y.cl) ∧ w'.cell? ⟨w.heap.size + 1, 10, none⟩ = some (.slice y.pn y.m.ns.length y.cn)) (by kernel_rfl) hS1 (fun hS0 => ?_)
     clear hS1
     generalize w6.drew = WF at *
     clear hbd
     refine tkq 0 ?_
     refine tkq 1 ?_
     refine tkq 2 ?_
     refine tkq 3 ?_
     refine tkq 4 ?_
     refine tkq 5 ?_
     refine tkq 6 ?_
     refine tkq 7 ?_
     refine rdq 8 (fun K hK => ?_)
     have HG := Lib.hid (cloneNc_any WF (.slice y.pl y.m.ls.length y.cl) y.m.ls (HY.out.kept HB8.out).ls (by have := HYL.out; omega))
     go_simp
     go_at_call 23
     refine HG.out.mono ?_
     rintro y9 w7 ⟨v7, rfl, ho, hb⟩
     clear HG
     have HO2 := Lib.hid (HO2.out.kept hb)
     have HNL := Lib.hid ho
     have HGF : Hid (gx < WF.heap.size ∧ W.heap.size ≤ WF.heap.size) := Lib.hid ⟨Hx8.out.lt, by have := Hr8.out.lt; have h1 := HW1.out; have h2 := Hx8.out.lt; omega⟩
     clear ho
     obtain ⟨p7, c7, hv7⟩ := HNL.out.form
     obtain ⟨l7, hl7⟩ : ∃ l7, y.m.ls.length = l7 := ⟨_, rfl⟩
     rw [hl7] at hv7
     subst hv7
     have HL7 := Lib.hid hl7
     clear hl7
     have Hc9 := kbq Hc8 hb
     have Hm9 := kbq Hm8 hb
     have Hr9 := kbq Hr8 hb
     have Hx9 := kbq Hx8 hb
     have HB9 := ktq HB8 hb
     have HZ9 := kzq HZ8 hb.size
     clear Hc8 Hm8 Hr8 Hx8 HB8 HZ8
     clear hb hS0
     try go_wp2_with fail
     refine hK.out _ _ ⟨Hx9.out.cell 0, Hx9.out.cell 1, Hx9.out.cell 2, Hx9.out.cell 3, Hx9.out.cell 4, Hm9.out.cell 0, Hm9.out.cell 1, Hm9.out.cell 2, Hm9.out.cell 3, Hm9.out.cell 4, Hm9.out.cell 5, Hm9.out.cell 6, Hm9.out.cell 7, Hm9.out.cell 8, Hm9.out.cell 9, Hm9.out.cell 10⟩ (fun hS0 => ?_)
     clear hK K
     try simp only [Act.put, List.getElem_toArray, List.getElem_cons_succ, List.getElem_cons_zero, List.setIfInBounds_toArray, List.set_cons_zero, List.set_cons_succ]
     refine tkq 9 ?_
     refine tkq 10 ?_
     refine rdq 11 (fun K hK => ?_)
     obtain ⟨xq, hxq, hcq, _⟩ := HO2.out.hs.at1 j HJL.out
     have z9 : w7.cell? ⟨g, j * 3, none⟩ = xq.cells[0]? := (hcq 0 (by decide)).1
     have z9 : w7.cell? ⟨g, j * 3, none⟩ = some (.bool xq.h.o) := z9
     have f9 : w7.frozen? ⟨g, j * 3, none⟩ = false := (hcq 0 (by decide)).2
     clear hxq hcq
     go_simp
     clear z9 f9
     have hch := Lib.hid ((Chg.refl g w7).set (j * 3) (.bool true))
     have HB10 := ksq HB9 hch (by show w.heap.size ≤ g; have := HWL.out; have := HW1.out; have := HGL.out; omega)
     have HZ10 := kzq HZ9 hch.out.size
     have Hc10 := kcq Hc9 hch (by have := HWL.out; have := HW1.out; have := HGL.out; omega)
     have Hm10 := kcq Hm9 hch (by have := HWL.out; have := HW1.out; have := HGL.out; omega)
     have Hr10 := kcq Hr9 hch (by have := HWL.out; have := HW1.out; have := HGL.out; omega)
     have Hx10 := kcq Hx9 hch (by have := HWL.out; have := HW1.out; have := HGL.out; omega)
     have HGP : Hid (¬ (fun b => P b ∨ (W.heap.size ≤ b ∧ b ≠ g)) g) := Lib.hid (fun h => h.elim (fun h => by have := HPW.out g h; have := HWL.out; have := HW1.out; have := HGL.out; omega) (fun h => h.2 rfl))
     obtain ⟨q1, hq1⟩ : ∃ q1 : Hd, q1 = ⟨true, xo.h.t, xo.h.ls⟩ := ⟨_, rfl⟩
     have HQ1 := Lib.hid hq1
     have HOa : Hid (RunO (fun b => P b ∨ (W.heap.size ≤ b ∧ b ≠ g)) (w7.setCell ⟨g, j * 3, none⟩ (.bool true)) W.heap.size N ⟨{ r with hs := r.hs.set j q1 }, some ⟨g, 0, none⟩, N, pl, cl, pn, cn⟩) := Lib.hid ((HO2.out.imp (fun b h => .inl h)).put1 j 0 HJL.out (by decide) (.bool true) q1 HGP.out (fun x h1 h2 => ⟨⟨⟨true, x.h.t, x.h.ls⟩, x.p, x.c⟩, by rw [HXQ.out x h1]; exact hq1.symm, rfl, h2⟩))
     have HJL2 : Hid (j < ({ r with hs := r.hs.set j q1 } : Rn).hs.length) := Lib.hid (by show j < (r.hs.set j q1).length; rw [List.length_set]; exact HJL.out)
     have HNL := Lib.hid (HNL.out.stay (fun b hb => hch.out.2 b (HNL.out.lt b hb) (by have h1 := HNL.out.block_ge b hb; have := HGF.out; have := HWL.out; have := HW1.out; have := HGL.out; omega)))
     clear hq1 HO2
     clear hch hS0 Hc9 Hm9 Hr9 Hx9 HB9 HZ9
     generalize (w7.setCell ⟨g, j * 3, none⟩ (.bool true)) = WG at *
     refine hK.out _ _ ⟨Hx10.out.cell 0, Hx10.out.cell 1, Hx10.out.cell 2, Hx10.out.cell 3, Hx10.out.cell 4, Hm10.out.cell 0, Hm10.out.cell 1, Hm10.out.cell 2, Hm10.out.cell 3, Hm10.out.cell 4, Hm10.out.cell 5, Hm10.out.cell 6, Hm10.out.cell 7, Hm10.out.cell 8, Hm10.out.cell 9, Hm10.out.cell 10⟩ (fun hS0 => ?_)
     clear hK K
     try simp only [Act.put, List.getElem_toArray, List.getElem_cons_succ, List.getElem_cons_zero, List.setIfInBounds_toArray, List.set_cons_zero, List.set_cons_succ]
     refine tkq 12 ?_
     refine tkq 13 ?_
     refine rdq 14 (fun K hK => ?_)
     obtain ⟨xq, hxq, hcq, _⟩ := HOa.out.hs.at1 j HJL2.out
     have z9 : WG.cell? ⟨g, j * 3 + 2, none⟩ = xq.cells[2]? := (hcq 2 (by decide)).1
     have z9 : WG.cell? ⟨g, j * 3 + 2, none⟩ = some (.slice xq.p xq.h.ls.length xq.c) := z9
     have f9 : WG.frozen? ⟨g, j * 3 + 2, none⟩ = false := (hcq 2 (by decide)).2
     clear hxq hcq
     go_simp
     clear z9 f9
     have hch := Lib.hid ((Chg.refl g WG).set (j * 3 + 2) (.slice p7 l7 c7))
     have HB11 := ksq HB10 hch (by show w.heap.size ≤ g; have := HWL.out; have := HW1.out; have := HGL.out; omega)
     have HZ11 := kzq HZ10 hch.out.size
     have Hc11 := kcq Hc10 hch (by have := HWL.out; have := HW1.out; have := HGL.out; omega)
     have Hm11 := kcq Hm10 hch (by have := HWL.out; have := HW1.out; have := HGL.out; omega)
     have Hr11 := kcq Hr10 hch (by have := HWL.out; have := HW1.out; have := HGL.out; omega)
     have Hx11 := kcq Hx10 hch (by have := HWL.out; have := HW1.out; have := HGL.out; omega)
     have HO3 : Hid (RunO (fun b => P b ∨ (W.heap.size ≤ b ∧ b ≠ g)) (WG.setCell ⟨g, j * 3 + 2, none⟩ (.slice p7 l7 c7)) W.heap.size N ⟨r.offer j y.m.ls, some ⟨g, 0, none⟩, N, pl, cl, pn, cn⟩) := Lib.hid (by
      have h1 := HOa.out.put1 j 2 HJL2.out (by decide) (.slice p7 l7 c7) ⟨true, xo.h.t, y.m.ls⟩ HGP.out (fun x h1 h2 => ⟨⟨⟨true, xo.h.t, y.m.ls⟩, p7, c7⟩, rfl, by
       have h3 : ({ r with hs := r.hs.set j q1 } : Rn).hs[j]'HJL2.out = q1 := by show (r.hs.set j q1)[j]'_ = q1; rw [List.getElem_set_self]
       rw [h3, HQ1.out] at h1
       show [.bool true, .bool xo.h.t, .slice p7 y.m.ls.length c7] = [Value.bool x.h.o, .bool x.h.t, .slice x.p x.h.ls.length x.c].set 2 _
       rw [h1, HL7.out]
       rfl, ⟨by rw [show (⟨⟨true, xo.h.t, y.m.ls⟩, p7, c7⟩ : HdX).h.ls.length = l7 from HL7.out]; exact HNL.out.row, by
        have h4 := HNL.out.at_lt
        rw [HL7.out] at h4
        show At _ (.slice p7 y.m.ls.length c7) y.m.ls.length
        rw [HL7.out]
        exact h4.imp (fun b h => .inr ⟨by have := HGF.out; omega, by have := HGF.out; have := HGL.out; omega⟩)⟩⟩)
      have h2 : r.offer j y.m.ls = { r with hs := (r.hs.set j q1).set j ⟨true, xo.h.t, y.m.ls⟩ } := by
       unfold Rn.offer
       rw [HXO.out, List.set_set]
      rw [h2]
      exact h1)
     have HVL : Hid ((r.offer j y.m.ls).hs.length = r.hs.length) := Lib.hid (by unfold Rn.offer; rw [List.length_set])
     have HVS : Hid ((r.offer j y.m.ls).cu = r.cu ∧ (r.offer j y.m.ls).st = r.st ∧ (r.offer j y.m.ls).ls = r.ls ∧ (r.offer j y.m.ls).ns = r.ns) := Lib.hid ⟨rfl, rfl, rfl, rfl⟩
     clear HOa HNL HJL2 HQ1
     clear hch hS0 Hc10 Hm10 Hr10 Hx10 HB10 HZ10
     generalize (WG.setCell ⟨g, j * 3 + 2, none⟩ (.slice p7 l7 c7)) = WV at *
     refine hK.out _ _ ⟨Hx11.out.cell 0, Hx11.out.cell 1, Hx11.out.cell 2, Hx11.out.cell 3, Hx11.out.cell 4, Hm11.out.cell 0, Hm11.out.cell 1, Hm11.out.cell 2, Hm11.out.cell 3, Hm11.out.cell 4, Hm11.out.cell 5, Hm11.out.cell 6, Hm11.out.cell 7, Hm11.out.cell 8, Hm11.out.cell 9, Hm11.out.cell 10⟩ (fun hS0 => ?_)
     clear hK K
     try simp only [Act.put, List.getElem_toArray, List.getElem_cons_succ, List.getElem_cons_zero, List.setIfInBounds_toArray, List.set_cons_zero, List.set_cons_succ]
     refine wpAnyH_done (by kernel_rfl) ?_ _
     clear hS0
     have HFV : Hid (∀ h ∈ (r.offer j y.m.ls).hs, fitE (N : Int) h.ls = 0 ∧ h.ls.length ≤ 60) := Lib.hid (fun h hh => by
      have hh : h ∈ r.hs.set j ⟨true, (r.hs.getD j hd0).t, y.m.ls⟩ := hh
      rcases List.mem_or_eq_of_mem_set hh with h1 | h1
      ·exact HFT.out r (List.mem_of_getElem? HXS.out) h h1
      ·subst h1; exact ⟨HFE.out, HYL.out⟩)
     obtain ⟨v, hv⟩ : ∃ v, r.offer j y.m.ls = v := ⟨_, rfl⟩
     rw [hv] at HO3 HVL HVS HFV
     have HV := Lib.hid hv
     clear hv hjN hjC
     have Hxx : Hid (Blk WV gx #[.int .i64 v.cu, .int .i64 v.st, .slice (some ⟨g, 0, none⟩) v.hs.length N, .slice pl v.ls.length cl, .slice pn v.ns.length cn] 56) := Lib.hid (by rw [HVL.out, HVS.out.1, HVS.out.2.1, HVS.out.2.2.1, HVS.out.2.2.2]; exact Hx11.out)
     clear Hx11
     have Hx11 := Hxx
     clear Hxx
     go_upto_region 12 with fail
     obtain ⟨ys, hy1, hy2, hy3⟩ := HO3.out.hs
     have HYS := Lib.hid hy1.row
     have HYI : Hid (∀ x ∈ ys, ∃ Q, x.In Q WV) := Lib.hid (fun x hx => ⟨_, hy2 x hx⟩)
     have HYN : Hid (ys.length ≤ 8) := Lib.hid (by have h1 := congrArg List.length hy3; rw [List.length_map] at h1; have h1 : ys.length = v.hs.length := h1; have := HVL.out; have := HLR.out; have := HNN.out; omega)
     have HYA : Hid (ys.any (fun x => !x.h.o) = v.hs.any (fun h => !h.o)) := Lib.hid (by have hy3 : ys.map HdX.h = v.hs := hy3; rw [← hy3, List.any_map]; rfl)
     clear hy1 hy2 hy3
     have HG := Lib.hid (has_offer WV (.slice (some ⟨g, 0, none⟩) v.hs.length N) ys (fun x => !x.h.o) WV.heap.size HYS.out HYI.out (fun W0 hW0 x0 hx0 => noO_any W0 x0) (Nat.le_refl _) (by have := HYN.out; omega))
     rw [HYA.out] at HG
     obtain ⟨ba, hba⟩ : ∃ ba, v.hs.any (fun h => !h.o) = ba := ⟨_, rfl⟩
     rw [hba] at HG
     have HBA := Lib.hid hba
     clear hba HYS HYI HYA HYN
     have x2 : WV.cell? ⟨gx, 2, none⟩ = some (.slice (some ⟨g, 0, none⟩) v.hs.length N) := Hx11.out.cell 2
     go_wp2_with fail
     clear x2
     refine HG.out.mono ?_
     rintro y9 w8 ⟨rfl, hb⟩
     clear HG
     have HO4 := Lib.hid (HO3.out.kept hb)
     clear HO3
     have Hc12 := kbq Hc11 hb
     have Hm12 := kbq Hm11 hb
     have Hr12 := kbq Hr11 hb
     have Hx12 := kbq Hx11 hb
     have HB12 := ktq HB11 hb
     have HZ12 := kzq HZ11 hb.size
     clear Hc11 Hm11 Hr11 Hx11 HB11 HZ11
     clear hb
     cases ba
     ·skip
      have HE : Hid (offerC N rs y.m j = (rs.set (y.m.y - 1).toNat (v.rec_ N), toAllL N (prepM y.m.y (v.rec_ N)), 0)) := by show _ = _; unfold offerC; rw [HX.out, if_neg (by rw [HBS.out]; decide), if_neg (by rw [HXO.out, HBO.out]; decide), if_neg HMI.out, if_neg (fun h => h HFE.out), HV.out, if_neg (by rw [HBA.out]; decide)]
      go_upto_region 14 with fail
      have HGX : Hid (W.heap.size ≤ w8.heap.size) := Lib.hid (by have := Hx12.out.lt; have := HW1.out; omega)
      have HG := Lib.hid (creckon_any w8 (fun b => P b ∨ (W.heap.size ≤ b ∧ b < w8.heap.size)) N y.m.y p n c rs (⟨v, some ⟨g, 0, none⟩, N, pl, cl, pn, cn⟩ : RunX) ((HRS.out.kept HB12.out).imp (fun b h => .inl h)) (fun b h => h.elim (fun h1 => Nat.lt_of_lt_of_le (HPW.out b h1) HZ12.out) (fun h1 => h1.2)) HKK.out.1 HKK.out.2.1 HKK.out.2.2.1 HKK.out.2.2.2 (((HO4.out.imp (Q := fun b => P b ∨ W.heap.size ≤ b) (fun b h => h.imp id (fun h => h.1))).in_ (fun b h1 _ => .inr h1)).lt.imp (fun b h => h.1.imp id (fun h1 => ⟨h1, h.2⟩))) HNN.out.1 HNN.out.2 (HVL.out.trans HLR.out) HFV.out)
      unfold CPost at HG
      rw [RunX.v_mk] at HG
      have a0 : w8.cell? ⟨w.heap.size, 0, none⟩ = some (.int .i64 (N : Int)) := Hc12.out.cell 0
      have a1 : w8.cell? ⟨w.heap.size, 1, none⟩ = some (.slice p n c) := Hc12.out.cell 1
      have m6 : w8.cell? ⟨(w.heap.size + 1), 6, none⟩ = some (.int .i64 y.m.y) := Hm12.out.cell 6
      have x0 : w8.cell? ⟨gx, 0, none⟩ = some (.int .i64 v.cu) := Hx12.out.cell 0
      have x1 : w8.cell? ⟨gx, 1, none⟩ = some (.int .i64 v.st) := Hx12.out.cell 1
      have x2 : w8.cell? ⟨gx, 2, none⟩ = some (.slice (some ⟨g, 0, none⟩) v.hs.length N) := Hx12.out.cell 2
      have x3 : w8.cell? ⟨gx, 3, none⟩ = some (.slice pl v.ls.length cl) := Hx12.out.cell 3
      have x4 : w8.cell? ⟨gx, 4, none⟩ = some (.slice pn v.ns.length cn) := Hx12.out.cell 4
      go_wp2_with fail
      clear a0 a1 m6 x0 x1 x2 x3 x4
      refine HG.out.mono ?_
      rintro y9 w9 ⟨p3, n3, c3, pv3, nv3, cv3, B3, rfl, hn3, hnv3, hB3, hq3, hs3, hb⟩
      clear HG
      have HN3 := Lib.hid (And.intro hn3 hnv3)
      have HBB : Hid (w8.heap.size ≤ B3) := Lib.hid hB3
      have HQQ := Lib.hid hq3
      have HSS := Lib.hid hs3
      clear hn3 hnv3 hB3 hq3 hs3
      have Hc13 := kbq Hc12 hb
      have Hm13 := kbq Hm12 hb
      have Hr13 := kbq Hr12 hb
      have Hx13 := kbq Hx12 hb
      have HB13 := ktq HB12 hb
      have HZ13 := kzq HZ12 hb.size
      clear Hc12 Hm12 Hr12 Hx12 HB12 HZ12
      clear hb
      go_wp2_with (with_reducible refine stop_storeT 27 (.tmp 6) (.tmp 74) rfl ?_)
      have HTH : Hid (w9.there (w.heap.size + 1 + 1) 0 2) := Hr13.out.thereAt
      have hch : Hid (Chg (w.heap.size + 1 + 1) w9 (w9.setCells (w.heap.size + 1 + 1) 0 (#[.int .i64 (N : Int), .slice p3 n3 c3] : Array Value).toList)) := Lib.hid (chg_putL _ _ _ _ _ (Chg.refl _ w9))
      have Hr14 : Hid (Blk (w9.setCells (w.heap.size + 1 + 1) 0 (#[.int .i64 (N : Int), .slice p3 n3 c3] : Array Value).toList) (w.heap.size + 1 + 1) #[.int .i64 (N : Int), .slice p3 n3 c3] 27) := Lib.hid (blk_put_all Hr13.out _ rfl)
      have HB14 : Hid (Below w.heap.size w (w9.setCells (w.heap.size + 1 + 1) 0 (#[.int .i64 (N : Int), .slice p3 n3 c3] : Array Value).toList)) := Lib.hid (below_put (by have := HWL.out; have := HW1.out; have := HGL.out; omega) _ _ _ _ HB13.out)
      have HZ14 := kzq HZ13 hch.out.size
      have Hc14 := kcq Hc13 hch (by have := HWL.out; have := HW1.out; have := HGL.out; omega)
      have Hm14 := kcq Hm13 hch (by have := HWL.out; have := HW1.out; have := HGL.out; omega)
      have Hx14 := kcq Hx13 hch (by have := HWL.out; have := HW1.out; have := HGL.out; omega)
      have HST := Lib.hid (HSS.out.chgS hch.out (by have := HBB.out; have := HWL.out; have := HGX.out; omega))
      have HQR := Lib.hid ((HQQ.out.imp (Q := fun b => b ≠ w.heap.size + 1 + 1 ∧ (P b ∨ (w.heap.size ≤ b ∧ b < B3))) (fun b h => by
       have h5 := HBB.out
       have h6 := HWL.out
       have h7 := HGX.out
       rcases h with (h1 | h1) | h1
       ·have := HPW.out _ h1
        exact ⟨by omega, .inl h1⟩
       ·exact ⟨by omega, .inr (by omega)⟩
       ·exact ⟨by omega, .inr (by omega)⟩)).keepP (KeepP.of_chg hch.out (by rintro ⟨h, _⟩; exact h rfl)))
      clear HSS HQQ
      clear hch Hc13 Hm13 Hr13 Hx13 HB13 HZ13
      refine wpList_store_mid rfl 27 (.tmp 6) (.tmp 74) rfl (w.heap.size + 1 + 1) 0 #[.int .i64 (N : Int), .slice p3 n3 c3] rfl rfl HTH.out (infoC2 rfl) (all_oneCell_toArray (by intro u hu; simp at hu; rcases hu with rfl | rfl <;> rfl)) ?_
      generalize (w9.setCells (w.heap.size + 1 + 1) 0 (#[.int .i64 (N : Int), .slice p3 n3 c3] : Array Value).toList) = W9q at *
      clear HTH
      go_wp2_with fail
      have hfr := Hr14.out
      refine bodyPost_ret (v := .tuple #[.agg #[.int .i64 (N : Int), .slice p3 n3 c3], .slice pv3 nv3 cv3, .int .i64 0]) (by simp [results, Try.results29, go_sem, hfr.cell 0, hfr.cell 1]) rfl (by rw [HE.out]; exact ⟨p3, n3, c3, pv3, nv3, cv3, B3, rfl, HN3.out.1, HN3.out.2, by have := HBB.out; have := HWL.out; have := HGX.out; omega, HQR.out.imp (fun b h => h.2), HST.out, HB14.out⟩)
     ·skip
      have HE : Hid (offerC N rs y.m j = (rs.set (y.m.y - 1).toNat v, [], 0)) := by show _ = _; unfold offerC; rw [HX.out, if_neg (by rw [HBS.out]; decide), if_neg (by rw [HXO.out, HBO.out]; decide), if_neg HMI.out, if_neg (fun h => h HFE.out), HV.out, if_pos HBA.out]
      go_upto_region 13 with fail
      have HGX : Hid (W.heap.size ≤ w8.heap.size) := Lib.hid (by have := Hx12.out.lt; have := HW1.out; omega)
      have HG := Lib.hid (cwith_any w8 (fun b => P b ∨ (W.heap.size ≤ b ∧ b < w8.heap.size)) (N : Int) y.m.y p n c rs (⟨v, some ⟨g, 0, none⟩, N, pl, cl, pn, cn⟩ : RunX) ((HRS.out.kept HB12.out).imp (fun b h => .inl h)) HKK.out.1 HKK.out.2.1 HKK.out.2.2.1 HKK.out.2.2.2 (((HO4.out.imp (Q := fun b => P b ∨ W.heap.size ≤ b) (fun b h => h.imp id (fun h => h.1))).in_ (fun b h1 _ => .inr h1)).lt.imp (fun b h => h.1.imp id (fun h1 => ⟨h1, h.2⟩))))
      rw [RunX.v_mk] at HG
      have a0 : w8.cell? ⟨w.heap.size, 0, none⟩ = some (.int .i64 (N : Int)) := Hc12.out.cell 0
      have a1 : w8.cell? ⟨w.heap.size, 1, none⟩ = some (.slice p n c) := Hc12.out.cell 1
      have m6 : w8.cell? ⟨(w.heap.size + 1), 6, none⟩ = some (.int .i64 y.m.y) := Hm12.out.cell 6
      have x0 : w8.cell? ⟨gx, 0, none⟩ = some (.int .i64 v.cu) := Hx12.out.cell 0
      have x1 : w8.cell? ⟨gx, 1, none⟩ = some (.int .i64 v.st) := Hx12.out.cell 1
      have x2 : w8.cell? ⟨gx, 2, none⟩ = some (.slice (some ⟨g, 0, none⟩) v.hs.length N) := Hx12.out.cell 2
      have x3 : w8.cell? ⟨gx, 3, none⟩ = some (.slice pl v.ls.length cl) := Hx12.out.cell 3
      have x4 : w8.cell? ⟨gx, 4, none⟩ = some (.slice pn v.ns.length cn) := Hx12.out.cell 4
      go_wp2_with fail
      clear a0 a1 m6 x0 x1 x2 x3 x4
      refine HG.out.mono ?_
      rintro y9 w5 ⟨p3, c3, rfl, hq3, hb⟩
      clear HG
      have HQQ := Lib.hid hq3.lt
      have HBB : Hid (w8.heap.size ≤ w5.heap.size) := Lib.hid hb.size
      clear hq3
      have Hc13 := kbq Hc12 hb
      have Hm13 := kbq Hm12 hb
      have Hr13 := kbq Hr12 hb
      have Hx13 := kbq Hx12 hb
      have HB13 := ktq HB12 hb
      have HZ13 := kzq HZ12 hb.size
      clear Hc12 Hm12 Hr12 Hx12 HB12 HZ12
      clear hb
      go_wp2_with (with_reducible refine stop_storeT 27 (.tmp 6) (.tmp 68) rfl ?_)
      have HTH : Hid (w5.there (w.heap.size + 1 + 1) 0 2) := Hr13.out.thereAt
      have hch : Hid (Chg (w.heap.size + 1 + 1) w5 (w5.setCells (w.heap.size + 1 + 1) 0 (#[.int .i64 (N : Int), .slice p3 n c3] : Array Value).toList)) := Lib.hid (chg_putL _ _ _ _ _ (Chg.refl _ w5))
      have Hr14 : Hid (Blk (w5.setCells (w.heap.size + 1 + 1) 0 (#[.int .i64 (N : Int), .slice p3 n c3] : Array Value).toList) (w.heap.size + 1 + 1) #[.int .i64 (N : Int), .slice p3 n c3] 27) := Lib.hid (blk_put_all Hr13.out _ rfl)
      have HB14 : Hid (Below w.heap.size w (w5.setCells (w.heap.size + 1 + 1) 0 (#[.int .i64 (N : Int), .slice p3 n c3] : Array Value).toList)) := Lib.hid (below_put (by have := HWL.out; have := HW1.out; have := HGL.out; omega) _ _ _ _ HB13.out)
      have HZ14 := kzq HZ13 hch.out.size
      have Hc14 := kcq Hc13 hch (by have := HWL.out; have := HW1.out; have := HGL.out; omega)
      have Hm14 := kcq Hm13 hch (by have := HWL.out; have := HW1.out; have := HGL.out; omega)
      have Hx14 := kcq Hx13 hch (by have := HWL.out; have := HW1.out; have := HGL.out; omega)
      have HQR := Lib.hid ((HQQ.out.imp (Q := fun b => b ≠ w.heap.size + 1 + 1 ∧ (P b ∨ (w.heap.size ≤ b ∧ b < w5.heap.size))) (fun b h => by
       have h5 := HBB.out
       have h6 := HWL.out
       have h7 := HGX.out
       obtain ⟨h, h9⟩ := h
       rcases h with (h1 | h1) | h1
       ·have := HPW.out _ h1
        exact ⟨by omega, .inl h1⟩
       ·exact ⟨by omega, .inr (by omega)⟩
       ·exact ⟨by omega, .inr (by omega)⟩)).keepP (KeepP.of_chg hch.out (by rintro ⟨h, _⟩; exact h rfl)))
      clear HQQ
      clear hch Hc13 Hm13 Hr13 Hx13 HB13 HZ13
      refine wpList_store_mid rfl 27 (.tmp 6) (.tmp 68) rfl (w.heap.size + 1 + 1) 0 #[.int .i64 (N : Int), .slice p3 n c3] rfl rfl HTH.out (infoC2 rfl) (all_oneCell_toArray (by intro u hu; simp at hu; rcases hu with rfl | rfl <;> rfl)) ?_
      generalize (w5.setCells (w.heap.size + 1 + 1) 0 (#[.int .i64 (N : Int), .slice p3 n c3] : Array Value).toList) = W9w at *
      clear HTH
      go_wp2_with fail
      have hfr := Hr14.out
      refine bodyPost_ret (v := .tuple #[.agg #[.int .i64 (N : Int), .slice p3 n c3], .slice none 0 0, .int .i64 0]) (by simp [results, Try.results29, go_sem, hfr.cell 0, hfr.cell 1]) rfl (by rw [HE.out]; exact ⟨p3, n, c3, none, 0, 0, w5.heap.size, rfl, by rw [List.length_set]; exact HKK.out.1, rfl, by have := HBB.out; have := HGX.out; have := HWL.out; omega, HQR.out.imp (fun b h => h.2), SaidL.nil_ _ _, HB14.out⟩)
    ·skip
     have HFE : Hid (fitE (N : Int) y.m.ls ≠ 0) := Lib.hid (by rw [HFQ.out]; exact hfe)
     have hfb : (fe != 0) = true := by simpa using hfe
     clear hfe
     have HE : Hid (offerC N rs y.m j = (rs, [], fe)) := by show _ = _; unfold offerC; rw [HX.out, if_neg (by rw [HBS.out]; decide), if_neg (by rw [HXO.out, HBO.out]; decide), if_neg HMI.out, if_pos HFE.out, HFQ.out]
     go_upto_region 10 with fail
     clear hfb hjN hjC
     have a0 : w6.cell? ⟨w.heap.size, 0, none⟩ = some (.int .i64 (N : Int)) := Hc7.out.cell 0
     have a1 : w6.cell? ⟨w.heap.size, 1, none⟩ = some (.slice p n c) := Hc7.out.cell 1
     go_wp2_with (with_reducible refine stop_storeT 27 (.tmp 6) (.tmp 46) rfl ?_)
     clear a0 a1
     have HTH : Hid (w6.there (w.heap.size + 1 + 1) 0 2) := Hr7.out.thereAt
     have hch : Hid (Chg (w.heap.size + 1 + 1) w6 (w6.setCells (w.heap.size + 1 + 1) 0 (#[.int .i64 (N : Int), .slice p n c] : Array Value).toList)) := Lib.hid (chg_putL _ _ _ _ _ (Chg.refl _ w6))
     have Hr8 : Hid (Blk (w6.setCells (w.heap.size + 1 + 1) 0 (#[.int .i64 (N : Int), .slice p n c] : Array Value).toList) (w.heap.size + 1 + 1) #[.int .i64 (N : Int), .slice p n c] 27) := Lib.hid (blk_put_all Hr7.out _ rfl)
     have HB8 : Hid (Below w.heap.size w (w6.setCells (w.heap.size + 1 + 1) 0 (#[.int .i64 (N : Int), .slice p n c] : Array Value).toList)) := Lib.hid (below_put (by have := HWL.out; have := HW1.out; have := HGL.out; omega) _ _ _ _ HB7.out)
     have HZ8 := kzq HZ7 hch.out.size
     have Hc8 := kcq Hc7 hch (by have := HWL.out; have := HW1.out; have := HGL.out; omega)
     have Hm8 := kcq Hm7 hch (by have := HWL.out; have := HW1.out; have := HGL.out; omega)
     have Hx8 := kcq Hx7 hch (by have := HWL.out; have := HW1.out; have := HGL.out; omega)
     clear hch Hc7 Hm7 Hr7 Hx7 HB7 HZ7
     refine wpList_store_mid rfl 27 (.tmp 6) (.tmp 46) rfl (w.heap.size + 1 + 1) 0 #[.int .i64 (N : Int), .slice p n c] rfl rfl HTH.out (infoC2 rfl) (all_oneCell_toArray (by intro u hu; simp at hu; rcases hu with rfl | rfl <;> rfl)) ?_
     generalize (w6.setCells (w.heap.size + 1 + 1) 0 (#[.int .i64 (N : Int), .slice p n c] : Array Value).toList) = W9f at *
     clear HTH
     go_wp2_with fail
     have hfr := Hr8.out
     refine bodyPost_ret (v := .tuple #[.agg #[.int .i64 (N : Int), .slice p n c], .slice none 0 0, .int .i64 fe]) (by simp [results, Try.results29, go_sem, hfr.cell 0, hfr.cell 1]) rfl (by rw [HE.out]; exact ⟨p, n, c, none, 0, 0, W9f.heap.size, rfl, HKK.out.1, rfl, HZ8.out, (HRS.out.kept HB8.out).imp (fun b h => .inl h), SaidL.nil_ _ _, HB8.out⟩)
  ·skip
   have x2 : W2.cell? ⟨gx, 2, none⟩ = some (.slice (some ⟨g, 0, none⟩) r.hs.length N) := Hx2.out.cell 2
   have HE : Hid (offerC N rs y.m j = (rs, [], 5)) := by show _ = _; unfold offerC; rw [HX.out, if_neg (by rw [HBS.out]; decide), if_pos (by rw [HXO.out, HBO.out])]
   go_upto_region 5 with fail
   clear x2 z1 hjN hjC
   have a0 : W2.cell? ⟨w.heap.size, 0, none⟩ = some (.int .i64 (N : Int)) := Hc2.out.cell 0
   have a1 : W2.cell? ⟨w.heap.size, 1, none⟩ = some (.slice p n c) := Hc2.out.cell 1
   go_wp2_with (with_reducible refine stop_storeT 27 (.tmp 6) (.tmp 27) rfl ?_)
   clear a0 a1
   have HTH : Hid (W2.there (w.heap.size + 1 + 1) 0 2) := Hr2.out.thereAt
   have hch : Hid (Chg (w.heap.size + 1 + 1) W2 (W2.setCells (w.heap.size + 1 + 1) 0 (#[.int .i64 (N : Int), .slice p n c] : Array Value).toList)) := Lib.hid (chg_putL _ _ _ _ _ (Chg.refl _ W2))
   have Hr3 : Hid (Blk (W2.setCells (w.heap.size + 1 + 1) 0 (#[.int .i64 (N : Int), .slice p n c] : Array Value).toList) (w.heap.size + 1 + 1) #[.int .i64 (N : Int), .slice p n c] 27) := Lib.hid (blk_put_all Hr2.out _ rfl)
   have HB3 : Hid (Below w.heap.size w (W2.setCells (w.heap.size + 1 + 1) 0 (#[.int .i64 (N : Int), .slice p n c] : Array Value).toList)) := Lib.hid (below_put (by have := HWL.out; have := HW1.out; have := HGL.out; omega) _ _ _ _ HB2.out)
   have HZ3 := kzq HZ2 hch.out.size
   have Hc3 := kcq Hc2 hch (by have := HWL.out; have := HW1.out; have := HGL.out; omega)
   have Hm3 := kcq Hm2 hch (by have := HWL.out; have := HW1.out; have := HGL.out; omega)
   have Hx3 := kcq Hx2 hch (by have := HWL.out; have := HW1.out; have := HGL.out; omega)
   clear hch Hc2 Hm2 Hr2 Hx2 HB2 HZ2
   refine wpList_store_mid rfl 27 (.tmp 6) (.tmp 27) rfl (w.heap.size + 1 + 1) 0 #[.int .i64 (N : Int), .slice p n c] rfl rfl HTH.out (infoC2 rfl) (all_oneCell_toArray (by intro u hu; simp at hu; rcases hu with rfl | rfl <;> rfl)) ?_
   generalize (W2.setCells (w.heap.size + 1 + 1) 0 (#[.int .i64 (N : Int), .slice p n c] : Array Value).toList) = W9t at *
   clear HTH
   go_wp2_with fail
   have hfr := Hr3.out
   refine bodyPost_ret (v := .tuple #[.agg #[.int .i64 (N : Int), .slice p n c], .slice none 0 0, .int .i64 5]) (by simp [results, Try.results29, go_sem, hfr.cell 0, hfr.cell 1]) rfl (by rw [HE.out]; exact ⟨p, n, c, none, 0, 0, W9t.heap.size, rfl, HKK.out.1, rfl, HZ3.out, (HRS.out.kept HB3.out).imp (fun b h => .inl h), SaidL.nil_ _ _, HB3.out⟩)
 ·skip
  have hst : (r.st != 1) = true := hbs
  clear hbs
  have x1 : W2.cell? ⟨gx, 1, none⟩ = some (.int .i64 r.st) := Hx2.out.cell 1
  have HE : Hid (offerC N rs y.m j = (rs, [], 90)) := by show _ = _; unfold offerC; rw [HX.out, if_pos HBS.out]
  go_upto_region 3 with fail
  clear x1 hst
  have a0 : W2.cell? ⟨w.heap.size, 0, none⟩ = some (.int .i64 (N : Int)) := Hc2.out.cell 0
  have a1 : W2.cell? ⟨w.heap.size, 1, none⟩ = some (.slice p n c) := Hc2.out.cell 1
  go_wp2_with (with_reducible refine stop_storeT 27 (.tmp 6) (.tmp 19) rfl ?_)
  clear a0 a1
  have HTH : Hid (W2.there (w.heap.size + 1 + 1) 0 2) := Hr2.out.thereAt
  have hch : Hid (Chg (w.heap.size + 1 + 1) W2 (W2.setCells (w.heap.size + 1 + 1) 0 (#[.int .i64 (N : Int), .slice p n c] : Array Value).toList)) := Lib.hid (chg_putL _ _ _ _ _ (Chg.refl _ W2))
  have Hr3 : Hid (Blk (W2.setCells (w.heap.size + 1 + 1) 0 (#[.int .i64 (N : Int), .slice p n c] : Array Value).toList) (w.heap.size + 1 + 1) #[.int .i64 (N : Int), .slice p n c] 27) := Lib.hid (blk_put_all Hr2.out _ rfl)
  have HB3 : Hid (Below w.heap.size w (W2.setCells (w.heap.size + 1 + 1) 0 (#[.int .i64 (N : Int), .slice p n c] : Array Value).toList)) := Lib.hid (below_put (by have := HWL.out; have := HW1.out; have := HGL.out; omega) _ _ _ _ HB2.out)
  have HZ3 := kzq HZ2 hch.out.size
  have Hc3 := kcq Hc2 hch (by have := HWL.out; have := HW1.out; have := HGL.out; omega)
  have Hm3 := kcq Hm2 hch (by have := HWL.out; have := HW1.out; have := HGL.out; omega)
  have Hx3 := kcq Hx2 hch (by have := HWL.out; have := HW1.out; have := HGL.out; omega)
  clear hch Hc2 Hm2 Hr2 Hx2 HB2 HZ2
  refine wpList_store_mid rfl 27 (.tmp 6) (.tmp 19) rfl (w.heap.size + 1 + 1) 0 #[.int .i64 (N : Int), .slice p n c] rfl rfl HTH.out (infoC2 rfl) (all_oneCell_toArray (by intro u hu; simp at hu; rcases hu with rfl | rfl <;> rfl)) ?_
  generalize (W2.setCells (w.heap.size + 1 + 1) 0 (#[.int .i64 (N : Int), .slice p n c] : Array Value).toList) = W9s at *
  clear HTH
  go_wp2_with fail
  have hfr := Hr3.out
  refine bodyPost_ret (v := .tuple #[.agg #[.int .i64 (N : Int), .slice p n c], .slice none 0 0, .int .i64 90]) (by simp [results, Try.results29, go_sem, hfr.cell 0, hfr.cell 1]) rfl (by rw [HE.out]; exact ⟨p, n, c, none, 0, 0, W9s.heap.size, rfl, HKK.out.1, rfl, HZ3.out, (HRS.out.kept HB3.out).imp (fun b h => .inl h), SaidL.nil_ _ _, HB3.out⟩)
end Go.Proofs.Yteogdfpkcoodlaa
namespace Go.Proofs.Yteogdfpkcoodlaa
open Go.RowKit
set_option linter.unusedSimpArgs false
def Rn.vote (r : Rn) (j : Nat) : Rn := { r with hs := r.hs.set j { r.hs.getD j hd0 with t := true } }
/-- What an entity's vote does. -/
def voteC (N : Nat) (rs : List Rn) (m : Msg) (j : Nat) : CAns :=
 if ((rnAt rs m.y).st != 2) = true then (rs, [], 90) else if ((rnAt rs m.y).hs.getD j hd0).t = true then (rs, [], 5) else
 if m.t = false then (rs.set (m.y - 1).toNat (((rnAt rs m.y).vote j).to 4), toAllL N (decM m.y (((rnAt rs m.y).vote j).to 4)), 0) else
 if ((rnAt rs m.y).vote j).hs.any (fun h => !h.t) = true then (rs.set (m.y - 1).toNat ((rnAt rs m.y).vote j), [], 0) else (rs.set (m.y - 1).toNat (((rnAt rs m.y).vote j).to 3), toAllL N (decM m.y (((rnAt rs m.y).vote j).to 3)), 0)
set_option linter.unusedSimpArgs false in
set_option maxHeartbeats 4000000 in
set_option maxRecDepth 100000 in
theorem cvote_any (w : World) (P : Nat → Prop) (N : Nat) (p : Option Addr) (n c : Nat) (rs : List Rn) (y : MsgX) (j : Nat) (hrs : RsR P w (.slice p n c) rs) (hpw : ∀ b, P b → b < w.heap.size) (hn : n = rs.length) (hl : n ≤ 2000) (hk1 : 1 ≤ y.m.y) (hk2 : y.m.y ≤ n) (hN1 : 1 ≤ N) (hN8 : N ≤ 8) (hlen : ∀ r ∈ rs, r.hs.length = N) (hj : j < N) :
  Calls Try.prog 30 #[.agg #[.int .i64 (N : Int), .slice p n c], y.m.v (.slice y.pl y.m.ls.length y.cl) (.slice y.pn y.m.ns.length y.cn), .int .i64 (j : Int)] w (CP w P N (voteC N rs y.m j)) := by
 unfold CP
 have HRS := Lib.hid hrs
 have HPW := Lib.hid hpw
 have HNN : Hid (1 ≤ N ∧ N ≤ 8) := Lib.hid ⟨hN1, hN8⟩
 have HKK : Hid (n = rs.length ∧ n ≤ 2000 ∧ 1 ≤ y.m.y ∧ y.m.y ≤ n) := Lib.hid ⟨hn, hl, hk1, hk2⟩
 have HLN := Lib.hid hlen
 have HJ : Hid (j < N) := Lib.hid hj
 clear hrs hpw hN1 hN8 hn hl hk1 hk2 hlen hj
 unfold Msg.v
 have HB0 : Hid (Below w.heap.size w (((w.alloc (.cells #[.int .i64 (N : Int), .slice p n c] 27)).alloc (.cells #[.int .i64 y.m.k, .int .i64 y.m.s, .int .i64 y.m.n, .int .i64 y.m.b, .int .i64 y.m.c, .int .i64 y.m.r, .int .i64 y.m.y, .int .i64 y.m.a, .bool y.m.t, .slice y.pl y.m.ls.length y.cl, .slice y.pn y.m.ns.length y.cn] 36)).alloc (.cells #[.int .i64 0, .slice none 0 0] 27))) := Lib.hid ((((oneB w _).alloc (by simp <;> omega) _).alloc (by simp <;> omega) _))
 have Hc0 : Hid (Blk (((w.alloc (.cells #[.int .i64 (N : Int), .slice p n c] 27)).alloc (.cells #[.int .i64 y.m.k, .int .i64 y.m.s, .int .i64 y.m.n, .int .i64 y.m.b, .int .i64 y.m.c, .int .i64 y.m.r, .int .i64 y.m.y, .int .i64 y.m.a, .bool y.m.t, .slice y.pl y.m.ls.length y.cl, .slice y.pn y.m.ns.length y.cn] 36)).alloc (.cells #[.int .i64 0, .slice none 0 0] 27)) w.heap.size #[.int .i64 (N : Int), .slice p n c] 27) := Lib.hid (((Blk.new w #[.int .i64 (N : Int), .slice p n c] 27).alloc _).alloc _)
 have Hm0 : Hid (Blk (((w.alloc (.cells #[.int .i64 (N : Int), .slice p n c] 27)).alloc (.cells #[.int .i64 y.m.k, .int .i64 y.m.s, .int .i64 y.m.n, .int .i64 y.m.b, .int .i64 y.m.c, .int .i64 y.m.r, .int .i64 y.m.y, .int .i64 y.m.a, .bool y.m.t, .slice y.pl y.m.ls.length y.cl, .slice y.pn y.m.ns.length y.cn] 36)).alloc (.cells #[.int .i64 0, .slice none 0 0] 27)) (w.heap.size + 1) #[.int .i64 y.m.k, .int .i64 y.m.s, .int .i64 y.m.n, .int .i64 y.m.b, .int .i64 y.m.c, .int .i64 y.m.r, .int .i64 y.m.y, .int .i64 y.m.a, .bool y.m.t, .slice y.pl y.m.ls.length y.cl, .slice y.pn y.m.ns.length y.cn] 36) := Lib.hid ((Blk.new' (w.alloc (.cells #[.int .i64 (N : Int), .slice p n c] 27)) #[.int .i64 y.m.k, .int .i64 y.m.s, .int .i64 y.m.n, .int .i64 y.m.b, .int .i64 y.m.c, .int .i64 y.m.r, .int .i64 y.m.y, .int .i64 y.m.a, .bool y.m.t, .slice y.pl y.m.ls.length y.cl, .slice y.pn y.m.ns.length y.cn] 36 (by simp)).alloc _)
 have Hr0 : Hid (Blk (((w.alloc (.cells #[.int .i64 (N : Int), .slice p n c] 27)).alloc (.cells #[.int .i64 y.m.k, .int .i64 y.m.s, .int .i64 y.m.n, .int .i64 y.m.b, .int .i64 y.m.c, .int .i64 y.m.r, .int .i64 y.m.y, .int .i64 y.m.a, .bool y.m.t, .slice y.pl y.m.ls.length y.cl, .slice y.pn y.m.ns.length y.cn] 36)).alloc (.cells #[.int .i64 0, .slice none 0 0] 27)) (w.heap.size + 1 + 1) #[.int .i64 0, .slice none 0 0] 27) := Lib.hid (Blk.new' ((w.alloc (.cells #[.int .i64 (N : Int), .slice p n c] 27)).alloc (.cells #[.int .i64 y.m.k, .int .i64 y.m.s, .int .i64 y.m.n, .int .i64 y.m.b, .int .i64 y.m.c, .int .i64 y.m.r, .int .i64 y.m.y, .int .i64 y.m.a, .bool y.m.t, .slice y.pl y.m.ls.length y.cl, .slice y.pn y.m.ns.length y.cn] 36)) #[.int .i64 0, .slice none 0 0] 27 (by simp))
 have HZ0 : Hid (w.heap.size ≤ (((w.alloc (.cells #[.int .i64 (N : Int), .slice p n c] 27)).alloc (.cells #[.int .i64 y.m.k, .int .i64 y.m.s, .int .i64 y.m.n, .int .i64 y.m.b, .int .i64 y.m.c, .int .i64 y.m.r, .int .i64 y.m.y, .int .i64 y.m.a, .bool y.m.t, .slice y.pl y.m.ls.length y.cl, .slice y.pn y.m.ns.length y.cn] 36)).alloc (.cells #[.int .i64 0, .slice none 0 0] 27)).heap.size) := Lib.hid HB0.out.size
 go_enter Try.func30, Try.ntmps30
 go_upto_region 1 with fail
 generalize (((w.alloc (.cells #[.int .i64 (N : Int), .slice p n c] 27)).alloc (.cells #[.int .i64 y.m.k, .int .i64 y.m.s, .int .i64 y.m.n, .int .i64 y.m.b, .int .i64 y.m.c, .int .i64 y.m.r, .int .i64 y.m.y, .int .i64 y.m.a, .bool y.m.t, .slice y.pl y.m.ls.length y.cl, .slice y.pn y.m.ns.length y.cn] 36)).alloc (.cells #[.int .i64 0, .slice none 0 0] 27)) = W at *
 have HWL : Hid (w.heap.size + 1 + 1 < W.heap.size) := Lib.hid Hr0.out.lt
 have HG := Lib.hid (crun_any W P N y.m.y p n c rs (HRS.out.kept HB0.out) HKK.out.1 HKK.out.2.1 HKK.out.2.2.1 HKK.out.2.2.2 HNN.out.1 HNN.out.2 HLN.out)
 have a0 : W.cell? ⟨w.heap.size, 0, none⟩ = some (.int .i64 (N : Int)) := Hc0.out.cell 0
 have a1 : W.cell? ⟨w.heap.size, 1, none⟩ = some (.slice p n c) := Hc0.out.cell 1
 have m6 : W.cell? ⟨(w.heap.size + 1), 6, none⟩ = some (.int .i64 y.m.y) := Hm0.out.cell 6
 go_wp2_with fail
 clear a0 a1 m6
 refine HG.out.mono ?_
 rintro y9 w1 ⟨x, rfl, hx, hro, hb⟩
 clear HG
 obtain ⟨r, pf, cf, pl, cl, pn, cn⟩ := x
 obtain ⟨g, hpf, hgb, hgl⟩ := hro.g
 have hcf : N = cf := hro.cap.symm
 have hpf : some ⟨g, 0, none⟩ = pf := hpf.symm
 subst hcf
 subst hpf
 have HLR : Hid (r.hs.length = N) := Lib.hid hro.len
 have HGL : Hid (W.heap.size ≤ g ∧ g < w1.heap.size) := Lib.hid ⟨hgb, hgl⟩
 clear hgb hgl
 have HX : Hid (rnAt rs y.m.y = r) := Lib.hid (by unfold rnAt; rw [hx]; rfl)
 have HXS : Hid (rs[(y.m.y - 1).toNat]? = some r) := Lib.hid hx
 have HO := Lib.hid hro
 have HW1 : Hid (W.heap.size ≤ w1.heap.size) := Lib.hid hb.size
 clear hx hro
 have Hc1 := kbq Hc0 hb
 have Hm1 := kbq Hm0 hb
 have Hr1 := kbq Hr0 hb
 have HB1 := ktq HB0 hb
 have HZ1 := kzq HZ0 hb.size
 clear Hc0 Hm0 Hr0 HB0 HZ0
 clear hb
 rw [RunX.v_mk]
 have hba9 := oneB w1 (.cells #[.int .i64 r.cu, .int .i64 r.st, .slice (some ⟨g, 0, none⟩) r.hs.length N, .slice pl r.ls.length cl, .slice pn r.ns.length cn] 56)
 have HO2 := Lib.hid (HO.out.kept hba9)
 clear hba9 HO
 have hba := oneB w1 (.cells #[.int .i64 r.cu, .int .i64 r.st, .slice (some ⟨g, 0, none⟩) r.hs.length N, .slice pl r.ls.length cl, .slice pn r.ns.length cn] 56)
 have Hc2 := kbq Hc1 hba
 have Hm2 := kbq Hm1 hba
 have Hr2 := kbq Hr1 hba
 have Hx2 := Lib.hid (Blk.new w1 #[.int .i64 r.cu, .int .i64 r.st, .slice (some ⟨g, 0, none⟩) r.hs.length N, .slice pl r.ls.length cl, .slice pn r.ns.length cn] 56)
 have HB2 := Lib.hid (HB1.out.alloc HB1.out.size (.cells #[.int .i64 r.cu, .int .i64 r.st, .slice (some ⟨g, 0, none⟩) r.hs.length N, .slice pl r.ls.length cl, .slice pn r.ns.length cn] 56))
 have HZ2 := kzq HZ1 hba.size
 have HGgx : Hid (w.heap.size ≤ w1.heap.size) := Lib.hid HB1.out.size
 clear hba Hc1 Hm1 Hr1 HB1 HZ1
 go_upto_region 2 with fail
 generalize (w1.alloc (.cells #[.int .i64 r.cu, .int .i64 r.st, .slice (some ⟨g, 0, none⟩) r.hs.length N, .slice pl r.ls.length cl, .slice pn r.ns.length cn] 56)) = W2 at *
 generalize hggx : w1.heap.size = gx at *
 clear hggx
 obtain ⟨bs, hbs⟩ : ∃ bs, (r.st != 2) = bs := ⟨_, rfl⟩
 have HBS := Lib.hid hbs
 cases bs
 ·skip
  have hst : (r.st != 2) = false := hbs
  clear hbs
  have x1 : W2.cell? ⟨gx, 1, none⟩ = some (.int .i64 r.st) := Hx2.out.cell 1
  go_upto_region 4 with fail
  clear x1 hst
  obtain ⟨xo, hxo, hco, hio⟩ := HO2.out.hs.at1 j (by have := HJ.out; have := HLR.out; show j < r.hs.length; omega)
  have hxo : xo.h = r.hs[j]'(by have := HJ.out; have := HLR.out; omega) := hxo
  have HXO : Hid (r.hs.getD j hd0 = xo.h) := Lib.hid (by rw [hxo, List.getD_eq_getElem?_getD, List.getElem?_eq_getElem (by have := HJ.out; have := HLR.out; omega)]; rfl)
  have HXQ : Hid (∀ x : HdX, x.h = r.hs[j]'(by have := HJ.out; have := HLR.out; omega) → x.h = xo.h) := Lib.hid (fun x h => h.trans hxo.symm)
  obtain ⟨bt, hbt⟩ : ∃ bt, xo.h.t = bt := ⟨_, rfl⟩
  have HBT := Lib.hid hbt
  have z1 : W2.cell? ⟨g, j * 3 + 1, none⟩ = some (.bool bt) := by rw [← hbt]; exact (hco 1 (by decide)).1
  have HF1 := Lib.hid (hco 1 (by decide)).2
  clear hxo hco hio hbt
  have hjN : (j : Int) < (r.hs.length : Int) := by have := HJ.out; have := HLR.out; omega
  have hjC : (j : Int) < (N : Int) := by have := HJ.out; omega
  cases bt
  ·skip
   have x2 : W2.cell? ⟨gx, 2, none⟩ = some (.slice (some ⟨g, 0, none⟩) r.hs.length N) := Hx2.out.cell 2
   go_upto_region 6 with fail
   have f1 := HF1.out
   go_upto_region 7 with fail
   clear x2 z1 f1 HF1
   have hch := Lib.hid ((Chg.refl g W2).set (j * 3 + 1) (.bool true))
   have HB3 := ksq HB2 hch (by show w.heap.size ≤ g; have := HWL.out; have := HW1.out; have := HGL.out; omega)
   have HZ3 := kzq HZ2 hch.out.size
   have Hc3 := kcq Hc2 hch (by have := HWL.out; have := HW1.out; have := HGL.out; omega)
   have Hm3 := kcq Hm2 hch (by have := HWL.out; have := HW1.out; have := HGL.out; omega)
   have Hr3 := kcq Hr2 hch (by have := HWL.out; have := HW1.out; have := HGL.out; omega)
   have Hx3 := kcq Hx2 hch (by have := HWL.out; have := HW1.out; have := HGL.out; omega)
   have HO3 : Hid (RunO P (W2.setCell ⟨g, j * 3 + 1, none⟩ (.bool true)) W.heap.size N ⟨r.vote j, some ⟨g, 0, none⟩, N, pl, cl, pn, cn⟩) := Lib.hid (by
    have hgp : ¬ P g := fun h => by have := HPW.out g h; have := HWL.out; have := HW1.out; have := HGL.out; omega
    unfold Rn.vote
    rw [HXO.out]
    exact HO2.out.put1 j 1 (by have := HJ.out; have := HLR.out; omega) (by decide) (.bool true) { xo.h with t := true } hgp (fun x h1 h2 => ⟨⟨{ x.h with t := true }, x.p, x.c⟩, by rw [HXQ.out x h1], rfl, h2⟩))
   have HLV : Hid ((r.vote j).hs.length = r.hs.length) := Lib.hid (by unfold Rn.vote; rw [List.length_set])
   have HVS : Hid ((r.vote j).cu = r.cu ∧ (r.vote j).st = r.st ∧ (r.vote j).ls = r.ls ∧ (r.vote j).ns = r.ns) := Lib.hid ⟨rfl, rfl, rfl, rfl⟩
   clear hch HO2 HXQ Hc2 Hm2 Hr2 Hx2 HB2 HZ2
   generalize (W2.setCell ⟨g, j * 3 + 1, none⟩ (.bool true)) = WV at *
   obtain ⟨v, hv⟩ : ∃ v, r.vote j = v := ⟨_, rfl⟩
   rw [hv] at HO3 HLV HVS
   have HV := Lib.hid hv
   clear hv
   have Hxx : Hid (Blk WV gx #[.int .i64 v.cu, .int .i64 v.st, .slice (some ⟨g, 0, none⟩) v.hs.length N, .slice pl v.ls.length cl, .slice pn v.ns.length cn] 56) := Lib.hid (by rw [HLV.out, HVS.out.1, HVS.out.2.1, HVS.out.2.2.1, HVS.out.2.2.2]; exact Hx3.out)
   clear Hx3
   have Hx3 := Hxx
   clear Hxx
   obtain ⟨by_, hby⟩ : ∃ b, y.m.t = b := ⟨_, rfl⟩
   have HBY := Lib.hid hby
   clear hjN hjC
   have m8 : WV.cell? ⟨(w.heap.size + 1), 8, none⟩ = some (.bool by_) := by rw [← hby]; exact Hm3.out.cell 8
   clear hby
   cases by_
   ·skip
    have HE : Hid (voteC N rs y.m j = (rs.set (y.m.y - 1).toNat ((⟨v, some ⟨g, 0, none⟩, N, pl, cl, pn, cn⟩ : RunX).r.to 4), toAllL N (decM y.m.y ((⟨v, some ⟨g, 0, none⟩, N, pl, cl, pn, cn⟩ : RunX).r.to 4)), 0)) := by show _ = _; unfold voteC; rw [HX.out, if_neg (by rw [HBS.out]; decide), if_neg (by rw [HXO.out, HBT.out]; decide), if_pos HBY.out, HV.out]
    go_upto_region 8 with fail
    clear m8
    have HGX : Hid (W.heap.size ≤ WV.heap.size) := Lib.hid (by have := Hx3.out.lt; have := HW1.out; omega)
    have HG := Lib.hid (cend_any WV (fun b => P b ∨ (W.heap.size ≤ b ∧ b < WV.heap.size)) N y.m.y 4 p n c rs (⟨v, some ⟨g, 0, none⟩, N, pl, cl, pn, cn⟩ : RunX) ((HRS.out.kept HB3.out).imp (fun b h => .inl h)) (fun b h => h.elim (fun h1 => Nat.lt_of_lt_of_le (HPW.out b h1) HZ3.out) (fun h1 => h1.2)) HKK.out.1 HKK.out.2.1 HKK.out.2.2.1 HKK.out.2.2.2 ((HO3.out.imp (fun b h => .inl h)).in_ (fun b h1 h2 => .inr ⟨h1, h2⟩)) HNN.out.2)
    unfold CPost RunX.v at HG
    have a0 : WV.cell? ⟨w.heap.size, 0, none⟩ = some (.int .i64 (N : Int)) := Hc3.out.cell 0
    have a1 : WV.cell? ⟨w.heap.size, 1, none⟩ = some (.slice p n c) := Hc3.out.cell 1
    have m6 : WV.cell? ⟨(w.heap.size + 1), 6, none⟩ = some (.int .i64 y.m.y) := Hm3.out.cell 6
    have x0 : WV.cell? ⟨gx, 0, none⟩ = some (.int .i64 v.cu) := Hx3.out.cell 0
    have x1 : WV.cell? ⟨gx, 1, none⟩ = some (.int .i64 v.st) := Hx3.out.cell 1
    have x2 : WV.cell? ⟨gx, 2, none⟩ = some (.slice (some ⟨g, 0, none⟩) v.hs.length N) := Hx3.out.cell 2
    have x3 : WV.cell? ⟨gx, 3, none⟩ = some (.slice pl v.ls.length cl) := Hx3.out.cell 3
    have x4 : WV.cell? ⟨gx, 4, none⟩ = some (.slice pn v.ns.length cn) := Hx3.out.cell 4
    go_wp2_with fail
    clear a0 a1 m6 x0 x1 x2 x3 x4
    refine HG.out.mono ?_
    rintro y9 w5 ⟨p3, n3, c3, pv3, nv3, cv3, B3, rfl, hn3, hnv3, hB3, hq3, hs3, hb⟩
    clear HG
    have HN3 := Lib.hid (And.intro hn3 hnv3)
    have HBB : Hid (WV.heap.size ≤ B3) := Lib.hid hB3
    have HQQ := Lib.hid hq3
    have HSS := Lib.hid hs3
    clear hn3 hnv3 hB3 hq3 hs3
    have Hc4 := kbq Hc3 hb
    have Hm4 := kbq Hm3 hb
    have Hr4 := kbq Hr3 hb
    have Hx4 := kbq Hx3 hb
    have HB4 := ktq HB3 hb
    have HZ4 := kzq HZ3 hb.size
    clear Hc3 Hm3 Hr3 Hx3 HB3 HZ3
    clear hb
    go_wp2_with (with_reducible refine stop_storeT 27 (.tmp 6) (.tmp 41) rfl ?_)
    have HTH : Hid (w5.there (w.heap.size + 1 + 1) 0 2) := Hr4.out.thereAt
    have hch : Hid (Chg (w.heap.size + 1 + 1) w5 (w5.setCells (w.heap.size + 1 + 1) 0 (#[.int .i64 (N : Int), .slice p3 n3 c3] : Array Value).toList)) := Lib.hid (chg_putL _ _ _ _ _ (Chg.refl _ w5))
    have Hr5 : Hid (Blk (w5.setCells (w.heap.size + 1 + 1) 0 (#[.int .i64 (N : Int), .slice p3 n3 c3] : Array Value).toList) (w.heap.size + 1 + 1) #[.int .i64 (N : Int), .slice p3 n3 c3] 27) := Lib.hid (blk_put_all Hr4.out _ rfl)
    have HB5 : Hid (Below w.heap.size w (w5.setCells (w.heap.size + 1 + 1) 0 (#[.int .i64 (N : Int), .slice p3 n3 c3] : Array Value).toList)) := Lib.hid (below_put (by have := HWL.out; have := HW1.out; have := HGL.out; omega) _ _ _ _ HB4.out)
    have HZ5 := kzq HZ4 hch.out.size
    have Hc5 := kcq Hc4 hch (by have := HWL.out; have := HW1.out; have := HGL.out; omega)
    have Hm5 := kcq Hm4 hch (by have := HWL.out; have := HW1.out; have := HGL.out; omega)
    have Hx5 := kcq Hx4 hch (by have := HWL.out; have := HW1.out; have := HGL.out; omega)
    have HST := Lib.hid (HSS.out.chgS hch.out (by have := HBB.out; have := HWL.out; have := HGX.out; omega))
    have HQR := Lib.hid ((HQQ.out.imp (Q := fun b => b ≠ w.heap.size + 1 + 1 ∧ (P b ∨ (w.heap.size ≤ b ∧ b < B3))) (fun b h => by
     have h5 := HBB.out
     have h6 := HWL.out
     have h7 := HGX.out
     rcases h with (h1 | h1) | h1
     ·have := HPW.out _ h1
      exact ⟨by omega, .inl h1⟩
     ·exact ⟨by omega, .inr (by omega)⟩
     ·exact ⟨by omega, .inr (by omega)⟩)).keepP (KeepP.of_chg hch.out (by rintro ⟨h, _⟩; exact h rfl)))
    clear HSS HQQ
    clear hch Hc4 Hm4 Hr4 Hx4 HB4 HZ4
    refine wpList_store_mid rfl 27 (.tmp 6) (.tmp 41) rfl (w.heap.size + 1 + 1) 0 #[.int .i64 (N : Int), .slice p3 n3 c3] rfl rfl HTH.out (infoC2 rfl) (all_oneCell_toArray (by intro u hu; simp at hu; rcases hu with rfl | rfl <;> rfl)) ?_
    generalize (w5.setCells (w.heap.size + 1 + 1) 0 (#[.int .i64 (N : Int), .slice p3 n3 c3] : Array Value).toList) = W9n at *
    clear HTH
    go_wp2_with fail
    have hfr := Hr5.out
    refine bodyPost_ret (v := .tuple #[.agg #[.int .i64 (N : Int), .slice p3 n3 c3], .slice pv3 nv3 cv3, .int .i64 0]) (by simp [results, Try.results30, go_sem, hfr.cell 0, hfr.cell 1]) rfl (by rw [HE.out]; exact ⟨p3, n3, c3, pv3, nv3, cv3, B3, rfl, HN3.out.1, HN3.out.2, by have := HBB.out; have := HWL.out; have := HGX.out; omega, HQR.out.imp (fun b h => h.2), HST.out, HB5.out⟩)
   ·skip
    go_upto_region 9 with fail
    clear m8
    obtain ⟨ys, hy1, hy2, hy3⟩ := HO3.out.hs
    have HYS := Lib.hid hy1.row
    have HYI : Hid (∀ x ∈ ys, ∃ Q, x.In Q WV) := Lib.hid (fun x hx => ⟨P, hy2 x hx⟩)
    have HYL : Hid (ys.length ≤ 8) := Lib.hid (by have h1 := congrArg List.length hy3; rw [List.length_map] at h1; have h1 : ys.length = v.hs.length := h1; have := HLV.out; have := HLR.out; have := HNN.out; omega)
    have HYA : Hid (ys.any (fun x => !x.h.t) = v.hs.any (fun h => !h.t)) := Lib.hid (by have hy3 : ys.map HdX.h = v.hs := hy3; rw [← hy3, List.any_map]; rfl)
    clear hy1 hy2 hy3
    have HG := Lib.hid (has_vote WV (.slice (some ⟨g, 0, none⟩) v.hs.length N) ys (fun x => !x.h.t) WV.heap.size HYS.out HYI.out (fun W0 hW0 x0 hx0 => noT_any W0 x0) (Nat.le_refl _) (by have := HYL.out; omega))
    rw [HYA.out] at HG
    obtain ⟨ba, hba⟩ : ∃ ba, v.hs.any (fun h => !h.t) = ba := ⟨_, rfl⟩
    rw [hba] at HG
    have HBA := Lib.hid hba
    clear hba HYS HYI HYA HYL
    have x2 : WV.cell? ⟨gx, 2, none⟩ = some (.slice (some ⟨g, 0, none⟩) v.hs.length N) := Hx3.out.cell 2
    go_wp2_with fail
    clear x2
    refine HG.out.mono ?_
    rintro y9 w4 ⟨rfl, hb⟩
    clear HG
    have HO4 := Lib.hid (HO3.out.kept hb)
    clear HO3
    have Hc4 := kbq Hc3 hb
    have Hm4 := kbq Hm3 hb
    have Hr4 := kbq Hr3 hb
    have Hx4 := kbq Hx3 hb
    have HB4 := ktq HB3 hb
    have HZ4 := kzq HZ3 hb.size
    clear Hc3 Hm3 Hr3 Hx3 HB3 HZ3
    clear hb
    cases ba
    ·skip
     have HE : Hid (voteC N rs y.m j = (rs.set (y.m.y - 1).toNat ((⟨v, some ⟨g, 0, none⟩, N, pl, cl, pn, cn⟩ : RunX).r.to 3), toAllL N (decM y.m.y ((⟨v, some ⟨g, 0, none⟩, N, pl, cl, pn, cn⟩ : RunX).r.to 3)), 0)) := by show _ = _; unfold voteC; rw [HX.out, if_neg (by rw [HBS.out]; decide), if_neg (by rw [HXO.out, HBT.out]; decide), if_neg (by rw [HBY.out]; decide), HV.out, if_neg (by rw [HBA.out]; decide)]
     go_upto_region 11 with fail
     have HGX : Hid (W.heap.size ≤ w4.heap.size) := Lib.hid (by have := Hx4.out.lt; have := HW1.out; omega)
     have HG := Lib.hid (cend_any w4 (fun b => P b ∨ (W.heap.size ≤ b ∧ b < w4.heap.size)) N y.m.y 3 p n c rs (⟨v, some ⟨g, 0, none⟩, N, pl, cl, pn, cn⟩ : RunX) ((HRS.out.kept HB4.out).imp (fun b h => .inl h)) (fun b h => h.elim (fun h1 => Nat.lt_of_lt_of_le (HPW.out b h1) HZ4.out) (fun h1 => h1.2)) HKK.out.1 HKK.out.2.1 HKK.out.2.2.1 HKK.out.2.2.2 ((HO4.out.imp (fun b h => .inl h)).in_ (fun b h1 h2 => .inr ⟨h1, h2⟩)) HNN.out.2)
     unfold CPost RunX.v at HG
     have a0 : w4.cell? ⟨w.heap.size, 0, none⟩ = some (.int .i64 (N : Int)) := Hc4.out.cell 0
     have a1 : w4.cell? ⟨w.heap.size, 1, none⟩ = some (.slice p n c) := Hc4.out.cell 1
     have m6 : w4.cell? ⟨(w.heap.size + 1), 6, none⟩ = some (.int .i64 y.m.y) := Hm4.out.cell 6
     have x0 : w4.cell? ⟨gx, 0, none⟩ = some (.int .i64 v.cu) := Hx4.out.cell 0
     have x1 : w4.cell? ⟨gx, 1, none⟩ = some (.int .i64 v.st) := Hx4.out.cell 1
     have x2 : w4.cell? ⟨gx, 2, none⟩ = some (.slice (some ⟨g, 0, none⟩) v.hs.length N) := Hx4.out.cell 2
     have x3 : w4.cell? ⟨gx, 3, none⟩ = some (.slice pl v.ls.length cl) := Hx4.out.cell 3
     have x4 : w4.cell? ⟨gx, 4, none⟩ = some (.slice pn v.ns.length cn) := Hx4.out.cell 4
     go_wp2_with fail
     clear a0 a1 m6 x0 x1 x2 x3 x4
     refine HG.out.mono ?_
     rintro y9 w5 ⟨p3, n3, c3, pv3, nv3, cv3, B3, rfl, hn3, hnv3, hB3, hq3, hs3, hb⟩
     clear HG
     have HN3 := Lib.hid (And.intro hn3 hnv3)
     have HBB : Hid (w4.heap.size ≤ B3) := Lib.hid hB3
     have HQQ := Lib.hid hq3
     have HSS := Lib.hid hs3
     clear hn3 hnv3 hB3 hq3 hs3
     have Hc5 := kbq Hc4 hb
     have Hm5 := kbq Hm4 hb
     have Hr5 := kbq Hr4 hb
     have Hx5 := kbq Hx4 hb
     have HB5 := ktq HB4 hb
     have HZ5 := kzq HZ4 hb.size
     clear Hc4 Hm4 Hr4 Hx4 HB4 HZ4
     clear hb
     go_wp2_with (with_reducible refine stop_storeT 27 (.tmp 6) (.tmp 58) rfl ?_)
     have HTH : Hid (w5.there (w.heap.size + 1 + 1) 0 2) := Hr5.out.thereAt
     have hch : Hid (Chg (w.heap.size + 1 + 1) w5 (w5.setCells (w.heap.size + 1 + 1) 0 (#[.int .i64 (N : Int), .slice p3 n3 c3] : Array Value).toList)) := Lib.hid (chg_putL _ _ _ _ _ (Chg.refl _ w5))
     have Hr6 : Hid (Blk (w5.setCells (w.heap.size + 1 + 1) 0 (#[.int .i64 (N : Int), .slice p3 n3 c3] : Array Value).toList) (w.heap.size + 1 + 1) #[.int .i64 (N : Int), .slice p3 n3 c3] 27) := Lib.hid (blk_put_all Hr5.out _ rfl)
     have HB6 : Hid (Below w.heap.size w (w5.setCells (w.heap.size + 1 + 1) 0 (#[.int .i64 (N : Int), .slice p3 n3 c3] : Array Value).toList)) := Lib.hid (below_put (by have := HWL.out; have := HW1.out; have := HGL.out; omega) _ _ _ _ HB5.out)
     have HZ6 := kzq HZ5 hch.out.size
     have Hc6 := kcq Hc5 hch (by have := HWL.out; have := HW1.out; have := HGL.out; omega)
     have Hm6 := kcq Hm5 hch (by have := HWL.out; have := HW1.out; have := HGL.out; omega)
     have Hx6 := kcq Hx5 hch (by have := HWL.out; have := HW1.out; have := HGL.out; omega)
     have HST := Lib.hid (HSS.out.chgS hch.out (by have := HBB.out; have := HWL.out; have := HGX.out; omega))
     have HQR := Lib.hid ((HQQ.out.imp (Q := fun b => b ≠ w.heap.size + 1 + 1 ∧ (P b ∨ (w.heap.size ≤ b ∧ b < B3))) (fun b h => by
      have h5 := HBB.out
      have h6 := HWL.out
      have h7 := HGX.out
      rcases h with (h1 | h1) | h1
      ·have := HPW.out _ h1
       exact ⟨by omega, .inl h1⟩
      ·exact ⟨by omega, .inr (by omega)⟩
      ·exact ⟨by omega, .inr (by omega)⟩)).keepP (KeepP.of_chg hch.out (by rintro ⟨h, _⟩; exact h rfl)))
     clear HSS HQQ
     clear hch Hc5 Hm5 Hr5 Hx5 HB5 HZ5
     refine wpList_store_mid rfl 27 (.tmp 6) (.tmp 58) rfl (w.heap.size + 1 + 1) 0 #[.int .i64 (N : Int), .slice p3 n3 c3] rfl rfl HTH.out (infoC2 rfl) (all_oneCell_toArray (by intro u hu; simp at hu; rcases hu with rfl | rfl <;> rfl)) ?_
     generalize (w5.setCells (w.heap.size + 1 + 1) 0 (#[.int .i64 (N : Int), .slice p3 n3 c3] : Array Value).toList) = W9y at *
     clear HTH
     go_wp2_with fail
     have hfr := Hr6.out
     refine bodyPost_ret (v := .tuple #[.agg #[.int .i64 (N : Int), .slice p3 n3 c3], .slice pv3 nv3 cv3, .int .i64 0]) (by simp [results, Try.results30, go_sem, hfr.cell 0, hfr.cell 1]) rfl (by rw [HE.out]; exact ⟨p3, n3, c3, pv3, nv3, cv3, B3, rfl, HN3.out.1, HN3.out.2, by have := HBB.out; have := HWL.out; have := HGX.out; omega, HQR.out.imp (fun b h => h.2), HST.out, HB6.out⟩)
    ·skip
     have HE : Hid (voteC N rs y.m j = (rs.set (y.m.y - 1).toNat v, [], 0)) := by show _ = _; unfold voteC; rw [HX.out, if_neg (by rw [HBS.out]; decide), if_neg (by rw [HXO.out, HBT.out]; decide), if_neg (by rw [HBY.out]; decide), HV.out, if_pos HBA.out]
     go_upto_region 10 with fail
     have HGX : Hid (W.heap.size ≤ w4.heap.size) := Lib.hid (by have := Hx4.out.lt; have := HW1.out; omega)
     have HG := Lib.hid (cwith_any w4 (fun b => P b ∨ (W.heap.size ≤ b ∧ b < w4.heap.size)) (N : Int) y.m.y p n c rs (⟨v, some ⟨g, 0, none⟩, N, pl, cl, pn, cn⟩ : RunX) ((HRS.out.kept HB4.out).imp (fun b h => .inl h)) HKK.out.1 HKK.out.2.1 HKK.out.2.2.1 HKK.out.2.2.2 ((HO4.out.imp (fun b h => .inl h)).in_ (fun b h1 h2 => .inr ⟨h1, h2⟩)))
     unfold RunX.v at HG
     have a0 : w4.cell? ⟨w.heap.size, 0, none⟩ = some (.int .i64 (N : Int)) := Hc4.out.cell 0
     have a1 : w4.cell? ⟨w.heap.size, 1, none⟩ = some (.slice p n c) := Hc4.out.cell 1
     have m6 : w4.cell? ⟨(w.heap.size + 1), 6, none⟩ = some (.int .i64 y.m.y) := Hm4.out.cell 6
     have x0 : w4.cell? ⟨gx, 0, none⟩ = some (.int .i64 v.cu) := Hx4.out.cell 0
     have x1 : w4.cell? ⟨gx, 1, none⟩ = some (.int .i64 v.st) := Hx4.out.cell 1
     have x2 : w4.cell? ⟨gx, 2, none⟩ = some (.slice (some ⟨g, 0, none⟩) v.hs.length N) := Hx4.out.cell 2
     have x3 : w4.cell? ⟨gx, 3, none⟩ = some (.slice pl v.ls.length cl) := Hx4.out.cell 3
     have x4 : w4.cell? ⟨gx, 4, none⟩ = some (.slice pn v.ns.length cn) := Hx4.out.cell 4
     go_wp2_with fail
     clear a0 a1 m6 x0 x1 x2 x3 x4
     refine HG.out.mono ?_
     rintro y9 w5 ⟨p3, c3, rfl, hq3, hb⟩
     clear HG
     have HQQ := Lib.hid hq3.lt
     have HBB : Hid (w4.heap.size ≤ w5.heap.size) := Lib.hid hb.size
     clear hq3
     have Hc5 := kbq Hc4 hb
     have Hm5 := kbq Hm4 hb
     have Hr5 := kbq Hr4 hb
     have Hx5 := kbq Hx4 hb
     have HB5 := ktq HB4 hb
     have HZ5 := kzq HZ4 hb.size
     clear Hc4 Hm4 Hr4 Hx4 HB4 HZ4
     clear hb
     go_wp2_with (with_reducible refine stop_storeT 27 (.tmp 6) (.tmp 52) rfl ?_)
     have HTH : Hid (w5.there (w.heap.size + 1 + 1) 0 2) := Hr5.out.thereAt
     have hch : Hid (Chg (w.heap.size + 1 + 1) w5 (w5.setCells (w.heap.size + 1 + 1) 0 (#[.int .i64 (N : Int), .slice p3 n c3] : Array Value).toList)) := Lib.hid (chg_putL _ _ _ _ _ (Chg.refl _ w5))
     have Hr6 : Hid (Blk (w5.setCells (w.heap.size + 1 + 1) 0 (#[.int .i64 (N : Int), .slice p3 n c3] : Array Value).toList) (w.heap.size + 1 + 1) #[.int .i64 (N : Int), .slice p3 n c3] 27) := Lib.hid (blk_put_all Hr5.out _ rfl)
     have HB6 : Hid (Below w.heap.size w (w5.setCells (w.heap.size + 1 + 1) 0 (#[.int .i64 (N : Int), .slice p3 n c3] : Array Value).toList)) := Lib.hid (below_put (by have := HWL.out; have := HW1.out; have := HGL.out; omega) _ _ _ _ HB5.out)
     have HZ6 := kzq HZ5 hch.out.size
     have Hc6 := kcq Hc5 hch (by have := HWL.out; have := HW1.out; have := HGL.out; omega)
     have Hm6 := kcq Hm5 hch (by have := HWL.out; have := HW1.out; have := HGL.out; omega)
     have Hx6 := kcq Hx5 hch (by have := HWL.out; have := HW1.out; have := HGL.out; omega)
     have HQR := Lib.hid ((HQQ.out.imp (Q := fun b => b ≠ w.heap.size + 1 + 1 ∧ (P b ∨ (w.heap.size ≤ b ∧ b < w5.heap.size))) (fun b h => by
      have h5 := HBB.out
      have h6 := HWL.out
      have h7 := HGX.out
      obtain ⟨h, h9⟩ := h
      rcases h with (h1 | h1) | h1
      ·have := HPW.out _ h1
       exact ⟨by omega, .inl h1⟩
      ·exact ⟨by omega, .inr (by omega)⟩
      ·exact ⟨by omega, .inr (by omega)⟩)).keepP (KeepP.of_chg hch.out (by rintro ⟨h, _⟩; exact h rfl)))
     clear HQQ
     clear hch Hc5 Hm5 Hr5 Hx5 HB5 HZ5
     refine wpList_store_mid rfl 27 (.tmp 6) (.tmp 52) rfl (w.heap.size + 1 + 1) 0 #[.int .i64 (N : Int), .slice p3 n c3] rfl rfl HTH.out (infoC2 rfl) (all_oneCell_toArray (by intro u hu; simp at hu; rcases hu with rfl | rfl <;> rfl)) ?_
     generalize (w5.setCells (w.heap.size + 1 + 1) 0 (#[.int .i64 (N : Int), .slice p3 n c3] : Array Value).toList) = W9w at *
     clear HTH
     go_wp2_with fail
     have hfr := Hr6.out
     refine bodyPost_ret (v := .tuple #[.agg #[.int .i64 (N : Int), .slice p3 n c3], .slice none 0 0, .int .i64 0]) (by simp [results, Try.results30, go_sem, hfr.cell 0, hfr.cell 1]) rfl (by rw [HE.out]; exact ⟨p3, n, c3, none, 0, 0, w5.heap.size, rfl, by rw [List.length_set]; exact HKK.out.1, rfl, by have := HBB.out; have := HGX.out; have := HWL.out; omega, HQR.out.imp (fun b h => h.2), SaidL.nil_ _ _, HB6.out⟩)
  ·skip
   have x2 : W2.cell? ⟨gx, 2, none⟩ = some (.slice (some ⟨g, 0, none⟩) r.hs.length N) := Hx2.out.cell 2
   have HE : Hid (voteC N rs y.m j = (rs, [], 5)) := by show _ = _; unfold voteC; rw [HX.out, if_neg (by rw [HBS.out]; decide), if_pos (by rw [HXO.out, HBT.out])]
   go_upto_region 5 with fail
   clear x2 z1 HF1 hjN hjC
   have a0 : W2.cell? ⟨w.heap.size, 0, none⟩ = some (.int .i64 (N : Int)) := Hc2.out.cell 0
   have a1 : W2.cell? ⟨w.heap.size, 1, none⟩ = some (.slice p n c) := Hc2.out.cell 1
   go_wp2_with (with_reducible refine stop_storeT 27 (.tmp 6) (.tmp 26) rfl ?_)
   clear a0 a1
   have HTH : Hid (W2.there (w.heap.size + 1 + 1) 0 2) := Hr2.out.thereAt
   have hch : Hid (Chg (w.heap.size + 1 + 1) W2 (W2.setCells (w.heap.size + 1 + 1) 0 (#[.int .i64 (N : Int), .slice p n c] : Array Value).toList)) := Lib.hid (chg_putL _ _ _ _ _ (Chg.refl _ W2))
   have Hr3 : Hid (Blk (W2.setCells (w.heap.size + 1 + 1) 0 (#[.int .i64 (N : Int), .slice p n c] : Array Value).toList) (w.heap.size + 1 + 1) #[.int .i64 (N : Int), .slice p n c] 27) := Lib.hid (blk_put_all Hr2.out _ rfl)
   have HB3 : Hid (Below w.heap.size w (W2.setCells (w.heap.size + 1 + 1) 0 (#[.int .i64 (N : Int), .slice p n c] : Array Value).toList)) := Lib.hid (below_put (by have := HWL.out; have := HW1.out; have := HGL.out; omega) _ _ _ _ HB2.out)
   have HZ3 := kzq HZ2 hch.out.size
   have Hc3 := kcq Hc2 hch (by have := HWL.out; have := HW1.out; have := HGL.out; omega)
   have Hm3 := kcq Hm2 hch (by have := HWL.out; have := HW1.out; have := HGL.out; omega)
   have Hx3 := kcq Hx2 hch (by have := HWL.out; have := HW1.out; have := HGL.out; omega)
   clear hch Hc2 Hm2 Hr2 Hx2 HB2 HZ2
   refine wpList_store_mid rfl 27 (.tmp 6) (.tmp 26) rfl (w.heap.size + 1 + 1) 0 #[.int .i64 (N : Int), .slice p n c] rfl rfl HTH.out (infoC2 rfl) (all_oneCell_toArray (by intro u hu; simp at hu; rcases hu with rfl | rfl <;> rfl)) ?_
   generalize (W2.setCells (w.heap.size + 1 + 1) 0 (#[.int .i64 (N : Int), .slice p n c] : Array Value).toList) = W9t at *
   clear HTH
   go_wp2_with fail
   have hfr := Hr3.out
   refine bodyPost_ret (v := .tuple #[.agg #[.int .i64 (N : Int), .slice p n c], .slice none 0 0, .int .i64 5]) (by simp [results, Try.results30, go_sem, hfr.cell 0, hfr.cell 1]) rfl (by rw [HE.out]; exact ⟨p, n, c, none, 0, 0, W9t.heap.size, rfl, HKK.out.1, rfl, HZ3.out, (HRS.out.kept HB3.out).imp (fun b h => .inl h), SaidL.nil_ _ _, HB3.out⟩)
 ·skip
  have hst : (r.st != 2) = true := hbs
  clear hbs
  have x1 : W2.cell? ⟨gx, 1, none⟩ = some (.int .i64 r.st) := Hx2.out.cell 1
  have HE : Hid (voteC N rs y.m j = (rs, [], 90)) := by show _ = _; unfold voteC; rw [HX.out, if_pos HBS.out]
  go_upto_region 3 with fail
  clear x1 hst
  have a0 : W2.cell? ⟨w.heap.size, 0, none⟩ = some (.int .i64 (N : Int)) := Hc2.out.cell 0
  have a1 : W2.cell? ⟨w.heap.size, 1, none⟩ = some (.slice p n c) := Hc2.out.cell 1
  go_wp2_with (with_reducible refine stop_storeT 27 (.tmp 6) (.tmp 18) rfl ?_)
  clear a0 a1
  have HTH : Hid (W2.there (w.heap.size + 1 + 1) 0 2) := Hr2.out.thereAt
  have hch : Hid (Chg (w.heap.size + 1 + 1) W2 (W2.setCells (w.heap.size + 1 + 1) 0 (#[.int .i64 (N : Int), .slice p n c] : Array Value).toList)) := Lib.hid (chg_putL _ _ _ _ _ (Chg.refl _ W2))
  have Hr3 : Hid (Blk (W2.setCells (w.heap.size + 1 + 1) 0 (#[.int .i64 (N : Int), .slice p n c] : Array Value).toList) (w.heap.size + 1 + 1) #[.int .i64 (N : Int), .slice p n c] 27) := Lib.hid (blk_put_all Hr2.out _ rfl)
  have HB3 : Hid (Below w.heap.size w (W2.setCells (w.heap.size + 1 + 1) 0 (#[.int .i64 (N : Int), .slice p n c] : Array Value).toList)) := Lib.hid (below_put (by have := HWL.out; have := HW1.out; have := HGL.out; omega) _ _ _ _ HB2.out)
  have HZ3 := kzq HZ2 hch.out.size
  have Hc3 := kcq Hc2 hch (by have := HWL.out; have := HW1.out; have := HGL.out; omega)
  have Hm3 := kcq Hm2 hch (by have := HWL.out; have := HW1.out; have := HGL.out; omega)
  have Hx3 := kcq Hx2 hch (by have := HWL.out; have := HW1.out; have := HGL.out; omega)
  clear hch Hc2 Hm2 Hr2 Hx2 HB2 HZ2
  refine wpList_store_mid rfl 27 (.tmp 6) (.tmp 18) rfl (w.heap.size + 1 + 1) 0 #[.int .i64 (N : Int), .slice p n c] rfl rfl HTH.out (infoC2 rfl) (all_oneCell_toArray (by intro u hu; simp at hu; rcases hu with rfl | rfl <;> rfl)) ?_
  generalize (W2.setCells (w.heap.size + 1 + 1) 0 (#[.int .i64 (N : Int), .slice p n c] : Array Value).toList) = W9s at *
  clear HTH
  go_wp2_with fail
  have hfr := Hr3.out
  refine bodyPost_ret (v := .tuple #[.agg #[.int .i64 (N : Int), .slice p n c], .slice none 0 0, .int .i64 90]) (by simp [results, Try.results30, go_sem, hfr.cell 0, hfr.cell 1]) rfl (by rw [HE.out]; exact ⟨p, n, c, none, 0, 0, W9s.heap.size, rfl, HKK.out.1, rfl, HZ3.out, (HRS.out.kept HB3.out).imp (fun b h => .inl h), SaidL.nil_ _ _, HB3.out⟩)
end Go.Proofs.Yteogdfpkcoodlaa
namespace Go.Proofs.Yteogdfpkcoodlaa
open Go.RowKit
set_option maxHeartbeats 1000000 in
set_option maxRecDepth 100000 in
theorem growR_nil (n : Nat) (w : World) (hn : n ≤ 1000000) :
  Calls Try.prog 68 #[.slice none 0 0, .int .i64 n] w fun e w' => ∃ v, e = .returned v ∧ OwnT encR w' w.heap.size 56 v [] ∧ Below w.heap.size w w' := by
 obtain ⟨i0, _, hi, hz, hs, hby⟩ := eltR
 by_cases h0 : n = 0
 ·subst h0
  go_enter Try.func68, Try.ntmps68
  go_wp2
  go_ret
  exact ⟨_, rfl, OwnT.nil_ encR _ _ _, Below.refl _ _⟩
 ·have hpos : (0 : Int) < (n : Int) := by omega
  have happ := Lib.run_append_nil_zeros (P := Try.prog) w 25 3 25 56 i0 zeroVR .i64 .i64 Try.underlying25 Try.underlying3 hi hz n (by omega) (by rw [hs]; decide) (by omega) (by rw [hby]; omega)
  generalize hcap : grownCap w n 0 56 = cap2 at happ
  have hcapge : n ≤ cap2 := by rw [← hcap]; exact grownCap_ge w _ 0 56
  have hcaple : cap2 ≤ maxLen := by rw [← hcap]; exact grownCap_le_maxLen w _ 0 56 (by unfold maxLen; omega)
  generalize hZ : (Builtin.zeroCells zeroVR.cells n ++ Builtin.zeroCells zeroVR.cells (cap2 - n)) = Z at happ
  have hZs : Z.size = cap2 * 5 := by rw [← hZ]; simp [Builtin.zeroCells, Value.cells, zeroVR]; omega
  clear hcap hZ h0
  have HG := Lib.hid hcapge
  have HL := Lib.hid hcaple
  have HS := Lib.hid hZs
  clear hcapge hcaple hZs
  go_enter Try.func68, Try.ntmps68
  go_wp2_with (at_builtin; refine Lib.wpList_append_run _ rfl _ _ _ _ rfl _ _ rfl rfl _ _ happ ?_)
  go_ret
  exact ⟨_, rfl, ⟨by simp, .inr ⟨w.heap.size, cap2, Z, rfl, Nat.le_refl _, heap_alloc_new w.drew _, Nat.zero_le _, HL.out, HS.out, by simp⟩⟩, (Below.refl _ _).drew.alloc (Nat.le_refl _) _⟩
set_option maxHeartbeats 2000000 in
set_option maxRecDepth 100000 in
theorem concatR_any (b o m c : Nat) (vs : List Value) (pss : List (List RunX)) (w : World) (hR : RowsT encR w b o vs pss) (hm : m = pss.length) (hmc : m ≤ 1000) (hbig : pss.flatten.length ≤ 100000) :
  Calls Try.prog 55 #[.slice (some ⟨b, o, none⟩) m c] w fun e w' => ∃ v, e = .returned v ∧ OwnT encR w' w.heap.size 56 v pss.flatten ∧ Below w.heap.size w w' := by
 have HR := Lib.hid hR.2
 have HM := Lib.hid hm
 have HSB : Hid (∀ k, (catT pss k).length ≤ 100000) := fun k => Nat.le_trans (catT_le pss k) hbig
 clear hR hm
 go_enter Try.func55, Try.ntmps55
 go_wp2
 go_loop [3, 11] (fun s i => ∃ (k : Nat), k ≤ m ∧ i = .int .i64 k ∧ s = .int .i64 ((catT pss k).length : Nat)) (fun _ i => m - (intOf i).toNat)
 case atStart => exact ⟨0, by omega, rfl, rfl⟩
 case round =>
  obtain ⟨k, hk, rfl, rfl⟩ := hrel
  by_cases hlt : k < m
  ·obtain ⟨hc, hrow⟩ := HR.out k (by rw [← HM.out]; exact hlt)
   obtain ⟨p1, c1, hv⟩ := hrow.shape
   rw [hv] at hc
   have hs := Lib.hid (catT_len pss k (by rw [← HM.out]; exact hlt))
   have hsb := HSB.out (k + 1)
   rw [hs.out] at hsb
   clear hv hrow
   generalize (pss.getD k []).length = L at *
   go_wp2
   go_round
   case rel => exact ⟨k + 1, by omega, by go_num, by rw [hs.out]; go_num⟩
   case measure => simp [intOf]; omega
  ·have hkm : (m : Int) ≤ (k : Int) := by omega
   have hsb := HSB.out k
   go_wp2_with fail
   refine (growR_nil _ _ (by omega)).mono ?_
   rintro e w1 ⟨v1, rfl, ho1, hb1⟩
   have hstart : CatRelT encR 56 w pss 0 v1 w1 := ⟨by simpa [catT] using ho1, hb1⟩
   have HST := Lib.hid hstart
   clear hstart ho1 hb1
   go_wp2_with fail
   go_loopw [6, 27] (fun v i wr => ∃ (j : Nat), j ≤ m ∧ i = .int .i64 j ∧ Hid (CatRelT encR 56 w pss j v wr)) (fun _ i _ => m - (intOf i).toNat)
   case atStart => exact ⟨0, by omega, rfl, HST⟩
   case round =>
    obtain ⟨j, hj, rfl, HJ⟩ := hrel
    by_cases hlt : j < m
    ·have hlz : j < pss.length := by rw [← HM.out]; exact hlt
     obtain ⟨hc, hrow⟩ := HR.out j hlz
     obtain ⟨p1, c1, hv⟩ := hrow.shape
     have hbl := World.block_lt_of_cell? w _ hc
     have HRW := Lib.hid hrow
     rw [hv] at hc HRW
     have hcw := (HJ.out.2.cell (p := ⟨b, o + j, none⟩) hbl).trans hc
     have HLEN : Hid ((catT pss j).length + (pss.getD j []).length ≤ 100000) := by have h := HSB.out (j + 1); rw [catT_len pss j hlz] at h; exact h
     have HLZ := Lib.hid hlz
     clear hv hrow hc hbl hlz
     obtain ⟨p0, c0, hv0⟩ := HJ.out.1.form
     have HJ2 := HJ.out
     rw [hv0] at HJ2
     have HJ3 := Lib.hid HJ2
     subst hv0
     clear HJ2
     go_wp2_with (at_builtin; go_loud (refine wpList_append_t rfl _ _ 25 rfl 56 zeroVR 88 w.heap.size eltR rfl (by decide) _ _ (catT pss j) (pss.getD j []) rfl rfl HJ3.out.1 (HRW.out.kept (HJ3.out.2)) (by have h : _ ≤ _ := HLEN.out; omega) HJ3.out.2.size (catT pss (j + 1)) ((catT pss (j + 1)).length) (catT_succ pss j HLZ.out) rfl ?_; intro p2 c2 w2 ho2 _ hb2; have HN := Lib.hid (show CatRelT encR 56 w pss (j + 1) _ w2 from ⟨ho2, HJ3.out.2.trans hb2⟩); clear ho2 hb2))
     go_roundw
     case rel => exact ⟨j + 1, by omega, by go_num, HN⟩
     case measure => simp [intOf]; omega
    ·have hjm : (m : Int) ≤ (j : Int) := by omega
     have hjz : j = pss.length := by rw [← HM.out]; omega
     have hE := HJ.out
     rw [hjz] at hE
     have HE := Lib.hid hE
     clear hjz hE
     go_wp2
     go_ret
     exact ⟨_, rfl, by have := HE.out.1; unfold catT at this; rwa [List.take_length] at this, HE.out.2⟩
end Go.Proofs.Yteogdfpkcoodlaa
namespace Go.Proofs.Yteogdfpkcoodlaa
open Go.RowKit
set_option linter.unusedSimpArgs false
/-- A cycle that begins. -/
def rn0 (N : Nat) (cu : Int) : Rn := ⟨cu, 1, List.replicate N hd0, [], []⟩
def askM (k cu : Int) : Msg := ⟨10, 0, 0, 0, cu, 0, k, 0, false, [], []⟩
/-- What a client's start does. -/
def startC (N : Nat) (rs : List Rn) (m : Msg) : CAns :=
 if m.c < 0 ∨ 8 ≤ m.c then (rs, [], 1) else if rs.any (fun r => r.cu == m.c && openB r) = true then (rs, [], 90) else
 (rs ++ [rn0 N m.c], toAllL N (askM ((rs.length + 1 : Nat) : Int) m.c), 0)
theorem made_getH (z : Array Value) (k n i t : Nat) (hz : z.size = k) (hi : i < n) (ht : t < k) : (madeCells z (n * k))[i * k + t]? = z[t]? := by
 have hlt : i * k + t < n * k := mul_lt_of hi ht
 have hm : (i * k + t) % k = t := by rw [Nat.mul_comm, Nat.mul_add_mod]; exact Nat.mod_eq_of_lt ht
 unfold madeCells
 simp only [Array.getElem?_map, Array.getElem?_range, if_pos hlt, Option.map_some, hz, hm]
 simp [hz, ht]
theorem HsR.made {P : Nat → Prop} {w : World} {g N : Nat} (hB : Blk w g (madeCells #[.bool false, .bool false, .slice none 0 0] (N * encH.k)) 80) (hg : P g) : HsR P w (.slice (some ⟨g, 0, none⟩) N N) (List.replicate N hd0) := by
 refine ⟨List.replicate N ⟨hd0, none, 0⟩, ⟨_, _, by rw [List.length_replicate], by simp, .inr ⟨g, 0, rfl, hB.lt, fun i hi t ht => ?_⟩⟩, fun b o n c e _ => by cases e; exact hg, fun x hx => ?_, by rw [List.map_replicate]⟩
 ·rw [List.length_replicate] at hi
  rw [List.getElem_replicate, Nat.zero_add]
  refine (hB.cell _).trans ((made_getH _ 3 N i t rfl hi ht).trans ?_)
  match t, ht with
  | 0, _ => rfl
  | 1, _ => rfl
  | 2, _ => rfl
 ·obtain ⟨_, rfl⟩ := List.mem_replicate.1 hx
  exact ⟨TRow.nil_ _ _, At.nil_ _ _⟩
set_option linter.unusedSimpArgs false in
set_option maxHeartbeats 4000000 in
set_option maxRecDepth 100000 in
theorem cstart_any (w : World) (P : Nat → Prop) (N : Nat) (p : Option Addr) (n c : Nat) (rs : List Rn) (y : MsgX) (fro : Int) (hrs : RsR P w (.slice p n c) rs) (hpw : ∀ b, P b → b < w.heap.size) (hn : n = rs.length) (hl : n ≤ 1000) (hN1 : 1 ≤ N) (hN8 : N ≤ 8) :
  Calls Try.prog 32 #[.agg #[.int .i64 (N : Int), .slice p n c], y.m.v (.slice y.pl y.m.ls.length y.cl) (.slice y.pn y.m.ns.length y.cn), .int .i64 fro] w (CP w P N (startC N rs y.m)) := by
 unfold CP
 have hmf : ∀ (fn : Fn) (first cap : Array Value) (w : World), (Instr.makeFunc fn first cap).run Try.prog w = .ok (.func fn first cap) w := fun _ _ _ _ => rfl
 have HRS := Lib.hid hrs
 have HPW := Lib.hid hpw
 have HNN : Hid (1 ≤ N ∧ N ≤ 8) := Lib.hid ⟨hN1, hN8⟩
 have HKK : Hid (n = rs.length ∧ n ≤ 1000) := Lib.hid ⟨hn, hl⟩
 clear hrs hpw hN1 hN8 hn hl
 unfold Msg.v
 have HB0 : Hid (Below w.heap.size w (((w.alloc (.cells #[.int .i64 (N : Int), .slice p n c] 27)).alloc (.cells #[.int .i64 y.m.k, .int .i64 y.m.s, .int .i64 y.m.n, .int .i64 y.m.b, .int .i64 y.m.c, .int .i64 y.m.r, .int .i64 y.m.y, .int .i64 y.m.a, .bool y.m.t, .slice y.pl y.m.ls.length y.cl, .slice y.pn y.m.ns.length y.cn] 36)).alloc (.cells #[.int .i64 0, .slice none 0 0] 27))) := Lib.hid ((((oneB w _).alloc (by simp <;> omega) _).alloc (by simp <;> omega) _))
 have Hc0 : Hid (Blk (((w.alloc (.cells #[.int .i64 (N : Int), .slice p n c] 27)).alloc (.cells #[.int .i64 y.m.k, .int .i64 y.m.s, .int .i64 y.m.n, .int .i64 y.m.b, .int .i64 y.m.c, .int .i64 y.m.r, .int .i64 y.m.y, .int .i64 y.m.a, .bool y.m.t, .slice y.pl y.m.ls.length y.cl, .slice y.pn y.m.ns.length y.cn] 36)).alloc (.cells #[.int .i64 0, .slice none 0 0] 27)) w.heap.size #[.int .i64 (N : Int), .slice p n c] 27) := Lib.hid (((Blk.new w #[.int .i64 (N : Int), .slice p n c] 27).alloc _).alloc _)
 have Hm0 : Hid (Blk (((w.alloc (.cells #[.int .i64 (N : Int), .slice p n c] 27)).alloc (.cells #[.int .i64 y.m.k, .int .i64 y.m.s, .int .i64 y.m.n, .int .i64 y.m.b, .int .i64 y.m.c, .int .i64 y.m.r, .int .i64 y.m.y, .int .i64 y.m.a, .bool y.m.t, .slice y.pl y.m.ls.length y.cl, .slice y.pn y.m.ns.length y.cn] 36)).alloc (.cells #[.int .i64 0, .slice none 0 0] 27)) (w.heap.size + 1) #[.int .i64 y.m.k, .int .i64 y.m.s, .int .i64 y.m.n, .int .i64 y.m.b, .int .i64 y.m.c, .int .i64 y.m.r, .int .i64 y.m.y, .int .i64 y.m.a, .bool y.m.t, .slice y.pl y.m.ls.length y.cl, .slice y.pn y.m.ns.length y.cn] 36) := Lib.hid ((Blk.new' (w.alloc (.cells #[.int .i64 (N : Int), .slice p n c] 27)) #[.int .i64 y.m.k, .int .i64 y.m.s, .int .i64 y.m.n, .int .i64 y.m.b, .int .i64 y.m.c, .int .i64 y.m.r, .int .i64 y.m.y, .int .i64 y.m.a, .bool y.m.t, .slice y.pl y.m.ls.length y.cl, .slice y.pn y.m.ns.length y.cn] 36 (by simp)).alloc _)
 have Hr0 : Hid (Blk (((w.alloc (.cells #[.int .i64 (N : Int), .slice p n c] 27)).alloc (.cells #[.int .i64 y.m.k, .int .i64 y.m.s, .int .i64 y.m.n, .int .i64 y.m.b, .int .i64 y.m.c, .int .i64 y.m.r, .int .i64 y.m.y, .int .i64 y.m.a, .bool y.m.t, .slice y.pl y.m.ls.length y.cl, .slice y.pn y.m.ns.length y.cn] 36)).alloc (.cells #[.int .i64 0, .slice none 0 0] 27)) (w.heap.size + 1 + 1) #[.int .i64 0, .slice none 0 0] 27) := Lib.hid (Blk.new' ((w.alloc (.cells #[.int .i64 (N : Int), .slice p n c] 27)).alloc (.cells #[.int .i64 y.m.k, .int .i64 y.m.s, .int .i64 y.m.n, .int .i64 y.m.b, .int .i64 y.m.c, .int .i64 y.m.r, .int .i64 y.m.y, .int .i64 y.m.a, .bool y.m.t, .slice y.pl y.m.ls.length y.cl, .slice y.pn y.m.ns.length y.cn] 36)) #[.int .i64 0, .slice none 0 0] 27 (by simp))
 have HZ0 : Hid (w.heap.size ≤ (((w.alloc (.cells #[.int .i64 (N : Int), .slice p n c] 27)).alloc (.cells #[.int .i64 y.m.k, .int .i64 y.m.s, .int .i64 y.m.n, .int .i64 y.m.b, .int .i64 y.m.c, .int .i64 y.m.r, .int .i64 y.m.y, .int .i64 y.m.a, .bool y.m.t, .slice y.pl y.m.ls.length y.cl, .slice y.pn y.m.ns.length y.cn] 36)).alloc (.cells #[.int .i64 0, .slice none 0 0] 27)).heap.size) := Lib.hid HB0.out.size
 go_enter Try.func32, Try.ntmps32
 go_upto_region 2 with fail
 generalize (((w.alloc (.cells #[.int .i64 (N : Int), .slice p n c] 27)).alloc (.cells #[.int .i64 y.m.k, .int .i64 y.m.s, .int .i64 y.m.n, .int .i64 y.m.b, .int .i64 y.m.c, .int .i64 y.m.r, .int .i64 y.m.y, .int .i64 y.m.a, .bool y.m.t, .slice y.pl y.m.ls.length y.cl, .slice y.pn y.m.ns.length y.cn] 36)).alloc (.cells #[.int .i64 0, .slice none 0 0] 27)) = W at *
 have HWL : Hid (w.heap.size + 1 + 1 < W.heap.size) := Lib.hid Hr0.out.lt
 by_cases h1 : y.m.c < 0
 ·skip
  have m4 : W.cell? ⟨(w.heap.size + 1), 4, none⟩ = some (.int .i64 y.m.c) := Hm0.out.cell 4
  have HE : Hid (startC N rs y.m = (rs, [], 1)) := by show _ = _; unfold startC; rw [if_pos (.inl h1)]
  go_upto_region 3 with fail
  clear m4 h1
  have a0 : W.cell? ⟨w.heap.size, 0, none⟩ = some (.int .i64 (N : Int)) := Hc0.out.cell 0
  have a1 : W.cell? ⟨w.heap.size, 1, none⟩ = some (.slice p n c) := Hc0.out.cell 1
  go_wp2_with (with_reducible refine stop_storeT 27 (.tmp 6) (.tmp 21) rfl ?_)
  clear a0 a1
  have HTH : Hid (W.there (w.heap.size + 1 + 1) 0 2) := Hr0.out.thereAt
  have hch : Hid (Chg (w.heap.size + 1 + 1) W (W.setCells (w.heap.size + 1 + 1) 0 (#[.int .i64 (N : Int), .slice p n c] : Array Value).toList)) := Lib.hid (chg_putL _ _ _ _ _ (Chg.refl _ W))
  have Hr1 : Hid (Blk (W.setCells (w.heap.size + 1 + 1) 0 (#[.int .i64 (N : Int), .slice p n c] : Array Value).toList) (w.heap.size + 1 + 1) #[.int .i64 (N : Int), .slice p n c] 27) := Lib.hid (blk_put_all Hr0.out _ rfl)
  have HB1 : Hid (Below w.heap.size w (W.setCells (w.heap.size + 1 + 1) 0 (#[.int .i64 (N : Int), .slice p n c] : Array Value).toList)) := Lib.hid (below_put (by omega) _ _ _ _ HB0.out)
  have HZ1 := kzq HZ0 hch.out.size
  have Hc1 := kcq Hc0 hch (by omega)
  have Hm1 := kcq Hm0 hch (by omega)
  clear hch Hc0 Hm0 Hr0 HB0 HZ0
  refine wpList_store_mid rfl 27 (.tmp 6) (.tmp 21) rfl (w.heap.size + 1 + 1) 0 #[.int .i64 (N : Int), .slice p n c] rfl rfl HTH.out (infoC2 rfl) (all_oneCell_toArray (by intro u hu; simp at hu; rcases hu with rfl | rfl <;> rfl)) ?_
  generalize (W.setCells (w.heap.size + 1 + 1) 0 (#[.int .i64 (N : Int), .slice p n c] : Array Value).toList) = W9a at *
  clear HTH
  go_wp2_with fail
  have hfr := Hr1.out
  refine bodyPost_ret (v := .tuple #[.agg #[.int .i64 (N : Int), .slice p n c], .slice none 0 0, .int .i64 1]) (by simp [results, Try.results32, go_sem, hfr.cell 0, hfr.cell 1]) rfl (by rw [HE.out]; exact ⟨p, n, c, none, 0, 0, W9a.heap.size, rfl, HKK.out.1, rfl, HZ1.out, (HRS.out.kept HB1.out).imp (fun b h => .inl h), SaidL.nil_ _ _, HB1.out⟩)
 by_cases h2 : 8 ≤ y.m.c
 ·skip
  have m4 : W.cell? ⟨(w.heap.size + 1), 4, none⟩ = some (.int .i64 y.m.c) := Hm0.out.cell 4
  have HE : Hid (startC N rs y.m = (rs, [], 1)) := by show _ = _; unfold startC; rw [if_pos (.inr h2)]
  go_upto_region 3 with fail
  clear m4 h1 h2
  have a0 : W.cell? ⟨w.heap.size, 0, none⟩ = some (.int .i64 (N : Int)) := Hc0.out.cell 0
  have a1 : W.cell? ⟨w.heap.size, 1, none⟩ = some (.slice p n c) := Hc0.out.cell 1
  go_wp2_with (with_reducible refine stop_storeT 27 (.tmp 6) (.tmp 21) rfl ?_)
  clear a0 a1
  have HTH : Hid (W.there (w.heap.size + 1 + 1) 0 2) := Hr0.out.thereAt
  have hch : Hid (Chg (w.heap.size + 1 + 1) W (W.setCells (w.heap.size + 1 + 1) 0 (#[.int .i64 (N : Int), .slice p n c] : Array Value).toList)) := Lib.hid (chg_putL _ _ _ _ _ (Chg.refl _ W))
  have Hr1 : Hid (Blk (W.setCells (w.heap.size + 1 + 1) 0 (#[.int .i64 (N : Int), .slice p n c] : Array Value).toList) (w.heap.size + 1 + 1) #[.int .i64 (N : Int), .slice p n c] 27) := Lib.hid (blk_put_all Hr0.out _ rfl)
  have HB1 : Hid (Below w.heap.size w (W.setCells (w.heap.size + 1 + 1) 0 (#[.int .i64 (N : Int), .slice p n c] : Array Value).toList)) := Lib.hid (below_put (by omega) _ _ _ _ HB0.out)
  have HZ1 := kzq HZ0 hch.out.size
  have Hc1 := kcq Hc0 hch (by omega)
  have Hm1 := kcq Hm0 hch (by omega)
  clear hch Hc0 Hm0 Hr0 HB0 HZ0
  refine wpList_store_mid rfl 27 (.tmp 6) (.tmp 21) rfl (w.heap.size + 1 + 1) 0 #[.int .i64 (N : Int), .slice p n c] rfl rfl HTH.out (infoC2 rfl) (all_oneCell_toArray (by intro u hu; simp at hu; rcases hu with rfl | rfl <;> rfl)) ?_
  generalize (W.setCells (w.heap.size + 1 + 1) 0 (#[.int .i64 (N : Int), .slice p n c] : Array Value).toList) = W9b at *
  clear HTH
  go_wp2_with fail
  have hfr := Hr1.out
  refine bodyPost_ret (v := .tuple #[.agg #[.int .i64 (N : Int), .slice p n c], .slice none 0 0, .int .i64 1]) (by simp [results, Try.results32, go_sem, hfr.cell 0, hfr.cell 1]) rfl (by rw [HE.out]; exact ⟨p, n, c, none, 0, 0, W9b.heap.size, rfl, HKK.out.1, rfl, HZ1.out, (HRS.out.kept HB1.out).imp (fun b h => .inl h), SaidL.nil_ _ _, HB1.out⟩)
 have HNR : Hid (¬ (y.m.c < 0 ∨ 8 ≤ y.m.c)) := Lib.hid (by omega)
 have m4 : W.cell? ⟨(w.heap.size + 1), 4, none⟩ = some (.int .i64 y.m.c) := Hm0.out.cell 4
 go_upto_region 4 with fail
 clear m4 h1 h2
 obtain ⟨xs, hr, hat, hin, hm⟩ := HRS.out
 have HXR := Lib.hid hr
 have HXA := Lib.hid hat
 have HXI := Lib.hid hin
 have HXM := Lib.hid hm
 have HXL : Hid (xs.length = n) := Lib.hid (by rw [HKK.out.1, ← HXM.out, List.length_map])
 clear hr hat hin hm
 have HG := Lib.hid (has_start W (.slice p n c) xs (fun x => x.r.cu == y.m.c && openB x.r) W.heap.size (w.heap.size + 1) (HXR.out.kept HB0.out) (fun x hx => ⟨P, (HXI.out x hx).kept HB0.out⟩) (fun W0 hW0 x0 hx0 => another_any W0 x0 y.m.c (w.heap.size + 1) ((hW0.cell (p := ⟨w.heap.size + 1, 4, none⟩) Hm0.out.lt).trans (Hm0.out.cell 4))) (Nat.le_refl _) (by have := HXL.out; have := HKK.out; omega))
 rw [show xs.any (fun x => x.r.cu == y.m.c && openB x.r) = rs.any (fun r => r.cu == y.m.c && openB r) by rw [← HXM.out, List.any_map]; rfl] at HG
 obtain ⟨ba, hba⟩ : ∃ ba, rs.any (fun r => r.cu == y.m.c && openB r) = ba := ⟨_, rfl⟩
 rw [hba] at HG
 have HBA := Lib.hid hba
 clear hba
 have a1 : W.cell? ⟨w.heap.size, 1, none⟩ = some (.slice p n c) := Hc0.out.cell 1
 go_wp2_with fail
 clear a1
 refine HG.out.mono ?_
 rintro y9 w1 ⟨rfl, hb⟩
 clear HG
 have Hc1 := kbq Hc0 hb
 have Hm1 := kbq Hm0 hb
 have Hr1 := kbq Hr0 hb
 have HB1 := ktq HB0 hb
 have HZ1 := kzq HZ0 hb.size
 clear Hc0 Hm0 Hr0 HB0 HZ0
 clear hb
 cases ba
 ·skip
  have HE : Hid (startC N rs y.m = (rs ++ [rn0 N y.m.c], toAllL N (askM ((rs.length + 1 : Nat) : Int) y.m.c), 0)) := by show _ = _; unfold startC; rw [if_neg HNR.out, if_neg (by rw [HBA.out]; decide)]
  have hlm : decide ((1048576 : Int) ≤ (n : Int)) = false := decide_eq_false (by have := HKK.out; omega)
  have a1 : w1.cell? ⟨w.heap.size, 1, none⟩ = some (.slice p n c) := Hc1.out.cell 1
  go_upto_region 8 with fail
  clear a1 hlm
  have HW8 : Hid (w.heap.size + 1 + 1 < w1.drew.heap.size) := Lib.hid Hr1.out.lt
  have hbd := (Below.refl w1.heap.size w1).drew
  have Hc2 := kbq Hc1 hbd
  have Hm2 := kbq Hm1 hbd
  have Hr2 := kbq Hr1 hbd
  have HB2 := ktq HB1 hbd
  have HZ2 := kzq HZ1 hbd.size
  clear Hc1 Hm1 Hr1 HB1 HZ1
  refine wp_region_held_drew (S := fun w' => w'.cell? ⟨w.heap.size, 0, none⟩ = some (.int .i64 (N : Int)) ∧ w'.cell? ⟨w.heap.size, 1, none⟩ = some (.slice p n c) ∧ w'.cell? ⟨w.heap.size + 1, 0, none⟩ = some (.int .i64 y.m.k) ∧ w'.cell? ⟨w.heap.size + 1, 1, none⟩ = some (.int .i64 y.m.s) ∧ w'.cell? ⟨w.heap.size + 1, 2, none⟩ = some (.int .i64 y.m.n) ∧ w'.cell? ⟨w.heap.size + 1, 3, none⟩ = some (.int .i64 y.m.b) ∧ w'.cell? ⟨w.heap.size + 1, 4, none⟩ = some (.int .i64 y.m.c) ∧ w'.cell? ⟨w.heap.size + 1, 5, none⟩ = some (.int .i64 y.m.r) ∧ w'.cell? ⟨w.heap.size + 1, 6, none⟩ = some (.int .i64 y.m.y) ∧ w'.cell? ⟨w.heap.size + 1, 7, none⟩ = some (.int .i64 y.m.a) ∧ w'.cell? ⟨w.heap.size + 1, 8, none⟩ = some (.bool y.m.t) ∧ w'.cell? ⟨w.heap.size + 1, 9, none⟩ = some (.slice y.pl y.m.ls.length y.cl) ∧ w'.cell? ⟨w.heap.size + 1, 10, none⟩ = some (.slice y.pn y.m.ns.length y.cn)) (by kernel_rfl) ⟨Hc2.out.cell 0, Hc2.out.cell 1, Hm2.out.cell 0, Hm2.out.cell 1, Hm2.out.cell 2, Hm2.out.cell 3, Hm2.out.cell 4, Hm2.out.cell 5, Hm2.out.cell 6, Hm2.out.cell 7, Hm2.out.cell 8, Hm2.out.cell 9, Hm2.out.cell 10⟩ (fun hS0 => ?_)
  generalize w1.drew = WD at *
  clear hbd
  refine tkq 0 ?_
  refine tkq 1 ?_
  refine tkq 2 ?_
  refine wpAnyH_ready (rs := [3, 6]) (by kernel_rfl) (by simp) ?_
  refine AllReadyH.cons rfl (fun K hK => ?_) (AllReadyH.cons rfl (fun K hK => ?_) AllReadyH.nil)
  ·skip
   have HG := Lib.hid (entities_any WD (N : Int) p n c (by omega) (by have := HNN.out; omega))
   go_simp
   go_at_call 16
   refine HG.out.mono ?_
   rintro y9 w3 ⟨rfl, hb⟩
   clear HG
   have Hc3 := kbq Hc2 hb
   have Hm3 := kbq Hm2 hb
   have Hr3 := kbq Hr2 hb
   have HB3 := ktq HB2 hb
   have HZ3 := kzq HZ2 hb.size
   clear Hc2 Hm2 Hr2 HB2 HZ2
   clear hb hS0
   try go_wp2_with fail
   refine hK.out _ _ ⟨Hc3.out.cell 0, Hc3.out.cell 1, Hm3.out.cell 0, Hm3.out.cell 1, Hm3.out.cell 2, Hm3.out.cell 3, Hm3.out.cell 4, Hm3.out.cell 5, Hm3.out.cell 6, Hm3.out.cell 7, Hm3.out.cell 8, Hm3.out.cell 9, Hm3.out.cell 10⟩ (fun hS0 => ?_)
   clear hK K
   try simp only [Act.put, List.getElem_toArray, List.getElem_cons_succ, List.getElem_cons_zero, List.setIfInBounds_toArray, List.set_cons_zero, List.set_cons_succ]
   refine wpAnyH_ready (rs := [4, 6]) (by kernel_rfl) (by simp) ?_
   refine AllReadyH.cons rfl (fun K hK => ?_) (AllReadyH.cons rfl (fun K hK => ?_) AllReadyH.nil)
   ·skip
    obtain ⟨i0, hu, hi, hz, hs, hby⟩ := eltH
    have hmk := run_make (P := Try.prog) w3 54 80 i0 _ hu hi hz .i64 .i64 (N : Int) (N : Int) (by omega) (Int.le_refl _) (by rw [hby]; have := HNN.out; omega) (by have := HNN.out; omega)
    rw [hs] at hmk
    simp only [Int.toNat_natCast, Value.cells, zeroVH] at hmk
    clear hu hi hz hs hby
    have HGM : Hid (w.heap.size + 1 + 1 < w3.heap.size) := Lib.hid Hr3.out.lt
    go_simp
    clear hmk
    have hba := oneB w3 (.cells (madeCells #[.bool false, .bool false, .slice none 0 0] (N * encH.k)) 80)
    have Hc4 := kbq Hc3 hba
    have Hm4 := kbq Hm3 hba
    have Hr4 := kbq Hr3 hba
    have Hk4 := Lib.hid (Blk.new w3 (madeCells #[.bool false, .bool false, .slice none 0 0] (N * encH.k)) 80)
    have HB4 := Lib.hid (HB3.out.alloc HB3.out.size (.cells (madeCells #[.bool false, .bool false, .slice none 0 0] (N * encH.k)) 80))
    have HZ4 := kzq HZ3 hba.size
    clear hba hS0 Hc3 Hm3 Hr3 HB3 HZ3
    generalize (w3.alloc (.cells (madeCells #[.bool false, .bool false, .slice none 0 0] (N * encH.k)) 80)) = W4 at *
    generalize hggm : w3.heap.size = gm at *
    clear hggm
    refine hK.out _ _ ⟨Hc4.out.cell 0, Hc4.out.cell 1, Hm4.out.cell 0, Hm4.out.cell 1, Hm4.out.cell 2, Hm4.out.cell 3, Hm4.out.cell 4, Hm4.out.cell 5, Hm4.out.cell 6, Hm4.out.cell 7, Hm4.out.cell 8, Hm4.out.cell 9, Hm4.out.cell 10⟩ (fun hS0 => ?_)
    clear hK K
    try simp only [Act.put, List.getElem_toArray, List.getElem_cons_succ, List.getElem_cons_zero, List.setIfInBounds_toArray, List.set_cons_zero, List.set_cons_succ]
    refine tkq 5 ?_
    refine rdq 6 (fun K hK => ?_)
    have HGX : Hid (w.heap.size + 1 + 1 < W4.heap.size ∧ gm < W4.heap.size) := Lib.hid ⟨Hr4.out.lt, Hk4.out.lt⟩
    go_simp
    have hba := oneB W4 (.cells #[.int .i64 0, .int .i64 0, .slice none 0 0, .slice none 0 0, .slice none 0 0] 56)
    have Hc5 := kbq Hc4 hba
    have Hm5 := kbq Hm4 hba
    have Hr5 := kbq Hr4 hba
    have Hk5 := kbq Hk4 hba
    have Hx5 := Lib.hid (Blk.new W4 #[.int .i64 0, .int .i64 0, .slice none 0 0, .slice none 0 0, .slice none 0 0] 56)
    have HB5 := Lib.hid (HB4.out.alloc HB4.out.size (.cells #[.int .i64 0, .int .i64 0, .slice none 0 0, .slice none 0 0, .slice none 0 0] 56))
    have HZ5 := kzq HZ4 hba.size
    clear hba hS0 Hc4 Hm4 Hr4 Hk4 HB4 HZ4
    generalize (W4.alloc (.cells #[.int .i64 0, .int .i64 0, .slice none 0 0, .slice none 0 0, .slice none 0 0] 56)) = W6 at *
    generalize hggx : W4.heap.size = gx at *
    clear hggx
    refine hK.out _ _ ⟨Hc5.out.cell 0, Hc5.out.cell 1, Hm5.out.cell 0, Hm5.out.cell 1, Hm5.out.cell 2, Hm5.out.cell 3, Hm5.out.cell 4, Hm5.out.cell 5, Hm5.out.cell 6, Hm5.out.cell 7, Hm5.out.cell 8, Hm5.out.cell 9, Hm5.out.cell 10⟩ (fun hS0 => ?_)
    clear hK K
    try simp only [Act.put, List.getElem_toArray, List.getElem_cons_succ, List.getElem_cons_zero, List.setIfInBounds_toArray, List.set_cons_zero, List.set_cons_succ]
    refine rdq 7 (fun K hK => ?_)
    have z0 : W6.cell? ⟨gx, 0, none⟩ = some (.int .i64 0) := Hx5.out.cell 0
    have z1 : W6.cell? ⟨gx, 1, none⟩ = some (.int .i64 0) := Hx5.out.cell 1
    have z2 : W6.cell? ⟨gx, 2, none⟩ = some (.slice none 0 0) := Hx5.out.cell 2
    have z3 : W6.cell? ⟨gx, 3, none⟩ = some (.slice none 0 0) := Hx5.out.cell 3
    have z4 : W6.cell? ⟨gx, 4, none⟩ = some (.slice none 0 0) := Hx5.out.cell 4
    have f0 := Hx5.out.free 0
    have f1 := Hx5.out.free 1
    have f2 := Hx5.out.free 2
    have f3 := Hx5.out.free 3
    have f4 := Hx5.out.free 4
    go_simp
    clear z0 f0 z1 f1 z2 f2 z3 f3 z4 f4
    have hch := Lib.hid ((((((Chg.refl gx W6).set 0 (.int .i64 y.m.c)).set 1 (.int .i64 1)).set 2 (.slice (some ⟨gm, 0, none⟩) N N)).set 3 (.slice none 0 0)).set 4 (.slice none 0 0))
    have Hx6 : Hid (Blk (((((W6.setCell ⟨gx, 0, none⟩ (.int .i64 y.m.c)).setCell ⟨gx, 1, none⟩ (.int .i64 1)).setCell ⟨gx, 2, none⟩ (.slice (some ⟨gm, 0, none⟩) N N)).setCell ⟨gx, 3, none⟩ (.slice none 0 0)).setCell ⟨gx, 4, none⟩ (.slice none 0 0)) gx #[.int .i64 y.m.c, .int .i64 1, .slice (some ⟨gm, 0, none⟩) N N, .slice none 0 0, .slice none 0 0] 56) := (by have h1 := blk_put_all Hx5.out #[.int .i64 y.m.c, .int .i64 1, .slice (some ⟨gm, 0, none⟩) N N, .slice none 0 0, .slice none 0 0] rfl; exact Lib.hid h1)
    have HB6 := ksq HB5 hch (by show w.heap.size ≤ gx; have := HW8.out; have := HGX.out; have := HGM.out; omega)
    have HZ6 := kzq HZ5 hch.out.size
    have Hc6 := kcq Hc5 hch (by have := HW8.out; have := HGX.out; have := HGM.out; omega)
    have Hm6 := kcq Hm5 hch (by have := HW8.out; have := HGX.out; have := HGM.out; omega)
    have Hr6 := kcq Hr5 hch (by have := HW8.out; have := HGX.out; have := HGM.out; omega)
    have Hk6 := kcq Hk5 hch (by have := HW8.out; have := HGX.out; have := HGM.out; omega)
    clear hch hS0 Hc5 Hm5 Hr5 Hk5 Hx5 HB5 HZ5
    generalize (((((W6.setCell ⟨gx, 0, none⟩ (.int .i64 y.m.c)).setCell ⟨gx, 1, none⟩ (.int .i64 1)).setCell ⟨gx, 2, none⟩ (.slice (some ⟨gm, 0, none⟩) N N)).setCell ⟨gx, 3, none⟩ (.slice none 0 0)).setCell ⟨gx, 4, none⟩ (.slice none 0 0)) = WSa at *
    refine hK.out _ _ ⟨Hc6.out.cell 0, Hc6.out.cell 1, Hm6.out.cell 0, Hm6.out.cell 1, Hm6.out.cell 2, Hm6.out.cell 3, Hm6.out.cell 4, Hm6.out.cell 5, Hm6.out.cell 6, Hm6.out.cell 7, Hm6.out.cell 8, Hm6.out.cell 9, Hm6.out.cell 10⟩ (fun hS0 => ?_)
    clear hK K
    try simp only [Act.put, List.getElem_toArray, List.getElem_cons_succ, List.getElem_cons_zero, List.setIfInBounds_toArray, List.set_cons_zero, List.set_cons_succ]
    refine wpAnyH_done (by kernel_rfl) ?_ _
    clear hS0
    have HRO := Lib.hid ((TRow.one_ encR (⟨rn0 N y.m.c, some ⟨gm, 0, none⟩, N, none, 0, none, 0⟩ : RunX) (Blk.new WSa #[.int .i64 y.m.c, .int .i64 1, .slice (some ⟨gm, 0, none⟩) N N, .slice none 0 0, .slice none 0 0] 56) (by show _ = [Value.int .i64 y.m.c, .int .i64 1, .slice (some ⟨gm, 0, none⟩) (List.replicate N hd0).length N, .slice none 0 0, .slice none 0 0]; rw [List.length_replicate]) (Nat.le_refl 1)))
    have HXO := Lib.hid ((HXR.out.kept HB6.out).kept (oneB WSa (.cells #[.int .i64 y.m.c, .int .i64 1, .slice (some ⟨gm, 0, none⟩) N N, .slice none 0 0, .slice none 0 0] 56)))
    have hba := oneB WSa (.cells #[.int .i64 y.m.c, .int .i64 1, .slice (some ⟨gm, 0, none⟩) N N, .slice none 0 0, .slice none 0 0] 56)
    have a1 : WSa.cell? ⟨w.heap.size, 1, none⟩ = some (.slice p n c) := Hc6.out.cell 1
    have x0 : WSa.cell? ⟨gx, 0, none⟩ = some (.int .i64 y.m.c) := Hx6.out.cell 0
    have x1 : WSa.cell? ⟨gx, 1, none⟩ = some (.int .i64 1) := Hx6.out.cell 1
    have x2 : WSa.cell? ⟨gx, 2, none⟩ = some (.slice (some ⟨gm, 0, none⟩) N N) := Hx6.out.cell 2
    have x3 : WSa.cell? ⟨gx, 3, none⟩ = some (.slice none 0 0) := Hx6.out.cell 3
    have x4 : WSa.cell? ⟨gx, 4, none⟩ = some (.slice none 0 0) := Hx6.out.cell 4
    have HG := Lib.hid (concatR_any (WSa.heap.size + 1) 0 2 2 [.slice p n c, .slice (some ⟨WSa.heap.size, 0, none⟩) 1 1] [xs, [(⟨rn0 N y.m.c, some ⟨gm, 0, none⟩, N, none, 0, none, 0⟩ : RunX)]] ((WSa.alloc (.cells #[.int .i64 y.m.c, .int .i64 1, .slice (some ⟨gm, 0, none⟩) N N, .slice none 0 0, .slice none 0 0] 56)).alloc (.cells #[.slice p n c, .slice (some ⟨WSa.heap.size, 0, none⟩) 1 1] 25)) (RowsT.two (Blk.new' (WSa.alloc (.cells #[.int .i64 y.m.c, .int .i64 1, .slice (some ⟨gm, 0, none⟩) N N, .slice none 0 0, .slice none 0 0] 56)) #[.slice p n c, .slice (some ⟨WSa.heap.size, 0, none⟩) 1 1] 25 (by simp)) rfl (HXO.out.kept (oneB (WSa.alloc (.cells #[.int .i64 y.m.c, .int .i64 1, .slice (some ⟨gm, 0, none⟩) N N, .slice none 0 0, .slice none 0 0] 56)) _)) (HRO.out.kept (oneB (WSa.alloc (.cells #[.int .i64 y.m.c, .int .i64 1, .slice (some ⟨gm, 0, none⟩) N N, .slice none 0 0, .slice none 0 0] 56)) _))) rfl (by decide) (by have := HXL.out; have := HKK.out; simp; omega))
    clear hba HRO HXO
    rw [show [xs, [(⟨rn0 N y.m.c, some ⟨gm, 0, none⟩, N, none, 0, none, 0⟩ : RunX)]].flatten = xs ++ [(⟨rn0 N y.m.c, some ⟨gm, 0, none⟩, N, none, 0, none, 0⟩ : RunX)] by simp] at HG
    go_wp2_with fail
    clear a1 x0 x1 x2 x3 x4
    refine HG.out.mono ?_
    rintro y9 w9 ⟨v9, rfl, ho, hb9⟩
    clear HG
    have hb := (oneB WSa (.cells #[.int .i64 y.m.c, .int .i64 1, .slice (some ⟨gm, 0, none⟩) N N, .slice none 0 0, .slice none 0 0] 56)).trans (((oneB (WSa.alloc (.cells #[.int .i64 y.m.c, .int .i64 1, .slice (some ⟨gm, 0, none⟩) N N, .slice none 0 0, .slice none 0 0] 56)) (.cells #[.slice p n c, .slice (some ⟨WSa.heap.size, 0, none⟩) 1 1] 25)).trans (hb9.mono (by simp))).mono (by simp))
    obtain ⟨p9, c9, hv9⟩ := ho.form
    rw [show (xs ++ [(⟨rn0 N y.m.c, some ⟨gm, 0, none⟩, N, none, 0, none, 0⟩ : RunX)]).length = n + 1 by rw [List.length_append, HXL.out]; rfl] at hv9
    subst hv9
    have HO := Lib.hid (ho.less (base' := WSa.heap.size) (by simp; omega))
    have HW9 : Hid (w.heap.size + 1 + 1 < WSa.heap.size) := Lib.hid Hr6.out.lt
    clear ho hb9
    have Hc7 := kbq Hc6 hb
    have Hm7 := kbq Hm6 hb
    have Hr7 := kbq Hr6 hb
    have Hk7 := kbq Hk6 hb
    have Hx7 := kbq Hx6 hb
    have HB7 := ktq HB6 hb
    have HZ7 := kzq HZ6 hb.size
    clear Hc6 Hm6 Hr6 Hk6 Hx6 HB6 HZ6
    clear hb
    have z1 : w9.cell? ⟨w.heap.size, 1, none⟩ = some (.slice p n c) := Hc7.out.cell 1
    have f1 := Hc7.out.free 1
    go_upto_region 10 with fail
    clear z1 f1
    have hch := Lib.hid ((Chg.refl w.heap.size w9).set 1 (.slice p9 (n + 1) c9))
    have Hc8 : Hid (Blk _ w.heap.size #[.int .i64 (N : Int), .slice p9 (n + 1) c9] 27) := Lib.hid (Hc7.out.set 1 (.slice p9 (n + 1) c9))
    have HB8 := ksq HB7 hch (by show w.heap.size ≤ w.heap.size; have := HW8.out; have := HGX.out; have := HGM.out; omega)
    have HZ8 := kzq HZ7 hch.out.size
    have Hm8 := kcq Hm7 hch (by have := HW8.out; have := HGX.out; have := HGM.out; omega)
    have Hr8 := kcq Hr7 hch (by have := HW8.out; have := HGX.out; have := HGM.out; omega)
    have Hk8 := kcq Hk7 hch (by have := HW8.out; have := HGX.out; have := HGM.out; omega)
    have Hx8 := kcq Hx7 hch (by have := HW8.out; have := HGX.out; have := HGM.out; omega)
    have HO := Lib.hid (HO.out.stay (fun g hg => hch.out.2 g (HO.out.lt g hg) (by have h1 := HO.out.block_ge g hg; have := HW9.out; omega)))
    clear hch Hc7 Hm7 Hr7 Hk7 Hx7 HB7 HZ7
    generalize (w9.setCell ⟨w.heap.size, 1, none⟩ (.slice p9 (n + 1) c9)) = WBa at *
    have hbd := (Below.refl WBa.heap.size WBa).drew
    have Hc9 := kbq Hc8 hbd
    have Hm9 := kbq Hm8 hbd
    have Hr9 := kbq Hr8 hbd
    have Hk9 := kbq Hk8 hbd
    have Hx9 := kbq Hx8 hbd
    have HB9 := ktq HB8 hbd
    have HZ9 := kzq HZ8 hbd.size
    clear Hc8 Hm8 Hr8 Hk8 Hx8 HB8 HZ8
    have hS1 : WBa.drew.cell? ⟨w.heap.size, 0, none⟩ = some (.int .i64 (N : Int)) ∧ WBa.drew.cell? ⟨w.heap.size, 1, none⟩ = some (.slice p9 (n + 1) c9) ∧ WBa.drew.cell? ⟨w.heap.size + 1, 0, none⟩ = some (.int .i64 y.m.k) ∧ WBa.drew.cell? ⟨w.heap.size + 1, 1, none⟩ = some (.int .i64 y.m.s) ∧ WBa.drew.cell? ⟨w.heap.size + 1, 2, none⟩ = some (.int .i64 y.m.n) ∧ WBa.drew.cell? ⟨w.heap.size + 1, 3, none⟩ = some (.int .i64 y.m.b) ∧ WBa.drew.cell? ⟨w.heap.size + 1, 4, none⟩ = some (.int .i64 y.m.c) ∧ WBa.drew.cell? ⟨w.heap.size + 1, 5, none⟩ = some (.int .i64 y.m.r) ∧ WBa.drew.cell? ⟨w.heap.size + 1, 6, none⟩ = some (.int .i64 y.m.y) ∧ WBa.drew.cell? ⟨w.heap.size + 1, 7, none⟩ = some (.int .i64 y.m.a) ∧ WBa.drew.cell? ⟨w.heap.size + 1, 8, none⟩ = some (.bool y.m.t) ∧ WBa.drew.cell? ⟨w.heap.size + 1, 9, none⟩ = some (.slice y.pl y.m.ls.length y.cl) ∧ WBa.drew.cell? ⟨w.heap.size + 1, 10, none⟩ = some (.slice y.pn y.m.ns.length y.cn) := ⟨Hc9.out.cell 0, Hc9.out.cell 1, Hm9.out.cell 0, Hm9.out.cell 1, Hm9.out.cell 2, Hm9.out.cell 3, Hm9.out.cell 4, Hm9.out.cell 5, Hm9.out.cell 6, Hm9.out.cell 7, Hm9.out.cell 8, Hm9.out.cell 9, Hm9.out.cell 10⟩
    have HO := Lib.hid (HO.out.later hbd)
    refine wp_region_held_drew (S := fun w' => w'.cell? ⟨w.heap.size, 0, none⟩ = some (.int .i64 (N : Int)) ∧ w'.cell? ⟨w.heap.size, 1, none⟩ = some (.slice p9 (n + 1) c9) ∧ w'.cell? ⟨w.heap.size + 1, 0, none⟩ = some (.int .i64 y.m.k) ∧ w'.cell? ⟨w.heap.size + 1, 1, none⟩ = some (.int .i64 y.m.s) ∧ w'.cell? ⟨w.heap.size + 1, 2, none⟩ = some (.int .i64 y.m.n) ∧ w'.cell? ⟨w.heap.size + 1, 3, none⟩ = some (.int .i64 y.m.b) ∧ w'.cell? ⟨w.heap.size + 1, 4, none⟩ = some (.int .i64 y.m.c) ∧ w'.cell? ⟨w.heap.size + 1, 5, none⟩ = some (.int .i64 y.m.r) ∧ w'.cell? ⟨w.heap.size + 1, 6, none⟩ = some (.int .i64 y.m.y) ∧ w'.cell? ⟨w.heap.size + 1, 7, none⟩ = some (.int .i64 y.m.a) ∧ w'.cell? ⟨w.heap.size + 1, 8, none⟩ = some (.bool y.m.t) ∧ w'.cell? ⟨w.heap.size + 1, 9, none⟩ = some (.slice y.pl y.m.ls.length y.cl) ∧ w'.cell? ⟨w.heap.size + 1, 10, none⟩ = some (.slice y.pn y.m.ns.length y.cn)) (by kernel_rfl) hS1 (fun hS0 => ?_)
    clear hS1
    generalize WBa.drew = WE at *
    clear hbd
    refine tkq 0 ?_
    refine tkq 1 ?_
    refine tkq 2 ?_
    refine tkq 3 ?_
    refine tkq 4 ?_
    refine tkq 5 ?_
    refine tkq 6 ?_
    refine tkq 7 ?_
    refine rdq 8 (fun K hK => ?_)
    have HOA := Lib.hid HO.out.at_lt
    have HG := Lib.hid (toAll_any WE N p9 (n + 1) c9 (⟨askM ((n + 1 : Nat) : Int) y.m.c, none, 0, none, 0⟩ : MsgX) (fun _ => True) HNN.out.2 ⟨TRow.nil_ _ _, Row.nil_ _ _ 0, At.nil_ _ _, At.nil_ _ _, ⟨by show 0 * 32 ≤ _; decide, by show 0 * 8 ≤ _; decide⟩⟩)
    unfold askM Msg.v at HG
    dsimp only [List.length_nil] at HG
    go_simp
    go_at_call 56
    refine HG.out.mono ?_
    rintro y9 w10 ⟨p5, c5, rfl, hs, hb⟩
    clear HG
    have HO := Lib.hid (HO.out.later hb)
    have HSS := Lib.hid hs
    have HWE : Hid (w.heap.size + 1 + 1 < WE.heap.size ∧ gx < WE.heap.size ∧ gm < WE.heap.size) := Lib.hid ⟨Hr9.out.lt, Hx9.out.lt, Hk9.out.lt⟩
    have HOL : Hid (At (fun b => WSa.heap.size ≤ b ∧ b < WE.heap.size) (.slice p9 (n + 1) c9) (xs ++ [(⟨rn0 N y.m.c, some ⟨gm, 0, none⟩, N, none, 0, none, 0⟩ : RunX)]).length) := Lib.hid HOA.out
    clear hs HOA
    have Hc10 := kbq Hc9 hb
    have Hm10 := kbq Hm9 hb
    have Hr10 := kbq Hr9 hb
    have Hk10 := kbq Hk9 hb
    have Hx10 := kbq Hx9 hb
    have HB10 := ktq HB9 hb
    have HZ10 := kzq HZ9 hb.size
    clear Hc9 Hm9 Hr9 Hk9 Hx9 HB9 HZ9
    clear hb hS0
    try go_wp2_with fail
    refine hK.out _ _ ⟨Hc10.out.cell 0, Hc10.out.cell 1, Hm10.out.cell 0, Hm10.out.cell 1, Hm10.out.cell 2, Hm10.out.cell 3, Hm10.out.cell 4, Hm10.out.cell 5, Hm10.out.cell 6, Hm10.out.cell 7, Hm10.out.cell 8, Hm10.out.cell 9, Hm10.out.cell 10⟩ (fun hS0 => ?_)
    clear hK K
    try simp only [Act.put, List.getElem_toArray, List.getElem_cons_succ, List.getElem_cons_zero, List.setIfInBounds_toArray, List.set_cons_zero, List.set_cons_succ]
    refine rdq 9 (fun K hK => ?_)
    have z0 : w10.cell? ⟨(w.heap.size + 1 + 1), 0, none⟩ = some (.int .i64 0) := Hr10.out.cell 0
    have z1 : w10.cell? ⟨(w.heap.size + 1 + 1), 1, none⟩ = some (.slice none 0 0) := Hr10.out.cell 1
    have f0 := Hr10.out.free 0
    have f1 := Hr10.out.free 1
    go_simp
    clear z0 f0 z1 f1
    have hch := Lib.hid (((Chg.refl (w.heap.size + 1 + 1) w10).set 0 (.int .i64 (N : Int))).set 1 (.slice p9 (n + 1) c9))
    have Hr11 : Hid (Blk _ (w.heap.size + 1 + 1) #[.int .i64 (N : Int), .slice p9 (n + 1) c9] 27) := Lib.hid ((Hr10.out.set 0 (.int .i64 (N : Int))).set 1 (.slice p9 (n + 1) c9))
    have HB11 := ksq HB10 hch (by show w.heap.size ≤ (w.heap.size + 1 + 1); have := HW8.out; have := HGX.out; have := HGM.out; omega)
    have HZ11 := kzq HZ10 hch.out.size
    have Hc11 := kcq Hc10 hch (by have := HW8.out; have := HGX.out; have := HGM.out; omega)
    have Hm11 := kcq Hm10 hch (by have := HW8.out; have := HGX.out; have := HGM.out; omega)
    have Hk11 := kcq Hk10 hch (by have := HW8.out; have := HGX.out; have := HGM.out; omega)
    have Hx11 := kcq Hx10 hch (by have := HW8.out; have := HGX.out; have := HGM.out; omega)
    have HST := Lib.hid (HSS.out.chgS hch.out (by have := HWE.out; omega))
    have HO := Lib.hid (HO.out.stay (fun g hg => hch.out.2 g (HO.out.lt g hg) (by have h1 := HO.out.block_ge g hg; have := HW9.out; omega)))
    clear HSS
    clear hch hS0 Hc10 Hm10 Hr10 Hk10 Hx10 HB10 HZ10
    generalize ((w10.setCell ⟨w.heap.size + 1 + 1, 0, none⟩ (.int .i64 (N : Int))).setCell ⟨w.heap.size + 1 + 1, 1, none⟩ (.slice p9 (n + 1) c9)) = WZ at *
    refine hK.out _ _ ⟨Hc11.out.cell 0, Hc11.out.cell 1, Hm11.out.cell 0, Hm11.out.cell 1, Hm11.out.cell 2, Hm11.out.cell 3, Hm11.out.cell 4, Hm11.out.cell 5, Hm11.out.cell 6, Hm11.out.cell 7, Hm11.out.cell 8, Hm11.out.cell 9, Hm11.out.cell 10⟩ (fun hS0 => ?_)
    clear hK K
    try simp only [Act.put, List.getElem_toArray, List.getElem_cons_succ, List.getElem_cons_zero, List.setIfInBounds_toArray, List.set_cons_zero, List.set_cons_succ]
    refine tkq 10 ?_
    refine tkq 11 ?_
    refine wpAnyH_done (by kernel_rfl) ?_ _
    clear hS0
    have HFIN : Hid (RsR (fun b => P b ∨ (w.heap.size ≤ b ∧ b < WE.heap.size)) WZ (.slice p9 (n + 1) c9) (rs ++ [rn0 N y.m.c])) := Lib.hid (by
     refine ⟨xs ++ [(⟨rn0 N y.m.c, some ⟨gm, 0, none⟩, N, none, 0, none, 0⟩ : RunX)], HO.out.row, HOL.out.imp (fun b h => .inr ⟨by have := HW9.out; omega, h.2⟩), fun x hx => ?_, by rw [List.map_append, HXM.out]; rfl⟩
     rcases List.mem_append.1 hx with h | h
     ·exact ((HXI.out x h).kept HB11.out).imp (fun b h => .inl h)
     ·obtain rfl := List.mem_singleton.1 h
      refine ⟨?_, TRow.nil_ _ _, At.nil_ _ _, Row.nil_ _ _ 0, At.nil_ _ _⟩
      have h1 := HsR.made (P := fun b => P b ∨ (w.heap.size ≤ b ∧ b < WE.heap.size)) Hk11.out (.inr ⟨by have := HGM.out; omega, HWE.out.2.2⟩)
      show HsR _ _ (.slice (some ⟨gm, 0, none⟩) (List.replicate N hd0).length N) (List.replicate N hd0)
      rw [List.length_replicate]
      exact h1)
    go_wp2_with fail
    have hfr := Hr11.out
    refine bodyPost_ret (v := .tuple #[.agg #[.int .i64 (N : Int), .slice p9 (n + 1) c9], .slice p5 N c5, .int .i64 0]) (by simp [results, Try.results32, go_sem, hfr.cell 0, hfr.cell 1]) rfl (by rw [HE.out]; exact ⟨p9, n + 1, c9, p5, N, c5, WE.heap.size, rfl, by rw [List.length_append, ← HKK.out.1]; rfl, by rw [toAllL_len], by have := HWE.out; omega, HFIN.out, by rw [← HKK.out.1]; exact HST.out, HB11.out⟩)
   ·skip
    have HGX : Hid (w.heap.size + 1 + 1 < w3.heap.size) := Lib.hid Hr3.out.lt
    go_simp
    have hba := oneB w3 (.cells #[.int .i64 0, .int .i64 0, .slice none 0 0, .slice none 0 0, .slice none 0 0] 56)
    have Hc4 := kbq Hc3 hba
    have Hm4 := kbq Hm3 hba
    have Hr4 := kbq Hr3 hba
    have Hx4 := Lib.hid (Blk.new w3 #[.int .i64 0, .int .i64 0, .slice none 0 0, .slice none 0 0, .slice none 0 0] 56)
    have HB4 := Lib.hid (HB3.out.alloc HB3.out.size (.cells #[.int .i64 0, .int .i64 0, .slice none 0 0, .slice none 0 0, .slice none 0 0] 56))
    have HZ4 := kzq HZ3 hba.size
    clear hba hS0 Hc3 Hm3 Hr3 HB3 HZ3
    generalize (w3.alloc (.cells #[.int .i64 0, .int .i64 0, .slice none 0 0, .slice none 0 0, .slice none 0 0] 56)) = W6 at *
    generalize hggx : w3.heap.size = gx at *
    clear hggx
    refine hK.out _ _ ⟨Hc4.out.cell 0, Hc4.out.cell 1, Hm4.out.cell 0, Hm4.out.cell 1, Hm4.out.cell 2, Hm4.out.cell 3, Hm4.out.cell 4, Hm4.out.cell 5, Hm4.out.cell 6, Hm4.out.cell 7, Hm4.out.cell 8, Hm4.out.cell 9, Hm4.out.cell 10⟩ (fun hS0 => ?_)
    clear hK K
    try simp only [Act.put, List.getElem_toArray, List.getElem_cons_succ, List.getElem_cons_zero, List.setIfInBounds_toArray, List.set_cons_zero, List.set_cons_succ]
    refine rdq 4 (fun K hK => ?_)
    obtain ⟨i0, hu, hi, hz, hs, hby⟩ := eltH
    have hmk := run_make (P := Try.prog) W6 54 80 i0 _ hu hi hz .i64 .i64 (N : Int) (N : Int) (by omega) (Int.le_refl _) (by rw [hby]; have := HNN.out; omega) (by have := HNN.out; omega)
    rw [hs] at hmk
    simp only [Int.toNat_natCast, Value.cells, zeroVH] at hmk
    clear hu hi hz hs hby
    have HGM : Hid (w.heap.size + 1 + 1 < W6.heap.size ∧ gx < W6.heap.size) := Lib.hid ⟨Hr4.out.lt, Hx4.out.lt⟩
    go_simp
    clear hmk
    have hba := oneB W6 (.cells (madeCells #[.bool false, .bool false, .slice none 0 0] (N * encH.k)) 80)
    have Hc5 := kbq Hc4 hba
    have Hm5 := kbq Hm4 hba
    have Hr5 := kbq Hr4 hba
    have Hx5 := kbq Hx4 hba
    have Hk5 := Lib.hid (Blk.new W6 (madeCells #[.bool false, .bool false, .slice none 0 0] (N * encH.k)) 80)
    have HB5 := Lib.hid (HB4.out.alloc HB4.out.size (.cells (madeCells #[.bool false, .bool false, .slice none 0 0] (N * encH.k)) 80))
    have HZ5 := kzq HZ4 hba.size
    clear hba hS0 Hc4 Hm4 Hr4 Hx4 HB4 HZ4
    generalize (W6.alloc (.cells (madeCells #[.bool false, .bool false, .slice none 0 0] (N * encH.k)) 80)) = W4 at *
    generalize hggm : W6.heap.size = gm at *
    clear hggm
    refine hK.out _ _ ⟨Hc5.out.cell 0, Hc5.out.cell 1, Hm5.out.cell 0, Hm5.out.cell 1, Hm5.out.cell 2, Hm5.out.cell 3, Hm5.out.cell 4, Hm5.out.cell 5, Hm5.out.cell 6, Hm5.out.cell 7, Hm5.out.cell 8, Hm5.out.cell 9, Hm5.out.cell 10⟩ (fun hS0 => ?_)
    clear hK K
    try simp only [Act.put, List.getElem_toArray, List.getElem_cons_succ, List.getElem_cons_zero, List.setIfInBounds_toArray, List.set_cons_zero, List.set_cons_succ]
    refine tkq 5 ?_
    refine rdq 7 (fun K hK => ?_)
    have z0 : W4.cell? ⟨gx, 0, none⟩ = some (.int .i64 0) := Hx5.out.cell 0
    have z1 : W4.cell? ⟨gx, 1, none⟩ = some (.int .i64 0) := Hx5.out.cell 1
    have z2 : W4.cell? ⟨gx, 2, none⟩ = some (.slice none 0 0) := Hx5.out.cell 2
    have z3 : W4.cell? ⟨gx, 3, none⟩ = some (.slice none 0 0) := Hx5.out.cell 3
    have z4 : W4.cell? ⟨gx, 4, none⟩ = some (.slice none 0 0) := Hx5.out.cell 4
    have f0 := Hx5.out.free 0
    have f1 := Hx5.out.free 1
    have f2 := Hx5.out.free 2
    have f3 := Hx5.out.free 3
    have f4 := Hx5.out.free 4
    go_simp
    clear z0 f0 z1 f1 z2 f2 z3 f3 z4 f4
    have hch := Lib.hid ((((((Chg.refl gx W4).set 0 (.int .i64 y.m.c)).set 1 (.int .i64 1)).set 2 (.slice (some ⟨gm, 0, none⟩) N N)).set 3 (.slice none 0 0)).set 4 (.slice none 0 0))
    have Hx6 : Hid (Blk (((((W4.setCell ⟨gx, 0, none⟩ (.int .i64 y.m.c)).setCell ⟨gx, 1, none⟩ (.int .i64 1)).setCell ⟨gx, 2, none⟩ (.slice (some ⟨gm, 0, none⟩) N N)).setCell ⟨gx, 3, none⟩ (.slice none 0 0)).setCell ⟨gx, 4, none⟩ (.slice none 0 0)) gx #[.int .i64 y.m.c, .int .i64 1, .slice (some ⟨gm, 0, none⟩) N N, .slice none 0 0, .slice none 0 0] 56) := (by have h1 := blk_put_all Hx5.out #[.int .i64 y.m.c, .int .i64 1, .slice (some ⟨gm, 0, none⟩) N N, .slice none 0 0, .slice none 0 0] rfl; exact Lib.hid h1)
    have HB6 := ksq HB5 hch (by show w.heap.size ≤ gx; have := HW8.out; have := HGX.out; have := HGM.out; omega)
    have HZ6 := kzq HZ5 hch.out.size
    have Hc6 := kcq Hc5 hch (by have := HW8.out; have := HGX.out; have := HGM.out; omega)
    have Hm6 := kcq Hm5 hch (by have := HW8.out; have := HGX.out; have := HGM.out; omega)
    have Hr6 := kcq Hr5 hch (by have := HW8.out; have := HGX.out; have := HGM.out; omega)
    have Hk6 := kcq Hk5 hch (by have := HW8.out; have := HGX.out; have := HGM.out; omega)
    clear hch hS0 Hc5 Hm5 Hr5 Hx5 Hk5 HB5 HZ5
    generalize (((((W4.setCell ⟨gx, 0, none⟩ (.int .i64 y.m.c)).setCell ⟨gx, 1, none⟩ (.int .i64 1)).setCell ⟨gx, 2, none⟩ (.slice (some ⟨gm, 0, none⟩) N N)).setCell ⟨gx, 3, none⟩ (.slice none 0 0)).setCell ⟨gx, 4, none⟩ (.slice none 0 0)) = WSb at *
    refine hK.out _ _ ⟨Hc6.out.cell 0, Hc6.out.cell 1, Hm6.out.cell 0, Hm6.out.cell 1, Hm6.out.cell 2, Hm6.out.cell 3, Hm6.out.cell 4, Hm6.out.cell 5, Hm6.out.cell 6, Hm6.out.cell 7, Hm6.out.cell 8, Hm6.out.cell 9, Hm6.out.cell 10⟩ (fun hS0 => ?_)
    clear hK K
    try simp only [Act.put, List.getElem_toArray, List.getElem_cons_succ, List.getElem_cons_zero, List.setIfInBounds_toArray, List.set_cons_zero, List.set_cons_succ]
    refine wpAnyH_done (by kernel_rfl) ?_ _
    clear hS0
    have HRO := Lib.hid ((TRow.one_ encR (⟨rn0 N y.m.c, some ⟨gm, 0, none⟩, N, none, 0, none, 0⟩ : RunX) (Blk.new WSb #[.int .i64 y.m.c, .int .i64 1, .slice (some ⟨gm, 0, none⟩) N N, .slice none 0 0, .slice none 0 0] 56) (by show _ = [Value.int .i64 y.m.c, .int .i64 1, .slice (some ⟨gm, 0, none⟩) (List.replicate N hd0).length N, .slice none 0 0, .slice none 0 0]; rw [List.length_replicate]) (Nat.le_refl 1)))
    have HXO := Lib.hid ((HXR.out.kept HB6.out).kept (oneB WSb (.cells #[.int .i64 y.m.c, .int .i64 1, .slice (some ⟨gm, 0, none⟩) N N, .slice none 0 0, .slice none 0 0] 56)))
    have hba := oneB WSb (.cells #[.int .i64 y.m.c, .int .i64 1, .slice (some ⟨gm, 0, none⟩) N N, .slice none 0 0, .slice none 0 0] 56)
    have a1 : WSb.cell? ⟨w.heap.size, 1, none⟩ = some (.slice p n c) := Hc6.out.cell 1
    have x0 : WSb.cell? ⟨gx, 0, none⟩ = some (.int .i64 y.m.c) := Hx6.out.cell 0
    have x1 : WSb.cell? ⟨gx, 1, none⟩ = some (.int .i64 1) := Hx6.out.cell 1
    have x2 : WSb.cell? ⟨gx, 2, none⟩ = some (.slice (some ⟨gm, 0, none⟩) N N) := Hx6.out.cell 2
    have x3 : WSb.cell? ⟨gx, 3, none⟩ = some (.slice none 0 0) := Hx6.out.cell 3
    have x4 : WSb.cell? ⟨gx, 4, none⟩ = some (.slice none 0 0) := Hx6.out.cell 4
    have HG := Lib.hid (concatR_any (WSb.heap.size + 1) 0 2 2 [.slice p n c, .slice (some ⟨WSb.heap.size, 0, none⟩) 1 1] [xs, [(⟨rn0 N y.m.c, some ⟨gm, 0, none⟩, N, none, 0, none, 0⟩ : RunX)]] ((WSb.alloc (.cells #[.int .i64 y.m.c, .int .i64 1, .slice (some ⟨gm, 0, none⟩) N N, .slice none 0 0, .slice none 0 0] 56)).alloc (.cells #[.slice p n c, .slice (some ⟨WSb.heap.size, 0, none⟩) 1 1] 25)) (RowsT.two (Blk.new' (WSb.alloc (.cells #[.int .i64 y.m.c, .int .i64 1, .slice (some ⟨gm, 0, none⟩) N N, .slice none 0 0, .slice none 0 0] 56)) #[.slice p n c, .slice (some ⟨WSb.heap.size, 0, none⟩) 1 1] 25 (by simp)) rfl (HXO.out.kept (oneB (WSb.alloc (.cells #[.int .i64 y.m.c, .int .i64 1, .slice (some ⟨gm, 0, none⟩) N N, .slice none 0 0, .slice none 0 0] 56)) _)) (HRO.out.kept (oneB (WSb.alloc (.cells #[.int .i64 y.m.c, .int .i64 1, .slice (some ⟨gm, 0, none⟩) N N, .slice none 0 0, .slice none 0 0] 56)) _))) rfl (by decide) (by have := HXL.out; have := HKK.out; simp; omega))
    clear hba HRO HXO
    rw [show [xs, [(⟨rn0 N y.m.c, some ⟨gm, 0, none⟩, N, none, 0, none, 0⟩ : RunX)]].flatten = xs ++ [(⟨rn0 N y.m.c, some ⟨gm, 0, none⟩, N, none, 0, none, 0⟩ : RunX)] by simp] at HG
    go_wp2_with fail
    clear a1 x0 x1 x2 x3 x4
    refine HG.out.mono ?_
    rintro y9 w9 ⟨v9, rfl, ho, hb9⟩
    clear HG
    have hb := (oneB WSb (.cells #[.int .i64 y.m.c, .int .i64 1, .slice (some ⟨gm, 0, none⟩) N N, .slice none 0 0, .slice none 0 0] 56)).trans (((oneB (WSb.alloc (.cells #[.int .i64 y.m.c, .int .i64 1, .slice (some ⟨gm, 0, none⟩) N N, .slice none 0 0, .slice none 0 0] 56)) (.cells #[.slice p n c, .slice (some ⟨WSb.heap.size, 0, none⟩) 1 1] 25)).trans (hb9.mono (by simp))).mono (by simp))
    obtain ⟨p9, c9, hv9⟩ := ho.form
    rw [show (xs ++ [(⟨rn0 N y.m.c, some ⟨gm, 0, none⟩, N, none, 0, none, 0⟩ : RunX)]).length = n + 1 by rw [List.length_append, HXL.out]; rfl] at hv9
    subst hv9
    have HO := Lib.hid (ho.less (base' := WSb.heap.size) (by simp; omega))
    have HW9 : Hid (w.heap.size + 1 + 1 < WSb.heap.size) := Lib.hid Hr6.out.lt
    clear ho hb9
    have Hc7 := kbq Hc6 hb
    have Hm7 := kbq Hm6 hb
    have Hr7 := kbq Hr6 hb
    have Hx7 := kbq Hx6 hb
    have Hk7 := kbq Hk6 hb
    have HB7 := ktq HB6 hb
    have HZ7 := kzq HZ6 hb.size
    clear Hc6 Hm6 Hr6 Hx6 Hk6 HB6 HZ6
    clear hb
    have z1 : w9.cell? ⟨w.heap.size, 1, none⟩ = some (.slice p n c) := Hc7.out.cell 1
    have f1 := Hc7.out.free 1
    go_upto_region 10 with fail
    clear z1 f1
    have hch := Lib.hid ((Chg.refl w.heap.size w9).set 1 (.slice p9 (n + 1) c9))
    have Hc8 : Hid (Blk _ w.heap.size #[.int .i64 (N : Int), .slice p9 (n + 1) c9] 27) := Lib.hid (Hc7.out.set 1 (.slice p9 (n + 1) c9))
    have HB8 := ksq HB7 hch (by show w.heap.size ≤ w.heap.size; have := HW8.out; have := HGX.out; have := HGM.out; omega)
    have HZ8 := kzq HZ7 hch.out.size
    have Hm8 := kcq Hm7 hch (by have := HW8.out; have := HGX.out; have := HGM.out; omega)
    have Hr8 := kcq Hr7 hch (by have := HW8.out; have := HGX.out; have := HGM.out; omega)
    have Hx8 := kcq Hx7 hch (by have := HW8.out; have := HGX.out; have := HGM.out; omega)
    have Hk8 := kcq Hk7 hch (by have := HW8.out; have := HGX.out; have := HGM.out; omega)
    have HO := Lib.hid (HO.out.stay (fun g hg => hch.out.2 g (HO.out.lt g hg) (by have h1 := HO.out.block_ge g hg; have := HW9.out; omega)))
    clear hch Hc7 Hm7 Hr7 Hx7 Hk7 HB7 HZ7
    generalize (w9.setCell ⟨w.heap.size, 1, none⟩ (.slice p9 (n + 1) c9)) = WBb at *
    have hbd := (Below.refl WBb.heap.size WBb).drew
    have Hc9 := kbq Hc8 hbd
    have Hm9 := kbq Hm8 hbd
    have Hr9 := kbq Hr8 hbd
    have Hx9 := kbq Hx8 hbd
    have Hk9 := kbq Hk8 hbd
    have HB9 := ktq HB8 hbd
    have HZ9 := kzq HZ8 hbd.size
    clear Hc8 Hm8 Hr8 Hx8 Hk8 HB8 HZ8
    have hS1 : WBb.drew.cell? ⟨w.heap.size, 0, none⟩ = some (.int .i64 (N : Int)) ∧ WBb.drew.cell? ⟨w.heap.size, 1, none⟩ = some (.slice p9 (n + 1) c9) ∧ WBb.drew.cell? ⟨w.heap.size + 1, 0, none⟩ = some (.int .i64 y.m.k) ∧ WBb.drew.cell? ⟨w.heap.size + 1, 1, none⟩ = some (.int .i64 y.m.s) ∧ WBb.drew.cell? ⟨w.heap.size + 1, 2, none⟩ = some (.int .i64 y.m.n) ∧ WBb.drew.cell? ⟨w.heap.size + 1, 3, none⟩ = some (.int .i64 y.m.b) ∧ WBb.drew.cell? ⟨w.heap.size + 1, 4, none⟩ = some (.int .i64 y.m.c) ∧ WBb.drew.cell? ⟨w.heap.size + 1, 5, none⟩ = some (.int .i64 y.m.r) ∧ WBb.drew.cell? ⟨w.heap.size + 1, 6, none⟩ = some (.int .i64 y.m.y) ∧ WBb.drew.cell? ⟨w.heap.size + 1, 7, none⟩ = some (.int .i64 y.m.a) ∧ WBb.drew.cell? ⟨w.heap.size + 1, 8, none⟩ = some (.bool y.m.t) ∧ WBb.drew.cell? ⟨w.heap.size + 1, 9, none⟩ = some (.slice y.pl y.m.ls.length y.cl) ∧ WBb.drew.cell? ⟨w.heap.size + 1, 10, none⟩ = some (.slice y.pn y.m.ns.length y.cn) := ⟨Hc9.out.cell 0, Hc9.out.cell 1, Hm9.out.cell 0, Hm9.out.cell 1, Hm9.out.cell 2, Hm9.out.cell 3, Hm9.out.cell 4, Hm9.out.cell 5, Hm9.out.cell 6, Hm9.out.cell 7, Hm9.out.cell 8, Hm9.out.cell 9, Hm9.out.cell 10⟩
    have HO := Lib.hid (HO.out.later hbd)
    refine wp_region_held_drew (S := fun w' => w'.cell? ⟨w.heap.size, 0, none⟩ = some (.int .i64 (N : Int)) ∧ w'.cell? ⟨w.heap.size, 1, none⟩ = some (.slice p9 (n + 1) c9) ∧ w'.cell? ⟨w.heap.size + 1, 0, none⟩ = some (.int .i64 y.m.k) ∧ w'.cell? ⟨w.heap.size + 1, 1, none⟩ = some (.int .i64 y.m.s) ∧ w'.cell? ⟨w.heap.size + 1, 2, none⟩ = some (.int .i64 y.m.n) ∧ w'.cell? ⟨w.heap.size + 1, 3, none⟩ = some (.int .i64 y.m.b) ∧ w'.cell? ⟨w.heap.size + 1, 4, none⟩ = some (.int .i64 y.m.c) ∧ w'.cell? ⟨w.heap.size + 1, 5, none⟩ = some (.int .i64 y.m.r) ∧ w'.cell? ⟨w.heap.size + 1, 6, none⟩ = some (.int .i64 y.m.y) ∧ w'.cell? ⟨w.heap.size + 1, 7, none⟩ = some (.int .i64 y.m.a) ∧ w'.cell? ⟨w.heap.size + 1, 8, none⟩ = some (.bool y.m.t) ∧ w'.cell? ⟨w.heap.size + 1, 9, none⟩ = some (.slice y.pl y.m.ls.length y.cl) ∧ w'.cell? ⟨w.heap.size + 1, 10, none⟩ = some (.slice y.pn y.m.ns.length y.cn)) (by kernel_rfl) hS1 (fun hS0 => ?_)
    clear hS1
    generalize WBb.drew = WE at *
    clear hbd
    refine tkq 0 ?_
    refine tkq 1 ?_
    refine tkq 2 ?_
    refine tkq 3 ?_
    refine tkq 4 ?_
    refine tkq 5 ?_
    refine tkq 6 ?_
    refine tkq 7 ?_
    refine rdq 8 (fun K hK => ?_)
    have HOA := Lib.hid HO.out.at_lt
    have HG := Lib.hid (toAll_any WE N p9 (n + 1) c9 (⟨askM ((n + 1 : Nat) : Int) y.m.c, none, 0, none, 0⟩ : MsgX) (fun _ => True) HNN.out.2 ⟨TRow.nil_ _ _, Row.nil_ _ _ 0, At.nil_ _ _, At.nil_ _ _, ⟨by show 0 * 32 ≤ _; decide, by show 0 * 8 ≤ _; decide⟩⟩)
    unfold askM Msg.v at HG
    dsimp only [List.length_nil] at HG
    go_simp
    go_at_call 56
    refine HG.out.mono ?_
    rintro y9 w10 ⟨p5, c5, rfl, hs, hb⟩
    clear HG
    have HO := Lib.hid (HO.out.later hb)
    have HSS := Lib.hid hs
    have HWE : Hid (w.heap.size + 1 + 1 < WE.heap.size ∧ gx < WE.heap.size ∧ gm < WE.heap.size) := Lib.hid ⟨Hr9.out.lt, Hx9.out.lt, Hk9.out.lt⟩
    have HOL : Hid (At (fun b => WSb.heap.size ≤ b ∧ b < WE.heap.size) (.slice p9 (n + 1) c9) (xs ++ [(⟨rn0 N y.m.c, some ⟨gm, 0, none⟩, N, none, 0, none, 0⟩ : RunX)]).length) := Lib.hid HOA.out
    clear hs HOA
    have Hc10 := kbq Hc9 hb
    have Hm10 := kbq Hm9 hb
    have Hr10 := kbq Hr9 hb
    have Hx10 := kbq Hx9 hb
    have Hk10 := kbq Hk9 hb
    have HB10 := ktq HB9 hb
    have HZ10 := kzq HZ9 hb.size
    clear Hc9 Hm9 Hr9 Hx9 Hk9 HB9 HZ9
    clear hb hS0
    try go_wp2_with fail
    refine hK.out _ _ ⟨Hc10.out.cell 0, Hc10.out.cell 1, Hm10.out.cell 0, Hm10.out.cell 1, Hm10.out.cell 2, Hm10.out.cell 3, Hm10.out.cell 4, Hm10.out.cell 5, Hm10.out.cell 6, Hm10.out.cell 7, Hm10.out.cell 8, Hm10.out.cell 9, Hm10.out.cell 10⟩ (fun hS0 => ?_)
    clear hK K
    try simp only [Act.put, List.getElem_toArray, List.getElem_cons_succ, List.getElem_cons_zero, List.setIfInBounds_toArray, List.set_cons_zero, List.set_cons_succ]
    refine rdq 9 (fun K hK => ?_)
    have z0 : w10.cell? ⟨(w.heap.size + 1 + 1), 0, none⟩ = some (.int .i64 0) := Hr10.out.cell 0
    have z1 : w10.cell? ⟨(w.heap.size + 1 + 1), 1, none⟩ = some (.slice none 0 0) := Hr10.out.cell 1
    have f0 := Hr10.out.free 0
    have f1 := Hr10.out.free 1
    go_simp
    clear z0 f0 z1 f1
    have hch := Lib.hid (((Chg.refl (w.heap.size + 1 + 1) w10).set 0 (.int .i64 (N : Int))).set 1 (.slice p9 (n + 1) c9))
    have Hr11 : Hid (Blk _ (w.heap.size + 1 + 1) #[.int .i64 (N : Int), .slice p9 (n + 1) c9] 27) := Lib.hid ((Hr10.out.set 0 (.int .i64 (N : Int))).set 1 (.slice p9 (n + 1) c9))
    have HB11 := ksq HB10 hch (by show w.heap.size ≤ (w.heap.size + 1 + 1); have := HW8.out; have := HGX.out; have := HGM.out; omega)
    have HZ11 := kzq HZ10 hch.out.size
    have Hc11 := kcq Hc10 hch (by have := HW8.out; have := HGX.out; have := HGM.out; omega)
    have Hm11 := kcq Hm10 hch (by have := HW8.out; have := HGX.out; have := HGM.out; omega)
    have Hx11 := kcq Hx10 hch (by have := HW8.out; have := HGX.out; have := HGM.out; omega)
    have Hk11 := kcq Hk10 hch (by have := HW8.out; have := HGX.out; have := HGM.out; omega)
    have HST := Lib.hid (HSS.out.chgS hch.out (by have := HWE.out; omega))
    have HO := Lib.hid (HO.out.stay (fun g hg => hch.out.2 g (HO.out.lt g hg) (by have h1 := HO.out.block_ge g hg; have := HW9.out; omega)))
    clear HSS
    clear hch hS0 Hc10 Hm10 Hr10 Hx10 Hk10 HB10 HZ10
    generalize ((w10.setCell ⟨w.heap.size + 1 + 1, 0, none⟩ (.int .i64 (N : Int))).setCell ⟨w.heap.size + 1 + 1, 1, none⟩ (.slice p9 (n + 1) c9)) = WZ at *
    refine hK.out _ _ ⟨Hc11.out.cell 0, Hc11.out.cell 1, Hm11.out.cell 0, Hm11.out.cell 1, Hm11.out.cell 2, Hm11.out.cell 3, Hm11.out.cell 4, Hm11.out.cell 5, Hm11.out.cell 6, Hm11.out.cell 7, Hm11.out.cell 8, Hm11.out.cell 9, Hm11.out.cell 10⟩ (fun hS0 => ?_)
    clear hK K
    try simp only [Act.put, List.getElem_toArray, List.getElem_cons_succ, List.getElem_cons_zero, List.setIfInBounds_toArray, List.set_cons_zero, List.set_cons_succ]
    refine tkq 10 ?_
    refine tkq 11 ?_
    refine wpAnyH_done (by kernel_rfl) ?_ _
    clear hS0
    have HFIN : Hid (RsR (fun b => P b ∨ (w.heap.size ≤ b ∧ b < WE.heap.size)) WZ (.slice p9 (n + 1) c9) (rs ++ [rn0 N y.m.c])) := Lib.hid (by
     refine ⟨xs ++ [(⟨rn0 N y.m.c, some ⟨gm, 0, none⟩, N, none, 0, none, 0⟩ : RunX)], HO.out.row, HOL.out.imp (fun b h => .inr ⟨by have := HW9.out; omega, h.2⟩), fun x hx => ?_, by rw [List.map_append, HXM.out]; rfl⟩
     rcases List.mem_append.1 hx with h | h
     ·exact ((HXI.out x h).kept HB11.out).imp (fun b h => .inl h)
     ·obtain rfl := List.mem_singleton.1 h
      refine ⟨?_, TRow.nil_ _ _, At.nil_ _ _, Row.nil_ _ _ 0, At.nil_ _ _⟩
      have h1 := HsR.made (P := fun b => P b ∨ (w.heap.size ≤ b ∧ b < WE.heap.size)) Hk11.out (.inr ⟨by have := HGM.out; omega, HWE.out.2.2⟩)
      show HsR _ _ (.slice (some ⟨gm, 0, none⟩) (List.replicate N hd0).length N) (List.replicate N hd0)
      rw [List.length_replicate]
      exact h1)
    go_wp2_with fail
    have hfr := Hr11.out
    refine bodyPost_ret (v := .tuple #[.agg #[.int .i64 (N : Int), .slice p9 (n + 1) c9], .slice p5 N c5, .int .i64 0]) (by simp [results, Try.results32, go_sem, hfr.cell 0, hfr.cell 1]) rfl (by rw [HE.out]; exact ⟨p9, n + 1, c9, p5, N, c5, WE.heap.size, rfl, by rw [List.length_append, ← HKK.out.1]; rfl, by rw [toAllL_len], by have := HWE.out; omega, HFIN.out, by rw [← HKK.out.1]; exact HST.out, HB11.out⟩)
  ·skip
   have HGX : Hid (w.heap.size + 1 + 1 < WD.heap.size) := Lib.hid Hr2.out.lt
   go_simp
   have hba := oneB WD (.cells #[.int .i64 0, .int .i64 0, .slice none 0 0, .slice none 0 0, .slice none 0 0] 56)
   have Hc3 := kbq Hc2 hba
   have Hm3 := kbq Hm2 hba
   have Hr3 := kbq Hr2 hba
   have Hx3 := Lib.hid (Blk.new WD #[.int .i64 0, .int .i64 0, .slice none 0 0, .slice none 0 0, .slice none 0 0] 56)
   have HB3 := Lib.hid (HB2.out.alloc HB2.out.size (.cells #[.int .i64 0, .int .i64 0, .slice none 0 0, .slice none 0 0, .slice none 0 0] 56))
   have HZ3 := kzq HZ2 hba.size
   clear hba hS0 Hc2 Hm2 Hr2 HB2 HZ2
   generalize (WD.alloc (.cells #[.int .i64 0, .int .i64 0, .slice none 0 0, .slice none 0 0, .slice none 0 0] 56)) = W6 at *
   generalize hggx : WD.heap.size = gx at *
   clear hggx
   refine hK.out _ _ ⟨Hc3.out.cell 0, Hc3.out.cell 1, Hm3.out.cell 0, Hm3.out.cell 1, Hm3.out.cell 2, Hm3.out.cell 3, Hm3.out.cell 4, Hm3.out.cell 5, Hm3.out.cell 6, Hm3.out.cell 7, Hm3.out.cell 8, Hm3.out.cell 9, Hm3.out.cell 10⟩ (fun hS0 => ?_)
   clear hK K
   try simp only [Act.put, List.getElem_toArray, List.getElem_cons_succ, List.getElem_cons_zero, List.setIfInBounds_toArray, List.set_cons_zero, List.set_cons_succ]
   refine rdq 3 (fun K hK => ?_)
   have HG := Lib.hid (entities_any W6 (N : Int) p n c (by omega) (by have := HNN.out; omega))
   go_simp
   go_at_call 16
   refine HG.out.mono ?_
   rintro y9 w3 ⟨rfl, hb⟩
   clear HG
   have Hc4 := kbq Hc3 hb
   have Hm4 := kbq Hm3 hb
   have Hr4 := kbq Hr3 hb
   have Hx4 := kbq Hx3 hb
   have HB4 := ktq HB3 hb
   have HZ4 := kzq HZ3 hb.size
   clear Hc3 Hm3 Hr3 Hx3 HB3 HZ3
   clear hb hS0
   try go_wp2_with fail
   refine hK.out _ _ ⟨Hc4.out.cell 0, Hc4.out.cell 1, Hm4.out.cell 0, Hm4.out.cell 1, Hm4.out.cell 2, Hm4.out.cell 3, Hm4.out.cell 4, Hm4.out.cell 5, Hm4.out.cell 6, Hm4.out.cell 7, Hm4.out.cell 8, Hm4.out.cell 9, Hm4.out.cell 10⟩ (fun hS0 => ?_)
   clear hK K
   try simp only [Act.put, List.getElem_toArray, List.getElem_cons_succ, List.getElem_cons_zero, List.setIfInBounds_toArray, List.set_cons_zero, List.set_cons_succ]
   refine rdq 4 (fun K hK => ?_)
   obtain ⟨i0, hu, hi, hz, hs, hby⟩ := eltH
   have hmk := run_make (P := Try.prog) w3 54 80 i0 _ hu hi hz .i64 .i64 (N : Int) (N : Int) (by omega) (Int.le_refl _) (by rw [hby]; have := HNN.out; omega) (by have := HNN.out; omega)
   rw [hs] at hmk
   simp only [Int.toNat_natCast, Value.cells, zeroVH] at hmk
   clear hu hi hz hs hby
   have HGM : Hid (w.heap.size + 1 + 1 < w3.heap.size ∧ gx < w3.heap.size) := Lib.hid ⟨Hr4.out.lt, Hx4.out.lt⟩
   go_simp
   clear hmk
   have hba := oneB w3 (.cells (madeCells #[.bool false, .bool false, .slice none 0 0] (N * encH.k)) 80)
   have Hc5 := kbq Hc4 hba
   have Hm5 := kbq Hm4 hba
   have Hr5 := kbq Hr4 hba
   have Hx5 := kbq Hx4 hba
   have Hk5 := Lib.hid (Blk.new w3 (madeCells #[.bool false, .bool false, .slice none 0 0] (N * encH.k)) 80)
   have HB5 := Lib.hid (HB4.out.alloc HB4.out.size (.cells (madeCells #[.bool false, .bool false, .slice none 0 0] (N * encH.k)) 80))
   have HZ5 := kzq HZ4 hba.size
   clear hba hS0 Hc4 Hm4 Hr4 Hx4 HB4 HZ4
   generalize (w3.alloc (.cells (madeCells #[.bool false, .bool false, .slice none 0 0] (N * encH.k)) 80)) = W4 at *
   generalize hggm : w3.heap.size = gm at *
   clear hggm
   refine hK.out _ _ ⟨Hc5.out.cell 0, Hc5.out.cell 1, Hm5.out.cell 0, Hm5.out.cell 1, Hm5.out.cell 2, Hm5.out.cell 3, Hm5.out.cell 4, Hm5.out.cell 5, Hm5.out.cell 6, Hm5.out.cell 7, Hm5.out.cell 8, Hm5.out.cell 9, Hm5.out.cell 10⟩ (fun hS0 => ?_)
   clear hK K
   try simp only [Act.put, List.getElem_toArray, List.getElem_cons_succ, List.getElem_cons_zero, List.setIfInBounds_toArray, List.set_cons_zero, List.set_cons_succ]
   refine tkq 5 ?_
   refine rdq 7 (fun K hK => ?_)
   have z0 : W4.cell? ⟨gx, 0, none⟩ = some (.int .i64 0) := Hx5.out.cell 0
   have z1 : W4.cell? ⟨gx, 1, none⟩ = some (.int .i64 0) := Hx5.out.cell 1
   have z2 : W4.cell? ⟨gx, 2, none⟩ = some (.slice none 0 0) := Hx5.out.cell 2
   have z3 : W4.cell? ⟨gx, 3, none⟩ = some (.slice none 0 0) := Hx5.out.cell 3
   have z4 : W4.cell? ⟨gx, 4, none⟩ = some (.slice none 0 0) := Hx5.out.cell 4
   have f0 := Hx5.out.free 0
   have f1 := Hx5.out.free 1
   have f2 := Hx5.out.free 2
   have f3 := Hx5.out.free 3
   have f4 := Hx5.out.free 4
   go_simp
   clear z0 f0 z1 f1 z2 f2 z3 f3 z4 f4
   have hch := Lib.hid ((((((Chg.refl gx W4).set 0 (.int .i64 y.m.c)).set 1 (.int .i64 1)).set 2 (.slice (some ⟨gm, 0, none⟩) N N)).set 3 (.slice none 0 0)).set 4 (.slice none 0 0))
   have Hx6 : Hid (Blk (((((W4.setCell ⟨gx, 0, none⟩ (.int .i64 y.m.c)).setCell ⟨gx, 1, none⟩ (.int .i64 1)).setCell ⟨gx, 2, none⟩ (.slice (some ⟨gm, 0, none⟩) N N)).setCell ⟨gx, 3, none⟩ (.slice none 0 0)).setCell ⟨gx, 4, none⟩ (.slice none 0 0)) gx #[.int .i64 y.m.c, .int .i64 1, .slice (some ⟨gm, 0, none⟩) N N, .slice none 0 0, .slice none 0 0] 56) := (by have h1 := blk_put_all Hx5.out #[.int .i64 y.m.c, .int .i64 1, .slice (some ⟨gm, 0, none⟩) N N, .slice none 0 0, .slice none 0 0] rfl; exact Lib.hid h1)
   have HB6 := ksq HB5 hch (by show w.heap.size ≤ gx; have := HW8.out; have := HGX.out; have := HGM.out; omega)
   have HZ6 := kzq HZ5 hch.out.size
   have Hc6 := kcq Hc5 hch (by have := HW8.out; have := HGX.out; have := HGM.out; omega)
   have Hm6 := kcq Hm5 hch (by have := HW8.out; have := HGX.out; have := HGM.out; omega)
   have Hr6 := kcq Hr5 hch (by have := HW8.out; have := HGX.out; have := HGM.out; omega)
   have Hk6 := kcq Hk5 hch (by have := HW8.out; have := HGX.out; have := HGM.out; omega)
   clear hch hS0 Hc5 Hm5 Hr5 Hx5 Hk5 HB5 HZ5
   generalize (((((W4.setCell ⟨gx, 0, none⟩ (.int .i64 y.m.c)).setCell ⟨gx, 1, none⟩ (.int .i64 1)).setCell ⟨gx, 2, none⟩ (.slice (some ⟨gm, 0, none⟩) N N)).setCell ⟨gx, 3, none⟩ (.slice none 0 0)).setCell ⟨gx, 4, none⟩ (.slice none 0 0)) = WSc at *
   refine hK.out _ _ ⟨Hc6.out.cell 0, Hc6.out.cell 1, Hm6.out.cell 0, Hm6.out.cell 1, Hm6.out.cell 2, Hm6.out.cell 3, Hm6.out.cell 4, Hm6.out.cell 5, Hm6.out.cell 6, Hm6.out.cell 7, Hm6.out.cell 8, Hm6.out.cell 9, Hm6.out.cell 10⟩ (fun hS0 => ?_)
   clear hK K
   try simp only [Act.put, List.getElem_toArray, List.getElem_cons_succ, List.getElem_cons_zero, List.setIfInBounds_toArray, List.set_cons_zero, List.set_cons_succ]
   refine wpAnyH_done (by kernel_rfl) ?_ _
   clear hS0
   have HRO := Lib.hid ((TRow.one_ encR (⟨rn0 N y.m.c, some ⟨gm, 0, none⟩, N, none, 0, none, 0⟩ : RunX) (Blk.new WSc #[.int .i64 y.m.c, .int .i64 1, .slice (some ⟨gm, 0, none⟩) N N, .slice none 0 0, .slice none 0 0] 56) (by show _ = [Value.int .i64 y.m.c, .int .i64 1, .slice (some ⟨gm, 0, none⟩) (List.replicate N hd0).length N, .slice none 0 0, .slice none 0 0]; rw [List.length_replicate]) (Nat.le_refl 1)))
   have HXO := Lib.hid ((HXR.out.kept HB6.out).kept (oneB WSc (.cells #[.int .i64 y.m.c, .int .i64 1, .slice (some ⟨gm, 0, none⟩) N N, .slice none 0 0, .slice none 0 0] 56)))
   have hba := oneB WSc (.cells #[.int .i64 y.m.c, .int .i64 1, .slice (some ⟨gm, 0, none⟩) N N, .slice none 0 0, .slice none 0 0] 56)
   have a1 : WSc.cell? ⟨w.heap.size, 1, none⟩ = some (.slice p n c) := Hc6.out.cell 1
   have x0 : WSc.cell? ⟨gx, 0, none⟩ = some (.int .i64 y.m.c) := Hx6.out.cell 0
   have x1 : WSc.cell? ⟨gx, 1, none⟩ = some (.int .i64 1) := Hx6.out.cell 1
   have x2 : WSc.cell? ⟨gx, 2, none⟩ = some (.slice (some ⟨gm, 0, none⟩) N N) := Hx6.out.cell 2
   have x3 : WSc.cell? ⟨gx, 3, none⟩ = some (.slice none 0 0) := Hx6.out.cell 3
   have x4 : WSc.cell? ⟨gx, 4, none⟩ = some (.slice none 0 0) := Hx6.out.cell 4
   have HG := Lib.hid (concatR_any (WSc.heap.size + 1) 0 2 2 [.slice p n c, .slice (some ⟨WSc.heap.size, 0, none⟩) 1 1] [xs, [(⟨rn0 N y.m.c, some ⟨gm, 0, none⟩, N, none, 0, none, 0⟩ : RunX)]] ((WSc.alloc (.cells #[.int .i64 y.m.c, .int .i64 1, .slice (some ⟨gm, 0, none⟩) N N, .slice none 0 0, .slice none 0 0] 56)).alloc (.cells #[.slice p n c, .slice (some ⟨WSc.heap.size, 0, none⟩) 1 1] 25)) (RowsT.two (Blk.new' (WSc.alloc (.cells #[.int .i64 y.m.c, .int .i64 1, .slice (some ⟨gm, 0, none⟩) N N, .slice none 0 0, .slice none 0 0] 56)) #[.slice p n c, .slice (some ⟨WSc.heap.size, 0, none⟩) 1 1] 25 (by simp)) rfl (HXO.out.kept (oneB (WSc.alloc (.cells #[.int .i64 y.m.c, .int .i64 1, .slice (some ⟨gm, 0, none⟩) N N, .slice none 0 0, .slice none 0 0] 56)) _)) (HRO.out.kept (oneB (WSc.alloc (.cells #[.int .i64 y.m.c, .int .i64 1, .slice (some ⟨gm, 0, none⟩) N N, .slice none 0 0, .slice none 0 0] 56)) _))) rfl (by decide) (by have := HXL.out; have := HKK.out; simp; omega))
   clear hba HRO HXO
   rw [show [xs, [(⟨rn0 N y.m.c, some ⟨gm, 0, none⟩, N, none, 0, none, 0⟩ : RunX)]].flatten = xs ++ [(⟨rn0 N y.m.c, some ⟨gm, 0, none⟩, N, none, 0, none, 0⟩ : RunX)] by simp] at HG
   go_wp2_with fail
   clear a1 x0 x1 x2 x3 x4
   refine HG.out.mono ?_
   rintro y9 w9 ⟨v9, rfl, ho, hb9⟩
   clear HG
   have hb := (oneB WSc (.cells #[.int .i64 y.m.c, .int .i64 1, .slice (some ⟨gm, 0, none⟩) N N, .slice none 0 0, .slice none 0 0] 56)).trans (((oneB (WSc.alloc (.cells #[.int .i64 y.m.c, .int .i64 1, .slice (some ⟨gm, 0, none⟩) N N, .slice none 0 0, .slice none 0 0] 56)) (.cells #[.slice p n c, .slice (some ⟨WSc.heap.size, 0, none⟩) 1 1] 25)).trans (hb9.mono (by simp))).mono (by simp))
   obtain ⟨p9, c9, hv9⟩ := ho.form
   rw [show (xs ++ [(⟨rn0 N y.m.c, some ⟨gm, 0, none⟩, N, none, 0, none, 0⟩ : RunX)]).length = n + 1 by rw [List.length_append, HXL.out]; rfl] at hv9
   subst hv9
   have HO := Lib.hid (ho.less (base' := WSc.heap.size) (by simp; omega))
   have HW9 : Hid (w.heap.size + 1 + 1 < WSc.heap.size) := Lib.hid Hr6.out.lt
   clear ho hb9
   have Hc7 := kbq Hc6 hb
   have Hm7 := kbq Hm6 hb
   have Hr7 := kbq Hr6 hb
   have Hx7 := kbq Hx6 hb
   have Hk7 := kbq Hk6 hb
   have HB7 := ktq HB6 hb
   have HZ7 := kzq HZ6 hb.size
   clear Hc6 Hm6 Hr6 Hx6 Hk6 HB6 HZ6
   clear hb
   have z1 : w9.cell? ⟨w.heap.size, 1, none⟩ = some (.slice p n c) := Hc7.out.cell 1
   have f1 := Hc7.out.free 1
   go_upto_region 10 with fail
   clear z1 f1
   have hch := Lib.hid ((Chg.refl w.heap.size w9).set 1 (.slice p9 (n + 1) c9))
   have Hc8 : Hid (Blk _ w.heap.size #[.int .i64 (N : Int), .slice p9 (n + 1) c9] 27) := Lib.hid (Hc7.out.set 1 (.slice p9 (n + 1) c9))
   have HB8 := ksq HB7 hch (by show w.heap.size ≤ w.heap.size; have := HW8.out; have := HGX.out; have := HGM.out; omega)
   have HZ8 := kzq HZ7 hch.out.size
   have Hm8 := kcq Hm7 hch (by have := HW8.out; have := HGX.out; have := HGM.out; omega)
   have Hr8 := kcq Hr7 hch (by have := HW8.out; have := HGX.out; have := HGM.out; omega)
   have Hx8 := kcq Hx7 hch (by have := HW8.out; have := HGX.out; have := HGM.out; omega)
   have Hk8 := kcq Hk7 hch (by have := HW8.out; have := HGX.out; have := HGM.out; omega)
   have HO := Lib.hid (HO.out.stay (fun g hg => hch.out.2 g (HO.out.lt g hg) (by have h1 := HO.out.block_ge g hg; have := HW9.out; omega)))
   clear hch Hc7 Hm7 Hr7 Hx7 Hk7 HB7 HZ7
   generalize (w9.setCell ⟨w.heap.size, 1, none⟩ (.slice p9 (n + 1) c9)) = WBc at *
   have hbd := (Below.refl WBc.heap.size WBc).drew
   have Hc9 := kbq Hc8 hbd
   have Hm9 := kbq Hm8 hbd
   have Hr9 := kbq Hr8 hbd
   have Hx9 := kbq Hx8 hbd
   have Hk9 := kbq Hk8 hbd
   have HB9 := ktq HB8 hbd
   have HZ9 := kzq HZ8 hbd.size
   clear Hc8 Hm8 Hr8 Hx8 Hk8 HB8 HZ8
   have hS1 : WBc.drew.cell? ⟨w.heap.size, 0, none⟩ = some (.int .i64 (N : Int)) ∧ WBc.drew.cell? ⟨w.heap.size, 1, none⟩ = some (.slice p9 (n + 1) c9) ∧ WBc.drew.cell? ⟨w.heap.size + 1, 0, none⟩ = some (.int .i64 y.m.k) ∧ WBc.drew.cell? ⟨w.heap.size + 1, 1, none⟩ = some (.int .i64 y.m.s) ∧ WBc.drew.cell? ⟨w.heap.size + 1, 2, none⟩ = some (.int .i64 y.m.n) ∧ WBc.drew.cell? ⟨w.heap.size + 1, 3, none⟩ = some (.int .i64 y.m.b) ∧ WBc.drew.cell? ⟨w.heap.size + 1, 4, none⟩ = some (.int .i64 y.m.c) ∧ WBc.drew.cell? ⟨w.heap.size + 1, 5, none⟩ = some (.int .i64 y.m.r) ∧ WBc.drew.cell? ⟨w.heap.size + 1, 6, none⟩ = some (.int .i64 y.m.y) ∧ WBc.drew.cell? ⟨w.heap.size + 1, 7, none⟩ = some (.int .i64 y.m.a) ∧ WBc.drew.cell? ⟨w.heap.size + 1, 8, none⟩ = some (.bool y.m.t) ∧ WBc.drew.cell? ⟨w.heap.size + 1, 9, none⟩ = some (.slice y.pl y.m.ls.length y.cl) ∧ WBc.drew.cell? ⟨w.heap.size + 1, 10, none⟩ = some (.slice y.pn y.m.ns.length y.cn) := ⟨Hc9.out.cell 0, Hc9.out.cell 1, Hm9.out.cell 0, Hm9.out.cell 1, Hm9.out.cell 2, Hm9.out.cell 3, Hm9.out.cell 4, Hm9.out.cell 5, Hm9.out.cell 6, Hm9.out.cell 7, Hm9.out.cell 8, Hm9.out.cell 9, Hm9.out.cell 10⟩
   have HO := Lib.hid (HO.out.later hbd)
   refine wp_region_held_drew (S := fun w' => w'.cell? ⟨w.heap.size, 0, none⟩ = some (.int .i64 (N : Int)) ∧ w'.cell? ⟨w.heap.size, 1, none⟩ = some (.slice p9 (n + 1) c9) ∧ w'.cell? ⟨w.heap.size + 1, 0, none⟩ = some (.int .i64 y.m.k) ∧ w'.cell? ⟨w.heap.size + 1, 1, none⟩ = some (.int .i64 y.m.s) ∧ w'.cell? ⟨w.heap.size + 1, 2, none⟩ = some (.int .i64 y.m.n) ∧ w'.cell? ⟨w.heap.size + 1, 3, none⟩ = some (.int .i64 y.m.b) ∧ w'.cell? ⟨w.heap.size + 1, 4, none⟩ = some (.int .i64 y.m.c) ∧ w'.cell? ⟨w.heap.size + 1, 5, none⟩ = some (.int .i64 y.m.r) ∧ w'.cell? ⟨w.heap.size + 1, 6, none⟩ = some (.int .i64 y.m.y) ∧ w'.cell? ⟨w.heap.size + 1, 7, none⟩ = some (.int .i64 y.m.a) ∧ w'.cell? ⟨w.heap.size + 1, 8, none⟩ = some (.bool y.m.t) ∧ w'.cell? ⟨w.heap.size + 1, 9, none⟩ = some (.slice y.pl y.m.ls.length y.cl) ∧ w'.cell? ⟨w.heap.size + 1, 10, none⟩ = some (.slice y.pn y.m.ns.length y.cn)) (by kernel_rfl) hS1 (fun hS0 => ?_)
   clear hS1
   generalize WBc.drew = WE at *
   clear hbd
   refine tkq 0 ?_
   refine tkq 1 ?_
   refine tkq 2 ?_
   refine tkq 3 ?_
   refine tkq 4 ?_
   refine tkq 5 ?_
   refine tkq 6 ?_
   refine tkq 7 ?_
   refine rdq 8 (fun K hK => ?_)
   have HOA := Lib.hid HO.out.at_lt
   have HG := Lib.hid (toAll_any WE N p9 (n + 1) c9 (⟨askM ((n + 1 : Nat) : Int) y.m.c, none, 0, none, 0⟩ : MsgX) (fun _ => True) HNN.out.2 ⟨TRow.nil_ _ _, Row.nil_ _ _ 0, At.nil_ _ _, At.nil_ _ _, ⟨by show 0 * 32 ≤ _; decide, by show 0 * 8 ≤ _; decide⟩⟩)
   unfold askM Msg.v at HG
   dsimp only [List.length_nil] at HG
   go_simp
   go_at_call 56
   refine HG.out.mono ?_
   rintro y9 w10 ⟨p5, c5, rfl, hs, hb⟩
   clear HG
   have HO := Lib.hid (HO.out.later hb)
   have HSS := Lib.hid hs
   have HWE : Hid (w.heap.size + 1 + 1 < WE.heap.size ∧ gx < WE.heap.size ∧ gm < WE.heap.size) := Lib.hid ⟨Hr9.out.lt, Hx9.out.lt, Hk9.out.lt⟩
   have HOL : Hid (At (fun b => WSc.heap.size ≤ b ∧ b < WE.heap.size) (.slice p9 (n + 1) c9) (xs ++ [(⟨rn0 N y.m.c, some ⟨gm, 0, none⟩, N, none, 0, none, 0⟩ : RunX)]).length) := Lib.hid HOA.out
   clear hs HOA
   have Hc10 := kbq Hc9 hb
   have Hm10 := kbq Hm9 hb
   have Hr10 := kbq Hr9 hb
   have Hx10 := kbq Hx9 hb
   have Hk10 := kbq Hk9 hb
   have HB10 := ktq HB9 hb
   have HZ10 := kzq HZ9 hb.size
   clear Hc9 Hm9 Hr9 Hx9 Hk9 HB9 HZ9
   clear hb hS0
   try go_wp2_with fail
   refine hK.out _ _ ⟨Hc10.out.cell 0, Hc10.out.cell 1, Hm10.out.cell 0, Hm10.out.cell 1, Hm10.out.cell 2, Hm10.out.cell 3, Hm10.out.cell 4, Hm10.out.cell 5, Hm10.out.cell 6, Hm10.out.cell 7, Hm10.out.cell 8, Hm10.out.cell 9, Hm10.out.cell 10⟩ (fun hS0 => ?_)
   clear hK K
   try simp only [Act.put, List.getElem_toArray, List.getElem_cons_succ, List.getElem_cons_zero, List.setIfInBounds_toArray, List.set_cons_zero, List.set_cons_succ]
   refine rdq 9 (fun K hK => ?_)
   have z0 : w10.cell? ⟨(w.heap.size + 1 + 1), 0, none⟩ = some (.int .i64 0) := Hr10.out.cell 0
   have z1 : w10.cell? ⟨(w.heap.size + 1 + 1), 1, none⟩ = some (.slice none 0 0) := Hr10.out.cell 1
   have f0 := Hr10.out.free 0
   have f1 := Hr10.out.free 1
   go_simp
   clear z0 f0 z1 f1
   have hch := Lib.hid (((Chg.refl (w.heap.size + 1 + 1) w10).set 0 (.int .i64 (N : Int))).set 1 (.slice p9 (n + 1) c9))
   have Hr11 : Hid (Blk _ (w.heap.size + 1 + 1) #[.int .i64 (N : Int), .slice p9 (n + 1) c9] 27) := Lib.hid ((Hr10.out.set 0 (.int .i64 (N : Int))).set 1 (.slice p9 (n + 1) c9))
   have HB11 := ksq HB10 hch (by show w.heap.size ≤ (w.heap.size + 1 + 1); have := HW8.out; have := HGX.out; have := HGM.out; omega)
   have HZ11 := kzq HZ10 hch.out.size
   have Hc11 := kcq Hc10 hch (by have := HW8.out; have := HGX.out; have := HGM.out; omega)
   have Hm11 := kcq Hm10 hch (by have := HW8.out; have := HGX.out; have := HGM.out; omega)
   have Hx11 := kcq Hx10 hch (by have := HW8.out; have := HGX.out; have := HGM.out; omega)
   have Hk11 := kcq Hk10 hch (by have := HW8.out; have := HGX.out; have := HGM.out; omega)
   have HST := Lib.hid (HSS.out.chgS hch.out (by have := HWE.out; omega))
   have HO := Lib.hid (HO.out.stay (fun g hg => hch.out.2 g (HO.out.lt g hg) (by have h1 := HO.out.block_ge g hg; have := HW9.out; omega)))
   clear HSS
   clear hch hS0 Hc10 Hm10 Hr10 Hx10 Hk10 HB10 HZ10
   generalize ((w10.setCell ⟨w.heap.size + 1 + 1, 0, none⟩ (.int .i64 (N : Int))).setCell ⟨w.heap.size + 1 + 1, 1, none⟩ (.slice p9 (n + 1) c9)) = WZ at *
   refine hK.out _ _ ⟨Hc11.out.cell 0, Hc11.out.cell 1, Hm11.out.cell 0, Hm11.out.cell 1, Hm11.out.cell 2, Hm11.out.cell 3, Hm11.out.cell 4, Hm11.out.cell 5, Hm11.out.cell 6, Hm11.out.cell 7, Hm11.out.cell 8, Hm11.out.cell 9, Hm11.out.cell 10⟩ (fun hS0 => ?_)
   clear hK K
   try simp only [Act.put, List.getElem_toArray, List.getElem_cons_succ, List.getElem_cons_zero, List.setIfInBounds_toArray, List.set_cons_zero, List.set_cons_succ]
   refine tkq 10 ?_
   refine tkq 11 ?_
   refine wpAnyH_done (by kernel_rfl) ?_ _
   clear hS0
   have HFIN : Hid (RsR (fun b => P b ∨ (w.heap.size ≤ b ∧ b < WE.heap.size)) WZ (.slice p9 (n + 1) c9) (rs ++ [rn0 N y.m.c])) := Lib.hid (by
    refine ⟨xs ++ [(⟨rn0 N y.m.c, some ⟨gm, 0, none⟩, N, none, 0, none, 0⟩ : RunX)], HO.out.row, HOL.out.imp (fun b h => .inr ⟨by have := HW9.out; omega, h.2⟩), fun x hx => ?_, by rw [List.map_append, HXM.out]; rfl⟩
    rcases List.mem_append.1 hx with h | h
    ·exact ((HXI.out x h).kept HB11.out).imp (fun b h => .inl h)
    ·obtain rfl := List.mem_singleton.1 h
     refine ⟨?_, TRow.nil_ _ _, At.nil_ _ _, Row.nil_ _ _ 0, At.nil_ _ _⟩
     have h1 := HsR.made (P := fun b => P b ∨ (w.heap.size ≤ b ∧ b < WE.heap.size)) Hk11.out (.inr ⟨by have := HGM.out; omega, HWE.out.2.2⟩)
     show HsR _ _ (.slice (some ⟨gm, 0, none⟩) (List.replicate N hd0).length N) (List.replicate N hd0)
     rw [List.length_replicate]
     exact h1)
   go_wp2_with fail
   have hfr := Hr11.out
   refine bodyPost_ret (v := .tuple #[.agg #[.int .i64 (N : Int), .slice p9 (n + 1) c9], .slice p5 N c5, .int .i64 0]) (by simp [results, Try.results32, go_sem, hfr.cell 0, hfr.cell 1]) rfl (by rw [HE.out]; exact ⟨p9, n + 1, c9, p5, N, c5, WE.heap.size, rfl, by rw [List.length_append, ← HKK.out.1]; rfl, by rw [toAllL_len], by have := HWE.out; omega, HFIN.out, by rw [← HKK.out.1]; exact HST.out, HB11.out⟩)
 ·skip
  have HE : Hid (startC N rs y.m = (rs, [], 90)) := by show _ = _; unfold startC; rw [if_neg HNR.out, if_pos HBA.out]
  go_upto_region 5 with fail
  have a0 : w1.cell? ⟨w.heap.size, 0, none⟩ = some (.int .i64 (N : Int)) := Hc1.out.cell 0
  have a1 : w1.cell? ⟨w.heap.size, 1, none⟩ = some (.slice p n c) := Hc1.out.cell 1
  go_wp2_with (with_reducible refine stop_storeT 27 (.tmp 6) (.tmp 27) rfl ?_)
  clear a0 a1
  have HTH : Hid (w1.there (w.heap.size + 1 + 1) 0 2) := Hr1.out.thereAt
  have hch : Hid (Chg (w.heap.size + 1 + 1) w1 (w1.setCells (w.heap.size + 1 + 1) 0 (#[.int .i64 (N : Int), .slice p n c] : Array Value).toList)) := Lib.hid (chg_putL _ _ _ _ _ (Chg.refl _ w1))
  have Hr2 : Hid (Blk (w1.setCells (w.heap.size + 1 + 1) 0 (#[.int .i64 (N : Int), .slice p n c] : Array Value).toList) (w.heap.size + 1 + 1) #[.int .i64 (N : Int), .slice p n c] 27) := Lib.hid (blk_put_all Hr1.out _ rfl)
  have HB2 : Hid (Below w.heap.size w (w1.setCells (w.heap.size + 1 + 1) 0 (#[.int .i64 (N : Int), .slice p n c] : Array Value).toList)) := Lib.hid (below_put (by omega) _ _ _ _ HB1.out)
  have HZ2 := kzq HZ1 hch.out.size
  have Hc2 := kcq Hc1 hch (by omega)
  have Hm2 := kcq Hm1 hch (by omega)
  clear hch Hc1 Hm1 Hr1 HB1 HZ1
  refine wpList_store_mid rfl 27 (.tmp 6) (.tmp 27) rfl (w.heap.size + 1 + 1) 0 #[.int .i64 (N : Int), .slice p n c] rfl rfl HTH.out (infoC2 rfl) (all_oneCell_toArray (by intro u hu; simp at hu; rcases hu with rfl | rfl <;> rfl)) ?_
  generalize (w1.setCells (w.heap.size + 1 + 1) 0 (#[.int .i64 (N : Int), .slice p n c] : Array Value).toList) = W9c at *
  clear HTH
  go_wp2_with fail
  have hfr := Hr2.out
  refine bodyPost_ret (v := .tuple #[.agg #[.int .i64 (N : Int), .slice p n c], .slice none 0 0, .int .i64 90]) (by simp [results, Try.results32, go_sem, hfr.cell 0, hfr.cell 1]) rfl (by rw [HE.out]; exact ⟨p, n, c, none, 0, 0, W9c.heap.size, rfl, HKK.out.1, rfl, HZ2.out, (HRS.out.kept HB2.out).imp (fun b h => .inl h), SaidL.nil_ _ _, HB2.out⟩)
end Go.Proofs.Yteogdfpkcoodlaa
