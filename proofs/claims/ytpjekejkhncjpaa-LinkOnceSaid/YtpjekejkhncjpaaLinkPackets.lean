/- link.Packets by contract. -/
import Derived.Test.YtpjekejkhncjpaaLinkPk
namespace Go.Proofs.Ytpjekejkhncjpaa
open Go.RowKit
set_option linter.unusedSimpArgs false
set_option maxHeartbeats 8000000 in
set_option maxRecDepth 100000 in
theorem packets_no (P : Nat → Prop) (me i k : Int) (p : Option Addr) (n c : Nat) (qs : List Pe) (w : World) (hn : n = qs.length) (hr : PeRow P w (.slice p n c) qs) (hok : okP me qs.length i = false) :
    Calls Try.prog 8 #[.agg #[.int .i64 me, .slice p n c], .int .i64 i, .int .i64 k] w fun e w' => e = .returned (.slice none 0 0) ∧ Below w.heap.size w w' := by
  have HB0 := Lib.hid (oneB w (.cells #[.int .i64 me, .slice p n c] 27))
  have HOT := Lib.hid (other_any P me i p n c qs _ hn (hr.kept HB0.out))
  rw [hok] at HOT
  clear hn hr hok
  go_enter Try.func8, Try.ntmps8
  go_wp2_with fail
  refine HOT.out.mono ?_
  rintro y w1 ⟨x, rfl, _, hb⟩
  have HB := Lib.hid (HB0.out.trans (hb.mono HB0.out.size))
  clear hb HOT
  go_wp2_with fail
  go_ret
  exact ⟨rfl, HB.out.alloc HB.out.size _⟩
def PLoop (P : Nat → Prop) (w3 : World) (me : Int) (j : Nat) (h : Int) (K : Nat) (ms : List Msg) (i : Nat) (v : Value) (wr : World) : Prop := ∃ ys : List PkX, OwnT encK wr w3.heap.size 41 v ys ∧ ys.map PkX.pk = pkN me j h K (ms.take i) ∧ (∀ y ∈ ys, y.x.InP (fun b => v.ownBlock ≠ some b ∧ P b) wr) ∧ Below w3.heap.size w3 wr
set_option maxHeartbeats 8000000 in
set_option maxRecDepth 100000 in
theorem packets_one (P : Nat → Prop) (me : Int) (j : Nat) (kI : Int) (p : Option Addr) (n c : Nat) (qs : List Pe) (w : World) (hn : n = qs.length) (hr : PeRow P w (.slice p n c) qs) (hok : okP me qs.length j = true) (hj : j < qs.length) (hs : qs[j].1.length ≤ 1000) (hk : kI < 0 ∧ qs[j].1.length = 0 ∨ ¬ kI < 0 ∧ qs[j].1.length ≤ kI.toNat) (hP : ∀ b, w.heap.size ≤ b → P b) :
    Calls Try.prog 8 #[.agg #[.int .i64 me, .slice p n c], .int .i64 (j : Nat), .int .i64 kI] w fun e w' => ∃ v, e = .returned v ∧ PkRow P w' v [⟨me, j, 0, qs[j].2, msgZ⟩] ∧ Below w.heap.size w w' := by
  have HB0 := Lib.hid (oneB w (.cells #[.int .i64 me, .slice p n c] 27))
  have HK0 := Lib.hid (Blk.new w #[.int .i64 me, .slice p n c] 27)
  have hP2 : peAt me qs j = qs[j] := by unfold peAt; rw [if_pos hok]; simp [hj]
  have HOT := Lib.hid (other_any P me j p n c qs _ hn (hr.kept HB0.out))
  rw [hok, hP2] at HOT
  generalize hq : qs[j] = q at *
  have HPP := Lib.hid hP
  have HS := Lib.hid hs
  have HKK := Lib.hid hk
  clear hk
  clear hn hr hok hj hP2 hq hs hP
  go_enter Try.func8, Try.ntmps8
  go_wp2_with fail
  refine HOT.out.mono ?_
  rintro y w1 ⟨⟨sp, sn, sc, sh⟩, rfl, hx, hb⟩
  have HX := Lib.hid hx
  have hxh : sh = q.2 := hx.1
  subst hxh
  dsimp only at hx ⊢
  have HXN : Hid (sn = q.1.length) := hx.2.1
  have HB1 := Lib.hid (HB0.out.trans (hb.mono HB0.out.size))
  have HK1 := Lib.hid ((HK0.out.below hb HK0.out.lt).alloc (.cells #[.slice sp sn sc, .int .i64 q.2] 46))
  have HB2 := Lib.hid (HB1.out.alloc HB1.out.size (.cells #[.slice sp sn sc, .int .i64 q.2] 46))
  have hk1 := HK1.out
  have c0 : (w1.alloc (.cells #[.slice sp sn sc, .int .i64 q.2] 46)).cell? ⟨w.heap.size, 0, none⟩ = some (.int .i64 me) := hk1.cell 0
  have HW1 := Lib.hid (Nat.le_trans HB0.out.size hb.size)
  clear hb hx HOT HK0 HB0 hk1
  rcases HKK.out with ⟨h1, h2⟩ | ⟨h1, h2⟩
  · have h3 : sn = 0 := by rw [HXN.out, h2]
    subst h3
    have h4 : (if kI < 0 then (0 : Int) else kI) = 0 := by rw [if_pos h1]
    go_wp2_with fail
    have h1 := Blk.new' ((w1.alloc (.cells #[.slice sp 0 sc, .int .i64 q.2] 46)).alloc (.cells #[.int .i64 me, .int .i64 (j : Nat), .int .i64 0, .int .i64 q.2, .int .i64 0, .int .i64 0, .int .i64 0, .int .i64 0, .int .i64 0, .int .i64 0, .int .i64 0, .int .i64 0, .bool false, .slice none 0 0, .slice none 0 0] 41)) #[.int .i64 me, .int .i64 (j : Nat), .int .i64 0, .int .i64 q.2, .int .i64 0, .int .i64 0, .int .i64 0, .int .i64 0, .int .i64 0, .int .i64 0, .int .i64 0, .int .i64 0, .bool false, .slice none 0 0, .slice none 0 0] 41 (b := w1.heap.size + 1 + 1) (by simp)
    have hB3 := HB2.out.alloc HB2.out.size (.cells #[.int .i64 me, .int .i64 (j : Nat), .int .i64 0, .int .i64 q.2, .int .i64 0, .int .i64 0, .int .i64 0, .int .i64 0, .int .i64 0, .int .i64 0, .int .i64 0, .int .i64 0, .bool false, .slice none 0 0, .slice none 0 0] 41)
    go_ret
    refine ⟨_, rfl, ⟨[⟨me, j, 0, q.2, msgZX⟩], TRow.one_ encK _ h1 rfl (Nat.le_refl 1), (fun b o n c e _ => by cases e; exact HPP.out _ (by have := HW1.out; omega)), (fun y hy => by simp at hy; subst hy; exact ⟨TRow.nil_ _ _, Row.nil_ _ _ 0, At.nil_ _ _, At.nil_ _ _, show Msg.Sz msgZ from ⟨by decide, by decide⟩⟩), rfl⟩, hB3.alloc hB3.size _⟩
  · obtain ⟨K, rfl⟩ : ∃ K : Nat, kI = K := ⟨kI.toNat, by omega⟩
    have h3 : (sn : Int) ≤ (K : Int) := by have := HXN.out; simp at h2; omega
    have h4 : sn ≤ K := by omega
    go_wp2_with fail
    have h1 := Blk.new' ((w1.alloc (.cells #[.slice sp sn sc, .int .i64 q.2] 46)).alloc (.cells #[.int .i64 me, .int .i64 (j : Nat), .int .i64 0, .int .i64 q.2, .int .i64 0, .int .i64 0, .int .i64 0, .int .i64 0, .int .i64 0, .int .i64 0, .int .i64 0, .int .i64 0, .bool false, .slice none 0 0, .slice none 0 0] 41)) #[.int .i64 me, .int .i64 (j : Nat), .int .i64 0, .int .i64 q.2, .int .i64 0, .int .i64 0, .int .i64 0, .int .i64 0, .int .i64 0, .int .i64 0, .int .i64 0, .int .i64 0, .bool false, .slice none 0 0, .slice none 0 0] 41 (b := w1.heap.size + 1 + 1) (by simp)
    have hB3 := HB2.out.alloc HB2.out.size (.cells #[.int .i64 me, .int .i64 (j : Nat), .int .i64 0, .int .i64 q.2, .int .i64 0, .int .i64 0, .int .i64 0, .int .i64 0, .int .i64 0, .int .i64 0, .int .i64 0, .int .i64 0, .bool false, .slice none 0 0, .slice none 0 0] 41)
    go_ret
    refine ⟨_, rfl, ⟨[⟨me, j, 0, q.2, msgZX⟩], TRow.one_ encK _ h1 rfl (Nat.le_refl 1), (fun b o n c e _ => by cases e; exact HPP.out _ (by have := HW1.out; omega)), (fun y hy => by simp at hy; subst hy; exact ⟨TRow.nil_ _ _, Row.nil_ _ _ 0, At.nil_ _ _, At.nil_ _ _, show Msg.Sz msgZ from ⟨by decide, by decide⟩⟩), rfl⟩, hB3.alloc hB3.size _⟩
set_option maxHeartbeats 8000000 in
set_option maxRecDepth 100000 in
theorem packets_many (P : Nat → Prop) (me : Int) (j : Nat) (K : Nat) (p : Option Addr) (n c : Nat) (qs : List Pe) (w : World) (hn : n = qs.length) (hr : PeRow P w (.slice p n c) qs) (hok : okP me qs.length j = true) (hj : j < qs.length) (hs : qs[j].1.length ≤ 1000) (hlt : K < qs[j].1.length) (hP : ∀ b, w.heap.size ≤ b → P b) :
    Calls Try.prog 8 #[.agg #[.int .i64 me, .slice p n c], .int .i64 (j : Nat), .int .i64 (K : Nat)] w fun e w' => ∃ v, e = .returned v ∧ PkRow P w' v (pkN me j qs[j].2 K (qs[j].1.drop K)) ∧ Below w.heap.size w w' := by
  have HB0 := Lib.hid (oneB w (.cells #[.int .i64 me, .slice p n c] 27))
  have HK0 := Lib.hid (Blk.new w #[.int .i64 me, .slice p n c] 27)
  have hP2 : peAt me qs j = qs[j] := by unfold peAt; rw [if_pos hok]; simp [hj]
  have HOT := Lib.hid (other_any P me j p n c qs _ hn (hr.kept HB0.out))
  rw [hok, hP2] at HOT
  generalize hq : qs[j] = q at *
  have HPP := Lib.hid hP
  have HS := Lib.hid hs
  clear hn hr hok hj hP2 hq hs hP
  go_enter Try.func8, Try.ntmps8
  go_wp2_with fail
  refine HOT.out.mono ?_
  rintro y w1 ⟨⟨sp, sn, sc, sh⟩, rfl, hx, hb⟩
  have HX := Lib.hid hx
  have hxh : sh = q.2 := hx.1
  subst hxh
  dsimp only at hx ⊢
  have HXN : Hid (sn = q.1.length) := hx.2.1
  have HB1 := Lib.hid (HB0.out.trans (hb.mono HB0.out.size))
  have HK1 := Lib.hid ((HK0.out.below hb HK0.out.lt).alloc (.cells #[.slice sp sn sc, .int .i64 q.2] 46))
  have HB2 := Lib.hid (HB1.out.alloc HB1.out.size (.cells #[.slice sp sn sc, .int .i64 q.2] 46))
  have hk1 := HK1.out
  have c0 : (w1.alloc (.cells #[.slice sp sn sc, .int .i64 q.2] 46)).cell? ⟨w.heap.size, 0, none⟩ = some (.int .i64 me) := hk1.cell 0
  have HW1 := Lib.hid (Nat.le_trans HB0.out.size hb.size)
  obtain ⟨xs, hx1, hx2, hx3, hx4⟩ := hx.2.2
  dsimp only at hx1 hx2
  have hxl : xs.length = sn := by rw [HXN.out, ← hx4]; simp
  have hcap := hx1.cap
  obtain ⟨b, o, rfl, hbl, hrest⟩ := hx1.at_ 0 (by have := HXN.out; omega)
  clear hrest
  have HXS := Lib.hid hx1
  have HXL := Lib.hid hxl
  have HX3 := Lib.hid hx3
  have HX4 := Lib.hid hx4
  have HBL := Lib.hid hbl
  have hc1 : ¬ sc = K := by have := HXN.out; omega
  have hlt' : ¬ (sn : Int) ≤ (K : Int) := by have := HXN.out; omega
  have HLT : Hid (K < sn) := by show K < sn; have := HXN.out; omega
  clear hlt
  have HKS : Hid (sn ≤ 1000) := by show sn ≤ 1000; have h1 := HXN.out; have h2 := HS.out; omega
  have HG := Lib.hid (Nat.lt_of_lt_of_le (show w.heap.size < (w.alloc (.cells #[.int .i64 me, .slice p n c] 27)).heap.size by simp) hb.size)
  clear hb hx HOT HK0 HB0 hk1 hx1 hx2 hx3 hx4 hxl hcap hbl
  have HNO := Lib.hid (Blk.new' (w1.alloc (.cells #[.slice (some ⟨b, o, none⟩) sn sc, .int .i64 q.2] 46)) #[.int .i64 me, .int .i64 (j : Nat), .int .i64 0, .int .i64 q.2, .int .i64 0, .int .i64 0, .int .i64 0, .int .i64 0, .int .i64 0, .int .i64 0, .int .i64 0, .int .i64 0, .bool false, .slice none 0 0, .slice none 0 0] 41 (b := w1.heap.size + 1) (by simp))
  have HB3 := Lib.hid (HB2.out.alloc HB2.out.size (.cells #[.int .i64 me, .int .i64 (j : Nat), .int .i64 0, .int .i64 q.2, .int .i64 0, .int .i64 0, .int .i64 0, .int .i64 0, .int .i64 0, .int .i64 0, .int .i64 0, .int .i64 0, .bool false, .slice none 0 0, .slice none 0 0] 41))
  have C13 := Lib.hid (show Below w1.heap.size w1 ((w1.alloc (.cells #[.slice (some ⟨b, o, none⟩) sn sc, .int .i64 q.2] 46)).alloc (.cells #[.int .i64 me, .int .i64 (j : Nat), .int .i64 0, .int .i64 q.2, .int .i64 0, .int .i64 0, .int .i64 0, .int .i64 0, .int .i64 0, .int .i64 0, .int .i64 0, .int .i64 0, .bool false, .slice none 0 0, .slice none 0 0] 41)) from (oneB w1 _).trans ((oneB _ _).mono (by simp)))
  go_wp2_with fail
  generalize (w1.alloc (.cells #[.slice (some ⟨b, o, none⟩) sn sc, .int .i64 q.2] 46)).alloc (.cells #[.int .i64 me, .int .i64 (j : Nat), .int .i64 0, .int .i64 q.2, .int .i64 0, .int .i64 0, .int .i64 0, .int .i64 0, .int .i64 0, .int .i64 0, .int .i64 0, .int .i64 0, .bool false, .slice none 0 0, .slice none 0 0] 41) = w3 at *
  have HLT3 := Lib.hid HNO.out.lt
  clear c0 hc1 hlt'
  have HREL : Hid (PLoop P w3 me j q.2 K (q.1.drop K) 0 (.slice none 0 0) w3) := ⟨[], OwnT.nil_ _ _ _ _, rfl, (fun _ h => by cases h), Below.refl _ _⟩
  go_loopw [11, 43] (fun v i wr => ∃ k : Nat, k ≤ sn - K ∧ i = .int .i64 k ∧ Hid (PLoop P w3 me j q.2 K (q.1.drop K) k v wr)) (fun _ i _ => (sn - K) - (intOf i).toNat)
  case atStart => exact ⟨0, by omega, rfl, HREL⟩
  case round =>
    obtain ⟨k, hk, rfl, HK⟩ := hrel
    clear HREL
    obtain ⟨ys, ho, hpk, hin, hbw⟩ := HK.out
    have hyl : ys.length = k := by
      have h1 := congrArg List.length hpk
      rw [List.length_map, pkN_length, List.length_take, List.length_drop] at h1
      have h2 := HXN.out
      omega
    obtain ⟨pv, cv, rfl⟩ := ho.form
    rw [hyl] at ho hin
    by_cases hlk : k < sn - K
    · have hlI : (k : Int) < ((sn - K : Nat) : Int) := by omega
      have hki : K + k < xs.length := by have := HXL.out; omega
      obtain ⟨b', o', e1, _, hcs⟩ := (HXS.out.kept (C13.out.trans (hbw.mono C13.out.size))).at_ (K + k) hki
      cases e1
      have HM := Lib.hid ((HX3.out xs[K + k] (List.getElem_mem hki)).kept (C13.out.trans (hbw.mono C13.out.size)))
      have hmq : (q.1.drop K).take (k + 1) = (q.1.drop K).take k ++ [xs[K + k].m] := by
        rw [← HX4.out, List.take_succ_eq_append_getElem (by rw [List.length_drop, List.length_map]; omega)]
        simp
      have HMQ := Lib.hid hmq
      generalize xs[K + k] = X at *
      obtain ⟨m, pl, cl, pn, cn⟩ := X
      rw [show o + (K + k) * encM.k = o + K * 11 + k * 11 by show o + (K + k) * 11 = _; omega] at hcs
      have c0 : wr.cell? ⟨b, o + K * 11 + k * 11, none⟩ = some (.int .i64 m.k) := hcs 0 (by decide)
      have c1 : wr.cell? ⟨b, o + K * 11 + k * 11 + 1, none⟩ = some (.int .i64 m.s) := hcs 1 (by decide)
      have c2 : wr.cell? ⟨b, o + K * 11 + k * 11 + 2, none⟩ = some (.int .i64 m.n) := hcs 2 (by decide)
      have c3 : wr.cell? ⟨b, o + K * 11 + k * 11 + 3, none⟩ = some (.int .i64 m.b) := hcs 3 (by decide)
      have c4 : wr.cell? ⟨b, o + K * 11 + k * 11 + 4, none⟩ = some (.int .i64 m.c) := hcs 4 (by decide)
      have c5 : wr.cell? ⟨b, o + K * 11 + k * 11 + 5, none⟩ = some (.int .i64 m.r) := hcs 5 (by decide)
      have c6 : wr.cell? ⟨b, o + K * 11 + k * 11 + 6, none⟩ = some (.int .i64 m.y) := hcs 6 (by decide)
      have c7 : wr.cell? ⟨b, o + K * 11 + k * 11 + 7, none⟩ = some (.int .i64 m.a) := hcs 7 (by decide)
      have c8 : wr.cell? ⟨b, o + K * 11 + k * 11 + 8, none⟩ = some (.bool m.t) := hcs 8 (by decide)
      have c9 : wr.cell? ⟨b, o + K * 11 + k * 11 + 9, none⟩ = some (.slice pl m.ls.length cl) := hcs 9 (by decide)
      have c10 : wr.cell? ⟨b, o + K * 11 + k * 11 + 10, none⟩ = some (.slice pn m.ns.length cn) := hcs 10 (by decide)
      have HO := Lib.hid ho
      have HIN := Lib.hid hin
      have HBW := Lib.hid hbw
      have HYL := Lib.hid hyl
      have HPK := Lib.hid hpk
      have hn0 := (HNO.out.below hbw HLT3.out).alloc (.cells #[.int .i64 m.k, .int .i64 m.s, .int .i64 m.n, .int .i64 m.b, .int .i64 m.c, .int .i64 m.r, .int .i64 m.y, .int .i64 m.a, .bool m.t, .slice pl m.ls.length cl, .slice pn m.ns.length cn] 36)
      have n0 : (wr.alloc (.cells #[.int .i64 m.k, .int .i64 m.s, .int .i64 m.n, .int .i64 m.b, .int .i64 m.c, .int .i64 m.r, .int .i64 m.y, .int .i64 m.a, .bool m.t, .slice pl m.ls.length cl, .slice pn m.ns.length cn] 36)).cell? ⟨w1.heap.size + 1, 0, none⟩ = some (.int .i64 me) := hn0.cell 0
      have n1 : (wr.alloc (.cells #[.int .i64 m.k, .int .i64 m.s, .int .i64 m.n, .int .i64 m.b, .int .i64 m.c, .int .i64 m.r, .int .i64 m.y, .int .i64 m.a, .bool m.t, .slice pl m.ls.length cl, .slice pn m.ns.length cn] 36)).cell? ⟨w1.heap.size + 1, 1, none⟩ = some (.int .i64 (j : Nat)) := hn0.cell 1
      have n2 : (wr.alloc (.cells #[.int .i64 m.k, .int .i64 m.s, .int .i64 m.n, .int .i64 m.b, .int .i64 m.c, .int .i64 m.r, .int .i64 m.y, .int .i64 m.a, .bool m.t, .slice pl m.ls.length cl, .slice pn m.ns.length cn] 36)).cell? ⟨w1.heap.size + 1, 2, none⟩ = some (.int .i64 0) := hn0.cell 2
      have n3 : (wr.alloc (.cells #[.int .i64 m.k, .int .i64 m.s, .int .i64 m.n, .int .i64 m.b, .int .i64 m.c, .int .i64 m.r, .int .i64 m.y, .int .i64 m.a, .bool m.t, .slice pl m.ls.length cl, .slice pn m.ns.length cn] 36)).cell? ⟨w1.heap.size + 1, 3, none⟩ = some (.int .i64 q.2) := hn0.cell 3
      have n4 : (wr.alloc (.cells #[.int .i64 m.k, .int .i64 m.s, .int .i64 m.n, .int .i64 m.b, .int .i64 m.c, .int .i64 m.r, .int .i64 m.y, .int .i64 m.a, .bool m.t, .slice pl m.ls.length cl, .slice pn m.ns.length cn] 36)).cell? ⟨w1.heap.size + 1, 4, none⟩ = some (.int .i64 0) := hn0.cell 4
      have n5 : (wr.alloc (.cells #[.int .i64 m.k, .int .i64 m.s, .int .i64 m.n, .int .i64 m.b, .int .i64 m.c, .int .i64 m.r, .int .i64 m.y, .int .i64 m.a, .bool m.t, .slice pl m.ls.length cl, .slice pn m.ns.length cn] 36)).cell? ⟨w1.heap.size + 1, 5, none⟩ = some (.int .i64 0) := hn0.cell 5
      have n6 : (wr.alloc (.cells #[.int .i64 m.k, .int .i64 m.s, .int .i64 m.n, .int .i64 m.b, .int .i64 m.c, .int .i64 m.r, .int .i64 m.y, .int .i64 m.a, .bool m.t, .slice pl m.ls.length cl, .slice pn m.ns.length cn] 36)).cell? ⟨w1.heap.size + 1, 6, none⟩ = some (.int .i64 0) := hn0.cell 6
      have n7 : (wr.alloc (.cells #[.int .i64 m.k, .int .i64 m.s, .int .i64 m.n, .int .i64 m.b, .int .i64 m.c, .int .i64 m.r, .int .i64 m.y, .int .i64 m.a, .bool m.t, .slice pl m.ls.length cl, .slice pn m.ns.length cn] 36)).cell? ⟨w1.heap.size + 1, 7, none⟩ = some (.int .i64 0) := hn0.cell 7
      have n8 : (wr.alloc (.cells #[.int .i64 m.k, .int .i64 m.s, .int .i64 m.n, .int .i64 m.b, .int .i64 m.c, .int .i64 m.r, .int .i64 m.y, .int .i64 m.a, .bool m.t, .slice pl m.ls.length cl, .slice pn m.ns.length cn] 36)).cell? ⟨w1.heap.size + 1, 8, none⟩ = some (.int .i64 0) := hn0.cell 8
      have n9 : (wr.alloc (.cells #[.int .i64 m.k, .int .i64 m.s, .int .i64 m.n, .int .i64 m.b, .int .i64 m.c, .int .i64 m.r, .int .i64 m.y, .int .i64 m.a, .bool m.t, .slice pl m.ls.length cl, .slice pn m.ns.length cn] 36)).cell? ⟨w1.heap.size + 1, 9, none⟩ = some (.int .i64 0) := hn0.cell 9
      have n10 : (wr.alloc (.cells #[.int .i64 m.k, .int .i64 m.s, .int .i64 m.n, .int .i64 m.b, .int .i64 m.c, .int .i64 m.r, .int .i64 m.y, .int .i64 m.a, .bool m.t, .slice pl m.ls.length cl, .slice pn m.ns.length cn] 36)).cell? ⟨w1.heap.size + 1, 10, none⟩ = some (.int .i64 0) := hn0.cell 10
      have n11 : (wr.alloc (.cells #[.int .i64 m.k, .int .i64 m.s, .int .i64 m.n, .int .i64 m.b, .int .i64 m.c, .int .i64 m.r, .int .i64 m.y, .int .i64 m.a, .bool m.t, .slice pl m.ls.length cl, .slice pn m.ns.length cn] 36)).cell? ⟨w1.heap.size + 1, 11, none⟩ = some (.int .i64 0) := hn0.cell 11
      have n12 : (wr.alloc (.cells #[.int .i64 m.k, .int .i64 m.s, .int .i64 m.n, .int .i64 m.b, .int .i64 m.c, .int .i64 m.r, .int .i64 m.y, .int .i64 m.a, .bool m.t, .slice pl m.ls.length cl, .slice pn m.ns.length cn] 36)).cell? ⟨w1.heap.size + 1, 12, none⟩ = some (.bool false) := hn0.cell 12
      have n13 : (wr.alloc (.cells #[.int .i64 m.k, .int .i64 m.s, .int .i64 m.n, .int .i64 m.b, .int .i64 m.c, .int .i64 m.r, .int .i64 m.y, .int .i64 m.a, .bool m.t, .slice pl m.ls.length cl, .slice pn m.ns.length cn] 36)).cell? ⟨w1.heap.size + 1, 13, none⟩ = some (.slice none 0 0) := hn0.cell 13
      have n14 : (wr.alloc (.cells #[.int .i64 m.k, .int .i64 m.s, .int .i64 m.n, .int .i64 m.b, .int .i64 m.c, .int .i64 m.r, .int .i64 m.y, .int .i64 m.a, .bool m.t, .slice pl m.ls.length cl, .slice pn m.ns.length cn] 36)).cell? ⟨w1.heap.size + 1, 14, none⟩ = some (.slice none 0 0) := hn0.cell 14
      rw [hyl]
      clear ho hin hbw hyl hpk hcs HK hmq hki
      generalize hln : m.ls.length = nl at *
      generalize hnn : m.ns.length = nn at *
      have hw1 : wrap64 ((K : Int) + (k : Int)) = (K : Int) + (k : Int) := by have h1 := HKS.out; unfold wrap64; omega
      have hw2 : wrap64 ((K : Int) + (k : Int) + 1) = (K : Int) + (k : Int) + 1 := by have h1 := HKS.out; unfold wrap64; omega
      have HLN := Lib.hid hln
      have HNN := Lib.hid hnn
      clear hln hnn
      have HML : Hid (TRow encN wr (.slice pl nl cl) m.ls) := by show TRow _ _ _ _; rw [← HLN.out]; exact HM.out.ls
      have HMN : Hid (Row .i64 wr (.slice pn nn cn) m.ns) := by show Row _ _ _ _; rw [← HNN.out]; exact HM.out.ns
      have HSZ := Lib.hid HM.out.sz
      go_wp2_with fail
      have HN5 := Lib.hid (Blk.new' (wr.alloc (.cells #[.int .i64 m.k, .int .i64 m.s, .int .i64 m.n, .int .i64 m.b, .int .i64 m.c, .int .i64 m.r, .int .i64 m.y, .int .i64 m.a, .bool m.t, .slice pl nl cl, .slice pn nn cn] 36)) #[.int .i64 me, .int .i64 (j : Nat), .int .i64 0, .int .i64 q.2, .int .i64 0, .int .i64 0, .int .i64 0, .int .i64 0, .int .i64 0, .int .i64 0, .int .i64 0, .int .i64 0, .bool false, .slice none 0 0, .slice none 0 0] 41 (b := wr.heap.size + 1) (by simp))
      have C5 := Lib.hid (show Below wr.heap.size wr ((wr.alloc (.cells #[.int .i64 m.k, .int .i64 m.s, .int .i64 m.n, .int .i64 m.b, .int .i64 m.c, .int .i64 m.r, .int .i64 m.y, .int .i64 m.a, .bool m.t, .slice pl nl cl, .slice pn nn cn] 36)).alloc (.cells #[.int .i64 me, .int .i64 (j : Nat), .int .i64 0, .int .i64 q.2, .int .i64 0, .int .i64 0, .int .i64 0, .int .i64 0, .int .i64 0, .int .i64 0, .int .i64 0, .int .i64 0, .bool false, .slice none 0 0, .slice none 0 0] 41)) from (oneB wr _).trans ((oneB _ _).mono (by simp)))
      clear n0 n1 n2 n3 n4 n5 n6 n7 n8 n9 n10 n11 n12 n13 n14 c0 c1 c2 c3 c4 c5 c6 c7 c8 c9 c10
      refine (own_any m _ _ _ (HML.out.kept C5.out) (HMN.out.kept C5.out) HSZ.out).mono ?_
      rintro y w6 ⟨ul, un, rfl, ol, on, hb6⟩
      obtain ⟨ql, dl, rfl⟩ := ol.form
      obtain ⟨qn, dn, rfl⟩ := on.form
      have HOL := Lib.hid ol
      have HON := Lib.hid on
      have HX6 := Lib.hid (HN5.out.below hb6 HN5.out.lt)
      have C6 := Lib.hid (C5.out.trans (hb6.mono C5.out.size))
      have HS5 : Hid (wr.heap.size + 1 < ((wr.alloc (.cells #[.int .i64 m.k, .int .i64 m.s, .int .i64 m.n, .int .i64 m.b, .int .i64 m.c, .int .i64 m.r, .int .i64 m.y, .int .i64 m.a, .bool m.t, .slice pl nl cl, .slice pn nn cn] 36)).alloc (.cells #[.int .i64 me, .int .i64 (j : Nat), .int .i64 0, .int .i64 q.2, .int .i64 0, .int .i64 0, .int .i64 0, .int .i64 0, .int .i64 0, .int .i64 0, .int .i64 0, .int .i64 0, .bool false, .slice none 0 0, .slice none 0 0] 41)).heap.size) := HN5.out.lt
      rw [HLN.out, HNN.out]
      unfold Msg.v
      generalize (wr.alloc (.cells #[.int .i64 m.k, .int .i64 m.s, .int .i64 m.n, .int .i64 m.b, .int .i64 m.c, .int .i64 m.r, .int .i64 m.y, .int .i64 m.a, .bool m.t, .slice pl nl cl, .slice pn nn cn] 36)).alloc (.cells #[.int .i64 me, .int .i64 (j : Nat), .int .i64 0, .int .i64 q.2, .int .i64 0, .int .i64 0, .int .i64 0, .int .i64 0, .int .i64 0, .int .i64 0, .int .i64 0, .int .i64 0, .bool false, .slice none 0 0, .slice none 0 0] 41) = w5 at *
      have hx6 := HX6.out.cell 2
      have hf6 := HX6.out.free 2
      clear ol on
      have HX7 : Hid (Blk (w6.setCell ⟨wr.heap.size + 1, 2, none⟩ (.int .i64 ((K : Int) + (k : Int) + 1))) (wr.heap.size + 1) (Value.int .i64 me :: .int .i64 (j : Nat) :: .int .i64 ((K : Int) + (k : Int) + 1) :: .int .i64 q.2 :: [.int .i64 0, .int .i64 0, .int .i64 0, .int .i64 0, .int .i64 0, .int .i64 0, .int .i64 0, .int .i64 0, .bool false, .slice none 0 0, .slice none 0 0]).toArray 41) := HX6.out.set 2 _
      have HC7 : Hid (Chg (wr.heap.size + 1) w6 (w6.setCell ⟨wr.heap.size + 1, 2, none⟩ (.int .i64 ((K : Int) + (k : Int) + 1)))) := (Chg.refl _ w6).set 2 _
      go_wp2_with (with_reducible refine stop_storeT 36 (.tmp 56) (.tmp 54) rfl ?_)
      generalize hN : (K : Int) + (k : Int) + 1 = N at *
      have HNE := Lib.hid hN
      clear hN hx6 hf6
      have C7 := Lib.hid (C6.out.trans (HC7.out.below (B := wr.heap.size) (by omega) C6.out.size))
      have HTH := Lib.hid (there_msg HX7.out rfl)
      have HKO := Lib.hid (KeepP.of_chg (P := fun b => b ≠ wr.heap.size + 1) HC7.out (fun h => h rfl))
      have HX8 := Lib.hid (blk_msg _ _ _ _ _ (#[.int .i64 m.k, .int .i64 m.s, .int .i64 m.n, .int .i64 m.b, .int .i64 m.c, .int .i64 m.r, .int .i64 m.y, .int .i64 m.a, .bool m.t, .slice ql nl dl, .slice qn nn dn] : Array Value).toList rfl rfl HX7.out)
      generalize w6.setCell ⟨wr.heap.size + 1, 2, none⟩ (.int .i64 N) = w7 at *
      have HC8 : Hid (Chg (wr.heap.size + 1) w7 (w7.setCells (wr.heap.size + 1) 4 (#[.int .i64 m.k, .int .i64 m.s, .int .i64 m.n, .int .i64 m.b, .int .i64 m.c, .int .i64 m.r, .int .i64 m.y, .int .i64 m.a, .bool m.t, .slice ql nl dl, .slice qn nn dn] : Array Value).toList)) := chg_putL _ _ _ _ _ (Chg.refl _ _)
      refine wpList_store_mid rfl 36 (.tmp 56) (.tmp 54) rfl (wr.heap.size + 1) 4 #[.int .i64 m.k, .int .i64 m.s, .int .i64 m.n, .int .i64 m.b, .int .i64 m.c, .int .i64 m.r, .int .i64 m.y, .int .i64 m.a, .bool m.t, .slice ql nl dl, .slice qn nn dn] rfl rfl HTH.out (infoM rfl) (all_oneCell_toArray (one11M _ _ _ _ _ _ _ _ _ _ _ _ _ _ _)) ?_
      have C8 := Lib.hid (C7.out.trans (HC8.out.below (B := wr.heap.size) (by omega) C7.out.size))
      have HK68 := Lib.hid (HKO.out.trans (KeepP.of_chg HC8.out (fun h => h rfl)))
      have HX8' : Hid (Blk (w7.setCells (wr.heap.size + 1) 4 (#[.int .i64 m.k, .int .i64 m.s, .int .i64 m.n, .int .i64 m.b, .int .i64 m.c, .int .i64 m.r, .int .i64 m.y, .int .i64 m.a, .bool m.t, .slice ql nl dl, .slice qn nn dn] : Array Value).toList) (wr.heap.size + 1) #[.int .i64 me, .int .i64 (j : Nat), .int .i64 N, .int .i64 q.2, .int .i64 m.k, .int .i64 m.s, .int .i64 m.n, .int .i64 m.b, .int .i64 m.c, .int .i64 m.r, .int .i64 m.y, .int .i64 m.a, .bool m.t, .slice ql nl dl, .slice qn nn dn] 41) := HX8.out
      clear HX8 HTH HKO HX7 HC7 HX6
      generalize World.setCells w7 _ _ _ = w8 at *
      have hx8 := HX8'.out
      have f0 : w8.cell? ⟨wr.heap.size + 1, 0, none⟩ = some (.int .i64 me) := hx8.cell 0
      have f1 : w8.cell? ⟨wr.heap.size + 1, 1, none⟩ = some (.int .i64 (j : Nat)) := hx8.cell 1
      have f2 : w8.cell? ⟨wr.heap.size + 1, 2, none⟩ = some (.int .i64 N) := hx8.cell 2
      have f3 : w8.cell? ⟨wr.heap.size + 1, 3, none⟩ = some (.int .i64 q.2) := hx8.cell 3
      have f4 : w8.cell? ⟨wr.heap.size + 1, 4, none⟩ = some (.int .i64 m.k) := hx8.cell 4
      have f5 : w8.cell? ⟨wr.heap.size + 1, 5, none⟩ = some (.int .i64 m.s) := hx8.cell 5
      have f6 : w8.cell? ⟨wr.heap.size + 1, 6, none⟩ = some (.int .i64 m.n) := hx8.cell 6
      have f7 : w8.cell? ⟨wr.heap.size + 1, 7, none⟩ = some (.int .i64 m.b) := hx8.cell 7
      have f8 : w8.cell? ⟨wr.heap.size + 1, 8, none⟩ = some (.int .i64 m.c) := hx8.cell 8
      have f9 : w8.cell? ⟨wr.heap.size + 1, 9, none⟩ = some (.int .i64 m.r) := hx8.cell 9
      have f10 : w8.cell? ⟨wr.heap.size + 1, 10, none⟩ = some (.int .i64 m.y) := hx8.cell 10
      have f11 : w8.cell? ⟨wr.heap.size + 1, 11, none⟩ = some (.int .i64 m.a) := hx8.cell 11
      have f12 : w8.cell? ⟨wr.heap.size + 1, 12, none⟩ = some (.bool m.t) := hx8.cell 12
      have f13 : w8.cell? ⟨wr.heap.size + 1, 13, none⟩ = some (.slice ql nl dl) := hx8.cell 13
      have f14 : w8.cell? ⟨wr.heap.size + 1, 14, none⟩ = some (.slice qn nn dn) := hx8.cell 14
      clear hx8
      have HO8 := Lib.hid (HO.out.later C8.out)
      have HO9 := Lib.hid (HO8.out.later (oneB w8 (.cells #[.int .i64 me, .int .i64 (j : Nat), .int .i64 N, .int .i64 q.2, .int .i64 m.k, .int .i64 m.s, .int .i64 m.n, .int .i64 m.b, .int .i64 m.c, .int .i64 m.r, .int .i64 m.y, .int .i64 m.a, .bool m.t, .slice ql nl dl, .slice qn nn dn] 41)))
      have HONE := Lib.hid (TRow.one_ encK (PkX.mk me j N q.2 (MsgX.mk m ql dl qn dn)) (Blk.new w8 #[.int .i64 me, .int .i64 (j : Nat), .int .i64 N, .int .i64 q.2, .int .i64 m.k, .int .i64 m.s, .int .i64 m.n, .int .i64 m.b, .int .i64 m.c, .int .i64 m.r, .int .i64 m.y, .int .i64 m.a, .bool m.t, .slice ql nl dl, .slice qn nn dn] 41) (by simp [encK, PkX.cells, MsgX.cells, Msg.cells, MsgX.vl, MsgX.vn, HLN.out, HNN.out]) (Nat.le_refl 1))
      have HB8 := Lib.hid (HBW.out.trans (C8.out.mono HBW.out.size))
      have HLI : Hid (∀ b, b < wr.heap.size → some b ≠ some w8.heap.size) := fun b hb e => by cases e; have := C8.out.size; omega
      go_wp2_with (at_builtin; with_reducible refine stop_appendT (.tmp 57) (.tmp 59) 38 rfl ?_)
      refine wpList_append_tg rfl (.tmp 57) (.tmp 59) 38 rfl 41 zeroVK 152 w3.heap.size eltK rfl (.slice pv k cv) (.slice (some ⟨w8.heap.size, 0, none⟩) 1 1) ys [PkX.mk me j N q.2 (MsgX.mk m ql dl qn dn)] rfl rfl HO9.out HONE.out (by have h1 := HYL.out; have h2 := HKS.out; simp; omega) (by have h1 := HYL.out; have h2 := HKS.out; simp; omega) (by have h1 := HB8.out.size; simp; omega) (ys ++ [PkX.mk me j N q.2 (MsgX.mk m ql dl qn dn)]) (k + 1) rfl (by rw [List.length_append, HYL.out]; rfl) ?_
      intro p9 c9 w9 ho9 hg9 hor9 hb9
      have HNX : Hid (PLoop P w3 me j q.2 K (q.1.drop K) (k + 1) (.slice p9 (k + 1) c9) w9) := by
        have hs9 : w8.heap.size + 1 ≤ w9.heap.size := by
          have h1 := ho9.lt
          have h2 := hg9.size
          simpa using h2
        have hsz8 : wr.heap.size ≤ w8.heap.size := C8.out.size
        refine ⟨_, ho9, ?_, ?_, (HB8.out.alloc HB8.out.size _).trans hb9⟩
        · rw [List.map_append, HPK.out, HMQ.out, pkN_append]
          have hlt : ((q.1.drop K).take k).length = k := by rw [List.length_take, List.length_drop]; have h1 := HXN.out; have h2 := HLT.out; omega
          rw [hlt]
          have hNN : N = ((K + k + 1 : Nat) : Int) := by rw [← HNE.out]; omega
          rw [hNN]
          rfl
        · intro y hy
          have hk89 : ∀ Q : Nat → Prop, (∀ b, Q b → some b ≠ (Value.slice pv k cv).ownBlock) → KeepP Q (w8.alloc (.cells #[.int .i64 me, .int .i64 (j : Nat), .int .i64 N, .int .i64 q.2, .int .i64 m.k, .int .i64 m.s, .int .i64 m.n, .int .i64 m.b, .int .i64 m.c, .int .i64 m.r, .int .i64 m.y, .int .i64 m.a, .bool m.t, .slice ql nl dl, .slice qn nn dn] 41)) w9 := fun Q hQ => KeepP.of_grown hg9 (by simpa using hs9) hQ
          have hne : ∀ b, b < w8.heap.size → (Value.slice pv k cv).ownBlock ≠ some b → (Value.slice p9 (k + 1) c9).ownBlock ≠ some b := by
            intro b hb h1 h2
            rcases hor9 with h3 | h3
            · exact h1 (h3 ▸ h2)
            · rw [h3] at h2
              simp at h2
              omega
          rcases List.mem_append.1 hy with hy | hy
          · have h1 := (HIN.out y hy).mono (Q := fun b => (Value.slice pv k cv).ownBlock ≠ some b ∧ ((Value.slice p9 (k + 1) c9).ownBlock ≠ some b ∧ P b)) (fun b hb hp => ⟨hp.1, hne b (by omega) hp.1, hp.2⟩)
            have h2 := (h1.kept C8.out).kept (oneB w8 (.cells #[.int .i64 me, .int .i64 (j : Nat), .int .i64 N, .int .i64 q.2, .int .i64 m.k, .int .i64 m.s, .int .i64 m.n, .int .i64 m.b, .int .i64 m.c, .int .i64 m.r, .int .i64 m.y, .int .i64 m.a, .bool m.t, .slice ql nl dl, .slice qn nn dn] 41))
            exact (h2.keepP (hk89 _ (fun b hb e => hb.1 e.symm))).mono (fun b _ hp => hp.2)
          · simp at hy
            subst hy
            have hQ : ∀ b, w5.heap.size ≤ b ∧ b < w6.heap.size → (Value.slice pv k cv).ownBlock ≠ some b ∧ ((Value.slice p9 (k + 1) c9).ownBlock ≠ some b ∧ (P b ∧ b ≠ wr.heap.size + 1)) := by
              intro b hb
              have h0 : (Value.slice pv k cv).ownBlock ≠ some b := fun e => by have h1 := HO.out.lt b e; have h2 := HS5.out; omega
              have h68 := HK68.out.1
              refine ⟨h0, hne b (by omega) h0, HPP.out b ?_, ?_⟩
              · have h1 := HW1.out; have h2 := C13.out.size; have h3 := HBW.out.size; have h4 := HS5.out; omega
              · have h4 := HS5.out; omega
            have h1 : (MsgX.mk m ql dl qn dn).InP (fun b => (Value.slice pv k cv).ownBlock ≠ some b ∧ ((Value.slice p9 (k + 1) c9).ownBlock ≠ some b ∧ (P b ∧ b ≠ wr.heap.size + 1))) w6 := ⟨HOL.out.row, HON.out.row, HOL.out.at_lt.imp hQ, HON.out.at_lt.imp hQ, HSZ.out⟩
            have h2 := h1.keepP (KeepP.trans (KeepP.weak HK68.out (fun b hb => hb.2.2.2)) (KeepP.of_below (oneB w8 (.cells #[.int .i64 me, .int .i64 (j : Nat), .int .i64 N, .int .i64 q.2, .int .i64 m.k, .int .i64 m.s, .int .i64 m.n, .int .i64 m.b, .int .i64 m.c, .int .i64 m.r, .int .i64 m.y, .int .i64 m.a, .bool m.t, .slice ql nl dl, .slice qn nn dn] 41))))
            exact (h2.keepP (hk89 _ (fun b hb e => hb.1 e.symm))).mono (fun b _ hp => ⟨hp.2.1, hp.2.2.1⟩)
      have hkb : k + 1 ≤ 2000 := by have h1 := HKS.out; omega
      clear ho9 hg9 hor9 hb9 f0 f1 f2 f3 f4 f5 f6 f7 f8 f9 f10 f11 f12 f13 f14
      go_wp2_with fail
      go_roundw
      case rel => exact ⟨k + 1, by omega, by go_num, HNX⟩
      case measure => simp [intOf]; omega
    · have hlI : ((sn - K : Nat) : Int) ≤ (k : Int) := by omega
      have hkk : k = sn - K := by omega
      have hfin : PkRow P wr (.slice pv k cv) (pkN me j q.2 K (q.1.drop K)) := by
        refine ⟨ys, ho.row, ho.at_P (fun b hb => HPP.out b (by have h1 := HW1.out; have h2 := C13.out.size; omega)), (fun y hy => (hin y hy).mono (fun b _ hp => hp.2)), ?_⟩
        rw [hpk, hkk, List.take_of_length_le (by rw [List.length_drop]; have := HXN.out; omega)]
      have HFIN := Lib.hid hfin
      have HBF := Lib.hid (HB3.out.trans (hbw.mono HB3.out.size))
      rw [hyl]
      clear ho hin hbw hpk hfin hyl HK hkk
      go_wp2_with fail
      go_ret
      exact ⟨_, rfl, HFIN.out, HBF.out⟩
end Go.Proofs.Ytpjekejkhncjpaa
