/- LinkOnce: the walk. -/
import Derived.Test.YtpjekejkhncjpaaSpeaks
import Derived.Test.YtpjekejkhncjpaaMsgSame
import Derived.Deep.CutRange
import Derived.Deep.CutBlock
import Derived.Deep.RegionHeld3
namespace Go.Proofs.Ytpjekejkhncjpaa
open Go.RowKit
set_option linter.unusedSimpArgs false
theorem KeepP.below {P : Nat → Prop} {w0 w w' : World} (h : KeepP P w0 w) (hb : Below w0.heap.size w w') : KeepP P w0 w' := ⟨Nat.le_trans h.1 hb.size, fun b hb' hp => (hb.block b hb').trans (h.2 b hb' hp)⟩
def pks (ms : List Msg) : List Pk := if ms.length = 0 then [⟨0, 1, 0, 0, msgZ⟩] else pkN 0 1 0 0 ms
theorem stop_op {P : Program} {ops : Array Oper} {rest : List Oper} {o : Oper} {a : Act} {w : World} {Q : Exit → Act → World → Prop} (q : Op) (_ : o.op = q) (h : Hid (wpList P ops Q (o :: rest) a w)) : wpList P ops Q (o :: rest) a w := h
theorem wpList_build {P : Program} {w w' : World} {ops : Array Oper} {rest : List Oper} {o : Oper} {a : Act} {Q : Exit → Act → World → Prop} (hgd : o.guard = none) (t : TypeId) (x : Operand) (ho : o.op = .buildSlice t 1 #[(0, x)]) (v0 v : Value) (hx : a.eval x = v0)
    (hrun : (Instr.buildSlice t 1 #[(0, v0)]).run P w = .ok v w') (h : wpList P ops Q rest (a.put o.dst v) w') : wpList P ops Q (o :: rest) a w := by
  refine wpList_plain hgd fun K hK => ?_
  unfold Oper.wp
  simp [execOp, ho, hx, hrun, Result.andThen]
  exact hK _ _ h
theorem bs_msg (k s n b c r y a : Int) (t : Bool) (pl pn : Option Addr) (nl cl nn cn : Nat) (w : World) : (Instr.buildSlice 22 1 #[(0, .agg #[.int .i64 k, .int .i64 s, .int .i64 n, .int .i64 b, .int .i64 c, .int .i64 r, .int .i64 y, .int .i64 a, .bool t, .slice pl nl cl, .slice pn nn cn])]).run Try.prog w = .ok (.slice (some ⟨w.heap.size, 0, none⟩) 1 1) (w.alloc (.cells #[.int .i64 k, .int .i64 s, .int .i64 n, .int .i64 b, .int .i64 c, .int .i64 r, .int .i64 y, .int .i64 a, .bool t, .slice pl nl cl, .slice pn nn cn] 36)) := by
  go_simp
/-- What is heard so far. -/
structure On2 (W W7 : World) (ga gb : Nat) (ms : List Msg) (k : Nat) (v : Value) (wr : World) : Prop where
  kp : KeepP (fun b => b ≠ gb) W7 wr
  got : ∃ ys : List MsgX, OwnT encM wr W7.heap.size 36 v ys ∧ ys.map MsgX.m = ms.take k ∧ ∀ y ∈ ys, y.InP (fun b => b ≠ ga ∧ b ≠ gb) W7
  b : ∃ p c, LV (fun b => (b ≠ ga ∧ b ≠ gb) ∧ v.ownBlock ≠ some b) wr gb 1 [([], (k : Int)), ([], 0)] p 2 c
  low : Below W.heap.size W wr
/-- What is said so far: the speaker's sessions, the hearer's. -/
structure On1 (W : World) (ga gb : Nat) (ms : List Msg) (pb : Option Addr) (cb : Nat) (i : Nat) (wr : World) : Prop where
  a : ∃ p c, LV (fun b => b ≠ ga ∧ b ≠ gb) wr ga 0 [([], 0), (ms.take i, 0)] p 2 c
  b : LV (fun b => b ≠ ga ∧ b ≠ gb) wr gb 1 (peers0 2) pb 2 cb
  low : Below W.heap.size W wr
set_option maxHeartbeats 16000000 in
set_option maxRecDepth 100000 in
theorem lonce_walk (va : Value) (xs : List MsgX) (vb : Value) (zs : List Int) (W : World) (hx : TRow encM W va xs) (hf : ∀ y ∈ xs, y.In W ∧ y.m.Sz) (hz : All64 zs) (hr : Row .i64 W vb zs) :
    Calls Try.prog 3 #[va, vb] W fun e w' => e = .returned (.bool true) ∧ Below W.heap.size W w' := by
  obtain ⟨pv, cv, rfl⟩ := hx.shape
  obtain ⟨po, co, rfl⟩ := hr.shape
  have HXS := Lib.hid hx
  have HF := Lib.hid hf
  have HZ := Lib.hid hz
  have HR := Lib.hid hr
  clear hx hf hz hr
  generalize hxl : xs.length = L at *
  have HXL := Lib.hid hxl
  generalize hol : zs.length = O at *
  have HOL := Lib.hid hol
  clear hxl hol
  by_cases h1 : 30 < L
  · have g1 : (30 : Int) < (L : Int) := by omega
    go_enter Try.func3, Try.ntmps3
    go_wp2_with fail
    refine (speaks_any _).mono ?_
    rintro y w1 ⟨rfl, hb1⟩
    have B1 := Lib.hid hb1
    clear hb1
    go_wp2_with fail
    go_ret
    exact ⟨rfl, B1.out⟩
  have g1 : ¬ (30 : Int) < (L : Int) := by omega
  by_cases h2 : 200 < O
  · have g2 : (200 : Int) < (O : Int) := by omega
    go_enter Try.func3, Try.ntmps3
    go_wp2_with fail
    refine (speaks_any _).mono ?_
    rintro y w1 ⟨rfl, hb1⟩
    have B1 := Lib.hid hb1
    clear hb1
    go_wp2_with fail
    go_ret
    exact ⟨rfl, B1.out⟩
  have g2 : ¬ (200 : Int) < (O : Int) := by omega
  obtain ⟨ms, hms⟩ : ∃ ms, ms = xs.map MsgX.m := ⟨_, rfl⟩
  have HMX := Lib.hid hms
  clear hms
  go_enter Try.func3, Try.ntmps3
  go_wp2_with fail
  refine (speaks_any _).mono ?_
  rintro y w1 ⟨rfl, hb1⟩
  have B1 := Lib.hid hb1
  clear hb1
  go_wp2_with fail
  clear g1 g2
  refine (new_ok (fun _ => True) 0 2 w1 ⟨by decide, by decide, by decide, by decide⟩ (fun _ _ => trivial)).mono ?_
  rintro y w2 ⟨_, rfl, ⟨p2, c2, rfl, hp2⟩, hb2⟩
  rw [show (peers0 2).length = 2 from rfl] at hp2 ⊢
  have HA2 := Lib.hid (Blk.new w2 #[.int .i64 0, .slice p2 2 c2] 27)
  have HP2 := Lib.hid (hp2.kept (oneB w2 (.cells #[.int .i64 0, .slice p2 2 c2] 27)))
  have HPB := Lib.hid (fun b (hb : b < w2.heap.size) => (Nat.ne_of_lt hb : b ≠ w2.heap.size))
  have HP2' := Lib.hid ((hp2.mono (Q := fun b => b < w2.heap.size) (fun b hb _ => hb)).kept (oneB w2 (.cells #[.int .i64 0, .slice p2 2 c2] 27)))
  have B2 := Lib.hid ((B1.out.trans (hb2.mono B1.out.size)).alloc (B1.out.trans (hb2.mono B1.out.size)).size (.cells #[.int .i64 0, .slice p2 2 c2] 27))
  have HGA : Hid (W.heap.size ≤ w2.heap.size) := (B1.out.trans (hb2.mono B1.out.size)).size
  have HSA : Hid ((w2.alloc (.cells #[.int .i64 0, .slice p2 2 c2] 27)).heap.size = w2.heap.size + 1) := by show _ = _; simp
  clear hp2 hb2 B1
  go_wp2_with fail
  generalize w2.alloc (.cells #[.int .i64 0, .slice p2 2 c2] 27) = W2 at *
  generalize w2.heap.size = ga at *
  refine (new_ok (fun b => W2.heap.size ≤ b) 1 2 W2 ⟨by decide, by decide, by decide, by decide⟩ (fun _ h => h)).mono ?_
  rintro y w3 ⟨_, rfl, ⟨p3, c3, rfl, hp3⟩, hb3⟩
  rw [show (peers0 2).length = 2 from rfl] at hp3 ⊢
  have HON : Hid (On1 W ga w3.heap.size ms p3 c3 0 (w3.alloc (.cells #[.int .i64 1, .slice p3 2 c3] 27))) := by
    have hs := HSA.out
    have hs3 := hb3.size
    have hB : Below W2.heap.size W2 (w3.alloc (.cells #[.int .i64 1, .slice p3 2 c3] 27)) := hb3.alloc hb3.size _
    refine ⟨⟨p2, c2, (HA2.out.below hB HA2.out.lt), (HP2'.out.mono (fun b _ h => ⟨HPB.out b h, by omega⟩)).kept hB, rfl, by simp⟩, ?_, B2.out.trans (hB.mono B2.out.size)⟩
    exact LV.fresh hp3 rfl (fun b hb h => ⟨by omega, by omega⟩) (by simp)
  have HAB : Hid (W.heap.size ≤ ga ∧ ga < w3.heap.size) := ⟨HGA.out, by have h1 := HSA.out; have h2 := hb3.size; omega⟩
  clear hp3 hb3 HA2 HP2 HP2' HPB B2
  go_wp2_with fail
  generalize w3.alloc (.cells #[.int .i64 1, .slice p3 2 c3] 27) = W3 at *
  generalize w3.heap.size = gb at *
  go_loopw [44] (fun i wr => ∃ k : Nat, k ≤ L ∧ i = .int .i64 k ∧ Hid (On1 W ga gb ms p3 c3 k wr)) (fun i _ => L - (intOf i).toNat)
  case atStart => exact ⟨0, by omega, rfl, HON⟩
  case round =>
    obtain ⟨k, hk, rfl, HKR⟩ := hrel
    clear HON
    obtain ⟨⟨pa, ca, hA⟩, hB, hlow⟩ := HKR.out
    have HLA := Lib.hid hA
    have HLB := Lib.hid hB
    have HLO := Lib.hid hlow
    clear hA hB hlow HKR
    by_cases hlt : k < L
    · have hltI : (k : Int) < (L : Int) := by omega
      as_aux_lemma =>
      have hkx : k < xs.length := by rw [HXL.out]; exact hlt
      obtain ⟨b, o, rfl, hbl, hcs⟩ := (HXS.out.kept HLO.out).at_ k hkx
      have HIN := Lib.hid ((HF.out xs[k] (List.getElem_mem hkx)).1.kept HLO.out)
      have HSZ := Lib.hid (HF.out xs[k] (List.getElem_mem hkx)).2
      have HMS : Hid (ms.take (k + 1) = ms.take k ++ [xs[k].m]) := by
        show _ = _
        rw [HMX.out, List.take_succ_eq_append_getElem (by rw [List.length_map]; exact hkx)]
        simp
      generalize xs[k] = X at *
      obtain ⟨m, pl, cl, pn, cn⟩ := X
      have c0 : wr.cell? ⟨b, o + k * 11, none⟩ = some (.int .i64 m.k) := hcs 0 (by decide)
      have c1 : wr.cell? ⟨b, o + k * 11 + 1, none⟩ = some (.int .i64 m.s) := hcs 1 (by decide)
      have c2 : wr.cell? ⟨b, o + k * 11 + 2, none⟩ = some (.int .i64 m.n) := hcs 2 (by decide)
      have c3 : wr.cell? ⟨b, o + k * 11 + 3, none⟩ = some (.int .i64 m.b) := hcs 3 (by decide)
      have c4 : wr.cell? ⟨b, o + k * 11 + 4, none⟩ = some (.int .i64 m.c) := hcs 4 (by decide)
      have c5 : wr.cell? ⟨b, o + k * 11 + 5, none⟩ = some (.int .i64 m.r) := hcs 5 (by decide)
      have c6 : wr.cell? ⟨b, o + k * 11 + 6, none⟩ = some (.int .i64 m.y) := hcs 6 (by decide)
      have c7 : wr.cell? ⟨b, o + k * 11 + 7, none⟩ = some (.int .i64 m.a) := hcs 7 (by decide)
      have c8 : wr.cell? ⟨b, o + k * 11 + 8, none⟩ = some (.bool m.t) := hcs 8 (by decide)
      have c9 : wr.cell? ⟨b, o + k * 11 + 9, none⟩ = some (.slice pl m.ls.length cl) := hcs 9 (by decide)
      have c10 : wr.cell? ⟨b, o + k * 11 + 10, none⟩ = some (.slice pn m.ns.length cn) := hcs 10 (by decide)
      have hl := HLA.out.blk.alloc (.cells #[.int .i64 m.k, .int .i64 m.s, .int .i64 m.n, .int .i64 m.b, .int .i64 m.c, .int .i64 m.r, .int .i64 m.y, .int .i64 m.a, .bool m.t, .slice pl m.ls.length cl, .slice pn m.ns.length cn] 36)
      have a0 : (wr.alloc (.cells #[.int .i64 m.k, .int .i64 m.s, .int .i64 m.n, .int .i64 m.b, .int .i64 m.c, .int .i64 m.r, .int .i64 m.y, .int .i64 m.a, .bool m.t, .slice pl m.ls.length cl, .slice pn m.ns.length cn] 36)).cell? ⟨ga, 0, none⟩ = some (.int .i64 0) := hl.cell 0
      have a1 : (wr.alloc (.cells #[.int .i64 m.k, .int .i64 m.s, .int .i64 m.n, .int .i64 m.b, .int .i64 m.c, .int .i64 m.r, .int .i64 m.y, .int .i64 m.a, .bool m.t, .slice pl m.ls.length cl, .slice pn m.ns.length cn] 36)).cell? ⟨ga, 1, none⟩ = some (.slice pa 2 ca) := hl.cell 1
      clear hcs hl hbl
      go_wp2_with fail
      clear a0 a1 c0 c1 c2 c3 c4 c5 c6 c7 c8 c9 c10
      have hal := HLA.out.kept (oneB wr (.cells #[.int .i64 m.k, .int .i64 m.s, .int .i64 m.n, .int .i64 m.b, .int .i64 m.c, .int .i64 m.r, .int .i64 m.y, .int .i64 m.a, .bool m.t, .slice pl m.ls.length cl, .slice pn m.ns.length cn] 36))
      have hbl := HLB.out.kept (oneB wr (.cells #[.int .i64 m.k, .int .i64 m.s, .int .i64 m.n, .int .i64 m.b, .int .i64 m.c, .int .i64 m.r, .int .i64 m.y, .int .i64 m.a, .bool m.t, .slice pl m.ls.length cl, .slice pn m.ns.length cn] 36))
      have hsay := say_ok (fun b => b ≠ ga ∧ b ≠ gb) 0 1 pa 2 ca [([], 0), (ms.take k, 0)] m (.slice pl m.ls.length cl) (.slice pn m.ns.length cn) (wr.alloc (.cells #[.int .i64 m.k, .int .i64 m.s, .int .i64 m.n, .int .i64 m.b, .int .i64 m.c, .int .i64 m.r, .int .i64 m.y, .int .i64 m.a, .bool m.t, .slice pl m.ls.length cl, .slice pn m.ns.length cn] 36)) rfl hal.row (HIN.out.ls.kept (oneB wr _)) (HIN.out.ns.kept (oneB wr _)) HSZ.out rfl (by show 1 < 2; decide) (by show 2 ≤ 1000; decide) (by show (ms.take k).length ≤ 1000; rw [List.length_take]; omega) (fun b hb => ⟨by have := hal.blk.lt; omega, by have := hbl.blk.lt; omega⟩)
      unfold Msg.v at hsay
      refine hsay.mono ?_
      rintro y w5 ⟨_, rfl, ⟨p5, c5, rfl, hp5⟩, hb5⟩
      have hqs : ([([], 0), (ms.take k, 0)] : List Pe).set 1 ((([([], 0), (ms.take k, 0)] : List Pe)[1]).1 ++ [m], (([([], 0), (ms.take k, 0)] : List Pe)[1]).2) = [([], 0), (ms.take (k + 1), 0)] := by rw [HMS.out]; rfl
      rw [hqs] at hp5 ⊢
      dsimp only [List.length_cons, List.length_nil, Nat.zero_add, Nat.reduceAdd] at hp5 ⊢
      have hD : Below wr.heap.size wr (w5.alloc (.cells #[.int .i64 0, .slice p5 2 c5] 27)) := ((oneB wr (.cells #[.int .i64 m.k, .int .i64 m.s, .int .i64 m.n, .int .i64 m.b, .int .i64 m.c, .int .i64 m.r, .int .i64 m.y, .int .i64 m.a, .bool m.t, .slice pl m.ls.length cl, .slice pn m.ns.length cn] 36)).trans (hb5.mono (by simp))).alloc ((oneB wr (.cells #[.int .i64 m.k, .int .i64 m.s, .int .i64 m.n, .int .i64 m.b, .int .i64 m.c, .int .i64 m.r, .int .i64 m.y, .int .i64 m.a, .bool m.t, .slice pl m.ls.length cl, .slice pn m.ns.length cn] 36)).trans (hb5.mono (by simp))).size _
      have hA6 := HLA.out.blk.below hD HLA.out.blk.lt
      have HNX : Hid (On1 W ga gb ms p3 c3 (k + 1) (put2 (w5.alloc (.cells #[.int .i64 0, .slice p5 2 c5] 27)) ga 0 p5 2 c5)) :=
        ⟨⟨p5, c5, LV.store hA6 (hp5.kept (oneB w5 _)) rfl (by simp)⟩, (HLB.out.kept hD).chg (chg_put2 _ _ _ _ _ _) (by simp) (by have := HAB.out.2; omega), (HLO.out.trans (hD.mono HLO.out.size)).trans ((chg_put2 _ _ _ _ _ _).below HAB.out.1 (HLO.out.trans (hD.mono HLO.out.size)).size)⟩
      unfold put2 at HNX
      have hl := hA6
      have a0 : (w5.alloc (.cells #[.int .i64 0, .slice p5 2 c5] 27)).cell? ⟨ga, 0, none⟩ = some (.int .i64 0) := hl.cell 0
      have a1 : (w5.alloc (.cells #[.int .i64 0, .slice p5 2 c5] 27)).cell? ⟨ga, 1, none⟩ = some (.slice pa 2 ca) := hl.cell 1
      have af0 := hl.free 0
      have af1 := hl.free 1
      clear hl hA6 hD hp5 hb5 hqs hsay hal hbl
      go_wp2_with fail
      go_roundw
      case rel => exact ⟨k + 1, by omega, by go_num, HNX⟩
      case measure => simp [intOf]; omega
    · have hltI : (L : Int) ≤ (k : Int) := by omega
      have hkL : k = L := by omega
      subst hkL
      as_aux_lemma =>
      have HTK : Hid (ms.take k = ms) := by show _ = _; rw [List.take_of_length_le (by have h := HXL.out; rw [HMX.out, List.length_map]; omega)]
      rw [HTK.out] at HLA
      have hl := HLA.out.blk
      have a0 : wr.cell? ⟨ga, 0, none⟩ = some (.int .i64 0) := hl.cell 0
      have a1 : wr.cell? ⟨ga, 1, none⟩ = some (.slice pa 2 ca) := hl.cell 1
      clear hl
      go_wp2_with fail
      clear a0 a1
      generalize wr = W6 at *
      have HPK : Hid (Calls Try.prog 8 #[.agg #[.int .i64 0, .slice pa 2 ca], .int .i64 1, .int .i64 0] W6 fun e w' => ∃ v, e = .returned v ∧ PkRow (fun b => b ≠ ga ∧ b ≠ gb) w' v (pks ms) ∧ Below W6.heap.size W6 w') := by
        have hP : ∀ b, W6.heap.size ≤ b → (b ≠ ga ∧ b ≠ gb) := fun b hb => ⟨by have := HLA.out.blk.lt; omega, by have := HLB.out.blk.lt; omega⟩
        by_cases h0 : ms.length = 0
        · have := packets_one (fun b => b ≠ ga ∧ b ≠ gb) 0 1 0 pa 2 ca [([], 0), (ms, 0)] W6 rfl HLA.out.row rfl (by show 1 < 2; decide) (by show ms.length ≤ 1000; omega) (.inr ⟨by decide, by show ms.length ≤ 0; omega⟩) hP
          unfold pks
          rw [if_pos h0]
          exact this
        · have := packets_many (fun b => b ≠ ga ∧ b ≠ gb) 0 1 0 pa 2 ca [([], 0), (ms, 0)] W6 rfl HLA.out.row rfl (by show 1 < 2; decide) (by show ms.length ≤ 1000; have h := HXL.out; rw [HMX.out, List.length_map]; omega) (by show 0 < ms.length; omega) hP
          unfold pks
          rw [if_neg h0]
          exact this
      refine HPK.out.mono ?_
      rintro y W7 ⟨v7, rfl, hk7, hb7⟩
      have HML : Hid (ms.length = k) := by show _ = _; rw [HMX.out, List.length_map]; exact HXL.out
      obtain ⟨p7, c7, rfl⟩ := hk7.shape
      have HK7 := Lib.hid hk7
      have HLA7 := Lib.hid (HLA.out.kept hb7)
      have HLB7 := Lib.hid (HLB.out.kept hb7)
      have HLO7 := Lib.hid (HLO.out.trans (hb7.mono HLO.out.size))
      clear HPK hk7 hb7 HLA HLB HLO
      generalize hpl : (pks ms).length = n7 at *
      have HPL := Lib.hid hpl
      clear hpl
      have HON2 : Hid (On2 W W7 ga gb ms 0 (.slice none 0 0) W7) := ⟨KeepP.refl _ _, ⟨[], OwnT.nil_ _ _ _ _, rfl, (fun _ h => by cases h)⟩, ⟨p3, c3, ⟨HLB7.out.blk, HLB7.out.row.mono (fun b _ h => ⟨h, by intro e; cases e⟩), rfl, by simp⟩⟩, HLO7.out⟩
      have hk30 : k ≤ 30 := by omega
      have HK30 := Lib.hid hk30
      have HO200 : Hid (O ≤ 200) := by show O ≤ 200; omega
      clear hk30 h1 h2 hltI hlt hk
      go_wp2_with fail
      go_loopw [14, 15, 62] (fun wn v i wr => ∃ t q : Nat, t ≤ O ∧ q ≤ k ∧ wn = .int .i64 q ∧ i = .int .i64 t ∧ Hid (On2 W W7 ga gb ms q v wr)) (fun _ _ i _ => O - (intOf i).toNat)
      case atStart => exact ⟨0, 0, by omega, by omega, rfl, rfl, HON2⟩
      case round =>
        obtain ⟨t, q, ht, hq, rfl, rfl, HKR⟩ := hrel
        clear HON2
        by_cases hlt : t < O
        · have hltI : (t : Int) < (O : Int) := by omega
          have htb : t + 1 ≤ 300 := by have := HO200.out; omega
          obtain ⟨bo, oo, rfl, hcz⟩ := rowi_at (HR.out.kept HKR.out.low) t (by rw [HOL.out]; exact hlt)
          have hzb := HZ.out.getD t
          generalize zs.getD t 0 = z at *
          by_cases hk0 : k = 0
          · have hk0' : (k : Int) = 0 := by omega
            have hk0b : ((k : Int) == 0) = true := by simpa using hk0'
            as_aux_lemma =>
            go_wp2_with fail
            go_roundw
            case rel => exact ⟨t + 1, q, by omega, hq, rfl, by go_num, HKR⟩
            case measure => simp [intOf]; omega
          · have hk0' : ¬ (k : Int) = 0 := by omega
            by_cases hz0 : z < 0
            · as_aux_lemma =>
              go_wp2_with fail
              go_roundw
              case rel => exact ⟨t + 1, q, by omega, hq, rfl, by go_num, HKR⟩
              case measure => simp [intOf]; omega
            · as_aux_lemma =>
              obtain ⟨Z, rfl⟩ : ∃ Z : Nat, z = Z := ⟨z.toNat, by omega⟩
              have hn7 : n7 = k := by rw [← HPL.out, ← HML.out]; unfold pks; rw [if_neg (by rw [HML.out]; exact hk0), pkN_length]
              subst hn7
              obtain ⟨r, hrm⟩ : ∃ r, r = Z % n7 := ⟨_, rfl⟩
              have hmod : (Z : Int) % (n7 : Int) = (r : Int) := by rw [hrm]; omega
              have hrl : r < n7 := by rw [hrm]; exact Nat.mod_lt _ (by omega)
              have hrI : (r : Int) < (n7 : Int) := by omega
              obtain ⟨ys, hy1, hy2, hy3, hy4⟩ := HK7.out
              have hyl : ys.length = n7 := by have h := congrArg List.length hy4; rw [List.length_map] at h; rw [h]; exact HPL.out
              have hry : r < ys.length := by omega
              have hrms : r < ms.length := by rw [HML.out]; exact hrl
              have hyr : ys[r].pk = ⟨0, 1, ((0 + r + 1 : Nat) : Int), 0, ms[r]⟩ := by
                have h := congrArg (fun l => l[r]?) hy4
                have h0 : pks ms = pkN 0 1 0 0 ms := by unfold pks; rw [if_neg (by rw [HML.out]; exact hk0)]
                rw [h0] at h
                simp only [List.getElem?_map, List.getElem?_eq_getElem hry, Option.map_some, pkN_get 0 1 0 ms 0 r hrms] at h
                exact Option.some.inj h
              obtain ⟨bp, op, rfl, _, hcp⟩ := (hy1.keepP (hy2.imp (fun b h => h.2)) HKR.out.kp).at_ r hry
              have HIP := Lib.hid (hy3 ys[r] (List.getElem_mem hry))
              have hyf : ys[r].f = 0 := congrArg Pk.f hyr
              have hyt : ys[r].t = 1 := congrArg Pk.t hyr
              have hyn : ys[r].n = (r : Int) + 1 := by have h := congrArg Pk.n hyr; rw [Nat.zero_add] at h; exact h
              have hyh : ys[r].h = 0 := congrArg Pk.h hyr
              have hym : ys[r].x.m = ms[r] := congrArg Pk.m hyr
              generalize ys[r] = Y at *
              obtain ⟨f, tt, nn, hh, ⟨m, pl, cl, pn, cn⟩⟩ := Y
              dsimp only at hyf hyt hyn hyh hym
              subst hyf hyt hyn hyh
              have HTK2 : Hid (ms.take (r + 1) = ms.take r ++ [m]) := by show _ = _; rw [List.take_succ_eq_append_getElem hrms, ← hym]
              clear hym hyr hy1 hy2 hy3 hy4 hyl hry
              have c0 : wr.cell? ⟨bp, op + r * 15, none⟩ = some (.int .i64 0) := hcp 0 (by decide)
              have c1 : wr.cell? ⟨bp, op + r * 15 + 1, none⟩ = some (.int .i64 1) := hcp 1 (by decide)
              have c2 : wr.cell? ⟨bp, op + r * 15 + 2, none⟩ = some (.int .i64 ((r : Int) + 1)) := hcp 2 (by decide)
              have c3 : wr.cell? ⟨bp, op + r * 15 + 3, none⟩ = some (.int .i64 0) := hcp 3 (by decide)
              have c4 : wr.cell? ⟨bp, op + r * 15 + 4, none⟩ = some (.int .i64 m.k) := hcp 4 (by decide)
              have c5 : wr.cell? ⟨bp, op + r * 15 + 5, none⟩ = some (.int .i64 m.s) := hcp 5 (by decide)
              have c6 : wr.cell? ⟨bp, op + r * 15 + 6, none⟩ = some (.int .i64 m.n) := hcp 6 (by decide)
              have c7 : wr.cell? ⟨bp, op + r * 15 + 7, none⟩ = some (.int .i64 m.b) := hcp 7 (by decide)
              have c8 : wr.cell? ⟨bp, op + r * 15 + 8, none⟩ = some (.int .i64 m.c) := hcp 8 (by decide)
              have c9 : wr.cell? ⟨bp, op + r * 15 + 9, none⟩ = some (.int .i64 m.r) := hcp 9 (by decide)
              have c10 : wr.cell? ⟨bp, op + r * 15 + 10, none⟩ = some (.int .i64 m.y) := hcp 10 (by decide)
              have c11 : wr.cell? ⟨bp, op + r * 15 + 11, none⟩ = some (.int .i64 m.a) := hcp 11 (by decide)
              have c12 : wr.cell? ⟨bp, op + r * 15 + 12, none⟩ = some (.bool m.t) := hcp 12 (by decide)
              have c13 : wr.cell? ⟨bp, op + r * 15 + 13, none⟩ = some (.slice pl m.ls.length cl) := hcp 13 (by decide)
              have c14 : wr.cell? ⟨bp, op + r * 15 + 14, none⟩ = some (.slice pn m.ns.length cn) := hcp 14 (by decide)
              clear hcp
              obtain ⟨pb, cb, hB⟩ := HKR.out.b
              have HLB := Lib.hid hB
              have HKP := Lib.hid HKR.out.kp
              have HGT := Lib.hid HKR.out.got
              have HLW := Lib.hid HKR.out.low
              clear hB HKR hrm hzb
              have HB8 := Lib.hid (HLB.out.kept (oneB wr (.cells #[.int .i64 0, .int .i64 1, .int .i64 ((r : Int) + 1), .int .i64 0, .int .i64 m.k, .int .i64 m.s, .int .i64 m.n, .int .i64 m.b, .int .i64 m.c, .int .i64 m.r, .int .i64 m.y, .int .i64 m.a, .bool m.t, .slice pl m.ls.length cl, .slice pn m.ns.length cn] 41)))
              have hl := HB8.out.blk
              have a0 : (wr.alloc (.cells #[.int .i64 0, .int .i64 1, .int .i64 ((r : Int) + 1), .int .i64 0, .int .i64 m.k, .int .i64 m.s, .int .i64 m.n, .int .i64 m.b, .int .i64 m.c, .int .i64 m.r, .int .i64 m.y, .int .i64 m.a, .bool m.t, .slice pl m.ls.length cl, .slice pn m.ns.length cn] 41)).cell? ⟨gb, 0, none⟩ = some (.int .i64 1) := hl.cell 0
              have a1 : (wr.alloc (.cells #[.int .i64 0, .int .i64 1, .int .i64 ((r : Int) + 1), .int .i64 0, .int .i64 m.k, .int .i64 m.s, .int .i64 m.n, .int .i64 m.b, .int .i64 m.c, .int .i64 m.r, .int .i64 m.y, .int .i64 m.a, .bool m.t, .slice pl m.ls.length cl, .slice pn m.ns.length cn] 41)).cell? ⟨gb, 1, none⟩ = some (.slice pb 2 cb) := hl.cell 1
              clear hl
              go_upto_region 23 with fail
              clear hmod hrI
              have hw2 : wrap64 (r : Int) = (r : Int) := by have := HK30.out; unfold wrap64; omega
              by_cases hrq : r = q
              · subst hrq
                as_aux_lemma =>
                have HG7 := Lib.hid HLB7.out.blk.lt
                go_wp2_with fail
                clear a0 a1
                have hnx : nextB (peAt 1 [([], (r : Int)), ([], 0)] 0) (okP 1 ([([], (r : Int)), ([], 0)] : List Pe).length 0) ((r : Int) + 1) = true := by
                  show nextB ([], (r : Int)) true ((r : Int) + 1) = true
                  unfold nextB
                  simp
                  omega
                refine (next_any _ 1 0 ((r : Int) + 1) pb 2 cb [([], (r : Int)), ([], 0)] _ rfl HB8.out.row (by have := HK30.out; omega)).mono ?_
                rw [hnx]
                generalize oldB (peAt 1 [([], (r : Int)), ([], 0)] 0) _ _ = od
                clear hnx
                rintro y w9 ⟨rfl, hb9⟩
                have C9 := Lib.hid ((oneB wr (.cells #[.int .i64 0, .int .i64 1, .int .i64 ((r : Int) + 1), .int .i64 0, .int .i64 m.k, .int .i64 m.s, .int .i64 m.n, .int .i64 m.b, .int .i64 m.c, .int .i64 m.r, .int .i64 m.y, .int .i64 m.a, .bool m.t, .slice pl m.ls.length cl, .slice pn m.ns.length cn] 41)).trans (hb9.mono (by simp)))
                have hx9 := (Blk.new wr #[.int .i64 0, .int .i64 1, .int .i64 ((r : Int) + 1), .int .i64 0, .int .i64 m.k, .int .i64 m.s, .int .i64 m.n, .int .i64 m.b, .int .i64 m.c, .int .i64 m.r, .int .i64 m.y, .int .i64 m.a, .bool m.t, .slice pl m.ls.length cl, .slice pn m.ns.length cn] 41).below hb9 (Blk.new wr #[.int .i64 0, .int .i64 1, .int .i64 ((r : Int) + 1), .int .i64 0, .int .i64 m.k, .int .i64 m.s, .int .i64 m.n, .int .i64 m.b, .int .i64 m.c, .int .i64 m.r, .int .i64 m.y, .int .i64 m.a, .bool m.t, .slice pl m.ls.length cl, .slice pn m.ns.length cn] 41).lt
                have HB9 := Lib.hid (HB8.out.kept hb9)
                have n0 : w9.cell? ⟨wr.heap.size, 4, none⟩ = some (.int .i64 m.k) := hx9.cell 4
                have n1 : w9.cell? ⟨wr.heap.size, 5, none⟩ = some (.int .i64 m.s) := hx9.cell 5
                have n2 : w9.cell? ⟨wr.heap.size, 6, none⟩ = some (.int .i64 m.n) := hx9.cell 6
                have n3 : w9.cell? ⟨wr.heap.size, 7, none⟩ = some (.int .i64 m.b) := hx9.cell 7
                have n4 : w9.cell? ⟨wr.heap.size, 8, none⟩ = some (.int .i64 m.c) := hx9.cell 8
                have n5 : w9.cell? ⟨wr.heap.size, 9, none⟩ = some (.int .i64 m.r) := hx9.cell 9
                have n6 : w9.cell? ⟨wr.heap.size, 10, none⟩ = some (.int .i64 m.y) := hx9.cell 10
                have n7 : w9.cell? ⟨wr.heap.size, 11, none⟩ = some (.int .i64 m.a) := hx9.cell 11
                have n8 : w9.cell? ⟨wr.heap.size, 12, none⟩ = some (.bool m.t) := hx9.cell 12
                have n9 : w9.cell? ⟨wr.heap.size, 13, none⟩ = some (.slice pl m.ls.length cl) := hx9.cell 13
                have n10 : w9.cell? ⟨wr.heap.size, 14, none⟩ = some (.slice pn m.ns.length cn) := hx9.cell 14
                clear hx9 hb9 HB8
                obtain ⟨ys, ho, hmp, hip⟩ := HGT.out
                have hyl : ys.length = r := by
                  have h := congrArg List.length hmp
                  rw [List.length_map, List.length_take, HML.out] at h
                  omega
                have HO9 := Lib.hid ((ho.later C9.out).later (oneB w9 (.cells #[.int .i64 m.k, .int .i64 m.s, .int .i64 m.n, .int .i64 m.b, .int .i64 m.c, .int .i64 m.r, .int .i64 m.y, .int .i64 m.a, .bool m.t, .slice pl m.ls.length cl, .slice pn m.ns.length cn] 36)))
                have HB9' := Lib.hid (HB9.out.kept (oneB w9 (.cells #[.int .i64 m.k, .int .i64 m.s, .int .i64 m.n, .int .i64 m.b, .int .i64 m.c, .int .i64 m.r, .int .i64 m.y, .int .i64 m.a, .bool m.t, .slice pl m.ls.length cl, .slice pn m.ns.length cn] 36)))
                have HONE := Lib.hid (TRow.one_ encM (MsgX.mk m pl cl pn cn) (Blk.new w9 #[.int .i64 m.k, .int .i64 m.s, .int .i64 m.n, .int .i64 m.b, .int .i64 m.c, .int .i64 m.r, .int .i64 m.y, .int .i64 m.a, .bool m.t, .slice pl m.ls.length cl, .slice pn m.ns.length cn] 36) rfl (Nat.le_refl 1))
                have HMP := Lib.hid hmp
                have HYL := Lib.hid hyl
                have HIPS := Lib.hid hip
                clear ho hmp hyl hip HGT
                have HRL := Lib.hid hrl
                clear hrms hrl hw2 c0 c1 c2 c3 c4 c5 c6 c7 c8 c9 c10 c11 c12 c13 c14
                have hr60 : (r : Int) ≤ 60 := by have := HK30.out; omega
                go_upto_region 27 with fail
                go_wp2_with (with_reducible refine stop_op (.buildSlice 22 1 #[(0, .tmp 97)]) rfl ?_)
                refine wpList_build rfl 22 (.tmp 97) rfl _ _ rfl (bs_msg m.k m.s m.n m.b m.c m.r m.y m.a m.t pl pn m.ls.length cl m.ns.length cn w9) ?_
                refine wpList_append_tg rfl (.tmp 95) (.tmp 98) 22 rfl 36 zeroVM 120 W7.heap.size eltM rfl u15 (.slice (some ⟨w9.heap.size, 0, none⟩) 1 1) ys [MsgX.mk m pl cl pn cn] rfl rfl HO9.out HONE.out (by have h1 := HYL.out; have h2 := HK30.out; simp; omega) (by have h1 := HYL.out; have h2 := HK30.out; simp; omega) (by have h1 := HKP.out.1; have h2 := C9.out.size; simp; omega) (ys ++ [MsgX.mk m pl cl pn cn]) (r + 1) rfl (by rw [List.length_append, HYL.out]; rfl) ?_
                intro p10 c10 w10 ho10 hg10 hor10 hb10
                have hsz10 : w9.heap.size + 1 ≤ w10.heap.size := by have := hg10.size; simpa using this
                have HP' : Hid (PeRow (fun b => (b ≠ ga ∧ b ≠ gb) ∧ (Value.slice p10 (r + 1) c10).ownBlock ≠ some b) w10 (.slice pb 2 cb) [([], (r : Int)), ([], 0)]) := by
                  have h1 := HB9'.out.row.mono (Q := fun b => ((b ≠ ga ∧ b ≠ gb) ∧ (Value.slice p10 (r + 1) c10).ownBlock ≠ some b) ∧ u15.ownBlock ≠ some b) (fun b hb hp => ⟨⟨hp.1, by
                    intro h2
                    rcases hor10 with h3 | h3
                    · exact hp.2 (h3 ▸ h2)
                    · rw [h3] at h2
                      simp at h2 hb
                      omega⟩, hp.2⟩)
                  exact (h1.keepP (KeepP.of_grown hg10 (by simpa using hsz10) (fun b hb e => hb.2 e.symm))).mono (fun b _ h => h.1)
                have HBLK := Lib.hid (HB9'.out.blk.below hb10 HG7.out)
                have HO10 := Lib.hid ho10
                have C10 : Hid (Below W7.heap.size wr w10) := ((C9.out.mono HKP.out.1).trans ((oneB w9 _).mono (by have h1 := HKP.out.1; have h2 := C9.out.size; omega))).trans hb10
                have hl := HBLK.out
                have a0 : w10.cell? ⟨gb, 0, none⟩ = some (.int .i64 1) := hl.cell 0
                have a1 : w10.cell? ⟨gb, 1, none⟩ = some (.slice pb 2 cb) := hl.cell 1
                clear hl ho10 hg10 hor10 hb10 hsz10 HB9 HB9' HO9 HONE n0 n1 n2 n3 n4 n5 n6 n7 n8 n9 n10
                go_wp2_with fail
                clear a0 a1
                refine (hear_ok (fun b => (b ≠ ga ∧ b ≠ gb) ∧ (Value.slice p10 (r + 1) c10).ownBlock ≠ some b) 1 0 pb 2 cb [([], (r : Int)), ([], 0)] w10 rfl HP'.out rfl (by show 0 < 2; decide) (by show 2 ≤ 1000; decide) (by show -1000000000000 ≤ (r : Int) ∧ (r : Int) ≤ 1000000000000; have := HK30.out; omega) (fun b hb => ⟨⟨by have h1 := HBLK.out.lt; have h2 := HAB.out.2; omega, by have h1 := HBLK.out.lt; omega⟩, fun e => by have := HO10.out.lt b e; omega⟩)).mono ?_
                rintro y w11 ⟨_, rfl, ⟨p12, c12, rfl, hp12⟩, hb11⟩
                have hqs : ([([], (r : Int)), ([], 0)] : List Pe).set 0 ((([([], (r : Int)), ([], 0)] : List Pe)[0]).1, (([([], (r : Int)), ([], 0)] : List Pe)[0]).2 + 1) = [([], ((r + 1 : Nat) : Int)), ([], 0)] := rfl
                rw [hqs] at hp12 ⊢
                dsimp only [List.length_cons, List.length_nil, Nat.zero_add, Nat.reduceAdd] at hp12 ⊢
                have hD : Below w10.heap.size w10 (w11.alloc (.cells #[.int .i64 1, .slice p12 2 c12] 27)) := hb11.alloc hb11.size _
                have hA6 := HBLK.out.below hD HBLK.out.lt
                have hC12 : Below W7.heap.size wr (w11.alloc (.cells #[.int .i64 1, .slice p12 2 c12] 27)) := C10.out.trans (hD.mono (by have h1 := HKP.out.1; have h2 := C10.out.size; omega))
                have HNX : Hid (On2 W W7 ga gb ms (r + 1) (.slice p10 (r + 1) c10) (put2 (w11.alloc (.cells #[.int .i64 1, .slice p12 2 c12] 27)) gb 1 p12 2 c12)) := by
                  refine ⟨(HKP.out.below hC12).trans (KeepP.of_chg (chg_put2 _ _ _ _ _ _) (by simp)), ⟨ys ++ [MsgX.mk m pl cl pn cn], ?_, ?_, ?_⟩, ⟨p12, c12, LV.store hA6 (hp12.kept (oneB w11 _)) rfl (by simp)⟩, ?_⟩
                  · have h1 := HO10.out.later hD
                    exact h1.stay (fun b hb => (chg_put2 _ _ _ _ _ _).2 b (h1.lt b hb) (by have h2 := h1.block_ge b hb; have h3 := HG7.out; omega))
                  · rw [List.map_append, HMP.out, HTK2.out]
                    rfl
                  · intro y hy
                    rcases List.mem_append.1 hy with hy | hy
                    · exact HIPS.out y hy
                    · simp at hy
                      subst hy
                      exact HIP.out
                  · have h1 : Below W.heap.size wr (w11.alloc (.cells #[.int .i64 1, .slice p12 2 c12] 27)) := hC12.mono (by have h2 := HLO7.out.size; omega)
                    exact (HLW.out.trans h1).trans ((chg_put2 _ _ _ _ _ _).below (by have := HAB.out; omega) (HLW.out.trans h1).size)
                unfold put2 at HNX
                have hl := hA6
                have a0 : (w11.alloc (.cells #[.int .i64 1, .slice p12 2 c12] 27)).cell? ⟨gb, 0, none⟩ = some (.int .i64 1) := hl.cell 0
                have a1 : (w11.alloc (.cells #[.int .i64 1, .slice p12 2 c12] 27)).cell? ⟨gb, 1, none⟩ = some (.slice pb 2 cb) := hl.cell 1
                have af0 := hl.free 0
                have af1 := hl.free 1
                clear hl hA6 hD hC12 hp12 hb11 hqs
                go_wp2_with fail
                have hr30 : r + 1 ≤ 60 := by have := HK30.out; omega
                go_roundw
                case rel => exact ⟨t + 1, r + 1, by omega, by have := HRL.out; omega, by go_num, by go_num, HNX⟩
                case measure => simp [intOf]; omega
              · have hrq' : ¬ (r : Int) = (q : Int) := by omega
                have hrqb : ((r : Int) == (q : Int)) = false := by simpa using hrq'
                as_aux_lemma =>
                go_wp2_with fail
                clear a0 a1
                have hnx : nextB (peAt 1 [([], (q : Int)), ([], 0)] 0) (okP 1 ([([], (q : Int)), ([], 0)] : List Pe).length 0) ((r : Int) + 1) = false := by
                  show nextB ([], (q : Int)) true ((r : Int) + 1) = false
                  unfold nextB
                  simp
                  intro _
                  omega
                refine (next_any _ 1 0 ((r : Int) + 1) pb 2 cb [([], (q : Int)), ([], 0)] _ rfl HB8.out.row (by have := HK30.out; omega)).mono ?_
                rw [hnx]
                generalize oldB (peAt 1 [([], (q : Int)), ([], 0)] 0) _ _ = od
                rintro y w9 ⟨rfl, hb9⟩
                have C9 := Lib.hid ((oneB wr (.cells #[.int .i64 0, .int .i64 1, .int .i64 ((r : Int) + 1), .int .i64 0, .int .i64 m.k, .int .i64 m.s, .int .i64 m.n, .int .i64 m.b, .int .i64 m.c, .int .i64 m.r, .int .i64 m.y, .int .i64 m.a, .bool m.t, .slice pl m.ls.length cl, .slice pn m.ns.length cn] 41)).trans (hb9.mono (by simp)))
                have HNX : Hid (On2 W W7 ga gb ms q u15 w9) := by
                  obtain ⟨ys, ho, hmp, hip⟩ := HGT.out
                  exact ⟨HKP.out.below (C9.out.mono HKP.out.1), ⟨ys, ho.later C9.out, hmp, hip⟩, ⟨pb, cb, HB8.out.kept hb9⟩, HLW.out.trans (C9.out.mono HLW.out.size)⟩
                clear hb9 hnx
                go_wp2_with fail
                go_roundw
                case rel => exact ⟨t + 1, q, by omega, hq, rfl, by go_num, HNX⟩
                case measure => simp [intOf]; omega
        · have hltI : (O : Int) ≤ (t : Int) := by omega
          as_aux_lemma =>
          have htO : t = O := by omega
          obtain ⟨ys, ho, hmp, hip⟩ := HKR.out.got
          have hyl : ys.length = q := by
            have h := congrArg List.length hmp
            rw [List.length_map, List.length_take, HML.out] at h
            omega
          have hv := ho.form
          rw [hyl] at hv
          obtain ⟨p15, c15, rfl⟩ := hv
          obtain ⟨pb, cb, hB⟩ := HKR.out.b
          obtain ⟨xb, hb1, _, hb3, hb4⟩ := hB.row
          have hl0 : 0 < xb.length := by rw [hb3]; show 0 < 2; decide
          obtain ⟨bq, oq, rfl, _, hcb⟩ := hb1.at_ 0 hl0
          have hh : xb[0].h = (q : Int) := (hb4 0 hl0 (by show 0 < 2; decide)).1
          have d1 : wr.cell? ⟨bq, oq + 1, none⟩ = some (.int .i64 q) := by
            have := hcb 1 (by decide)
            rw [show oq + 0 * encP.k + 1 = oq + 1 by omega] at this
            rw [← hh]
            exact this
          have b1 : wr.cell? ⟨gb, 1, none⟩ = some (.slice (some ⟨bq, oq, none⟩) 2 cb) := hB.blk.cell 1
          have HO := Lib.hid ho
          have HMP := Lib.hid hmp
          have HIPS := Lib.hid hip
          have HYL := Lib.hid hyl
          have HKP := Lib.hid HKR.out.kp
          have HLW := Lib.hid HKR.out.low
          have HQK := Lib.hid hq
          clear ho hmp hip hyl hB hb1 hb3 hb4 hl0 hcb hh HKR hq htO ht
          go_wp2_with fail
          clear d1 b1
          generalize wr = w8 at *
          have HB0 := Lib.hid (Below.refl w8.heap.size w8)
          go_loopw [124] (fun i wr => ∃ u : Nat, u ≤ q ∧ i = .int .i64 u ∧ Hid (Below w8.heap.size w8 wr)) (fun i _ => q - (intOf i).toNat)
          case atStart => exact ⟨0, by omega, rfl, HB0⟩
          case round =>
            obtain ⟨u, hu, rfl, HBW⟩ := hrel
            clear HB0
            by_cases hlt2 : u < q
            · have hltI2 : (u : Int) < (q : Int) := by omega
              as_aux_lemma =>
              have huy : u < ys.length := by rw [HYL.out]; exact hlt2
              have hux : u < xs.length := by rw [HXL.out]; have := HQK.out; omega
              have huxI : (u : Int) < (k : Int) := by have := HQK.out; omega
              have hXY : ys[u].m = xs[u].m := by
                have h := congrArg (fun l => l[u]?) HMP.out
                rw [HMX.out] at h
                simp only [List.getElem?_map, List.getElem?_take, if_pos hlt2, List.getElem?_eq_getElem huy, List.getElem?_eq_getElem hux, Option.map_some] at h
                exact Option.some.inj h
              obtain ⟨b2, o2, rfl, hbl2, hc2⟩ := HO.out.row.at_ u huy
              obtain ⟨b1, o1, rfl, hbl1, hc1⟩ := HXS.out.at_ u hux
              have HX2 := Lib.hid (HIPS.out _ (List.getElem_mem huy))
              have HX1 := Lib.hid (HF.out _ (List.getElem_mem hux))
              have HC2 : Hid (∀ t, t < 11 → w8.cell? ⟨b2, o2 + u * 11 + t, none⟩ = (MsgX.cells ys[u])[t]?) := fun t ht => hc2 t ht
              have HC1 : Hid (∀ t, t < 11 → W.cell? ⟨b1, o1 + u * 11 + t, none⟩ = (MsgX.cells xs[u])[t]?) := fun t ht => hc1 t ht
              have HL2 : Hid (b2 < w8.heap.size) := hbl2
              have HL1 : Hid (b1 < W.heap.size) := hbl1
              have hu31 : u + 1 ≤ 60 := by have h1 := HQK.out; have h2 := HK30.out; omega
              clear hc1 hc2 hbl1 hbl2
              generalize ys[u] = X at *
              generalize xs[u] = Y at *
              obtain ⟨m, pl, cl, pn, cn⟩ := X
              obtain ⟨m', ql, dl, qn, dn⟩ := Y
              dsimp only at hXY
              subst hXY
              have HSM := Lib.hid (msame_any m (.slice pl m.ls.length cl) (.slice pn m.ns.length cn) (.slice ql m.ls.length dl) (.slice qn m.ns.length dn) wr.drew (((HX2.out.ls.keepP HX2.out.al (HKP.out.weak (fun b h => h.2))).kept HBW.out).kept (Below.refl _ _).drew) (((HX2.out.ns.keepP HX2.out.an (HKP.out.weak (fun b h => h.2))).kept HBW.out).kept (Below.refl _ _).drew) ((HX1.out.1.ls.kept (HLW.out.trans (HBW.out.mono HLW.out.size))).kept (Below.refl _ _).drew) ((HX1.out.1.ns.kept (HLW.out.trans (HBW.out.mono HLW.out.size))).kept (Below.refl _ _).drew) (by have := HX2.out.sz.1; dsimp only at this; omega) (by have := HX2.out.sz.2; dsimp only at this; omega))
              unfold Msg.v at HSM
              go_upto_region 38 with fail
              refine wp_region_held_drew (S := fun w' => (∀ q9, q9 < 11 → w'.cell? ⟨b2, o2 + u * 11 + q9, none⟩ = (MsgX.cells ⟨m, pl, cl, pn, cn⟩)[q9]?) ∧ (∀ q9, q9 < 11 → w'.cell? ⟨b1, o1 + u * 11 + q9, none⟩ = (MsgX.cells ⟨m, ql, dl, qn, dn⟩)[q9]?)) (by kernel_rfl) ⟨fun t ht => (HBW.out.drew.cell (p := ⟨b2, _, none⟩) HL2.out).trans (HC2.out t ht), fun t ht => ((HLW.out.trans (HBW.out.mono HLW.out.size)).drew.cell (p := ⟨b1, _, none⟩) HL1.out).trans (HC1.out t ht)⟩ (fun hS0 => ?_)
              refine wpAnyH_take (i := 0) (v := ?_) rfl (by kernel_rfl) (by kernel_rfl) (by kernel_rfl) (fun _ _ _ h => h) (Or.inl ⟨by kernel_rfl, ?_⟩) (by first | assumption | trivial) ?_
              rotate_left
              · intro w hSw
                try dsimp only at hSw
                first | (go_simp; done) | (go_simp; with_reducible rfl)
              try simp only [Act.put, List.getElem_toArray, List.getElem_cons_succ, List.getElem_cons_zero, List.setIfInBounds_toArray, List.set_cons_zero, List.set_cons_succ]
              refine wpAnyH_take (i := 1) (v := ?_) rfl (by kernel_rfl) (by kernel_rfl) (by kernel_rfl) (fun _ _ _ h => h) (Or.inl ⟨by kernel_rfl, ?_⟩) (by first | assumption | trivial) ?_
              rotate_left
              · intro w hSw
                try dsimp only at hSw
                first | (go_simp; done) | (go_simp; with_reducible rfl)
              try simp only [Act.put, List.getElem_toArray, List.getElem_cons_succ, List.getElem_cons_zero, List.setIfInBounds_toArray, List.set_cons_zero, List.set_cons_succ]
              refine wpAnyH_take (i := 2) (v := ?_) rfl (by kernel_rfl) (by kernel_rfl) (by kernel_rfl) (fun _ _ _ h => h) (Or.inl ⟨by kernel_rfl, ?_⟩) (by first | assumption | trivial) ?_
              rotate_left
              · intro w hSw
                try dsimp only at hSw
                first | (go_simp; done) | (go_simp; with_reducible rfl)
              try simp only [Act.put, List.getElem_toArray, List.getElem_cons_succ, List.getElem_cons_zero, List.setIfInBounds_toArray, List.set_cons_zero, List.set_cons_succ]
              refine wpAnyH_take (i := 3) (v := ?_) rfl (by kernel_rfl) (by kernel_rfl) (by kernel_rfl) (fun _ _ _ h => h) (Or.inl ⟨by kernel_rfl, ?_⟩) (by first | assumption | trivial) ?_
              rotate_left
              · intro w hSw
                try dsimp only at hSw
                have a0 : w.cell? ⟨b2, o2 + u * 11, none⟩ = some (.int .i64 m.k) := hSw.1 0 (by decide)
                have a1 : w.cell? ⟨b2, o2 + u * 11 + 1, none⟩ = some (.int .i64 m.s) := hSw.1 1 (by decide)
                have a2 : w.cell? ⟨b2, o2 + u * 11 + 2, none⟩ = some (.int .i64 m.n) := hSw.1 2 (by decide)
                have a3 : w.cell? ⟨b2, o2 + u * 11 + 3, none⟩ = some (.int .i64 m.b) := hSw.1 3 (by decide)
                have a4 : w.cell? ⟨b2, o2 + u * 11 + 4, none⟩ = some (.int .i64 m.c) := hSw.1 4 (by decide)
                have a5 : w.cell? ⟨b2, o2 + u * 11 + 5, none⟩ = some (.int .i64 m.r) := hSw.1 5 (by decide)
                have a6 : w.cell? ⟨b2, o2 + u * 11 + 6, none⟩ = some (.int .i64 m.y) := hSw.1 6 (by decide)
                have a7 : w.cell? ⟨b2, o2 + u * 11 + 7, none⟩ = some (.int .i64 m.a) := hSw.1 7 (by decide)
                have a8 : w.cell? ⟨b2, o2 + u * 11 + 8, none⟩ = some (.bool m.t) := hSw.1 8 (by decide)
                have a9 : w.cell? ⟨b2, o2 + u * 11 + 9, none⟩ = some (.slice pl m.ls.length cl) := hSw.1 9 (by decide)
                have a10 : w.cell? ⟨b2, o2 + u * 11 + 10, none⟩ = some (.slice pn m.ns.length cn) := hSw.1 10 (by decide)
                clear hSw
                first | (go_simp; done) | (go_simp; with_reducible rfl)
              try simp only [Act.put, List.getElem_toArray, List.getElem_cons_succ, List.getElem_cons_zero, List.setIfInBounds_toArray, List.set_cons_zero, List.set_cons_succ]
              refine wpAnyH_take (i := 4) (v := ?_) rfl (by kernel_rfl) (by kernel_rfl) (by kernel_rfl) (fun _ _ _ h => h) (Or.inl ⟨by kernel_rfl, ?_⟩) (by first | assumption | trivial) ?_
              rotate_left
              · intro w hSw
                try dsimp only at hSw
                first | (go_simp; done) | (go_simp; with_reducible rfl)
              try simp only [Act.put, List.getElem_toArray, List.getElem_cons_succ, List.getElem_cons_zero, List.setIfInBounds_toArray, List.set_cons_zero, List.set_cons_succ]
              refine wpAnyH_take (i := 5) (v := ?_) rfl (by kernel_rfl) (by kernel_rfl) (by kernel_rfl) (fun _ _ _ h => h) (Or.inl ⟨by kernel_rfl, ?_⟩) (by first | assumption | trivial) ?_
              rotate_left
              · intro w hSw
                try dsimp only at hSw
                first | (go_simp; done) | (go_simp; with_reducible rfl)
              try simp only [Act.put, List.getElem_toArray, List.getElem_cons_succ, List.getElem_cons_zero, List.setIfInBounds_toArray, List.set_cons_zero, List.set_cons_succ]
              refine wpAnyH_take (i := 6) (v := ?_) rfl (by kernel_rfl) (by kernel_rfl) (by kernel_rfl) (fun _ _ _ h => h) (Or.inl ⟨by kernel_rfl, ?_⟩) (by first | assumption | trivial) ?_
              rotate_left
              · intro w hSw
                try dsimp only at hSw
                first | (go_simp; done) | (go_simp; with_reducible rfl)
              try simp only [Act.put, List.getElem_toArray, List.getElem_cons_succ, List.getElem_cons_zero, List.setIfInBounds_toArray, List.set_cons_zero, List.set_cons_succ]
              refine wpAnyH_take (i := 7) (v := ?_) rfl (by kernel_rfl) (by kernel_rfl) (by kernel_rfl) (fun _ _ _ h => h) (Or.inl ⟨by kernel_rfl, ?_⟩) (by first | assumption | trivial) ?_
              rotate_left
              · intro w hSw
                try dsimp only at hSw
                have a0 : w.cell? ⟨b1, o1 + u * 11, none⟩ = some (.int .i64 m.k) := hSw.2 0 (by decide)
                have a1 : w.cell? ⟨b1, o1 + u * 11 + 1, none⟩ = some (.int .i64 m.s) := hSw.2 1 (by decide)
                have a2 : w.cell? ⟨b1, o1 + u * 11 + 2, none⟩ = some (.int .i64 m.n) := hSw.2 2 (by decide)
                have a3 : w.cell? ⟨b1, o1 + u * 11 + 3, none⟩ = some (.int .i64 m.b) := hSw.2 3 (by decide)
                have a4 : w.cell? ⟨b1, o1 + u * 11 + 4, none⟩ = some (.int .i64 m.c) := hSw.2 4 (by decide)
                have a5 : w.cell? ⟨b1, o1 + u * 11 + 5, none⟩ = some (.int .i64 m.r) := hSw.2 5 (by decide)
                have a6 : w.cell? ⟨b1, o1 + u * 11 + 6, none⟩ = some (.int .i64 m.y) := hSw.2 6 (by decide)
                have a7 : w.cell? ⟨b1, o1 + u * 11 + 7, none⟩ = some (.int .i64 m.a) := hSw.2 7 (by decide)
                have a8 : w.cell? ⟨b1, o1 + u * 11 + 8, none⟩ = some (.bool m.t) := hSw.2 8 (by decide)
                have a9 : w.cell? ⟨b1, o1 + u * 11 + 9, none⟩ = some (.slice ql m.ls.length dl) := hSw.2 9 (by decide)
                have a10 : w.cell? ⟨b1, o1 + u * 11 + 10, none⟩ = some (.slice qn m.ns.length dn) := hSw.2 10 (by decide)
                clear hSw
                first | (go_simp; done) | (go_simp; with_reducible rfl)
              try simp only [Act.put, List.getElem_toArray, List.getElem_cons_succ, List.getElem_cons_zero, List.setIfInBounds_toArray, List.set_cons_zero, List.set_cons_succ]
              refine wpAnyH_ready (rs := [8]) (by kernel_rfl) (by simp) ?_
              refine AllReadyH.cons rfl (fun K hK => ?_) AllReadyH.nil
              go_simp
              go_at_call 11
              refine HSM.out.mono ?_
              rintro y w9 ⟨rfl, hbs⟩
              have HB9 := Lib.hid (HBW.out.trans ((Below.refl wr.heap.size wr).drew.trans hbs |>.mono HBW.out.size))
              have hS2 : (∀ q9, q9 < 11 → w9.cell? ⟨b2, o2 + u * 11 + q9, none⟩ = (MsgX.cells ⟨m, pl, cl, pn, cn⟩)[q9]?) ∧ (∀ q9, q9 < 11 → w9.cell? ⟨b1, o1 + u * 11 + q9, none⟩ = (MsgX.cells ⟨m, ql, dl, qn, dn⟩)[q9]?) := ⟨fun t ht => (HB9.out.cell (p := ⟨b2, _, none⟩) HL2.out).trans (HC2.out t ht), fun t ht => ((HLW.out.trans (HB9.out.mono HLW.out.size)).cell (p := ⟨b1, _, none⟩) HL1.out).trans (HC1.out t ht)⟩
              clear hbs HSM
              try go_wp2_with fail
              refine hK.out _ _ hS2 (fun hS => ?_)
              clear hK K
              try simp only [Act.put, List.getElem_toArray, List.getElem_cons_succ, List.getElem_cons_zero, List.setIfInBounds_toArray, List.set_cons_zero, List.set_cons_succ]
              refine wpAnyH_take (i := 9) (v := ?_) rfl (by kernel_rfl) (by kernel_rfl) (by kernel_rfl) (fun _ _ _ h => h) (Or.inl ⟨by kernel_rfl, ?_⟩) (by first | assumption | trivial) ?_
              rotate_left
              · intro w hSw
                try dsimp only at hSw
                first | (go_simp; done) | (go_simp; with_reducible rfl)
              try simp only [Act.put, List.getElem_toArray, List.getElem_cons_succ, List.getElem_cons_zero, List.setIfInBounds_toArray, List.set_cons_zero, List.set_cons_succ]
              refine wpAnyH_done (by kernel_rfl) ?_ _
              clear hS hS0
              go_wp2_with fail
              go_roundw
              case rel => exact ⟨u + 1, by omega, by go_num, HB9⟩
              case measure => simp [intOf]; omega
            · have hltI2 : (q : Int) ≤ (u : Int) := by omega
              as_aux_lemma =>
              have HLW9 := Lib.hid (HLW.out.trans (HBW.out.mono HLW.out.size))
              have HA9 : Hid (Blk wr ga #[.int .i64 0, .slice pa 2 ca] 27) := Blk.below (B := w8.heap.size) (show Blk w8 ga _ _ from (HKP.out.2 ga HLA7.out.blk.lt (by have := HAB.out; omega)).trans HLA7.out.blk) HBW.out (by have h1 := HLA7.out.blk.lt; have h2 := HKP.out.1; omega)
              have HR9 : Hid (PeRow (fun b => b ≠ ga ∧ b ≠ gb) wr (.slice pa 2 ca) [([], 0), (ms, 0)]) := (HLA7.out.row.keepP (HKP.out.weak (fun b h => h.2))).kept HBW.out
              obtain ⟨NP, hNP⟩ : ∃ NP : Nat, NP = if ms.length ≤ q then 1 else ms.length - q := ⟨_, rfl⟩
              have hmx : (if (1 : Int) < (k : Int) - (q : Int) then (k : Int) - (q : Int) else 1) = (NP : Int) := by
                rw [hNP, HML.out]
                split <;> split <;> omega
              have HPK : Hid (Calls Try.prog 8 #[.agg #[.int .i64 0, .slice pa 2 ca], .int .i64 1, .int .i64 (q : Nat)] wr fun e w' => ∃ p c, e = .returned (.slice p NP c) ∧ Below wr.heap.size wr w') := by
                have hP : ∀ b, wr.heap.size ≤ b → (b ≠ ga ∧ b ≠ gb) := fun b hb => ⟨by have := HA9.out.lt; omega, by have h1 := HLB7.out.blk.lt; have h2 := HKP.out.1; have h3 := HBW.out.size; omega⟩
                by_cases h0 : ms.length ≤ q
                · have h1 := packets_one (fun b => b ≠ ga ∧ b ≠ gb) 0 1 (q : Nat) pa 2 ca [([], 0), (ms, 0)] wr rfl HR9.out rfl (by show 1 < 2; decide) (by show ms.length ≤ 1000; have h1 := HML.out; have h2 := HK30.out; omega) (.inr ⟨by omega, by show ms.length ≤ (q : Int).toNat; omega⟩) hP
                  refine h1.mono ?_
                  rintro e w' ⟨v, rfl, hk, hb⟩
                  obtain ⟨p, c, rfl⟩ := hk.shape
                  exact ⟨p, c, by rw [hNP, if_pos h0]; rfl, hb⟩
                · have h1 := packets_many (fun b => b ≠ ga ∧ b ≠ gb) 0 1 q pa 2 ca [([], 0), (ms, 0)] wr rfl HR9.out rfl (by show 1 < 2; decide) (by show ms.length ≤ 1000; have h1 := HML.out; have h2 := HK30.out; omega) (by show q < ms.length; omega) hP
                  refine h1.mono ?_
                  rintro e w' ⟨v, rfl, hk, hb⟩
                  obtain ⟨p, c, rfl⟩ := hk.shape
                  refine ⟨p, c, ?_, hb⟩
                  rw [pkN_length, List.length_drop, hNP, if_neg h0]
                  rfl
              have c0 : wr.cell? ⟨ga, 0, none⟩ = some (.int .i64 0) := HA9.out.cell 0
              have c1 : wr.cell? ⟨ga, 1, none⟩ = some (.slice pa 2 ca) := HA9.out.cell 1
              have hq60 : (q : Int) ≤ 60 := by have h1 := HQK.out; have h2 := HK30.out; omega
              have hk60 : (k : Int) ≤ 60 := by have h2 := HK30.out; omega
              clear hNP
              go_wp2_with fail
              refine HPK.out.mono ?_
              rintro y w9 ⟨p9, c9, rfl, hb9⟩
              have B9 := Lib.hid (HLW9.out.trans (hb9.mono HLW9.out.size))
              clear hb9 HPK c0 c1
              go_wp2_with fail
              go_ret
              exact ⟨rfl, B9.out⟩
end Go.Proofs.Ytpjekejkhncjpaa
