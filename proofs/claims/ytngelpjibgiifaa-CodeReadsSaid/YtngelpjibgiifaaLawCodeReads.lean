/- CodeReads: the walk. -/
import Derived.Test.YtngelpjibgiifaaReadTies
import Derived.Test.YtngelpjibgiifaaWhatRow
import Derived.Test.YtngelpjibgiifaaAppB
import Derived.Test.YtngelpjibgiifaaCodeFacts
import Derived.Deep.RegionWith
import Derived.Deep.RegionHeld3
namespace Go.Proofs.Ytngelpjibgiifaa
open Go.RowKit
theorem set3_chg {w : World} {g : Nat} {y0 y1 y2 : Value} : Chg g w (((w.setCell ⟨g, 0, none⟩ y0).setCell ⟨g, 1, none⟩ y1).setCell ⟨g, 2, none⟩ y2) := (((Chg.refl g w).set 0 y0).set 1 y1).set 2 y2
theorem Rdr.other {w : World} {g g0 : Nat} {zs : List Int} {e : Int} (r : Rdr w g g0 zs e) (D : Nat) (hD : w.heap.size ≤ D) : ∃ g1, g1 ≠ D ∧ Rdr w g g1 zs e := by
  have hlt := r.lt
  by_cases hg : g0 = D
  · obtain ⟨v, hb, ⟨p, c, hv, hc, hr⟩, hn⟩ := r
    refine ⟨D + 1, by omega, v, hb, ⟨p, c, hv, hc, ?_⟩, by omega⟩
    rcases hr with h | ⟨o, hp, h⟩
    · exact .inl h
    · by_cases hz : zs.length = 0
      · left; exact List.length_eq_zero_iff.1 hz
      · have := World.block_lt_of_cell? w _ (h 0 (by omega))
        simp at this
        omega
  · exact ⟨g0, hg, r⟩
def RSt (W : World) (s : ByteArray) (r r0 D : Nat) (at_ : Nat) (e : Int) (zs : List Int) (wr : World) : Prop :=
  Tie s at_ e zs ∧ Rdr wr r r0 zs e ∧ Blk wr D #[.string s, .int .i64 at_, .int .i64 e] 28 ∧ Below W.heap.size W wr
set_option linter.unusedSimpArgs false in
set_option maxHeartbeats 8000000 in
set_option maxRecDepth 100000 in
theorem reads_walk (vb : Value) (b : List Int) (vl : Value) (n : Nat) (f : Nat → Nat → Int) (W : World) (ob : Oct b) (rb : Row .u8 W vb b) (lb : b.length ≤ 140737488355328) (rl : WhatRow W vl n f) :
    Calls Try.prog 3 #[vb, vl] W fun e W' => e = .returned (.bool true) ∧ Below W.heap.size W W' := by
  obtain ⟨pb, cb, rfl⟩ := rb.shape
  obtain ⟨pl, cl, rfl, hlc, hl⟩ := rl
  have RB := Lib.hid rb
  have OB := Lib.hid ob
  have HL := Lib.hid hl
  clear rb ob hl
  by_cases h1 : (b.length : Int) ≤ 20000 ∧ (n : Int) ≤ 50
  · obtain ⟨g1, g2⟩ := h1
    generalize hnb : b.length = nb at *
    have HNB := Lib.hid hnb
    clear hnb
    obtain ⟨s, hs⟩ : ∃ s, s = strOfNums b := ⟨_, rfl⟩
    have HS := Lib.hid hs
    go_enter Try.func3, Try.ntmps3
    go_wp2_with fail
    refine (writes_any W).mono ?_
    rintro y w0 ⟨rfl, hb0⟩
    have B0 := Lib.hid hb0
    have R0 := Lib.hid (RB.out.under B0.out (Nat.le_refl _))
    clear hb0
    go_wp2_with fail
    refine (read_any _ _ w0 R0.out (by have := HNB.out; omega)).mono ?_
    rintro y w1 ⟨r, r0', rfl, hr1, hr, _, hb1⟩
    have B1 := Lib.hid (B0.out.trans (hb1.mono B0.out.size))
    have G := Lib.hid (Nat.le_trans B0.out.size hr)
    have K1 := conv_row (P := Try.prog) w1 22 9 5 Try.underlying22 Try.underlying5 Try.underlying9 _ _ (RB.out.under B1.out (Nat.le_refl _))
    rw [← HS.out] at K1
    obtain ⟨r0, hn0, hr1⟩ := hr1.other w1.heap.size (Nat.le_refl _)
    have hlt := hr1.lt
    have HRD : Hid (r ≠ w1.heap.size) := by show r ≠ _; omega
    have HR0D := Lib.hid hn0
    have HST : Hid (RSt W s r r0 w1.heap.size 0 0 b (w1.alloc (.cells #[.string s, .int .i64 0, .int .i64 0] 28))) := by
      refine ⟨⟨Nat.zero_le _, ?_, OB.out, ?_, fun _ => ?_⟩, hr1.below (oneB _ _), Blk.new _ _ _, B1.out.alloc B1.out.size _⟩
      · rw [HS.out, strOfNums_size, HNB.out]; omega
      · rw [HNB.out]; omega
      · rw [HS.out, bytesOf_str OB.out]; rfl
    have HD : Hid (W.heap.size ≤ w1.heap.size) := B1.out.size
    clear hr1 hb1 hr hlt hn0 hs
    go_wp2_with fail
    generalize hD : w1.heap.size = D at *
    clear hD
    go_loopw [35] (fun i wr => ∃ k : Nat, k ≤ n ∧ i = .int .i64 k ∧ Hid (∃ at_ e zs, RSt W s r r0 D at_ e zs wr)) (fun i _ => n - (intOf i).toNat)
    case atStart => exact ⟨0, by omega, rfl, ⟨_, _, _, HST.out⟩⟩
    case round =>
      obtain ⟨k, hk, rfl, HK⟩ := hrel
      obtain ⟨at_, e, zs, hT, hR, hD, hB⟩ := HK.out
      have HT := Lib.hid hT
      have HR := Lib.hid hR
      have HDB := Lib.hid hD
      have HB := Lib.hid hB
      have d0 : wr.cell? ⟨D, 0, none⟩ = some (.string s) := hD.cell 0
      have d1 : wr.cell? ⟨D, 1, none⟩ = some (.int .i64 at_) := hD.cell 1
      have d2 : wr.cell? ⟨D, 2, none⟩ = some (.int .i64 e) := hD.cell 2
      have DLT := hD.lt
      clear hT hR hD hB
      by_cases hlt : k < n
      · obtain ⟨bl, ol, hpl, hcl⟩ : ∃ b o, pl = some ⟨b, o, none⟩ ∧ ∀ t, t < 3 → W.cell? ⟨b, o + k * 3 + t, none⟩ = some (.int .i64 (f k t)) := by
          rcases HL.out with h | ⟨b, o, hp, h⟩
          · omega
          · exact ⟨b, o, hp, fun t ht => h k t hlt ht⟩
        subst hpl
        have hc0 := (HB.out.cell (p := ⟨bl, ol + k * 3 + 0, none⟩) (World.block_lt_of_cell? W _ (hcl 0 (by omega)))).trans (hcl 0 (by omega))
        have hc1 := (HB.out.cell (p := ⟨bl, ol + k * 3 + 1, none⟩) (World.block_lt_of_cell? W _ (hcl 1 (by omega)))).trans (hcl 1 (by omega))
        have hc2 := (HB.out.cell (p := ⟨bl, ol + k * 3 + 2, none⟩) (World.block_lt_of_cell? W _ (hcl 2 (by omega)))).trans (hcl 2 (by omega))
        simp only [Nat.add_zero] at hc0
        clear hcl
        generalize f k 0 = kind at *
        generalize f k 1 = least at *
        generalize f k 2 = most at *
        by_cases hk0 : kind = 0
        · subst hk0
          obtain ⟨q1, q2, q3⟩ := tie_num HT.out
          have HN : Hid (∀ w, Calls Try.prog 13 #[.agg #[.string s, .int .i64 at_, .int .i64 e]] w (DocPost s at_ e w)) := fun w => refnumber_any s at_ e w (Or.inr HT.out.1) HT.out.2.1
          have HP : Hid (∀ w, Rdr w r r0 zs e → Calls Try.prog 14 #[.pointer (some ⟨r, 0, none⟩)] w (fun x w' => x = .returned (.int .i64 (numV zs e)) ∧ Chg r w w' ∧ Rdr w' r r0 (numR zs e) (numE zs e))) := fun w hr => num_any r r0 zs e w hr HT.out.2.2.1 (by have := HT.out.2.2.2.1; omega)
          unfold DocPost rdV at HN
          rw [q1, q2] at HP
          generalize docE ((bytesOf s).drop at_) e = e2 at *
          generalize docV ((bytesOf s).drop at_) e = v at *
          generalize docAt ((bytesOf s).drop at_) at_ e = at2 at *
          generalize numR zs e = zs2 at *
          have HT2 := Lib.hid q3
          clear q1 q2 q3
          go_wp2_with fail
          refine (HN.out _).mono ?_
          rintro y w3 ⟨rfl, hb3⟩
          have hD3 := (HDB.out.alloc (.cells #[.int .i64 0, .int .i64 least, .int .i64 most] 30)).below hb3 (by simp; omega)
          have hX3 := (Blk.new wr #[.int .i64 0, .int .i64 least, .int .i64 most] 30).below hb3 (by simp)
          have hR3 := (HR.out.below (oneB wr (.cells #[.int .i64 0, .int .i64 least, .int .i64 most] 30))).below hb3
          have B3 := Lib.hid ((HB.out.alloc HB.out.size (.cells #[.int .i64 0, .int .i64 least, .int .i64 most] 30)).trans (hb3.mono (by have := HB.out.size; simp; omega)))
          have c0 : w3.cell? ⟨D, 0, none⟩ = some (.string s) := hD3.cell 0
          have c1 : w3.cell? ⟨D, 1, none⟩ = some (.int .i64 at_) := hD3.cell 1
          have c2 : w3.cell? ⟨D, 2, none⟩ = some (.int .i64 e) := hD3.cell 2
          have x1 : w3.cell? ⟨wr.heap.size, 1, none⟩ = some (.int .i64 least) := hX3.cell 1
          have x2 : w3.cell? ⟨wr.heap.size, 2, none⟩ = some (.int .i64 most) := hX3.cell 2
          have X3LT := hX3.lt
          have f0 := hD3.free 0
          have f1 := hD3.free 1
          have f2 := hD3.free 2
          have D3LT := hD3.lt
          have HD3 := Lib.hid hD3
          have HR3 := Lib.hid hR3
          clear hD3 hR3 hb3 hX3
          go_wp2_with fail
          refine (HP.out _ ((HR3.out.chg set3_chg HRD.out HR0D.out).below (oneB _ _))).mono ?_
          rintro y w4 ⟨rfl, hc4, hr4⟩
          have hD4 := ((set3_blk (y0 := .string s) (y1 := .int .i64 at2) (y2 := .int .i64 e2) HD3.out).alloc (.cells #[.string s, .int .i64 at2, .int .i64 e2] 28)).chg hc4 (Ne.symm HRD.out)
          have B4 := Lib.hid (((set3_below (y0 := .string s) (y1 := .int .i64 at2) (y2 := .int .i64 e2) B3.out HD.out).alloc (by have := B3.out.size; simp; omega) (.cells #[.string s, .int .i64 at2, .int .i64 e2] 28)).trans (hc4.below G.out (by have := B3.out.size; simp; omega)))
          have d4 : w4.cell? ⟨D, 2, none⟩ = some (.int .i64 e2) := hD4.cell 2
          have HN5 : Hid (∃ at_ e zs, RSt W s r r0 D at_ e zs w4.drew) := ⟨at2, e2, zs2, HT2.out, hr4.below (Below.refl _ _).drew, hD4.drew, B4.out.drew⟩
          have HR4 := Lib.hid (hr4.below (Below.refl _ w4).drew)
          clear c0 c1 c2 f0 f1 f2 x1 x2 hD4 hc4 hr4
          go_wp2_with fail
          go_region_with (first | (go_at_call 21; refine (err_any r r0 _ _ _ HR4.out).mono ?_; rintro y w5 ⟨rfl, rfl⟩))
          all_goals
            go_wp2_with fail
            go_roundw
            case rel => exact ⟨k + 1, by omega, by go_num, HN5⟩
            case measure => simp [intOf]; omega
        · by_cases hk1 : kind = 1
          · subst hk1
            obtain ⟨q1, q2, q3⟩ := tie_int HT.out least most
            have HN : Hid (∀ w, Calls Try.prog 15 #[.agg #[.string s, .int .i64 at_, .int .i64 e], .int .i64 least, .int .i64 most] w (IntPost s at_ e least most w)) := fun w => refint_any s at_ e least most w (Or.inr HT.out.1) HT.out.2.1
            have HP : Hid (∀ w, Rdr w r r0 zs e → Calls Try.prog 16 #[.pointer (some ⟨r, 0, none⟩), .int .i64 least, .int .i64 most] w (fun x w' => x = .returned (.int .i64 (intV zs e least most)) ∧ Chg r w w' ∧ Rdr w' r r0 (numR zs e) (intE zs e least most))) := fun w hr => int_any r r0 zs e least most w hr HT.out.2.2.1 (by have := HT.out.2.2.2.1; omega)
            unfold IntPost rdV at HN
            rw [q1, q2] at HP
            generalize dIntE ((bytesOf s).drop at_) e least most = e2 at *
            generalize dIntV ((bytesOf s).drop at_) e least most = v at *
            generalize docAt ((bytesOf s).drop at_) at_ e = at2 at *
            generalize numR zs e = zs2 at *
            have HT2 := Lib.hid q3
            clear q1 q2 q3
            go_wp2_with fail
            refine (HN.out _).mono ?_
            rintro y w3 ⟨rfl, hb3⟩
            have hD3 := (HDB.out.alloc (.cells #[.int .i64 1, .int .i64 least, .int .i64 most] 30)).below hb3 (by simp; omega)
            have hX3 := (Blk.new wr #[.int .i64 1, .int .i64 least, .int .i64 most] 30).below hb3 (by simp)
            have hR3 := (HR.out.below (oneB wr (.cells #[.int .i64 1, .int .i64 least, .int .i64 most] 30))).below hb3
            have B3 := Lib.hid ((HB.out.alloc HB.out.size (.cells #[.int .i64 1, .int .i64 least, .int .i64 most] 30)).trans (hb3.mono (by have := HB.out.size; simp; omega)))
            have c0 : w3.cell? ⟨D, 0, none⟩ = some (.string s) := hD3.cell 0
            have c1 : w3.cell? ⟨D, 1, none⟩ = some (.int .i64 at_) := hD3.cell 1
            have c2 : w3.cell? ⟨D, 2, none⟩ = some (.int .i64 e) := hD3.cell 2
            have x1 : w3.cell? ⟨wr.heap.size, 1, none⟩ = some (.int .i64 least) := hX3.cell 1
            have x2 : w3.cell? ⟨wr.heap.size, 2, none⟩ = some (.int .i64 most) := hX3.cell 2
            have X3LT := hX3.lt
            have f0 := hD3.free 0
            have f1 := hD3.free 1
            have f2 := hD3.free 2
            have D3LT := hD3.lt
            have HD3 := Lib.hid hD3
            have HR3 := Lib.hid hR3
            clear hD3 hR3 hb3 hX3
            go_wp2_with fail
            refine (HP.out _ ((HR3.out.chg set3_chg HRD.out HR0D.out).below (oneB _ _))).mono ?_
            rintro y w4 ⟨rfl, hc4, hr4⟩
            have hD4 := ((set3_blk (y0 := .string s) (y1 := .int .i64 at2) (y2 := .int .i64 e2) HD3.out).alloc (.cells #[.string s, .int .i64 at2, .int .i64 e2] 28)).chg hc4 (Ne.symm HRD.out)
            have B4 := Lib.hid (((set3_below (y0 := .string s) (y1 := .int .i64 at2) (y2 := .int .i64 e2) B3.out HD.out).alloc (by have := B3.out.size; simp; omega) (.cells #[.string s, .int .i64 at2, .int .i64 e2] 28)).trans (hc4.below G.out (by have := B3.out.size; simp; omega)))
            have d4 : w4.cell? ⟨D, 2, none⟩ = some (.int .i64 e2) := hD4.cell 2
            have HN5 : Hid (∃ at_ e zs, RSt W s r r0 D at_ e zs w4.drew) := ⟨at2, e2, zs2, HT2.out, hr4.below (Below.refl _ _).drew, hD4.drew, B4.out.drew⟩
            have HR4 := Lib.hid (hr4.below (Below.refl _ w4).drew)
            clear c0 c1 c2 f0 f1 f2 x1 x2 hD4 hc4 hr4
            go_wp2_with fail
            go_region_with (first | (go_at_call 21; refine (err_any r r0 _ _ _ HR4.out).mono ?_; rintro y w5 ⟨rfl, rfl⟩))
            all_goals
              go_wp2_with fail
              go_roundw
              case rel => exact ⟨k + 1, by omega, by go_num, HN5⟩
              case measure => simp [intOf]; omega
          · by_cases hk2 : kind = 2
            · subst hk2
              obtain ⟨q1, q2, q3⟩ := tie_bool HT.out
              have HN : Hid (∀ w, Calls Try.prog 17 #[.agg #[.string s, .int .i64 at_, .int .i64 e]] w (TruthPost s at_ e w)) := fun w => reftruth_any s at_ e w (Or.inr HT.out.1) HT.out.2.1
              have HP : Hid (∀ w, Rdr w r r0 zs e → Calls Try.prog 18 #[.pointer (some ⟨r, 0, none⟩)] w (fun x w' => x = .returned (.bool (boolV zs e)) ∧ Chg r w w' ∧ Rdr w' r r0 (boolR zs e) (boolE zs e))) := fun w hr => bool_any r r0 zs e w hr HT.out.2.2.1 (by have := HT.out.2.2.2.1; omega)
              unfold TruthPost rdV at HN
              rw [q1, q2] at HP
              generalize dTE ((bytesOf s).drop at_) e = e2 at *
              generalize dTV ((bytesOf s).drop at_) e = v at *
              generalize dTA ((bytesOf s).drop at_) at_ e = at2 at *
              generalize boolR zs e = zs2 at *
              have HT2 := Lib.hid q3
              clear q1 q2 q3
              go_wp2_with fail
              refine (HN.out _).mono ?_
              rintro y w3 ⟨rfl, hb3⟩
              have hD3 := (HDB.out.alloc (.cells #[.int .i64 2, .int .i64 least, .int .i64 most] 30)).below hb3 (by simp; omega)
              have hX3 := (Blk.new wr #[.int .i64 2, .int .i64 least, .int .i64 most] 30).below hb3 (by simp)
              have hR3 := (HR.out.below (oneB wr (.cells #[.int .i64 2, .int .i64 least, .int .i64 most] 30))).below hb3
              have B3 := Lib.hid ((HB.out.alloc HB.out.size (.cells #[.int .i64 2, .int .i64 least, .int .i64 most] 30)).trans (hb3.mono (by have := HB.out.size; simp; omega)))
              have c0 : w3.cell? ⟨D, 0, none⟩ = some (.string s) := hD3.cell 0
              have c1 : w3.cell? ⟨D, 1, none⟩ = some (.int .i64 at_) := hD3.cell 1
              have c2 : w3.cell? ⟨D, 2, none⟩ = some (.int .i64 e) := hD3.cell 2
              have x1 : w3.cell? ⟨wr.heap.size, 1, none⟩ = some (.int .i64 least) := hX3.cell 1
              have x2 : w3.cell? ⟨wr.heap.size, 2, none⟩ = some (.int .i64 most) := hX3.cell 2
              have X3LT := hX3.lt
              have f0 := hD3.free 0
              have f1 := hD3.free 1
              have f2 := hD3.free 2
              have D3LT := hD3.lt
              have HD3 := Lib.hid hD3
              have HR3 := Lib.hid hR3
              clear hD3 hR3 hb3 hX3
              go_wp2_with fail
              refine (HP.out _ ((HR3.out.chg set3_chg HRD.out HR0D.out).below (oneB _ _))).mono ?_
              rintro y w4 ⟨rfl, hc4, hr4⟩
              have hD4 := ((set3_blk (y0 := .string s) (y1 := .int .i64 at2) (y2 := .int .i64 e2) HD3.out).alloc (.cells #[.string s, .int .i64 at2, .int .i64 e2] 28)).chg hc4 (Ne.symm HRD.out)
              have B4 := Lib.hid (((set3_below (y0 := .string s) (y1 := .int .i64 at2) (y2 := .int .i64 e2) B3.out HD.out).alloc (by have := B3.out.size; simp; omega) (.cells #[.string s, .int .i64 at2, .int .i64 e2] 28)).trans (hc4.below G.out (by have := B3.out.size; simp; omega)))
              have d4 : w4.cell? ⟨D, 2, none⟩ = some (.int .i64 e2) := hD4.cell 2
              have HN5 : Hid (∃ at_ e zs, RSt W s r r0 D at_ e zs w4.drew) := ⟨at2, e2, zs2, HT2.out, hr4.below (Below.refl _ _).drew, hD4.drew, B4.out.drew⟩
              have HR4 := Lib.hid (hr4.below (Below.refl _ w4).drew)
              clear c0 c1 c2 f0 f1 f2 x1 x2 hD4 hc4 hr4
              go_wp2_with fail
              go_region_with (first | (go_at_call 21; refine (err_any r r0 _ _ _ HR4.out).mono ?_; rintro y w5 ⟨rfl, rfl⟩))
              all_goals
                go_wp2_with fail
                go_roundw
                case rel => exact ⟨k + 1, by omega, by go_num, HN5⟩
                case measure => simp [intOf]; omega
            · by_cases hk3 : kind = 3
              · subst hk3
                obtain ⟨q1, q2, q3⟩ := tie_bytes HT.out
                have HN : Hid (∀ w, Calls Try.prog 19 #[.agg #[.string s, .int .i64 at_, .int .i64 e]] w (fun x w' => x = .returned (.tuple #[rdV s (dLA s ((bytesOf s).drop at_) at_ e) (dLE s ((bytesOf s).drop at_) at_ e), .string (dLV s ((bytesOf s).drop at_) at_ e)]) ∧ Below w.heap.size w w')) := fun w => reflist_any s at_ e w HT.out.1 HT.out.2.1
                have HP : Hid (∀ w, Rdr w r r0 zs e → Calls Try.prog 20 #[.pointer (some ⟨r, 0, none⟩)] w (fun x w' => ∃ v, x = .returned v ∧ Own .u8 w' w.heap.size 5 v (bytesV zs e) ∧ Chg r w w' ∧ Rdr w' r r0 (bytesR zs e) (bytesE zs e))) := fun w hr => bytes_any r r0 zs e w hr HT.out.2.2.1 (by have := HT.out.2.2.2.1; omega)
                unfold rdV at HN
                rw [q1] at HP
                generalize dLE s ((bytesOf s).drop at_) at_ e = e2 at *
                generalize dLV s ((bytesOf s).drop at_) at_ e = v at *
                generalize dLA s ((bytesOf s).drop at_) at_ e = at2 at *
                generalize bytesR zs e = zs2 at *
                generalize bytesV zs e = lv at *
                have Q2 := Lib.hid q2
                have HT2 := Lib.hid q3
                clear q1 q2 q3
                go_wp2_with fail
                refine (HN.out _).mono ?_
                rintro y w3 ⟨rfl, hb3⟩
                have hD3 := (HDB.out.alloc (.cells #[.int .i64 3, .int .i64 least, .int .i64 most] 30)).below hb3 (by simp; omega)
                have hX3 := (Blk.new wr #[.int .i64 3, .int .i64 least, .int .i64 most] 30).below hb3 (by simp)
                have hR3 := (HR.out.below (oneB wr (.cells #[.int .i64 3, .int .i64 least, .int .i64 most] 30))).below hb3
                have B3 := Lib.hid ((HB.out.alloc HB.out.size (.cells #[.int .i64 3, .int .i64 least, .int .i64 most] 30)).trans (hb3.mono (by have := HB.out.size; simp; omega)))
                have c0 : w3.cell? ⟨D, 0, none⟩ = some (.string s) := hD3.cell 0
                have c1 : w3.cell? ⟨D, 1, none⟩ = some (.int .i64 at_) := hD3.cell 1
                have c2 : w3.cell? ⟨D, 2, none⟩ = some (.int .i64 e) := hD3.cell 2
                have x1 : w3.cell? ⟨wr.heap.size, 1, none⟩ = some (.int .i64 least) := hX3.cell 1
                have x2 : w3.cell? ⟨wr.heap.size, 2, none⟩ = some (.int .i64 most) := hX3.cell 2
                have X3LT := hX3.lt
                have f0 := hD3.free 0
                have f1 := hD3.free 1
                have f2 := hD3.free 2
                have D3LT := hD3.lt
                have HD3 := Lib.hid hD3
                have HR3 := Lib.hid hR3
                clear hD3 hR3 hb3 hX3
                go_wp2_with fail
                refine (HP.out _ ((HR3.out.chg set3_chg HRD.out HR0D.out).below (oneB _ _))).mono ?_
                rintro y w4 ⟨v4, rfl, ho4, hc4, hr4⟩
                obtain ⟨p4, c4, hv4⟩ := ho4.form
                subst hv4
                have K4 := conv_row (P := Try.prog) w4 22 9 5 Try.underlying22 Try.underlying5 Try.underlying9 _ _ ho4.row
                rw [Q2.out] at K4
                clear ho4
                have hD4 := ((set3_blk (y0 := .string s) (y1 := .int .i64 at2) (y2 := .int .i64 e2) HD3.out).alloc (.cells #[.string s, .int .i64 at2, .int .i64 e2] 28)).chg hc4 (Ne.symm HRD.out)
                have B4 := Lib.hid (((set3_below (y0 := .string s) (y1 := .int .i64 at2) (y2 := .int .i64 e2) B3.out HD.out).alloc (by have := B3.out.size; simp; omega) (.cells #[.string s, .int .i64 at2, .int .i64 e2] 28)).trans (hc4.below G.out (by have := B3.out.size; simp; omega)))
                have d4 : w4.cell? ⟨D, 2, none⟩ = some (.int .i64 e2) := hD4.cell 2
                have HN5 : Hid (∃ at_ e zs, RSt W s r r0 D at_ e zs w4.drew) := ⟨at2, e2, zs2, HT2.out, hr4.below (Below.refl _ _).drew, hD4.drew, B4.out.drew⟩
                have HR4 := Lib.hid (hr4.below (Below.refl _ w4).drew)
                clear c0 c1 c2 f0 f1 f2 x1 x2 hD4 hc4 hr4
                go_wp2_with fail
                go_region_with (first | (go_at_call 21; refine (err_any r r0 _ _ _ HR4.out).mono ?_; rintro y w5 ⟨rfl, rfl⟩))
                all_goals
                  go_wp2_with fail
                  go_roundw
                  case rel => exact ⟨k + 1, by omega, by go_num, HN5⟩
                  case measure => simp [intOf]; omega
              · skip
                have j0 : (kind == 0) = false := by simpa using hk0
                have j1 : (kind == 1) = false := by simpa using hk1
                have j2 : (kind == 2) = false := by simpa using hk2
                have j3 : (kind == 3) = false := by simpa using hk3
                have HR4 := Lib.hid ((HR.out.below (oneB wr (.cells #[.int .i64 kind, .int .i64 least, .int .i64 most] 30))).below (Below.refl _ _).drew)
                have HD4 := HDB.out.alloc (.cells #[.int .i64 kind, .int .i64 least, .int .i64 most] 30)
                have HN5 : Hid (∃ at_ e zs, RSt W s r r0 D at_ e zs (wr.alloc (.cells #[.int .i64 kind, .int .i64 least, .int .i64 most] 30)).drew) := ⟨at_, e, zs, HT.out, HR4.out, HD4.drew, (HB.out.alloc HB.out.size _).drew⟩
                clear HD4
                go_wp2_with fail
                go_region_with (first | (go_at_call 21; refine (err_any r r0 _ _ _ HR4.out).mono ?_; rintro y w5 ⟨rfl, rfl⟩))
                all_goals
                  go_wp2_with fail
                  go_roundw
                  case rel => exact ⟨k + 1, by omega, by go_num, HN5⟩
                  case measure => simp [intOf]; omega
      · have hkn : (n : Int) ≤ (k : Int) := by omega
        obtain ⟨qe, qz⟩ := tie_end HT.out
        have HN : Hid (∀ w, Calls Try.prog 23 #[.agg #[.string s, .int .i64 at_, .int .i64 e]] w (fun x w' => x = .returned (rdV s at_ (dEE ((bytesOf s).drop at_) e)) ∧ Below w.heap.size w w')) := fun w => refend_any s at_ e w
        have HP : Hid (∀ w, Rdr w r r0 zs e → Calls Try.prog 24 #[.pointer (some ⟨r, 0, none⟩)] w fun x w' => x = .returned (.int .i64 (endE zs e)) ∧ Chg r w w' ∧ Rdr w' r r0 zs (endE zs e)) := fun w hr => end_any r r0 zs e w hr (by have := HT.out.2.2.2.1; omega)
        unfold rdV at HN
        rw [qe] at HP
        generalize dEE ((bytesOf s).drop at_) e = e2 at *
        have HLEFT : Hid (∀ w, Rdr w r r0 zs e → Calls Try.prog 22 #[.pointer (some ⟨r, 0, none⟩)] w fun x w' => x = .returned (.int .i64 (zs.length : Nat)) ∧ w = w') := fun w hr => left_any r r0 zs e w hr
        generalize zs.length = nl at *
        clear qe hlt
        go_wp2_with fail
        refine (HLEFT.out _ HR.out).mono ?_
        rintro y w2 ⟨rfl, rfl⟩
        go_wp2_with fail
        refine (HN.out _).mono ?_
        rintro y w3 ⟨rfl, hb3⟩
        have hD3 := HDB.out.below hb3 DLT
        have B3 := Lib.hid (HB.out.trans (hb3.mono HB.out.size))
        have c0 : w3.cell? ⟨D, 0, none⟩ = some (.string s) := hD3.cell 0
        have c1 : w3.cell? ⟨D, 1, none⟩ = some (.int .i64 at_) := hD3.cell 1
        have c2 : w3.cell? ⟨D, 2, none⟩ = some (.int .i64 e) := hD3.cell 2
        have f0 := hD3.free 0
        have f1 := hD3.free 1
        have f2 := hD3.free 2
        have D3LT := hD3.lt
        have HD3 := Lib.hid hD3
        have HR3 := Lib.hid (HR.out.below hb3)
        clear hD3 hb3
        go_wp2_with fail
        have hee : (e2 == e2) = true := by simp
        have HB4 := Lib.hid (set3_below (y0 := .string s) (y1 := .int .i64 at_) (y2 := .int .i64 e2) B3.out HD.out).drew
        have HD4 := Lib.hid (set3_blk (y0 := .string s) (y1 := .int .i64 at_) (y2 := .int .i64 e2) HD3.out).drew
        have HR4 := Lib.hid ((HR3.out.chg (set3_chg (y0 := .string s) (y1 := .int .i64 at_) (y2 := .int .i64 e2)) HRD.out HR0D.out).below (Below.refl _ _).drew)
        clear c0 c1 c2 f0 f1 f2
        generalize ((w3.setCell ⟨D, 0, none⟩ (.string s)).setCell ⟨D, 1, none⟩ (.int .i64 at_)).setCell ⟨D, 2, none⟩ (.int .i64 e2) = w4 at *
        have d4 : w4.cell? ⟨D, 2, none⟩ = some (.int .i64 e2) := HD4.out.cell 2
        by_cases hz : e2 = 0
        · have hnl := qz hz
          subst hnl hz
          go_region_held3 (fun w' => w'.cell? ⟨D, 2, none⟩ = some (.int .i64 0))
            (first | exact d4 | exact d5 | assumption)
            (first | (go_at_call 24; refine (HP.out _ HR4.out).mono ?_; rintro y w5 ⟨rfl, hc5, hr5⟩; have d5 : w5.cell? ⟨D, 2, none⟩ = some (.int .i64 0) := (HD4.out.chg hc5 (Ne.symm HRD.out)).cell 2; have B5 := Lib.hid (HB4.out.trans (hc5.below G.out HB4.out.size)); clear hc5 hr5))
          go_wp2_with fail
          go_ret
          exact ⟨rfl, B5.out⟩
        · have hzz : (e2 != 0) = true := by simpa using hz
          have hzd : decide (e2 = 0) = false := by simpa using hz
          have hzb : (e2 == 0) = false := by simpa using hz
          have hx4 : w4.drew.cell? ⟨D, 2, none⟩ = some (.int .i64 e2) := d4
          refine wp_region_held_drew (S := fun w' => w'.cell? ⟨D, 2, none⟩ = some (.int .i64 e2)) (by kernel_rfl) hx4 (fun hS0 => ?_)
          refine wpAnyH_take (i := 0) (v := ?_) rfl (by kernel_rfl) (by kernel_rfl) (by kernel_rfl) (fun _ _ _ h => h) (Or.inl ⟨by kernel_rfl, ?_⟩) (by assumption) ?_
          rotate_left
          · intro w hSw
            try dsimp only at hSw
            first | (go_simp; done) | (go_simp; with_reducible rfl)
          try simp only [Act.put, List.setIfInBounds_toArray, List.set_cons_zero, List.set_cons_succ]
          refine wpAnyH_take (i := 2) (v := ?_) rfl (by kernel_rfl) (by kernel_rfl) (by kernel_rfl) (fun _ _ _ h => h) (Or.inl ⟨by kernel_rfl, ?_⟩) (by assumption) ?_
          rotate_left
          · intro w hSw
            try dsimp only at hSw
            first | (go_simp; done) | (go_simp; with_reducible rfl)
          try simp only [Act.put, List.setIfInBounds_toArray, List.set_cons_zero, List.set_cons_succ]
          refine wpAnyH_take (i := 3) (v := ?_) rfl (by kernel_rfl) (by kernel_rfl) (by kernel_rfl) (fun _ _ _ h => h) (Or.inl ⟨by kernel_rfl, ?_⟩) (by assumption) ?_
          rotate_left
          · intro w hSw
            try dsimp only at hSw
            first | (go_simp; done) | (go_simp; with_reducible rfl)
          try simp only [Act.put, List.setIfInBounds_toArray, List.set_cons_zero, List.set_cons_succ]
          refine wpAnyH_ready (rs := [1]) (by kernel_rfl) (by simp) ?_
          refine AllReadyH.cons rfl (fun K hK => ?_) AllReadyH.nil
          go_simp
          go_at_call 24
          refine (HP.out _ HR4.out).mono ?_
          rintro y w5 ⟨rfl, hc5, hr5⟩
          have d5 : w5.cell? ⟨D, 2, none⟩ = some (.int .i64 e2) := (HD4.out.chg hc5 (Ne.symm HRD.out)).cell 2
          have B5 := Lib.hid (HB4.out.trans (hc5.below G.out HB4.out.size))
          clear hc5 hr5
          try go_wp2_with fail
          refine hK.out _ _ d5 (fun hS1 => ?_)
          clear hK K
          try simp only [Act.put, List.setIfInBounds_toArray, List.set_cons_zero, List.set_cons_succ]
          refine wpAnyH_take (i := 4) (v := ?_) rfl (by kernel_rfl) (by kernel_rfl) (by kernel_rfl) (fun _ _ _ h => h) (Or.inl ⟨by kernel_rfl, ?_⟩) (by assumption) ?_
          rotate_left
          · intro w hSw
            try dsimp only at hSw
            first | (go_simp; done) | (go_simp; with_reducible rfl)
          try simp only [Act.put, List.setIfInBounds_toArray, List.set_cons_zero, List.set_cons_succ]
          refine wpAnyH_take (i := 5) (v := ?_) rfl (by kernel_rfl) (by kernel_rfl) (by kernel_rfl) (fun _ _ _ h => h) (Or.inl ⟨by kernel_rfl, ?_⟩) (by assumption) ?_
          rotate_left
          · intro w hSw
            try dsimp only at hSw
            first | (go_simp; done) | (go_simp; with_reducible rfl)
          try simp only [Act.put, List.setIfInBounds_toArray, List.set_cons_zero, List.set_cons_succ]
          refine wpAnyH_take (i := 6) (v := ?_) rfl (by kernel_rfl) (by kernel_rfl) (by kernel_rfl) (fun _ _ _ h => h) (Or.inl ⟨by kernel_rfl, ?_⟩) (by assumption) ?_
          rotate_left
          · intro w hSw
            try dsimp only at hSw
            first | (go_simp; done) | (go_simp; with_reducible rfl)
          try simp only [Act.put, List.setIfInBounds_toArray, List.set_cons_zero, List.set_cons_succ]
          refine wpAnyH_take (i := 7) (v := ?_) rfl (by kernel_rfl) (by kernel_rfl) (by kernel_rfl) (fun _ _ _ h => h) (Or.inl ⟨by kernel_rfl, ?_⟩) (by assumption) ?_
          rotate_left
          · intro w hSw
            try dsimp only at hSw
            first | (go_simp; done) | (go_simp; with_reducible rfl)
          try simp only [Act.put, List.setIfInBounds_toArray, List.set_cons_zero, List.set_cons_succ]
          refine wpAnyH_take (i := 8) (v := ?_) rfl (by kernel_rfl) (by kernel_rfl) (by kernel_rfl) (fun _ _ _ h => h) (Or.inl ⟨by kernel_rfl, ?_⟩) (by assumption) ?_
          rotate_left
          · intro w hSw
            try dsimp only at hSw
            first | (go_simp; done) | (go_simp; with_reducible rfl)
          try simp only [Act.put, List.setIfInBounds_toArray, List.set_cons_zero, List.set_cons_succ]
          refine wpAnyH_take (i := 9) (v := ?_) rfl (by kernel_rfl) (by kernel_rfl) (by kernel_rfl) (fun _ _ _ h => h) (Or.inl ⟨by kernel_rfl, ?_⟩) (by assumption) ?_
          rotate_left
          · intro w hSw
            try dsimp only at hSw
            first | (go_simp; done) | (go_simp; with_reducible rfl)
          try simp only [Act.put, List.setIfInBounds_toArray, List.set_cons_zero, List.set_cons_succ]
          try simp only [hzz, hzd, hzb, Bool.not_false]
          refine wpAnyH_take (i := 10) (v := undef) rfl (by kernel_rfl) (by kernel_rfl) (by kernel_rfl) (fun _ _ _ h => h) (Or.inr ⟨by kernel_rfl, rfl⟩) (by assumption) ?_
          try simp only [Act.put, List.setIfInBounds_toArray, List.set_cons_zero, List.set_cons_succ]
          refine wpAnyH_take (i := 11) (v := undef) rfl (by kernel_rfl) (by kernel_rfl) (by kernel_rfl) (fun _ _ _ h => h) (Or.inr ⟨by kernel_rfl, rfl⟩) (by assumption) ?_
          try simp only [Act.put, List.setIfInBounds_toArray, List.set_cons_zero, List.set_cons_succ]
          refine wpAnyH_take (i := 12) (v := ?_) rfl (by kernel_rfl) (by kernel_rfl) (by kernel_rfl) (fun _ _ _ h => h) (Or.inl ⟨by kernel_rfl, ?_⟩) (by assumption) ?_
          rotate_left
          · intro w hSw
            try dsimp only at hSw
            first | (go_simp; done) | (go_simp; with_reducible rfl)
          try simp only [Act.put, List.getElem_toArray, List.getElem_cons_succ, List.getElem_cons_zero, List.setIfInBounds_toArray, List.set_cons_zero, List.set_cons_succ]
          refine wpAnyH_take (i := 13) (v := ?_) rfl (by kernel_rfl) (by kernel_rfl) (by kernel_rfl) (fun _ _ _ h => h) (Or.inl ⟨by kernel_rfl, ?_⟩) (by assumption) ?_
          rotate_left
          · intro w hSw
            try dsimp only at hSw
            first | (go_simp; done) | (go_simp; with_reducible rfl)
          try simp only [Act.put, List.getElem_toArray, List.getElem_cons_succ, List.getElem_cons_zero, List.setIfInBounds_toArray, List.set_cons_zero, List.set_cons_succ]
          refine wpAnyH_take (i := 14) (v := ?_) rfl (by kernel_rfl) (by kernel_rfl) (by kernel_rfl) (fun _ _ _ h => h) (Or.inl ⟨by kernel_rfl, ?_⟩) (by assumption) ?_
          rotate_left
          · intro w hSw
            try dsimp only at hSw
            first | (go_simp; done) | (go_simp; with_reducible rfl)
          try simp only [Act.put, List.getElem_toArray, List.getElem_cons_succ, List.getElem_cons_zero, List.setIfInBounds_toArray, List.set_cons_zero, List.set_cons_succ]
          refine wpAnyH_done (by kernel_rfl) ?_ _
          go_wp2_with fail
          go_ret
          refine ⟨?_, B5.out⟩
          rfl
  · have hg : (20000 : Int) < b.length ∨ (b.length : Int) ≤ 20000 ∧ (50 : Int) < n := by omega
    clear h1
    rcases hg with hg | ⟨hg, hg2⟩
    all_goals
      go_enter Try.func3, Try.ntmps3
      go_wp2_with fail
      refine (writes_any W).mono ?_
      rintro y w0 ⟨rfl, hb0⟩
      go_wp2_with fail
      go_ret
      exact ⟨rfl, hb0⟩
end Go.Proofs.Ytngelpjibgiifaa
