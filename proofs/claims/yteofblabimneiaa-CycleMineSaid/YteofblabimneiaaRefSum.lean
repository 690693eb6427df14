/- contraref01.Sum: all together, as a number of any size. -/
import Derived.Test.YteofblabimneiaaRefFits
namespace Go.Proofs.Yteofblabimneiaa
open Go.RowKit

theorem IsBig.kept {w w' : World} {v : Value} {x : Int} (h : IsBig w v x) (hb : Below w.heap.size w w') : IsBig w' v x := by
  obtain ⟨s, e, hr⟩ := h
  exact ⟨s, e, hr.kept hb⟩
theorem IsBig.form {w : World} {v : Value} {x : Int} (h : IsBig w v x) : ∃ p n c, v = .agg #[.bool (decide (x < 0)), .slice p n c] := by
  obtain ⟨s, e, hr⟩ := h
  obtain ⟨p, c, rfl⟩ := hr.form
  exact ⟨p, _, c, e⟩
theorem IsBig.set {w : World} {v : Value} {x : Int} (h : IsBig w v x) {a : Addr} {y : Value} (hx : w.cell? a = some y) (hne : ∀ n, y ≠ .int .i64 n) (u : Value) : IsBig (w.setCell a u) v x := by
  obtain ⟨s, e, hr⟩ := h
  exact ⟨s, e, hr.set hx hne u⟩
theorem small_sum {zs : List Int} (h : All64 zs) (hl : zs.length ≤ 1000) (k : Nat) : Small (zs.take k).sum := by
  have h1 := sum_bound (zs.take k) (fun a ha => h a (List.mem_of_mem_take ha))
  have h2 : (zs.take k).length ≤ 1000 := by rw [List.length_take]; omega
  unfold Small
  omega
theorem small_one {a : Int} (h : Fits a) : Small a := by unfold Fits at h; unfold Small; omega

/-- What the loop keeps. -/
def SumRel (zs : List Int) (w : World) (k : Nat) (p : Option Addr) (n c : Nat) (wr : World) : Prop :=
  Blk wr w.heap.size #[.bool (decide ((zs.take k).sum < 0)), .slice p n c] 56 ∧ IsBig wr (.agg #[.bool (decide ((zs.take k).sum < 0)), .slice p n c]) (zs.take k).sum ∧ Below w.heap.size w wr

theorem SumRel.step {zs : List Int} {w w2 : World} {k : Nat} {p p' : Option Addr} {n n' c c' : Nat} {mm : Bool} {y : Int} (hB : Blk w2 w.heap.size #[.bool mm, .slice p n c] 56)
    (hy : (zs.take (k + 1)).sum = y) (hbr : IsBig w2 (.agg #[.bool (decide (y < 0)), .slice p' n' c']) y) (hb : Below w.heap.size w w2) :
    SumRel zs w (k + 1) p' n' c' ((w2.setCell ⟨w.heap.size, 0, none⟩ (.bool (decide (y < 0)))).setCell ⟨w.heap.size, 1, none⟩ (.slice p' n' c')) := by
  subst hy
  refine ⟨(hB.set 0 _).set 1 _, ?_, (hb.setCell (by simp) _).setCell (by simp) _⟩
  exact (hbr.set (hB.cell 0) (by intro n; simp) _).set ((hB.set 0 _).cell 1) (by intro n; simp) _

set_option maxHeartbeats 2000000 in
theorem refsum_any (v : Value) (zs : List Int) (w : World) (hm : zs.length ≤ 1000) (h64 : All64 zs) (hrow : Row .i64 w v zs) :
    Calls Try.prog 13 #[v] w fun e w' => e = .returned (.tuple #[.int .i64 (sumN zs.sum), .int .i64 (sumE zs.sum)]) ∧ Below w.heap.size w w' := by
  obtain ⟨p0, c0, rfl⟩ := hrow.form
  have HR := Lib.hid hrow
  have HS : Hid (zs.sum = (zs.take zs.length).sum) := by show _ = _; rw [List.take_length]
  clear hrow
  generalize hn : zs.length = n0 at *
  have HN := Lib.hid hn
  clear hn
  go_enter Try.func13, Try.ntmps13
  go_wp2
  go_loopw [5] (fun vi wr => ∃ (k : Nat) (p : Option Addr) (n c : Nat), k ≤ n0 ∧ vi = .int .i64 k ∧ Hid (SumRel zs w k p n c wr)) (fun vi _ => n0 - (intOf vi).toNat)
  case atStart =>
    refine ⟨0, none, 0, 0, Nat.zero_le _, rfl, ?_, ?_, ?_⟩
    · simpa using Blk.new w _ _
    · refine ⟨.slice none 0 0, rfl, none, 0, ?_, ?_, .inl ?_⟩ <;> simp [digs_zero]
    · exact (Below.refl _ _).alloc (Nat.le_refl _) _
  case round =>
    obtain ⟨k, p, n, c, hk, rfl, HREL⟩ := hrel
    by_cases hlt : k < n0
    · obtain ⟨b, o, rfl, hc⟩ := HR.out.at k (by rw [HN.out]; exact hlt)
      have hB := HREL.out.1
      have HBIG := Lib.hid HREL.out.2.1
      have hbel := HREL.out.2.2
      have hcl : wr.cell? ⟨b, o + k, none⟩ = some (.int .i64 (zs.getD k 0)) := (hbel.cell (p := ⟨b, o + k, none⟩) (World.block_lt_of_cell? w _ hc)).trans hc
      have ha : Fits (zs.getD k 0) := h64.getD k
      have hsx := small_sum h64 (by rw [HN.out]; exact hm) k
      have hts : Hid ((zs.take (k + 1)).sum = (zs.take k).sum + zs.getD k 0) := take_succ_sum zs k (by rw [HN.out]; exact hlt)
      have c0 : wr.cell? ⟨w.heap.size, 0, none⟩ = some (.bool (decide ((zs.take k).sum < 0))) := hB.cell 0
      have c1 : wr.cell? ⟨w.heap.size, 1, none⟩ = some (.slice p n c) := hB.cell 1
      have hsz := hB.lt
      have HBB := Lib.hid hB
      have HBEL := Lib.hid hbel
      clear hB hbel hc
      generalize (zs.take k).sum = x at *
      generalize zs.getD k 0 = a at *
      have hsa := small_one ha
      generalize hmm : decide (x < 0) = mm at *
      clear hmm
      go_wp2_with fail
      go_region_with (first
        | (go_at_call 25; refine (from_any a _ ha).mono ?_; rintro e w1 ⟨vf, rfl, hbf, hb1⟩; have HB1 : Hid (Below wr.heap.size wr w1) := (by first | exact hb1 | exact (Below.refl _ _).drew.trans hb1); have k0 : w1.cell? ⟨w.heap.size, 0, none⟩ = some (.bool mm) := (HB1.out.cell (p := ⟨w.heap.size, 0, none⟩) hsz).trans c0; have k1 : w1.cell? ⟨w.heap.size, 1, none⟩ = some (.slice p n c) := (HB1.out.cell (p := ⟨w.heap.size, 1, none⟩) hsz).trans c1)
        | (go_at_call 24; refine (bigplus_any _ _ x a _ hsx hsa (HBIG.out.kept ?_) (hbf.kept ?_)).mono ?_; (first | exact HB1.out | exact HB1.out.drew); (first | exact Below.refl _ _ | exact (Below.refl _ _).drew); rintro e w2 ⟨r, rfl, hbr, hb2⟩; have HB2 : Hid (Below wr.heap.size wr w2) := (by first | exact HB1.out.trans (hb2.mono HB1.out.size) | exact HB1.out.drew.trans (hb2.mono HB1.out.size)); have B2 := HBB.out.below HB2.out hsz; have m0 : w2.cell? ⟨w.heap.size, 0, none⟩ = some (.bool mm) := B2.cell 0; have m1 : w2.cell? ⟨w.heap.size, 1, none⟩ = some (.slice p n c) := B2.cell 1; have f0 := B2.free 0; have f1 := B2.free 1; obtain ⟨pr, nr, cr, rfl⟩ := hbr.form))
      all_goals
        go_wp2
        have hst := SumRel.step B2 hts.out hbr (HBEL.out.trans (HB2.out.mono (by omega)))
        go_roundw
        case rel => exact ⟨k + 1, pr, nr, cr, by omega, by go_num, hst⟩
        case measure => simp [intOf]; omega
    · obtain rfl : k = n0 := by omega
      have hB := HREL.out.1
      have hbig := HREL.out.2.1
      have HBEL := Lib.hid HREL.out.2.2
      have hsx := small_sum h64 (by rw [HN.out]; exact hm) k
      rw [← HS.out] at hB hbig hsx
      have c0 : wr.cell? ⟨w.heap.size, 0, none⟩ = some (.bool (decide (zs.sum < 0))) := hB.cell 0
      have c1 : wr.cell? ⟨w.heap.size, 1, none⟩ = some (.slice p n c) := hB.cell 1
      have hfit := fits_any _ zs.sum wr hsx hbig
      obtain ⟨x, hx⟩ : ∃ x, x = zs.sum := ⟨_, rfl⟩
      rw [← hx] at c0 hfit
      have HX := Lib.hid hx
      clear hx
      generalize decide (x < 0) = mm at *
      have HF : Hid ((fitsB x = true → sumE x = 0) ∧ (fitsB x = false → sumE x = 10 ∧ sumN x = 0)) := by
        constructor
        · intro h; exact sumE_yes (by simpa [fitsB] using h)
        · intro h; have h' : ¬ Fits x := by simpa [fitsB] using h
          exact ⟨sumE_no h', sumN_no h'⟩
      have hsz := hB.lt
      clear hB hbig hsx HREL HS
      have HFT := Lib.hid hfit
      clear hfit
      cases hfb : fitsB x with
      | true =>
        have e1 : Hid (sumE x = 0) := HF.out.1 hfb
        go_wp2_with (go_at_call 26; refine HFT.out.mono ?_; rintro e w1 ⟨rfl, hb1⟩; rw [hfb])
        go_ret2
        exact ⟨by rw [← HX.out, e1.out]; rfl, HBEL.out.trans (hb1.mono (by omega))⟩
      | false =>
        have e1 : Hid (sumE x = 10) := (HF.out.2 hfb).1
        have e2 : Hid (sumN x = 0) := (HF.out.2 hfb).2
        go_wp2_with (go_at_call 26; refine HFT.out.mono ?_; rintro e w1 ⟨rfl, hb1⟩; rw [hfb])
        go_ret2
        exact ⟨by rw [← HX.out, e1.out, e2.out]; rfl, HBEL.out.trans (hb1.mono (by omega))⟩
end Go.Proofs.Yteofblabimneiaa
