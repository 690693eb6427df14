/- DiskRenews: the walk. -/
import Derived.Test.YtikpffaompaaiaaLawDiskTorn
namespace Go.Proofs.Ytikpffaompaaiaa
open Go.RowKit
def r2D (A : List Int) : DSt := ⟨5000, A, [], false, false, -1⟩
theorem r_one {A : List Int} (h : A.length ≤ 1000) : ((newD 5000).writeD A).syncD = r2D A := by
  have h1 := (write_calm (d := newD 5000) (zs := A) rfl (by decide) (by show (A.length : Int) ≤ (5000 : Int) - 0 - 0; omega)).1
  rw [h1]; rfl
theorem r_fell {A B : List Int} {f : Int} (hB : B.length ≤ 1000) (h : spendE f B.length = true) : ((r2D A).fuseD f).renewE B.length = 60 ∧ ((((r2D A).fuseD f).renewD B).crashD 9999 1).upD = r2D A ∧ (((r2D A).fuseD f).renewD B).S = A ∧ (((r2D A).fuseD f).renewD B).room = 5000 := by
  have h2 : ((r2D A).fuseD f).renewD B = ⟨5000, A, [], false, true, -1⟩ := by
    unfold DSt.renewD
    rw [if_neg (by intro e; rcases e with e | e; cases e; (have e' : 5000 < B.length := e; omega)), if_pos (show spendE ((r2D A).fuseD f).left B.length = true from h)]; rfl
  refine ⟨?_, ?_, ?_, ?_⟩
  · unfold DSt.renewE
    rw [if_neg (by intro e; cases e), if_neg (by intro e; (have e' : 5000 < B.length := e; omega)), if_pos (show spendE ((r2D A).fuseD f).left B.length = true from h)]
  · rw [h2]
    show (⟨5000, A ++ tornL [] 0 1, [], false, false, -1⟩ : DSt) = _
    rw [show tornL [] 0 1 = [] from rfl, List.append_nil]; rfl
  · rw [h2]
  · rw [h2]
theorem r_kept {A B : List Int} {f : Int} (hB : B.length ≤ 1000) (h : spendE f B.length = false) : ((r2D A).fuseD f).renewE B.length = 0 ∧ ((r2D A).fuseD f).renewD B = ⟨5000, A, B, true, false, spendL f B.length⟩ := by
  constructor
  · unfold DSt.renewE
    rw [if_neg (by intro e; cases e), if_neg (by intro e; (have e' : 5000 < B.length := e; omega)), if_neg (by show ¬ spendE f B.length = true; rw [h]; decide)]
  · unfold DSt.renewD
    rw [if_neg (by intro e; rcases e with e | e; cases e; (have e' : 5000 < B.length := e; omega)), if_neg (by show ¬ spendE f B.length = true; rw [h]; decide)]; rfl
theorem r_no (A B : List Int) (l : Int) : ((⟨5000, A, B, true, false, l⟩ : DSt).crashD 9999 1).upD = r2D A := by
  show (⟨5000, A ++ tornL [] 0 1, [], false, false, -1⟩ : DSt) = _
  rw [show tornL [] 0 1 = [] from rfl, List.append_nil]; rfl
theorem r_yes (A B : List Int) (l : Int) : (((⟨5000, A, B, true, false, l⟩ : DSt).syncD).crashD 9999 1).upD = r2D B := by
  show (⟨5000, ([] ++ B) ++ tornL [] 0 1, [], false, false, -1⟩ : DSt) = _
  rw [show tornL [] 0 1 = [] from rfl, List.append_nil]; rfl
set_option maxHeartbeats 4000000 in
set_option maxRecDepth 100000 in
theorem drenews_walk (va vb : Value) (A B : List Int) (f : Int) (sy : Bool) (W : World) (oa : Oct A) (ra : Row .u8 W va A) (ob : Oct B) (rb : Row .u8 W vb B) (bf : -9223372036854775808 ≤ f ∧ f ≤ 9223372036854775807) :
    Calls Try.prog 10 #[.agg #[va, vb], .int .i64 f, .bool sy] W fun e W' => e = .returned (.bool true) ∧ Below W.heap.size W W' := by
  obtain ⟨pa, ca, rfl⟩ := ra.shape
  obtain ⟨pb, cb, rfl⟩ := rb.shape
  have RA := Lib.hid ra
  have RB := Lib.hid rb
  have OA := Lib.hid oa
  have OB := Lib.hid ob
  clear ra rb oa ob
  by_cases h1 : (A.length : Int) ≤ 1000 ∧ (B.length : Int) ≤ 1000
  · obtain ⟨g1, g2⟩ := h1
    have T1 := Lib.hid (r_one (A := A) (by omega))
    have HFE := Lib.hid (r_fell (A := A) (B := B) (f := f) (by omega))
    have HKE := Lib.hid (r_kept (A := A) (B := B) (f := f) (by omega))
    have HSE : Hid (spendE f B.length = decide (0 ≤ f ∧ f < B.length)) := rfl
    generalize hla : A.length = na at *
    generalize hlb : B.length = nb at *
    have HLA := Lib.hid hla
    have HLB := Lib.hid hlb
    clear hla hlb
    have HBP := Lib.hid (Blk.new W #[.slice pa na ca, .slice pb nb cb] 71)
    have HBW := Lib.hid (oneB W (.cells #[.slice pa na ca, .slice pb nb cb] 71))
    go_enter Try.func10, Try.ntmps10
    go_wp2_with fail
    generalize hWA : W.alloc (.cells #[.slice pa na ca, .slice pb nb cb] 71) = WA at *
    clear hWA
    have HCE : Hid (∀ w', Below WA.heap.size WA w' → w'.cell? ⟨W.heap.size, 0, none⟩ = some (.slice pa na ca) ∧ w'.cell? ⟨W.heap.size, 1, none⟩ = some (.slice pb nb cb)) := fun w' h => ⟨(HBP.out.below h HBP.out.lt).cell 0, (HBP.out.below h HBP.out.lt).cell 1⟩
    have HWW : Hid (∀ w', Below WA.heap.size WA w' → Below W.heap.size W w') := fun w' h => HBW.out.trans (h.mono HBW.out.size)
    refine (keeps_any _).mono ?_
    rintro y w0 ⟨rfl, hb0⟩
    have B0 := Lib.hid hb0
    have hWg : W.heap.size ≤ w0.heap.size := Nat.le_trans HBW.out.size hb0.size
    have HAg := Lib.hid hb0.size
    obtain ⟨e0, e1⟩ := HCE.out w0 hb0
    clear hb0
    go_wp2_with fail
    go_region
    go_wp2_with fail
    clear e0 e1
    refine (new_any 5000 _).mono ?_
    rintro y w1 ⟨hb1, _, hk1⟩
    obtain ⟨rfl, hd1⟩ := hk1 (by decide)
    have D1 : Hid (Dk w1 w0.heap.size w0.heap.size (newD 5000)) := hd1
    have B1 := Lib.hid (B0.out.drew.trans (hb1.mono HAg.out))
    rw [show w0.drew.heap.size = w0.heap.size from rfl]
    clear hb1 hk1 hd1
    generalize w0.heap.size = g at *
    have FA := Lib.hid (row_far RA.out (HWW.out w1 B1.out) hWg)
    go_wp2_with fail
    refine (write_any w1 g g (newD 5000) _ A D1.out OA.out FA.out).mono ?_
    rintro y w2 ⟨rfl, hd2, hb2⟩
    have D2 := Lib.hid hd2
    have B2 := Lib.hid (B1.out.trans (hb2.mono HAg.out))
    clear hd2 hb2
    go_wp2_with fail
    refine (sync_any w2 g g _ D2.out).mono ?_
    rintro y w3 ⟨rfl, hd3, hb3⟩
    rw [T1.out] at hd3
    have D3 := Lib.hid hd3
    have B3 := Lib.hid (B2.out.trans (hb3.mono HAg.out))
    clear hd3 hb3
    go_wp2_with fail
    refine (fuse_any w3 g g (r2D A) f bf.1 bf.2 D3.out).mono ?_
    rintro y w4 ⟨rfl, hd4, hb4⟩
    have D4 := Lib.hid hd4
    have B4 := Lib.hid (B3.out.trans (hb4.mono HAg.out))
    have FB := Lib.hid (row_far RB.out (HWW.out w4 B4.out) hWg)
    clear hd4 hb4
    go_wp2_with fail
    refine (renew_any w4 g g _ _ B D4.out OB.out FB.out).mono ?_
    rintro y w5 ⟨rfl, hd5, hb5⟩
    have B5 := Lib.hid (B4.out.trans (hb5.mono HAg.out))
    have D5 := Lib.hid hd5
    rw [HLB.out]
    clear hd5 hb5
    by_cases hs : 0 ≤ f ∧ f < nb
    · obtain ⟨hs1, hs2⟩ := hs
      have hE := HFE.out (by rw [HSE.out, decide_eq_true_eq]; exact ⟨hs1, hs2⟩)
      have HE := Lib.hid hE
      rw [hE.1]
      have FT : Hid ((((r2D A).fuseD f).renewD B).Fits) := by
        show _ ≤ _
        rw [hE.2.2.1, hE.2.2.2, HLA.out]; omega
      clear hE
      go_wp2_with fail
      refine (crash_any w5 g g _ 9999 1 (by decide) D5.out FT.out).mono ?_
      rintro y w6 ⟨rfl, hd6, hb6⟩
      have D6 := Lib.hid hd6
      have B6 := Lib.hid (B5.out.trans (hb6.mono HAg.out))
      clear hd6 hb6
      go_wp2_with fail
      refine (up_any w6 g g _ D6.out (crash_fits FT.out _ _)).mono ?_
      rintro y w7 ⟨rfl, hd7, hb7⟩
      rw [HE.out.2.1] at hd7
      have D7 := Lib.hid hd7
      have B7 := Lib.hid (B6.out.trans (hb7.mono HAg.out))
      have hs7 : Hid (WA.heap.size ≤ w7.heap.size) := B7.out.size
      clear hd7 hb7
      go_wp2_with fail
      refine (dread_any w7 g g _ D7.out).mono ?_
      rintro y w8 ⟨v8, rfl, ho8, _, hb8⟩
      rw [show (r2D A).readE = 0 from rfl]
      have hrd : (r2D A).readD = A := List.append_nil _
      rw [hrd] at ho8
      obtain ⟨p8, c8, hv8⟩ := ho8.form
      rw [HLA.out] at hv8
      subst hv8
      have B8 := Lib.hid (B7.out.trans (hb8.mono hs7.out))
      have k8 := conv_row (P := Try.prog) w8 59 9 5 Try.underlying59 Try.underlying5 Try.underlying9 _ _ ho8.row
      have kA := conv_row (P := Try.prog) w8 59 9 5 Try.underlying59 Try.underlying5 Try.underlying9 _ _ (RA.out.under (HWW.out w8 B8.out) (Nat.le_refl _))
      have kB := conv_row (P := Try.prog) w8 59 9 5 Try.underlying59 Try.underlying5 Try.underlying9 _ _ (RB.out.under (HWW.out w8 B8.out) (Nat.le_refl _))
      
      have F8 := Lib.hid (HWW.out w8 B8.out)
      clear ho8 hb8 hrd
      go_wp2_with fail
      go_ret
      exact ⟨rfl, F8.out⟩
    · have hE := HKE.out (by rw [HSE.out, decide_eq_false_iff_not]; exact hs)
      have HE := Lib.hid hE
      rw [hE.1]
      have hd5 := D5.out
      rw [hE.2] at hd5
      have D5b := Lib.hid hd5
      clear hE hd5 D5
      have hs3 : f < 0 ∨ 0 ≤ f ∧ (nb : Int) ≤ f := by omega
      clear hs
      have FT : Hid ((⟨5000, A, B, true, false, spendL f nb⟩ : DSt).Fits) := by
        show A.length ≤ 5000
        rw [HLA.out]; omega
      cases sy
      · rcases hs3 with hs3 | ⟨hs3, hs4⟩
        all_goals
          go_wp2_with fail
          refine (crash_any w5 g g _ 9999 1 (by decide) D5b.out FT.out).mono ?_
          rintro y w6 ⟨rfl, hd6, hb6⟩
          have D6 := Lib.hid hd6
          have B6 := Lib.hid (B5.out.trans (hb6.mono HAg.out))
          clear hd6 hb6
          go_wp2_with fail
          refine (up_any w6 g g _ D6.out (crash_fits FT.out _ _)).mono ?_
          rintro y w7 ⟨rfl, hd7, hb7⟩
          rw [r_no] at hd7
          have D7 := Lib.hid hd7
          have B7 := Lib.hid (B6.out.trans (hb7.mono HAg.out))
          have hs7 : Hid (WA.heap.size ≤ w7.heap.size) := B7.out.size
          clear hd7 hb7
          go_wp2_with fail
          refine (dread_any w7 g g _ D7.out).mono ?_
          rintro y w8 ⟨v8, rfl, ho8, _, hb8⟩
          rw [show (r2D A).readE = 0 from rfl]
          have hrd : (r2D A).readD = A := List.append_nil _
          rw [hrd] at ho8
          obtain ⟨p8, c8, hv8⟩ := ho8.form
          rw [HLA.out] at hv8
          subst hv8
          have B8 := Lib.hid (B7.out.trans (hb8.mono hs7.out))
          have k8 := conv_row (P := Try.prog) w8 59 9 5 Try.underlying59 Try.underlying5 Try.underlying9 _ _ ho8.row
          have kA := conv_row (P := Try.prog) w8 59 9 5 Try.underlying59 Try.underlying5 Try.underlying9 _ _ (RA.out.under (HWW.out w8 B8.out) (Nat.le_refl _))
          have kB := conv_row (P := Try.prog) w8 59 9 5 Try.underlying59 Try.underlying5 Try.underlying9 _ _ (RB.out.under (HWW.out w8 B8.out) (Nat.le_refl _))
          
          have F8 := Lib.hid (HWW.out w8 B8.out)
          clear ho8 hb8 hrd
          go_wp2_with fail
          go_ret
          exact ⟨rfl, F8.out⟩
      · rcases hs3 with hs3 | ⟨hs3, hs4⟩
        all_goals
          go_wp2_with fail
          refine (sync_any w5 g g _ D5b.out).mono ?_
          rintro y w5b ⟨rfl, hd5, hb5⟩
          rw [show (⟨5000, A, B, true, false, spendL f nb⟩ : DSt).syncE = 0 from rfl]
          have D5c := Lib.hid hd5
          have B5b := Lib.hid (B5.out.trans (hb5.mono HAg.out))
          have FS : Hid ((⟨5000, A, B, true, false, spendL f nb⟩ : DSt).syncD.Fits) := by
            show ([] ++ B).length ≤ 5000
            rw [List.nil_append, HLB.out]; omega
          clear hd5 hb5 B5
          have B5 := B5b
          go_wp2_with fail
          refine (crash_any w5b g g _ 9999 1 (by decide) D5c.out FS.out).mono ?_
          rintro y w6 ⟨rfl, hd6, hb6⟩
          have D6 := Lib.hid hd6
          have B6 := Lib.hid (B5.out.trans (hb6.mono HAg.out))
          clear hd6 hb6
          go_wp2_with fail
          refine (up_any w6 g g _ D6.out (crash_fits FS.out _ _)).mono ?_
          rintro y w7 ⟨rfl, hd7, hb7⟩
          rw [r_yes] at hd7
          have D7 := Lib.hid hd7
          have B7 := Lib.hid (B6.out.trans (hb7.mono HAg.out))
          have hs7 : Hid (WA.heap.size ≤ w7.heap.size) := B7.out.size
          clear hd7 hb7
          go_wp2_with fail
          refine (dread_any w7 g g _ D7.out).mono ?_
          rintro y w8 ⟨v8, rfl, ho8, _, hb8⟩
          rw [show (r2D B).readE = 0 from rfl]
          have hrd : (r2D B).readD = B := List.append_nil _
          rw [hrd] at ho8
          obtain ⟨p8, c8, hv8⟩ := ho8.form
          rw [HLB.out] at hv8
          subst hv8
          have B8 := Lib.hid (B7.out.trans (hb8.mono hs7.out))
          have k8 := conv_row (P := Try.prog) w8 59 9 5 Try.underlying59 Try.underlying5 Try.underlying9 _ _ ho8.row
          have kA := conv_row (P := Try.prog) w8 59 9 5 Try.underlying59 Try.underlying5 Try.underlying9 _ _ (RA.out.under (HWW.out w8 B8.out) (Nat.le_refl _))
          have kB := conv_row (P := Try.prog) w8 59 9 5 Try.underlying59 Try.underlying5 Try.underlying9 _ _ (RB.out.under (HWW.out w8 B8.out) (Nat.le_refl _))
          
          have F8 := Lib.hid (HWW.out w8 B8.out)
          clear ho8 hb8 hrd
          go_wp2_with fail
          go_ret
          exact ⟨rfl, F8.out⟩
  · have hg : (1000 : Int) < A.length ∨ (A.length : Int) ≤ 1000 ∧ (1000 : Int) < B.length := by omega
    clear h1
    rcases hg with hg | ⟨hg, hg2⟩
    all_goals
      go_enter Try.func10, Try.ntmps10
      go_wp2_with fail
      have HBP := Blk.new W #[.slice pa A.length ca, .slice pb B.length cb] 71
      have HBW := oneB W (.cells #[.slice pa A.length ca, .slice pb B.length cb] 71)
      refine (keeps_any _).mono ?_
      rintro y w0 ⟨rfl, hb0⟩
      have e0 : w0.cell? ⟨W.heap.size, 0, none⟩ = some (.slice pa A.length ca) := (HBP.below hb0 HBP.lt).cell 0
      have e1 : w0.cell? ⟨W.heap.size, 1, none⟩ = some (.slice pb B.length cb) := (HBP.below hb0 HBP.lt).cell 1
      have HF := Lib.hid (HBW.trans (hb0.mono HBW.size))
      clear HBP HBW hb0
      go_wp2_with fail
      go_region
      go_wp2_with fail
      go_ret
      exact ⟨rfl, HF.out.drew⟩
end Go.Proofs.Ytikpffaompaaiaa
