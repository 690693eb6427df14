/- DiskDown: the walk. -/
import Derived.Test.YtikpffaompaaiaaLawDiskTorn
import Derived.Test.YtikpffaompaaiaaOpRow
namespace Go.Proofs.Ytikpffaompaaiaa
open Go.RowKit
def w1D (A : List Int) : DSt := ⟨1000, [], A, false, false, -1⟩
def w2D (A : List Int) : DSt := ⟨1000, [], A, false, true, -1⟩
def w3D (A : List Int) : DSt := ⟨1000, A, [], false, false, -1⟩
theorem tornL_all {A : List Int} (h : Oct A) : tornL A A.length 0 = A := by
  unfold tornL
  split
  · rename_i h0; exact (List.length_eq_zero_iff.1 h0).symm
  · rw [List.take_length]
    apply List.ext_getElem?
    intro i
    rw [List.getElem?_set]
    split
    · rename_i h0 h1
      subst h1
      rw [if_pos (by omega), List.getD_eq_getElem?_getD, List.getElem?_eq_getElem (by omega)]
      have := h _ (List.getElem_mem (l := A) (n := A.length - 1) (by omega))
      rw [Option.getD_some, xorI_zero this.1]
    · rfl
theorem dn_one {A : List Int} (h : A.length ≤ 500) : (newD 1000).writeD A = w1D A :=
  (write_calm (d := newD 1000) (zs := A) rfl (by decide) (by show (A.length : Int) ≤ (1000 : Int) - 0 - 0; omega)).1.trans rfl
theorem dn_two {A : List Int} (ho : Oct A) (h : A.length ≤ 500) : (w1D A).crashD 1048576 0 = w2D A := by
  have hk : keepN 1048576 A.length = A.length := by unfold keepN; omega
  show (⟨1000, [], tornL A (keepN 1048576 A.length) 0, false, true, -1⟩ : DSt) = _
  rw [hk, tornL_all ho]; rfl
theorem dn_calls (A zs : List Int) : (w2D A).writeD zs = w2D A ∧ (w2D A).writeE zs.length = 60 ∧ (w2D A).renewD zs = w2D A ∧ (w2D A).renewE zs.length = 60 ∧ (w2D A).syncD = w2D A ∧ (w2D A).syncE = 60 := by
  refine ⟨if_pos (.inl rfl), rfl, if_pos (.inl rfl), rfl, rfl, rfl⟩
set_option maxHeartbeats 4000000 in
set_option maxRecDepth 100000 in
theorem ddown_walk (va vo : Value) (A : List Int) (n : Nat) (f : Nat → OpV) (W : World) (oa : Oct A) (ra : Row .u8 W va A) (_ : A.length ≤ 140737488355328) (ro : OpRow W vo n f) :
    Calls Try.prog 11 #[va, vo] W fun e W' => e = .returned (.bool true) ∧ Below W.heap.size W W' := by
  obtain ⟨pa, ca, rfl⟩ := ra.shape
  obtain ⟨po, co, rfl⟩ := ro.shape
  have RA := Lib.hid ra
  have RO := Lib.hid ro
  have OA := Lib.hid oa
  clear ra ro oa
  by_cases h1 : (A.length : Int) ≤ 500 ∧ (n : Int) ≤ 30
  · obtain ⟨g1, g2⟩ := h1
    have T1 := Lib.hid (dn_one (A := A) (by omega))
    have T2 := Lib.hid (dn_two (A := A) OA.out (by omega))
    have T3 := Lib.hid (dn_calls A)
    generalize hla : A.length = na at *
    have HLA := Lib.hid hla
    clear hla
    go_enter Try.func11, Try.ntmps11
    go_wp2_with fail
    refine (keeps_any W).mono ?_
    rintro y w0 ⟨rfl, hb0⟩
    have B0 := Lib.hid hb0
    have HAg := Lib.hid hb0.size
    clear hb0
    go_wp2_with fail
    refine (new_any 1000 w0).mono ?_
    rintro y w1 ⟨hb1, _, hk1⟩
    obtain ⟨rfl, hd1⟩ := hk1 (by decide)
    have D1 : Hid (Dk w1 w0.heap.size w0.heap.size (newD 1000)) := hd1
    have B1 := Lib.hid (B0.out.trans (hb1.mono HAg.out))
    clear hb1 hk1 hd1
    generalize w0.heap.size = g at *
    have FA := Lib.hid (row_far RA.out B1.out HAg.out)
    go_wp2_with fail
    refine (write_any w1 g g (newD 1000) _ A D1.out OA.out FA.out).mono ?_
    rintro y w2 ⟨rfl, hd2, hb2⟩
    rw [T1.out] at hd2
    have D2 := Lib.hid hd2
    have B2 := Lib.hid (B1.out.trans (hb2.mono HAg.out))
    clear hd2 hb2
    go_wp2_with fail
    refine (crash_any w2 g g (w1D A) 1048576 0 (by decide) D2.out (by show 0 ≤ 1000; decide)).mono ?_
    rintro y w3 ⟨rfl, hd3, hb3⟩
    rw [T2.out] at hd3
    have HR0 : Hid (Dk w3 g g (w2D A) ∧ Below W.heap.size W w3) := ⟨hd3, B2.out.trans (hb3.mono HAg.out)⟩
    clear hd3 hb3
    go_wp2_with fail
    go_loopw [34] (fun i wr => ∃ k : Nat, k ≤ n ∧ i = .int .i64 k ∧ Hid (Dk wr g g (w2D A) ∧ Below W.heap.size W wr)) (fun i _ => n - (intOf i).toNat)
    case atStart => exact ⟨0, by omega, rfl, HR0⟩
    case round =>
      obtain ⟨k, hk, rfl, HK⟩ := hrel
      by_cases hlt : k < n
      · obtain ⟨b, o, q, e, rfl, hbl, hfit, d0, d1, d2, d3, d4⟩ := RO.out.at_ k hlt
        have HB := Lib.hid HK.out.2
        have HDK := Lib.hid HK.out.1
        have c0 := (HB.out.cell (p := ⟨b, o + k * 4, none⟩) hbl).trans d0
        have c1 := (HB.out.cell (p := ⟨b, o + k * 4 + 1, none⟩) hbl).trans d1
        have c2 := (HB.out.cell (p := ⟨b, o + k * 4 + 2, none⟩) hbl).trans d2
        have c3 := (HB.out.cell (p := ⟨b, o + k * 4 + 3, none⟩) hbl).trans d4
        have HDT := Lib.hid d3
        have HOD := Lib.hid hfit.2.2.1
        have HC := Lib.hid (T3.out (f k).data)
        generalize (f k).kind = kd at *
        generalize (f k).n = nn at *
        generalize (f k).data = D at *
        generalize (f k).turn = tt at *
        have HDA := Lib.hid (fun (x : Obj) => HDK.out.later (oneB wr x))
        have HBA := Lib.hid (fun (x : Obj) => HB.out.alloc HB.out.size x)
        have HFA := Lib.hid (fun (x : Obj) => row_far HDT.out (HBA.out x) HAg.out)
        clear d0 d1 d2 d3 d4 hfit hbl HK
        by_cases hk0 : kd = 0
        · subst hk0
          go_wp2_with fail
          refine (write_any _ g g (w2D A) _ D (HDA.out _) HOD.out (HFA.out _)).mono ?_
          rintro y w4 ⟨rfl, hd4, hb4⟩
          rw [HC.out.2.1]
          rw [HC.out.1] at hd4
          have HN : Hid (Dk w4 g g (w2D A) ∧ Below W.heap.size W w4) := ⟨hd4, (HBA.out _).trans (hb4.mono HAg.out)⟩
          clear hd4 hb4
          go_wp2_with fail
          go_roundw
          case rel => exact ⟨k + 1, by omega, by go_num, HN⟩
          case measure => simp [intOf]; omega
        · by_cases hk1 : kd = 1
          · subst hk1
            go_wp2_with fail
            refine (renew_any _ g g (w2D A) _ D (HDA.out _) HOD.out (HFA.out _)).mono ?_
            rintro y w4 ⟨rfl, hd4, hb4⟩
            rw [HC.out.2.2.2.1]
            rw [HC.out.2.2.1] at hd4
            have HN : Hid (Dk w4 g g (w2D A) ∧ Below W.heap.size W w4) := ⟨hd4, (HBA.out _).trans (hb4.mono HAg.out)⟩
            clear hd4 hb4
            go_wp2_with fail
            go_roundw
            case rel => exact ⟨k + 1, by omega, by go_num, HN⟩
            case measure => simp [intOf]; omega
          · by_cases hk2 : kd = 2
            · subst hk2
              go_wp2_with fail
              refine (sync_any _ g g (w2D A) (HDA.out _)).mono ?_
              rintro y w4 ⟨rfl, hd4, hb4⟩
              rw [HC.out.2.2.2.2.2]
              rw [HC.out.2.2.2.2.1] at hd4
              have HN : Hid (Dk w4 g g (w2D A) ∧ Below W.heap.size W w4) := ⟨hd4, (HBA.out _).trans (hb4.mono HAg.out)⟩
              clear hd4 hb4
              go_wp2_with fail
              go_roundw
              case rel => exact ⟨k + 1, by omega, by go_num, HN⟩
              case measure => simp [intOf]; omega
            · have j0 : (kd == 0) = false := by simpa using hk0
              have j1 : (kd == 1) = false := by simpa using hk1
              have j2 : (kd == 2) = false := by simpa using hk2
              have HN : Hid (Dk (wr.alloc (.cells #[.int .i64 kd, .int .i64 nn, .slice q D.length e, .int .u8 tt] 61)) g g (w2D A) ∧ Below W.heap.size W (wr.alloc (.cells #[.int .i64 kd, .int .i64 nn, .slice q D.length e, .int .u8 tt] 61))) := ⟨HDA.out _, HBA.out _⟩
              go_wp2_with fail
              go_roundw
              case rel => exact ⟨k + 1, by omega, by go_num, HN⟩
              case measure => simp [intOf]; omega
      · have hkn : (n : Int) ≤ (k : Int) := by omega
        have HDK := Lib.hid HK.out.1
        have HB := Lib.hid HK.out.2
        clear HK
        go_wp2_with fail
        refine (dread_any wr g g (w2D A) HDK.out).mono ?_
        rintro y w5 ⟨v5, rfl, _, hd5, hb5⟩
        rw [show (w2D A).readE = 60 from rfl]
        have D5 := Lib.hid hd5
        have B5 := Lib.hid (HB.out.trans (hb5.mono HB.out.size))
        clear hd5 hb5
        go_wp2_with fail
        refine (down_any w5 g g (w2D A) D5.out).mono ?_
        rintro y w5b ⟨rfl, rfl⟩
        rw [show (w2D A).dn = true from rfl]
        go_wp2_with fail
        refine (up_any w5 g g (w2D A) D5.out (by show 0 ≤ 1000; decide)).mono ?_
        rintro y w6 ⟨rfl, hd6, hb6⟩
        rw [show (w2D A).upD = w3D A from rfl] at hd6
        have D6 := Lib.hid hd6
        have B6 := Lib.hid (B5.out.trans (hb6.mono HAg.out))
        clear hd6 hb6
        go_wp2_with fail
        refine (dread_any w6 g g (w3D A) D6.out).mono ?_
        rintro y w7 ⟨v7, rfl, ho7, hd7, hb7⟩
        rw [show (w3D A).readE = 0 from rfl]
        have hrd : (w3D A).readD = A := List.append_nil _
        rw [hrd] at ho7
        obtain ⟨p7, c7, hv7⟩ := ho7.form
        rw [HLA.out] at hv7
        subst hv7
        have D7 := Lib.hid hd7
        have B7 := Lib.hid (B6.out.trans (hb7.mono B6.out.size))
        have k7 := conv_row (P := Try.prog) w7 59 9 5 Try.underlying59 Try.underlying5 Try.underlying9 _ _ ho7.row
        have kA := conv_row (P := Try.prog) w7 59 9 5 Try.underlying59 Try.underlying5 Try.underlying9 _ _ (RA.out.under B7.out (Nat.le_refl _))
        clear ho7 hd7 hb7 hrd
        go_wp2_with fail
        refine (sure_any w7 g g (w3D A) D7.out).mono ?_
        rintro y w8 ⟨rfl, rfl⟩
        rw [show (w3D A).S.length = na from HLA.out]
        go_wp2_with fail
        refine (down_any w7 g g (w3D A) D7.out).mono ?_
        rintro y w8 ⟨rfl, rfl⟩
        rw [show (w3D A).dn = false from rfl]
        go_wp2_with fail
        go_ret
        exact ⟨rfl, B7.out⟩
  · have hg : (500 : Int) < A.length ∨ (A.length : Int) ≤ 500 ∧ (30 : Int) < n := by omega
    clear h1
    rcases hg with hg | ⟨hg, hg2⟩
    all_goals
      go_enter Try.func11, Try.ntmps11
      go_wp2_with fail
      refine (keeps_any W).mono ?_
      rintro y w0 ⟨rfl, hb0⟩
      go_wp2_with fail
      go_ret
      exact ⟨rfl, hb0⟩
end Go.Proofs.Ytikpffaompaaiaa
