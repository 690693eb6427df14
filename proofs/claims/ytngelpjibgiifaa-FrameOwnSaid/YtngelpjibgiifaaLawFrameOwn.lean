/- FrameOwn: the walk. -/
import Derived.Test.YtngelpjibgiifaaFrameHead
import Derived.Test.YtngelpjibgiifaaBump
namespace Go.Proofs.Ytngelpjibgiifaa
open Go.RowKit
set_option maxHeartbeats 8000000 in
set_option maxRecDepth 100000 in
theorem fown_walk (vt : Value) (text : List Int) (W : World) (ot : Oct text) (rt : Row .u8 W vt text) (lt : text.length ≤ 140737488355328) :
    Calls Try.prog 10 #[vt] W fun e W' => e = .returned (.bool true) ∧ Below W.heap.size W W' := by
  obtain ⟨pt, ct, rfl⟩ := rt.shape
  have RT := Lib.hid rt
  clear rt
  by_cases hg : (text.length : Int) ≤ 500
  · have HRR := Lib.hid (rec_read ot (by omega) [])
    rw [List.append_nil] at HRR
    have HRL := Lib.hid (recL_length text)
    have HRO := Lib.hid (recL_oct ot (by omega))
    generalize hN : text.length = N at *
    have HN := Lib.hid hN
    clear hN
    go_enter Try.func10, Try.ntmps10
    go_wp2_with fail
    refine (records_any W).mono ?_
    rintro y w0 ⟨rfl, hb0⟩
    have B0 := Lib.hid hb0
    have O0 := Lib.hid (Own.made_at .u8 w0 w0.heap.size w0.heap.size 5 (Nat.le_refl _) rfl)
    clear hb0
    go_wp2_with (at_builtin; go_loud (refine wpList_append_row rfl _ _ 22 rfl 5 .u8 1 w0.heap.size elt8 _ _ [] text rfl rfl O0.out (RT.out.under (B0.out.trans (oneB w0 _ |>.mono B0.out.size)) (Nat.le_refl _)) (by have := HN.out; simp; omega) (by have := HN.out; simp; omega) (by simp) text N rfl HN.out ?_; intro p1 c1 w1 ho1 hb1; have O1 := Lib.hid ho1; have B1 := Lib.hid (B0.out.trans ((oneB w0 (.cells #[] 5)).trans hb1 |>.mono B0.out.size)); have S1 : Hid (w0.heap.size < w1.heap.size) := (by have := hb1.size; show _ < _; simp at this; omega); clear ho1 hb1))
    refine (fapp_any (.slice none 0 0) _ [] text ot (by simp; have := HN.out; omega) w1 (Row.nil_ _ _ _) O1.out.row).mono ?_
    rintro y w2 ⟨hb2, _, hk2⟩
    obtain ⟨v2, rfl, ho2⟩ := hk2 (by have := HN.out; omega)
    rw [List.nil_append] at ho2
    obtain ⟨p2, c2, rfl⟩ := ho2.form
    obtain ⟨g, rfl, hgb, hgl, _⟩ := ho2.at_ (by rw [HRL.out]; omega)
    have B2 := Lib.hid (B1.out.trans (hb2.mono B1.out.size))
    have O2 := Lib.hid ho2
    have S2 := Lib.hid hb2.size
    have HGB := Lib.hid hgb
    have HGL := Lib.hid hgl
    have O1b := Lib.hid (O1.out.later hb2)
    have hs1 : w0.heap.size < w1.heap.size := S1.out
    obtain ⟨gx, hgx, hgxb, hgxl⟩ := own_place2 O1.out hs1
    have NE1 : Hid (g ≠ gx) := by show _ ≠ _; omega
    have HGX := Lib.hid hgx
    have HGXB := Lib.hid hgxb
    clear hb2 hk2 ho2 hgb hgl hgx hgxb hgxl hs1
    go_wp2_with fail
    go_loopw [29] (fun v wr => ∃ k : Nat, k ≤ N ∧ v = .int .i64 k ∧ Hid (BumpRel2 w2 w0.heap.size gx k N c1 p1 text wr)) (fun v _ => N - (intOf v).toNat)
    case atStart => exact ⟨0, by omega, rfl, Lib.hid ⟨O1b.out, Chg.refl _ _⟩⟩
    case round =>
      obtain ⟨k, hk, rfl, HK⟩ := hrel
      by_cases hlt : k < N
      · obtain rfl := HGX.out (by omega)
        obtain ⟨hcell, hfree⟩ := HK.out.1.cell k hlt
        have hoct := (bumpTo_oct text k ot).getD k
        generalize hx : (bumpTo text k).getD k 0 = x at *
        have HX := Lib.hid hx
        clear hx
        go_wp2_with fail
        go_roundw
        case rel => exact ⟨k + 1, by omega, by go_num, Lib.hid ⟨by show Own _ _ _ _ _ ((bumpTo text k).set k (((bumpTo text k).getD k 0 + 1) % 256)); rw [HX.out]; exact HK.out.1.set k _, HK.out.2.set k _⟩⟩
        case measure => simp [intOf]; omega
      · have hkq : (N : Int) ≤ (k : Int) := by omega
        have O3 := Lib.hid (O2.out.chg HK.out.2 NE1.out)
        have B3 := Lib.hid (B2.out.trans (HK.out.2.below (Nat.le_trans B0.out.size HGXB.out) B2.out.size))
        go_wp2_with fail
        refine (fread_any _ (recL text) HRO.out (by rw [HRL.out]; omega) wr O3.out.row).mono ?_
        rintro y w4 ⟨v4, rfl, ho4, hb4⟩
        rw [HRR.out.2.1] at ho4
        rw [HRR.out.1, HRR.out.2.2]
        obtain ⟨p4, c4, hv4⟩ := ho4.form
        rw [HN.out] at hv4
        subst hv4
        obtain ⟨gz, hgz, hgzb⟩ := own_place ho4
        have HGZ := Lib.hid hgz
        have NE2 : Hid (g ≠ gz) := by show _ ≠ _; have h1 := O3.out.lt g rfl; omega
        have HGZB : Hid (W.heap.size ≤ gz) := Nat.le_trans B3.out.size hgzb
        have B4 := Lib.hid (B3.out.trans (hb4.mono B3.out.size))
        have O4 := Lib.hid ho4
        have OB4 := Lib.hid (O3.out.later hb4)
        clear hb4 ho4 hgz hgzb
        go_wp2_with fail
        go_loopw [47] (fun v wq => ∃ j : Nat, j ≤ N ∧ v = .int .i64 j ∧ Hid (BumpRel2 w4 wr.heap.size gz j N c4 p4 text wq)) (fun v _ => N - (intOf v).toNat)
        case atStart => exact ⟨0, by omega, rfl, Lib.hid ⟨O4.out, Chg.refl _ _⟩⟩
        case round =>
          obtain ⟨j, hj, rfl, HJ⟩ := hrel
          by_cases hlt2 : j < N
          · obtain rfl := HGZ.out (by omega)
            obtain ⟨hcell, hfree⟩ := HJ.out.1.cell j hlt2
            have hoct := (bumpTo_oct text j ot).getD j
            generalize hx : (bumpTo text j).getD j 0 = x at *
            have HX := Lib.hid hx
            clear hx
            go_wp2_with fail
            go_roundw
            case rel => exact ⟨j + 1, by omega, by go_num, Lib.hid ⟨by show Own _ _ _ _ _ ((bumpTo text j).set j (((bumpTo text j).getD j 0 + 1) % 256)); rw [HX.out]; exact HJ.out.1.set j _, HJ.out.2.set j _⟩⟩
            case measure => simp [intOf]; omega
          · have hjn : (N : Int) ≤ (j : Int) := by omega
            have O5 := Lib.hid (OB4.out.chg HJ.out.2 NE2.out)
            have B5 := Lib.hid (B4.out.trans (HJ.out.2.below HGZB.out B4.out.size))
            go_wp2_with fail
            refine (fread_any _ (recL text) HRO.out (by rw [HRL.out]; omega) _ O5.out.row).mono ?_
            rintro y w6 ⟨v6, rfl, ho6, hb6⟩
            rw [HRR.out.2.1] at ho6
            rw [HRR.out.1, HRR.out.2.2]
            obtain ⟨p6, c6, hv6⟩ := ho6.form
            rw [HN.out] at hv6
            subst hv6
            have B6 := Lib.hid (B5.out.trans (hb6.mono B5.out.size))
            have k6 := conv_row (P := Try.prog) w6 22 9 5 Try.underlying22 Try.underlying5 Try.underlying9 _ _ ho6.row
            have kT6 := conv_row (P := Try.prog) w6 22 9 5 Try.underlying22 Try.underlying5 Try.underlying9 _ _ (RT.out.under B6.out (Nat.le_refl _))
            clear hb6 ho6
            have h88 : ((8 : Int) + (N : Int) == (N : Int) + 8) = true := by rw [beq_iff_eq]; omega
            go_wp2_with fail
            go_ret
            exact ⟨rfl, B6.out⟩
  · have hg' : (500 : Int) < (text.length : Int) := by omega
    clear hg
    go_enter Try.func10, Try.ntmps10
    go_wp2_with fail
    refine (records_any W).mono ?_
    rintro y w0 ⟨rfl, hb0⟩
    go_wp2_with fail
    go_ret
    exact ⟨rfl, hb0⟩
end Go.Proofs.Ytngelpjibgiifaa
