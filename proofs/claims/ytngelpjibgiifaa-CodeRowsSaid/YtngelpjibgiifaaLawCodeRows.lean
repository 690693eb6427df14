/- CodeRows: the walk. -/
import Derived.Test.YtngelpjibgiifaaWBool
import Derived.Test.YtngelpjibgiifaaAppB
import Derived.Deep.RegionWith
import Derived.Deep.RegionHeld3
namespace Go.Proofs.Ytngelpjibgiifaa
open Go.RowKit
theorem bytes_of' (text ys : List Int) (hl : text.length ≤ 16384) :
    bytesE (numL text.length ++ (text ++ ys)) 0 = 0 ∧ bytesV (numL text.length ++ (text ++ ys)) 0 = text ∧ bytesR (numL text.length ++ (text ++ ys)) 0 = ys := by
  have h1 : -9223372036854775808 ≤ (text.length : Int) := by omega
  have h2 : (text.length : Int) ≤ 9223372036854775807 := by omega
  have ho : ¬ outB (text.length : Int) 0 16384 = true := by unfold outB; simp; omega
  have hE := intE_of (a := 0) (b := 16384) h1 h2 (text ++ ys)
  have hV := intV_of (a := 0) (b := 16384) h1 h2 (text ++ ys)
  rw [if_neg ho] at hE hV
  have hN : bytesN (numL text.length ++ (text ++ ys)) 0 = text.length := by unfold bytesN; rw [hV]; simp
  have hR := numR_of h1 h2 (text ++ ys)
  have hB : bytesE (numL text.length ++ (text ++ ys)) 0 = 0 := by
    unfold bytesE; rw [hN, hR, hE]; unfold takeE; rw [if_neg (by simp), if_neg (by simp)]
  refine ⟨hB, ?_, ?_⟩
  · unfold bytesV; rw [if_pos hB, hN, hR]; exact List.take_left
  · unfold bytesR; rw [if_pos hB, hN, hR]; exact List.drop_left
def WRel (W : World) (E zs : List Int) (bs : List Bool) (k : Nat) (v : Value) (wr : World) : Prop :=
  ∃ pre, Own .u8 wr W.heap.size 5 v pre ∧ pre ++ encFrom (zs.drop k) (bs.drop k) = E ∧ Below W.heap.size W wr
def RRel (W : World) (r r0 : Nat) (zs : List Int) (bs : List Bool) (tail : List Int) (k : Nat) (wr : World) : Prop :=
  Rdr wr r r0 (encFrom (zs.drop k) (bs.drop k) ++ tail) 0 ∧ Below W.heap.size W wr
set_option linter.unusedSimpArgs false in
set_option maxHeartbeats 8000000 in
set_option maxRecDepth 100000 in
theorem rows_walk (vz : Value) (zs : List Int) (vy : Value) (bs : List Bool) (vt : Value) (text : List Int) (W : World) (oz : All64 zs) (rz : Row .i64 W vz zs) (lz : zs.length ≤ 140737488355328) (ry : RowB W vy bs) (ly : bs.length ≤ 9223372036854775807) (ot : Oct text) (rt : Row .u8 W vt text) (lt : text.length ≤ 140737488355328) :
    Calls Try.prog 4 #[vz, vy, vt] W fun e W' => e = .returned (.bool true) ∧ Below W.heap.size W W' := by
  obtain ⟨pz, cz, rfl⟩ := rz.shape
  obtain ⟨py, cy, rfl⟩ := ry.shape
  obtain ⟨pt, ct, rfl⟩ := rt.shape
  have RZ := Lib.hid rz
  have RY := Lib.hid ry
  have RT := Lib.hid rt
  have OZ := Lib.hid oz
  have OT := Lib.hid ot
  clear rz ry rt oz ot
  by_cases h1 : (zs.length : Int) ≤ 100 ∧ (bs.length : Int) ≤ 100 ∧ (text.length : Int) ≤ 5000
  · obtain ⟨g1, g2, g3⟩ := h1
    have HEL := Lib.hid (enc_len zs bs OZ.out)
    have HEO := Lib.hid (enc_oct zs bs)
    have HTEN := Lib.hid (numL_len (n := (text.length : Int)) (by omega) (by omega))
    have HBO := Lib.hid (bytes_of' text [] (by omega))
    generalize hE : encFrom zs bs = E at *
    have HE := Lib.hid hE
    generalize hnz : zs.length = nz at *
    generalize hny : bs.length = ny at *
    generalize hnt : text.length = nt at *
    have HNZ := Lib.hid hnz
    have HNY := Lib.hid hny
    have HNT := Lib.hid hnt
    clear hnz hny hnt hE
    go_enter Try.func4, Try.ntmps4
    go_wp2_with fail
    refine (writes_any W).mono ?_
    rintro y w0 ⟨rfl, hb0⟩
    have HW0 : Hid (WRel W E zs bs 0 (.slice none 0 0) w0) := ⟨[], Own.nil_ _ _ _ _, by simpa using HE.out, hb0⟩
    clear hb0
    go_wp2_with fail
    go_loopw [7, 30] (fun v i wr => ∃ k : Nat, k ≤ nz ∧ i = .int .i64 k ∧ Hid (WRel W E zs bs k v wr)) (fun _ i _ => nz - (intOf i).toNat)
    case atStart => exact ⟨0, by omega, rfl, HW0⟩
    case round =>
      obtain ⟨k, hk, rfl, HK⟩ := hrel
      by_cases hlt : k < nz
      · obtain ⟨pre, hO, hpre, hB⟩ := HK.out
        have HO := Lib.hid hO
        have HPRE := Lib.hid hpre
        have HB := Lib.hid hB
        have hplen : pre.length ≤ 1100 := by
          have h2 : pre.length ≤ E.length := by rw [← hpre, List.length_append]; omega
          have h3 := HEL.out
          omega
        have hkz : k < zs.length := by rw [HNZ.out]; exact hlt
        obtain ⟨b0, o0, hp0, hcz⟩ : ∃ b o, pz = some ⟨b, o, none⟩ ∧ W.cell? ⟨b, o + k, none⟩ = some (.int .i64 (zs.getD k 0)) := by
          obtain ⟨p', c', e, _, h⟩ := RZ.out
          cases e
          rcases h with h | ⟨b, o, hp, h⟩
          · rw [h] at hkz; simp at hkz
          · exact ⟨b, o, hp, h k hkz⟩
        have hcw := (hB.cell (p := ⟨b0, o0 + k, none⟩) (World.block_lt_of_cell? W _ hcz)).trans hcz
        have hfit := OZ.out.getD k
        have HKZ := Lib.hid hkz
        subst hp0
        clear hO hpre hB hcz hkz
        by_cases hy : k < ny
        · have hyb : k < bs.length := by rw [HNY.out]; exact hy
          have HTWO := Lib.hid (enc_two HKZ.out hyb)
          obtain ⟨b1, o1, hp1, hcy⟩ := RY.out.cell k hyb
          have hblt := World.block_lt_of_cell? W _ hcy
          subst hp1
          have HCY := Lib.hid hcy
          have HBLT := Lib.hid hblt
          clear hcy hblt hyb
          generalize zs.getD k 0 = z at *
          generalize bs.getD k false = x at *
          go_wp2_with fail
          refine (wnum_any _ pre z _ HO.out.row (by omega) hfit.1 hfit.2).mono ?_
          rintro y w1 ⟨v1, rfl, ho1, hb1⟩
          have B1 := Lib.hid (HB.out.trans (hb1.mono HB.out.size))
          have O1 := Lib.hid ho1
          have hcy1 := (B1.out.cell (p := ⟨b1, o1 + k, none⟩) HBLT.out).trans HCY.out
          have L1 := Lib.hid (numL_len hfit.1 hfit.2)
          clear ho1 hb1
          go_wp2_with fail
          refine (wbool_any _ _ x w1 O1.out.row (by have := L1.out; rw [List.length_append]; omega)).mono ?_
          rintro y w2 ⟨v2, rfl, ho2, hb2⟩
          have HN2 : Hid (WRel W E zs bs (k + 1) v2 w2) := ⟨_, own_down ho2 (by have := B1.out.size; omega), by have h := HPRE.out; rw [HTWO.out] at h; simpa using h, B1.out.trans (hb2.mono B1.out.size)⟩
          clear ho2 hb2
          go_wp2_with fail
          go_roundw
          case rel => exact ⟨k + 1, by omega, by go_num, HN2⟩
          case measure => simp [intOf]; omega
        · have hyb : ¬ k < bs.length := by rw [HNY.out]; exact hy
          have HTWO := Lib.hid (enc_one HKZ.out hyb)
          have hny2 : (ny : Int) ≤ (k : Int) := by omega
          clear hyb hy
          generalize zs.getD k 0 = z at *
          go_wp2_with fail
          refine (wnum_any _ pre z _ HO.out.row (by omega) hfit.1 hfit.2).mono ?_
          rintro y w1 ⟨v1, rfl, ho1, hb1⟩
          have HN2 : Hid (WRel W E zs bs (k + 1) v1 w1) := ⟨_, own_down ho1 HB.out.size, by have h := HPRE.out; rw [HTWO.out] at h; simpa using h, HB.out.trans (hb1.mono HB.out.size)⟩
          clear ho1 hb1
          go_wp2_with fail
          go_roundw
          case rel => exact ⟨k + 1, by omega, by go_num, HN2⟩
          case measure => simp [intOf]; omega
      · have hkz : (nz : Int) ≤ (k : Int) := by omega
        obtain ⟨pre, hO, hpre, hB⟩ := HK.out
        rw [enc_done (by rw [HNZ.out]; omega), List.append_nil] at hpre
        have HPL : Hid (pre.length ≤ 1100) := by show _ ≤ _; rw [hpre]; have := HEL.out; omega
        have HPRE := Lib.hid hpre
        have HO := Lib.hid hO
        have HB := Lib.hid hB
        clear hO hpre hB
        go_wp2_with fail
        refine (wbytes_any _ _ pre text _ HO.out.row (RT.out.under HB.out (Nat.le_refl _)) (by have := HPL.out; rw [HNT.out]; omega)).mono ?_
        rintro y w1 ⟨v1, rfl, ho1, hb1⟩
        rw [HPRE.out, HNT.out] at ho1
        have B1 := Lib.hid (HB.out.trans (hb1.mono HB.out.size))
        have O1 := Lib.hid ho1.row
        have HLT : Hid ((E ++ (numL (nt : Int) ++ text)).length ≤ 7000) := by
          show _ ≤ _
          have h1 := HTEN.out
          have h2 := HEL.out
          have h3 := HNT.out
          simp only [List.length_append]; omega
        have HOC : Hid (Oct (E ++ (numL (nt : Int) ++ text))) := HEO.out.append ((numL_oct _).append OT.out)
        clear ho1 hb1
        go_wp2_with fail
        refine (read_any _ _ w1 O1.out (by have := HLT.out; omega)).mono ?_
        rintro y w2 ⟨r, r0, rfl, hr2, hr, _, hb2⟩
        have G := Lib.hid (Nat.le_trans B1.out.size hr)
        have HR0 : Hid (RRel W r r0 zs bs (numL (nt : Int) ++ text) 0 w2) := ⟨by rw [List.drop_zero, List.drop_zero, HE.out]; exact hr2, B1.out.trans (hb2.mono B1.out.size)⟩
        clear hr2 hr hb2
        go_wp2_with fail
        have HB2 : Hid (bytesE (numL (nt : Int) ++ text) 0 = 0 ∧ bytesV (numL (nt : Int) ++ text) 0 = text ∧ bytesR (numL (nt : Int) ++ text) 0 = []) := by
          have h := HBO.out
          rw [List.append_nil] at h
          exact h
        have HO2 : Hid (Oct (numL (nt : Int) ++ text)) := (numL_oct _).append OT.out
        have HL2 : Hid ((numL (nt : Int) ++ text).length ≤ 5010) := by show _ ≤ _; have h1 := HTEN.out; have h2 := HNT.out; rw [List.length_append]; omega
        have HENC : Hid (∀ k, (encFrom (zs.drop k) (bs.drop k)).length ≤ 1100) := by
          show ∀ k, _ ≤ _
          intro k
          have h1 := enc_len (zs.drop k) (bs.drop k) (fun a ha => OZ.out a (List.mem_of_mem_drop ha))
          have h2 := HNZ.out
          rw [List.length_drop] at h1; omega
        generalize hTL : numL (nt : Int) ++ text = tail at *
        clear hTL
        go_loopw [56] (fun i wr => ∃ k : Nat, k ≤ nz ∧ i = .int .i64 k ∧ Hid (RRel W r r0 zs bs tail k wr)) (fun i _ => nz - (intOf i).toNat)
        case atStart => exact ⟨0, by omega, rfl, HR0⟩
        case round =>
          obtain ⟨k2, hk2, rfl, HK2⟩ := hrel
          by_cases hlt2 : k2 < nz
          · have hkz2 : k2 < zs.length := by rw [HNZ.out]; exact hlt2
            obtain ⟨b0, o0, hp0, hcz⟩ : ∃ b o, pz = some ⟨b, o, none⟩ ∧ W.cell? ⟨b, o + k2, none⟩ = some (.int .i64 (zs.getD k2 0)) := by
              obtain ⟨p', c', e, _, h⟩ := RZ.out
              cases e
              rcases h with h | ⟨b, o, hp, h⟩
              · rw [h] at hkz2; simp at hkz2
              · exact ⟨b, o, hp, h k2 hkz2⟩
            have hcw := (HK2.out.2.cell (p := ⟨b0, o0 + k2, none⟩) (World.block_lt_of_cell? W _ hcz)).trans hcz
            have hfit := OZ.out.getD k2
            have HZLT := Lib.hid (World.block_lt_of_cell? W _ hcz)
            have HCZ := Lib.hid hcz
            subst hp0
            by_cases hy : k2 < ny
            · have hyb : k2 < bs.length := by rw [HNY.out]; exact hy
              have htwo := enc_two hkz2 hyb
              obtain ⟨b1, o1, hp1, hcy⟩ := RY.out.cell k2 hyb
              have HBLT := Lib.hid (World.block_lt_of_cell? W _ hcy)
              subst hp1
              have HCY := Lib.hid hcy
              have HENK := HENC.out (k2 + 1)
              have hrest := HK2.out.1
              rw [htwo] at hrest
              have HEO2 := Lib.hid (enc_oct (zs.drop (k2 + 1)) (bs.drop (k2 + 1)))
              clear hcy hyb hcz hkz2 htwo
              generalize zs.getD k2 0 = z at *
              generalize bs.getD k2 false = x at *
              rw [List.append_assoc, List.cons_append] at hrest
              have HKE : Hid (∀ wq, Rdr wq r r0 (encFrom (zs.drop (k2 + 1)) (bs.drop (k2 + 1)) ++ tail) 0 → Below W.heap.size W wq → RRel W r r0 zs bs tail (k2 + 1) wq) := fun wq h1 h2 => ⟨h1, h2⟩
              generalize encFrom (zs.drop (k2 + 1)) (bs.drop (k2 + 1)) = en at *
              have R3 := Lib.hid hrest
              have B3 := Lib.hid HK2.out.2
              have L3 : Hid ((numL z ++ (bitI x :: (en ++ tail))).length ≤ 9000) := by
                show _ ≤ _
                have h1 := numL_len hfit.1 hfit.2
                have h2 := HL2.out
                simp only [List.length_append, List.length_cons]; omega
              have O3 : Hid (Oct (bitI x :: (en ++ tail))) := by
                intro a ha
                rcases List.mem_cons.1 ha with rfl | ha
                · exact bit_oct x
                · exact (HEO2.out.append HO2.out) a ha
              have HBL := Lib.hid (bool_of x (en ++ tail))
              have HNE := Lib.hid (numE_of hfit.1 hfit.2 (bitI x :: (en ++ tail)))
              have HNV := Lib.hid (numV_of hfit.1 hfit.2 (bitI x :: (en ++ tail)))
              have HNR := Lib.hid (numR_of hfit.1 hfit.2 (bitI x :: (en ++ tail)))
              clear hrest
              go_wp2_with fail
              have B3d := Lib.hid B3.out.drew
              have hd : decide (k2 < ny) = true := by rw [decide_eq_true_eq]; exact hy
              have hzz : (z != z) = false := by simp
              have hxx : (x != x) = false := by simp
              have hcyd := (B3d.out.cell (p := ⟨b1, o1 + k2, none⟩) HBLT.out).trans HCY.out
              have hzd := (B3d.out.cell (p := ⟨b0, o0 + k2, none⟩) HZLT.out).trans HCZ.out
              go_region_held3 (fun w' => w'.cell? ⟨b0, o0 + k2, none⟩ = some (.int .i64 z) ∧ w'.cell? ⟨b1, o1 + k2, none⟩ = some (.bool x))
                (first | exact ⟨hzd, hcyd⟩ | exact ⟨hz5, hcy5⟩ | exact ⟨hz6, hcy6⟩ | assumption)
                (first
                | (go_at_call 14; refine (num_any r r0 _ 0 _ (by exact R3.out) ((numL_oct z).append O3.out) (by have := L3.out; omega)).mono ?_; rintro y w5 ⟨rfl, hc5, hr5⟩; rw [HNV.out]; rw [HNE.out, HNR.out] at hr5; have B5 := Lib.hid (B3d.out.trans (hc5.below G.out B3d.out.size)); have R5 := Lib.hid hr5; have hcy5 := (B5.out.cell (p := ⟨b1, o1 + k2, none⟩) HBLT.out).trans HCY.out; have hz5 := (B5.out.cell (p := ⟨b0, o0 + k2, none⟩) HZLT.out).trans HCZ.out; clear hc5 hr5)
                | (go_at_call 18; refine (bool_any r r0 _ 0 _ R5.out O3.out (by have h := L3.out; rw [List.length_append] at h; omega)).mono ?_; rintro y w6 ⟨rfl, hc6, hr6⟩; rw [HBL.out.2.1]; rw [HBL.out.1, HBL.out.2.2] at hr6; have B6 := Lib.hid (B5.out.trans (hc6.below G.out B5.out.size)); have HN6 := Lib.hid (HKE.out _ hr6 B6.out); have hcy6 := (B6.out.cell (p := ⟨b1, o1 + k2, none⟩) HBLT.out).trans HCY.out; have hz6 := (B6.out.cell (p := ⟨b0, o0 + k2, none⟩) HZLT.out).trans HCZ.out; clear hc6 hr6))
              all_goals
                go_wp2_with fail
                go_roundw
                case rel => exact ⟨k2 + 1, by omega, by go_num, HN6⟩
                case measure => simp [intOf]; omega
            · have hyb : ¬ k2 < bs.length := by rw [HNY.out]; exact hy
              have htwo := enc_one hkz2 hyb
              have HENK := HENC.out (k2 + 1)
              have hrest := HK2.out.1
              rw [htwo, List.append_assoc] at hrest
              have HEO2 := Lib.hid (enc_oct (zs.drop (k2 + 1)) (bs.drop (k2 + 1)))
              have HKE : Hid (∀ wq, Rdr wq r r0 (encFrom (zs.drop (k2 + 1)) (bs.drop (k2 + 1)) ++ tail) 0 → Below W.heap.size W wq → RRel W r r0 zs bs tail (k2 + 1) wq) := fun wq h1 h2 => ⟨h1, h2⟩
              generalize encFrom (zs.drop (k2 + 1)) (bs.drop (k2 + 1)) = en at *
              generalize zs.getD k2 0 = z at *
              have hny2 : (ny : Int) ≤ (k2 : Int) := by omega
              have R3 := Lib.hid hrest
              have B3 := Lib.hid HK2.out.2
              have L3 : Hid ((numL z ++ (en ++ tail)).length ≤ 9000) := by
                show _ ≤ _
                have h1 := numL_len hfit.1 hfit.2
                have h2 := HL2.out
                simp only [List.length_append]; omega
              have O3 : Hid (Oct (en ++ tail)) := HEO2.out.append HO2.out
              have HON : Hid (Oct (numL z ++ (en ++ tail))) := (numL_oct z).append O3.out
              have HLN : Hid ((numL z ++ (en ++ tail)).length ≤ 9223372036854775000) := by show _ ≤ _; have := L3.out; omega
              have HNE := Lib.hid (numE_of hfit.1 hfit.2 (en ++ tail))
              have HNV := Lib.hid (numV_of hfit.1 hfit.2 (en ++ tail))
              have HNR := Lib.hid (numR_of hfit.1 hfit.2 (en ++ tail))
              clear hrest hyb hcz hkz2 htwo hy
              go_wp2_with fail
              have B3d := Lib.hid B3.out.drew
              have hd : decide (k2 < ny) = false := by rw [decide_eq_false_iff_not]; omega
              have hzz : (z != z) = false := by simp
              have hzd := (B3d.out.cell (p := ⟨b0, o0 + k2, none⟩) HZLT.out).trans HCZ.out
              refine wp_region_held_drew (S := fun _ => True) (by kernel_rfl) trivial (fun _ => ?_)
              refine wpAnyH_take (i := 0) (v := ?_) rfl (by kernel_rfl) (by kernel_rfl) (by kernel_rfl) (fun _ _ _ h => h) (Or.inl ⟨by kernel_rfl, ?_⟩) trivial ?_
              rotate_left
              · intro w hSw
                first | (go_simp; done) | (go_simp; with_reducible rfl)
              try simp only [Act.put, List.setIfInBounds_toArray, List.set_cons_zero, List.set_cons_succ]
              refine wpAnyH_take (i := 2) (v := ?_) rfl (by kernel_rfl) (by kernel_rfl) (by kernel_rfl) (fun _ _ _ h => h) (Or.inl ⟨by kernel_rfl, ?_⟩) trivial ?_
              rotate_left
              · intro w hSw
                first | (go_simp; done) | (go_simp; with_reducible rfl)
              try simp only [Act.put, List.setIfInBounds_toArray, List.set_cons_zero, List.set_cons_succ]
              refine wpAnyH_ready (rs := [1]) (by kernel_rfl) (by simp) ?_
              refine AllReadyH.cons rfl (fun K hK => ?_) AllReadyH.nil
              go_simp
              go_at_call 14
              refine (num_any r r0 _ 0 _ (by exact R3.out) HON.out HLN.out).mono ?_
              rintro y w5 ⟨rfl, hc5, hr5⟩
              rw [HNV.out]
              rw [HNE.out, HNR.out] at hr5
              have B5 := Lib.hid (B3d.out.trans (hc5.below G.out B3d.out.size))
              have HN6 := Lib.hid (HKE.out _ hr5 B5.out)
              clear hc5 hr5
              try go_wp2_with fail
              refine hK.out _ _ trivial (fun _ => ?_)
              clear hK K
              try simp only [Act.put, List.setIfInBounds_toArray, List.set_cons_zero, List.set_cons_succ]
              refine wpAnyH_take (i := 3) (v := ?_) rfl (by kernel_rfl) (by kernel_rfl) (by kernel_rfl) (fun _ _ _ h => h) (Or.inl ⟨by kernel_rfl, ?_⟩) trivial ?_
              rotate_left
              · intro w hSw
                first | (go_simp; done) | (go_simp; with_reducible rfl)
              try simp only [Act.put, List.setIfInBounds_toArray, List.set_cons_zero, List.set_cons_succ]
              refine wpAnyH_take (i := 4) (v := ?_) rfl (by kernel_rfl) (by kernel_rfl) (by kernel_rfl) (fun _ _ _ h => h) (Or.inl ⟨by kernel_rfl, ?_⟩) trivial ?_
              rotate_left
              · intro w hSw
                first | (go_simp; done) | (go_simp; with_reducible rfl)
              try simp only [Act.put, List.setIfInBounds_toArray, List.set_cons_zero, List.set_cons_succ]
              refine wpAnyH_take (i := 5) (v := ?_) rfl (by kernel_rfl) (by kernel_rfl) (by kernel_rfl) (fun _ _ _ h => h) (Or.inl ⟨by kernel_rfl, ?_⟩) trivial ?_
              rotate_left
              · intro w hSw
                first | (go_simp; done) | (go_simp; with_reducible rfl)
              try simp only [Act.put, List.setIfInBounds_toArray, List.set_cons_zero, List.set_cons_succ]
              refine wpAnyH_take (i := 6) (v := ?_) rfl (by kernel_rfl) (by kernel_rfl) (by kernel_rfl) (fun _ _ _ h => h) (Or.inl ⟨by kernel_rfl, ?_⟩) trivial ?_
              rotate_left
              · intro w hSw
                first | (go_simp; done) | (go_simp; with_reducible rfl)
              try simp only [Act.put, List.setIfInBounds_toArray, List.set_cons_zero, List.set_cons_succ]
              refine wpAnyH_take (i := 7) (v := ?_) rfl (by kernel_rfl) (by kernel_rfl) (by kernel_rfl) (fun _ _ _ h => h) (Or.inl ⟨by kernel_rfl, ?_⟩) trivial ?_
              rotate_left
              · intro w hSw
                first | (go_simp; done) | (go_simp; with_reducible rfl)
              try simp only [Act.put, List.setIfInBounds_toArray, List.set_cons_zero, List.set_cons_succ]
              refine wpAnyH_take (i := 8) (v := ?_) rfl (by kernel_rfl) (by kernel_rfl) (by kernel_rfl) (fun _ _ _ h => h) (Or.inl ⟨by kernel_rfl, ?_⟩) trivial ?_
              rotate_left
              · intro w hSw
                first | (go_simp; done) | (go_simp; with_reducible rfl)
              try simp only [Act.put, List.setIfInBounds_toArray, List.set_cons_zero, List.set_cons_succ]
              refine wpAnyH_take (i := 9) (v := ?_) rfl (by kernel_rfl) (by kernel_rfl) (by kernel_rfl) (fun _ _ _ h => h) (Or.inl ⟨by kernel_rfl, ?_⟩) trivial ?_
              rotate_left
              · intro w hSw
                first | (go_simp; done) | (go_simp; with_reducible rfl)
              try simp only [Act.put, List.setIfInBounds_toArray, List.set_cons_zero, List.set_cons_succ]
              have hdI : decide ((k2 : Int) < (ny : Int)) = false := by rw [decide_eq_false_iff_not]; omega
              try simp only [hd]
              try simp only [hdI]
              refine wpAnyH_take (i := 10) (v := undef) rfl (by kernel_rfl) (by kernel_rfl) (by kernel_rfl) (fun _ _ _ h => h) (Or.inr ⟨by kernel_rfl, rfl⟩) trivial ?_
              try simp only [Act.put, List.getElem_toArray, List.getElem_cons_succ, List.getElem_cons_zero, List.setIfInBounds_toArray, List.set_cons_zero, List.set_cons_succ]
              refine wpAnyH_take (i := 11) (v := undef) rfl (by kernel_rfl) (by kernel_rfl) (by kernel_rfl) (fun _ _ _ h => h) (Or.inr ⟨by kernel_rfl, rfl⟩) trivial ?_
              try simp only [Act.put, List.getElem_toArray, List.getElem_cons_succ, List.getElem_cons_zero, List.setIfInBounds_toArray, List.set_cons_zero, List.set_cons_succ]
              refine wpAnyH_take (i := 12) (v := undef) rfl (by kernel_rfl) (by kernel_rfl) (by kernel_rfl) (fun _ _ _ h => h) (Or.inr ⟨by kernel_rfl, rfl⟩) trivial ?_
              try simp only [Act.put, List.getElem_toArray, List.getElem_cons_succ, List.getElem_cons_zero, List.setIfInBounds_toArray, List.set_cons_zero, List.set_cons_succ]
              refine wpAnyH_take (i := 13) (v := undef) rfl (by kernel_rfl) (by kernel_rfl) (by kernel_rfl) (fun _ _ _ h => h) (Or.inr ⟨by kernel_rfl, rfl⟩) trivial ?_
              try simp only [Act.put, List.getElem_toArray, List.getElem_cons_succ, List.getElem_cons_zero, List.setIfInBounds_toArray, List.set_cons_zero, List.set_cons_succ]
              refine wpAnyH_take (i := 14) (v := undef) rfl (by kernel_rfl) (by kernel_rfl) (by kernel_rfl) (fun _ _ _ h => h) (Or.inr ⟨by kernel_rfl, rfl⟩) trivial ?_
              try simp only [Act.put, List.getElem_toArray, List.getElem_cons_succ, List.getElem_cons_zero, List.setIfInBounds_toArray, List.set_cons_zero, List.set_cons_succ]
              refine wpAnyH_take (i := 15) (v := undef) rfl (by kernel_rfl) (by kernel_rfl) (by kernel_rfl) (fun _ _ _ h => h) (Or.inr ⟨by kernel_rfl, rfl⟩) trivial ?_
              try simp only [Act.put, List.getElem_toArray, List.getElem_cons_succ, List.getElem_cons_zero, List.setIfInBounds_toArray, List.set_cons_zero, List.set_cons_succ]
              refine wpAnyH_take (i := 16) (v := undef) rfl (by kernel_rfl) (by kernel_rfl) (by kernel_rfl) (fun _ _ _ h => h) (Or.inr ⟨by kernel_rfl, rfl⟩) trivial ?_
              try simp only [Act.put, List.getElem_toArray, List.getElem_cons_succ, List.getElem_cons_zero, List.setIfInBounds_toArray, List.set_cons_zero, List.set_cons_succ]
              refine wpAnyH_take (i := 17) (v := ?_) rfl (by kernel_rfl) (by kernel_rfl) (by kernel_rfl) (fun _ _ _ h => h) (Or.inl ⟨by kernel_rfl, ?_⟩) trivial ?_
              rotate_left
              · intro w hSw
                first | (go_simp; done) | (go_simp; with_reducible rfl)
              try simp only [Act.put, List.getElem_toArray, List.getElem_cons_succ, List.getElem_cons_zero, List.setIfInBounds_toArray, List.set_cons_zero, List.set_cons_succ]
              refine wpAnyH_take (i := 18) (v := ?_) rfl (by kernel_rfl) (by kernel_rfl) (by kernel_rfl) (fun _ _ _ h => h) (Or.inl ⟨by kernel_rfl, ?_⟩) trivial ?_
              rotate_left
              · intro w hSw
                first | (go_simp; done) | (go_simp; with_reducible rfl)
              try simp only [Act.put, List.getElem_toArray, List.getElem_cons_succ, List.getElem_cons_zero, List.setIfInBounds_toArray, List.set_cons_zero, List.set_cons_succ]
              refine wpAnyH_done (by kernel_rfl) ?_ _
              all_goals
                go_wp2_with fail
                go_roundw
                case rel => exact ⟨k2 + 1, by omega, by go_num, HN6⟩
                case measure => simp [intOf]; omega
          · have hkn : (nz : Int) ≤ (k2 : Int) := by omega
            have hrest := HK2.out.1
            rw [enc_done (by rw [HNZ.out]; omega), List.nil_append] at hrest
            have R6 := Lib.hid hrest
            have B6 := Lib.hid HK2.out.2
            clear hrest
            go_wp2_with fail
            have B6d := Lib.hid B6.out.drew
            have kT := conv_row (P := Try.prog) _ 22 9 5 Try.underlying22 Try.underlying5 Try.underlying9 _ _ (RT.out.under B6d.out (Nat.le_refl _))
            go_region_with (first
              | (go_at_call 20; go_loud (refine (bytes_any r r0 _ 0 _ (by exact R6.out) HO2.out (by have := HL2.out; omega)).mono ?_; rintro y w11 ⟨v11, rfl, ho11, hc11, hr11⟩; rw [HB2.out.2.1] at ho11; rw [HB2.out.1, HB2.out.2.2] at hr11; obtain ⟨p11, c11, hv11⟩ := ho11.form; rw [HNT.out] at hv11; subst hv11; have B11 := Lib.hid (B6d.out.trans (hc11.below G.out B6d.out.size)); have k11 := conv_row (P := Try.prog) w11 22 9 5 Try.underlying22 Try.underlying5 Try.underlying9 _ _ ho11.row; have kT11 := conv_row (P := Try.prog) w11 22 9 5 Try.underlying22 Try.underlying5 Try.underlying9 _ _ (RT.out.under B11.out (Nat.le_refl _)); have RB := Lib.hid hr11; clear ho11 hc11 hr11))
              | (go_at_call 24; go_loud (refine (end_any r r0 _ _ _ RB.out (by simp)).mono ?_; rintro y w13 ⟨rfl, hc13, hr13⟩; rw [show endE [] 0 = 0 from rfl] at hr13 ⊢; have B13 := Lib.hid (B11.out.trans (hc13.below G.out B11.out.size)); clear hc13 hr13)))
            all_goals
              go_wp2_with fail
              go_ret
              exact ⟨rfl, B13.out⟩
  · have hg : (100 : Int) < zs.length ∨ (zs.length : Int) ≤ 100 ∧ (100 : Int) < bs.length ∨ (zs.length : Int) ≤ 100 ∧ (bs.length : Int) ≤ 100 ∧ (5000 : Int) < text.length := by omega
    clear h1
    rcases hg with hg | ⟨hg, hg2⟩ | ⟨hg, hg2, hg3⟩
    all_goals
      go_enter Try.func4, Try.ntmps4
      go_wp2_with fail
      refine (writes_any W).mono ?_
      rintro y w0 ⟨rfl, hb0⟩
      go_wp2_with fail
      go_ret
      exact ⟨rfl, hb0⟩
end Go.Proofs.Ytngelpjibgiifaa
