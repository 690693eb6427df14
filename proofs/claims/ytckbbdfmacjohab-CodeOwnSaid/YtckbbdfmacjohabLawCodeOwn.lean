/- CodeOwn: the walk. -/
import Derived.Test.YtckbbdfmacjohabLawCodeShort
namespace Go.Proofs.Ytckbbdfmacjohab
open Go.RowKit
/-- Each of the first k bytes one more. -/
def bumpTo (zs : List Int) : Nat → List Int
  | 0 => zs
  | k + 1 => (bumpTo zs k).set k (((bumpTo zs k).getD k 0 + 1) % 256)
theorem bumpTo_length (zs : List Int) (k : Nat) : (bumpTo zs k).length = zs.length := by
  induction k with
  | zero => rfl
  | succ k ih => simp [bumpTo, ih]
theorem bumpTo_oct (zs : List Int) (k : Nat) (h : Oct zs) : Oct (bumpTo zs k) := by
  induction k with
  | zero => exact h
  | succ k ih =>
    intro a ha
    rcases List.mem_or_eq_of_mem_set ha with ha | rfl
    · exact ih a ha
    · omega
/-- Own rows that are bumped: the row's block alone changes. -/
def BumpRel (w1 : World) (base g k n c : Nat) (L : List Int) (wr : World) : Prop := Own .u8 wr base 5 (.slice (some ⟨g, 0, none⟩) n c) (bumpTo L k) ∧ Chg g w1 wr
theorem own_text (text : List Int) : bytesE (numL text.length ++ (text ++ [])) 0 = bytesE (numL text.length ++ text) 0 := by rw [List.append_nil]
theorem Rdr.lt0 {w : World} {g g0 : Nat} {zs : List Int} {e : Int} (r : Rdr w g g0 zs e) (h : 0 < zs.length) : g0 < w.heap.size := by
  obtain ⟨v, _, hr, _⟩ := r
  obtain ⟨p, c, _, _, h2⟩ := hr
  rcases h2 with h2 | ⟨o, _, h2⟩
  · rw [h2] at h; simp at h
  · exact World.block_lt_of_cell? w _ (h2 0 h)
theorem own_place {k : IntKind} {w : World} {base : Nat} {e : TypeId} {n c : Nat} {p : Option Addr} {zs : List Int} (h : Own k w base e (.slice p n c) zs) : ∃ gx, (0 < n → p = some ⟨gx, 0, none⟩) ∧ base ≤ gx := by
  by_cases hn : 0 < n
  · obtain ⟨g, hp, hb, _⟩ := h.at_ hn
    exact ⟨g, fun _ => hp, hb⟩
  · exact ⟨base, fun h => absurd h hn, Nat.le_refl _⟩
def BumpRel2 (w1 : World) (base gx k n c : Nat) (p : Option Addr) (L : List Int) (wr : World) : Prop := Own .u8 wr base 5 (.slice p n c) (bumpTo L k) ∧ Chg gx w1 wr
set_option maxHeartbeats 8000000 in
set_option maxRecDepth 100000 in
theorem own_walk (vt : Value) (text : List Int) (W : World) (ot : Oct text) (rt : Row .u8 W vt text) (lt : text.length ≤ 140737488355328) :
    Calls Try.prog 4 #[vt] W fun e W' => e = .returned (.bool true) ∧ Below W.heap.size W W' := by
  obtain ⟨pt, ct, rfl⟩ := rt.shape
  have RT := Lib.hid rt
  clear rt
  by_cases hg : (text.length : Int) ≤ 500
  · have hten := Lib.hid (numL_len (n := (text.length : Int)) (by omega) (by omega))
    have hone : Hid (1 ≤ (numL (text.length : Int)).length) := by
      show 1 ≤ _
      rcases h : numL (text.length : Int) with _ | _
      · exact absurd h (leb_ne _)
      · simp
    go_enter Try.func4, Try.ntmps4
    go_wp2_with fail
    refine (writes_any W).mono ?_
    rintro y w0 ⟨rfl, hb0⟩
    have B0 := Lib.hid hb0
    clear hb0
    go_wp2_with fail
    refine (wbytes_any _ _ [] text w0 (Row.nil_ _ _ 0) (RT.out.under B0.out (Nat.le_refl _)) (by simp; omega)).mono ?_
    rintro y w1 ⟨v1, rfl, ho1, hb1⟩
    rw [List.nil_append] at ho1
    obtain ⟨T, hT⟩ : ∃ T, T = numL (text.length : Int) ++ text := ⟨_, rfl⟩
    have HT := Lib.hid hT
    rw [← hT] at ho1
    have hTl : T.length ≤ 510 := by have := hten.out; rw [hT, List.length_append]; omega
    obtain ⟨p1, c1, rfl⟩ := ho1.form
    have B1 := Lib.hid (B0.out.trans (hb1.mono B0.out.size))
    have O1 := Lib.hid ho1.row
    generalize hm : T.length = m at *
    have HM := Lib.hid hm
    clear ho1 hb1 hm hT
    go_wp2_with fail
    refine (wbytes_any _ _ _ text w1 O1.out (RT.out.under B1.out (Nat.le_refl _)) (by rw [HM.out]; omega)).mono ?_
    rintro y w2 ⟨v2, rfl, ho2, hb2⟩
    rw [HT.out] at ho2
    have e2 : numL (text.length : Int) ++ text ++ (numL (text.length : Int) ++ text) = numL (text.length : Int) ++ (text ++ (numL (text.length : Int) ++ text)) := List.append_assoc _ _ _
    rw [e2] at ho2
    obtain ⟨L, hL⟩ : ∃ L, L = numL (text.length : Int) ++ (text ++ (numL (text.length : Int) ++ text)) := ⟨_, rfl⟩
    have HL := Lib.hid hL
    rw [← hL] at ho2
    have hOct : Oct L := by rw [hL]; exact (numL_oct _).append (ot.append ((numL_oct _).append ot))
    have hlen1 : 1 ≤ L.length := by have := hone.out; rw [hL, List.length_append]; omega
    have hlen2 : L.length ≤ 1020 := by have := hten.out; rw [hL]; simp only [List.length_append]; omega
    obtain ⟨p2, c2, rfl⟩ := ho2.form
    generalize hq : L.length = q at *
    have HQ := Lib.hid hq
    clear hq hL e2
    obtain ⟨g, rfl, hgb, hgl, _⟩ := ho2.at_ (by omega)
    have B2 := Lib.hid (B1.out.trans (hb2.mono B1.out.size))
    have O2 := Lib.hid ho2
    have HG := Lib.hid (Nat.le_trans B1.out.size hgb)
    have HGL := Lib.hid hgl
    clear ho2 hb2 hgb hgl
    go_wp2_with fail
    refine (read_any _ _ w2 O2.out.row (by rw [HQ.out]; omega)).mono ?_
    rintro y w3 ⟨r, r0, rfl, hr3, hr, hr0, hb3⟩
    have B3 := Lib.hid (B2.out.trans (hb3.mono B2.out.size))
    have R3 := Lib.hid hr3
    have O3 := Lib.hid (O2.out.later hb3)
    have G := Lib.hid (Nat.le_trans B2.out.size hr)
    have NE1 : Hid (r ≠ g) := by show _ ≠ _; have := HGL.out; omega
    have NE2 : Hid (r0 ≠ g) := by show _ ≠ _; have := HGL.out; omega
    clear hr3 hr hr0 hb3
    go_wp2_with fail
    go_loopw [21] (fun v wr => ∃ k : Nat, k ≤ q ∧ v = .int .i64 k ∧ Hid (BumpRel w3 w1.heap.size g k q c2 L wr)) (fun v _ => q - (intOf v).toNat)
    case atStart => exact ⟨0, by omega, rfl, Lib.hid ⟨O3.out, Chg.refl _ _⟩⟩
    case round =>
      obtain ⟨k, hk, rfl, HK⟩ := hrel
      by_cases hlt : k < q
      · obtain ⟨hcell, hfree⟩ := HK.out.1.cell k hlt
        have hoct := (bumpTo_oct L k hOct).getD k
        generalize hx : (bumpTo L k).getD k 0 = x at *
        have HX := Lib.hid hx
        clear hx
        go_wp2_with fail
        go_roundw
        case rel => exact ⟨k + 1, by omega, by go_num, Lib.hid ⟨by show Own _ _ _ _ _ ((bumpTo L k).set k (((bumpTo L k).getD k 0 + 1) % 256)); rw [HX.out]; exact HK.out.1.set k _, HK.out.2.set k _⟩⟩
        case measure => simp [intOf]; omega
      · have hkq : (q : Int) ≤ (k : Int) := by omega
        have R4 := Lib.hid (R3.out.chg HK.out.2 NE1.out NE2.out)
        have B4 := Lib.hid (B3.out.trans (HK.out.2.below HG.out B3.out.size))
        have S4 := Lib.hid HK.out.2.size
        have hR0 := Lib.hid (R3.out.lt0 (by rw [HQ.out]; omega))
        have hRl := Lib.hid R3.out.lt
        have HBO := Lib.hid (bytes_of text (numL (text.length : Int) ++ text) (by omega))
        go_wp2_with fail
        refine (bytes_any r r0 L 0 _ R4.out hOct (by rw [HQ.out]; omega)).mono ?_
        rintro y w5 ⟨v5, rfl, ho5, hc5, hr5⟩
        rw [HL.out, HBO.out.2.1] at ho5
        rw [HL.out, HBO.out.1, HBO.out.2.2] at hr5
        obtain ⟨p5, c5, rfl⟩ := ho5.form
        have B5 := Lib.hid (B4.out.trans (hc5.below G.out B4.out.size))
        obtain ⟨gx, hgx, hgxb⟩ := own_place ho5
        have HGX := Lib.hid hgx
        have HGB := Lib.hid hgxb
        have k5 := conv_row (P := Try.prog) w5 22 9 5 Try.underlying22 Try.underlying5 Try.underlying9 _ _ ho5.row
        have kT5 := conv_row (P := Try.prog) w5 22 9 5 Try.underlying22 Try.underlying5 Try.underlying9 _ _ (RT.out.under B5.out (Nat.le_refl _))
        have R5 := Lib.hid hr5
        have O5 := Lib.hid ho5
        have S5 := Lib.hid hc5.size
        clear ho5 hc5 hr5 hgx hgxb
        go_wp2_with fail
        clear k5 kT5
        have HB2 : Hid (bytesE (numL (text.length : Int) ++ text) 0 = 0 ∧ bytesV (numL (text.length : Int) ++ text) 0 = text ∧ bytesR (numL (text.length : Int) ++ text) 0 = []) := by
          have h := bytes_of text [] (by omega)
          rw [List.append_nil] at h
          exact h
        have HO2 : Hid (Oct (numL (text.length : Int) ++ text)) := (numL_oct _).append ot
        have HL2 : Hid ((numL (text.length : Int) ++ text).length ≤ 510) := by show _ ≤ _; have := hten.out; rw [List.length_append]; omega
        generalize hN : text.length = N at *
        have HN := Lib.hid hN
        clear hN
        go_loopw [40] (fun v wq => ∃ j : Nat, j ≤ N ∧ v = .int .i64 j ∧ Hid (BumpRel2 w5 wr.heap.size gx j N c5 p5 text wq)) (fun v _ => N - (intOf v).toNat)
        case atStart => exact ⟨0, by omega, rfl, Lib.hid ⟨O5.out, Chg.refl _ _⟩⟩
        case round =>
          obtain ⟨j, hj, rfl, HJ⟩ := hrel
          by_cases hlt2 : j < N
          · obtain rfl := HGX.out (by omega)
            obtain ⟨hcell, hfree⟩ := HJ.out.1.cell j hlt2
            have hoct := (bumpTo_oct text j ot).getD j
            generalize hx : (bumpTo text j).getD j 0 = x at *
            have HX := Lib.hid hx
            clear hx
            go_wp2_with fail
            go_roundw
            case rel => exact ⟨j + 1, by omega, by go_num, Lib.hid ⟨by show Own _ _ _ _ _ ((bumpTo text j).set j (((bumpTo text j).getD j 0 + 1) % 256)); rw [HX.out]; exact HJ.out.1.set j _, HJ.out.2.set j _⟩⟩
            case measure => simp [intOf]; omega
          · have hjn : (N : Int) ≤ (j : Int) := by omega
            have NE3 : Hid (r ≠ gx) := by show _ ≠ _; have h1 := hRl.out; have h2 := S4.out; have h3 := HGB.out; omega
            have NE4 : Hid (r0 ≠ gx) := by show _ ≠ _; have h1 := hR0.out; have h2 := S4.out; have h3 := HGB.out; omega
            have R6 := Lib.hid (R5.out.chg HJ.out.2 NE3.out NE4.out)
            have B6 := Lib.hid (B5.out.trans (HJ.out.2.below (by have h1 := B4.out.size; have h2 := HGB.out; omega) B5.out.size))
            go_wp2_with fail
            have B6d := Lib.hid B6.out.drew
            have kT := conv_row (P := Try.prog) _ 22 9 5 Try.underlying22 Try.underlying5 Try.underlying9 _ _ (RT.out.under B6d.out (Nat.le_refl _))
            go_region_with (first
              | (go_at_call 15; go_loud (refine (bytes_any r r0 _ 0 _ (by exact R6.out) HO2.out (by have := HL2.out; omega)).mono ?_; rintro y w11 ⟨v11, rfl, ho11, hc11, hr11⟩; rw [HB2.out.2.1] at ho11; rw [HB2.out.1, HB2.out.2.2] at hr11; obtain ⟨p11, c11, hv11⟩ := ho11.form; rw [HN.out] at hv11; subst hv11; have B11 := Lib.hid (B6d.out.trans (hc11.below G.out B6d.out.size)); have k11 := conv_row (P := Try.prog) w11 22 9 5 Try.underlying22 Try.underlying5 Try.underlying9 _ _ ho11.row; have kT11 := conv_row (P := Try.prog) w11 22 9 5 Try.underlying22 Try.underlying5 Try.underlying9 _ _ (RT.out.under B11.out (Nat.le_refl _)); have RB := Lib.hid hr11; clear ho11 hc11 hr11))
              | (go_at_call 11; go_loud (refine (end_any r r0 _ _ _ RB.out (by simp)).mono ?_; rintro y w13 ⟨rfl, hc13, hr13⟩; rw [show endE [] 0 = 0 from rfl] at hr13 ⊢; have B13 := Lib.hid (B11.out.trans (hc13.below G.out B11.out.size)); clear hc13 hr13)))
            all_goals
              go_wp2_with fail
              go_ret
              exact ⟨rfl, B13.out⟩
  · have hg' : (500 : Int) < (text.length : Int) := by omega
    clear hg
    go_enter Try.func4, Try.ntmps4
    go_wp2_with fail
    refine (writes_any W).mono ?_
    rintro y w0 ⟨rfl, hb0⟩
    go_wp2_with fail
    go_ret
    exact ⟨rfl, hb0⟩
end Go.Proofs.Ytckbbdfmacjohab
