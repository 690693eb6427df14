/- contralaw07.fits by contract. -/
import Derived.Test.YtjbhcdmeeakdcaaOp7
namespace Go.Proofs.Ytjbhcdmeeakdcaa
open Go.RowKit
set_option linter.unusedSimpArgs false in
set_option maxHeartbeats 8000000 in
set_option maxRecDepth 100000 in
theorem fits_any (w : World) (v : Value) (n : Nat) (f : Nat → OpW) (hr : OpRowW w v n f) :
    Calls Try.prog 11 #[v] w fun x w' => x = .returned (.bool (fitsB n f)) ∧ Below w.heap.size w w' := by
  obtain ⟨pv, cv, rfl⟩ := hr.shape
  have HR := Lib.hid hr
  clear hr
  by_cases hn : 40 < n
  · have hn' : (40 : Int) < (n : Int) := by omega
    have hE : fitsB n f = false := by unfold fitsB; rw [if_pos hn]
    rw [hE]
    go_enter Try.func11, Try.ntmps11
    go_wp2_with fail
    go_ret
    exact ⟨rfl, Below.refl _ _⟩
  have hn' : ¬ (40 : Int) < (n : Int) := by omega
  have hE : fitsB n f = fitE 0 ((List.range n).map f) := by unfold fitsB; rw [if_neg hn]
  rw [hE]
  clear hE
  generalize hos : (List.range n).map f = os
  have HST : Hid (∀ k, k < n → os.drop k = f k :: os.drop (k + 1)) := fun k hk => by rw [← hos]; exact range_drop n k hk f
  have HEND : Hid (os.drop n = []) := by show _ = _; rw [← hos]; simp
  have HREL : Hid (Below w.heap.size w w ∧ fitE 0 (os.drop 0) = fitE 0 os) := ⟨Below.refl _ _, rfl⟩
  generalize fitE 0 os = ans at *
  clear hos
  go_enter Try.func11, Try.ntmps11
  go_wp2_with fail
  go_loopw [3, 13] (fun s i wr => ∃ k t : Nat, k ≤ n ∧ t ≤ 40000 ∧ s = .int .i64 t ∧ i = .int .i64 k ∧ Hid (Below w.heap.size w wr ∧ fitE t (os.drop k) = ans)) (fun _ i _ => n - (intOf i).toNat)
  case atStart => exact ⟨0, 0, by omega, by omega, rfl, rfl, HREL⟩
  case round =>
    obtain ⟨k, t, hk, ht, rfl, rfl, HK⟩ := hrel
    clear HREL
    by_cases hlt : k < n
    · have hltI : (k : Int) < (n : Int) := by omega
      obtain ⟨hb, ha⟩ := HK.out
      have HB := Lib.hid hb
      obtain ⟨b, o, q, e, r, m, rfl, hbl, hfit, d0, d1, d2, d3, d5, d6, d4⟩ := HR.out.at_ k hlt
      have c0 := (hb.cell (p := ⟨b, o + k * 5, none⟩) hbl).trans d0
      have c1 := (hb.cell (p := ⟨b, o + k * 5 + 1, none⟩) hbl).trans d1
      have c2 := (hb.cell (p := ⟨b, o + k * 5 + 2, none⟩) hbl).trans d2
      have c3 := (hb.cell (p := ⟨b, o + k * 5 + 3, none⟩) hbl).trans d5
      have c4 := (hb.cell (p := ⟨b, o + k * 5 + 4, none⟩) hbl).trans d4
      have HL := Lib.hid (d6.kept hb)
      rw [HST.out k hlt] at ha
      unfold fitE at ha
      have HA := Lib.hid ha
      have HBA := Lib.hid (fun (x : Obj) => HB.out.alloc HB.out.size x)
      generalize (f k).kind = kd at *
      generalize (f k).n = nn at *
      generalize (f k).turn = tt at *
      generalize (f k).data.length = dl at *
      generalize (f k).list = ls at *
      clear d0 d1 d2 d3 d4 d5 d6 hfit hbl hb ha HK
      by_cases hd : 17000 < dl
      · have hdI : (17000 : Int) < (dl : Int) := by omega
        have hA := HA.out
        rw [if_pos (.inl hd)] at hA
        subst hA
        generalize ls.length = ll at *
        clear HA
        go_wp2_with fail
        go_ret
        exact ⟨rfl, HBA.out _⟩
      have hdI : ¬ (17000 : Int) < (dl : Int) := by omega
      by_cases hl : 10 < ls.length
      · have hA := HA.out
        rw [if_pos (.inr hl)] at hA
        subst hA
        generalize ls.length = ll at *
        have hlI : (10 : Int) < (ll : Int) := by omega
        clear HA
        go_wp2_with fail
        go_ret
        exact ⟨rfl, HBA.out _⟩
      have hA := HA.out
      rw [if_neg (by omega)] at hA
      have HA2 := Lib.hid hA
      clear HA hA
      have HBX := Lib.hid (HBA.out (.cells #[.int .i64 kd, .int .i64 nn, .slice q dl e, .slice r ls.length m, .int .u8 tt] 36))
      have HI0 : Hid (inE (t + dl) (ls.drop 0) = inE (t + dl) ls) := rfl
      have HLX : Hid (RowSS (wr.alloc (.cells #[.int .i64 kd, .int .i64 nn, .slice q dl e, .slice r ls.length m, .int .u8 tt] 36)) (.slice r ls.length m) ls) := HL.out.kept (oneB wr _)
      have HLE : Hid (ls.drop ls.length = []) := by show _ = _; simp
      have HLL : Hid (∀ j, (hj : j < ls.length) → ls.drop j = ls.getD j [] :: ls.drop (j + 1)) := fun j hj => by rw [List.drop_eq_getElem_cons hj, List.getD_eq_getElem?_getD, List.getElem?_eq_getElem hj]; rfl
      have HAT := Lib.hid (fun (i : Nat) (hi : i < ls.length) => HLX.out.at_ i hi)
      generalize hll : ls.length = ll at *
      have hlI : ¬ (10 : Int) < (ll : Int) := by omega
      clear HL HLX
      generalize inE (t + dl) ls = tgt at *
      go_wp2_with fail
      generalize hW : wr.alloc (.cells #[.int .i64 kd, .int .i64 nn, .slice q dl e, .slice r ll m, .int .u8 tt] 36) = w5 at *
      clear hW
      go_loopw [3, 35] (fun s i wq => ∃ j u : Nat, j ≤ ll ∧ u ≤ 57000 + 500 * j ∧ s = .int .i64 u ∧ i = .int .i64 j ∧ Hid (Below w5.heap.size w5 wq) ∧ Hid (inE u (ls.drop j) = tgt)) (fun _ i _ => ll - (intOf i).toNat)
      case atStart => exact ⟨0, t + dl, by omega, by omega, by go_num, rfl, Lib.hid (Below.refl _ _), HI0⟩
      case round =>
        obtain ⟨j, u, hj, hu, rfl, rfl, HQ, HJ⟩ := hrel
        clear HI0
        by_cases hjl : j < ll
        · have hjI : (j : Int) < (ll : Int) := by omega
          obtain ⟨b2, o2, q2, dd2, rfl, hc0, _⟩ := HAT.out j hjl
          have hc2 := (HQ.out.cell (p := ⟨b2, o2 + j, none⟩) (World.block_lt_of_cell? _ _ hc0)).trans hc0
          clear hc0
          have hJ := HJ.out
          rw [HLL.out j hjl, inE_cons] at hJ
          have HJ2 := Lib.hid hJ
          generalize (ls.getD j []).length = xl at *
          clear HJ hJ
          by_cases hx : 500 < xl
          · have hxI : (500 : Int) < (xl : Int) := by omega
            have hJ := HJ2.out
            rw [if_pos hx] at hJ
            have hA := HA2.out
            rw [← hJ] at hA
            have hA' : false = ans := hA
            subst hA'
            clear HJ2 HA2 hJ hA
            go_wp2_with fail
            go_ret
            exact ⟨rfl, HBX.out.trans (HQ.out.mono HBX.out.size)⟩
          · have hxI : ¬ (500 : Int) < (xl : Int) := by omega
            have hJ := HJ2.out
            rw [if_neg hx] at hJ
            have HN : Hid (inE (u + xl) (ls.drop (j + 1)) = tgt) := hJ
            clear HJ2 hJ
            go_wp2_with fail
            go_roundw
            case rel => exact ⟨j + 1, u + xl, by omega, by omega, by go_num, by go_num, HQ, HN⟩
            case measure => simp [intOf]; omega
        · have hjI : (ll : Int) ≤ (j : Int) := by omega
          have hjn : j = ll := by omega
          have hJ := HJ.out
          rw [hjn, HLE.out] at hJ
          have hJ2 : some u = tgt := hJ
          have hA := HA2.out
          rw [← hJ2] at hA
          have hA3 : (if 40000 < u then false else fitE u (os.drop (k + 1))) = ans := hA
          have HA3 := Lib.hid hA3
          clear HJ HA2 hJ hJ2 hA hA3
          by_cases hbig : 40000 < u
          · have hbI : (40000 : Int) < (u : Int) := by omega
            have hA := HA3.out
            rw [if_pos hbig] at hA
            subst hA
            clear HA3
            go_wp2_with fail
            go_ret
            exact ⟨rfl, HBX.out.trans (HQ.out.mono HBX.out.size)⟩
          · have hbI : ¬ (40000 : Int) < (u : Int) := by omega
            have hA := HA3.out
            rw [if_neg hbig] at hA
            have HN := Lib.hid (And.intro (HBX.out.trans (HQ.out.mono HBX.out.size)) hA)
            clear HA3 hA
            go_wp2_with fail
            go_roundw
            case rel => exact ⟨k + 1, u, by omega, by omega, rfl, by go_num, HN⟩
            case measure => simp [intOf]; omega
    · have hle : (n : Int) ≤ (k : Int) := by omega
      obtain ⟨hb, ha⟩ := HK.out
      have hkn : k = n := by omega
      rw [hkn, HEND.out] at ha
      have hA : true = ans := ha
      subst hA
      have HB := Lib.hid hb
      clear HK hb ha
      go_wp2_with fail
      go_ret
      exact ⟨rfl, HB.out⟩
end Go.Proofs.Ytjbhcdmeeakdcaa
