/- frame.Scan by contract. -/
import Derived.Test.YtjbhcdmeeakdcaaFrame2
import Derived.Test.YtjbhcdmeeakdcaaAppV
namespace Go.Proofs.Ytjbhcdmeeakdcaa
open Go.RowKit
theorem elt88 : EltV Try.prog 30 34 (.slice none 0 0) 24 := eltV_mk Try.underlying30 (by kernel_rfl)
/-- What the scan has: the records so far, how many bytes they take, what is still to come. -/
def ScanRel (w : World) (zs : List Int) (T : Nat) (v : Value) (wr : World) : Prop :=
  ∃ out, OwnSS wr w.heap.size 34 v out ∧ out ++ scD (zs.drop T) = scD zs ∧ T + scN (zs.drop T) = scN zs ∧ 8 * out.length ≤ T ∧ Below w.heap.size w wr
theorem scan_next {zs : List Int} {T : Nat} (ho : Oct zs) (hT : T ≤ zs.length) (h : frE (zs.drop T) = 0) :
    ∃ m : Nat, frN (zs.drop T) = m ∧ 8 ≤ m ∧ T + m ≤ zs.length ∧ scD (zs.drop T) = frD (zs.drop T) :: scD (zs.drop (T + m)) ∧ scN (zs.drop T) = m + scN (zs.drop (T + m)) ∧ (frD (zs.drop T)).length ≤ 16384 := by
  have hk := frE_ok (ho.drop T) h
  have hs := sc_yes (ho.drop T) h
  rw [List.length_drop] at hk
  refine ⟨(frN (zs.drop T)).toNat, by omega, by omega, by omega, ?_, ?_, by omega⟩
  · rw [hs.1, List.drop_drop]
  · rw [hs.2, List.drop_drop]
set_option maxHeartbeats 8000000 in
set_option maxRecDepth 100000 in
theorem fscan_any (b : Value) (zs : List Int) (ho : Oct zs) (hl : zs.length ≤ 1000000) (w : World) (hrow : Row .u8 w b zs) :
    Calls Try.prog 34 #[b] w fun x w' => ∃ v, x = .returned (.tuple #[v, .int .i64 (scN zs : Nat)]) ∧ OwnSS w' w.heap.size 34 v (scD zs) ∧ Below w.heap.size w w' := by
  obtain ⟨g0, hat⟩ := hrow.rowAt
  obtain ⟨p, c, rfl⟩ := hat.shape
  have hlc : zs.length ≤ c := by obtain ⟨_, _, e, h, _⟩ := id hat; cases e; exact h
  have HAT := Lib.hid hat
  have HO := Lib.hid ho
  have HS0 : Hid (ScanRel w zs 0 (.slice none 0 0) w) := ⟨[], OwnSS.nil_ _ _ _, by simp, by simp, by simp, Below.refl _ _⟩
  clear hat hrow
  generalize hn : zs.length = n at *
  have HN := Lib.hid hn
  clear hn
  go_enter Try.func34, Try.ntmps34
  go_wp2_with fail
  go_loopw [4, 5] (fun v t wr => ∃ T : Nat, T ≤ n ∧ t = .int .i64 T ∧ Hid (ScanRel w zs T v wr)) (fun _ t _ => n - (intOf t).toNat)
  case atStart => exact ⟨0, by omega, rfl, HS0⟩
  case round =>
    obtain ⟨T, hT, rfl, HK⟩ := hrel
    have hTc : T ≤ c := by omega
    have hd := HAT.out.drop T (by rw [HN.out]; exact hT)
    unfold dropP at hd
    have HE := Lib.hid (fun h => scan_next (T := T) ho (by rw [HN.out]; exact hT) h)
    have HNO := Lib.hid (fun h => sc_no (l := zs.drop T) h)
    have hcc : c = T ∨ ¬ c = T := by omega
    obtain ⟨out, h1, h2, h3, h4, h5⟩ := HK.out
    obtain ⟨pl, cl, rfl⟩ := h1.form
    have OS := Lib.hid h1
    have ES := Lib.hid h2
    have EN := Lib.hid h3
    have LN := Lib.hid h4
    have BS := Lib.hid h5
    clear h1 h2 h3 h4 h5 HK
    have HFR := Lib.hid (fun (w' : World) (v : Value) (h : Row .u8 w' v (zs.drop T)) => fread_any v (zs.drop T) (HO.out.drop T) (by rw [List.length_drop, HN.out]; omega) w' h)
    generalize hZ : zs.drop T = Z at *
    rcases hcc with hcT | hcT
    all_goals
      first | rw [if_neg hcT] at hd | rw [if_pos hcT, show c - T = 0 by omega] at hd
      have HD := Lib.hid hd
      clear hd
      go_wp2_with fail
      refine (HFR.out wr _ (HD.out.row.under BS.out (Nat.le_refl _))).mono ?_
      rintro y w1 ⟨v1, rfl, ho1, hb1⟩
      obtain ⟨p1, c1, rfl⟩ := ho1.form
      have O1 := Lib.hid ho1
      have B1 := Lib.hid (BS.out.trans (hb1.mono BS.out.size))
      have OS1 := Lib.hid (OS.out.later hb1)
      clear hb1 ho1
      by_cases he : frE Z = 0
      · obtain ⟨m, hm1, hm2, hm3, hm4, hm5, hm6⟩ := HE.out he
        rw [HN.out] at hm3
        try (exfalso; omega)
        all_goals
          rw [he, hm1]
          have HE4 := Lib.hid hm4
          have HE5 := Lib.hid hm5
          have HE6 := Lib.hid hm6
          obtain ⟨g1, hg1, hg2, hr1⟩ := O1.out.rowAt
          have HR1 := Lib.hid hr1
          have HG1 : Hid (frD Z = [] ∨ g1 < w1.heap.size ∧ (Value.slice pl out.length cl).ownBlock ≠ some g1) := by
            rcases hg2 with hg2 | hg2
            · refine .inr ⟨hg2, fun e => ?_⟩
              have := OS.out.lt g1 e
              omega
            · exact .inl hg2.1
          clear he hm4 hm5 hm6 hm1 hr1 hg1 hg2
          go_wp2_with (at_builtin; go_loud (refine wpList_append_ss rfl _ _ 30 rfl 34 34 w.heap.size elt88 _ out p1 _ c1 (frD Z) g1 HR1.out HG1.out _ rfl rfl rfl OS1.out (by have := LN.out; omega) B1.out.size (out.length + 1) rfl ?_; intro p2 c2 w2 ho2 hb2; have HN2 : Hid (ScanRel w zs (T + m) (.slice p2 (out.length + 1) c2) w2) := ⟨out ++ [frD Z], ho2, (by have h := ES.out; rw [HE4.out] at h; simpa using h), (by have h := EN.out; rw [HE5.out] at h; omega), (by have h := LN.out; simp only [List.length_append, List.length_singleton]; omega), B1.out.trans (hb2.mono (Nat.le_refl _))⟩; clear ho2 hb2))
          go_roundw
          case rel => exact ⟨T + m, by omega, by go_num, HN2⟩
          case measure => simp [intOf]; omega
      · have hno := HNO.out he
        have he2 : (frE Z != 0) = true := by simpa using he
        have ES2 : Hid (out = scD zs) := by show _ = _; have h := ES.out; rw [hno.1, List.append_nil] at h; exact h
        have EN2 : Hid (T = scN zs) := by show _ = _; have h := EN.out; rw [hno.2, Nat.add_zero] at h; exact h
        generalize frE Z = eZ at *
        generalize frN Z = nZ at *
        clear hno he
        go_wp2_with fail
        go_ret2
        exact ⟨_, by rw [EN2.out]; rfl, by rw [← ES2.out]; exact OS1.out, B1.out⟩
end Go.Proofs.Ytjbhcdmeeakdcaa
