/- contraref05.Scan by contract. -/
import Derived.Test.YtjbhcdmeeakdcaaRefFrame
import Derived.Test.YtjbhcdmeeakdcaaAppV
namespace Go.Proofs.Ytjbhcdmeeakdcaa
open Go.RowKit
theorem eltStr : EltV Try.prog 33 9 (.string ⟨#[]⟩) 16 := eltV_mk Try.underlying33 (by kernel_rfl)
def strV (d : List Int) : Value := .string (strOfNums d)
/-- What the scan has: the records so far, as strings. -/
def RScanRel (w : World) (zs : List Int) (T : Nat) (v : Value) (wr : World) : Prop :=
  ∃ out : List (List Int), OwnV wr w.heap.size 9 v (out.map strV) ∧ out ++ scD (zs.drop T) = scD zs ∧ T + scN (zs.drop T) = scN zs ∧ 8 * out.length ≤ T ∧ Below w.heap.size w wr
theorem rscan_next {zs : List Int} {T : Nat} (ho : Oct zs) (hT : T ≤ zs.length) (h : frE (zs.drop T) = 0) :
    ∃ m : Nat, frN (zs.drop T) = m ∧ 8 ≤ m ∧ T + m ≤ zs.length ∧ scD (zs.drop T) = frD (zs.drop T) :: scD (zs.drop (T + m)) ∧ scN (zs.drop T) = m + scN (zs.drop (T + m)) := by
  have hk := frE_ok (ho.drop T) h
  have hs := sc_yes (ho.drop T) h
  rw [List.length_drop] at hk
  refine ⟨(frN (zs.drop T)).toNat, by omega, by omega, by omega, ?_, ?_⟩
  · rw [hs.1, List.drop_drop]
  · rw [hs.2, List.drop_drop]
set_option maxHeartbeats 8000000 in
set_option maxRecDepth 100000 in
theorem refscan_any (s : ByteArray) (hs : s.size ≤ 20000) (w : World) :
    Calls Try.prog 24 #[.string s] w fun x w' => ∃ v, x = .returned (.tuple #[v, .int .i64 (scN (intsOf s) : Nat)]) ∧ OwnV w' w.heap.size 9 v ((scD (intsOf s)).map strV) ∧ Below w.heap.size w w' := by
  have HO := Lib.hid (intsOf_oct s)
  have HL := Lib.hid (intsOf_len s)
  have HR := Lib.hid (fun a ha w => refread5_any s a ha hs w)
  have HS0 : Hid (RScanRel w (intsOf s) 0 (.slice none 0 0) w) := ⟨[], OwnV.nil_ _ _ _, by simp, by simp, by simp, Below.refl _ _⟩
  generalize intsOf s = zs at *
  go_enter Try.func24, Try.ntmps24
  go_wp2_with fail
  go_loopw [4, 5] (fun v t wr => ∃ T : Nat, T ≤ s.size ∧ t = .int .i64 T ∧ Hid (RScanRel w zs T v wr)) (fun _ t _ => s.size - (intOf t).toNat)
  case atStart => exact ⟨0, by omega, rfl, HS0⟩
  case round =>
    obtain ⟨T, hT, rfl, HK⟩ := hrel
    obtain ⟨out, h1, h2, h3, h4, h5⟩ := HK.out
    obtain ⟨pl, cl, hv⟩ := h1.form
    rw [List.length_map] at hv
    subst hv
    have OS := Lib.hid h1
    have ES := Lib.hid h2
    have EN := Lib.hid h3
    have LN := Lib.hid h4
    have BS := Lib.hid h5
    clear h1 h2 h3 h4 h5 HK
    by_cases hlt : T < s.size
    · have HRT := Lib.hid (HR.out T hT)
      have HE := Lib.hid (fun h => rscan_next (T := T) HO.out (by rw [HL.out]; exact hT) h)
      have HNO := Lib.hid (fun h => sc_no (l := zs.drop T) h)
      generalize zs.drop T = Z at *
      go_wp2_with fail
      refine (HRT.out wr).mono ?_
      rintro y w1 ⟨rfl, hb1⟩
      have B1 := Lib.hid (BS.out.trans (hb1.mono BS.out.size))
      have OS1 := Lib.hid (OS.out.later hb1)
      clear hb1
      by_cases he : frE Z = 0
      · obtain ⟨m, hm1, hm2, hm3, hm4, hm5⟩ := HE.out he
        rw [HL.out] at hm3
        rw [he, hm1]
        have HE4 := Lib.hid hm4
        have HE5 := Lib.hid hm5
        generalize hD : frD Z = D at *
        clear he hm4 hm5 hm1 hD
        go_wp2_with (at_builtin; go_loud (refine wpList_append_val rfl (.tmp 24) (.tmp 26) 33 rfl 9 9 (.string ⟨#[]⟩) 16 w.heap.size eltStr rfl (by decide) _ (out.map strV) (.string (strOfNums D)) rfl _ rfl rfl rfl OS1.out (by have := LN.out; simp; omega) B1.out.size ?_; intro v2 w2 ho2 _ _ hb2; obtain ⟨p2, c2, hv2⟩ := ho2.form; simp only [List.length_append, List.length_map, List.length_singleton] at hv2; subst hv2; have HN2 : Hid (RScanRel w zs (T + m) (.slice p2 (out.length + 1) c2) w2) := ⟨out ++ [D], (by rw [List.map_append]; exact ho2), (by have h := ES.out; rw [HE4.out] at h; simpa using h), (by have h := EN.out; rw [HE5.out] at h; omega), (by have h := LN.out; simp only [List.length_append, List.length_singleton]; omega), B1.out.trans (hb2.mono (Nat.le_refl _))⟩; clear ho2 hb2))
        go_roundw
        case rel => exact ⟨T + m, by omega, by go_num, HN2⟩
        case measure => simp [intOf]; omega
      · have hno := HNO.out he
        have he2 : (frE Z != 0) = true := by simpa using he
        have ES2 : Hid (out = scD zs) := by show _ = _; have h := ES.out; rw [hno.1, List.append_nil] at h; exact h
        have EN2 : Hid (T = scN zs) := by show _ = _; have h := EN.out; rw [hno.2, Nat.add_zero] at h; exact h
        generalize frE Z = eZ at *
        generalize frN Z = nZ at *
        clear hno he
        go_wp2_with fail
        go_ret2
        exact ⟨_, by rw [EN2.out]; rfl, by rw [← ES2.out]; exact OS1.out, B1.out⟩
    · have hge : (s.size : Int) ≤ (T : Int) := by omega
      have hz : zs.drop T = [] := List.drop_eq_nil_of_le (by rw [HL.out]; omega)
      have hno := sc_short (l := zs.drop T) (by rw [hz]; decide)
      have ES2 : Hid (out = scD zs) := by show _ = _; have h := ES.out; rw [hno.1, List.append_nil] at h; exact h
      have EN2 : Hid (T = scN zs) := by show _ = _; have h := EN.out; rw [hno.2, Nat.add_zero] at h; exact h
      clear hno hz hlt
      go_wp2_with fail
      go_ret2
      exact ⟨_, by rw [EN2.out]; rfl, by rw [← ES2.out]; exact OS.out, BS.out⟩
end Go.Proofs.Ytjbhcdmeeakdcaa
