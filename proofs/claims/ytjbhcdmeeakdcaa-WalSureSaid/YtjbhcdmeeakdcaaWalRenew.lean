/- wal.records, Log.Renew by contract. -/
import Derived.Test.YtjbhcdmeeakdcaaWalOpen
namespace Go.Proofs.Ytjbhcdmeeakdcaa
open Go.RowKit
theorem stop_appendW {P : Program} {ops : Array Oper} {rest : List Oper} {o : Oper} {a : Act} {w : World} {Q : Exit → Act → World → Prop} (s x : Operand) (t : TypeId)
    (_ : o.op = .call { callee := .builtin .append, args := #[s, x], argTypes := #[t, t] }) (h : Hid (wpList P ops Q (o :: rest) a w)) : wpList P ops Q (o :: rest) a w := h
def Short (dss : List (List Int)) : Prop := ∀ d ∈ dss, d.length ≤ 16384
instance (dss : List (List Int)) : Decidable (Short dss) := by unfold Short; infer_instance
theorem recsL_len {dss : List (List Int)} (h : Short dss) : (recsL dss).length ≤ 16392 * dss.length := by
  induction dss with
  | nil => simp [recsL]
  | cons d ds ih =>
    have i := ih (fun x hx => h x (by simp [hx]))
    have h1 := h d (by simp)
    rw [recsL_cons, List.length_append, recL_length, List.length_cons]
    omega
theorem recsL_octS {dss : List (List Int)} (ho : ∀ d ∈ dss, Oct d) (h : Short dss) : Oct (recsL dss) := recsL_oct (fun d hd => ⟨ho d hd, h d hd⟩)
def RcRel (w : World) (dss : List (List Int)) (k : Nat) (v : Value) (wr : World) : Prop := Own .u8 wr w.heap.size 5 v (recsL (dss.take k)) ∧ Short (dss.take k) ∧ Below w.heap.size w wr
def RecsPost (w : World) (dss : List (List Int)) (x : Ending) (w' : World) : Prop :=
  Below w.heap.size w w' ∧ (¬ Short dss → x = .returned (.tuple #[.slice none 0 0, .int .i64 2])) ∧ (Short dss → ∃ v, x = .returned (.tuple #[v, .int .i64 0]) ∧ Own .u8 w' w.heap.size 5 v (recsL dss))
set_option linter.unusedSimpArgs false in
set_option maxHeartbeats 4000000 in
set_option maxRecDepth 100000 in
theorem records_any (w : World) (v : Value) (dss : List (List Int)) (ho : ∀ d ∈ dss, Oct d) (hm : dss.length ≤ 1000) (hbig : ∀ d ∈ dss, d.length ≤ 100000000) (hr : RowSS w v dss) :
    Calls Try.prog 37 #[v] w (RecsPost w dss) := by
  obtain ⟨p, c, rfl⟩ := hr.shape
  have HR := Lib.hid hr
  have HO := Lib.hid ho
  have HBG := Lib.hid hbig
  have HS0 : Hid (RcRel w dss 0 (.slice none 0 0) w) := ⟨Own.nil_ _ _ _ _, (fun d hd => by simp at hd), Below.refl _ _⟩
  clear hr ho hbig
  generalize hn : dss.length = n at *
  have HN := Lib.hid hn
  clear hn
  go_enter Try.func37, Try.ntmps37
  go_wp2_with fail
  go_loopw [4, 11] (fun v i wr => ∃ k : Nat, k ≤ n ∧ i = .int .i64 k ∧ Hid (RcRel w dss k v wr)) (fun _ i _ => n - (intOf i).toNat)
  case atStart => exact ⟨0, by omega, rfl, HS0⟩
  case round =>
    obtain ⟨k, hk, rfl, HK⟩ := hrel
    clear HS0
    by_cases hlt : k < n
    · have hkl : k < dss.length := by rw [HN.out]; exact hlt
      have hltI : (k : Int) < (n : Int) := by omega
      obtain ⟨hown, hsh, hbw⟩ := HK.out
      obtain ⟨b, o, q, dd, rfl, hc, hrow⟩ := (HR.out.kept hbw).at_ k hkl
      have hget : dss.getD k [] = dss[k] := by rw [List.getD_eq_getElem?_getD, List.getElem?_eq_getElem hkl]; rfl
      have hmem : dss[k] ∈ dss := List.getElem_mem hkl
      have HTK : Hid (dss.take (k + 1) = dss.take k ++ [dss[k]]) := List.take_succ_eq_append_getElem hkl
      rw [hget] at hc hrow
      have HO1 := Lib.hid (HO.out _ hmem)
      have HL1 := Lib.hid (HBG.out _ hmem)
      have HMEM := Lib.hid hmem
      generalize dss[k] = ys at *
      have HF := Lib.hid (fapp_any (.slice none 0 0) (.slice q ys.length dd) [] ys HO1.out (by have := HL1.out; simp only [List.length_nil]; omega) wr ⟨none, 0, rfl, Nat.le_refl _, .inl rfl⟩ hrow)
      have hbl := World.block_lt_of_cell? wr _ hc
      obtain ⟨p2, c2, hv2⟩ := hown.form
      have htl : (dss.take k).length ≤ 1000 := by rw [List.length_take]; omega
      have hzl : (recsL (dss.take k)).length ≤ 16392 * 1000 := Nat.le_trans (recsL_len hsh) (Nat.mul_le_mul_left _ htl)
      clear htl
      have HSU : Hid (recsL (dss.take (k + 1)) = recsL (dss.take k) ++ recL ys) := by show _ = _; rw [HTK.out, recsL_snoc]
      have HOW := Lib.hid hown
      have HSH := Lib.hid hsh
      have HBW := Lib.hid hbw
      have HZL := Lib.hid hzl
      generalize hzn : (recsL (dss.take k)).length = zn at *
      have HZN := Lib.hid hzn
      subst hv2
      clear hown hsh hbw hget hmem hrow HK hzl hzn
      generalize hyn : ys.length = yn at *
      have HYN := Lib.hid hyn
      clear hyn
      go_wp2_with fail
      refine HF.out.mono ?_
      rintro y w1 ⟨hb1, hx1, hx2⟩
      have HB1 := Lib.hid (HBW.out.trans (hb1.mono HBW.out.size))
      have HOW1 := Lib.hid (HOW.out.later hb1)
      by_cases hlong : 16384 < yn
      · obtain rfl := hx1 hlong
        have HNS : Hid (¬ Short dss) := fun h => by have := h ys HMEM.out; have := HYN.out; omega
        clear hx1 hx2 hb1
        go_wp2_with fail
        go_ret2
        exact ⟨HB1.out, fun _ => rfl, fun h => absurd h HNS.out⟩
      · obtain ⟨v1, rfl, ho1⟩ := hx2 (by omega)
        obtain ⟨p1, c1, hv1⟩ := ho1.form
        rw [List.nil_append] at ho1 hv1
        have HRO := Lib.hid (recL_length ys)
        rw [HRO.out, HYN.out] at hv1
        subst hv1
        have HR1 := Lib.hid ho1.row
        have HLO := Lib.hid hlong
        clear hx1 hx2 hb1 ho1 hlong
        go_wp2_with (at_builtin; with_reducible refine stop_appendW (.tmp 23) (.tmp 24) 34 rfl ?_)
        refine wpList_append_row rfl (.tmp 23) (.tmp 24) 34 rfl 5 .u8 1 w.heap.size elt8 (.slice p2 zn c2) (.slice p1 (8 + yn) c1) (recsL (dss.take k)) (recL ys) rfl rfl HOW1.out HR1.out (by rw [HZN.out, HRO.out, HYN.out]; have := HZL.out; have := HLO.out; omega) (by rw [HZN.out, HRO.out, HYN.out]; have := HZL.out; have := HLO.out; omega) HB1.out.size (recsL (dss.take (k + 1))) (zn + (8 + yn)) HSU.out.symm (by rw [HSU.out, List.length_append, HZN.out, HRO.out, HYN.out]) ?_
        intro p3 c3 w3 ho3 hb3
        have HNX : Hid (RcRel w dss (k + 1) (.slice p3 (zn + (8 + yn)) c3) w3) := ⟨ho3, (fun d hd => by
          rw [HTK.out] at hd
          rcases List.mem_append.1 hd with h | h
          · exact HSH.out d h
          · rw [List.mem_singleton.1 h, HYN.out]; have := HLO.out; omega), HB1.out.trans hb3⟩
        clear ho3 hb3
        go_wp2_with fail
        go_roundw
        case rel => exact ⟨k + 1, by omega, by go_num, HNX⟩
        case measure => simp [intOf]; omega
    · have hle : (n : Int) ≤ (k : Int) := by omega
      have hkn : k = dss.length := by rw [HN.out]; omega
      have hK := HK.out
      rw [hkn] at hK
      unfold RcRel at hK
      rw [List.take_length] at hK
      have HKX := Lib.hid hK
      clear hK hkn HK
      go_wp2_with fail
      go_ret2
      exact ⟨HKX.out.2.2, fun h => absurd HKX.out.2.1 h, fun _ => ⟨_, rfl, HKX.out.1⟩⟩
def renewLE (d : DSt) (dss : List (List Int)) : Int := if Short dss then d.renewE (recsL dss).length else 2
def renewLD (d : DSt) (dss : List (List Int)) : DSt := if Short dss then d.renewD (recsL dss) else d
def renLE (d : DSt) (dss : List (List Int)) : Int := if renewLE d dss = 0 then (renewLD d dss).syncE else renewLE d dss
def renLD (d : DSt) (dss : List (List Int)) : DSt := if renewLE d dss = 0 then (renewLD d dss).syncD else renewLD d dss
set_option linter.unusedSimpArgs false in
set_option maxHeartbeats 4000000 in
set_option maxRecDepth 100000 in
theorem wrenew_any (P : Nat → Prop) (w : World) (base g gl n : Nat) (d : DSt) (v : Value) (dss : List (List Int)) (h : Dkp P w base g d) (hP : P gl) (hl : LogB w gl g n) (hgl : base ≤ gl) (ho : ∀ d ∈ dss, Oct d) (hm : dss.length ≤ 1000) (hbig : ∀ d ∈ dss, d.length ≤ 100000000) (hr : RowSS w v dss) :
    Calls Try.prog 17 #[.pointer (some ⟨gl, 0, none⟩), v] w fun x w' => x = .returned (.int .i64 (renLE d dss)) ∧ Dkp P w' base g (renLD d dss) ∧ LogB w' gl g (if renewLE d dss = 0 then dss.length else n) ∧ BelowP (exP P gl) base w w' := by
  have HF := Lib.hid (records_any w v dss ho hm hbig hr)
  obtain ⟨pv, cv, rfl⟩ := hr.shape
  have hbs : base ≤ w.heap.size := Nat.le_trans hgl (Nat.le_of_lt hl.lt)
  have HD := Lib.hid h
  have HL := Lib.hid hl
  have HOO := Lib.hid ho
  clear h hl hr hbig ho
  by_cases hs : Short dss
  rotate_left
  · have hE1 : renewLE d dss = 2 := if_neg hs
    have hD1 : renewLD d dss = d := if_neg hs
    have hE : renLE d dss = 2 := by unfold renLE; rw [hE1]; rfl
    have hD : renLD d dss = d := by unfold renLD; rw [hE1, hD1]; rfl
    rw [hE, hD, hE1, if_neg (by decide)]
    have HNS := Lib.hid hs
    generalize dss.length = m at *
    clear hE hD hE1 hD1 hs
    go_enter Try.func17, Try.ntmps17
    go_wp2_with fail
    refine HF.out.mono ?_
    rintro y w1 ⟨hb1, hx, _⟩
    obtain rfl := hx HNS.out
    have HB1 := Lib.hid hb1
    clear hx hb1
    go_wp2_with fail
    go_ret
    exact ⟨rfl, HD.out.kept HB1.out, HL.out.kept HB1.out, BelowP.of HB1.out hbs⟩
  have hE1 : renewLE d dss = d.renewE (recsL dss).length := if_pos hs
  have hD1 : renewLD d dss = d.renewD (recsL dss) := if_pos hs
  have HRO := Lib.hid (recsL_octS HOO.out hs)
  have HSH := Lib.hid hs
  clear hs
  by_cases he : renewLE d dss = 0
  · have hE : renLE d dss = (d.renewD (recsL dss)).syncE := by unfold renLE; rw [if_pos he, hD1]
    have hD : renLD d dss = (d.renewD (recsL dss)).syncD := by unfold renLD; rw [if_pos he, hD1]
    rw [hE, hD, if_pos he]
    rw [hE1] at he
    have HE := Lib.hid he
    generalize hse : (d.renewD (recsL dss)).syncE = se
    have HSE := Lib.hid hse
    clear hE hD hE1 hD1 he hse
    generalize hmm : dss.length = m at *
    clear hmm
    go_enter Try.func17, Try.ntmps17
    go_wp2_with fail
    refine HF.out.mono ?_
    rintro y w1 ⟨hb1, _, hx⟩
    obtain ⟨v1, rfl, ho1⟩ := hx HSH.out
    have HB1 := Lib.hid hb1
    have hl1 := HL.out.kept hb1
    have HL1 := Lib.hid hl1
    have c0 : w1.cell? ⟨gl, 0, none⟩ = some (.pointer (some ⟨g, 0, none⟩)) := Blk.cell hl1 0
    have ll := hl1.lt
    obtain ⟨g0, hg0, _, hat⟩ := ho1.rowAt
    obtain ⟨p1, c1, hv1⟩ := ho1.form
    subst hv1
    have HW := Lib.hid (renew_anyP P w1 base g d _ (recsL dss) (HD.out.kept hb1) HRO.out ⟨g0, by have := HD.out.dk.lt; omega, hat⟩)
    rw [HE.out] at HW
    generalize (recsL dss).length = rl at *
    clear hx hb1 hl1 ho1 hat hg0
    go_wp2_with fail
    refine HW.out.mono ?_
    rintro y w2 ⟨rfl, hd2, hb2⟩
    have hl2 := Blk.belowP HL1.out hb2 hP
    have c1' : w2.cell? ⟨gl, 1, none⟩ = some (.int .i64 (n : Nat)) := Blk.cell hl2 1
    have f1 := Blk.free hl2 1
    have l2 := Blk.lt hl2
    have hch : Chg gl w2 (w2.setCell ⟨gl, 1, none⟩ (.int .i64 (m : Int))) := (Chg.refl _ _).set 1 _
    have hl3 : LogB (w2.setCell ⟨gl, 1, none⟩ (.int .i64 (m : Int))) gl g m := by have h := Blk.set hl2 1 (.int .i64 (m : Int)); exact h
    have HY := Lib.hid (wsync_any P _ base g gl m _ (hd2.chg hP hch) hP hl3)
    rw [HSE.out] at HY
    have hb12 : BelowP (exP P gl) base w w2 := (BelowP.of HB1.out hbs).trans (hb2.weak (fun b hb => hb.1))
    have HB13 : Hid (BelowP (exP P gl) base w (w2.setCell ⟨gl, 1, none⟩ (.int .i64 (m : Int)))) := hb12.trans ⟨hch.below hgl (Nat.le_trans hgl (Nat.le_of_lt l2)), fun b hb hl => hch.2 b hl hb.2⟩
    clear hl2 hd2 hb2 c0 ll hch hl3 hb12
    go_wp2_with fail
    refine HY.out.mono ?_
    rintro y w4 ⟨rfl, hd4, hl4, hb4⟩
    have HD4 := Lib.hid hd4
    have HL4 := Lib.hid hl4
    have HB4 := Lib.hid hb4
    clear hd4 hl4 hb4 c1' f1 l2
    go_wp2_with fail
    go_ret
    exact ⟨rfl, HD4.out, HL4.out, HB13.out.trans (HB4.out.weak (fun b hb => hb.1))⟩
  · have hE : renLE d dss = d.renewE (recsL dss).length := by unfold renLE; rw [if_neg he, hE1]
    have hD : renLD d dss = d.renewD (recsL dss) := by unfold renLD; rw [if_neg he, hD1]
    rw [hE, hD, if_neg he]
    rw [hE1] at he
    have hEb : (d.renewE (recsL dss).length != 0) = true := by simpa using he
    generalize hWE : d.renewE (recsL dss).length = we at *
    have HWE := Lib.hid hWE
    clear hE hD hE1 hD1 he hWE
    generalize hmm : dss.length = m at *
    clear hmm
    go_enter Try.func17, Try.ntmps17
    go_wp2_with fail
    refine HF.out.mono ?_
    rintro y w1 ⟨hb1, _, hx⟩
    obtain ⟨v1, rfl, ho1⟩ := hx HSH.out
    have HB1 := Lib.hid hb1
    have hl1 := HL.out.kept hb1
    have HL1 := Lib.hid hl1
    have c0 : w1.cell? ⟨gl, 0, none⟩ = some (.pointer (some ⟨g, 0, none⟩)) := Blk.cell hl1 0
    have ll := hl1.lt
    obtain ⟨g0, hg0, _, hat⟩ := ho1.rowAt
    obtain ⟨p1, c1, hv1⟩ := ho1.form
    subst hv1
    have HW := Lib.hid (renew_anyP P w1 base g d _ (recsL dss) (HD.out.kept hb1) HRO.out ⟨g0, by have := HD.out.dk.lt; omega, hat⟩)
    rw [HWE.out] at HW
    generalize (recsL dss).length = rl at *
    clear hx hb1 hl1 ho1 hat hg0
    go_wp2_with fail
    refine HW.out.mono ?_
    rintro y w2 ⟨rfl, hd2, hb2⟩
    have HD2 := Lib.hid hd2
    have HB2 := Lib.hid hb2
    clear hd2 hb2 c0 ll
    go_wp2_with fail
    go_ret
    exact ⟨rfl, HD2.out, Blk.belowP HL1.out HB2.out hP, (BelowP.of HB1.out hbs).trans (HB2.out.weak (fun b hb => hb.1))⟩
end Go.Proofs.Ytjbhcdmeeakdcaa
