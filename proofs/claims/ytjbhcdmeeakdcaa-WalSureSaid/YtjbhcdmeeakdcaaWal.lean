/- wal.Log: Put, Sync, Add, Len by contract. -/
import Derived.Test.YtjbhcdmeeakdcaaDisk5
import Derived.Test.YtjbhcdmeeakdcaaDiskRead
import Derived.Test.YtjbhcdmeeakdcaaScanB
namespace Go.Proofs.Ytjbhcdmeeakdcaa
open Go.RowKit
/-- Block gl is a log on the disk in block g. -/
def LogB (w : World) (gl g n : Nat) : Prop := Blk w gl #[.pointer (some ⟨g, 0, none⟩), .int .i64 (n : Nat)] 69
def exP (P : Nat → Prop) (gl : Nat) : Nat → Prop := fun b => P b ∧ b ≠ gl
theorem LogB.lt {w : World} {gl g n : Nat} (h : LogB w gl g n) : gl < w.heap.size := Blk.lt h
theorem LogB.kept {w w' : World} {gl g n : Nat} (h : LogB w gl g n) (hb : Below w.heap.size w w') : LogB w' gl g n := Blk.below h hb h.lt
def putE (d : DSt) (ys : List Int) : Int := if 16384 < ys.length then 2 else d.writeE (recL ys).length
def putD (d : DSt) (ys : List Int) : DSt := if 16384 < ys.length then d else d.writeD (recL ys)
def addE (d : DSt) (ys : List Int) : Int := if putE d ys = 0 then (putD d ys).syncE else putE d ys
def addD (d : DSt) (ys : List Int) : DSt := if putE d ys = 0 then (putD d ys).syncD else putD d ys
theorem wlen_any (w : World) (gl g n : Nat) (h : LogB w gl g n) :
    Calls Try.prog 21 #[.pointer (some ⟨gl, 0, none⟩)] w fun x w' => x = .returned (.int .i64 n) ∧ w = w' := by
  have c1 : w.cell? ⟨gl, 1, none⟩ = some (.int .i64 (n : Nat)) := Blk.cell h 1
  have hl := h.lt
  clear h
  go_enter Try.func21, Try.ntmps21
  go_wp2
  go_ret
  exact ⟨rfl, rfl⟩
theorem wsync_any (P : Nat → Prop) (w : World) (base g gl n : Nat) (d : DSt) (h : Dkp P w base g d) (hP : P gl) (hl : LogB w gl g n) :
    Calls Try.prog 16 #[.pointer (some ⟨gl, 0, none⟩)] w fun x w' => x = .returned (.int .i64 d.syncE) ∧ Dkp P w' base g d.syncD ∧ LogB w' gl g n ∧ BelowP P base w w' := by
  have HS := Lib.hid (sync_anyP P w base g d h)
  have c0 : w.cell? ⟨gl, 0, none⟩ = some (.pointer (some ⟨g, 0, none⟩)) := Blk.cell hl 0
  have hlt := hl.lt
  have HL := Lib.hid hl
  clear h hl
  go_enter Try.func16, Try.ntmps16
  go_wp2_with fail
  refine HS.out.mono ?_
  rintro y w1 ⟨rfl, hd1, hb1⟩
  have HD1 := Lib.hid hd1
  have HB1 := Lib.hid hb1
  clear hd1 hb1
  go_wp2_with fail
  go_ret
  exact ⟨rfl, HD1.out, Blk.belowP HL.out HB1.out hP, HB1.out⟩
set_option linter.unusedSimpArgs false in
set_option maxHeartbeats 1000000 in
theorem wput_any (P : Nat → Prop) (w : World) (base g gl n : Nat) (d : DSt) (v : Value) (ys : List Int) (h : Dkp P w base g d) (hP : P gl) (hl : LogB w gl g n) (hn : n ≤ 1000000) (hgl : base ≤ gl) (ho : Oct ys) (hlen : ys.length ≤ 100000000) (hrow : Row .u8 w v ys) :
    Calls Try.prog 14 #[.pointer (some ⟨gl, 0, none⟩), v] w fun x w' => x = .returned (.int .i64 (putE d ys)) ∧ Dkp P w' base g (putD d ys) ∧ LogB w' gl g (if putE d ys = 0 then n + 1 else n) ∧ BelowP (exP P gl) base w w' := by
  have HF := Lib.hid (fapp_any (.slice none 0 0) v [] ys ho (by simp only [List.length_nil]; omega) w ⟨none, 0, rfl, Nat.le_refl _, .inl rfl⟩ hrow)
  obtain ⟨pv, cv, rfl⟩ := hrow.shape
  have hbs : base ≤ w.heap.size := Nat.le_trans hgl (Nat.le_of_lt hl.lt)
  have HD := Lib.hid h
  have HL := Lib.hid hl
  clear h hl hrow hlen
  by_cases hlong : 16384 < ys.length
  · have hE : putE d ys = 2 := if_pos hlong
    have hD : putD d ys = d := if_pos hlong
    rw [hE, hD, if_neg (by decide)]
    clear hE hD
    generalize hln : ys.length = m at *
    go_enter Try.func14, Try.ntmps14
    go_wp2_with fail
    refine HF.out.mono ?_
    rintro y w1 ⟨hb1, hx, _⟩
    obtain rfl := hx hlong
    have HB1 := Lib.hid hb1
    clear hx hb1
    go_wp2_with fail
    go_ret
    exact ⟨rfl, HD.out.kept HB1.out, HL.out.kept HB1.out, BelowP.of HB1.out hbs⟩
  · have hE : putE d ys = d.writeE (recL ys).length := if_neg hlong
    have hD : putD d ys = d.writeD (recL ys) := if_neg hlong
    rw [hE, hD]
    clear hE hD
    have HRO := Lib.hid (recL_oct ho (by omega))
    have HLO := Lib.hid hlong
    generalize hln : ys.length = m at *
    clear hlong
    by_cases he : d.writeE (recL ys).length = 0
    · rw [if_pos he]
      have HE := Lib.hid he
      clear he
      go_enter Try.func14, Try.ntmps14
      go_wp2_with fail
      refine HF.out.mono ?_
      rintro y w1 ⟨hb1, _, hx⟩
      obtain ⟨v1, rfl, ho1⟩ := hx (by have := HLO.out; omega)
      rw [List.nil_append] at ho1
      have HB1 := Lib.hid hb1
      have hl1 := HL.out.kept hb1
      have HL1 := Lib.hid hl1
      have c0 : w1.cell? ⟨gl, 0, none⟩ = some (.pointer (some ⟨g, 0, none⟩)) := Blk.cell hl1 0
      have ll := hl1.lt
      obtain ⟨g0, hg0, _, hat⟩ := ho1.rowAt
      obtain ⟨p1, c1, hv1⟩ := ho1.form
      subst hv1
      have HW := Lib.hid (write_anyP P w1 base g d _ (recL ys) (HD.out.kept hb1) HRO.out ⟨g0, by have := HD.out.dk.lt; omega, hat⟩)
      generalize hrl : (recL ys).length = rl at *
      have HRL := Lib.hid hrl
      clear hrl
      clear hx hb1 hl1 ho1 hat hg0
      go_wp2_with fail
      refine HW.out.mono ?_
      rintro y w2 ⟨rfl, hd2, hb2⟩
      rw [HE.out]
      have hl2 := Blk.belowP HL1.out hb2 hP
      have c1' : w2.cell? ⟨gl, 1, none⟩ = some (.int .i64 (n : Nat)) := Blk.cell hl2 1
      have f1 := Blk.free hl2 1
      have l2 := Blk.lt hl2
      have HL2 := Lib.hid hl2
      have HD2 := Lib.hid hd2
      have HB2 := Lib.hid hb2
      clear hl2 hd2 hb2 c0 ll
      go_wp2_with fail
      go_ret
      have hch : Chg gl w2 (w2.setCell ⟨gl, 1, none⟩ (.int .i64 ((n : Int) + 1))) := (Chg.refl _ _).set 1 _
      have hb12 : BelowP (exP P gl) base w w2 := (BelowP.of HB1.out hbs).trans (HB2.out.weak (fun b hb => hb.1))
      exact ⟨by rw [HRL.out, HE.out]; rfl, HD2.out.chg hP hch, by have h := Blk.set HL2.out 1 (.int .i64 ((n : Int) + 1)); exact h, hb12.trans ⟨hch.below hgl (Nat.le_trans hgl (Nat.le_of_lt l2)), fun b hb hl => hch.2 b hl hb.2⟩⟩
    · have hE : (d.writeE (recL ys).length != 0) = true := by simpa using he
      rw [if_neg he]
      generalize hWE : d.writeE (recL ys).length = we at *
      have HWE := Lib.hid hWE
      clear he hWE
      go_enter Try.func14, Try.ntmps14
      go_wp2_with fail
      refine HF.out.mono ?_
      rintro y w1 ⟨hb1, _, hx⟩
      obtain ⟨v1, rfl, ho1⟩ := hx (by have := HLO.out; omega)
      rw [List.nil_append] at ho1
      have HB1 := Lib.hid hb1
      have hl1 := HL.out.kept hb1
      have HL1 := Lib.hid hl1
      have c0 : w1.cell? ⟨gl, 0, none⟩ = some (.pointer (some ⟨g, 0, none⟩)) := Blk.cell hl1 0
      have ll := hl1.lt
      obtain ⟨g0, hg0, _, hat⟩ := ho1.rowAt
      obtain ⟨p1, c1, hv1⟩ := ho1.form
      subst hv1
      have HW := Lib.hid (write_anyP P w1 base g d _ (recL ys) (HD.out.kept hb1) HRO.out ⟨g0, by have := HD.out.dk.lt; omega, hat⟩)
      rw [HWE.out] at HW
      generalize (recL ys).length = rl at *
      clear hx hb1 hl1 ho1 hat hg0
      go_wp2_with fail
      refine HW.out.mono ?_
      rintro y w2 ⟨rfl, hd2, hb2⟩
      have HD2 := Lib.hid hd2
      have HB2 := Lib.hid hb2
      clear hd2 hb2 c0 ll
      go_wp2_with fail
      go_ret
      exact ⟨rfl, HD2.out, Blk.belowP HL1.out HB2.out hP, (BelowP.of HB1.out hbs).trans (HB2.out.weak (fun b hb => hb.1))⟩
set_option linter.unusedSimpArgs false in
theorem wadd_any (P : Nat → Prop) (w : World) (base g gl n : Nat) (d : DSt) (v : Value) (ys : List Int) (h : Dkp P w base g d) (hP : P gl) (hl : LogB w gl g n) (hn : n ≤ 1000000) (hgl : base ≤ gl) (ho : Oct ys) (hlen : ys.length ≤ 100000000) (hrow : Row .u8 w v ys) :
    Calls Try.prog 15 #[.pointer (some ⟨gl, 0, none⟩), v] w fun x w' => x = .returned (.int .i64 (addE d ys)) ∧ Dkp P w' base g (addD d ys) ∧ LogB w' gl g (if putE d ys = 0 then n + 1 else n) ∧ BelowP (exP P gl) base w w' := by
  have HPU := Lib.hid (wput_any P w base g gl n d v ys h hP hl hn hgl ho hlen hrow)
  obtain ⟨pv, cv, rfl⟩ := hrow.shape
  clear h hl hrow
  by_cases he : putE d ys = 0
  · have hE : addE d ys = (putD d ys).syncE := if_pos he
    have hD : addD d ys = (putD d ys).syncD := if_pos he
    rw [hE, hD]
    rw [he, if_pos rfl] at HPU
    rw [if_pos he]
    generalize ys.length = m at *
    generalize hs : (putD d ys).syncE = se
    have HSE := Lib.hid hs
    clear hE hD he hs
    go_enter Try.func15, Try.ntmps15
    go_wp2_with fail
    refine HPU.out.mono ?_
    rintro y w1 ⟨rfl, hd1, hl1, hb1⟩
    have HB1 := Lib.hid hb1
    have HS := Lib.hid (wsync_any P w1 base g gl (n + 1) _ hd1 hP hl1)
    rw [HSE.out] at HS
    clear hd1 hl1 hb1
    go_wp2_with fail
    refine HS.out.mono ?_
    rintro y w2 ⟨rfl, hd2, hl2, hb2⟩
    have HD2 := Lib.hid hd2
    have HL2 := Lib.hid hl2
    have HB2 := Lib.hid hb2
    clear hd2 hl2 hb2
    go_wp2_with fail
    go_ret
    exact ⟨rfl, HD2.out, HL2.out, HB1.out.trans (HB2.out.weak (fun b hb => hb.1))⟩
  · have hE : addE d ys = putE d ys := if_neg he
    have hD : addD d ys = putD d ys := if_neg he
    rw [hE, hD]
    rw [if_neg he] at HPU
    rw [if_neg he]
    have hEb : (putE d ys != 0) = true := by simpa using he
    generalize putE d ys = pe at *
    generalize ys.length = m at *
    clear hE hD he
    go_enter Try.func15, Try.ntmps15
    go_wp2_with fail
    refine HPU.out.mono ?_
    rintro y w1 ⟨rfl, hd1, hl1, hb1⟩
    have HD1 := Lib.hid hd1
    have HL1 := Lib.hid hl1
    have HB1 := Lib.hid hb1
    clear hd1 hl1 hb1
    go_wp2_with fail
    go_ret
    exact ⟨rfl, HD1.out, HL1.out, HB1.out⟩
end Go.Proofs.Ytjbhcdmeeakdcaa
