/- msg.From by contract. -/
import Derived.Test.YtbimbpmdiahhbaaEltN
import Derived.Test.YtbimbpmdiahhbaaMsgFst
import Derived.Deep.RegionHeld3
import Derived.Deep.CutRange
import Derived.Deep.CutBlock
namespace Go.Proofs.Ytbimbpmdiahhbaa
open Go.RowKit
set_option linter.unusedSimpArgs false
def RS.nxs (r : RS) : Nat → RS
  | 0 => r
  | n + 1 => (r.nxs n).nx
/-- The message's cells when k of the six numbers are read. -/
def csK (r : RS) (k : Nat) : Array Value := #[.int .i64 r.nV, .int .i64 (if 0 < k then (r.nxs 1).nV else 0), .int .i64 (if 1 < k then (r.nxs 2).nV else 0), .int .i64 (if 2 < k then (r.nxs 3).nV else 0), .int .i64 (if 3 < k then (r.nxs 4).nV else 0), .int .i64 (if 4 < k then (r.nxs 5).nV else 0), .int .i64 (if 5 < k then (r.nxs 6).nV else 0), .int .i64 0, .bool false, .slice none 0 0, .slice none 0 0]
/-- The cells behind the six numbers. -/
def csL (r : RS) (vl vn : Value) : Array Value := #[.int .i64 r.nV, .int .i64 (r.nxs 1).nV, .int .i64 (r.nxs 2).nV, .int .i64 (r.nxs 3).nV, .int .i64 (r.nxs 4).nV, .int .i64 (r.nxs 5).nV, .int .i64 (r.nxs 6).nV, .int .i64 (r.nxs 7).numV, .bool (r.nxs 7).num.boolV, vl, vn]
def FromPost (w : World) (gr : Nat) (r : RS) (e : Ending) (w' : World) : Prop := ∃ vl vn g0, e = .returned (.tuple #[(rdM r).v vl vn, .int .i64 (rdE r)]) ∧ OwnT encN w' w.heap.size 49 vl (rdM r).ls ∧ Own .i64 w' w.heap.size 2 vn (rdM r).ns ∧ Chg gr w w' ∧ Rdr w' gr g0 (rdR r).z (rdR r).e
theorem fin_bad {w W : World} {gr g0 g2 : Nat} {r : RS} {vl vn : Value} {xs : List Lin} {ns : List Int} (hE : rdE r ≠ 0) (h : FEnd w gr g0 g2 W (rdR r) zero11 vl xs vn ns) : FromPost w gr r (.returned (.tuple #[.agg #[.int .i64 0, .int .i64 0, .int .i64 0, .int .i64 0, .int .i64 0, .int .i64 0, .int .i64 0, .int .i64 0, .bool false, .slice none 0 0, .slice none 0 0], .int .i64 (rdE r)])) W := by
  have hm : rdM r = msg0 := if_neg hE
  refine ⟨.slice none 0 0, .slice none 0 0, g0, ?_, ?_, ?_, h.chg, h.rd⟩
  · rw [hm]; rfl
  · rw [hm]; exact OwnT.nil_ _ _ _ _
  · rw [hm]; exact Own.nil_ _ _ _ _
theorem fin_good {w W : World} {gr g0 g2 : Nat} {r : RS} {vl vn : Value} (hb : badK r = false) (hE : (R13 r).e = 0) (h : FEnd w gr g0 g2 W (R13 r) (csL r vl vn) vl (rdLins (R10 r) (nLs r)) vn (rdNets (R12 r) (nNs r))) : FromPost w gr r (.returned (.tuple #[.agg (csL r vl vn), .int .i64 0])) W := by
  have hE2 : rdE r = 0 := by unfold rdE; rw [hb]; exact hE
  have hm : rdM r = rdAll r := if_pos hE2
  have hr : rdR r = R13 r := by unfold rdR; rw [hb]; rfl
  refine ⟨vl, vn, g0, ?_, ?_, ?_, h.chg, by rw [hr]; exact h.rd⟩
  · rw [hm, hE2]; rfl
  · rw [hm]; exact h.ol
  · rw [hm]; exact h.on
theorem one11 (k s n b c r y a : Int) (t : Bool) (p q : Option Addr) (i j u v : Nat) : (#[.int .i64 k, .int .i64 s, .int .i64 n, .int .i64 b, .int .i64 c, .int .i64 r, .int .i64 y, .int .i64 a, .bool t, .slice p i u, .slice q j v] : Array Value).all (·.oneCell') = true :=
  all_oneCell_toArray (by intro z hz; simp at hz; rcases hz with rfl | rfl | rfl | rfl | rfl | rfl | rfl | rfl | rfl | rfl | rfl <;> rfl)
theorem inf11 (cs : Array Value) (h : cs.size = 11) : (Try.prog.info? 29).map (·.size) = some cs.size := by rw [h]; kernel_rfl
theorem elt64 : Elt Try.prog 27 2 .i64 8 := elt_mk Try.underlying27 (by kernel_rfl)
theorem stop_appN {P : Program} {ops : Array Oper} {rest : List Oper} {o : Oper} {a : Act} {w : World} {Q : Exit → Act → World → Prop} (s x : Operand) (t : TypeId)
    (_ : o.op = .call { callee := .builtin .append, args := #[s, x], argTypes := #[t, t] }) (h : Hid (wpList P ops Q (o :: rest) a w)) : wpList P ops Q (o :: rest) a w := h
/-- The line's cells when j of its three numbers are read. -/
def lnC (r : RS) (j : Nat) : Array Value := #[.int .i64 (if 0 < j then r.nV else 0), .int .i64 (if 1 < j then r.nx.nV else 0), .int .i64 (if 2 < j then r.nx.nx.nV else 0), .int .i64 0]
def lnC4 (r : RS) : Array Value := #[.int .i64 r.nV, .int .i64 r.nx.nV, .int .i64 r.nx.nx.nV, .int .i64 r.nx.nx.nx.numV]
theorem lnC4_cells (r : RS) : (lnC4 r).toList = encN.E (rdLin r) := by unfold lnC4 encN rdLin Lin.cells; rfl
set_option maxHeartbeats 8000000 in
set_option maxRecDepth 100000 in
theorem from_any (gr g0 : Nat) (r : RS) (w : World) (hr : Rdr w gr g0 r.z r.e) (hg : r.Good) : Calls Try.prog 10 #[.pointer (some ⟨gr, 0, none⟩)] w (FromPost w gr r) := by
  obtain ⟨g0, hr, h0⟩ : ∃ g0, Rdr w gr g0 r.z r.e ∧ g0 ≤ w.heap.size := by
    rcases rdr_lt hr with h | h
    · exact ⟨w.heap.size, by rw [h] at hr ⊢; exact rdr_re hr (by have := hr.lt; omega), Nat.le_refl _⟩
    · exact ⟨g0, hr, Nat.le_of_lt h⟩
  have HR := Lib.hid hr
  have HG := Lib.hid hg
  have H0 := Lib.hid h0
  have HLW := Lib.hid hr.lt
  clear hr hg h0
  go_enter Try.func10, Try.ntmps10
  go_wp2_with fail
  have s1 : (w.alloc (.cells #[.pointer (some ⟨gr, 0, none⟩)] 39)).heap.size = w.heap.size + 1 := by simp
  have hb0 : Below w.heap.size w ((w.alloc (.cells #[.pointer (some ⟨gr, 0, none⟩)] 39)).alloc (.cells #[.int .i64 0, .int .i64 0, .int .i64 0, .int .i64 0, .int .i64 0, .int .i64 0, .int .i64 0, .int .i64 0, .bool false, .slice none 0 0, .slice none 0 0] 29)) := (oneB w _).trans ((oneB _ _).mono (by omega))
  have hk1 : Blk ((w.alloc (.cells #[.pointer (some ⟨gr, 0, none⟩)] 39)).alloc (.cells #[.int .i64 0, .int .i64 0, .int .i64 0, .int .i64 0, .int .i64 0, .int .i64 0, .int .i64 0, .int .i64 0, .bool false, .slice none 0 0, .slice none 0 0] 29)) w.heap.size #[.pointer (some ⟨gr, 0, none⟩)] 39 := (Blk.new w _ _).alloc _
  have hk2 : Blk ((w.alloc (.cells #[.pointer (some ⟨gr, 0, none⟩)] 39)).alloc (.cells #[.int .i64 0, .int .i64 0, .int .i64 0, .int .i64 0, .int .i64 0, .int .i64 0, .int .i64 0, .int .i64 0, .bool false, .slice none 0 0, .slice none 0 0] 29)) (w.heap.size + 1) zero11 29 := by rw [← s1]; exact Blk.new _ _ _
  generalize hW0 : (w.alloc (.cells #[.pointer (some ⟨gr, 0, none⟩)] 39)).alloc (.cells #[.int .i64 0, .int .i64 0, .int .i64 0, .int .i64 0, .int .i64 0, .int .i64 0, .int .i64 0, .int .i64 0, .bool false, .slice none 0 0, .slice none 0 0] 29) = W0 at *
  refine (next_any w.heap.size hk1 (HR.out.below hb0) HG.out).mono ?_
  rintro y W1 ⟨rfl, hc1, hr1⟩
  have HB0 := Lib.hid hb0
  have HK1 := Lib.hid (hk1.chg hc1 (by have := HLW.out; omega))
  have HK2 := Lib.hid (hk2.chg hc1 (by have := HLW.out; omega))
  have HF2 : Hid (FSt w gr g0 w.heap.size (w.heap.size + 1) W1.heap.size (W1.alloc (.cells #[.int .i64 r.nV, .int .i64 0, .int .i64 0, .int .i64 0, .int .i64 0, .int .i64 0, .int .i64 0, .int .i64 0, .bool false, .slice none 0 0, .slice none 0 0] 29)) r.nx (csK r 0) (.slice none 0 0) [] (.slice none 0 0) []) := by
    refine ⟨hr1.below (oneB _ _), (Chg.of_below HB0.out).trans (hc1.trans (Chg.of_below (oneB _ _))), HK1.out.alloc _, HK2.out.alloc _, Blk.new _ _ _, OwnT.nil_ _ _ _ _, Own.nil_ _ _ _ _, HG.out.nx, HLW.out, Nat.le_refl _, Nat.lt_succ_self _, HK2.out.lt, by have := H0.out; omega⟩
  clear hW0 s1 hb0 hk1 hk2 hc1 hr1 HK1 HK2 HB0
  go_upto_region 3 with fail
  generalize hW2 : W1.alloc (.cells #[.int .i64 r.nV, .int .i64 0, .int .i64 0, .int .i64 0, .int .i64 0, .int .i64 0, .int .i64 0, .int .i64 0, .bool false, .slice none 0 0, .slice none 0 0] 29) = W2 at *
  generalize hgm : W1.heap.size = gm at *
  generalize hg1 : w.heap.size = g1 at *
  have HG1 := Lib.hid hg1
  clear hW2 hgm hg1
  generalize hg2 : g1 + 1 = g2 at *
  clear hg2
  have cb1 : W2.cell? ⟨g1, 0, none⟩ = some (.pointer (some ⟨gr, 0, none⟩)) := HF2.out.b1.cell 0
  have cm0 : W2.cell? ⟨gm, 0, none⟩ = some (.int .i64 r.nV) := HF2.out.bm.cell 0
  go_cut [24] from 16 to 82 (fun c wx => c = .bool (badK r) ∧ wx = W2)
  case first =>
    go_wp2_with fail
    refine HF2.out.err.mono ?_
    rintro y w1 ⟨rfl, rfl⟩
    by_cases hE : r.nx.e = 0
    · rw [hE]
      go_wp2_with fail
      refine (known_any r.nV W2).mono ?_
      rintro y w1 ⟨rfl, rfl⟩
      generalize hk : okK r.nV = bk at *
      have HBAD : Hid (badK r = !bk) := by show _ = _; unfold badK; rw [hE, hk]; rfl
      clear hE hk
      cases bk
      · go_wp2_with fail
        go_meet
        exact ⟨by rw [HBAD.out]; rfl, rfl⟩
      · go_wp2_with fail
        go_meet
        exact ⟨by rw [HBAD.out]; rfl, rfl⟩
    · have HBAD : Hid (badK r = false) := by show _ = _; unfold badK; simp [hE]
      have he : (r.nx.e == 0) = false := by simpa using hE
      go_wp2_with fail
      go_meet
      exact ⟨by rw [HBAD.out], rfl⟩
  obtain ⟨rfl, rfl⟩ := hcut
  generalize hbk : badK r = bk at *
  have HBK := Lib.hid hbk
  clear hbk
  cases bk
  · go_wp2_with fail
    refine (mnums_any gm _).mono ?_
    rintro y W3 ⟨rfl, hb3⟩
    have HF3 := Lib.hid (HF2.out.below hb3)
    clear hb3 HF2 cb1 cm0
    go_wp2_with fail
    go_loopw [27] (fun i wr => ∃ k : Nat, k ≤ 6 ∧ i = .int .i64 k ∧ Hid (FSt w gr g0 g1 g2 gm wr (r.nxs (k + 1)) (csK r k) (.slice none 0 0) [] (.slice none 0 0) [])) (fun i _ => 6 - (intOf i).toNat)
    case atStart => exact ⟨0, by omega, rfl, HF3.out⟩
    case round =>
      obtain ⟨k, hk, rfl, HF⟩ := hrel
      clear HF3
      match k, hk with
      | 0, _ =>
        rw [show (((0 : Nat) : Int)) = (0 : Int) from rfl]
        have hix : (Instr.index 60 (.agg #[.pointer (some ⟨gm, 1, none⟩), .pointer (some ⟨gm, 2, none⟩), .pointer (some ⟨gm, 3, none⟩), .pointer (some ⟨gm, 4, none⟩), .pointer (some ⟨gm, 5, none⟩), .pointer (some ⟨gm, 6, none⟩)]) (.int .i64 0)).run Try.prog wr = .ok (.pointer (some ⟨gm, 1, none⟩)) wr := by simp [Instr.index, go_sem]
        go_wp2_with fail
        refine HF.out.next.mono ?_
        rintro y W4 ⟨rfl, hf4, _⟩
        have hcm := hf4.bm.cell 1
        have hfm := hf4.bm.free 1
        have hlm := hf4.bm.lt
        have hcm' : W4.cell? ⟨gm, 1, none⟩ = some (.int .i64 0) := hcm
        have HF5 : Hid (FSt w gr g0 g1 g2 gm (W4.setCell ⟨gm, 1, none⟩ (.int .i64 (r.nxs 1).nV)) (r.nxs (1 + 1)) (csK r 1) (.slice none 0 0) [] (.slice none 0 0) []) := hf4.set 1 _
        clear hcm hf4 hix HF
        go_wp2_with fail
        go_roundw
        case rel => exact ⟨1, by omega, by go_num, HF5⟩
        case measure => simp [intOf]
      | 1, _ =>
        rw [show (((1 : Nat) : Int)) = (1 : Int) from rfl]
        have hix : (Instr.index 60 (.agg #[.pointer (some ⟨gm, 1, none⟩), .pointer (some ⟨gm, 2, none⟩), .pointer (some ⟨gm, 3, none⟩), .pointer (some ⟨gm, 4, none⟩), .pointer (some ⟨gm, 5, none⟩), .pointer (some ⟨gm, 6, none⟩)]) (.int .i64 1)).run Try.prog wr = .ok (.pointer (some ⟨gm, 2, none⟩)) wr := by simp [Instr.index, go_sem]
        go_wp2_with fail
        refine HF.out.next.mono ?_
        rintro y W4 ⟨rfl, hf4, _⟩
        have hcm := hf4.bm.cell 2
        have hfm := hf4.bm.free 2
        have hlm := hf4.bm.lt
        have hcm' : W4.cell? ⟨gm, 2, none⟩ = some (.int .i64 0) := hcm
        have HF5 : Hid (FSt w gr g0 g1 g2 gm (W4.setCell ⟨gm, 2, none⟩ (.int .i64 (r.nxs 2).nV)) (r.nxs (2 + 1)) (csK r 2) (.slice none 0 0) [] (.slice none 0 0) []) := hf4.set 2 _
        clear hcm hf4 hix HF
        go_wp2_with fail
        go_roundw
        case rel => exact ⟨2, by omega, by go_num, HF5⟩
        case measure => simp [intOf]
      | 2, _ =>
        rw [show (((2 : Nat) : Int)) = (2 : Int) from rfl]
        have hix : (Instr.index 60 (.agg #[.pointer (some ⟨gm, 1, none⟩), .pointer (some ⟨gm, 2, none⟩), .pointer (some ⟨gm, 3, none⟩), .pointer (some ⟨gm, 4, none⟩), .pointer (some ⟨gm, 5, none⟩), .pointer (some ⟨gm, 6, none⟩)]) (.int .i64 2)).run Try.prog wr = .ok (.pointer (some ⟨gm, 3, none⟩)) wr := by simp [Instr.index, go_sem]
        go_wp2_with fail
        refine HF.out.next.mono ?_
        rintro y W4 ⟨rfl, hf4, _⟩
        have hcm := hf4.bm.cell 3
        have hfm := hf4.bm.free 3
        have hlm := hf4.bm.lt
        have hcm' : W4.cell? ⟨gm, 3, none⟩ = some (.int .i64 0) := hcm
        have HF5 : Hid (FSt w gr g0 g1 g2 gm (W4.setCell ⟨gm, 3, none⟩ (.int .i64 (r.nxs 3).nV)) (r.nxs (3 + 1)) (csK r 3) (.slice none 0 0) [] (.slice none 0 0) []) := hf4.set 3 _
        clear hcm hf4 hix HF
        go_wp2_with fail
        go_roundw
        case rel => exact ⟨3, by omega, by go_num, HF5⟩
        case measure => simp [intOf]
      | 3, _ =>
        rw [show (((3 : Nat) : Int)) = (3 : Int) from rfl]
        have hix : (Instr.index 60 (.agg #[.pointer (some ⟨gm, 1, none⟩), .pointer (some ⟨gm, 2, none⟩), .pointer (some ⟨gm, 3, none⟩), .pointer (some ⟨gm, 4, none⟩), .pointer (some ⟨gm, 5, none⟩), .pointer (some ⟨gm, 6, none⟩)]) (.int .i64 3)).run Try.prog wr = .ok (.pointer (some ⟨gm, 4, none⟩)) wr := by simp [Instr.index, go_sem]
        go_wp2_with fail
        refine HF.out.next.mono ?_
        rintro y W4 ⟨rfl, hf4, _⟩
        have hcm := hf4.bm.cell 4
        have hfm := hf4.bm.free 4
        have hlm := hf4.bm.lt
        have hcm' : W4.cell? ⟨gm, 4, none⟩ = some (.int .i64 0) := hcm
        have HF5 : Hid (FSt w gr g0 g1 g2 gm (W4.setCell ⟨gm, 4, none⟩ (.int .i64 (r.nxs 4).nV)) (r.nxs (4 + 1)) (csK r 4) (.slice none 0 0) [] (.slice none 0 0) []) := hf4.set 4 _
        clear hcm hf4 hix HF
        go_wp2_with fail
        go_roundw
        case rel => exact ⟨4, by omega, by go_num, HF5⟩
        case measure => simp [intOf]
      | 4, _ =>
        rw [show (((4 : Nat) : Int)) = (4 : Int) from rfl]
        have hix : (Instr.index 60 (.agg #[.pointer (some ⟨gm, 1, none⟩), .pointer (some ⟨gm, 2, none⟩), .pointer (some ⟨gm, 3, none⟩), .pointer (some ⟨gm, 4, none⟩), .pointer (some ⟨gm, 5, none⟩), .pointer (some ⟨gm, 6, none⟩)]) (.int .i64 4)).run Try.prog wr = .ok (.pointer (some ⟨gm, 5, none⟩)) wr := by simp [Instr.index, go_sem]
        go_wp2_with fail
        refine HF.out.next.mono ?_
        rintro y W4 ⟨rfl, hf4, _⟩
        have hcm := hf4.bm.cell 5
        have hfm := hf4.bm.free 5
        have hlm := hf4.bm.lt
        have hcm' : W4.cell? ⟨gm, 5, none⟩ = some (.int .i64 0) := hcm
        have HF5 : Hid (FSt w gr g0 g1 g2 gm (W4.setCell ⟨gm, 5, none⟩ (.int .i64 (r.nxs 5).nV)) (r.nxs (5 + 1)) (csK r 5) (.slice none 0 0) [] (.slice none 0 0) []) := hf4.set 5 _
        clear hcm hf4 hix HF
        go_wp2_with fail
        go_roundw
        case rel => exact ⟨5, by omega, by go_num, HF5⟩
        case measure => simp [intOf]
      | 5, _ =>
        rw [show (((5 : Nat) : Int)) = (5 : Int) from rfl]
        have hix : (Instr.index 60 (.agg #[.pointer (some ⟨gm, 1, none⟩), .pointer (some ⟨gm, 2, none⟩), .pointer (some ⟨gm, 3, none⟩), .pointer (some ⟨gm, 4, none⟩), .pointer (some ⟨gm, 5, none⟩), .pointer (some ⟨gm, 6, none⟩)]) (.int .i64 5)).run Try.prog wr = .ok (.pointer (some ⟨gm, 6, none⟩)) wr := by simp [Instr.index, go_sem]
        go_wp2_with fail
        refine HF.out.next.mono ?_
        rintro y W4 ⟨rfl, hf4, _⟩
        have hcm := hf4.bm.cell 6
        have hfm := hf4.bm.free 6
        have hlm := hf4.bm.lt
        have hcm' : W4.cell? ⟨gm, 6, none⟩ = some (.int .i64 0) := hcm
        have HF5 : Hid (FSt w gr g0 g1 g2 gm (W4.setCell ⟨gm, 6, none⟩ (.int .i64 (r.nxs 6).nV)) (r.nxs (6 + 1)) (csK r 6) (.slice none 0 0) [] (.slice none 0 0) []) := hf4.set 6 _
        clear hcm hf4 hix HF
        go_wp2_with fail
        go_roundw
        case rel => exact ⟨6, by omega, by go_num, HF5⟩
        case measure => simp [intOf]
      | 6, _ =>
        have HF6 : Hid (FSt w gr g0 g1 g2 gm wr (R7 r) (csK r 6) (.slice none 0 0) [] (.slice none 0 0) []) := HF.out
        have cb1 : wr.cell? ⟨g1, 0, none⟩ = some (.pointer (some ⟨gr, 0, none⟩)) := HF.out.b1.cell 0
        clear HF
        go_upto_region 10 with fail
        have HFD := Lib.hid (HF6.out.below (Below.refl _ _).drew)
        refine wp_region_held_drew (S := fun w' => w'.cell? ⟨g1, 0, none⟩ = some (.pointer (some ⟨gr, 0, none⟩))) (by kernel_rfl) cb1 (fun hS0 => ?_)
        refine wpAnyH_take (i := 0) (v := ?_) rfl (by kernel_rfl) (by kernel_rfl) (by kernel_rfl) (fun _ _ _ h => h) (Or.inl ⟨by kernel_rfl, ?_⟩) (by first | assumption | trivial) ?_
        rotate_left
        · intro w hSw
          try dsimp only at hSw
          first | (go_simp; done) | (go_simp; with_reducible rfl)
        try simp only [Act.put, List.getElem_toArray, List.getElem_cons_succ, List.getElem_cons_zero, List.setIfInBounds_toArray, List.set_cons_zero, List.set_cons_succ]
        refine wpAnyH_take (i := 2) (v := ?_) rfl (by kernel_rfl) (by kernel_rfl) (by kernel_rfl) (fun _ _ _ h => h) (Or.inl ⟨by kernel_rfl, ?_⟩) (by first | assumption | trivial) ?_
        rotate_left
        · intro w hSw
          try dsimp only at hSw
          first | (go_simp; done) | (go_simp; with_reducible rfl)
        try simp only [Act.put, List.getElem_toArray, List.getElem_cons_succ, List.getElem_cons_zero, List.setIfInBounds_toArray, List.set_cons_zero, List.set_cons_succ]
        refine wpAnyH_ready (rs := [1]) (by kernel_rfl) (by simp) ?_
        refine AllReadyH.cons rfl (fun K hK => ?_) AllReadyH.nil
        go_simp
        go_at_call 23
        refine (HFD.out.num).mono ?_
        rintro y W4 ⟨rfl, hf4, _⟩
        have cb4 : W4.cell? ⟨g1, 0, none⟩ = some (.pointer (some ⟨gr, 0, none⟩)) := hf4.b1.cell 0
        have HF4 := Lib.hid hf4
        clear hf4
        try go_wp2_with fail
        refine hK.out _ _ cb4 (fun hS => ?_)
        clear hK K
        try simp only [Act.put, List.getElem_toArray, List.getElem_cons_succ, List.getElem_cons_zero, List.setIfInBounds_toArray, List.set_cons_zero, List.set_cons_succ]
        refine wpAnyH_ready (rs := [3]) (by kernel_rfl) (by simp) ?_
        refine AllReadyH.cons rfl (fun K hK => ?_) AllReadyH.nil
        go_simp
        go_at_call 24
        refine (HF4.out.bool).mono ?_
        rintro y W5 ⟨rfl, hf5, _⟩
        have cb5 : W5.cell? ⟨g1, 0, none⟩ = some (.pointer (some ⟨gr, 0, none⟩)) := hf5.b1.cell 0
        have cm7 : W5.cell? ⟨gm, 7, none⟩ = some (.int .i64 0) := hf5.bm.cell 7
        have fm7 := hf5.bm.free 7
        have lm7 := hf5.bm.lt
        have hf6 := hf5.set 7 (.int .i64 (R7 r).numV)
        have cm8 : (W5.setCell ⟨gm, 7, none⟩ (.int .i64 (R7 r).numV)).cell? ⟨gm, 8, none⟩ = some (.bool false) := hf6.bm.cell 8
        have fm8 := hf6.bm.free 8
        have lm8 := hf6.bm.lt
        have cb6 : (W5.setCell ⟨gm, 7, none⟩ (.int .i64 (R7 r).numV)).cell? ⟨g1, 0, none⟩ = some (.pointer (some ⟨gr, 0, none⟩)) := hf6.b1.cell 0
        have hf7 := hf6.set 8 (.bool (R7 r).num.boolV)
        have cb7 : ((W5.setCell ⟨gm, 7, none⟩ (.int .i64 (R7 r).numV)).setCell ⟨gm, 8, none⟩ (.bool (R7 r).num.boolV)).cell? ⟨g1, 0, none⟩ = some (.pointer (some ⟨gr, 0, none⟩)) := hf7.b1.cell 0
        have HF7 : Hid (FSt w gr g0 g1 g2 gm ((W5.setCell ⟨gm, 7, none⟩ (.int .i64 (R7 r).numV)).setCell ⟨gm, 8, none⟩ (.bool (R7 r).num.boolV)) (R9 r) (csL r (.slice none 0 0) (.slice none 0 0)) (.slice none 0 0) [] (.slice none 0 0) []) := hf7
        clear hf5 hf6 hf7 HF4 HFD HF6
        try go_wp2_with fail
        refine hK.out _ _ cb5 (fun hS => ?_)
        clear hK K
        try simp only [Act.put, List.getElem_toArray, List.getElem_cons_succ, List.getElem_cons_zero, List.setIfInBounds_toArray, List.set_cons_zero, List.set_cons_succ]
        refine wpAnyH_take (i := 4) (v := ?_) rfl (by kernel_rfl) (by kernel_rfl) (by kernel_rfl) (fun _ _ _ h => h) (Or.inl ⟨by kernel_rfl, ?_⟩) (by first | assumption | trivial) ?_
        rotate_left
        · intro w hSw
          try dsimp only at hSw
          first | (go_simp; done) | (go_simp; with_reducible rfl)
        try simp only [Act.put, List.getElem_toArray, List.getElem_cons_succ, List.getElem_cons_zero, List.setIfInBounds_toArray, List.set_cons_zero, List.set_cons_succ]
        refine wpAnyH_ready (rs := [5]) (by kernel_rfl) (by simp) ?_
        refine AllReadyH.cons rfl (fun K hK => ?_) AllReadyH.nil
        go_simp
        refine hK.out _ _ cb6 (fun hS => ?_)
        clear hK K
        try simp only [Act.put, List.getElem_toArray, List.getElem_cons_succ, List.getElem_cons_zero, List.setIfInBounds_toArray, List.set_cons_zero, List.set_cons_succ]
        refine wpAnyH_take (i := 6) (v := ?_) rfl (by kernel_rfl) (by kernel_rfl) (by kernel_rfl) (fun _ _ _ h => h) (Or.inl ⟨by kernel_rfl, ?_⟩) (by first | assumption | trivial) ?_
        rotate_left
        · intro w hSw
          try dsimp only at hSw
          first | (go_simp; done) | (go_simp; with_reducible rfl)
        try simp only [Act.put, List.getElem_toArray, List.getElem_cons_succ, List.getElem_cons_zero, List.setIfInBounds_toArray, List.set_cons_zero, List.set_cons_succ]
        refine wpAnyH_ready (rs := [7]) (by kernel_rfl) (by simp) ?_
        refine AllReadyH.cons rfl (fun K hK => ?_) AllReadyH.nil
        go_simp
        refine hK.out _ _ cb7 (fun hS => ?_)
        clear hK K
        try simp only [Act.put, List.getElem_toArray, List.getElem_cons_succ, List.getElem_cons_zero, List.setIfInBounds_toArray, List.set_cons_zero, List.set_cons_succ]
        refine wpAnyH_done (by kernel_rfl) ?_ _
        go_wp2_with fail
        generalize hW7 : ((W5.setCell ⟨gm, 7, none⟩ (.int .i64 (R7 r).numV)).setCell ⟨gm, 8, none⟩ (.bool (R7 r).num.boolV)) = W7 at *
        clear hW7 cm7 fm7 lm7 cm8 fm8 lm8 cb6 cb7 cb5 cb4 cb1
        refine (HF7.out.int 0 1024).mono ?_
        rintro y W8 ⟨rfl, hf8, _⟩
        rw [(nLs_eq r).1]
        have HNL := Lib.hid (nLs_eq r).2
        have HF8 : Hid (FSt w gr g0 g1 g2 gm W8 ((R10 r).lins 0) (csL r (.slice none 0 0) (.slice none 0 0)) (.slice none 0 0) (rdLins (R10 r) 0) (.slice none 0 0) []) := hf8
        have HNLR : Hid (R11 r = (R10 r).lins (nLs r) ∧ rdLins (R10 r) (nLs r) = rdLins (R10 r) (nLs r)) := ⟨rfl, rfl⟩
        obtain ⟨nl, hnl⟩ : ∃ n, nLs r = n := ⟨_, rfl⟩
        rw [hnl] at HNL HNLR
        have HNL2 := Lib.hid hnl
        rw [hnl]
        clear hf8 HF7 hnl
        go_wp2_with fail
        go_loopw [43] (fun i wr => ∃ k : Nat, k ≤ nl ∧ i = .int .i64 k ∧ Hid (∃ vl, FSt w gr g0 g1 g2 gm wr ((R10 r).lins k) (csL r vl (.slice none 0 0)) vl (rdLins (R10 r) k) (.slice none 0 0) [])) (fun i _ => nl - (intOf i).toNat)
        case atStart => exact ⟨0, by omega, rfl, ⟨_, HF8.out⟩⟩
        case round =>
          obtain ⟨k, hk, rfl, HFE⟩ := hrel
          obtain ⟨vl, hf⟩ := HFE.out
          clear HF8 HFE
          have hnl := HNL.out
          obtain ⟨pv, cv, hvl⟩ := hf.ol.form
          rw [rdLins_len] at hvl
          subst hvl
          obtain ⟨RK, hRK⟩ : ∃ RK, (R10 r).lins k = RK := ⟨_, rfl⟩
          rw [hRK] at hf
          have HRK := Lib.hid hRK
          clear hRK
          by_cases hlt : k < nl
          · have hltI : (k : Int) < (nl : Int) := by omega
            have HQ0 := Lib.hid (Blk.new wr #[.int .i64 0, .int .i64 0, .int .i64 0, .int .i64 0] 49)
            have HF9 := Lib.hid (hf.below (oneB wr (.cells #[.int .i64 0, .int .i64 0, .int .i64 0, .int .i64 0] 49)))
            have HQG : Hid (gm < wr.heap.size ∧ (Value.slice pv k cv).ownBlock ≠ some wr.heap.size) := ⟨hf.bm.lt, fun e => by have := hf.ol.lt _ e; omega⟩
            clear hf
            go_wp2_with fail
            generalize hW9 : wr.alloc (.cells #[.int .i64 0, .int .i64 0, .int .i64 0, .int .i64 0] 49) = W9 at *
            generalize hq : wr.heap.size = q at *
            clear hW9 hq
            refine (lnumbers_any q W9).mono ?_
            rintro y W10 ⟨rfl, hb10⟩
            have HF10 : Hid (FSt w gr g0 g1 g2 gm W10 (RK.nxs 0) (csL r (.slice pv k cv) (.slice none 0 0)) (.slice pv k cv) (rdLins (R10 r) k) (.slice none 0 0) []) := HF9.out.below hb10
            have HQ10 : Hid (Blk W10 q (lnC RK 0) 49) := HQ0.out.below hb10 HQ0.out.lt
            clear hb10 HF9 HQ0
            go_wp2_with fail
            go_loopw [46] (fun i wr => ∃ j : Nat, j ≤ 3 ∧ i = .int .i64 j ∧ Hid (FSt w gr g0 g1 g2 gm wr (RK.nxs j) (csL r (.slice pv k cv) (.slice none 0 0)) (.slice pv k cv) (rdLins (R10 r) k) (.slice none 0 0) [] ∧ Blk wr q (lnC RK j) 49)) (fun i _ => 3 - (intOf i).toNat)
            case atStart => exact ⟨0, by omega, rfl, HF10.out, HQ10.out⟩
            case round =>
              obtain ⟨j, hj, rfl, HFQ⟩ := hrel
              clear HF10 HQ10
              match j, hj with
              | 0, _ =>
                rw [show (((0 : Nat) : Int)) = (0 : Int) from rfl]
                have hix : (Instr.index 64 (.agg #[.pointer (some ⟨q, 0, none⟩), .pointer (some ⟨q, 1, none⟩), .pointer (some ⟨q, 2, none⟩)]) (.int .i64 0)).run Try.prog wr = .ok (.pointer (some ⟨q, 0, none⟩)) wr := by simp [Instr.index, go_sem]
                go_wp2_with fail
                refine HFQ.out.1.next.mono ?_
                rintro y W11 ⟨rfl, hf11, hc11⟩
                have hq11 := HFQ.out.2.chg hc11 (by have h1 := HFQ.out.1.low; have h2 := HFQ.out.1.ord; have h3 := HQG.out.1; omega)
                have hcq : W11.cell? ⟨q, 0, none⟩ = some (.int .i64 0) := hq11.cell 0
                have hfq := hq11.free 0
                have hlq := hq11.lt
                have HF12 : Hid (FSt w gr g0 g1 g2 gm (W11.setCell ⟨q, 0, none⟩ (.int .i64 (RK.nxs 0).nV)) (RK.nxs 1) (csL r (.slice pv k cv) (.slice none 0 0)) (.slice pv k cv) (rdLins (R10 r) k) (.slice none 0 0) []) := hf11.setQ q 0 _ HQG.out.1 HQG.out.2 (by intro e; cases e)
                have HQ12 : Hid (Blk (W11.setCell ⟨q, 0, none⟩ (.int .i64 (RK.nxs 0).nV)) q (lnC RK 1) 49) := hq11.set 0 _
                clear hf11 hc11 hq11 hix HFQ
                go_wp2_with fail
                go_roundw
                case rel => exact ⟨1, by omega, by go_num, HF12.out, HQ12.out⟩
                case measure => simp [intOf]
              | 1, _ =>
                rw [show (((1 : Nat) : Int)) = (1 : Int) from rfl]
                have hix : (Instr.index 64 (.agg #[.pointer (some ⟨q, 0, none⟩), .pointer (some ⟨q, 1, none⟩), .pointer (some ⟨q, 2, none⟩)]) (.int .i64 1)).run Try.prog wr = .ok (.pointer (some ⟨q, 1, none⟩)) wr := by simp [Instr.index, go_sem]
                go_wp2_with fail
                refine HFQ.out.1.next.mono ?_
                rintro y W11 ⟨rfl, hf11, hc11⟩
                have hq11 := HFQ.out.2.chg hc11 (by have h1 := HFQ.out.1.low; have h2 := HFQ.out.1.ord; have h3 := HQG.out.1; omega)
                have hcq : W11.cell? ⟨q, 1, none⟩ = some (.int .i64 0) := hq11.cell 1
                have hfq := hq11.free 1
                have hlq := hq11.lt
                have HF12 : Hid (FSt w gr g0 g1 g2 gm (W11.setCell ⟨q, 1, none⟩ (.int .i64 (RK.nxs 1).nV)) (RK.nxs 2) (csL r (.slice pv k cv) (.slice none 0 0)) (.slice pv k cv) (rdLins (R10 r) k) (.slice none 0 0) []) := hf11.setQ q 1 _ HQG.out.1 HQG.out.2 (by intro e; cases e)
                have HQ12 : Hid (Blk (W11.setCell ⟨q, 1, none⟩ (.int .i64 (RK.nxs 1).nV)) q (lnC RK 2) 49) := hq11.set 1 _
                clear hf11 hc11 hq11 hix HFQ
                go_wp2_with fail
                go_roundw
                case rel => exact ⟨2, by omega, by go_num, HF12.out, HQ12.out⟩
                case measure => simp [intOf]
              | 2, _ =>
                rw [show (((2 : Nat) : Int)) = (2 : Int) from rfl]
                have hix : (Instr.index 64 (.agg #[.pointer (some ⟨q, 0, none⟩), .pointer (some ⟨q, 1, none⟩), .pointer (some ⟨q, 2, none⟩)]) (.int .i64 2)).run Try.prog wr = .ok (.pointer (some ⟨q, 2, none⟩)) wr := by simp [Instr.index, go_sem]
                go_wp2_with fail
                refine HFQ.out.1.next.mono ?_
                rintro y W11 ⟨rfl, hf11, hc11⟩
                have hq11 := HFQ.out.2.chg hc11 (by have h1 := HFQ.out.1.low; have h2 := HFQ.out.1.ord; have h3 := HQG.out.1; omega)
                have hcq : W11.cell? ⟨q, 2, none⟩ = some (.int .i64 0) := hq11.cell 2
                have hfq := hq11.free 2
                have hlq := hq11.lt
                have HF12 : Hid (FSt w gr g0 g1 g2 gm (W11.setCell ⟨q, 2, none⟩ (.int .i64 (RK.nxs 2).nV)) (RK.nxs 3) (csL r (.slice pv k cv) (.slice none 0 0)) (.slice pv k cv) (rdLins (R10 r) k) (.slice none 0 0) []) := hf11.setQ q 2 _ HQG.out.1 HQG.out.2 (by intro e; cases e)
                have HQ12 : Hid (Blk (W11.setCell ⟨q, 2, none⟩ (.int .i64 (RK.nxs 2).nV)) q (lnC RK 3) 49) := hq11.set 2 _
                clear hf11 hc11 hq11 hix HFQ
                go_wp2_with fail
                go_roundw
                case rel => exact ⟨3, by omega, by go_num, HF12.out, HQ12.out⟩
                case measure => simp [intOf]
              | 3, _ =>
                obtain ⟨hf, hq⟩ := HFQ.out
                have cb1 : wr.cell? ⟨g1, 0, none⟩ = some (.pointer (some ⟨gr, 0, none⟩)) := hf.b1.cell 0
                have HF11 := Lib.hid hf
                have HQ11 := Lib.hid hq
                clear hf hq HFQ
                go_wp2_with fail
                refine HF11.out.num.mono ?_
                rintro y W12 ⟨rfl, hf12, hc12⟩
                have hq12 := HQ11.out.chg hc12 (by have h1 := HF11.out.low; have h2 := HF11.out.ord; have h3 := HQG.out.1; omega)
                have hc3 : W12.cell? ⟨q, 3, none⟩ = some (.int .i64 0) := hq12.cell 3
                have hf3 := hq12.free 3
                have hl3 := hq12.lt
                have HF13 := Lib.hid (hf12.setQ q 3 (.int .i64 (RK.nxs 3).numV) HQG.out.1 HQG.out.2 (by intro e; cases e))
                have HQ13 : Hid (Blk (W12.setCell ⟨q, 3, none⟩ (.int .i64 (RK.nxs 3).numV)) q (lnC4 RK) 49) := hq12.set 3 _
                have x0 := HQ13.out.cell 0
                have x1 := HQ13.out.cell 1
                have x2 := HQ13.out.cell 2
                have x3 := HQ13.out.cell 3
                have cm9 := HF13.out.bm.cell 9
                unfold lnC4 at x0 x1 x2 x3
                unfold csL at cm9
                clear hf12 hc12 hq12 HF11 HQ11 cb1
                go_wp2_with (at_builtin; with_reducible refine stop_appN (.tmp 58) (.tmp 60) 26 rfl ?_)
                have HS13 : Hid ((W12.setCell ⟨q, 3, none⟩ (.int .i64 (RK.nxs 3).numV)).heap.size = W12.heap.size) := by show _ = _; simp
                have HX : Hid (∃ LC, lnC4 RK = LC) := ⟨_, rfl⟩
                have HK1 : Hid (rdLins (R10 r) (k + 1) = rdLins (R10 r) k ++ [rdLin RK]) := by show _ = _; rw [rdLins, HRK.out]
                have HK2 : Hid ((R10 r).lins (k + 1) = (RK.nxs 3).num) := by show _ = _; rw [RS.lins, HRK.out]; rfl
                refine wpList_append_t rfl (.tmp 58) (.tmp 60) 26 rfl 49 zeroVN 32 (gm + 1) eltN rfl (by decide) (.slice pv k cv) (.slice (some ⟨W12.heap.size, 0, none⟩) 1 1) (rdLins (R10 r) k) [rdLin RK] rfl rfl (HF13.out.ol.later (oneB _ _)) (TRow.one_ encN (rdLin RK) (Blk.new' _ _ _ HS13.out.symm) (lnC4_cells RK) (by decide)) (by rw [rdLins_len]; simp; omega) (by have := HF13.out.bm.lt; simp at this ⊢; omega) _ (k + 1) HK1.out.symm (rdLins_len _ _) ?_
                intro p14 c14 W14 ho14 hg14 hb14
                have hf14 := (HF13.out.below (oneB _ _)).grownL hg14 ho14 (fun b hb => by cases hb)
                have cm14 : W14.cell? ⟨gm, 9, none⟩ = some (.slice pv k cv) := hf14.bm.cell 9
                have fm14 := hf14.bm.free 9
                have lm14 := hf14.bm.lt
                have HF15 : Hid (FSt w gr g0 g1 g2 gm (W14.setCell ⟨gm, 9, none⟩ (.slice p14 (k + 1) c14)) ((R10 r).lins (k + 1)) (csL r (.slice p14 (k + 1) c14) (.slice none 0 0)) (.slice p14 (k + 1) c14) (rdLins (R10 r) (k + 1)) (.slice none 0 0) []) := by
                  show FSt _ _ _ _ _ _ _ _ _ _ _ _ _
                  rw [HK2.out]
                  exact hf14.set 9 _
                clear hf14 ho14 hg14 hb14 HF13 HQ13 x0 x1 x2 x3 cm9 hc3 hf3 hl3
                go_wp2_with fail
                go_roundw
                case rel => exact ⟨k + 1, by omega, by go_num, ⟨_, HF15.out⟩⟩
                case measure => simp [intOf]; omega
          · have hle : (nl : Int) ≤ (k : Int) := by omega
            have hkk : k = nl := by omega
            subst hkk
            have cb1 : wr.cell? ⟨g1, 0, none⟩ = some (.pointer (some ⟨gr, 0, none⟩)) := hf.b1.cell 0
            have HF16 : Hid (FSt w gr g0 g1 g2 gm wr (R11 r) (csL r (.slice pv k cv) (.slice none 0 0)) (.slice pv k cv) (rdLins (R10 r) k) (.slice none 0 0) []) := by
              show FSt _ _ _ _ _ _ _ _ _ _ _ _ _
              rw [HNLR.out.1, HRK.out]; exact hf
            clear hf HRK
            generalize hvl : (Value.slice pv k cv) = vl at *
            have HVL := Lib.hid hvl
            clear hvl
            go_wp2_with fail
            refine (HF16.out.int 0 8).mono ?_
            rintro y W17 ⟨rfl, hf17, _⟩
            rw [(nNs_eq r).1]
            have HNN := Lib.hid (nNs_eq r).2
            have HF17 : Hid (FSt w gr g0 g1 g2 gm W17 ((R12 r).nets 0) (csL r vl (.slice none 0 0)) vl (rdLins (R10 r) k) (.slice none 0 0) (rdNets (R12 r) 0)) := hf17
            have HNNR : Hid (R13 r = (R12 r).nets (nNs r)) := rfl
            obtain ⟨nn, hnn⟩ : ∃ n, nNs r = n := ⟨_, rfl⟩
            rw [hnn] at HNN HNNR
            have HNN2 := Lib.hid hnn
            rw [hnn]
            clear hf17 HF16 hnn cb1
            go_wp2_with fail
            go_loopw [66] (fun i wr => ∃ j : Nat, j ≤ nn ∧ i = .int .i64 j ∧ Hid (∃ vn, FSt w gr g0 g1 g2 gm wr ((R12 r).nets j) (csL r vl vn) vl (rdLins (R10 r) k) vn (rdNets (R12 r) j) ∧ ∀ b, vl.ownBlock = some b → vn.ownBlock ≠ some b)) (fun i _ => nn - (intOf i).toNat)
            case atStart => exact ⟨0, by omega, rfl, ⟨_, HF17.out, fun b _ hb => by cases hb⟩⟩
            case round =>
              obtain ⟨j, hj, rfl, HFE⟩ := hrel
              obtain ⟨vn, hf, hd⟩ := HFE.out
              clear HF17 HFE
              have hnn := HNN.out
              have HD := Lib.hid hd
              obtain ⟨pn, cn, hvn⟩ := hf.on.form
              rw [rdNets_len] at hvn
              subst hvn
              obtain ⟨RJ, hRJ⟩ : ∃ RJ, (R12 r).nets j = RJ := ⟨_, rfl⟩
              rw [hRJ] at hf
              have HRJ := Lib.hid hRJ
              clear hRJ hd
              by_cases hlt : j < nn
              · have hltI : (j : Int) < (nn : Int) := by omega
                have cb1 : wr.cell? ⟨g1, 0, none⟩ = some (.pointer (some ⟨gr, 0, none⟩)) := hf.b1.cell 0
                have cm10 : wr.cell? ⟨gm, 10, none⟩ = some (.slice pn j cn) := hf.bm.cell 10
                have HF18 := Lib.hid hf
                clear hf
                go_upto_region 24 with fail
                have HF18d := Lib.hid (HF18.out.below (Below.refl _ _).drew)
                have HNS : Hid (rdNets (R12 r) (j + 1) = rdNets (R12 r) j ++ [RJ.numV]) := by show _ = _; rw [rdNets, HRJ.out]
                have HNR : Hid ((R12 r).nets (j + 1) = RJ.num) := by show _ = _; rw [RS.nets, HRJ.out]
                refine wp_region_held_drew (S := fun w' => w'.cell? ⟨g1, 0, none⟩ = some (.pointer (some ⟨gr, 0, none⟩))) (by kernel_rfl) cb1 (fun hS0 => ?_)
                refine wpAnyH_take (i := 0) (v := ?_) rfl (by kernel_rfl) (by kernel_rfl) (by kernel_rfl) (fun _ _ _ h => h) (Or.inl ⟨by kernel_rfl, ?_⟩) (by first | assumption | trivial) ?_
                rotate_left
                · intro w hSw
                  try dsimp only at hSw
                  first | (go_simp; done) | (go_simp; with_reducible rfl)
                try simp only [Act.put, List.getElem_toArray, List.getElem_cons_succ, List.getElem_cons_zero, List.setIfInBounds_toArray, List.set_cons_zero, List.set_cons_succ]
                refine wpAnyH_take (i := 2) (v := ?_) rfl (by kernel_rfl) (by kernel_rfl) (by kernel_rfl) (fun _ _ _ h => h) (Or.inl ⟨by kernel_rfl, ?_⟩) (by first | assumption | trivial) ?_
                rotate_left
                · intro w hSw
                  try dsimp only at hSw
                  first | (go_simp; done) | (go_simp; with_reducible rfl)
                try simp only [Act.put, List.getElem_toArray, List.getElem_cons_succ, List.getElem_cons_zero, List.setIfInBounds_toArray, List.set_cons_zero, List.set_cons_succ]
                refine wpAnyH_ready (rs := [1, 3]) (by kernel_rfl) (by simp) ?_
                refine AllReadyH.cons rfl (fun K hK => ?_) (AllReadyH.cons rfl (fun K hK => ?_) (AllReadyH.nil))
                · skip
                  go_simp
                  refine hK.out _ _ cb1 (fun hS => ?_)
                  clear hK K
                  try simp only [Act.put, List.getElem_toArray, List.getElem_cons_succ, List.getElem_cons_zero, List.setIfInBounds_toArray, List.set_cons_zero, List.set_cons_succ]
                  refine wpAnyH_ready (rs := [3]) (by kernel_rfl) (by simp) ?_
                  refine AllReadyH.cons rfl (fun K hK => ?_) (AllReadyH.nil)
                  go_simp
                  go_at_call 23
                  refine HF18d.out.num.mono ?_
                  rintro y W18 ⟨rfl, hf18, _⟩
                  have cb18 : W18.cell? ⟨g1, 0, none⟩ = some (.pointer (some ⟨gr, 0, none⟩)) := hf18.b1.cell 0
                  have cm18 : W18.cell? ⟨gm, 10, none⟩ = some (.slice pn j cn) := hf18.bm.cell 10
                  have hf19 := hf18.below (oneB W18 (.cells #[.int .i64 RJ.numV] 2))
                  have cb19 : (W18.alloc (.cells #[.int .i64 RJ.numV] 2)).cell? ⟨g1, 0, none⟩ = some (.pointer (some ⟨gr, 0, none⟩)) := hf19.b1.cell 0
                  have cm19 : (W18.alloc (.cells #[.int .i64 RJ.numV] 2)).cell? ⟨gm, 10, none⟩ = some (.slice pn j cn) := hf19.bm.cell 10
                  have HF19 := Lib.hid hf19
                  clear hf18 hf19 HF18d HF18
                  try go_wp2_with fail
                  refine hK.out _ _ cb18 (fun hS => ?_)
                  clear hK K
                  try simp only [Act.put, List.getElem_toArray, List.getElem_cons_succ, List.getElem_cons_zero, List.setIfInBounds_toArray, List.set_cons_zero, List.set_cons_succ]
                  refine wpAnyH_ready (rs := [4]) (by kernel_rfl) (by simp) ?_
                  refine AllReadyH.cons rfl (fun K hK => ?_) (AllReadyH.nil)
                  go_simp
                  refine hK.out _ _ cb19 (fun hS => ?_)
                  clear hK K
                  try simp only [Act.put, List.getElem_toArray, List.getElem_cons_succ, List.getElem_cons_zero, List.setIfInBounds_toArray, List.set_cons_zero, List.set_cons_succ]
                  refine wpAnyH_ready (rs := [5]) (by kernel_rfl) (by simp) ?_
                  refine AllReadyH.cons rfl (fun K hK => ?_) AllReadyH.nil
                  refine step_append_g rfl (.tmp 69) (.tmp 72) 27 rfl 2 .i64 8 (gm + 1) elt64 (.slice pn j cn) (.slice (some ⟨W18.heap.size, 0, none⟩) 1 1) (rdNets (R12 r) j) [RJ.numV] rfl rfl HF19.out.on (Row.laid .i64 W18 2 [RJ.numV] #[.int .i64 RJ.numV] rfl (0, 0) 1 1 rfl (by simp)) (by rw [rdNets_len]; simp; omega) (by rw [rdNets_len]; simp; omega) (by have := HF19.out.bm.lt; omega) ?_
                  intro v20 W20 ho20 hg20 hor20
                  rw [← HNS.out] at ho20
                  obtain ⟨p20, c20, hv20⟩ := ho20.form
                  rw [rdNets_len] at hv20
                  have HD20 : Hid (∀ b, vl.ownBlock = some b → v20.ownBlock ≠ some b) := by
                    intro b hb e
                    rcases hor20 with h | h
                    · rw [h] at e; exact HD.out b hb e
                    · rw [h] at e; cases e; have := HF19.out.ol.lt _ hb; omega
                  have hf20 := HF19.out.grownN hg20 ho20 HD.out
                  subst hv20
                  have cm20 : W20.cell? ⟨gm, 10, none⟩ = some (.slice pn j cn) := hf20.bm.cell 10
                  have fm20 := hf20.bm.free 10
                  have lm20 := hf20.bm.lt
                  have cb20 : W20.cell? ⟨g1, 0, none⟩ = some (.pointer (some ⟨gr, 0, none⟩)) := hf20.b1.cell 0
                  have hf21 := hf20.set 10 (.slice p20 (j + 1) c20)
                  have cb21 : (W20.setCell ⟨gm, 10, none⟩ (.slice p20 (j + 1) c20)).cell? ⟨g1, 0, none⟩ = some (.pointer (some ⟨gr, 0, none⟩)) := hf21.b1.cell 0
                  have HF21 : Hid (FSt w gr g0 g1 g2 gm (W20.setCell ⟨gm, 10, none⟩ (.slice p20 (j + 1) c20)) ((R12 r).nets (j + 1)) (csL r vl (.slice p20 (j + 1) c20)) vl (rdLins (R10 r) k) (.slice p20 (j + 1) c20) (rdNets (R12 r) (j + 1))) := by
                    show FSt _ _ _ _ _ _ _ _ _ _ _ _ _
                    rw [HNR.out]; exact hf21
                  clear ho20 hg20 hor20 hf20 hf21
                  refine hK.out _ _ cb20 (fun hS => ?_)
                  clear hK K
                  try simp only [Act.put, List.getElem_toArray, List.getElem_cons_succ, List.getElem_cons_zero, List.setIfInBounds_toArray, List.set_cons_zero, List.set_cons_succ]
                  refine wpAnyH_take (i := 6) (v := ?_) rfl (by kernel_rfl) (by kernel_rfl) (by kernel_rfl) (fun _ _ _ h => h) (Or.inl ⟨by kernel_rfl, ?_⟩) (by first | assumption | trivial) ?_
                  rotate_left
                  · intro w hSw
                    try dsimp only at hSw
                    first | (go_simp; done) | (go_simp; with_reducible rfl)
                  try simp only [Act.put, List.getElem_toArray, List.getElem_cons_succ, List.getElem_cons_zero, List.setIfInBounds_toArray, List.set_cons_zero, List.set_cons_succ]
                  refine wpAnyH_ready (rs := [7]) (by kernel_rfl) (by simp) ?_
                  refine AllReadyH.cons rfl (fun K hK => ?_) AllReadyH.nil
                  go_simp
                  refine hK.out _ _ cb21 (fun hS => ?_)
                  clear hK K
                  try simp only [Act.put, List.getElem_toArray, List.getElem_cons_succ, List.getElem_cons_zero, List.setIfInBounds_toArray, List.set_cons_zero, List.set_cons_succ]
                  refine wpAnyH_done (by kernel_rfl) ?_ _
                  clear cm20 fm20 lm20 cb20 cb21 cb18 cm18 cb19 cm19 cb1 cm10
                  go_wp2_with fail
                  go_roundw
                  case rel => exact ⟨j + 1, by omega, by go_num, ⟨_, HF21.out, HD20.out⟩⟩
                  case measure => simp [intOf]; omega
                · skip
                  go_simp
                  go_at_call 23
                  refine HF18d.out.num.mono ?_
                  rintro y W18 ⟨rfl, hf18, _⟩
                  have cb18 : W18.cell? ⟨g1, 0, none⟩ = some (.pointer (some ⟨gr, 0, none⟩)) := hf18.b1.cell 0
                  have cm18 : W18.cell? ⟨gm, 10, none⟩ = some (.slice pn j cn) := hf18.bm.cell 10
                  have hf19 := hf18.below (oneB W18 (.cells #[.int .i64 RJ.numV] 2))
                  have cb19 : (W18.alloc (.cells #[.int .i64 RJ.numV] 2)).cell? ⟨g1, 0, none⟩ = some (.pointer (some ⟨gr, 0, none⟩)) := hf19.b1.cell 0
                  have cm19 : (W18.alloc (.cells #[.int .i64 RJ.numV] 2)).cell? ⟨gm, 10, none⟩ = some (.slice pn j cn) := hf19.bm.cell 10
                  have HF19 := Lib.hid hf19
                  clear hf18 hf19 HF18d HF18
                  try go_wp2_with fail
                  refine hK.out _ _ cb18 (fun hS => ?_)
                  clear hK K
                  try simp only [Act.put, List.getElem_toArray, List.getElem_cons_succ, List.getElem_cons_zero, List.setIfInBounds_toArray, List.set_cons_zero, List.set_cons_succ]
                  refine wpAnyH_ready (rs := [1, 4]) (by kernel_rfl) (by simp) ?_
                  refine AllReadyH.cons rfl (fun K hK => ?_) (AllReadyH.cons rfl (fun K hK => ?_) (AllReadyH.nil))
                  · skip
                    go_simp
                    refine hK.out _ _ cb18 (fun hS => ?_)
                    clear hK K
                    try simp only [Act.put, List.getElem_toArray, List.getElem_cons_succ, List.getElem_cons_zero, List.setIfInBounds_toArray, List.set_cons_zero, List.set_cons_succ]
                    refine wpAnyH_ready (rs := [4]) (by kernel_rfl) (by simp) ?_
                    refine AllReadyH.cons rfl (fun K hK => ?_) (AllReadyH.nil)
                    go_simp
                    refine hK.out _ _ cb19 (fun hS => ?_)
                    clear hK K
                    try simp only [Act.put, List.getElem_toArray, List.getElem_cons_succ, List.getElem_cons_zero, List.setIfInBounds_toArray, List.set_cons_zero, List.set_cons_succ]
                    refine wpAnyH_ready (rs := [5]) (by kernel_rfl) (by simp) ?_
                    refine AllReadyH.cons rfl (fun K hK => ?_) AllReadyH.nil
                    refine step_append_g rfl (.tmp 69) (.tmp 72) 27 rfl 2 .i64 8 (gm + 1) elt64 (.slice pn j cn) (.slice (some ⟨W18.heap.size, 0, none⟩) 1 1) (rdNets (R12 r) j) [RJ.numV] rfl rfl HF19.out.on (Row.laid .i64 W18 2 [RJ.numV] #[.int .i64 RJ.numV] rfl (0, 0) 1 1 rfl (by simp)) (by rw [rdNets_len]; simp; omega) (by rw [rdNets_len]; simp; omega) (by have := HF19.out.bm.lt; omega) ?_
                    intro v20 W20 ho20 hg20 hor20
                    rw [← HNS.out] at ho20
                    obtain ⟨p20, c20, hv20⟩ := ho20.form
                    rw [rdNets_len] at hv20
                    have HD20 : Hid (∀ b, vl.ownBlock = some b → v20.ownBlock ≠ some b) := by
                      intro b hb e
                      rcases hor20 with h | h
                      · rw [h] at e; exact HD.out b hb e
                      · rw [h] at e; cases e; have := HF19.out.ol.lt _ hb; omega
                    have hf20 := HF19.out.grownN hg20 ho20 HD.out
                    subst hv20
                    have cm20 : W20.cell? ⟨gm, 10, none⟩ = some (.slice pn j cn) := hf20.bm.cell 10
                    have fm20 := hf20.bm.free 10
                    have lm20 := hf20.bm.lt
                    have cb20 : W20.cell? ⟨g1, 0, none⟩ = some (.pointer (some ⟨gr, 0, none⟩)) := hf20.b1.cell 0
                    have hf21 := hf20.set 10 (.slice p20 (j + 1) c20)
                    have cb21 : (W20.setCell ⟨gm, 10, none⟩ (.slice p20 (j + 1) c20)).cell? ⟨g1, 0, none⟩ = some (.pointer (some ⟨gr, 0, none⟩)) := hf21.b1.cell 0
                    have HF21 : Hid (FSt w gr g0 g1 g2 gm (W20.setCell ⟨gm, 10, none⟩ (.slice p20 (j + 1) c20)) ((R12 r).nets (j + 1)) (csL r vl (.slice p20 (j + 1) c20)) vl (rdLins (R10 r) k) (.slice p20 (j + 1) c20) (rdNets (R12 r) (j + 1))) := by
                      show FSt _ _ _ _ _ _ _ _ _ _ _ _ _
                      rw [HNR.out]; exact hf21
                    clear ho20 hg20 hor20 hf20 hf21
                    refine hK.out _ _ cb20 (fun hS => ?_)
                    clear hK K
                    try simp only [Act.put, List.getElem_toArray, List.getElem_cons_succ, List.getElem_cons_zero, List.setIfInBounds_toArray, List.set_cons_zero, List.set_cons_succ]
                    refine wpAnyH_take (i := 6) (v := ?_) rfl (by kernel_rfl) (by kernel_rfl) (by kernel_rfl) (fun _ _ _ h => h) (Or.inl ⟨by kernel_rfl, ?_⟩) (by first | assumption | trivial) ?_
                    rotate_left
                    · intro w hSw
                      try dsimp only at hSw
                      first | (go_simp; done) | (go_simp; with_reducible rfl)
                    try simp only [Act.put, List.getElem_toArray, List.getElem_cons_succ, List.getElem_cons_zero, List.setIfInBounds_toArray, List.set_cons_zero, List.set_cons_succ]
                    refine wpAnyH_ready (rs := [7]) (by kernel_rfl) (by simp) ?_
                    refine AllReadyH.cons rfl (fun K hK => ?_) AllReadyH.nil
                    go_simp
                    refine hK.out _ _ cb21 (fun hS => ?_)
                    clear hK K
                    try simp only [Act.put, List.getElem_toArray, List.getElem_cons_succ, List.getElem_cons_zero, List.setIfInBounds_toArray, List.set_cons_zero, List.set_cons_succ]
                    refine wpAnyH_done (by kernel_rfl) ?_ _
                    clear cm20 fm20 lm20 cb20 cb21 cb18 cm18 cb19 cm19 cb1 cm10
                    go_wp2_with fail
                    go_roundw
                    case rel => exact ⟨j + 1, by omega, by go_num, ⟨_, HF21.out, HD20.out⟩⟩
                    case measure => simp [intOf]; omega
                  · skip
                    go_simp
                    refine hK.out _ _ cb19 (fun hS => ?_)
                    clear hK K
                    try simp only [Act.put, List.getElem_toArray, List.getElem_cons_succ, List.getElem_cons_zero, List.setIfInBounds_toArray, List.set_cons_zero, List.set_cons_succ]
                    refine wpAnyH_ready (rs := [1]) (by kernel_rfl) (by simp) ?_
                    refine AllReadyH.cons rfl (fun K hK => ?_) (AllReadyH.nil)
                    go_simp
                    refine hK.out _ _ cb19 (fun hS => ?_)
                    clear hK K
                    try simp only [Act.put, List.getElem_toArray, List.getElem_cons_succ, List.getElem_cons_zero, List.setIfInBounds_toArray, List.set_cons_zero, List.set_cons_succ]
                    refine wpAnyH_ready (rs := [5]) (by kernel_rfl) (by simp) ?_
                    refine AllReadyH.cons rfl (fun K hK => ?_) AllReadyH.nil
                    refine step_append_g rfl (.tmp 69) (.tmp 72) 27 rfl 2 .i64 8 (gm + 1) elt64 (.slice pn j cn) (.slice (some ⟨W18.heap.size, 0, none⟩) 1 1) (rdNets (R12 r) j) [RJ.numV] rfl rfl HF19.out.on (Row.laid .i64 W18 2 [RJ.numV] #[.int .i64 RJ.numV] rfl (0, 0) 1 1 rfl (by simp)) (by rw [rdNets_len]; simp; omega) (by rw [rdNets_len]; simp; omega) (by have := HF19.out.bm.lt; omega) ?_
                    intro v20 W20 ho20 hg20 hor20
                    rw [← HNS.out] at ho20
                    obtain ⟨p20, c20, hv20⟩ := ho20.form
                    rw [rdNets_len] at hv20
                    have HD20 : Hid (∀ b, vl.ownBlock = some b → v20.ownBlock ≠ some b) := by
                      intro b hb e
                      rcases hor20 with h | h
                      · rw [h] at e; exact HD.out b hb e
                      · rw [h] at e; cases e; have := HF19.out.ol.lt _ hb; omega
                    have hf20 := HF19.out.grownN hg20 ho20 HD.out
                    subst hv20
                    have cm20 : W20.cell? ⟨gm, 10, none⟩ = some (.slice pn j cn) := hf20.bm.cell 10
                    have fm20 := hf20.bm.free 10
                    have lm20 := hf20.bm.lt
                    have cb20 : W20.cell? ⟨g1, 0, none⟩ = some (.pointer (some ⟨gr, 0, none⟩)) := hf20.b1.cell 0
                    have hf21 := hf20.set 10 (.slice p20 (j + 1) c20)
                    have cb21 : (W20.setCell ⟨gm, 10, none⟩ (.slice p20 (j + 1) c20)).cell? ⟨g1, 0, none⟩ = some (.pointer (some ⟨gr, 0, none⟩)) := hf21.b1.cell 0
                    have HF21 : Hid (FSt w gr g0 g1 g2 gm (W20.setCell ⟨gm, 10, none⟩ (.slice p20 (j + 1) c20)) ((R12 r).nets (j + 1)) (csL r vl (.slice p20 (j + 1) c20)) vl (rdLins (R10 r) k) (.slice p20 (j + 1) c20) (rdNets (R12 r) (j + 1))) := by
                      show FSt _ _ _ _ _ _ _ _ _ _ _ _ _
                      rw [HNR.out]; exact hf21
                    clear ho20 hg20 hor20 hf20 hf21
                    refine hK.out _ _ cb20 (fun hS => ?_)
                    clear hK K
                    try simp only [Act.put, List.getElem_toArray, List.getElem_cons_succ, List.getElem_cons_zero, List.setIfInBounds_toArray, List.set_cons_zero, List.set_cons_succ]
                    refine wpAnyH_take (i := 6) (v := ?_) rfl (by kernel_rfl) (by kernel_rfl) (by kernel_rfl) (fun _ _ _ h => h) (Or.inl ⟨by kernel_rfl, ?_⟩) (by first | assumption | trivial) ?_
                    rotate_left
                    · intro w hSw
                      try dsimp only at hSw
                      first | (go_simp; done) | (go_simp; with_reducible rfl)
                    try simp only [Act.put, List.getElem_toArray, List.getElem_cons_succ, List.getElem_cons_zero, List.setIfInBounds_toArray, List.set_cons_zero, List.set_cons_succ]
                    refine wpAnyH_ready (rs := [7]) (by kernel_rfl) (by simp) ?_
                    refine AllReadyH.cons rfl (fun K hK => ?_) AllReadyH.nil
                    go_simp
                    refine hK.out _ _ cb21 (fun hS => ?_)
                    clear hK K
                    try simp only [Act.put, List.getElem_toArray, List.getElem_cons_succ, List.getElem_cons_zero, List.setIfInBounds_toArray, List.set_cons_zero, List.set_cons_succ]
                    refine wpAnyH_done (by kernel_rfl) ?_ _
                    clear cm20 fm20 lm20 cb20 cb21 cb18 cm18 cb19 cm19 cb1 cm10
                    go_wp2_with fail
                    go_roundw
                    case rel => exact ⟨j + 1, by omega, by go_num, ⟨_, HF21.out, HD20.out⟩⟩
                    case measure => simp [intOf]; omega
              · have hle : (nn : Int) ≤ (j : Int) := by omega
                have hjj : j = nn := by omega
                subst hjj
                have HF22 : Hid (FSt w gr g0 g1 g2 gm wr (R13 r) (csL r vl (.slice pn j cn)) vl (rdLins (R10 r) k) (.slice pn j cn) (rdNets (R12 r) j)) := by
                  show FSt _ _ _ _ _ _ _ _ _ _ _ _ _
                  rw [HNNR.out, HRJ.out]; exact hf
                have cb1 : wr.cell? ⟨g1, 0, none⟩ = some (.pointer (some ⟨gr, 0, none⟩)) := hf.b1.cell 0
                clear hf HRJ
                have hvl := HVL.out
                subst hvl
                go_wp2_with fail
                refine HF22.out.err.mono ?_
                rintro y w23 ⟨rfl, rfl⟩
                by_cases hE : (R13 r).e = 0
                · have HEE := Lib.hid hE
                  rw [hE]
                  clear hE
                  have HFIN := Lib.hid (HF22.out.fin #[.int .i64 r.nV, .int .i64 (r.nxs 1).nV, .int .i64 (r.nxs 2).nV, .int .i64 (r.nxs 3).nV, .int .i64 (r.nxs 4).nV, .int .i64 (r.nxs 5).nV, .int .i64 (r.nxs 6).nV, .int .i64 (r.nxs 7).numV, .bool (r.nxs 7).num.boolV, .slice pv k cv, .slice pn j cn] rfl)
                  have HTH := Lib.hid HF22.out.there2
                  have HINF := Lib.hid (inf11 #[.int .i64 r.nV, .int .i64 (r.nxs 1).nV, .int .i64 (r.nxs 2).nV, .int .i64 (r.nxs 3).nV, .int .i64 (r.nxs 4).nV, .int .i64 (r.nxs 5).nV, .int .i64 (r.nxs 6).nV, .int .i64 (r.nxs 7).numV, .bool (r.nxs 7).num.boolV, .slice pv k cv, .slice pn j cn] rfl)
                  have hbm := HF22.out.bm
                  have cm0 : wr.cell? ⟨gm, 0, none⟩ = some (.int .i64 r.nV) := hbm.cell 0
                  have cm1 : wr.cell? ⟨gm, 1, none⟩ = some (.int .i64 (r.nxs 1).nV) := hbm.cell 1
                  have cm2 : wr.cell? ⟨gm, 2, none⟩ = some (.int .i64 (r.nxs 2).nV) := hbm.cell 2
                  have cm3 : wr.cell? ⟨gm, 3, none⟩ = some (.int .i64 (r.nxs 3).nV) := hbm.cell 3
                  have cm4 : wr.cell? ⟨gm, 4, none⟩ = some (.int .i64 (r.nxs 4).nV) := hbm.cell 4
                  have cm5 : wr.cell? ⟨gm, 5, none⟩ = some (.int .i64 (r.nxs 5).nV) := hbm.cell 5
                  have cm6 : wr.cell? ⟨gm, 6, none⟩ = some (.int .i64 (r.nxs 6).nV) := hbm.cell 6
                  have cm7 : wr.cell? ⟨gm, 7, none⟩ = some (.int .i64 (r.nxs 7).numV) := hbm.cell 7
                  have cm8 : wr.cell? ⟨gm, 8, none⟩ = some (.bool (r.nxs 7).num.boolV) := hbm.cell 8
                  have cm9 : wr.cell? ⟨gm, 9, none⟩ = some (.slice pv k cv) := hbm.cell 9
                  have cm10 : wr.cell? ⟨gm, 10, none⟩ = some (.slice pn j cn) := hbm.cell 10
                  clear hbm cb1
                  go_wp2_with (with_reducible refine stop_storeT 29 (.tmp 2) (.tmp 82) rfl ?_)
                  refine wpList_store_mid rfl 29 (.tmp 2) (.tmp 82) rfl g2 0 #[.int .i64 r.nV, .int .i64 (r.nxs 1).nV, .int .i64 (r.nxs 2).nV, .int .i64 (r.nxs 3).nV, .int .i64 (r.nxs 4).nV, .int .i64 (r.nxs 5).nV, .int .i64 (r.nxs 6).nV, .int .i64 (r.nxs 7).numV, .bool (r.nxs 7).num.boolV, .slice pv k cv, .slice pn j cn] rfl rfl HTH.out HINF.out (one11 _ _ _ _ _ _ _ _ _ _ _ _ _ _ _) ?_
                  generalize World.setCells wr g2 0 _ = W9 at *
                  clear HTH cm0 cm1 cm2 cm3 cm4 cm5 cm6 cm7 cm8 cm9 cm10
                  go_wp2_with fail
                  have hb2 := HFIN.out.b2
                  refine bodyPost_ret (v := .tuple #[.agg #[.int .i64 r.nV, .int .i64 (r.nxs 1).nV, .int .i64 (r.nxs 2).nV, .int .i64 (r.nxs 3).nV, .int .i64 (r.nxs 4).nV, .int .i64 (r.nxs 5).nV, .int .i64 (r.nxs 6).nV, .int .i64 (r.nxs 7).numV, .bool (r.nxs 7).num.boolV, .slice pv k cv, .slice pn j cn], .int .i64 0]) (by simp [results, Try.results10, go_sem, hb2.cell 0, hb2.cell 1, hb2.cell 2, hb2.cell 3, hb2.cell 4, hb2.cell 5, hb2.cell 6, hb2.cell 7, hb2.cell 8, hb2.cell 9, hb2.cell 10]) rfl ?_
                  exact fin_good HBK.out HEE.out (by rw [HNL2.out, HNN2.out]; exact HFIN.out)
                · have he : ((R13 r).e != 0) = true := by simpa using hE
                  have HE2 : Hid (rdE r = (R13 r).e ∧ rdR r = R13 r) := by unfold rdE rdR; rw [HBK.out]; exact ⟨rfl, rfl⟩
                  have HEN := Lib.hid hE
                  have HFIN := Lib.hid (HF22.out.fin #[.int .i64 0, .int .i64 0, .int .i64 0, .int .i64 0, .int .i64 0, .int .i64 0, .int .i64 0, .int .i64 0, .bool false, .slice none 0 0, .slice none 0 0] rfl)
                  have HTH := Lib.hid HF22.out.there2
                  have HINF := Lib.hid (inf11 #[.int .i64 0, .int .i64 0, .int .i64 0, .int .i64 0, .int .i64 0, .int .i64 0, .int .i64 0, .int .i64 0, .bool false, .slice none 0 0, .slice none 0 0] rfl)
                  clear cb1 hE
                  go_wp2_with (with_reducible refine stop_storeT 29 (.tmp 2) (.tmp 80) rfl ?_)
                  refine wpList_store_mid rfl 29 (.tmp 2) (.tmp 80) rfl g2 0 #[.int .i64 0, .int .i64 0, .int .i64 0, .int .i64 0, .int .i64 0, .int .i64 0, .int .i64 0, .int .i64 0, .bool false, .slice none 0 0, .slice none 0 0] rfl rfl HTH.out HINF.out (one11 _ _ _ _ _ _ _ _ _ _ _ _ _ _ _) ?_
                  generalize World.setCells wr g2 0 _ = W9 at *
                  clear HTH
                  go_wp2_with fail
                  have hb2 := HFIN.out.b2
                  refine bodyPost_ret (v := .tuple #[.agg #[.int .i64 0, .int .i64 0, .int .i64 0, .int .i64 0, .int .i64 0, .int .i64 0, .int .i64 0, .int .i64 0, .bool false, .slice none 0 0, .slice none 0 0], .int .i64 (R13 r).e]) (by simp [results, Try.results10, go_sem, hb2.cell 0, hb2.cell 1, hb2.cell 2, hb2.cell 3, hb2.cell 4, hb2.cell 5, hb2.cell 6, hb2.cell 7, hb2.cell 8, hb2.cell 9, hb2.cell 10]) rfl ?_
                  have := fin_bad (by rw [HE2.out.1]; exact HEN.out) (HE2.out.2.symm ▸ HFIN.out)
                  rw [HE2.out.1] at this
                  exact this
  · have HFIN := Lib.hid (HF2.out.fin zero11 rfl)
    have HTH := Lib.hid HF2.out.there2
    have HINF := Lib.hid (inf11 #[.int .i64 0, .int .i64 0, .int .i64 0, .int .i64 0, .int .i64 0, .int .i64 0, .int .i64 0, .int .i64 0, .bool false, .slice none 0 0, .slice none 0 0] rfl)
    clear cb1 cm0
    go_wp2_with (with_reducible refine stop_storeT 29 (.tmp 2) (.tmp 25) rfl ?_)
    refine wpList_store_mid rfl 29 (.tmp 2) (.tmp 25) rfl g2 0 #[.int .i64 0, .int .i64 0, .int .i64 0, .int .i64 0, .int .i64 0, .int .i64 0, .int .i64 0, .int .i64 0, .bool false, .slice none 0 0, .slice none 0 0] rfl rfl HTH.out HINF.out (one11 _ _ _ _ _ _ _ _ _ _ _ _ _ _ _) ?_
    have HFI2 : Hid (FEnd w gr g0 g2 (World.setCells _ g2 0 (#[.int .i64 0, .int .i64 0, .int .i64 0, .int .i64 0, .int .i64 0, .int .i64 0, .int .i64 0, .int .i64 0, .bool false, .slice none 0 0, .slice none 0 0] : Array Value).toList) r.nx zero11 _ _ _ _) := HFIN.out
    generalize World.setCells _ g2 0 _ = W9 at *
    clear HTH
    go_wp2_with fail
    have HE2 : Hid (rdE r = 110 ∧ rdR r = r.nx) := by unfold rdE rdR; rw [HBK.out]; exact ⟨rfl, rfl⟩
    have hb2 := HFI2.out.b2
    unfold zero11 at hb2
    refine bodyPost_ret (v := .tuple #[.agg #[.int .i64 0, .int .i64 0, .int .i64 0, .int .i64 0, .int .i64 0, .int .i64 0, .int .i64 0, .int .i64 0, .bool false, .slice none 0 0, .slice none 0 0], .int .i64 110]) (by simp [results, Try.results10, go_sem, hb2.cell 0, hb2.cell 1, hb2.cell 2, hb2.cell 3, hb2.cell 4, hb2.cell 5, hb2.cell 6, hb2.cell 7, hb2.cell 8, hb2.cell 9, hb2.cell 10]) rfl ?_
    have := fin_bad (by rw [HE2.out.1]; decide) (HE2.out.2.symm ▸ HFI2.out)
    rw [HE2.out.1] at this
    exact this
end Go.Proofs.Ytbimbpmdiahhbaa
