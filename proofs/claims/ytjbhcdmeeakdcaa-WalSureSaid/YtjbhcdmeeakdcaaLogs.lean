/- The first test of the layer wal is true. -/
import Derived.Test.YtjbhcdmeeakdcaaWalRenew
import Derived.Test.YtjbhcdmeeakdcaaStrRow
import Derived.Lib.SlBytesConst
namespace Go.Proofs.Ytjbhcdmeeakdcaa
open Go.RowKit
theorem laid_row (w : World) (zs : List Int) (C : Array Value) (hC : C = (zs.map (Value.int .u8)).toArray) (T : TypeId) (fz : Nat × Nat) : Row .u8 (w.alloc (.cells C T fz)) (.slice (some ⟨w.heap.size, 0, none⟩) zs.length zs.length) zs := by
  subst hC
  refine ⟨_, _, rfl, Nat.le_refl _, .inr ⟨w.heap.size, 0, rfl, fun i hi => ?_⟩⟩
  rw [Nat.zero_add, cell_of_row _ w.heap.size i _ T fz (heap_alloc_new w _), List.getElem?_toArray, List.getElem?_map, List.getD_eq_getElem?_getD, List.getElem?_eq_getElem hi]
  rfl
def l0D : DSt := newD 100
def l1D : DSt := openD l0D
def l2D : DSt := addD l1D [120]
def l3D : DSt := putD l2D [121, 122]
def l4D : DSt := l3D.crashD 9 0
def l5D : DSt := l4D.upD
theorem l_open0 : openE l0D = 0 ∧ scD l0D.all = [] ∧ l0D.all.length ≤ 1000000 := by decide +kernel
theorem l_add : putE l1D [120] = 0 ∧ addE l1D [120] = 0 ∧ putE l2D [121, 122] = 0 := by decide +kernel
theorem l_fits : l3D.Fits ∧ l4D.Fits := by unfold DSt.Fits; decide +kernel
theorem l_open5 : openE l5D = 0 ∧ scD l5D.all = [[120]] ∧ l5D.all.length ≤ 1000000 := by decide +kernel
set_option linter.unusedSimpArgs false in
set_option maxHeartbeats 8000000 in
set_option maxRecDepth 100000 in
theorem logs_any (w : World) : Calls Try.prog 10 #[] w fun e w' => e = .returned (.bool true) ∧ Below w.heap.size w w' := by
  have kc := fun (w : World) (C : Array Value) (n c : Nat) => Lib.run_convert_bytes_const (P := Try.prog) w 34 5 C n c Try.underlying34 Try.underlying5
  have o1 : Oct [120] := by intro a ha; simp at ha; omega
  have o2 : Oct [121, 122] := by intro a ha; simp at ha; omega
  go_enter Try.func10, Try.ntmps10
  go_wp2_with fail
  refine (new_any 100 w).mono ?_
  rintro y w1 ⟨hb1, _, hk1⟩
  obtain ⟨rfl, hd1⟩ := hk1 (by decide)
  have D1 : Hid (Dkp none_ w1 w.heap.size w.heap.size l0D) := hd1.dkp
  have B1 := Lib.hid hb1
  clear hb1 hk1 hd1
  go_wp2_with fail
  refine (wopen_any none_ w1 w.heap.size w.heap.size l0D D1.out l_open0.2.2).mono ?_
  rintro y w2 ⟨_, h0⟩
  obtain ⟨gl, v2, rfl, hgl, hl2, hr2, hd2, hb2⟩ := h0 l_open0.1
  rw [l_open0.2.1] at hl2 hr2
  obtain ⟨p2, c2, rfl⟩ := hr2.shape
  have D2 : Hid (Dkp (addP none_ gl) w2 w.heap.size w.heap.size l1D) := hd2
  have L2 : Hid (LogB w2 gl w.heap.size 0) := hl2
  have B2 := Lib.hid (B1.out.trans hb2.1)
  have GL : Hid (w.heap.size ≤ gl) := Nat.le_trans B1.out.size hgl
  have PG : Hid (addP none_ gl gl) := .inr rfl
  clear h0 hgl hl2 hr2 hd2 hb2
  go_wp2_with fail
  refine (wadd_any (addP none_ gl) _ w.heap.size w.heap.size gl 0 l1D _ [120] (D2.out.kept (oneB w2 _)) PG.out (L2.out.kept (oneB w2 _)) (by omega) GL.out o1 (by simp) (laid_row w2 [120] _ rfl 5 (1, 2))).mono ?_
  rintro y w3 ⟨rfl, hd3, hl3, hb3⟩
  rw [if_pos l_add.1] at hl3
  rw [l_add.2.1]
  have D3 : Hid (Dkp (addP none_ gl) w3 w.heap.size w.heap.size l2D) := hd3
  have L3 : Hid (LogB w3 gl w.heap.size 1) := hl3
  have B3 := Lib.hid ((B2.out.trans ((oneB w2 (.cells #[.int .u8 120] 5 (1, 2))).mono B2.out.size)).trans hb3.1)
  clear hd3 hl3 hb3
  go_wp2_with fail
  refine (wput_any (addP none_ gl) _ w.heap.size w.heap.size gl 1 l2D _ [121, 122] (D3.out.kept (oneB w3 _)) PG.out (L3.out.kept (oneB w3 _)) (by omega) GL.out o2 (by simp) (laid_row w3 [121, 122] _ rfl 5 (2, 3))).mono ?_
  rintro y w4 ⟨rfl, hd4, hl4, hb4⟩
  rw [if_pos l_add.2.2] at hl4
  rw [l_add.2.2]
  have D4 : Hid (Dkp (addP none_ gl) w4 w.heap.size w.heap.size l3D) := hd4
  have L4 : Hid (LogB w4 gl w.heap.size 2) := hl4
  have B4 := Lib.hid ((B3.out.trans ((oneB w3 (.cells #[.int .u8 121, .int .u8 122] 5 (2, 3))).mono B3.out.size)).trans hb4.1)
  clear hd4 hl4 hb4
  go_wp2_with fail
  refine (wlen_any w4 gl w.heap.size 2 L4.out).mono ?_
  rintro y w5 ⟨rfl, rfl⟩
  go_wp2_with fail
  refine (crash_anyP (addP none_ gl) w4 w.heap.size w.heap.size l3D 9 0 (by decide) D4.out l_fits.1).mono ?_
  rintro y w5 ⟨rfl, hd5, hb5⟩
  have D5 : Hid (Dkp (addP none_ gl) w5 w.heap.size w.heap.size l4D) := hd5
  have B5 := Lib.hid (B4.out.trans hb5.1)
  clear hd5 hb5
  go_wp2_with fail
  refine (up_anyP (addP none_ gl) w5 w.heap.size w.heap.size l4D D5.out l_fits.2).mono ?_
  rintro y w6 ⟨rfl, hd6, hb6⟩
  have D6 : Hid (Dkp (addP none_ gl) w6 w.heap.size w.heap.size l5D) := hd6
  have B6 := Lib.hid (B5.out.trans hb6.1)
  clear hd6 hb6
  go_wp2_with fail
  refine (wopen_any (addP none_ gl) w6 w.heap.size w.heap.size l5D D6.out l_open5.2.2).mono ?_
  rintro y w7 ⟨_, h0⟩
  obtain ⟨gm, v7, rfl, hgm, hl7, hr7, _, hb7⟩ := h0 l_open5.1
  rw [l_open5.2.1] at hl7 hr7
  obtain ⟨p7, c7, rfl⟩ := hr7.shape
  have R7 := Lib.hid hr7.ss
  have L7 : Hid (LogB w7 gm w.heap.size 1) := hl7
  have B7 := Lib.hid (B6.out.trans hb7.1)
  clear h0 hgm hl7 hr7 hb7
  go_wp2_with fail
  refine (wlen_any w7 gm w.heap.size 1 L7.out).mono ?_
  rintro y w8 ⟨rfl, rfl⟩
  obtain ⟨b, o, q, dd, rfl, hc, hrow⟩ := R7.out.at_ 0 (by simp)
  have K8 := conv_row (P := Try.prog) w7 34 9 5 Try.underlying34 Try.underlying5 Try.underlying9 _ _ hrow
  simp only [List.getD_cons_zero, List.length_cons, List.length_nil, Nat.zero_add, Nat.reduceAdd, Nat.add_zero] at K8 hc
  rw [show strOfNums [120] = ⟨#[120]⟩ from rfl] at K8
  clear hrow
  go_wp2_with fail
  go_ret
  exact ⟨rfl, B7.out⟩
end Go.Proofs.Ytjbhcdmeeakdcaa
