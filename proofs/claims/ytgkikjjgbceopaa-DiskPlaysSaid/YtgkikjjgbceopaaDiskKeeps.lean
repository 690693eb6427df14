/- The first test of the layer disk is true. -/
import Derived.Test.YtgkikjjgbceopaaDisk5
import Derived.Test.YtgkikjjgbceopaaDiskRead
import Derived.Test.YtgkikjjgbceopaaStrRow
import Derived.Lib.SlBytesConst
namespace Go.Proofs.Ytgkikjjgbceopaa
open Go.RowKit
theorem laid_far (w : World) (g : Nat) (hg : g < w.heap.size) (a b : Int) (T : TypeId) (fz : Nat × Nat) : ∃ g0, g0 ≠ g ∧ RowAt .u8 (w.alloc (.cells #[.int .u8 a, .int .u8 b] T fz)) g0 (.slice (some ⟨w.heap.size, 0, none⟩) 2 2) [a, b] := by
  refine ⟨w.heap.size, by omega, _, 2, rfl, Nat.le_refl _, .inr ⟨0, rfl, fun i hi => ?_⟩⟩
  rw [Nat.zero_add, cell_of_row _ w.heap.size i #[.int .u8 a, .int .u8 b] T fz (heap_alloc_new w _)]
  match i, hi with
  | 0, _ => rfl
  | 1, _ => rfl
def k1D : DSt := (newD 10).writeD [97, 98]
def k2D : DSt := k1D.syncD
def k3D : DSt := k2D.writeD [99, 100]
def k4D : DSt := k3D.crashD 1 0
theorem k_read : k4D.readE = 60 ∧ k4D.upD.readE = 0 ∧ k4D.upD.readD = [97, 98, 99] := by decide +kernel
theorem k_fits : k3D.Fits ∧ k4D.Fits := by unfold DSt.Fits; decide +kernel
set_option maxHeartbeats 4000000 in
set_option maxRecDepth 100000 in
theorem keeps_any (w : World) : Calls Try.prog 19 #[] w fun e w' => e = .returned (.bool true) ∧ Below w.heap.size w w' := by
  have kc := fun (w : World) (C : Array Value) (n c : Nat) => Lib.run_convert_bytes_const (P := Try.prog) w 59 5 C n c Try.underlying59 Try.underlying5
  have o1 : Oct [97, 98] := by intro a ha; simp at ha; omega
  have o2 : Oct [99, 100] := by intro a ha; simp at ha; omega
  go_enter Try.func19, Try.ntmps19
  go_wp2_with fail
  refine (new_any 10 w).mono ?_
  rintro y w1 ⟨hb1, _, hk1⟩
  obtain ⟨rfl, hd1⟩ := hk1 (by decide)
  have D1 := Lib.hid hd1
  have B1 := Lib.hid hb1
  have L1 := hd1.lt
  clear hb1 hk1 hd1
  go_wp2_with fail
  refine (write_any _ w.heap.size w.heap.size (newD 10) _ [97, 98] (D1.out.later (oneB _ _)) o1 (laid_far w1 _ L1 97 98 _ _)).mono ?_
  rintro y w2 ⟨rfl, hd2, hb2⟩
  have D2 : Hid (Dk w2 w.heap.size w.heap.size k1D) := hd2
  have B2 := Lib.hid ((B1.out.trans ((oneB w1 (.cells #[.int .u8 97, .int .u8 98] 5 (2, 3))).mono B1.out.size)).trans hb2)
  clear hd2 hb2
  go_wp2_with fail
  refine (sync_any w2 w.heap.size w.heap.size k1D D2.out).mono ?_
  rintro y w3 ⟨rfl, hd3, hb3⟩
  have D3 : Hid (Dk w3 w.heap.size w.heap.size k2D) := hd3
  have B3 := Lib.hid (B2.out.trans hb3)
  have L3 := hd3.lt
  clear hd3 hb3
  go_wp2_with fail
  refine (write_any _ w.heap.size w.heap.size k2D _ [99, 100] (D3.out.later (oneB _ _)) o2 (laid_far w3 _ L3 99 100 _ _)).mono ?_
  rintro y w4 ⟨rfl, hd4, hb4⟩
  have D4 : Hid (Dk w4 w.heap.size w.heap.size k3D) := hd4
  have B4 := Lib.hid ((B3.out.trans ((oneB w3 (.cells #[.int .u8 99, .int .u8 100] 5 (2, 3))).mono B3.out.size)).trans hb4)
  clear hd4 hb4
  go_wp2_with fail
  refine (crash_any w4 w.heap.size w.heap.size k3D 1 0 (by decide) D4.out k_fits.1).mono ?_
  rintro y w5 ⟨rfl, hd5, hb5⟩
  have D5 : Hid (Dk w5 w.heap.size w.heap.size k4D) := hd5
  have B5 := Lib.hid (B4.out.trans hb5)
  clear hd5 hb5
  go_wp2_with fail
  refine (dread_any w5 w.heap.size w.heap.size k4D D5.out).mono ?_
  rintro y w6 ⟨v6, rfl, _, hd6, hb6⟩
  rw [k_read.1]
  have D6 := Lib.hid hd6
  have B6 := Lib.hid (B5.out.trans (hb6.mono B5.out.size))
  clear hd6 hb6
  go_wp2_with fail
  refine (up_any w6 w.heap.size w.heap.size k4D D6.out k_fits.2).mono ?_
  rintro y w7 ⟨rfl, hd7, hb7⟩
  have D7 := Lib.hid hd7
  have B7 := Lib.hid (B6.out.trans hb7)
  clear hd7 hb7
  go_wp2_with fail
  refine (dread_any w7 w.heap.size w.heap.size k4D.upD D7.out).mono ?_
  rintro y w8 ⟨v8, rfl, ho8, _, hb8⟩
  rw [k_read.2.1]
  rw [k_read.2.2] at ho8
  have B8 := Lib.hid (B7.out.trans (hb8.mono B7.out.size))
  have K8 := conv_row (P := Try.prog) w8 59 9 5 Try.underlying59 Try.underlying5 Try.underlying9 _ _ ho8.row
  obtain ⟨p8, c8, rfl⟩ := ho8.form
  simp only [List.length_cons, List.length_nil, Nat.zero_add, Nat.reduceAdd] at K8
  rw [show strOfNums [97, 98, 99] = ⟨#[97, 98, 99]⟩ from rfl] at K8
  clear ho8 hb8
  go_wp2_with fail
  go_ret
  exact ⟨rfl, B8.out⟩
end Go.Proofs.Ytgkikjjgbceopaa
