/- The first test of the layer frame is true. -/
import Derived.Test.YtngelpjibgiifaaFrame2
import Derived.Test.YtngelpjibgiifaaStrRow
import Derived.Lib.SlBytesConst
namespace Go.Proofs.Ytngelpjibgiifaa
open Go.RowKit
theorem known_rec : [120] ++ recL [49, 50, 51, 52, 53, 54, 55, 56, 57] = [120, 0, 0, 0, 9, 203, 244, 57, 38, 49, 50, 51, 52, 53, 54, 55, 56, 57] := by
  have h : chk [49, 50, 51, 52, 53, 54, 55, 56, 57] = 3421780262 := by
    show ((checkN [49, 50, 51, 52, 53, 54, 55, 56, 57] : Nat) : Int) = _
    rw [known_check]; rfl
  unfold recL
  rw [h]; rfl
set_option maxRecDepth 100000 in
theorem records_any (w : World) : Calls Try.prog 28 #[] w fun e w' => e = .returned (.bool true) ∧ Below w.heap.size w w' := by
  have hx := Row.laid .u8 w 5 [120] #[.int .u8 120] rfl (1, 2) 1 1 rfl (Nat.le_refl _)
  have kc := fun (w : World) (C : Array Value) (n c : Nat) => Lib.run_convert_bytes_const (P := Try.prog) w 22 5 C n c Try.underlying22 Try.underlying5
  have kc2 := kc (w.alloc (.cells #[.int .u8 120] 5 (1, 2))) #[.int .u8 49, .int .u8 50, .int .u8 51, .int .u8 52, .int .u8 53, .int .u8 54, .int .u8 55, .int .u8 56, .int .u8 57] 9 9
  have hy := Row.laid .u8 (w.alloc (.cells #[.int .u8 120] 5 (1, 2))) 5 [49, 50, 51, 52, 53, 54, 55, 56, 57] #[.int .u8 49, .int .u8 50, .int .u8 51, .int .u8 52, .int .u8 53, .int .u8 54, .int .u8 55, .int .u8 56, .int .u8 57] rfl (9, 10) 9 9 rfl (Nat.le_refl _)
  have hsz : (w.alloc (.cells #[.int .u8 120] 5 (1, 2))).heap.size = w.heap.size + 1 := by simp
  rw [hsz] at kc2 hy
  have h9 : Oct [49, 50, 51, 52, 53, 54, 55, 56, 57] := by
    intro a ha
    simp at ha
    omega
  go_enter Try.func28, Try.ntmps28
  go_wp2_with fail
  refine (fapp_any _ _ [120] [49, 50, 51, 52, 53, 54, 55, 56, 57] h9 (by decide) _ (hx.kept (oneB _ _)) hy).mono ?_
  rintro y w1 ⟨hb1, _, hk1⟩
  obtain ⟨v1, rfl, ho1⟩ := hk1 (by decide)
  have hb := ((oneB w (.cells #[.int .u8 120] 5 (1, 2))).alloc (by simp) (.cells #[.int .u8 49, .int .u8 50, .int .u8 51, .int .u8 52, .int .u8 53, .int .u8 54, .int .u8 55, .int .u8 56, .int .u8 57] 5 (9, 10))).trans (hb1.mono (by simp; omega))
  rw [known_rec] at ho1
  have K1 := conv_row (P := Try.prog) w1 22 9 5 Try.underlying22 Try.underlying5 Try.underlying9 _ _ ho1.row
  obtain ⟨p1, c1, rfl⟩ := ho1.form
  simp only [List.length_cons, List.length_nil, Nat.zero_add, Nat.reduceAdd] at K1
  rw [show strOfNums [120, 0, 0, 0, 9, 203, 244, 57, 38, 49, 50, 51, 52, 53, 54, 55, 56, 57] = ⟨#[120, 0, 0, 0, 9, 203, 244, 57, 38, 49, 50, 51, 52, 53, 54, 55, 56, 57]⟩ from rfl] at K1
  have HB := Lib.hid hb
  clear hb1 hk1 ho1 hb hx hy kc kc2
  go_wp2_with fail
  go_ret
  exact ⟨rfl, HB.out⟩
end Go.Proofs.Ytngelpjibgiifaa
