/- CrcOf: the walk. -/
import Derived.Test.YtckbbdfmacjohaaRefCrc
import Derived.Test.YtckbbdfmacjohaaCrcKnown
import Derived.Test.YtckbbdfmacjohaaStrRow
import Derived.Deep.RegionWith
namespace Go.Proofs.Ytckbbdfmacjohaa
open Go.RowKit
theorem strNats_of {zs : List Int} (h : Oct zs) : strNats (strOfNums zs) = natsOf zs := by
  unfold strNats natsOf
  rw [strOfNums_data, List.map_map]
  refine List.map_congr_left fun x hx => ?_
  have := h x hx
  simp; omega
set_option maxHeartbeats 4000000 in
set_option maxRecDepth 100000 in
theorem crcofs_walk (vb : Value) (b : List Int) (W : World) (ob : Oct b) (rb : Row .u8 W vb b) (lb : b.length ≤ 140737488355328) :
    Calls Try.prog 8 #[vb] W fun e W' => e = .returned (.bool true) ∧ Below W.heap.size W W' := by
  obtain ⟨pb, cb, rfl⟩ := rb.shape
  have RB := Lib.hid rb
  clear rb
  by_cases h1 : (b.length : Int) ≤ 1000
  · have HSN := Lib.hid (strNats_of ob)
    have hck := checkN_lt (natsOf_8 ob)
    have hw : IntKind.i64.wrap ((checkN (natsOf b) : Nat) : Int) = ((checkN (natsOf b) : Nat) : Int) := IntWalk.i64_in _ (by omega)
    have hsz : (strOfNums b).size ≤ 1000 := by rw [strOfNums_size]; omega
    have HSZ := Lib.hid hsz
    have HBL : Hid (b.length ≤ 1000) := by show _ ≤ _; omega
    clear hsz
    go_enter Try.func8, Try.ntmps8
    go_wp2_with fail
    refine (crcknown_any _).mono ?_
    rintro e w1 ⟨rfl, hb1⟩
    have B1 := Lib.hid hb1
    clear hb1
    go_wp2_with fail
    have B1d := Lib.hid B1.out.drew
    have kB := conv_row (P := Try.prog) w1.drew 53 9 5 Try.underlying53 Try.underlying5 Try.underlying9 _ _ (RB.out.under B1d.out (Nat.le_refl _))
    go_region_with (first
      | (go_at_call 25; go_loud (refine (crcof_any (.slice pb b.length cb) b _ (by have := HBL.out; omega) ob (RB.out.under B1d.out (Nat.le_refl _))).mono ?_; rintro y w5 ⟨rfl, hb5⟩; have B5 := Lib.hid (B1d.out.trans (hb5.mono B1d.out.size)); have kB5 := conv_row (P := Try.prog) w5 53 9 5 Try.underlying53 Try.underlying5 Try.underlying9 _ _ (RB.out.under B5.out (Nat.le_refl _)); clear hb5))
      | (go_at_call 26; go_loud (refine (refcrc_any (strOfNums b) _ HSZ.out).mono ?_; rintro y w6 ⟨rfl, hb6⟩; rw [HSN.out]; have B6 := Lib.hid (B5.out.trans (hb6.mono B5.out.size)); clear hb6)))
    all_goals
      go_wp2_with fail
      go_ret
      exact ⟨rfl, B6.out⟩
  · have hg : (1000 : Int) < b.length := by omega
    clear h1
    go_enter Try.func8, Try.ntmps8
    go_wp2_with fail
    refine (crcknown_any _).mono ?_
    rintro e w1 ⟨rfl, hb1⟩
    go_wp2_with fail
    go_ret
    exact ⟨rfl, hb1⟩
end Go.Proofs.Ytckbbdfmacjohaa
