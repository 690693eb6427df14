/- A disk in memory; its small methods by contract. -/
import Derived.Test.YtikpffaompaaiaaDiskPure
import Derived.Test.YtikpffaompaaiaaAppG
import Derived.Test.YtikpffaompaaiaaElt
import Derived.IntWalk
import Derived.Deep.RegionWith
import Derived.Deep.RegionHeld3
namespace Go.Proofs.Ytikpffaompaaiaa
open Go.RowKit
def cellsD (d : DSt) (vs vr : Value) : Array Value := #[.int .i64 d.room, vs, vr, .bool d.nw, .bool d.dn, .int .i64 d.left]
/-- Block g is a disk; what is sure and the rest lie in blocks of their own. -/
def Dk (w : World) (base g : Nat) (d : DSt) : Prop :=
  ∃ vs vr, Blk w g (cellsD d vs vr) 91 ∧ Own .u8 w base 5 vs d.S ∧ Own .u8 w base 5 vr d.R ∧ vs.ownBlock ≠ some g ∧ vr.ownBlock ≠ some g ∧ (∀ b, vs.ownBlock = some b → vr.ownBlock ≠ some b) ∧ base ≤ g ∧ d.Ok
theorem Dk.later {w w' : World} {base g : Nat} {d : DSt} (h : Dk w base g d) (hb : Below w.heap.size w w') : Dk w' base g d := by
  obtain ⟨vs, vr, h1, h2, h3, h4⟩ := h
  exact ⟨vs, vr, h1.below hb h1.lt, h2.later hb, h3.later hb, h4⟩
theorem Dk.drew {w : World} {base g : Nat} {d : DSt} (h : Dk w base g d) : Dk w.drew base g d := h
theorem Dk.lt {w : World} {base g : Nat} {d : DSt} (h : Dk w base g d) : g < w.heap.size := by
  obtain ⟨vs, vr, h1, _⟩ := h
  exact h1.lt
theorem ret_i64i {a b : Int} (h : a = b) : Ending.returned (.int .i64 a) = .returned (.int .i64 b) := by rw [h]
set_option maxHeartbeats 1000000 in
theorem ahead_any (w : World) (g : Nat) (d : DSt) (vs vr : Value) (h : Blk w g (cellsD d vs vr) 91) :
    Calls Try.prog 54 #[.pointer (some ⟨g, 0, none⟩)] w fun x w' => x = .returned (if d.nw = true then .slice none 0 0 else vs) ∧ w = w' := by
  unfold cellsD at h
  have c1 : w.cell? ⟨g, 1, none⟩ = some vs := h.cell 1
  have c3 : w.cell? ⟨g, 3, none⟩ = some (.bool d.nw) := h.cell 3
  clear h
  cases hn : d.nw
  · rw [hn] at c3
    go_enter Try.func54, Try.ntmps54
    go_wp2_with fail
    go_ret
    exact ⟨rfl, rfl⟩
  · rw [hn] at c3
    go_enter Try.func54, Try.ntmps54
    go_wp2_with fail
    go_ret
    exact ⟨rfl, rfl⟩
set_option maxHeartbeats 1000000 in
theorem down_any (w : World) (base g : Nat) (d : DSt) (h : Dk w base g d) :
    Calls Try.prog 33 #[.pointer (some ⟨g, 0, none⟩)] w fun x w' => x = .returned (.bool d.dn) ∧ w = w' := by
  obtain ⟨vs, vr, h1, _⟩ := h
  have c4 : w.cell? ⟨g, 4, none⟩ = some (.bool d.dn) := h1.cell 4
  clear h1
  go_enter Try.func33, Try.ntmps33
  go_wp2_with fail
  go_ret
  exact ⟨rfl, rfl⟩
set_option maxHeartbeats 1000000 in
theorem sure_any (w : World) (base g : Nat) (d : DSt) (h : Dk w base g d) :
    Calls Try.prog 34 #[.pointer (some ⟨g, 0, none⟩)] w fun x w' => x = .returned (.int .i64 (d.S.length : Nat)) ∧ w = w' := by
  obtain ⟨vs, vr, h1, h2, _⟩ := h
  obtain ⟨p, c, rfl⟩ := h2.form
  have c1 : w.cell? ⟨g, 1, none⟩ = some (.slice p d.S.length c) := h1.cell 1
  clear h1 h2
  go_enter Try.func34, Try.ntmps34
  go_wp2_with fail
  go_ret
  exact ⟨rfl, rfl⟩
theorem ahead_len (d : DSt) : (d.ahead.length : Int) = if d.nw = true then 0 else (d.S.length : Int) := by unfold DSt.ahead; split <;> simp
set_option maxHeartbeats 2000000 in
theorem room_any (w : World) (base g : Nat) (d : DSt) (h : Dk w base g d) :
    Calls Try.prog 35 #[.pointer (some ⟨g, 0, none⟩)] w fun x w' => x = .returned (.int .i64 d.free) ∧ Below w.heap.size w w' := by
  obtain ⟨vs, vr, h1, h2, h3, _, _, _, _, hok⟩ := h
  obtain ⟨p, c, rfl⟩ := h2.form
  obtain ⟨q, e, rfl⟩ := h3.form
  have HA := Lib.hid (fun w' (hb : Below w.heap.size w w') => ahead_any w' g d _ _ (h1.below hb h1.lt))
  have HC0 : Hid (∀ w', Below w.heap.size w w' → w'.cell? ⟨g, 0, none⟩ = some (.int .i64 d.room)) := fun w' hb => (h1.below hb h1.lt).cell 0
  have HC2 : Hid (∀ w', Below w.heap.size w w' → w'.cell? ⟨g, 2, none⟩ = some (.slice q d.R.length e)) := fun w' hb => (h1.below hb h1.lt).cell 2
  have HF : Hid (d.free = (d.room : Int) - (if d.nw = true then 0 else (d.S.length : Int)) - (d.R.length : Int)) := by show _ = _; unfold DSt.free; rw [ahead_len]
  obtain ⟨k1, _, _, k4, k5, _⟩ := hok
  have hrm : (d.room : Int) ≤ 4194304 := by omega
  have hsl : (d.S.length : Int) ≤ 4194304 := by omega
  have hrl : (d.R.length : Int) ≤ 4194304 := by omega
  clear h1 h2 h3 k1 k4 k5
  generalize d.S.length = ns at *
  generalize d.R.length = nr at *
  generalize d.room = rm at *
  cases hn : d.nw
  all_goals
    rw [hn] at HA HF
    have a0 := HC0.out w.drew (Below.refl _ w).drew
    have a2 := HC2.out w.drew (Below.refl _ w).drew
    have HAd := Lib.hid (HA.out w.drew (Below.refl _ w).drew)
    clear HA HC0 HC2
    go_enter Try.func35, Try.ntmps35
    go_wp2_with fail
    go_region_held3 (fun w' => w'.cell? ⟨g, 0, none⟩ = some (.int .i64 rm) ∧ w'.cell? ⟨g, 2, none⟩ = some (.slice q nr e))
      (first | exact ⟨a0, a2⟩ | assumption)
      (first | (go_at_call 54; refine HAd.out.mono ?_; rintro y w1 ⟨rfl, rfl⟩))
    all_goals
      go_wp2_with fail
      go_ret
      refine ⟨ret_i64i ?_, (Below.refl _ w).drew⟩
      have e1 : IntKind.i64.wrap ((rm : Int) - (ns : Int)) = (rm : Int) - (ns : Int) := IntWalk.i64_in _ (by omega)
      have e2 : IntKind.i64.wrap ((rm : Int) - (ns : Int) - (nr : Int)) = (rm : Int) - (ns : Int) - (nr : Int) := IntWalk.i64_in _ (by omega)
      have e3 : IntKind.i64.wrap (rm : Int) = (rm : Int) := IntWalk.i64_in _ (by omega)
      have e4 : IntKind.i64.wrap ((rm : Int) - (nr : Int)) = (rm : Int) - (nr : Int) := IntWalk.i64_in _ (by omega)
      rw [HF.out]
      first | (rw [e1, e2]; rfl) | (rw [e3, e4]; simp)
end Go.Proofs.Ytikpffaompaaiaa
