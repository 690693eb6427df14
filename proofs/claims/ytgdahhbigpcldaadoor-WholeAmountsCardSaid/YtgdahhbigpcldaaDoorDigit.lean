/- money.text's digit and take: what they read, and what they keep of it. -/
import Derived.Test.YtgdahhbigpcldaaDoorMem
namespace Go.Proofs.YtgdahhbigpcldaaDoor
open Go.RowKit

/-- Block b has become cs; nothing else has turned. -/
structure Upd (b : Nat) (W W' : World) (cs : Array Value) (t : TypeId) : Prop where
  blk : Blk W' b cs t
  size : W'.heap.size = W.heap.size
  other : ∀ k, k ≠ b → W'.heap[k]? = W.heap[k]?
  os : W'.os = W.os
  tape : W'.tape = W.tape
  output : W'.output = W.output
theorem Upd.refl {b : Nat} {W : World} {cs : Array Value} {t : TypeId} (h : Blk W b cs t) : Upd b W W cs t := ⟨h, rfl, fun _ _ => rfl, rfl, rfl, rfl⟩
theorem Upd.set {b : Nat} {W W' : World} {cs : Array Value} {t : TypeId} (h : Upd b W W' cs t) (i : Nat) (v : Value) : Upd b W (W'.setCell ⟨b, i, none⟩ v) (cs.setIfInBounds i v) t :=
  ⟨h.blk.set i v, by rw [← h.size]; simp [World.setCell], fun k hk => (Below.heap_setCell _ _ _ _ hk).trans (h.other k hk), h.os, h.tape, h.output⟩
theorem Upd.below {b B : Nat} {W W' : World} {cs : Array Value} {t : TypeId} (h : Upd b W W' cs t) (hB : B ≤ b) : Below B W W' := ⟨h.os, h.tape, h.output, by rw [h.size]; exact Nat.le_refl _, fun k hk => h.other k (by omega)⟩

/-- What was read so far, as it lies in memory. -/
def tcells (m p : Bool) (ah be sz : Int) : Array Value := #[.bool m, .bool p, .int .i64 ah, .int .i64 be, .int .u64 sz]
/-- The size with a digit more: of all that fit nowhere the same. -/
def sizeMore (sz d : Int) : Int := if 922337203685477580 < sz then 9223372036854775809 else sz * 10 + d
theorem sizeMore_hi {sz d : Int} (h : 922337203685477580 < sz) : sizeMore sz d = 9223372036854775809 := if_pos h
theorem sizeMore_lo {sz d : Int} (h : sz ≤ 922337203685477580) : sizeMore sz d = sz * 10 + d := if_neg (by omega)

set_option maxHeartbeats 1000000 in
set_option maxRecDepth 100000 in
theorem digit_point (b : Nat) (m : Bool) (ah be sz d : Int) (W : World) (hB : Blk W b (tcells m true ah be sz) 48) (hb0 : 0 ≤ be) (hb1 : be ≤ 1000000000000) (hs0 : 0 ≤ sz) (hd0 : 0 ≤ d) (hd1 : d ≤ 9) :
    Calls Tryd.prog 23 #[.pointer (some ⟨b, 0, none⟩), .int .u64 d] W fun e W' => e = .returned (.bool true) ∧ Upd b W W' (tcells m true ah (be + 1) (sizeMore sz d)) 48 := by
  have c1 : W.cell? ⟨b, 1, none⟩ = some (.bool true) := hB.cell 1
  have c2 : W.cell? ⟨b, 2, none⟩ = some (.int .i64 ah) := hB.cell 2
  have c3 : W.cell? ⟨b, 3, none⟩ = some (.int .i64 be) := hB.cell 3
  have c4 : W.cell? ⟨b, 4, none⟩ = some (.int .u64 sz) := hB.cell 4
  have f3 := hB.free 3
  have f4 := hB.free 4
  have HB := Lib.hid hB
  clear hB
  by_cases hz : 922337203685477580 < sz
  · have e1 := Lib.hid (sizeMore_hi (d := d) hz)
    go_enter Tryd.func23, Tryd.ntmps23
    go_wp2
    go_ret
    refine ⟨rfl, ?_⟩
    rw [e1.out]
    exact ((Upd.refl HB.out).set 3 _).set 4 _
  · have hz' : sz ≤ 922337203685477580 := by omega
    have e1 := Lib.hid (sizeMore_lo (d := d) hz')
    clear hz
    go_enter Tryd.func23, Tryd.ntmps23
    go_wp2
    go_ret
    refine ⟨rfl, ?_⟩
    rw [e1.out]
    exact ((Upd.refl HB.out).set 3 _).set 4 _
/-- May the digit stand there? Behind a nought alone none may, ahead of the point. -/
def aheadB (ah sz : Int) : Bool := !(ah == 1 && sz == 0)
set_option maxHeartbeats 1000000 in
set_option maxRecDepth 100000 in
theorem digit_ahead (b : Nat) (m : Bool) (ah be sz d : Int) (W : World) (hB : Blk W b (tcells m false ah be sz) 48) (hb0 : 0 ≤ ah) (hb1 : ah ≤ 1000000000000) (hs0 : 0 ≤ sz) (hd0 : 0 ≤ d) (hd1 : d ≤ 9) :
    Calls Tryd.prog 23 #[.pointer (some ⟨b, 0, none⟩), .int .u64 d] W fun e W' => e = .returned (.bool (aheadB ah sz)) ∧ Upd b W W' (tcells m false (ah + 1) be (sizeMore sz d)) 48 := by
  have c1 : W.cell? ⟨b, 1, none⟩ = some (.bool false) := hB.cell 1
  have c2 : W.cell? ⟨b, 2, none⟩ = some (.int .i64 ah) := hB.cell 2
  have c3 : W.cell? ⟨b, 3, none⟩ = some (.int .i64 be) := hB.cell 3
  have c4 : W.cell? ⟨b, 4, none⟩ = some (.int .u64 sz) := hB.cell 4
  have f2 := hB.free 2
  have f4 := hB.free 4
  have HB := Lib.hid hB
  clear hB
  by_cases hz : 922337203685477580 < sz
  · have e1 := Lib.hid (sizeMore_hi (d := d) hz)
    have hs : (sz == 0) = false := beq_eq_false_iff_ne.2 (by omega)
    have e2 : Hid (aheadB ah sz = true) := by show _ = _; unfold aheadB; rw [hs]; simp
    by_cases ha : ah = 1
    · have h1 : (ah == 1) = true := by simpa using ha
      clear ha
      go_enter Tryd.func23, Tryd.ntmps23
      go_wp2
      go_ret
      refine ⟨by rw [e2.out]; rfl, ?_⟩
      rw [e1.out]
      exact ((Upd.refl HB.out).set 2 _).set 4 _
    · have h1 : (ah == 1) = false := by simpa using ha
      clear ha
      go_enter Tryd.func23, Tryd.ntmps23
      go_wp2
      go_ret
      refine ⟨by rw [e2.out]; rfl, ?_⟩
      rw [e1.out]
      exact ((Upd.refl HB.out).set 2 _).set 4 _
  · have hz' : sz ≤ 922337203685477580 := by omega
    have e1 := Lib.hid (sizeMore_lo (d := d) hz')
    clear hz
    by_cases ha : ah = 1
    · have h1 : (ah == 1) = true := by simpa using ha
      clear ha
      by_cases hs : sz = 0
      · have h2 : (sz == 0) = true := by simpa using hs
        have e2 : Hid (aheadB ah sz = false) := by show _ = _; unfold aheadB; rw [h1, h2]; rfl
        clear hs
        go_enter Tryd.func23, Tryd.ntmps23
        go_wp2
        go_ret
        refine ⟨by rw [e2.out]; rfl, ?_⟩
        rw [e1.out]
        exact ((Upd.refl HB.out).set 2 _).set 4 _
      · have h2 : (sz == 0) = false := by simpa using hs
        have e2 : Hid (aheadB ah sz = true) := by show _ = _; unfold aheadB; rw [h1, h2]; rfl
        clear hs
        go_enter Tryd.func23, Tryd.ntmps23
        go_wp2
        go_ret
        refine ⟨by rw [e2.out]; rfl, ?_⟩
        rw [e1.out]
        exact ((Upd.refl HB.out).set 2 _).set 4 _
    · have h1 : (ah == 1) = false := by simpa using ha
      have e2 : Hid (aheadB ah sz = true) := by show _ = _; unfold aheadB; rw [h1]; rfl
      clear ha
      go_enter Tryd.func23, Tryd.ntmps23
      go_wp2
      go_ret
      refine ⟨by rw [e2.out]; rfl, ?_⟩
      rw [e1.out]
      exact ((Upd.refl HB.out).set 2 _).set 4 _

/-- take at a sign. -/
theorem take_minus (b i : Nat) (m p : Bool) (ah be sz : Int) (W : World) (hB : Blk W b (tcells m p ah be sz) 48) :
    Calls Tryd.prog 16 #[.pointer (some ⟨b, 0, none⟩), .int .i64 i, .int .i32 45] W fun e W' => e = .returned (.bool ((i : Int) == 0)) ∧ Upd b W W' (tcells true p ah be sz) 48 := by
  have c0 : W.cell? ⟨b, 0, none⟩ = some (.bool m) := hB.cell 0
  have f0 := hB.free 0
  have HB := Lib.hid hB
  clear hB
  go_enter Tryd.func16, Tryd.ntmps16
  go_wp2
  all_goals
    go_ret
    exact ⟨rfl, (Upd.refl HB.out).set 0 _⟩
/-- take at a point. -/
theorem take_point (b i : Nat) (m p : Bool) (ah be sz : Int) (W : World) (hB : Blk W b (tcells m p ah be sz) 48) :
    Calls Tryd.prog 16 #[.pointer (some ⟨b, 0, none⟩), .int .i64 i, .int .i32 46] W fun e W' => e = .returned (.bool (decide (0 < ah) && !p)) ∧ Upd b W W' (tcells m true ah be sz) 48 := by
  have c1 : W.cell? ⟨b, 1, none⟩ = some (.bool p) := hB.cell 1
  have c2 : W.cell? ⟨b, 2, none⟩ = some (.int .i64 ah) := hB.cell 2
  have f1 := hB.free 1
  have HB := Lib.hid hB
  clear hB
  by_cases ha : 0 < ah
  · have e2 : Hid ((decide (0 < ah) && !p) = !p) := by show _ = _; rw [decide_eq_true ha]; rfl
    go_enter Tryd.func16, Tryd.ntmps16
    go_wp2
    all_goals
      go_ret
      exact ⟨by rw [e2.out]; rfl, (Upd.refl HB.out).set 1 _⟩
  · have e2 : Hid ((decide (0 < ah) && !p) = false) := by show _ = _; rw [decide_eq_false ha]; rfl
    go_enter Tryd.func16, Tryd.ntmps16
    go_wp2
    all_goals
      go_ret
      exact ⟨by rw [e2.out]; rfl, (Upd.refl HB.out).set 1 _⟩
/-- take at what is no sign, no point and no digit. -/
theorem take_none (b i : Nat) (r : Int) (W : World) (h1 : r ≠ 45) (h2 : r ≠ 46) (h3 : r < 48 ∨ 57 < r) :
    Calls Tryd.prog 16 #[.pointer (some ⟨b, 0, none⟩), .int .i64 i, .int .i32 r] W fun e W' => e = .returned (.bool false) ∧ W = W' := by
  have e1 : (r == 45) = false := beq_eq_false_iff_ne.2 h1
  have e2 : (r == 46) = false := beq_eq_false_iff_ne.2 h2
  clear h1 h2
  rcases h3 with h3 | h3
  · go_enter Tryd.func16, Tryd.ntmps16
    go_wp2
    go_ret
    exact ⟨rfl, rfl⟩
  · go_enter Tryd.func16, Tryd.ntmps16
    go_wp2
    go_ret
    exact ⟨rfl, rfl⟩
/-- take at a digit. -/
theorem take_digit (b i : Nat) (r : Int) (ok : Bool) (cs : Array Value) (W : World) (h1 : 48 ≤ r) (h2 : r ≤ 57)
    (hd : Calls Tryd.prog 23 #[.pointer (some ⟨b, 0, none⟩), .int .u64 (r - 48)] W fun e W' => e = .returned (.bool ok) ∧ Upd b W W' cs 48) :
    Calls Tryd.prog 16 #[.pointer (some ⟨b, 0, none⟩), .int .i64 i, .int .i32 r] W fun e W' => e = .returned (.bool ok) ∧ Upd b W W' cs 48 := by
  have e1 : (r == 45) = false := beq_eq_false_iff_ne.2 (by omega)
  have e2 : (r == 46) = false := beq_eq_false_iff_ne.2 (by omega)
  have HD := Lib.hid hd
  clear hd
  go_enter Tryd.func16, Tryd.ntmps16
  go_wp2_with (go_at_call 23; refine HD.out.mono ?_; rintro e W' ⟨rfl, hu⟩)
  go_ret
  exact ⟨rfl, hu⟩
end Go.Proofs.YtgdahhbigpcldaaDoor
