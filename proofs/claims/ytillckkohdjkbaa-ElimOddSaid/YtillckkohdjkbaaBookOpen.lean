/- (book.Book).Open by contract: the closures, Clone, IndexFunc, DeleteFunc. -/
import Derived.Test.YtillckkohdjkbaaBookWI
import Derived.Test.YtillckkohdjkbaaSum0
import Derived.Lib.SliceRun
import Derived.Test.YtillckkohdjkbaaBookCl
namespace Go.Proofs.Ytillckkohdjkbaa
open Go.RowKit
def outI (cur oth : Int) (x : Itm) : Bool := x.c != cur || (decide (0 ≤ oth) && x.s != oth && x.b != oth)
def dropI (cur oth : Int) (x : Itm) : Bool := x.t != 3 || outI cur oth x
set_option linter.unusedSimpArgs false in
set_option maxHeartbeats 4000000 in
set_option maxRecDepth 100000 in
theorem out_any (w : World) (x : Itm) (cur oth : Int) (bc bo : Nat) (hc : w.cell? ⟨bc, 0, none⟩ = some (.int .i64 cur)) (ho : w.cell? ⟨bo, 0, none⟩ = some (.int .i64 oth)) :
    Calls Try.prog 41 #[x.v, .pointer (some ⟨bc, 0, none⟩), .pointer (some ⟨bo, 0, none⟩)] w fun e w' => e = .returned (.bool (outI cur oth x)) ∧ Below w.heap.size w w' := by
  have HB := Lib.hid (oneB w (.cells #[.int .i64 x.s, .int .i64 x.n, .int .i64 x.b, .int .i64 x.c, .int .i64 x.a, .int .i64 x.r, .int .i64 x.t, .int .i64 x.y] 39))
  have hc2 := (HB.out.cell (p := ⟨bc, 0, none⟩) (World.block_lt_of_cell? w _ hc)).trans hc
  have ho2 := (HB.out.cell (p := ⟨bo, 0, none⟩) (World.block_lt_of_cell? w _ ho)).trans ho
  unfold outI
  clear hc ho
  unfold Itm.v
  by_cases h1 : x.c = cur
  · have e1 : (x.c != cur) = false := by simpa using h1
    rw [e1]
    clear h1
    by_cases h2 : 0 ≤ oth
    · rw [show decide (0 ≤ oth) = true from decide_eq_true h2]
      by_cases h3 : x.s = oth
      · have e3 : (x.s != oth) = false := by simpa using h3
        rw [e3]
        clear h3
        go_enter Try.func41, Try.ntmps41
        go_wp2_with fail
        go_ret
        exact ⟨retBo rfl, HB.out⟩
      · have e3 : (x.s != oth) = true := by simpa using h3
        rw [e3]
        clear h3
        go_enter Try.func41, Try.ntmps41
        go_wp2_with fail
        go_ret
        exact ⟨retBo (by simp), HB.out⟩
    · rw [show decide (0 ≤ oth) = false from decide_eq_false h2]
      go_enter Try.func41, Try.ntmps41
      go_wp2_with fail
      go_ret
      exact ⟨retBo (by simp), HB.out⟩
  · have e1 : (x.c != cur) = true := by simpa using h1
    rw [e1]
    clear h1
    go_enter Try.func41, Try.ntmps41
    go_wp2_with fail
    go_ret
    exact ⟨retBo (by simp), HB.out⟩
set_option linter.unusedSimpArgs false in
set_option maxHeartbeats 4000000 in
set_option maxRecDepth 100000 in
theorem drop_any (w : World) (x : Itm) (cur oth : Int) (bf bc bo : Nat) (hf : w.cell? ⟨bf, 0, none⟩ = some (.func (.func 41) #[] #[.pointer (some ⟨bc, 0, none⟩), .pointer (some ⟨bo, 0, none⟩)])) (hc : w.cell? ⟨bc, 0, none⟩ = some (.int .i64 cur)) (ho : w.cell? ⟨bo, 0, none⟩ = some (.int .i64 oth)) :
    Calls Try.prog 55 #[x.v, .pointer (some ⟨bf, 0, none⟩)] w fun e w' => e = .returned (.bool (dropI cur oth x)) ∧ Below w.heap.size w w' := by
  have HB := Lib.hid (oneB w (.cells #[.int .i64 x.s, .int .i64 x.n, .int .i64 x.b, .int .i64 x.c, .int .i64 x.a, .int .i64 x.r, .int .i64 x.t, .int .i64 x.y] 39))
  have hc2 := (HB.out.cell (p := ⟨bc, 0, none⟩) (World.block_lt_of_cell? w _ hc)).trans hc
  have ho2 := (HB.out.cell (p := ⟨bo, 0, none⟩) (World.block_lt_of_cell? w _ ho)).trans ho
  have hf2 := (HB.out.cell (p := ⟨bf, 0, none⟩) (World.block_lt_of_cell? w _ hf)).trans hf
  have HO := Lib.hid (out_any _ x cur oth bc bo hc2 ho2)
  unfold dropI
  generalize outI cur oth x = ou at *
  clear hc ho hf hc2 ho2
  unfold Itm.v at *
  by_cases h : x.t = 3
  · have e1 : (x.t != 3) = false := by simpa using h
    rw [e1]
    clear h
    go_enter Try.func55, Try.ntmps55
    go_wp2_with fail
    refine HO.out.mono ?_
    rintro y w1 ⟨rfl, hb⟩
    have HB2 := Lib.hid (HB.out.trans (hb.mono HB.out.size))
    clear hb HO
    go_wp2_with fail
    go_ret
    exact ⟨retBo (by simp), HB2.out⟩
  · have e1 : (x.t != 3) = true := by simpa using h
    rw [e1]
    clear h HO
    go_enter Try.func55, Try.ntmps55
    go_wp2_with fail
    go_ret
    exact ⟨retBo (by simp), HB.out⟩
/-- What the closure wants of a world. -/
def Kept3 (w : World) (bf bc bo : Nat) (cur oth : Int) : Prop := w.cell? ⟨bf, 0, none⟩ = some (.func (.func 41) #[] #[.pointer (some ⟨bc, 0, none⟩), .pointer (some ⟨bo, 0, none⟩)]) ∧ w.cell? ⟨bc, 0, none⟩ = some (.int .i64 cur) ∧ w.cell? ⟨bo, 0, none⟩ = some (.int .i64 oth)
theorem Kept3.kept {w w' : World} {bf bc bo : Nat} {cur oth : Int} (h : Kept3 w bf bc bo cur oth) (hb : Below w.heap.size w w') : Kept3 w' bf bc bo cur oth :=
  ⟨(hb.cell (p := ⟨bf, 0, none⟩) (World.block_lt_of_cell? w _ h.1)).trans h.1, (hb.cell (p := ⟨bc, 0, none⟩) (World.block_lt_of_cell? w _ h.2.1)).trans h.2.1, (hb.cell (p := ⟨bo, 0, none⟩) (World.block_lt_of_cell? w _ h.2.2)).trans h.2.2⟩
set_option linter.unusedSimpArgs false in
set_option maxHeartbeats 4000000 in
set_option maxRecDepth 100000 in
theorem idx_none (w : World) (v : Value) (xs : List Itm) (cur oth : Int) (bf bc bo : Nat) (hr : TRow encI w v xs) (hK : Kept3 w bf bc bo cur oth) (hn : xs.length ≤ 2000) (hall : ∀ x ∈ xs, dropI cur oth x = false) :
    Calls Try.prog 58 #[v, (.func (.func 55) #[] #[.pointer (some ⟨bf, 0, none⟩)])] w fun e w' => e = .returned (.int .i64 (-1)) ∧ Below w.heap.size w w' := by
  obtain ⟨p, c, rfl⟩ := hr.shape
  have HR := Lib.hid hr
  have HKK := Lib.hid hK
  have HALL := Lib.hid hall
  clear hr hK hall
  generalize hl : xs.length = n at *
  have HL := Lib.hid hl
  clear hl
  go_enter Try.func58, Try.ntmps58
  go_wp2_with fail
  go_loopw [5, 8] (fun _ i wr => ∃ k : Nat, k ≤ n ∧ i = .int .i64 k ∧ Hid (Below w.heap.size w wr)) (fun _ i _ => n - (intOf i).toNat)
  case atStart => exact ⟨0, by omega, rfl, (Below.refl _ _ : Below w.heap.size w w)⟩
  case round =>
    obtain ⟨k, hk, rfl, HB⟩ := hrel
    by_cases hlt : k < n
    · have hkl : k < xs.length := by rw [HL.out]; exact hlt
      have hltI : (k : Int) < (n : Int) := by omega
      obtain ⟨b, o, rfl, hbl, hcs⟩ := (HR.out.kept HB.out).at_ k hkl
      have HX : Hid (dropI cur oth xs[k] = false) := HALL.out _ (List.getElem_mem _)
      generalize xs[k] = x at *
      have c0 : wr.cell? ⟨b, o + k * 8, none⟩ = some (.int .i64 x.s) := hcs 0 (by decide)
      have c1 : wr.cell? ⟨b, o + k * 8 + 1, none⟩ = some (.int .i64 x.n) := hcs 1 (by decide)
      have c2 : wr.cell? ⟨b, o + k * 8 + 2, none⟩ = some (.int .i64 x.b) := hcs 2 (by decide)
      have c3 : wr.cell? ⟨b, o + k * 8 + 3, none⟩ = some (.int .i64 x.c) := hcs 3 (by decide)
      have c4 : wr.cell? ⟨b, o + k * 8 + 4, none⟩ = some (.int .i64 x.a) := hcs 4 (by decide)
      have c5 : wr.cell? ⟨b, o + k * 8 + 5, none⟩ = some (.int .i64 x.r) := hcs 5 (by decide)
      have c6 : wr.cell? ⟨b, o + k * 8 + 6, none⟩ = some (.int .i64 x.t) := hcs 6 (by decide)
      have c7 : wr.cell? ⟨b, o + k * 8 + 7, none⟩ = some (.int .i64 x.y) := hcs 7 (by decide)
      obtain ⟨k1, k2, k3⟩ := HKK.out.kept HB.out
      have HD := Lib.hid (drop_any wr x cur oth bf bc bo k1 k2 k3)
      rw [HX.out] at HD
      unfold Itm.v at HD
      clear hcs k1 k2 k3
      go_wp2_with fail
      refine HD.out.mono ?_
      rintro y w1 ⟨rfl, hb⟩
      have HN := Lib.hid (HB.out.trans (hb.mono HB.out.size))
      clear hb c0 c1 c2 c3 c4 c5 c6 c7 HD
      go_wp2_with fail
      go_roundw
      case rel => exact ⟨k + 1, by omega, by go_num, HN⟩
      case measure => simp [intOf]; omega
    · have hle : (n : Int) ≤ (k : Int) := by omega
      go_wp2_with fail
      go_ret
      exact ⟨rfl, HB.out⟩
set_option linter.unusedSimpArgs false in
set_option maxHeartbeats 4000000 in
set_option maxRecDepth 100000 in
theorem delete_none (w : World) (v : Value) (xs : List Itm) (cur oth : Int) (bf bc bo : Nat) (hr : TRow encI w v xs) (hK : Kept3 w bf bc bo cur oth) (hn : xs.length ≤ 2000) (hall : ∀ x ∈ xs, dropI cur oth x = false) :
    Calls Try.prog 53 #[v, (.func (.func 55) #[] #[.pointer (some ⟨bf, 0, none⟩)])] w fun e w' => e = .returned v ∧ Below w.heap.size w w' := by
  have HI := Lib.hid (idx_none w v xs cur oth bf bc bo hr hK hn hall)
  obtain ⟨p, c, rfl⟩ := hr.shape
  generalize xs.length = n at *
  clear hr hK hall
  go_enter Try.func53, Try.ntmps53
  go_wp2_with fail
  refine HI.out.mono ?_
  rintro y w1 ⟨rfl, hb⟩
  have HB := Lib.hid hb
  clear hb HI
  go_wp2_with fail
  go_ret
  exact ⟨rfl, HB.out⟩
end Go.Proofs.Ytillckkohdjkbaa
