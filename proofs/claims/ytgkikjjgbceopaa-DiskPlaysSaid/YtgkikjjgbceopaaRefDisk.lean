/- contraref06's functions by contract. -/
import Derived.Test.YtgkikjjgbceopaaDiskPure
import Derived.Test.YtgkikjjgbceopaaChg
import Derived.Test.YtgkikjjgbceopaaStrRow
namespace Go.Proofs.Ytgkikjjgbceopaa
open Go.RowKit
/-- The document's disk as a value. -/
def cellsR (d : DSt) : Array Value := #[.int .i64 d.room, .string (strOfNums d.S), .string (strOfNums d.R), .bool d.nw, .bool d.dn, .int .i64 d.left]
def refV (d : DSt) : Value := .agg (cellsR d)
theorem strOfNums_app (a b : List Int) : strOfNums a ++ strOfNums b = strOfNums (a ++ b) := by
  unfold strOfNums
  rw [List.map_append]
  exact ByteArray.mk_append_mk ..
theorem str_nil : strOfNums [] = ⟨#[]⟩ := rfl
theorem two_below6 (w : World) (a b : Obj) : Below w.heap.size w ((w.alloc a).alloc b) := (oneB w a).alloc (by simp) b
set_option maxHeartbeats 2000000 in
theorem refall_any (d : DSt) (h : d.Ok) (w : World) :
    Calls Try.prog 44 #[refV d] w fun x w' => x = .returned (.string (strOfNums d.all)) ∧ Below w.heap.size w w' := by
  unfold refV cellsR
  have hs : (strOfNums d.S).size ≤ 4194304 := by rw [strOfNums_size]; exact h.2.2.2.1
  have hr : (strOfNums d.R).size ≤ 4194304 := by rw [strOfNums_size]; exact h.2.2.2.2.1
  have q : ¬ 9223372036854775807 < (strOfNums d.S).size + (strOfNums d.R).size := by omega
  cases hn : d.nw
  · have hall : Hid (strOfNums d.all = strOfNums d.S ++ strOfNums d.R) := by show _ = _; unfold DSt.all DSt.ahead; rw [if_neg (by rw [hn]; decide), strOfNums_app]
    go_enter Try.func44, Try.ntmps44
    go_wp2_with fail
    go_ret
    exact ⟨by rw [hall.out]; rfl, oneB w _⟩
  · have hall : Hid (strOfNums d.all = strOfNums d.R) := by show _ = _; unfold DSt.all DSt.ahead; rw [if_pos hn]; rfl
    go_enter Try.func44, Try.ntmps44
    go_wp2_with fail
    go_ret
    exact ⟨by rw [hall.out]; rfl, oneB w _⟩
set_option maxHeartbeats 2000000 in
theorem refburn_any (d : DSt) (n : Nat) (hn : n ≤ 8388608) (h7 : -9223372036854775808 ≤ d.left) (h8 : d.left ≤ 9223372036854775807) (w : World) :
    Calls Try.prog 60 #[refV d, .int .i64 n] w fun x w' => x = .returned (.tuple #[refV { d with left := spendL d.left n, dn := d.dn || spendE d.left n }, .int .i64 (spendN d.left n : Nat), .bool (!(spendE d.left n))]) ∧ Below w.heap.size w w' := by
  unfold refV cellsR
  by_cases hl : d.left < 0
  · have hE : spendE d.left n = false := by unfold spendE; rw [decide_eq_false_iff_not]; omega
    have hN : spendN d.left n = n := by unfold spendN; rw [hE]; rfl
    have hL : spendL d.left n = d.left := by unfold spendL; rw [if_pos hl]
    rw [hE, hN, hL, Bool.or_false]
    go_enter Try.func60, Try.ntmps60
    go_wp2_with fail
    have hf := Blk.new' (w.alloc (.cells #[.int .i64 d.room, .string (strOfNums d.S), .string (strOfNums d.R), .bool d.nw, .bool d.dn, .int .i64 d.left] 58)) #[.int .i64 d.room, .string (strOfNums d.S), .string (strOfNums d.R), .bool d.nw, .bool d.dn, .int .i64 d.left] 58 (b := w.heap.size + 1) (by simp)
    refine bodyPost_ret (v := .tuple #[.agg #[.int .i64 d.room, .string (strOfNums d.S), .string (strOfNums d.R), .bool d.nw, .bool d.dn, .int .i64 d.left], .int .i64 n, .bool true]) (by simp [results, Try.results60, go_sem, hf.cell 0, hf.cell 1, hf.cell 2, hf.cell 3, hf.cell 4, hf.cell 5]) rfl ⟨rfl, two_below6 _ _ _⟩
  · by_cases hs : d.left < n
    · have hE : spendE d.left n = true := by unfold spendE; rw [decide_eq_true_eq]; omega
      have hN : ((spendN d.left n : Nat) : Int) = d.left := by unfold spendN; rw [hE, if_pos rfl]; omega
      have hL : spendL d.left n = -1 := by unfold spendL; rw [if_neg hl, hE, if_pos rfl]
      have hl' : (0 : Int) ≤ d.left := by omega
      rw [hE, hN, hL, Bool.or_true]
      go_enter Try.func60, Try.ntmps60
      go_wp2_with fail
      have hf := Blk.new' (w.alloc (.cells #[.int .i64 d.room, .string (strOfNums d.S), .string (strOfNums d.R), .bool d.nw, .bool true, .int .i64 (-1)] 58)) #[.int .i64 d.room, .string (strOfNums d.S), .string (strOfNums d.R), .bool d.nw, .bool true, .int .i64 (-1)] 58 (b := w.heap.size + 1) (by simp)
      refine bodyPost_ret (v := .tuple #[.agg #[.int .i64 d.room, .string (strOfNums d.S), .string (strOfNums d.R), .bool d.nw, .bool true, .int .i64 (-1)], .int .i64 d.left, .bool false]) (by simp [results, Try.results60, go_sem, hf.cell 0, hf.cell 1, hf.cell 2, hf.cell 3, hf.cell 4, hf.cell 5]) rfl ⟨rfl, two_below6 _ _ _⟩
    · have hE : spendE d.left n = false := by unfold spendE; rw [decide_eq_false_iff_not]; omega
      have hN : spendN d.left n = n := by unfold spendN; rw [hE]; rfl
      have hL : spendL d.left n = d.left - n := by unfold spendL; rw [if_neg hl, hE, if_neg (by decide)]
      have hl' : (0 : Int) ≤ d.left := by omega
      have hs' : (n : Int) ≤ d.left := by omega
      rw [hE, hN, hL, Bool.or_false]
      go_enter Try.func60, Try.ntmps60
      go_wp2_with fail
      have hf := Blk.new' (w.alloc (.cells #[.int .i64 d.room, .string (strOfNums d.S), .string (strOfNums d.R), .bool d.nw, .bool d.dn, .int .i64 (d.left - n)] 58)) #[.int .i64 d.room, .string (strOfNums d.S), .string (strOfNums d.R), .bool d.nw, .bool d.dn, .int .i64 (d.left - n)] 58 (b := w.heap.size + 1) (by simp)
      refine bodyPost_ret (v := .tuple #[.agg #[.int .i64 d.room, .string (strOfNums d.S), .string (strOfNums d.R), .bool d.nw, .bool d.dn, .int .i64 (d.left - n)], .int .i64 n, .bool true]) (by simp [results, Try.results60, go_sem, hf.cell 0, hf.cell 1, hf.cell 2, hf.cell 3, hf.cell 4, hf.cell 5]) rfl ⟨rfl, two_below6 _ _ _⟩
end Go.Proofs.Ytgkikjjgbceopaa
