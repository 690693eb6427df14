/- contraref06.Up by contract. -/
import Derived.Test.YtgkikjjgbceopaaRefDisk2
namespace Go.Proofs.Ytgkikjjgbceopaa
open Go.RowKit
set_option maxHeartbeats 2000000 in
theorem refup_any (d : DSt) (h : d.Ok) (w : World) :
    Calls Try.prog 42 #[refV d] w fun x w' => x = .returned (refV d.upD) ∧ Below w.heap.size w w' := by
  have hs : (strOfNums d.S).size ≤ 4194304 := by rw [strOfNums_size]; exact h.2.2.2.1
  have hr : (strOfNums d.R).size ≤ 4194304 := by rw [strOfNums_size]; exact h.2.2.2.2.1
  have q : ¬ 9223372036854775807 < (strOfNums d.S).size + (strOfNums d.R).size := by omega
  have q0 : ¬ 9223372036854775807 < (strOfNums d.S).size := by omega
  unfold DSt.upD DSt.giveD
  unfold refV cellsR
  cases hd : d.dn
  · go_enter Try.func42, Try.ntmps42
    go_wp2_with fail
    have hf := Blk.new' (w.alloc (.cells #[.int .i64 d.room, .string (strOfNums d.S), .string (strOfNums d.R), .bool d.nw, .bool false, .int .i64 d.left] 58)) #[.int .i64 d.room, .string (strOfNums d.S), .string (strOfNums d.R), .bool d.nw, .bool false, .int .i64 d.left] 58 (b := w.heap.size + 1) (by simp)
    refine bodyPost_ret (v := .agg #[.int .i64 d.room, .string (strOfNums d.S), .string (strOfNums d.R), .bool d.nw, .bool false, .int .i64 d.left]) (by simp [results, Try.results42, go_sem, hf.cell 0, hf.cell 1, hf.cell 2, hf.cell 3, hf.cell 4, hf.cell 5]) rfl ⟨rfl, two_below6 _ _ _⟩
  · cases hn : d.nw
    · go_enter Try.func42, Try.ntmps42
      go_wp2_with fail
      have hf := Blk.new' (w.alloc (.cells #[.int .i64 d.room, .string (strOfNums d.S ++ strOfNums d.R), .string ⟨#[]⟩, .bool false, .bool false, .int .i64 d.left] 58)) #[.int .i64 d.room, .string (strOfNums d.S ++ strOfNums d.R), .string ⟨#[]⟩, .bool false, .bool false, .int .i64 d.left] 58 (b := w.heap.size + 1) (by simp)
      refine bodyPost_ret (v := .agg #[.int .i64 d.room, .string (strOfNums d.S ++ strOfNums d.R), .string ⟨#[]⟩, .bool false, .bool false, .int .i64 d.left]) (by simp [results, Try.results42, go_sem, hf.cell 0, hf.cell 1, hf.cell 2, hf.cell 3, hf.cell 4, hf.cell 5]) rfl ⟨by rw [strOfNums_app]; rfl, two_below6 _ _ _⟩
    · go_enter Try.func42, Try.ntmps42
      go_wp2_with fail
      have hf := Blk.new' (w.alloc (.cells #[.int .i64 d.room, .string (strOfNums d.S ++ ⟨#[]⟩), .string ⟨#[]⟩, .bool false, .bool false, .int .i64 d.left] 58)) #[.int .i64 d.room, .string (strOfNums d.S ++ ⟨#[]⟩), .string ⟨#[]⟩, .bool false, .bool false, .int .i64 d.left] 58 (b := w.heap.size + 1) (by simp)
      refine bodyPost_ret (v := .agg #[.int .i64 d.room, .string (strOfNums d.S ++ ⟨#[]⟩), .string ⟨#[]⟩, .bool false, .bool false, .int .i64 d.left]) (by simp [results, Try.results42, go_sem, hf.cell 0, hf.cell 1, hf.cell 2, hf.cell 3, hf.cell 4, hf.cell 5]) rfl ⟨by rw [show strOfNums d.S ++ ⟨#[]⟩ = strOfNums (d.S ++ []) from strOfNums_app d.S []]; rfl, two_below6 _ _ _⟩
end Go.Proofs.Ytgkikjjgbceopaa
