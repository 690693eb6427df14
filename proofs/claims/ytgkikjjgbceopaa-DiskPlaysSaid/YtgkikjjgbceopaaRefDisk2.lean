/- contraref06.Sync, Up, Crash by contract. -/
import Derived.Test.YtgkikjjgbceopaaRefDisk
namespace Go.Proofs.Ytgkikjjgbceopaa
open Go.RowKit
set_option maxHeartbeats 2000000 in
theorem refsync_any (d : DSt) (h : d.Ok) (w : World) :
    Calls Try.prog 39 #[refV d] w fun x w' => x = .returned (.tuple #[refV d.syncD, .int .i64 d.syncE]) ∧ Below w.heap.size w w' := by
  have HA := Lib.hid (refall_any d h)
  unfold DSt.syncD DSt.syncE
  unfold refV cellsR at HA ⊢
  cases hd : d.dn
  · rw [hd] at HA
    go_enter Try.func39, Try.ntmps39
    go_wp2_with fail
    refine (HA.out _).mono ?_
    rintro y w1 ⟨rfl, hb1⟩
    have hP := ((Blk.new w #[.int .i64 d.room, .string (strOfNums d.S), .string (strOfNums d.R), .bool d.nw, .bool false, .int .i64 d.left] 58).alloc (.cells #[.int .i64 0, .string ⟨#[]⟩, .string ⟨#[]⟩, .bool false, .bool false, .int .i64 0] 58)).below hb1 (by simp; omega)
    have hR := (Blk.new' (w.alloc (.cells #[.int .i64 d.room, .string (strOfNums d.S), .string (strOfNums d.R), .bool d.nw, .bool false, .int .i64 d.left] 58)) #[.int .i64 0, .string ⟨#[]⟩, .string ⟨#[]⟩, .bool false, .bool false, .int .i64 0] 58 (b := w.heap.size + 1) (by simp)).below hb1 (by simp)
    have lP := hP.lt
    have lR := hR.lt
    have p0 : w1.cell? ⟨w.heap.size, 0, none⟩ = some (.int .i64 d.room) := hP.cell 0
    have fp0 := hP.free 0
    have p1 : w1.cell? ⟨w.heap.size, 1, none⟩ = some (.string (strOfNums d.S)) := hP.cell 1
    have fp1 := hP.free 1
    have p2 : w1.cell? ⟨w.heap.size, 2, none⟩ = some (.string (strOfNums d.R)) := hP.cell 2
    have fp2 := hP.free 2
    have p3 : w1.cell? ⟨w.heap.size, 3, none⟩ = some (.bool d.nw) := hP.cell 3
    have fp3 := hP.free 3
    have p4 : w1.cell? ⟨w.heap.size, 4, none⟩ = some (.bool false) := hP.cell 4
    have fp4 := hP.free 4
    have p5 : w1.cell? ⟨w.heap.size, 5, none⟩ = some (.int .i64 d.left) := hP.cell 5
    have fp5 := hP.free 5
    have r0 : w1.cell? ⟨w.heap.size + 1, 0, none⟩ = some (.int .i64 0) := hR.cell 0
    have fr0 := hR.free 0
    have r1 : w1.cell? ⟨w.heap.size + 1, 1, none⟩ = some (.string ⟨#[]⟩) := hR.cell 1
    have fr1 := hR.free 1
    have r2 : w1.cell? ⟨w.heap.size + 1, 2, none⟩ = some (.string ⟨#[]⟩) := hR.cell 2
    have fr2 := hR.free 2
    have r3 : w1.cell? ⟨w.heap.size + 1, 3, none⟩ = some (.bool false) := hR.cell 3
    have fr3 := hR.free 3
    have r4 : w1.cell? ⟨w.heap.size + 1, 4, none⟩ = some (.bool false) := hR.cell 4
    have fr4 := hR.free 4
    have r5 : w1.cell? ⟨w.heap.size + 1, 5, none⟩ = some (.int .i64 0) := hR.cell 5
    have fr5 := hR.free 5
    have HP := Lib.hid hP
    have HR := Lib.hid hR
    have HB : Hid (Below w.heap.size w w1) := (two_below6 _ _ _).trans (hb1.mono (by simp; omega))
    clear hP hR hb1
    go_wp2_with fail
    have hf : Blk (((((((((w1.setCell ⟨w.heap.size, 1, none⟩ (.string (strOfNums d.all))).setCell ⟨w.heap.size, 2, none⟩ (.string ⟨#[]⟩)).setCell ⟨w.heap.size, 3, none⟩ (.bool false)).setCell ⟨w.heap.size + 1, 0, none⟩ (.int .i64 d.room)).setCell ⟨w.heap.size + 1, 1, none⟩ (.string (strOfNums d.all))).setCell ⟨w.heap.size + 1, 2, none⟩ (.string ⟨#[]⟩)).setCell ⟨w.heap.size + 1, 3, none⟩ (.bool false)).setCell ⟨w.heap.size + 1, 4, none⟩ (.bool false)).setCell ⟨w.heap.size + 1, 5, none⟩ (.int .i64 d.left)) (w.heap.size + 1) #[.int .i64 d.room, .string (strOfNums d.all), .string ⟨#[]⟩, .bool false, .bool false, .int .i64 d.left] 58 := (((((((((HR.out.setOther (a := ⟨w.heap.size, 1, none⟩) (by simp) (.string (strOfNums d.all))).setOther (a := ⟨w.heap.size, 2, none⟩) (by simp) (.string ⟨#[]⟩)).setOther (a := ⟨w.heap.size, 3, none⟩) (by simp) (.bool false)).set 0 (.int .i64 d.room)).set 1 (.string (strOfNums d.all))).set 2 (.string ⟨#[]⟩)).set 3 (.bool false)).set 4 (.bool false)).set 5 (.int .i64 d.left))
    refine bodyPost_ret (v := .tuple #[.agg #[.int .i64 d.room, .string (strOfNums d.all), .string ⟨#[]⟩, .bool false, .bool false, .int .i64 d.left], .int .i64 0]) (by simp [results, Try.results39, go_sem, hf.cell 0, hf.cell 1, hf.cell 2, hf.cell 3, hf.cell 4, hf.cell 5]) rfl ⟨by first | rfl | (rw [if_neg (by decide)]; unfold DSt.settleD; rw [hd]; rfl) | (simp [hd, DSt.settleD]; rfl), (((((((((HB.out.setCell (p := ⟨w.heap.size, 1, none⟩) (Nat.le_refl _) (.string (strOfNums d.all))).setCell (p := ⟨w.heap.size, 2, none⟩) (Nat.le_refl _) (.string ⟨#[]⟩)).setCell (p := ⟨w.heap.size, 3, none⟩) (Nat.le_refl _) (.bool false)).setCell (p := ⟨w.heap.size + 1, 0, none⟩) (Nat.le_succ _) (.int .i64 d.room)).setCell (p := ⟨w.heap.size + 1, 1, none⟩) (Nat.le_succ _) (.string (strOfNums d.all))).setCell (p := ⟨w.heap.size + 1, 2, none⟩) (Nat.le_succ _) (.string ⟨#[]⟩)).setCell (p := ⟨w.heap.size + 1, 3, none⟩) (Nat.le_succ _) (.bool false)).setCell (p := ⟨w.heap.size + 1, 4, none⟩) (Nat.le_succ _) (.bool false)).setCell (p := ⟨w.heap.size + 1, 5, none⟩) (Nat.le_succ _) (.int .i64 d.left))⟩
  · go_enter Try.func39, Try.ntmps39
    go_wp2_with fail
    have hf := Blk.new' (w.alloc (.cells #[.int .i64 d.room, .string (strOfNums d.S), .string (strOfNums d.R), .bool d.nw, .bool true, .int .i64 d.left] 58)) #[.int .i64 d.room, .string (strOfNums d.S), .string (strOfNums d.R), .bool d.nw, .bool true, .int .i64 d.left] 58 (b := w.heap.size + 1) (by simp)
    refine bodyPost_ret (v := .tuple #[.agg #[.int .i64 d.room, .string (strOfNums d.S), .string (strOfNums d.R), .bool d.nw, .bool true, .int .i64 d.left], .int .i64 60]) (by simp [results, Try.results39, go_sem, hf.cell 0, hf.cell 1, hf.cell 2, hf.cell 3, hf.cell 4, hf.cell 5]) rfl ⟨by first | rfl | (rw [if_pos rfl]; rw [hd]; rfl) | (simp [hd]), two_below6 _ _ _⟩
end Go.Proofs.Ytgkikjjgbceopaa
