/- contraref06.Renew by contract. -/
import Derived.Test.YtgkikjjgbceopaaRefDisk3
namespace Go.Proofs.Ytgkikjjgbceopaa
open Go.RowKit
theorem spendL_fell {l : Int} {n : Nat} (hs : spendE l n = true) : spendL l n = -1 := by
  unfold spendL
  have hs' := hs
  unfold spendE at hs'
  rw [decide_eq_true_eq] at hs'
  rw [if_neg (by omega), if_pos hs]
set_option linter.unusedSimpArgs false in
set_option maxHeartbeats 2000000 in
theorem refrenew_any (d : DSt) (zs : List Int) (hz : zs.length ≤ 8388608) (h : d.Ok) (w : World) :
    Calls Try.prog 37 #[refV d, .string (strOfNums zs)] w fun x w' => x = .returned (.tuple #[refV (d.renewD zs), .int .i64 (d.renewE zs.length)]) ∧ Below w.heap.size w w' := by
  have HU := Lib.hid (refburn_any d zs.length hz h.2.2.2.2.2.2.1 h.2.2.2.2.2.2.2.1)
  have hsz := strOfNums_size zs
  cases hd : d.dn
  · by_cases hf : d.room < zs.length
    · have eD : d.renewD zs = d := by unfold DSt.renewD; rw [if_pos (Or.inr hf)]
      have eE : d.renewE zs.length = 3 := by unfold DSt.renewE; rw [if_neg (by rw [hd]; decide), if_pos hf]
      rw [eD, eE]
      unfold refV cellsR
      rw [hd]
      clear HU eD eE
      go_enter Try.func37, Try.ntmps37
      go_wp2_with fail
      have hf := Blk.new' (w.alloc (.cells #[.int .i64 d.room, .string (strOfNums d.S), .string (strOfNums d.R), .bool d.nw, .bool false, .int .i64 d.left] 58)) #[.int .i64 d.room, .string (strOfNums d.S), .string (strOfNums d.R), .bool d.nw, .bool false, .int .i64 d.left] 58 (b := w.heap.size + 1) (by simp)
      refine bodyPost_ret (v := .tuple #[.agg #[.int .i64 d.room, .string (strOfNums d.S), .string (strOfNums d.R), .bool d.nw, .bool false, .int .i64 d.left], .int .i64 3]) (by simp [results, Try.results37, go_sem, hf.cell 0, hf.cell 1, hf.cell 2, hf.cell 3, hf.cell 4, hf.cell 5]) rfl ⟨rfl, two_below6 _ _ _⟩
    · have hf' : zs.length ≤ d.room := by omega
      cases hs : spendE d.left zs.length
      · have eD : d.renewD zs = ⟨d.room, d.S, zs, true, false, spendL d.left zs.length⟩ := by unfold DSt.renewD; rw [if_neg (by rw [hd]; simp; omega), if_neg (by rw [hs]; decide), hd]
        have eE : d.renewE zs.length = 0 := by unfold DSt.renewE; rw [if_neg (by rw [hd]; decide), if_neg hf, if_neg (by rw [hs]; decide)]
        rw [eD, eE]
        unfold refV cellsR at HU ⊢
        rw [hd, hs] at HU
        rw [hd]
        simp only [Bool.false_or, Bool.not_false, Bool.not_true] at HU
        dsimp only
        clear eD eE
        go_enter Try.func37, Try.ntmps37
        go_wp2_with fail
        refine (HU.out _).mono ?_
        rintro y w1 ⟨rfl, hb1⟩
        have hP := ((Blk.new w #[.int .i64 d.room, .string (strOfNums d.S), .string (strOfNums d.R), .bool d.nw, .bool false, .int .i64 d.left] 58).alloc (.cells #[.int .i64 0, .string ⟨#[]⟩, .string ⟨#[]⟩, .bool false, .bool false, .int .i64 0] 58)).below hb1 (by simp; omega)
        have hR := (Blk.new' (w.alloc (.cells #[.int .i64 d.room, .string (strOfNums d.S), .string (strOfNums d.R), .bool d.nw, .bool false, .int .i64 d.left] 58)) #[.int .i64 0, .string ⟨#[]⟩, .string ⟨#[]⟩, .bool false, .bool false, .int .i64 0] 58 (b := w.heap.size + 1) (by simp)).below hb1 (by simp)
        have lP := hP.lt
        have lR := hR.lt
        have p0 : w1.cell? ⟨w.heap.size, 0, none⟩ = some (.int .i64 d.room) := hP.cell 0
        have fp0 := hP.free 0
        have p1 : w1.cell? ⟨w.heap.size, 1, none⟩ = some (.string (strOfNums d.S)) := hP.cell 1
        have fp1 := hP.free 1
        have p2 : w1.cell? ⟨w.heap.size, 2, none⟩ = some (.string (strOfNums d.R)) := hP.cell 2
        have fp2 := hP.free 2
        have p3 : w1.cell? ⟨w.heap.size, 3, none⟩ = some (.bool d.nw) := hP.cell 3
        have fp3 := hP.free 3
        have p4 : w1.cell? ⟨w.heap.size, 4, none⟩ = some (.bool false) := hP.cell 4
        have fp4 := hP.free 4
        have p5 : w1.cell? ⟨w.heap.size, 5, none⟩ = some (.int .i64 d.left) := hP.cell 5
        have fp5 := hP.free 5
        have r0 : w1.cell? ⟨w.heap.size + 1, 0, none⟩ = some (.int .i64 0) := hR.cell 0
        have fr0 := hR.free 0
        have r1 : w1.cell? ⟨w.heap.size + 1, 1, none⟩ = some (.string ⟨#[]⟩) := hR.cell 1
        have fr1 := hR.free 1
        have r2 : w1.cell? ⟨w.heap.size + 1, 2, none⟩ = some (.string ⟨#[]⟩) := hR.cell 2
        have fr2 := hR.free 2
        have r3 : w1.cell? ⟨w.heap.size + 1, 3, none⟩ = some (.bool false) := hR.cell 3
        have fr3 := hR.free 3
        have r4 : w1.cell? ⟨w.heap.size + 1, 4, none⟩ = some (.bool false) := hR.cell 4
        have fr4 := hR.free 4
        have r5 : w1.cell? ⟨w.heap.size + 1, 5, none⟩ = some (.int .i64 0) := hR.cell 5
        have fr5 := hR.free 5
        have HP := Lib.hid hP
        have HR := Lib.hid hR
        have HB : Hid (Below w.heap.size w w1) := (two_below6 _ _ _).trans (hb1.mono (by simp; omega))
        clear hP hR hb1
        go_wp2_with fail
        have hf : Blk (((((((w1.setCell ⟨w.heap.size + 1, 0, none⟩ (.int .i64 d.room)).setCell ⟨w.heap.size + 1, 1, none⟩ (.string (strOfNums d.S))).setCell ⟨w.heap.size + 1, 2, none⟩ (.string (strOfNums zs))).setCell ⟨w.heap.size + 1, 3, none⟩ (.bool true)).setCell ⟨w.heap.size + 1, 4, none⟩ (.bool false)).setCell ⟨w.heap.size + 1, 5, none⟩ (.int .i64 (spendL d.left zs.length))).alloc (.cells #[.int .i64 d.room, .string (strOfNums d.S), .string (strOfNums zs), .bool true, .bool false, .int .i64 (spendL d.left zs.length)] 58)) (w.heap.size + 1) #[.int .i64 d.room, .string (strOfNums d.S), .string (strOfNums zs), .bool true, .bool false, .int .i64 (spendL d.left zs.length)] 58 := ((((((HR.out.set 0 (.int .i64 d.room)).set 1 (.string (strOfNums d.S))).set 2 (.string (strOfNums zs))).set 3 (.bool true)).set 4 (.bool false)).set 5 (.int .i64 (spendL d.left zs.length))).alloc _
        have hL := ((((((HB.out.setCell (p := ⟨w.heap.size + 1, 0, none⟩) (Nat.le_succ _) (.int .i64 d.room)).setCell (p := ⟨w.heap.size + 1, 1, none⟩) (Nat.le_succ _) (.string (strOfNums d.S))).setCell (p := ⟨w.heap.size + 1, 2, none⟩) (Nat.le_succ _) (.string (strOfNums zs))).setCell (p := ⟨w.heap.size + 1, 3, none⟩) (Nat.le_succ _) (.bool true)).setCell (p := ⟨w.heap.size + 1, 4, none⟩) (Nat.le_succ _) (.bool false)).setCell (p := ⟨w.heap.size + 1, 5, none⟩) (Nat.le_succ _) (.int .i64 (spendL d.left zs.length))).alloc (by simp; omega) (.cells #[.int .i64 d.room, .string (strOfNums d.S), .string (strOfNums zs), .bool true, .bool false, .int .i64 (spendL d.left zs.length)] 58)
        refine bodyPost_ret (v := .tuple #[.agg #[.int .i64 d.room, .string (strOfNums d.S), .string (strOfNums zs), .bool true, .bool false, .int .i64 (spendL d.left zs.length)], .int .i64 0]) (by simp [results, Try.results37, go_sem, hf.cell 0, hf.cell 1, hf.cell 2, hf.cell 3, hf.cell 4, hf.cell 5]) rfl ⟨rfl, hL⟩
      · have eD : d.renewD zs = ⟨d.room, d.S, d.R, d.nw, true, spendL d.left zs.length⟩ := by unfold DSt.renewD; rw [if_neg (by rw [hd]; simp; omega), if_pos hs, spendL_fell hs]
        have eE : d.renewE zs.length = 60 := by unfold DSt.renewE; rw [if_neg (by rw [hd]; decide), if_neg hf, if_pos hs]
        rw [eD, eE]
        unfold refV cellsR at HU ⊢
        rw [hd, hs] at HU
        rw [hd]
        simp only [Bool.false_or, Bool.not_false, Bool.not_true] at HU
        dsimp only
        clear eD eE
        go_enter Try.func37, Try.ntmps37
        go_wp2_with fail
        refine (HU.out _).mono ?_
        rintro y w1 ⟨rfl, hb1⟩
        have hP := ((Blk.new w #[.int .i64 d.room, .string (strOfNums d.S), .string (strOfNums d.R), .bool d.nw, .bool false, .int .i64 d.left] 58).alloc (.cells #[.int .i64 0, .string ⟨#[]⟩, .string ⟨#[]⟩, .bool false, .bool false, .int .i64 0] 58)).below hb1 (by simp; omega)
        have hR := (Blk.new' (w.alloc (.cells #[.int .i64 d.room, .string (strOfNums d.S), .string (strOfNums d.R), .bool d.nw, .bool false, .int .i64 d.left] 58)) #[.int .i64 0, .string ⟨#[]⟩, .string ⟨#[]⟩, .bool false, .bool false, .int .i64 0] 58 (b := w.heap.size + 1) (by simp)).below hb1 (by simp)
        have lP := hP.lt
        have lR := hR.lt
        have p0 : w1.cell? ⟨w.heap.size, 0, none⟩ = some (.int .i64 d.room) := hP.cell 0
        have fp0 := hP.free 0
        have p1 : w1.cell? ⟨w.heap.size, 1, none⟩ = some (.string (strOfNums d.S)) := hP.cell 1
        have fp1 := hP.free 1
        have p2 : w1.cell? ⟨w.heap.size, 2, none⟩ = some (.string (strOfNums d.R)) := hP.cell 2
        have fp2 := hP.free 2
        have p3 : w1.cell? ⟨w.heap.size, 3, none⟩ = some (.bool d.nw) := hP.cell 3
        have fp3 := hP.free 3
        have p4 : w1.cell? ⟨w.heap.size, 4, none⟩ = some (.bool false) := hP.cell 4
        have fp4 := hP.free 4
        have p5 : w1.cell? ⟨w.heap.size, 5, none⟩ = some (.int .i64 d.left) := hP.cell 5
        have fp5 := hP.free 5
        have r0 : w1.cell? ⟨w.heap.size + 1, 0, none⟩ = some (.int .i64 0) := hR.cell 0
        have fr0 := hR.free 0
        have r1 : w1.cell? ⟨w.heap.size + 1, 1, none⟩ = some (.string ⟨#[]⟩) := hR.cell 1
        have fr1 := hR.free 1
        have r2 : w1.cell? ⟨w.heap.size + 1, 2, none⟩ = some (.string ⟨#[]⟩) := hR.cell 2
        have fr2 := hR.free 2
        have r3 : w1.cell? ⟨w.heap.size + 1, 3, none⟩ = some (.bool false) := hR.cell 3
        have fr3 := hR.free 3
        have r4 : w1.cell? ⟨w.heap.size + 1, 4, none⟩ = some (.bool false) := hR.cell 4
        have fr4 := hR.free 4
        have r5 : w1.cell? ⟨w.heap.size + 1, 5, none⟩ = some (.int .i64 0) := hR.cell 5
        have fr5 := hR.free 5
        have HP := Lib.hid hP
        have HR := Lib.hid hR
        have HB : Hid (Below w.heap.size w w1) := (two_below6 _ _ _).trans (hb1.mono (by simp; omega))
        clear hP hR hb1
        go_wp2_with fail
        have hf : Blk (((((((w1.setCell ⟨w.heap.size + 1, 0, none⟩ (.int .i64 d.room)).setCell ⟨w.heap.size + 1, 1, none⟩ (.string (strOfNums d.S))).setCell ⟨w.heap.size + 1, 2, none⟩ (.string (strOfNums d.R))).setCell ⟨w.heap.size + 1, 3, none⟩ (.bool d.nw)).setCell ⟨w.heap.size + 1, 4, none⟩ (.bool true)).setCell ⟨w.heap.size + 1, 5, none⟩ (.int .i64 (spendL d.left zs.length))).alloc (.cells #[.int .i64 d.room, .string (strOfNums d.S), .string (strOfNums d.R), .bool d.nw, .bool true, .int .i64 (spendL d.left zs.length)] 58)) (w.heap.size + 1) #[.int .i64 d.room, .string (strOfNums d.S), .string (strOfNums d.R), .bool d.nw, .bool true, .int .i64 (spendL d.left zs.length)] 58 := ((((((HR.out.set 0 (.int .i64 d.room)).set 1 (.string (strOfNums d.S))).set 2 (.string (strOfNums d.R))).set 3 (.bool d.nw)).set 4 (.bool true)).set 5 (.int .i64 (spendL d.left zs.length))).alloc _
        have hL := ((((((HB.out.setCell (p := ⟨w.heap.size + 1, 0, none⟩) (Nat.le_succ _) (.int .i64 d.room)).setCell (p := ⟨w.heap.size + 1, 1, none⟩) (Nat.le_succ _) (.string (strOfNums d.S))).setCell (p := ⟨w.heap.size + 1, 2, none⟩) (Nat.le_succ _) (.string (strOfNums d.R))).setCell (p := ⟨w.heap.size + 1, 3, none⟩) (Nat.le_succ _) (.bool d.nw)).setCell (p := ⟨w.heap.size + 1, 4, none⟩) (Nat.le_succ _) (.bool true)).setCell (p := ⟨w.heap.size + 1, 5, none⟩) (Nat.le_succ _) (.int .i64 (spendL d.left zs.length))).alloc (by simp; omega) (.cells #[.int .i64 d.room, .string (strOfNums d.S), .string (strOfNums d.R), .bool d.nw, .bool true, .int .i64 (spendL d.left zs.length)] 58)
        refine bodyPost_ret (v := .tuple #[.agg #[.int .i64 d.room, .string (strOfNums d.S), .string (strOfNums d.R), .bool d.nw, .bool true, .int .i64 (spendL d.left zs.length)], .int .i64 60]) (by simp [results, Try.results37, go_sem, hf.cell 0, hf.cell 1, hf.cell 2, hf.cell 3, hf.cell 4, hf.cell 5]) rfl ⟨rfl, hL⟩
  · have eD : d.renewD zs = d := by unfold DSt.renewD; rw [if_pos (Or.inl hd)]
    have eE : d.renewE zs.length = 60 := by unfold DSt.renewE; rw [if_pos hd]
    rw [eD, eE]
    unfold refV cellsR
    rw [hd]
    clear HU eD eE
    go_enter Try.func37, Try.ntmps37
    go_wp2_with fail
    have hf := Blk.new' (w.alloc (.cells #[.int .i64 d.room, .string (strOfNums d.S), .string (strOfNums d.R), .bool d.nw, .bool true, .int .i64 d.left] 58)) #[.int .i64 d.room, .string (strOfNums d.S), .string (strOfNums d.R), .bool d.nw, .bool true, .int .i64 d.left] 58 (b := w.heap.size + 1) (by simp)
    refine bodyPost_ret (v := .tuple #[.agg #[.int .i64 d.room, .string (strOfNums d.S), .string (strOfNums d.R), .bool d.nw, .bool true, .int .i64 d.left], .int .i64 60]) (by simp [results, Try.results37, go_sem, hf.cell 0, hf.cell 1, hf.cell 2, hf.cell 3, hf.cell 4, hf.cell 5]) rfl ⟨rfl, two_below6 _ _ _⟩
end Go.Proofs.Ytgkikjjgbceopaa
