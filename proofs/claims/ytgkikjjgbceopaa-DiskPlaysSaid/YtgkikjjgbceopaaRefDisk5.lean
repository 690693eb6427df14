/- contraref06.Write by contract. -/
import Derived.Test.YtgkikjjgbceopaaRefDisk4
import Derived.Deep.RegionHeld3
namespace Go.Proofs.Ytgkikjjgbceopaa
open Go.RowKit
theorem strOfNums_take (zs : List Int) (n : Nat) : (strOfNums zs).extract 0 n = strOfNums (zs.take n) := by
  unfold strOfNums
  rw [List.map_take]
  apply ByteArray.ext
  simp
set_option linter.unusedSimpArgs false in
set_option maxHeartbeats 4000000 in
theorem refwrite_any (d : DSt) (zs : List Int) (hz : zs.length ≤ 8388608) (h : d.Ok) (w : World) :
    Calls Try.prog 36 #[refV d, .string (strOfNums zs)] w fun x w' => x = .returned (.tuple #[refV (d.writeD zs), .int .i64 (d.writeE zs.length)]) ∧ Below w.heap.size w w' := by
  have HU := Lib.hid (refburn_any d zs.length hz h.2.2.2.2.2.2.1 h.2.2.2.2.2.2.2.1)
  have HA := Lib.hid (refall_any d h)
  have hsz := strOfNums_size zs
  have haz := strOfNums_size d.all
  have hfr : d.free = (d.room : Int) - (d.all.length : Int) := by rw [all_length]; unfold DSt.free; omega
  have q1 := all_le h
  have q2 := h.1
  have q3 : (strOfNums d.R).size ≤ 4194304 := by rw [strOfNums_size]; exact h.2.2.2.2.1
  have hwr : IntKind.i64.wrap ((d.room : Int) - (d.all.length : Int)) = (d.room : Int) - (d.all.length : Int) := IntWalk.i64_in _ (by omega)
  cases hd : d.dn
  · by_cases hf : d.free < zs.length
    · have eD : d.writeD zs = d := by unfold DSt.writeD; rw [if_pos (Or.inr hf)]
      have eE : d.writeE zs.length = 3 := by unfold DSt.writeE; rw [if_neg (by rw [hd]; decide), if_pos hf]
      have hf2 : (d.room : Int) - (d.all.length : Int) < zs.length := by omega
      rw [eD, eE]
      unfold refV cellsR at HU HA ⊢
      clear HU
      rw [hd] at HA ⊢
      clear eD eE
      go_enter Try.func36, Try.ntmps36
      go_wp2_with fail
      generalize hWB : (w.alloc (.cells #[.int .i64 d.room, .string (strOfNums d.S), .string (strOfNums d.R), .bool d.nw, .bool false, .int .i64 d.left] 58)).alloc (.cells #[.int .i64 0, .string ⟨#[]⟩, .string ⟨#[]⟩, .bool false, .bool false, .int .i64 0] 58) = WB
      have hB : Below w.heap.size w WB := by rw [← hWB]; exact two_below6 _ _ _
      have hA0 : Blk WB w.heap.size #[.int .i64 d.room, .string (strOfNums d.S), .string (strOfNums d.R), .bool d.nw, .bool false, .int .i64 d.left] 58 := by rw [← hWB]; exact (Blk.new w _ _).alloc _
      have hA1 : Blk WB (w.heap.size + 1) #[.int .i64 0, .string ⟨#[]⟩, .string ⟨#[]⟩, .bool false, .bool false, .int .i64 0] 58 := by rw [← hWB]; exact Blk.new' _ _ _ (by simp)
      have HS : Hid (∀ w', Below WB.heap.size WB w' → w'.cell? ⟨w.heap.size, 0, none⟩ = some (.int .i64 d.room) ∧ w'.cell? ⟨w.heap.size, 1, none⟩ = some (.string (strOfNums d.S)) ∧ w'.cell? ⟨w.heap.size, 2, none⟩ = some (.string (strOfNums d.R)) ∧ w'.cell? ⟨w.heap.size, 3, none⟩ = some (.bool d.nw) ∧ w'.cell? ⟨w.heap.size, 4, none⟩ = some (.bool false) ∧ w'.cell? ⟨w.heap.size, 5, none⟩ = some (.int .i64 d.left)) :=
        fun w' h => ⟨(hA0.below h hA0.lt).cell 0, (hA0.below h hA0.lt).cell 1, (hA0.below h hA0.lt).cell 2, (hA0.below h hA0.lt).cell 3, (hA0.below h hA0.lt).cell 4, (hA0.below h hA0.lt).cell 5⟩
      have HB := Lib.hid hB
      have HP := Lib.hid hA0
      have HR := Lib.hid hA1
      clear hWB hB hA0 hA1
      have hS1 := HS.out WB.drew (Below.refl _ WB).drew
      refine wp_region_held_drew (S := fun w' => w'.cell? ⟨w.heap.size, 0, none⟩ = some (.int .i64 d.room) ∧ w'.cell? ⟨w.heap.size, 1, none⟩ = some (.string (strOfNums d.S)) ∧ w'.cell? ⟨w.heap.size, 2, none⟩ = some (.string (strOfNums d.R)) ∧ w'.cell? ⟨w.heap.size, 3, none⟩ = some (.bool d.nw) ∧ w'.cell? ⟨w.heap.size, 4, none⟩ = some (.bool false) ∧ w'.cell? ⟨w.heap.size, 5, none⟩ = some (.int .i64 d.left)) (by kernel_rfl) hS1 (fun hS0 => ?_)
      refine wpAnyH_take (i := 0) (v := ?_) rfl (by kernel_rfl) (by kernel_rfl) (by kernel_rfl) (fun _ _ _ h => h) (Or.inl ⟨by kernel_rfl, ?_⟩) (by first | trivial | assumption) ?_
      rotate_left
      · intro w hSw
        try dsimp only at hSw
        first | (go_simp; done) | (go_simp; with_reducible rfl)
      try simp only [Act.put, List.getElem_toArray, List.getElem_cons_succ, List.getElem_cons_zero, List.setIfInBounds_toArray, List.set_cons_zero, List.set_cons_succ]
      refine wpAnyH_take (i := 1) (v := ?_) rfl (by kernel_rfl) (by kernel_rfl) (by kernel_rfl) (fun _ _ _ h => h) (Or.inl ⟨by kernel_rfl, ?_⟩) (by first | trivial | assumption) ?_
      rotate_left
      · intro w hSw
        try dsimp only at hSw
        first | (go_simp; done) | (go_simp; with_reducible rfl)
      try simp only [Act.put, List.getElem_toArray, List.getElem_cons_succ, List.getElem_cons_zero, List.setIfInBounds_toArray, List.set_cons_zero, List.set_cons_succ]
      refine wpAnyH_take (i := 2) (v := ?_) rfl (by kernel_rfl) (by kernel_rfl) (by kernel_rfl) (fun _ _ _ h => h) (Or.inl ⟨by kernel_rfl, ?_⟩) (by first | trivial | assumption) ?_
      rotate_left
      · intro w hSw
        try dsimp only at hSw
        first | (go_simp; done) | (go_simp; with_reducible rfl)
      try simp only [Act.put, List.getElem_toArray, List.getElem_cons_succ, List.getElem_cons_zero, List.setIfInBounds_toArray, List.set_cons_zero, List.set_cons_succ]
      refine wpAnyH_take (i := 3) (v := ?_) rfl (by kernel_rfl) (by kernel_rfl) (by kernel_rfl) (fun _ _ _ h => h) (Or.inl ⟨by kernel_rfl, ?_⟩) (by first | trivial | assumption) ?_
      rotate_left
      · intro w hSw
        try dsimp only at hSw
        first | (go_simp; done) | (go_simp; with_reducible rfl)
      try simp only [Act.put, List.getElem_toArray, List.getElem_cons_succ, List.getElem_cons_zero, List.setIfInBounds_toArray, List.set_cons_zero, List.set_cons_succ]
      refine wpAnyH_take (i := 4) (v := ?_) rfl (by kernel_rfl) (by kernel_rfl) (by kernel_rfl) (fun _ _ _ h => h) (Or.inl ⟨by kernel_rfl, ?_⟩) (by first | trivial | assumption) ?_
      rotate_left
      · intro w hSw
        try dsimp only at hSw
        first | (go_simp; done) | (go_simp; with_reducible rfl)
      try simp only [Act.put, List.getElem_toArray, List.getElem_cons_succ, List.getElem_cons_zero, List.setIfInBounds_toArray, List.set_cons_zero, List.set_cons_succ]
      refine wpAnyH_ready (rs := [5]) (by kernel_rfl) (by simp) ?_
      refine AllReadyH.cons rfl (fun K hK => ?_) AllReadyH.nil
      go_simp
      go_at_call 44
      refine (HA.out _).mono ?_
      rintro y w1 ⟨rfl, hb1⟩
      try go_wp2_with fail
      have hb2 := (Below.refl _ WB).drew.trans (hb1.mono (Nat.le_refl _))
      refine hK.out _ _ (HS.out _ hb2) (fun hS => ?_)
      clear hK K
      try simp only [Act.put, List.getElem_toArray, List.getElem_cons_succ, List.getElem_cons_zero, List.setIfInBounds_toArray, List.set_cons_zero, List.set_cons_succ]
      refine wpAnyH_take (i := 6) (v := ?_) rfl (by kernel_rfl) (by kernel_rfl) (by kernel_rfl) (fun _ _ _ h => h) (Or.inl ⟨by kernel_rfl, ?_⟩) (by first | trivial | assumption) ?_
      rotate_left
      · intro w hSw
        try dsimp only at hSw
        first | (go_simp; done) | (go_simp; with_reducible rfl)
      try simp only [Act.put, List.getElem_toArray, List.getElem_cons_succ, List.getElem_cons_zero, List.setIfInBounds_toArray, List.set_cons_zero, List.set_cons_succ]
      refine wpAnyH_take (i := 7) (v := ?_) rfl (by kernel_rfl) (by kernel_rfl) (by kernel_rfl) (fun _ _ _ h => h) (Or.inl ⟨by kernel_rfl, ?_⟩) (by first | trivial | assumption) ?_
      rotate_left
      · intro w hSw
        try dsimp only at hSw
        first | (go_simp; done) | (go_simp; with_reducible rfl)
      try simp only [Act.put, List.getElem_toArray, List.getElem_cons_succ, List.getElem_cons_zero, List.setIfInBounds_toArray, List.set_cons_zero, List.set_cons_succ]
      refine wpAnyH_take (i := 8) (v := ?_) rfl (by kernel_rfl) (by kernel_rfl) (by kernel_rfl) (fun _ _ _ h => h) (Or.inl ⟨by kernel_rfl, ?_⟩) (by first | trivial | assumption) ?_
      rotate_left
      · intro w hSw
        try dsimp only at hSw
        first | (go_simp; done) | (go_simp; with_reducible rfl)
      try simp only [Act.put, List.getElem_toArray, List.getElem_cons_succ, List.getElem_cons_zero, List.setIfInBounds_toArray, List.set_cons_zero, List.set_cons_succ]
      refine wpAnyH_done (by kernel_rfl) ?_ _
      have hP := HP.out.below hb2 HP.out.lt
      have hR := HR.out.below hb2 HR.out.lt
      have lP := hP.lt
      have lR := hR.lt
      have p0 : w1.cell? ⟨w.heap.size, 0, none⟩ = some (.int .i64 d.room) := hP.cell 0
      have fp0 := hP.free 0
      have p1 : w1.cell? ⟨w.heap.size, 1, none⟩ = some (.string (strOfNums d.S)) := hP.cell 1
      have fp1 := hP.free 1
      have p2 : w1.cell? ⟨w.heap.size, 2, none⟩ = some (.string (strOfNums d.R)) := hP.cell 2
      have fp2 := hP.free 2
      have p3 : w1.cell? ⟨w.heap.size, 3, none⟩ = some (.bool d.nw) := hP.cell 3
      have fp3 := hP.free 3
      have p4 : w1.cell? ⟨w.heap.size, 4, none⟩ = some (.bool false) := hP.cell 4
      have fp4 := hP.free 4
      have p5 : w1.cell? ⟨w.heap.size, 5, none⟩ = some (.int .i64 d.left) := hP.cell 5
      have fp5 := hP.free 5
      have r0 : w1.cell? ⟨w.heap.size + 1, 0, none⟩ = some (.int .i64 0) := hR.cell 0
      have fr0 := hR.free 0
      have r1 : w1.cell? ⟨w.heap.size + 1, 1, none⟩ = some (.string ⟨#[]⟩) := hR.cell 1
      have fr1 := hR.free 1
      have r2 : w1.cell? ⟨w.heap.size + 1, 2, none⟩ = some (.string ⟨#[]⟩) := hR.cell 2
      have fr2 := hR.free 2
      have r3 : w1.cell? ⟨w.heap.size + 1, 3, none⟩ = some (.bool false) := hR.cell 3
      have fr3 := hR.free 3
      have r4 : w1.cell? ⟨w.heap.size + 1, 4, none⟩ = some (.bool false) := hR.cell 4
      have fr4 := hR.free 4
      have r5 : w1.cell? ⟨w.heap.size + 1, 5, none⟩ = some (.int .i64 0) := hR.cell 5
      have fr5 := hR.free 5
      have HP1 := Lib.hid hP
      have HR1 := Lib.hid hR
      have HB1 := Lib.hid (HB.out.trans (hb2.mono HB.out.size))
      clear hP hR hb1 hb2 HS hS0 hS1 hS
      go_wp2_with fail
      have hf : Blk ((((((w1.setCell ⟨w.heap.size + 1, 0, none⟩ (.int .i64 d.room)).setCell ⟨w.heap.size + 1, 1, none⟩ (.string (strOfNums d.S))).setCell ⟨w.heap.size + 1, 2, none⟩ (.string (strOfNums d.R))).setCell ⟨w.heap.size + 1, 3, none⟩ (.bool d.nw)).setCell ⟨w.heap.size + 1, 4, none⟩ (.bool false)).setCell ⟨w.heap.size + 1, 5, none⟩ (.int .i64 d.left)) (w.heap.size + 1) #[.int .i64 d.room, .string (strOfNums d.S), .string (strOfNums d.R), .bool d.nw, .bool false, .int .i64 d.left] 58 := ((((((HR1.out.set 0 (.int .i64 d.room)).set 1 (.string (strOfNums d.S))).set 2 (.string (strOfNums d.R))).set 3 (.bool d.nw)).set 4 (.bool false)).set 5 (.int .i64 d.left))
      refine bodyPost_ret (v := .tuple #[.agg #[.int .i64 d.room, .string (strOfNums d.S), .string (strOfNums d.R), .bool d.nw, .bool false, .int .i64 d.left], .int .i64 3]) (by simp [results, Try.results36, go_sem, hf.cell 0, hf.cell 1, hf.cell 2, hf.cell 3, hf.cell 4, hf.cell 5]) rfl ⟨rfl, ((((((HB1.out.setCell (p := ⟨w.heap.size + 1, 0, none⟩) (Nat.le_succ _) (.int .i64 d.room)).setCell (p := ⟨w.heap.size + 1, 1, none⟩) (Nat.le_succ _) (.string (strOfNums d.S))).setCell (p := ⟨w.heap.size + 1, 2, none⟩) (Nat.le_succ _) (.string (strOfNums d.R))).setCell (p := ⟨w.heap.size + 1, 3, none⟩) (Nat.le_succ _) (.bool d.nw)).setCell (p := ⟨w.heap.size + 1, 4, none⟩) (Nat.le_succ _) (.bool false)).setCell (p := ⟨w.heap.size + 1, 5, none⟩) (Nat.le_succ _) (.int .i64 d.left))⟩
    · have hf2 : ¬ ((d.room : Int) - (d.all.length : Int) < (zs.length : Int)) := by omega
      have hdf : decide ((d.room : Int) - (d.all.length : Int) < (zs.length : Int)) = false := decide_eq_false hf2
      cases hs : spendE d.left zs.length
      · have eN : spendN d.left zs.length = zs.length := by unfold spendN; rw [if_neg (by rw [hs]; decide)]
        have eD : d.writeD zs = ⟨d.room, d.S, d.R ++ zs.take (spendN d.left zs.length), d.nw, false, spendL d.left zs.length⟩ := by unfold DSt.writeD; rw [if_neg (by rw [hd]; simp; omega), hs]
        have eE : d.writeE zs.length = 0 := by unfold DSt.writeE; rw [if_neg (by rw [hd]; decide), if_neg hf, if_neg (by rw [hs]; decide)]
        rw [eD, eE]
        unfold refV cellsR at HU HA ⊢
        rw [hd, hs] at HU
        simp only [Bool.false_or, Bool.not_false, Bool.not_true] at HU
        rw [hd] at HA ⊢
        clear eD eE
        go_enter Try.func36, Try.ntmps36
        go_wp2_with fail
        generalize hWB : (w.alloc (.cells #[.int .i64 d.room, .string (strOfNums d.S), .string (strOfNums d.R), .bool d.nw, .bool false, .int .i64 d.left] 58)).alloc (.cells #[.int .i64 0, .string ⟨#[]⟩, .string ⟨#[]⟩, .bool false, .bool false, .int .i64 0] 58) = WB
        have hB : Below w.heap.size w WB := by rw [← hWB]; exact two_below6 _ _ _
        have hA0 : Blk WB w.heap.size #[.int .i64 d.room, .string (strOfNums d.S), .string (strOfNums d.R), .bool d.nw, .bool false, .int .i64 d.left] 58 := by rw [← hWB]; exact (Blk.new w _ _).alloc _
        have hA1 : Blk WB (w.heap.size + 1) #[.int .i64 0, .string ⟨#[]⟩, .string ⟨#[]⟩, .bool false, .bool false, .int .i64 0] 58 := by rw [← hWB]; exact Blk.new' _ _ _ (by simp)
        have HS : Hid (∀ w', Below WB.heap.size WB w' → w'.cell? ⟨w.heap.size, 0, none⟩ = some (.int .i64 d.room) ∧ w'.cell? ⟨w.heap.size, 1, none⟩ = some (.string (strOfNums d.S)) ∧ w'.cell? ⟨w.heap.size, 2, none⟩ = some (.string (strOfNums d.R)) ∧ w'.cell? ⟨w.heap.size, 3, none⟩ = some (.bool d.nw) ∧ w'.cell? ⟨w.heap.size, 4, none⟩ = some (.bool false) ∧ w'.cell? ⟨w.heap.size, 5, none⟩ = some (.int .i64 d.left)) :=
          fun w' h => ⟨(hA0.below h hA0.lt).cell 0, (hA0.below h hA0.lt).cell 1, (hA0.below h hA0.lt).cell 2, (hA0.below h hA0.lt).cell 3, (hA0.below h hA0.lt).cell 4, (hA0.below h hA0.lt).cell 5⟩
        have HB := Lib.hid hB
        have HP := Lib.hid hA0
        have HR := Lib.hid hA1
        clear hWB hB hA0 hA1
        have hS1 := HS.out WB.drew (Below.refl _ WB).drew
        refine wp_region_held_drew (S := fun w' => w'.cell? ⟨w.heap.size, 0, none⟩ = some (.int .i64 d.room) ∧ w'.cell? ⟨w.heap.size, 1, none⟩ = some (.string (strOfNums d.S)) ∧ w'.cell? ⟨w.heap.size, 2, none⟩ = some (.string (strOfNums d.R)) ∧ w'.cell? ⟨w.heap.size, 3, none⟩ = some (.bool d.nw) ∧ w'.cell? ⟨w.heap.size, 4, none⟩ = some (.bool false) ∧ w'.cell? ⟨w.heap.size, 5, none⟩ = some (.int .i64 d.left)) (by kernel_rfl) hS1 (fun hS0 => ?_)
        refine wpAnyH_take (i := 0) (v := ?_) rfl (by kernel_rfl) (by kernel_rfl) (by kernel_rfl) (fun _ _ _ h => h) (Or.inl ⟨by kernel_rfl, ?_⟩) (by first | trivial | assumption) ?_
        rotate_left
        · intro w hSw
          try dsimp only at hSw
          first | (go_simp; done) | (go_simp; with_reducible rfl)
        try simp only [Act.put, List.getElem_toArray, List.getElem_cons_succ, List.getElem_cons_zero, List.setIfInBounds_toArray, List.set_cons_zero, List.set_cons_succ]
        refine wpAnyH_take (i := 1) (v := ?_) rfl (by kernel_rfl) (by kernel_rfl) (by kernel_rfl) (fun _ _ _ h => h) (Or.inl ⟨by kernel_rfl, ?_⟩) (by first | trivial | assumption) ?_
        rotate_left
        · intro w hSw
          try dsimp only at hSw
          first | (go_simp; done) | (go_simp; with_reducible rfl)
        try simp only [Act.put, List.getElem_toArray, List.getElem_cons_succ, List.getElem_cons_zero, List.setIfInBounds_toArray, List.set_cons_zero, List.set_cons_succ]
        refine wpAnyH_take (i := 2) (v := ?_) rfl (by kernel_rfl) (by kernel_rfl) (by kernel_rfl) (fun _ _ _ h => h) (Or.inl ⟨by kernel_rfl, ?_⟩) (by first | trivial | assumption) ?_
        rotate_left
        · intro w hSw
          try dsimp only at hSw
          first | (go_simp; done) | (go_simp; with_reducible rfl)
        try simp only [Act.put, List.getElem_toArray, List.getElem_cons_succ, List.getElem_cons_zero, List.setIfInBounds_toArray, List.set_cons_zero, List.set_cons_succ]
        refine wpAnyH_take (i := 3) (v := ?_) rfl (by kernel_rfl) (by kernel_rfl) (by kernel_rfl) (fun _ _ _ h => h) (Or.inl ⟨by kernel_rfl, ?_⟩) (by first | trivial | assumption) ?_
        rotate_left
        · intro w hSw
          try dsimp only at hSw
          first | (go_simp; done) | (go_simp; with_reducible rfl)
        try simp only [Act.put, List.getElem_toArray, List.getElem_cons_succ, List.getElem_cons_zero, List.setIfInBounds_toArray, List.set_cons_zero, List.set_cons_succ]
        refine wpAnyH_take (i := 4) (v := ?_) rfl (by kernel_rfl) (by kernel_rfl) (by kernel_rfl) (fun _ _ _ h => h) (Or.inl ⟨by kernel_rfl, ?_⟩) (by first | trivial | assumption) ?_
        rotate_left
        · intro w hSw
          try dsimp only at hSw
          first | (go_simp; done) | (go_simp; with_reducible rfl)
        try simp only [Act.put, List.getElem_toArray, List.getElem_cons_succ, List.getElem_cons_zero, List.setIfInBounds_toArray, List.set_cons_zero, List.set_cons_succ]
        refine wpAnyH_ready (rs := [5]) (by kernel_rfl) (by simp) ?_
        refine AllReadyH.cons rfl (fun K hK => ?_) AllReadyH.nil
        go_simp
        go_at_call 44
        refine (HA.out _).mono ?_
        rintro y w1 ⟨rfl, hb1⟩
        try go_wp2_with fail
        have hb2 := (Below.refl _ WB).drew.trans (hb1.mono (Nat.le_refl _))
        refine hK.out _ _ (HS.out _ hb2) (fun hS => ?_)
        clear hK K
        try simp only [Act.put, List.getElem_toArray, List.getElem_cons_succ, List.getElem_cons_zero, List.setIfInBounds_toArray, List.set_cons_zero, List.set_cons_succ]
        refine wpAnyH_take (i := 6) (v := ?_) rfl (by kernel_rfl) (by kernel_rfl) (by kernel_rfl) (fun _ _ _ h => h) (Or.inl ⟨by kernel_rfl, ?_⟩) (by first | trivial | assumption) ?_
        rotate_left
        · intro w hSw
          try dsimp only at hSw
          first | (go_simp; done) | (go_simp; with_reducible rfl)
        try simp only [Act.put, List.getElem_toArray, List.getElem_cons_succ, List.getElem_cons_zero, List.setIfInBounds_toArray, List.set_cons_zero, List.set_cons_succ]
        refine wpAnyH_take (i := 7) (v := ?_) rfl (by kernel_rfl) (by kernel_rfl) (by kernel_rfl) (fun _ _ _ h => h) (Or.inl ⟨by kernel_rfl, ?_⟩) (by first | trivial | assumption) ?_
        rotate_left
        · intro w hSw
          try dsimp only at hSw
          first | (go_simp; done) | (go_simp; with_reducible rfl)
        try simp only [Act.put, List.getElem_toArray, List.getElem_cons_succ, List.getElem_cons_zero, List.setIfInBounds_toArray, List.set_cons_zero, List.set_cons_succ]
        refine wpAnyH_take (i := 8) (v := ?_) rfl (by kernel_rfl) (by kernel_rfl) (by kernel_rfl) (fun _ _ _ h => h) (Or.inl ⟨by kernel_rfl, ?_⟩) (by first | trivial | assumption) ?_
        rotate_left
        · intro w hSw
          try dsimp only at hSw
          first | (go_simp; done) | (go_simp; with_reducible rfl)
        try simp only [Act.put, List.getElem_toArray, List.getElem_cons_succ, List.getElem_cons_zero, List.setIfInBounds_toArray, List.set_cons_zero, List.set_cons_succ]
        refine wpAnyH_done (by kernel_rfl) ?_ _
        have hP := HP.out.below hb2 HP.out.lt
        have hR := HR.out.below hb2 HR.out.lt
        have lP := hP.lt
        have lR := hR.lt
        have p0 : w1.cell? ⟨w.heap.size, 0, none⟩ = some (.int .i64 d.room) := hP.cell 0
        have fp0 := hP.free 0
        have p1 : w1.cell? ⟨w.heap.size, 1, none⟩ = some (.string (strOfNums d.S)) := hP.cell 1
        have fp1 := hP.free 1
        have p2 : w1.cell? ⟨w.heap.size, 2, none⟩ = some (.string (strOfNums d.R)) := hP.cell 2
        have fp2 := hP.free 2
        have p3 : w1.cell? ⟨w.heap.size, 3, none⟩ = some (.bool d.nw) := hP.cell 3
        have fp3 := hP.free 3
        have p4 : w1.cell? ⟨w.heap.size, 4, none⟩ = some (.bool false) := hP.cell 4
        have fp4 := hP.free 4
        have p5 : w1.cell? ⟨w.heap.size, 5, none⟩ = some (.int .i64 d.left) := hP.cell 5
        have fp5 := hP.free 5
        have r0 : w1.cell? ⟨w.heap.size + 1, 0, none⟩ = some (.int .i64 0) := hR.cell 0
        have fr0 := hR.free 0
        have r1 : w1.cell? ⟨w.heap.size + 1, 1, none⟩ = some (.string ⟨#[]⟩) := hR.cell 1
        have fr1 := hR.free 1
        have r2 : w1.cell? ⟨w.heap.size + 1, 2, none⟩ = some (.string ⟨#[]⟩) := hR.cell 2
        have fr2 := hR.free 2
        have r3 : w1.cell? ⟨w.heap.size + 1, 3, none⟩ = some (.bool false) := hR.cell 3
        have fr3 := hR.free 3
        have r4 : w1.cell? ⟨w.heap.size + 1, 4, none⟩ = some (.bool false) := hR.cell 4
        have fr4 := hR.free 4
        have r5 : w1.cell? ⟨w.heap.size + 1, 5, none⟩ = some (.int .i64 0) := hR.cell 5
        have fr5 := hR.free 5
        have HP1 := Lib.hid hP
        have HR1 := Lib.hid hR
        have HB1 := Lib.hid (HB.out.trans (hb2.mono HB.out.size))
        clear hP hR hb1 hb2 HS hS0 hS1 hS
        go_wp2_with fail
        refine (HU.out _).mono ?_
        rintro y w2 ⟨rfl, hb3⟩
        clear lP lR p0 fp0 r0 fr0 p1 fp1 r1 fr1 p2 fp2 r2 fr2 p3 fp3 r3 fr3 p4 fp4 r4 fr4 p5 fp5 r5 fr5
        have hP := HP1.out.below hb3 HP1.out.lt
        have hR := HR1.out.below hb3 HR1.out.lt
        have lP := hP.lt
        have lR := hR.lt
        have p0 : w2.cell? ⟨w.heap.size, 0, none⟩ = some (.int .i64 d.room) := hP.cell 0
        have fp0 := hP.free 0
        have p1 : w2.cell? ⟨w.heap.size, 1, none⟩ = some (.string (strOfNums d.S)) := hP.cell 1
        have fp1 := hP.free 1
        have p2 : w2.cell? ⟨w.heap.size, 2, none⟩ = some (.string (strOfNums d.R)) := hP.cell 2
        have fp2 := hP.free 2
        have p3 : w2.cell? ⟨w.heap.size, 3, none⟩ = some (.bool d.nw) := hP.cell 3
        have fp3 := hP.free 3
        have p4 : w2.cell? ⟨w.heap.size, 4, none⟩ = some (.bool false) := hP.cell 4
        have fp4 := hP.free 4
        have p5 : w2.cell? ⟨w.heap.size, 5, none⟩ = some (.int .i64 d.left) := hP.cell 5
        have fp5 := hP.free 5
        have r0 : w2.cell? ⟨w.heap.size + 1, 0, none⟩ = some (.int .i64 0) := hR.cell 0
        have fr0 := hR.free 0
        have r1 : w2.cell? ⟨w.heap.size + 1, 1, none⟩ = some (.string ⟨#[]⟩) := hR.cell 1
        have fr1 := hR.free 1
        have r2 : w2.cell? ⟨w.heap.size + 1, 2, none⟩ = some (.string ⟨#[]⟩) := hR.cell 2
        have fr2 := hR.free 2
        have r3 : w2.cell? ⟨w.heap.size + 1, 3, none⟩ = some (.bool false) := hR.cell 3
        have fr3 := hR.free 3
        have r4 : w2.cell? ⟨w.heap.size + 1, 4, none⟩ = some (.bool false) := hR.cell 4
        have fr4 := hR.free 4
        have r5 : w2.cell? ⟨w.heap.size + 1, 5, none⟩ = some (.int .i64 0) := hR.cell 5
        have fr5 := hR.free 5
        have HR2 := Lib.hid hR
        have HB2 := Lib.hid (HB1.out.trans (hb3.mono HB1.out.size))
        clear hP hR hb3
        go_wp2_with fail
        have hq1 : ¬ 9223372036854775807 < (strOfNums d.R).size + zs.length := by rw [strOfNums_size] at q3 ⊢; omega
        refine wp_region_held_drew (S := fun _ => True) (by kernel_rfl) trivial (fun _ => ?_)
        refine wpAnyH_take (i := 0) (v := ?_) rfl (by kernel_rfl) (by kernel_rfl) (by kernel_rfl) (fun _ _ _ h => h) (Or.inl ⟨by kernel_rfl, ?_⟩) (by first | trivial | assumption) ?_
        rotate_left
        · intro w hSw
          try dsimp only at hSw
          first | (go_simp; done) | (go_simp; with_reducible rfl)
        try simp only [Act.put, List.getElem_toArray, List.getElem_cons_succ, List.getElem_cons_zero, List.setIfInBounds_toArray, List.set_cons_zero, List.set_cons_succ]
        refine wpAnyH_take (i := 2) (v := ?_) rfl (by kernel_rfl) (by kernel_rfl) (by kernel_rfl) (fun _ _ _ h => h) (Or.inl ⟨by kernel_rfl, ?_⟩) (by first | trivial | assumption) ?_
        rotate_left
        · intro w hSw
          try dsimp only at hSw
          first | (go_simp; done) | (go_simp; with_reducible rfl)
        try simp only [Act.put, List.getElem_toArray, List.getElem_cons_succ, List.getElem_cons_zero, List.setIfInBounds_toArray, List.set_cons_zero, List.set_cons_succ]
        refine wpAnyH_take (i := 3) (v := ?_) rfl (by kernel_rfl) (by kernel_rfl) (by kernel_rfl) (fun _ _ _ h => h) (Or.inl ⟨by kernel_rfl, ?_⟩) (by first | trivial | assumption) ?_
        rotate_left
        · intro w hSw
          try dsimp only at hSw
          first | (go_simp; done) | (go_simp; with_reducible rfl)
        try simp only [Act.put, List.getElem_toArray, List.getElem_cons_succ, List.getElem_cons_zero, List.setIfInBounds_toArray, List.set_cons_zero, List.set_cons_succ]
        refine wpAnyH_take (i := 4) (v := ?_) rfl (by kernel_rfl) (by kernel_rfl) (by kernel_rfl) (fun _ _ _ h => h) (Or.inl ⟨by kernel_rfl, ?_⟩) (by first | trivial | assumption) ?_
        rotate_left
        · intro w hSw
          try dsimp only at hSw
          first | (go_simp; done) | (go_simp; with_reducible rfl)
        try simp only [Act.put, List.getElem_toArray, List.getElem_cons_succ, List.getElem_cons_zero, List.setIfInBounds_toArray, List.set_cons_zero, List.set_cons_succ]
        refine wpAnyH_ready (rs := [1]) (by kernel_rfl) (by simp) ?_
        refine AllReadyH.cons rfl (fun K hK => ?_) AllReadyH.nil
        go_simp
        try go_wp2_with fail
        refine hK.out _ _ trivial (fun hS => ?_)
        clear hK K
        try simp only [Act.put, List.getElem_toArray, List.getElem_cons_succ, List.getElem_cons_zero, List.setIfInBounds_toArray, List.set_cons_zero, List.set_cons_succ]
        refine wpAnyH_take (i := 5) (v := ?_) rfl (by kernel_rfl) (by kernel_rfl) (by kernel_rfl) (fun _ _ _ h => h) (Or.inl ⟨by kernel_rfl, ?_⟩) (by first | trivial | assumption) ?_
        rotate_left
        · intro w hSw
          try dsimp only at hSw
          first | (go_simp; done) | (go_simp; with_reducible rfl)
        try simp only [Act.put, List.getElem_toArray, List.getElem_cons_succ, List.getElem_cons_zero, List.setIfInBounds_toArray, List.set_cons_zero, List.set_cons_succ]
        refine wpAnyH_take (i := 6) (v := ?_) rfl (by kernel_rfl) (by kernel_rfl) (by kernel_rfl) (fun _ _ _ h => h) (Or.inl ⟨by kernel_rfl, ?_⟩) (by first | trivial | assumption) ?_
        rotate_left
        · intro w hSw
          try dsimp only at hSw
          first | (go_simp; done) | (go_simp; with_reducible rfl)
        try simp only [Act.put, List.getElem_toArray, List.getElem_cons_succ, List.getElem_cons_zero, List.setIfInBounds_toArray, List.set_cons_zero, List.set_cons_succ]
        refine wpAnyH_ready (rs := [7]) (by kernel_rfl) (by simp) ?_
        refine AllReadyH.cons rfl (fun K hK => ?_) AllReadyH.nil
        go_simp
        try go_wp2_with fail
        refine hK.out _ _ trivial (fun hS => ?_)
        clear hK K
        try simp only [Act.put, List.getElem_toArray, List.getElem_cons_succ, List.getElem_cons_zero, List.setIfInBounds_toArray, List.set_cons_zero, List.set_cons_succ]
        refine wpAnyH_done (by kernel_rfl) ?_ _
        go_wp2_with fail
        have hf : Blk (((((((w2.setCell ⟨w.heap.size + 1, 0, none⟩ (.int .i64 d.room)).setCell ⟨w.heap.size + 1, 1, none⟩ (.string (strOfNums d.S))).setCell ⟨w.heap.size + 1, 2, none⟩ (.string (strOfNums d.R ++ (strOfNums zs).extract 0 zs.length))).setCell ⟨w.heap.size + 1, 3, none⟩ (.bool d.nw)).setCell ⟨w.heap.size + 1, 4, none⟩ (.bool false)).setCell ⟨w.heap.size + 1, 5, none⟩ (.int .i64 (spendL d.left zs.length))).alloc (.cells #[.int .i64 d.room, .string (strOfNums d.S), .string (strOfNums d.R ++ (strOfNums zs).extract 0 zs.length), .bool d.nw, .bool false, .int .i64 (spendL d.left zs.length)] 58)) (w.heap.size + 1) #[.int .i64 d.room, .string (strOfNums d.S), .string (strOfNums d.R ++ (strOfNums zs).extract 0 zs.length), .bool d.nw, .bool false, .int .i64 (spendL d.left zs.length)] 58 := ((((((HR2.out.set 0 (.int .i64 d.room)).set 1 (.string (strOfNums d.S))).set 2 (.string (strOfNums d.R ++ (strOfNums zs).extract 0 zs.length))).set 3 (.bool d.nw)).set 4 (.bool false)).set 5 (.int .i64 (spendL d.left zs.length))).alloc _
        have hL := ((((((HB2.out.setCell (p := ⟨w.heap.size + 1, 0, none⟩) (Nat.le_succ _) (.int .i64 d.room)).setCell (p := ⟨w.heap.size + 1, 1, none⟩) (Nat.le_succ _) (.string (strOfNums d.S))).setCell (p := ⟨w.heap.size + 1, 2, none⟩) (Nat.le_succ _) (.string (strOfNums d.R ++ (strOfNums zs).extract 0 zs.length))).setCell (p := ⟨w.heap.size + 1, 3, none⟩) (Nat.le_succ _) (.bool d.nw)).setCell (p := ⟨w.heap.size + 1, 4, none⟩) (Nat.le_succ _) (.bool false)).setCell (p := ⟨w.heap.size + 1, 5, none⟩) (Nat.le_succ _) (.int .i64 (spendL d.left zs.length))).alloc (by have := HB2.out.size; simp; omega) (.cells #[.int .i64 d.room, .string (strOfNums d.S), .string (strOfNums d.R ++ (strOfNums zs).extract 0 zs.length), .bool d.nw, .bool false, .int .i64 (spendL d.left zs.length)] 58)
        refine bodyPost_ret (v := .tuple #[.agg #[.int .i64 d.room, .string (strOfNums d.S), .string (strOfNums d.R ++ (strOfNums zs).extract 0 zs.length), .bool d.nw, .bool false, .int .i64 (spendL d.left zs.length)], .int .i64 0]) (by simp [results, Try.results36, go_sem, hf.cell 0, hf.cell 1, hf.cell 2, hf.cell 3, hf.cell 4, hf.cell 5]) rfl ⟨by rw [strOfNums_take, strOfNums_app, eN], hL.drew⟩
      · have eN := spendN_le d.left zs.length
        have eD : d.writeD zs = ⟨d.room, d.S, d.R ++ zs.take (spendN d.left zs.length), d.nw, true, spendL d.left zs.length⟩ := by unfold DSt.writeD; rw [if_neg (by rw [hd]; simp; omega), hs]
        have eE : d.writeE zs.length = 60 := by unfold DSt.writeE; rw [if_neg (by rw [hd]; decide), if_neg hf, if_pos hs]
        rw [eD, eE]
        unfold refV cellsR at HU HA ⊢
        rw [hd, hs] at HU
        simp only [Bool.false_or, Bool.not_false, Bool.not_true] at HU
        rw [hd] at HA ⊢
        clear eD eE
        go_enter Try.func36, Try.ntmps36
        go_wp2_with fail
        generalize hWB : (w.alloc (.cells #[.int .i64 d.room, .string (strOfNums d.S), .string (strOfNums d.R), .bool d.nw, .bool false, .int .i64 d.left] 58)).alloc (.cells #[.int .i64 0, .string ⟨#[]⟩, .string ⟨#[]⟩, .bool false, .bool false, .int .i64 0] 58) = WB
        have hB : Below w.heap.size w WB := by rw [← hWB]; exact two_below6 _ _ _
        have hA0 : Blk WB w.heap.size #[.int .i64 d.room, .string (strOfNums d.S), .string (strOfNums d.R), .bool d.nw, .bool false, .int .i64 d.left] 58 := by rw [← hWB]; exact (Blk.new w _ _).alloc _
        have hA1 : Blk WB (w.heap.size + 1) #[.int .i64 0, .string ⟨#[]⟩, .string ⟨#[]⟩, .bool false, .bool false, .int .i64 0] 58 := by rw [← hWB]; exact Blk.new' _ _ _ (by simp)
        have HS : Hid (∀ w', Below WB.heap.size WB w' → w'.cell? ⟨w.heap.size, 0, none⟩ = some (.int .i64 d.room) ∧ w'.cell? ⟨w.heap.size, 1, none⟩ = some (.string (strOfNums d.S)) ∧ w'.cell? ⟨w.heap.size, 2, none⟩ = some (.string (strOfNums d.R)) ∧ w'.cell? ⟨w.heap.size, 3, none⟩ = some (.bool d.nw) ∧ w'.cell? ⟨w.heap.size, 4, none⟩ = some (.bool false) ∧ w'.cell? ⟨w.heap.size, 5, none⟩ = some (.int .i64 d.left)) :=
          fun w' h => ⟨(hA0.below h hA0.lt).cell 0, (hA0.below h hA0.lt).cell 1, (hA0.below h hA0.lt).cell 2, (hA0.below h hA0.lt).cell 3, (hA0.below h hA0.lt).cell 4, (hA0.below h hA0.lt).cell 5⟩
        have HB := Lib.hid hB
        have HP := Lib.hid hA0
        have HR := Lib.hid hA1
        clear hWB hB hA0 hA1
        have hS1 := HS.out WB.drew (Below.refl _ WB).drew
        refine wp_region_held_drew (S := fun w' => w'.cell? ⟨w.heap.size, 0, none⟩ = some (.int .i64 d.room) ∧ w'.cell? ⟨w.heap.size, 1, none⟩ = some (.string (strOfNums d.S)) ∧ w'.cell? ⟨w.heap.size, 2, none⟩ = some (.string (strOfNums d.R)) ∧ w'.cell? ⟨w.heap.size, 3, none⟩ = some (.bool d.nw) ∧ w'.cell? ⟨w.heap.size, 4, none⟩ = some (.bool false) ∧ w'.cell? ⟨w.heap.size, 5, none⟩ = some (.int .i64 d.left)) (by kernel_rfl) hS1 (fun hS0 => ?_)
        refine wpAnyH_take (i := 0) (v := ?_) rfl (by kernel_rfl) (by kernel_rfl) (by kernel_rfl) (fun _ _ _ h => h) (Or.inl ⟨by kernel_rfl, ?_⟩) (by first | trivial | assumption) ?_
        rotate_left
        · intro w hSw
          try dsimp only at hSw
          first | (go_simp; done) | (go_simp; with_reducible rfl)
        try simp only [Act.put, List.getElem_toArray, List.getElem_cons_succ, List.getElem_cons_zero, List.setIfInBounds_toArray, List.set_cons_zero, List.set_cons_succ]
        refine wpAnyH_take (i := 1) (v := ?_) rfl (by kernel_rfl) (by kernel_rfl) (by kernel_rfl) (fun _ _ _ h => h) (Or.inl ⟨by kernel_rfl, ?_⟩) (by first | trivial | assumption) ?_
        rotate_left
        · intro w hSw
          try dsimp only at hSw
          first | (go_simp; done) | (go_simp; with_reducible rfl)
        try simp only [Act.put, List.getElem_toArray, List.getElem_cons_succ, List.getElem_cons_zero, List.setIfInBounds_toArray, List.set_cons_zero, List.set_cons_succ]
        refine wpAnyH_take (i := 2) (v := ?_) rfl (by kernel_rfl) (by kernel_rfl) (by kernel_rfl) (fun _ _ _ h => h) (Or.inl ⟨by kernel_rfl, ?_⟩) (by first | trivial | assumption) ?_
        rotate_left
        · intro w hSw
          try dsimp only at hSw
          first | (go_simp; done) | (go_simp; with_reducible rfl)
        try simp only [Act.put, List.getElem_toArray, List.getElem_cons_succ, List.getElem_cons_zero, List.setIfInBounds_toArray, List.set_cons_zero, List.set_cons_succ]
        refine wpAnyH_take (i := 3) (v := ?_) rfl (by kernel_rfl) (by kernel_rfl) (by kernel_rfl) (fun _ _ _ h => h) (Or.inl ⟨by kernel_rfl, ?_⟩) (by first | trivial | assumption) ?_
        rotate_left
        · intro w hSw
          try dsimp only at hSw
          first | (go_simp; done) | (go_simp; with_reducible rfl)
        try simp only [Act.put, List.getElem_toArray, List.getElem_cons_succ, List.getElem_cons_zero, List.setIfInBounds_toArray, List.set_cons_zero, List.set_cons_succ]
        refine wpAnyH_take (i := 4) (v := ?_) rfl (by kernel_rfl) (by kernel_rfl) (by kernel_rfl) (fun _ _ _ h => h) (Or.inl ⟨by kernel_rfl, ?_⟩) (by first | trivial | assumption) ?_
        rotate_left
        · intro w hSw
          try dsimp only at hSw
          first | (go_simp; done) | (go_simp; with_reducible rfl)
        try simp only [Act.put, List.getElem_toArray, List.getElem_cons_succ, List.getElem_cons_zero, List.setIfInBounds_toArray, List.set_cons_zero, List.set_cons_succ]
        refine wpAnyH_ready (rs := [5]) (by kernel_rfl) (by simp) ?_
        refine AllReadyH.cons rfl (fun K hK => ?_) AllReadyH.nil
        go_simp
        go_at_call 44
        refine (HA.out _).mono ?_
        rintro y w1 ⟨rfl, hb1⟩
        try go_wp2_with fail
        have hb2 := (Below.refl _ WB).drew.trans (hb1.mono (Nat.le_refl _))
        refine hK.out _ _ (HS.out _ hb2) (fun hS => ?_)
        clear hK K
        try simp only [Act.put, List.getElem_toArray, List.getElem_cons_succ, List.getElem_cons_zero, List.setIfInBounds_toArray, List.set_cons_zero, List.set_cons_succ]
        refine wpAnyH_take (i := 6) (v := ?_) rfl (by kernel_rfl) (by kernel_rfl) (by kernel_rfl) (fun _ _ _ h => h) (Or.inl ⟨by kernel_rfl, ?_⟩) (by first | trivial | assumption) ?_
        rotate_left
        · intro w hSw
          try dsimp only at hSw
          first | (go_simp; done) | (go_simp; with_reducible rfl)
        try simp only [Act.put, List.getElem_toArray, List.getElem_cons_succ, List.getElem_cons_zero, List.setIfInBounds_toArray, List.set_cons_zero, List.set_cons_succ]
        refine wpAnyH_take (i := 7) (v := ?_) rfl (by kernel_rfl) (by kernel_rfl) (by kernel_rfl) (fun _ _ _ h => h) (Or.inl ⟨by kernel_rfl, ?_⟩) (by first | trivial | assumption) ?_
        rotate_left
        · intro w hSw
          try dsimp only at hSw
          first | (go_simp; done) | (go_simp; with_reducible rfl)
        try simp only [Act.put, List.getElem_toArray, List.getElem_cons_succ, List.getElem_cons_zero, List.setIfInBounds_toArray, List.set_cons_zero, List.set_cons_succ]
        refine wpAnyH_take (i := 8) (v := ?_) rfl (by kernel_rfl) (by kernel_rfl) (by kernel_rfl) (fun _ _ _ h => h) (Or.inl ⟨by kernel_rfl, ?_⟩) (by first | trivial | assumption) ?_
        rotate_left
        · intro w hSw
          try dsimp only at hSw
          first | (go_simp; done) | (go_simp; with_reducible rfl)
        try simp only [Act.put, List.getElem_toArray, List.getElem_cons_succ, List.getElem_cons_zero, List.setIfInBounds_toArray, List.set_cons_zero, List.set_cons_succ]
        refine wpAnyH_done (by kernel_rfl) ?_ _
        have hP := HP.out.below hb2 HP.out.lt
        have hR := HR.out.below hb2 HR.out.lt
        have lP := hP.lt
        have lR := hR.lt
        have p0 : w1.cell? ⟨w.heap.size, 0, none⟩ = some (.int .i64 d.room) := hP.cell 0
        have fp0 := hP.free 0
        have p1 : w1.cell? ⟨w.heap.size, 1, none⟩ = some (.string (strOfNums d.S)) := hP.cell 1
        have fp1 := hP.free 1
        have p2 : w1.cell? ⟨w.heap.size, 2, none⟩ = some (.string (strOfNums d.R)) := hP.cell 2
        have fp2 := hP.free 2
        have p3 : w1.cell? ⟨w.heap.size, 3, none⟩ = some (.bool d.nw) := hP.cell 3
        have fp3 := hP.free 3
        have p4 : w1.cell? ⟨w.heap.size, 4, none⟩ = some (.bool false) := hP.cell 4
        have fp4 := hP.free 4
        have p5 : w1.cell? ⟨w.heap.size, 5, none⟩ = some (.int .i64 d.left) := hP.cell 5
        have fp5 := hP.free 5
        have r0 : w1.cell? ⟨w.heap.size + 1, 0, none⟩ = some (.int .i64 0) := hR.cell 0
        have fr0 := hR.free 0
        have r1 : w1.cell? ⟨w.heap.size + 1, 1, none⟩ = some (.string ⟨#[]⟩) := hR.cell 1
        have fr1 := hR.free 1
        have r2 : w1.cell? ⟨w.heap.size + 1, 2, none⟩ = some (.string ⟨#[]⟩) := hR.cell 2
        have fr2 := hR.free 2
        have r3 : w1.cell? ⟨w.heap.size + 1, 3, none⟩ = some (.bool false) := hR.cell 3
        have fr3 := hR.free 3
        have r4 : w1.cell? ⟨w.heap.size + 1, 4, none⟩ = some (.bool false) := hR.cell 4
        have fr4 := hR.free 4
        have r5 : w1.cell? ⟨w.heap.size + 1, 5, none⟩ = some (.int .i64 0) := hR.cell 5
        have fr5 := hR.free 5
        have HP1 := Lib.hid hP
        have HR1 := Lib.hid hR
        have HB1 := Lib.hid (HB.out.trans (hb2.mono HB.out.size))
        clear hP hR hb1 hb2 HS hS0 hS1 hS
        go_wp2_with fail
        refine (HU.out _).mono ?_
        rintro y w2 ⟨rfl, hb3⟩
        clear lP lR p0 fp0 r0 fr0 p1 fp1 r1 fr1 p2 fp2 r2 fr2 p3 fp3 r3 fr3 p4 fp4 r4 fr4 p5 fp5 r5 fr5
        have hP := HP1.out.below hb3 HP1.out.lt
        have hR := HR1.out.below hb3 HR1.out.lt
        have lP := hP.lt
        have lR := hR.lt
        have p0 : w2.cell? ⟨w.heap.size, 0, none⟩ = some (.int .i64 d.room) := hP.cell 0
        have fp0 := hP.free 0
        have p1 : w2.cell? ⟨w.heap.size, 1, none⟩ = some (.string (strOfNums d.S)) := hP.cell 1
        have fp1 := hP.free 1
        have p2 : w2.cell? ⟨w.heap.size, 2, none⟩ = some (.string (strOfNums d.R)) := hP.cell 2
        have fp2 := hP.free 2
        have p3 : w2.cell? ⟨w.heap.size, 3, none⟩ = some (.bool d.nw) := hP.cell 3
        have fp3 := hP.free 3
        have p4 : w2.cell? ⟨w.heap.size, 4, none⟩ = some (.bool false) := hP.cell 4
        have fp4 := hP.free 4
        have p5 : w2.cell? ⟨w.heap.size, 5, none⟩ = some (.int .i64 d.left) := hP.cell 5
        have fp5 := hP.free 5
        have r0 : w2.cell? ⟨w.heap.size + 1, 0, none⟩ = some (.int .i64 0) := hR.cell 0
        have fr0 := hR.free 0
        have r1 : w2.cell? ⟨w.heap.size + 1, 1, none⟩ = some (.string ⟨#[]⟩) := hR.cell 1
        have fr1 := hR.free 1
        have r2 : w2.cell? ⟨w.heap.size + 1, 2, none⟩ = some (.string ⟨#[]⟩) := hR.cell 2
        have fr2 := hR.free 2
        have r3 : w2.cell? ⟨w.heap.size + 1, 3, none⟩ = some (.bool false) := hR.cell 3
        have fr3 := hR.free 3
        have r4 : w2.cell? ⟨w.heap.size + 1, 4, none⟩ = some (.bool false) := hR.cell 4
        have fr4 := hR.free 4
        have r5 : w2.cell? ⟨w.heap.size + 1, 5, none⟩ = some (.int .i64 0) := hR.cell 5
        have fr5 := hR.free 5
        have HR2 := Lib.hid hR
        have HB2 := Lib.hid (HB1.out.trans (hb3.mono HB1.out.size))
        clear hP hR hb3
        go_wp2_with fail
        have hq1 : ¬ 9223372036854775807 < (strOfNums d.R).size + spendN d.left zs.length := by rw [strOfNums_size] at q3 ⊢; omega
        have hq2 : ¬ 9223372036854775807 < (strOfNums d.R).size + min (spendN d.left zs.length) zs.length := by rw [strOfNums_size] at q3 ⊢; omega
        refine wp_region_held_drew (S := fun _ => True) (by kernel_rfl) trivial (fun _ => ?_)
        refine wpAnyH_take (i := 0) (v := ?_) rfl (by kernel_rfl) (by kernel_rfl) (by kernel_rfl) (fun _ _ _ h => h) (Or.inl ⟨by kernel_rfl, ?_⟩) (by first | trivial | assumption) ?_
        rotate_left
        · intro w hSw
          try dsimp only at hSw
          first | (go_simp; done) | (go_simp; with_reducible rfl)
        try simp only [Act.put, List.getElem_toArray, List.getElem_cons_succ, List.getElem_cons_zero, List.setIfInBounds_toArray, List.set_cons_zero, List.set_cons_succ]
        refine wpAnyH_take (i := 2) (v := ?_) rfl (by kernel_rfl) (by kernel_rfl) (by kernel_rfl) (fun _ _ _ h => h) (Or.inl ⟨by kernel_rfl, ?_⟩) (by first | trivial | assumption) ?_
        rotate_left
        · intro w hSw
          try dsimp only at hSw
          first | (go_simp; done) | (go_simp; with_reducible rfl)
        try simp only [Act.put, List.getElem_toArray, List.getElem_cons_succ, List.getElem_cons_zero, List.setIfInBounds_toArray, List.set_cons_zero, List.set_cons_succ]
        refine wpAnyH_take (i := 3) (v := ?_) rfl (by kernel_rfl) (by kernel_rfl) (by kernel_rfl) (fun _ _ _ h => h) (Or.inl ⟨by kernel_rfl, ?_⟩) (by first | trivial | assumption) ?_
        rotate_left
        · intro w hSw
          try dsimp only at hSw
          first | (go_simp; done) | (go_simp; with_reducible rfl)
        try simp only [Act.put, List.getElem_toArray, List.getElem_cons_succ, List.getElem_cons_zero, List.setIfInBounds_toArray, List.set_cons_zero, List.set_cons_succ]
        refine wpAnyH_take (i := 4) (v := ?_) rfl (by kernel_rfl) (by kernel_rfl) (by kernel_rfl) (fun _ _ _ h => h) (Or.inl ⟨by kernel_rfl, ?_⟩) (by first | trivial | assumption) ?_
        rotate_left
        · intro w hSw
          try dsimp only at hSw
          first | (go_simp; done) | (go_simp; with_reducible rfl)
        try simp only [Act.put, List.getElem_toArray, List.getElem_cons_succ, List.getElem_cons_zero, List.setIfInBounds_toArray, List.set_cons_zero, List.set_cons_succ]
        refine wpAnyH_ready (rs := [1]) (by kernel_rfl) (by simp) ?_
        refine AllReadyH.cons rfl (fun K hK => ?_) AllReadyH.nil
        go_simp
        try go_wp2_with fail
        refine hK.out _ _ trivial (fun hS => ?_)
        clear hK K
        try simp only [Act.put, List.getElem_toArray, List.getElem_cons_succ, List.getElem_cons_zero, List.setIfInBounds_toArray, List.set_cons_zero, List.set_cons_succ]
        refine wpAnyH_take (i := 5) (v := ?_) rfl (by kernel_rfl) (by kernel_rfl) (by kernel_rfl) (fun _ _ _ h => h) (Or.inl ⟨by kernel_rfl, ?_⟩) (by first | trivial | assumption) ?_
        rotate_left
        · intro w hSw
          try dsimp only at hSw
          first | (go_simp; done) | (go_simp; with_reducible rfl)
        try simp only [Act.put, List.getElem_toArray, List.getElem_cons_succ, List.getElem_cons_zero, List.setIfInBounds_toArray, List.set_cons_zero, List.set_cons_succ]
        refine wpAnyH_take (i := 6) (v := ?_) rfl (by kernel_rfl) (by kernel_rfl) (by kernel_rfl) (fun _ _ _ h => h) (Or.inl ⟨by kernel_rfl, ?_⟩) (by first | trivial | assumption) ?_
        rotate_left
        · intro w hSw
          try dsimp only at hSw
          first | (go_simp; done) | (go_simp; with_reducible rfl)
        try simp only [Act.put, List.getElem_toArray, List.getElem_cons_succ, List.getElem_cons_zero, List.setIfInBounds_toArray, List.set_cons_zero, List.set_cons_succ]
        refine wpAnyH_ready (rs := [7]) (by kernel_rfl) (by simp) ?_
        refine AllReadyH.cons rfl (fun K hK => ?_) AllReadyH.nil
        go_simp
        try go_wp2_with fail
        refine hK.out _ _ trivial (fun hS => ?_)
        clear hK K
        try simp only [Act.put, List.getElem_toArray, List.getElem_cons_succ, List.getElem_cons_zero, List.setIfInBounds_toArray, List.set_cons_zero, List.set_cons_succ]
        refine wpAnyH_done (by kernel_rfl) ?_ _
        go_wp2_with fail
        have hf : Blk (((((((w2.setCell ⟨w.heap.size + 1, 0, none⟩ (.int .i64 d.room)).setCell ⟨w.heap.size + 1, 1, none⟩ (.string (strOfNums d.S))).setCell ⟨w.heap.size + 1, 2, none⟩ (.string (strOfNums d.R ++ (strOfNums zs).extract 0 (spendN d.left zs.length)))).setCell ⟨w.heap.size + 1, 3, none⟩ (.bool d.nw)).setCell ⟨w.heap.size + 1, 4, none⟩ (.bool true)).setCell ⟨w.heap.size + 1, 5, none⟩ (.int .i64 (spendL d.left zs.length))).alloc (.cells #[.int .i64 d.room, .string (strOfNums d.S), .string (strOfNums d.R ++ (strOfNums zs).extract 0 (spendN d.left zs.length)), .bool d.nw, .bool true, .int .i64 (spendL d.left zs.length)] 58)) (w.heap.size + 1) #[.int .i64 d.room, .string (strOfNums d.S), .string (strOfNums d.R ++ (strOfNums zs).extract 0 (spendN d.left zs.length)), .bool d.nw, .bool true, .int .i64 (spendL d.left zs.length)] 58 := ((((((HR2.out.set 0 (.int .i64 d.room)).set 1 (.string (strOfNums d.S))).set 2 (.string (strOfNums d.R ++ (strOfNums zs).extract 0 (spendN d.left zs.length)))).set 3 (.bool d.nw)).set 4 (.bool true)).set 5 (.int .i64 (spendL d.left zs.length))).alloc _
        have hL := ((((((HB2.out.setCell (p := ⟨w.heap.size + 1, 0, none⟩) (Nat.le_succ _) (.int .i64 d.room)).setCell (p := ⟨w.heap.size + 1, 1, none⟩) (Nat.le_succ _) (.string (strOfNums d.S))).setCell (p := ⟨w.heap.size + 1, 2, none⟩) (Nat.le_succ _) (.string (strOfNums d.R ++ (strOfNums zs).extract 0 (spendN d.left zs.length)))).setCell (p := ⟨w.heap.size + 1, 3, none⟩) (Nat.le_succ _) (.bool d.nw)).setCell (p := ⟨w.heap.size + 1, 4, none⟩) (Nat.le_succ _) (.bool true)).setCell (p := ⟨w.heap.size + 1, 5, none⟩) (Nat.le_succ _) (.int .i64 (spendL d.left zs.length))).alloc (by have := HB2.out.size; simp; omega) (.cells #[.int .i64 d.room, .string (strOfNums d.S), .string (strOfNums d.R ++ (strOfNums zs).extract 0 (spendN d.left zs.length)), .bool d.nw, .bool true, .int .i64 (spendL d.left zs.length)] 58)
        refine bodyPost_ret (v := .tuple #[.agg #[.int .i64 d.room, .string (strOfNums d.S), .string (strOfNums d.R ++ (strOfNums zs).extract 0 (spendN d.left zs.length)), .bool d.nw, .bool true, .int .i64 (spendL d.left zs.length)], .int .i64 60]) (by simp [results, Try.results36, go_sem, hf.cell 0, hf.cell 1, hf.cell 2, hf.cell 3, hf.cell 4, hf.cell 5]) rfl ⟨by rw [strOfNums_take, strOfNums_app], hL.drew⟩
  · have eD : d.writeD zs = d := by unfold DSt.writeD; rw [if_pos (Or.inl hd)]
    have eE : d.writeE zs.length = 60 := by unfold DSt.writeE; rw [if_pos hd]
    rw [eD, eE]
    unfold refV cellsR
    rw [hd]
    clear HU HA eD eE
    go_enter Try.func36, Try.ntmps36
    go_wp2_with fail
    have hf := Blk.new' (w.alloc (.cells #[.int .i64 d.room, .string (strOfNums d.S), .string (strOfNums d.R), .bool d.nw, .bool true, .int .i64 d.left] 58)) #[.int .i64 d.room, .string (strOfNums d.S), .string (strOfNums d.R), .bool d.nw, .bool true, .int .i64 d.left] 58 (b := w.heap.size + 1) (by simp)
    refine bodyPost_ret (v := .tuple #[.agg #[.int .i64 d.room, .string (strOfNums d.S), .string (strOfNums d.R), .bool d.nw, .bool true, .int .i64 d.left], .int .i64 60]) (by simp [results, Try.results36, go_sem, hf.cell 0, hf.cell 1, hf.cell 2, hf.cell 3, hf.cell 4, hf.cell 5]) rfl ⟨rfl, two_below6 _ _ _⟩
end Go.Proofs.Ytgkikjjgbceopaa
