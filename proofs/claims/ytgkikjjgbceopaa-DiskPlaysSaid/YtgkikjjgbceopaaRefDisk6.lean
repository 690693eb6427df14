/- contraref06.Crash by contract. -/
import Derived.Test.YtgkikjjgbceopaaRefDisk5
namespace Go.Proofs.Ytgkikjjgbceopaa
open Go.RowKit
theorem strOfNums_get {l : List Int} (ho : Oct l) (m : Nat) (h : m < (strOfNums l).size) : (((strOfNums l)[m]).toNat : Int) = l.getD m 0 := by
  have h2 : m < l.length := by rw [← strOfNums_size]; exact h
  have e : (strOfNums l)[m] = UInt8.ofNat (l[m]).toNat := by
    show (strOfNums l).data[m] = _
    simp [strOfNums]
  rw [e, List.getD_eq_getElem?_getD, List.getElem?_eq_getElem h2]
  have := ho _ (List.getElem_mem h2)
  rw [UInt8.toNat_ofNat']
  show _ = l[m]
  omega
theorem tornL_snoc {l : List Int} {m : Nat} (h : m < l.length) (t : Int) : tornL l (m + 1) t = l.take m ++ [xorI (l.getD m 0) t] := by
  unfold tornL
  rw [if_neg (by omega), Nat.add_sub_cancel, List.take_succ_eq_append_getElem h]
  have e : (l.take m).length = m := by rw [List.length_take]; omega
  rw [List.set_append, if_neg (by omega), e, Nat.sub_self]
  rfl
set_option linter.unusedSimpArgs false in
set_option maxHeartbeats 4000000 in
theorem refcrash_any (d : DSt) (k t : Int) (hk : -9223372036854775808 ≤ k ∧ k ≤ 9223372036854775807) (ht : 0 ≤ t ∧ t < 256) (h : d.Ok) (w : World) :
    Calls Try.prog 41 #[refV d, .int .i64 k, .int .u8 t] w fun x w' => x = .returned (refV (d.crashD k t)) ∧ Below w.heap.size w w' := by
  have hrz := strOfNums_size d.R
  have hrl := h.2.2.2.2.1
  cases hn : d.nw
  · have eG : d.giveD = d := by unfold DSt.giveD; rw [if_neg (by rw [hn]; decide)]
    by_cases h0 : keepN k d.R.length = 0
    · have eD : d.crashD k t = ⟨d.room, d.S, [], false, true, -1⟩ := by unfold DSt.crashD; rw [eG, h0]; unfold tornL; rw [if_pos rfl]; dsimp only; rw [hn]
      rw [eD]
      clear eD eG
      unfold refV cellsR
      rw [hn]
      by_cases hk0 : k < 0
      · go_enter Try.func41, Try.ntmps41
        go_wp2_with fail
        have hf := Blk.new' (w.alloc (.cells #[.int .i64 d.room, .string (strOfNums d.S), .string ⟨#[]⟩, .bool false, .bool true, .int .i64 (-1)] 58)) #[.int .i64 d.room, .string (strOfNums d.S), .string ⟨#[]⟩, .bool false, .bool true, .int .i64 (-1)] 58 (b := w.heap.size + 1) (by simp)
        refine bodyPost_ret (v := .agg #[.int .i64 d.room, .string (strOfNums d.S), .string ⟨#[]⟩, .bool false, .bool true, .int .i64 (-1)]) (by simp [results, Try.results41, go_sem, hf.cell 0, hf.cell 1, hf.cell 2, hf.cell 3, hf.cell 4, hf.cell 5]) rfl ⟨rfl, two_below6 _ _ _⟩
      · by_cases hk1 : (d.R.length : Int) < k
        · have hl : d.R.length = 0 := by unfold keepN at h0; omega
          have hl2 : ¬ (0 : Int) < (d.R.length : Int) := by omega
          go_enter Try.func41, Try.ntmps41
          go_wp2_with fail
          have hf := Blk.new' (w.alloc (.cells #[.int .i64 d.room, .string (strOfNums d.S), .string ⟨#[]⟩, .bool false, .bool true, .int .i64 (-1)] 58)) #[.int .i64 d.room, .string (strOfNums d.S), .string ⟨#[]⟩, .bool false, .bool true, .int .i64 (-1)] 58 (b := w.heap.size + 1) (by simp)
          refine bodyPost_ret (v := .agg #[.int .i64 d.room, .string (strOfNums d.S), .string ⟨#[]⟩, .bool false, .bool true, .int .i64 (-1)]) (by simp [results, Try.results41, go_sem, hf.cell 0, hf.cell 1, hf.cell 2, hf.cell 3, hf.cell 4, hf.cell 5]) rfl ⟨rfl, two_below6 _ _ _⟩
        · have hk2 : k = 0 := by unfold keepN at h0; omega
          subst hk2
          go_enter Try.func41, Try.ntmps41
          go_wp2_with fail
          have hf := Blk.new' (w.alloc (.cells #[.int .i64 d.room, .string (strOfNums d.S), .string ⟨#[]⟩, .bool false, .bool true, .int .i64 (-1)] 58)) #[.int .i64 d.room, .string (strOfNums d.S), .string ⟨#[]⟩, .bool false, .bool true, .int .i64 (-1)] 58 (b := w.heap.size + 1) (by simp)
          refine bodyPost_ret (v := .agg #[.int .i64 d.room, .string (strOfNums d.S), .string ⟨#[]⟩, .bool false, .bool true, .int .i64 (-1)]) (by simp [results, Try.results41, go_sem, hf.cell 0, hf.cell 1, hf.cell 2, hf.cell 3, hf.cell 4, hf.cell 5]) rfl ⟨rfl, two_below6 _ _ _⟩
    · obtain ⟨m, hm⟩ : ∃ m, keepN k d.R.length = m + 1 := ⟨keepN k d.R.length - 1, by omega⟩
      have hmR := keepN_le k d.R.length
      have eD : d.crashD k t = ⟨d.room, d.S, (d.R.take m) ++ [xorI (d.R.getD m 0) t], false, true, -1⟩ := by unfold DSt.crashD; rw [eG, hm, tornL_snoc (by omega)]; dsimp only; rw [hn]
      have hm2 : m < (strOfNums d.R).size := by omega
      have hb := strOfNums_get h.2.2.1 m hm2
      have hX : bits .xor .u8 ((strOfNums d.R)[m].toNat : Int) t = xorI (d.R.getD m 0) t := by rw [hb]; exact xor8_I _ _ (by rw [List.getD_eq_getElem?_getD, List.getElem?_eq_getElem (show m < d.R.length by omega)]; exact h.2.2.1 _ (List.getElem_mem _)) ht
      clear hb
      rw [eD]
      generalize hx : xorI (d.R.getD m 0) t = x at hX ⊢
      clear eD eG
      unfold refV cellsR
      rw [hn]
      by_cases hk1 : (d.R.length : Int) < k
      · have hl : d.R.length = m + 1 := by unfold keepN at hm; omega
        have hk0 : ¬ k < 0 := by omega
        rw [hl] at hk1
        go_enter Try.func41, Try.ntmps41
        go_wp2_with fail
        try rw [hX]
        generalize hWB : (w.alloc (.cells #[.int .i64 d.room, .string (strOfNums d.S), .string (strOfNums d.R), .bool false, .bool true, .int .i64 (-1)] 58)).alloc (.cells #[.int .i64 0, .string ⟨#[]⟩, .string ⟨#[]⟩, .bool false, .bool false, .int .i64 0] 58) = WB
        have hB : Below w.heap.size w WB := by rw [← hWB]; exact two_below6 _ _ _
        have hP : Blk WB w.heap.size #[.int .i64 d.room, .string (strOfNums d.S), .string (strOfNums d.R), .bool false, .bool true, .int .i64 (-1)] 58 := by rw [← hWB]; exact (Blk.new w _ _).alloc _
        have hR : Blk WB (w.heap.size + 1) #[.int .i64 0, .string ⟨#[]⟩, .string ⟨#[]⟩, .bool false, .bool false, .int .i64 0] 58 := by rw [← hWB]; exact Blk.new' _ _ _ (by simp)
        have hr := Row.laid .u8 WB.drew 5 [x] #[.int .u8 x] rfl (0, 0) 1 1 rfl (Nat.le_refl _)
        have KC := conv_row (P := Try.prog) _ 59 9 5 Try.underlying59 Try.underlying5 Try.underlying9 _ _ hr
        have KC2 : (convert 59 9 (.slice (some ⟨WB.heap.size, 0, none⟩) 1 1)).run Try.prog (WB.alloc (.cells #[.int .u8 x] 5)).drew = .ok (.string (strOfNums [x])) (WB.alloc (.cells #[.int .u8 x] 5)).drew := KC
        have hwm : IntKind.i64.wrap (m : Int) = (m : Int) := IntWalk.i64_in _ (by omega)
        have hx1 : (strOfNums [x]).size = 1 := strOfNums_size _
        have hx2 : ¬ 9223372036854775807 < m + 1 := by omega
        have lP := hP.lt
        have p2 : WB.cell? ⟨w.heap.size, 2, none⟩ = some (.string (strOfNums d.R)) := hP.cell 2
        have fp2 := hP.free 2
        clear hr
        go_region
        rw [strOfNums_take, strOfNums_app]
        generalize hW2 : ((WB.setCell ⟨w.heap.size, 2, none⟩ (.string (strOfNums (d.R.take m ++ [x])))).alloc (.cells #[.int .u8 x] 5)).drew = W2
        have hP2 : Blk W2 w.heap.size #[.int .i64 d.room, .string (strOfNums d.S), .string (strOfNums (d.R.take m ++ [x])), .bool false, .bool true, .int .i64 (-1)] 58 := by rw [← hW2]; exact ((hP.set 2 _).alloc _).drew
        have hR2 : Blk W2 (w.heap.size + 1) #[.int .i64 0, .string ⟨#[]⟩, .string ⟨#[]⟩, .bool false, .bool false, .int .i64 0] 58 := by rw [← hW2]; exact ((hR.setOther (a := ⟨w.heap.size, 2, none⟩) (by simp) _).alloc _).drew
        have hB2 : Below w.heap.size w W2 := by rw [← hW2]; exact ((hB.setCell (p := ⟨w.heap.size, 2, none⟩) (Nat.le_refl _) _).alloc (by simp; omega) _).drew
        clear hW2 hP hR KC KC2 p2 fp2 lP hB hx hX hWB
        have lP := hP2.lt
        have lR := hR2.lt
        have p0 : W2.cell? ⟨w.heap.size, 0, none⟩ = some (.int .i64 d.room) := hP2.cell 0
        have r0 : W2.cell? ⟨w.heap.size + 1, 0, none⟩ = some (.int .i64 0) := hR2.cell 0
        have fr0 := hR2.free 0
        have p1 : W2.cell? ⟨w.heap.size, 1, none⟩ = some (.string (strOfNums d.S)) := hP2.cell 1
        have r1 : W2.cell? ⟨w.heap.size + 1, 1, none⟩ = some (.string ⟨#[]⟩) := hR2.cell 1
        have fr1 := hR2.free 1
        have p2 : W2.cell? ⟨w.heap.size, 2, none⟩ = some (.string (strOfNums (d.R.take m ++ [x]))) := hP2.cell 2
        have r2 : W2.cell? ⟨w.heap.size + 1, 2, none⟩ = some (.string ⟨#[]⟩) := hR2.cell 2
        have fr2 := hR2.free 2
        have p3 : W2.cell? ⟨w.heap.size, 3, none⟩ = some (.bool false) := hP2.cell 3
        have r3 : W2.cell? ⟨w.heap.size + 1, 3, none⟩ = some (.bool false) := hR2.cell 3
        have fr3 := hR2.free 3
        have p4 : W2.cell? ⟨w.heap.size, 4, none⟩ = some (.bool true) := hP2.cell 4
        have r4 : W2.cell? ⟨w.heap.size + 1, 4, none⟩ = some (.bool false) := hR2.cell 4
        have fr4 := hR2.free 4
        have p5 : W2.cell? ⟨w.heap.size, 5, none⟩ = some (.int .i64 (-1)) := hP2.cell 5
        have r5 : W2.cell? ⟨w.heap.size + 1, 5, none⟩ = some (.int .i64 0) := hR2.cell 5
        have fr5 := hR2.free 5
        have HR := Lib.hid hR2
        have HB := Lib.hid hB2
        clear hP2 hR2 hB2
        go_wp2_with fail
        have hf : Blk ((((((W2.setCell ⟨w.heap.size + 1, 0, none⟩ (.int .i64 d.room)).setCell ⟨w.heap.size + 1, 1, none⟩ (.string (strOfNums d.S))).setCell ⟨w.heap.size + 1, 2, none⟩ (.string (strOfNums (d.R.take m ++ [x])))).setCell ⟨w.heap.size + 1, 3, none⟩ (.bool false)).setCell ⟨w.heap.size + 1, 4, none⟩ (.bool true)).setCell ⟨w.heap.size + 1, 5, none⟩ (.int .i64 (-1))) (w.heap.size + 1) #[.int .i64 d.room, .string (strOfNums d.S), .string (strOfNums (d.R.take m ++ [x])), .bool false, .bool true, .int .i64 (-1)] 58 := ((((((HR.out.set 0 (.int .i64 d.room)).set 1 (.string (strOfNums d.S))).set 2 (.string (strOfNums (d.R.take m ++ [x])))).set 3 (.bool false)).set 4 (.bool true)).set 5 (.int .i64 (-1)))
        refine bodyPost_ret (v := .agg #[.int .i64 d.room, .string (strOfNums d.S), .string (strOfNums (d.R.take m ++ [x])), .bool false, .bool true, .int .i64 (-1)]) (by simp [results, Try.results41, go_sem, hf.cell 0, hf.cell 1, hf.cell 2, hf.cell 3, hf.cell 4, hf.cell 5]) rfl ⟨rfl, ((((((HB.out.setCell (p := ⟨w.heap.size + 1, 0, none⟩) (Nat.le_succ _) (.int .i64 d.room)).setCell (p := ⟨w.heap.size + 1, 1, none⟩) (Nat.le_succ _) (.string (strOfNums d.S))).setCell (p := ⟨w.heap.size + 1, 2, none⟩) (Nat.le_succ _) (.string (strOfNums (d.R.take m ++ [x])))).setCell (p := ⟨w.heap.size + 1, 3, none⟩) (Nat.le_succ _) (.bool false)).setCell (p := ⟨w.heap.size + 1, 4, none⟩) (Nat.le_succ _) (.bool true)).setCell (p := ⟨w.heap.size + 1, 5, none⟩) (Nat.le_succ _) (.int .i64 (-1)))⟩
      · have hk3 : k = (m : Int) + 1 := by unfold keepN at hm; omega
        have hk4 : (m : Int) + 1 ≤ (d.R.length : Int) := by omega
        subst hk3
        go_enter Try.func41, Try.ntmps41
        go_wp2_with fail
        try rw [hX]
        generalize hWB : (w.alloc (.cells #[.int .i64 d.room, .string (strOfNums d.S), .string (strOfNums d.R), .bool false, .bool true, .int .i64 (-1)] 58)).alloc (.cells #[.int .i64 0, .string ⟨#[]⟩, .string ⟨#[]⟩, .bool false, .bool false, .int .i64 0] 58) = WB
        have hB : Below w.heap.size w WB := by rw [← hWB]; exact two_below6 _ _ _
        have hP : Blk WB w.heap.size #[.int .i64 d.room, .string (strOfNums d.S), .string (strOfNums d.R), .bool false, .bool true, .int .i64 (-1)] 58 := by rw [← hWB]; exact (Blk.new w _ _).alloc _
        have hR : Blk WB (w.heap.size + 1) #[.int .i64 0, .string ⟨#[]⟩, .string ⟨#[]⟩, .bool false, .bool false, .int .i64 0] 58 := by rw [← hWB]; exact Blk.new' _ _ _ (by simp)
        have hr := Row.laid .u8 WB.drew 5 [x] #[.int .u8 x] rfl (0, 0) 1 1 rfl (Nat.le_refl _)
        have KC := conv_row (P := Try.prog) _ 59 9 5 Try.underlying59 Try.underlying5 Try.underlying9 _ _ hr
        have KC2 : (convert 59 9 (.slice (some ⟨WB.heap.size, 0, none⟩) 1 1)).run Try.prog (WB.alloc (.cells #[.int .u8 x] 5)).drew = .ok (.string (strOfNums [x])) (WB.alloc (.cells #[.int .u8 x] 5)).drew := KC
        have hwm : IntKind.i64.wrap (m : Int) = (m : Int) := IntWalk.i64_in _ (by omega)
        have hx1 : (strOfNums [x]).size = 1 := strOfNums_size _
        have hx2 : ¬ 9223372036854775807 < m + 1 := by omega
        have lP := hP.lt
        have p2 : WB.cell? ⟨w.heap.size, 2, none⟩ = some (.string (strOfNums d.R)) := hP.cell 2
        have fp2 := hP.free 2
        clear hr
        go_region
        rw [strOfNums_take, strOfNums_app]
        generalize hW2 : ((WB.setCell ⟨w.heap.size, 2, none⟩ (.string (strOfNums (d.R.take m ++ [x])))).alloc (.cells #[.int .u8 x] 5)).drew = W2
        have hP2 : Blk W2 w.heap.size #[.int .i64 d.room, .string (strOfNums d.S), .string (strOfNums (d.R.take m ++ [x])), .bool false, .bool true, .int .i64 (-1)] 58 := by rw [← hW2]; exact ((hP.set 2 _).alloc _).drew
        have hR2 : Blk W2 (w.heap.size + 1) #[.int .i64 0, .string ⟨#[]⟩, .string ⟨#[]⟩, .bool false, .bool false, .int .i64 0] 58 := by rw [← hW2]; exact ((hR.setOther (a := ⟨w.heap.size, 2, none⟩) (by simp) _).alloc _).drew
        have hB2 : Below w.heap.size w W2 := by rw [← hW2]; exact ((hB.setCell (p := ⟨w.heap.size, 2, none⟩) (Nat.le_refl _) _).alloc (by simp; omega) _).drew
        clear hW2 hP hR KC KC2 p2 fp2 lP hB hx hX hWB
        have lP := hP2.lt
        have lR := hR2.lt
        have p0 : W2.cell? ⟨w.heap.size, 0, none⟩ = some (.int .i64 d.room) := hP2.cell 0
        have r0 : W2.cell? ⟨w.heap.size + 1, 0, none⟩ = some (.int .i64 0) := hR2.cell 0
        have fr0 := hR2.free 0
        have p1 : W2.cell? ⟨w.heap.size, 1, none⟩ = some (.string (strOfNums d.S)) := hP2.cell 1
        have r1 : W2.cell? ⟨w.heap.size + 1, 1, none⟩ = some (.string ⟨#[]⟩) := hR2.cell 1
        have fr1 := hR2.free 1
        have p2 : W2.cell? ⟨w.heap.size, 2, none⟩ = some (.string (strOfNums (d.R.take m ++ [x]))) := hP2.cell 2
        have r2 : W2.cell? ⟨w.heap.size + 1, 2, none⟩ = some (.string ⟨#[]⟩) := hR2.cell 2
        have fr2 := hR2.free 2
        have p3 : W2.cell? ⟨w.heap.size, 3, none⟩ = some (.bool false) := hP2.cell 3
        have r3 : W2.cell? ⟨w.heap.size + 1, 3, none⟩ = some (.bool false) := hR2.cell 3
        have fr3 := hR2.free 3
        have p4 : W2.cell? ⟨w.heap.size, 4, none⟩ = some (.bool true) := hP2.cell 4
        have r4 : W2.cell? ⟨w.heap.size + 1, 4, none⟩ = some (.bool false) := hR2.cell 4
        have fr4 := hR2.free 4
        have p5 : W2.cell? ⟨w.heap.size, 5, none⟩ = some (.int .i64 (-1)) := hP2.cell 5
        have r5 : W2.cell? ⟨w.heap.size + 1, 5, none⟩ = some (.int .i64 0) := hR2.cell 5
        have fr5 := hR2.free 5
        have HR := Lib.hid hR2
        have HB := Lib.hid hB2
        clear hP2 hR2 hB2
        go_wp2_with fail
        have hf : Blk ((((((W2.setCell ⟨w.heap.size + 1, 0, none⟩ (.int .i64 d.room)).setCell ⟨w.heap.size + 1, 1, none⟩ (.string (strOfNums d.S))).setCell ⟨w.heap.size + 1, 2, none⟩ (.string (strOfNums (d.R.take m ++ [x])))).setCell ⟨w.heap.size + 1, 3, none⟩ (.bool false)).setCell ⟨w.heap.size + 1, 4, none⟩ (.bool true)).setCell ⟨w.heap.size + 1, 5, none⟩ (.int .i64 (-1))) (w.heap.size + 1) #[.int .i64 d.room, .string (strOfNums d.S), .string (strOfNums (d.R.take m ++ [x])), .bool false, .bool true, .int .i64 (-1)] 58 := ((((((HR.out.set 0 (.int .i64 d.room)).set 1 (.string (strOfNums d.S))).set 2 (.string (strOfNums (d.R.take m ++ [x])))).set 3 (.bool false)).set 4 (.bool true)).set 5 (.int .i64 (-1)))
        refine bodyPost_ret (v := .agg #[.int .i64 d.room, .string (strOfNums d.S), .string (strOfNums (d.R.take m ++ [x])), .bool false, .bool true, .int .i64 (-1)]) (by simp [results, Try.results41, go_sem, hf.cell 0, hf.cell 1, hf.cell 2, hf.cell 3, hf.cell 4, hf.cell 5]) rfl ⟨rfl, ((((((HB.out.setCell (p := ⟨w.heap.size + 1, 0, none⟩) (Nat.le_succ _) (.int .i64 d.room)).setCell (p := ⟨w.heap.size + 1, 1, none⟩) (Nat.le_succ _) (.string (strOfNums d.S))).setCell (p := ⟨w.heap.size + 1, 2, none⟩) (Nat.le_succ _) (.string (strOfNums (d.R.take m ++ [x])))).setCell (p := ⟨w.heap.size + 1, 3, none⟩) (Nat.le_succ _) (.bool false)).setCell (p := ⟨w.heap.size + 1, 4, none⟩) (Nat.le_succ _) (.bool true)).setCell (p := ⟨w.heap.size + 1, 5, none⟩) (Nat.le_succ _) (.int .i64 (-1)))⟩
  · have eD : d.crashD k t = ⟨d.room, d.S, [], false, true, -1⟩ := by unfold DSt.crashD DSt.giveD; rw [if_pos hn]; unfold tornL keepN; simp
    rw [eD]
    clear eD
    unfold refV cellsR
    rw [hn]
    go_enter Try.func41, Try.ntmps41
    go_wp2_with fail
    have hf := Blk.new' (w.alloc (.cells #[.int .i64 d.room, .string (strOfNums d.S), .string ⟨#[]⟩, .bool false, .bool true, .int .i64 (-1)] 58)) #[.int .i64 d.room, .string (strOfNums d.S), .string ⟨#[]⟩, .bool false, .bool true, .int .i64 (-1)] 58 (b := w.heap.size + 1) (by simp)
    refine bodyPost_ret (v := .agg #[.int .i64 d.room, .string (strOfNums d.S), .string ⟨#[]⟩, .bool false, .bool true, .int .i64 (-1)]) (by simp [results, Try.results41, go_sem, hf.cell 0, hf.cell 1, hf.cell 2, hf.cell 3, hf.cell 4, hf.cell 5]) rfl ⟨rfl, two_below6 _ _ _⟩
end Go.Proofs.Ytgkikjjgbceopaa
