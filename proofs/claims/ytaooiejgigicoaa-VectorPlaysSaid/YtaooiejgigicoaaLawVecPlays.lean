/- VectorPlays: the walk. -/
import Derived.Test.YtaooiejgigicoaaMdl
import Derived.Deep.RegionHeld3
namespace Go.Proofs.Ytaooiejgigicoaa
open Go.RowKit
set_option linter.unusedSimpArgs false in
set_option maxHeartbeats 8000000 in
set_option maxRecDepth 100000 in
theorem vplays_walk (v : Value) (ps : List Pos) (a b : Int) (w : World) (hr : PRow w v ps) (hf : ∀ p ∈ ps, FitP p) (_ : Fits a) (_ : Fits b) : Calls Try.prog 3 #[v, .agg #[.int .i64 a, .int .i64 b]] w fun e w' => e = .returned (.bool true) ∧ Below w.heap.size w w' := by
  have HL := Lib.hid (fun w => holds_any w)
  obtain ⟨pv, cv, rfl⟩ := hr.shape
  have HB0 := Lib.hid (oneB w (.cells #[.int .i64 a, .int .i64 b] 23))
  have HA0 := Lib.hid (Blk.new w #[.int .i64 a, .int .i64 b] 23)
  by_cases hb : 60 < ps.length
  · have hb' : (60 : Int) < (ps.length : Int) := by omega
    generalize ps.length = n at *
    clear hr hf
    go_enter Try.func3, Try.ntmps3
    go_wp2_with fail
    refine (HL.out _).mono ?_
    rintro y w1 ⟨rfl, hb1⟩
    have HB1 := Lib.hid (HB0.out.trans (hb1.mono HB0.out.size))
    go_wp2_with fail
    go_ret
    exact ⟨rfl, HB1.out⟩
  · have hb' : ¬ (60 : Int) < (ps.length : Int) := by omega
    have HP := Lib.hid (fun (W : World) (h : Below w.heap.size w W) => play_any W _ ps (hr.kept h) (by omega) hf)
    unfold vecV at HP
    generalize hn : ps.length = n at *
    clear hr hf hn hb
    have HML := Lib.hid (playM_len ps)
    go_enter Try.func3, Try.ntmps3
    go_wp2_with fail
    refine (HL.out _).mono ?_
    rintro y w1 ⟨rfl, hb1⟩
    have HB1 := Lib.hid (HB0.out.trans (hb1.mono HB0.out.size))
    have HA1 := Lib.hid (HA0.out.below hb1 HA0.out.lt)
    clear hb1
    go_wp2_with fail
    refine (HP.out _ HB1.out).mono ?_
    rintro y w2 ⟨v2, rfl, hr2, hb2⟩
    obtain ⟨p2, c2, hv2⟩ := hr2.shape
    generalize hn2 : (posOf (playM ps)).length = n2 at hv2
    clear hn2
    subst hv2
    have HPW2 := Lib.hid (playw w w2 (.slice p2 n2 c2) (playM ps) (playM_len _) (HB1.out.trans (hb2.mono HB1.out.size)) hr2)
    have HTH2 := Lib.hid (zeros_there w2 (.slice p2 n2 c2) (playM ps) (playM_len _))
    have HIN2 := Lib.hid (mInfo (mCells (playM ps)) (by rw [mCells_size]; exact playM_len _))
    have HBK2 := Lib.hid hb2
    clear hr2 hb2
    go_wp2_with (with_reducible refine stop_store 30 (.tmp 6) (.tmp 18) rfl ?_)
    refine wpList_store_mid rfl 30 (.tmp 6) (.tmp 18) rfl (w2.heap.size + 1) 0 (mCells (playM ps)) rfl rfl HTH2.out HIN2.out (mCells_one (playM ps)) ?_
    obtain ⟨hbv2, hbm2, hbw2, hrow2, hbb2⟩ := HPW2.out
    clear HPW2 HTH2 HIN2
    generalize World.setCells _ (w2.heap.size + 1) 0 (mCells (playM ps)).toList = X2 at *
    have HV2 := Lib.hid hbv2
    have HM2 := Lib.hid hbm2
    have HW2 := Lib.hid hbw2
    have HR2 := Lib.hid hrow2
    have HBB2 := Lib.hid hbb2
    have cv2 : X2.cell? ⟨w2.heap.size, 0, none⟩ = some (.slice p2 n2 c2) := hbv2.cell 0
    have lv2 := hbv2.lt
    have lm2 := hbm2.lt
    clear hbv2 hbm2 hbw2 hrow2 hbb2
    have HAX : Hid (Blk X2 w.heap.size #[.int .i64 a, .int .i64 b] 23) := (HA1.out.below HBK2.out HA1.out.lt).below HBB2.out (Nat.lt_of_lt_of_le HA1.out.lt HBK2.out.size)
    have a0 : X2.cell? ⟨w.heap.size, 0, none⟩ = some (.int .i64 a) := HAX.out.cell 0
    have a1 : X2.cell? ⟨w.heap.size, 1, none⟩ = some (.int .i64 b) := HAX.out.cell 1
    have la := HAX.out.lt
    clear hb' HP HL
    by_cases h1 : 0 ≤ a
    rotate_left
    · have hout : OutEC a b := .inl (by omega)
      have g1 : a < 0 := by omega
      have HOF := Lib.hid (of_out X2 (.slice p2 n2 c2) (playM ps) a b HR2.out hout)
      unfold vecV at HOF
      go_wp2_with fail
      refine HOF.out.mono ?_
      rintro y w4 ⟨rfl, hb4⟩
      have HB4 := Lib.hid (HW2.out.trans (hb4.mono HW2.out.size))
      clear hb4
      go_wp2_with fail
      go_ret
      exact ⟨rfl, HB4.out⟩
    by_cases h2 : a < 8
    rotate_left
    · have hout : OutEC a b := .inr (.inl (by omega))
      have g1 : 8 ≤ a := by omega
      have HOF := Lib.hid (of_out X2 (.slice p2 n2 c2) (playM ps) a b HR2.out hout)
      unfold vecV at HOF
      go_wp2_with fail
      refine HOF.out.mono ?_
      rintro y w4 ⟨rfl, hb4⟩
      have HB4 := Lib.hid (HW2.out.trans (hb4.mono HW2.out.size))
      clear hb4
      go_wp2_with fail
      go_ret
      exact ⟨rfl, HB4.out⟩
    by_cases h3 : 0 ≤ b
    rotate_left
    · have hout : OutEC a b := .inr (.inr (.inl (by omega)))
      have g1 : b < 0 := by omega
      have HOF := Lib.hid (of_out X2 (.slice p2 n2 c2) (playM ps) a b HR2.out hout)
      unfold vecV at HOF
      go_wp2_with fail
      refine HOF.out.mono ?_
      rintro y w4 ⟨rfl, hb4⟩
      have HB4 := Lib.hid (HW2.out.trans (hb4.mono HW2.out.size))
      clear hb4
      go_wp2_with fail
      go_ret
      exact ⟨rfl, HB4.out⟩
    by_cases h4 : b < 8
    rotate_left
    · have hout : OutEC a b := .inr (.inr (.inr (by omega)))
      have g1 : 8 ≤ b := by omega
      have HOF := Lib.hid (of_out X2 (.slice p2 n2 c2) (playM ps) a b HR2.out hout)
      unfold vecV at HOF
      go_wp2_with fail
      refine HOF.out.mono ?_
      rintro y w4 ⟨rfl, hb4⟩
      have HB4 := Lib.hid (HW2.out.trans (hb4.mono HW2.out.size))
      clear hb4
      go_wp2_with fail
      go_ret
      exact ⟨rfl, HB4.out⟩
    obtain ⟨E, rfl⟩ := Int.eq_ofNat_of_zero_le h1
    obtain ⟨C, rfl⟩ := Int.eq_ofNat_of_zero_le h3
    have HOF := Lib.hid (fun (W : World) (h : Below X2.heap.size X2 W) => of_in W (.slice p2 n2 c2) (playM ps) E C (HR2.out.kept h) (by omega) (by omega))
    have hm : X2.cell? ⟨w2.heap.size + 1, E * 8 + C, none⟩ = some (.int .i64 (atM (playM ps) (E * 8 + C))) := (HM2.out.cell _).trans (mCells_get _ _ (by rw [HML.out]; omega))
    unfold vecV at HOF
    generalize atM (playM ps) (E * 8 + C) = x at *
    have hE8 : (E : Int) < 8 := h2
    have hC8 : (C : Int) < 8 := h4
    have hS : X2.drew.cell? ⟨w.heap.size, 0, none⟩ = some (.int .i64 E) ∧ X2.drew.cell? ⟨w.heap.size, 1, none⟩ = some (.int .i64 C) ∧ X2.drew.cell? ⟨w2.heap.size + 1, E * 8 + C, none⟩ = some (.int .i64 x) := ⟨a0, a1, hm⟩
    have HSS := Lib.hid hS
    clear hS
    go_wp2_with fail
    refine wp_region_held_drew (S := fun w' => w'.cell? ⟨w.heap.size, 0, none⟩ = some (.int .i64 E) ∧ w'.cell? ⟨w.heap.size, 1, none⟩ = some (.int .i64 C) ∧ w'.cell? ⟨w2.heap.size + 1, E * 8 + C, none⟩ = some (.int .i64 x)) (by kernel_rfl) HSS.out (fun hS0 => ?_)
    refine wpAnyH_take (i := 0) (v := ?_) rfl (by kernel_rfl) (by kernel_rfl) (by kernel_rfl) (fun _ _ _ h => h) (Or.inl ⟨by kernel_rfl, ?_⟩) (by first | assumption | trivial) ?_
    rotate_left
    · intro w hSw
      try dsimp only at hSw
      first | (go_simp; done) | (go_simp; with_reducible rfl)
    try simp only [Act.put, List.getElem_toArray, List.getElem_cons_succ, List.getElem_cons_zero, List.setIfInBounds_toArray, List.set_cons_zero, List.set_cons_succ]
    refine wpAnyH_take (i := 1) (v := ?_) rfl (by kernel_rfl) (by kernel_rfl) (by kernel_rfl) (fun _ _ _ h => h) (Or.inl ⟨by kernel_rfl, ?_⟩) (by first | assumption | trivial) ?_
    rotate_left
    · intro w hSw
      try dsimp only at hSw
      first | (go_simp; done) | (go_simp; with_reducible rfl)
    try simp only [Act.put, List.getElem_toArray, List.getElem_cons_succ, List.getElem_cons_zero, List.setIfInBounds_toArray, List.set_cons_zero, List.set_cons_succ]
    refine wpAnyH_take (i := 2) (v := ?_) rfl (by kernel_rfl) (by kernel_rfl) (by kernel_rfl) (fun _ _ _ h => h) (Or.inl ⟨by kernel_rfl, ?_⟩) (by first | assumption | trivial) ?_
    rotate_left
    · intro w hSw
      try dsimp only at hSw
      first | (go_simp; done) | (go_simp; with_reducible rfl)
    try simp only [Act.put, List.getElem_toArray, List.getElem_cons_succ, List.getElem_cons_zero, List.setIfInBounds_toArray, List.set_cons_zero, List.set_cons_succ]
    refine wpAnyH_take (i := 3) (v := ?_) rfl (by kernel_rfl) (by kernel_rfl) (by kernel_rfl) (fun _ _ _ h => h) (Or.inl ⟨by kernel_rfl, ?_⟩) (by first | assumption | trivial) ?_
    rotate_left
    · intro w hSw
      try dsimp only at hSw
      first | (go_simp; done) | (go_simp; with_reducible rfl)
    try simp only [Act.put, List.getElem_toArray, List.getElem_cons_succ, List.getElem_cons_zero, List.setIfInBounds_toArray, List.set_cons_zero, List.set_cons_succ]
    refine wpAnyH_take (i := 4) (v := ?_) rfl (by kernel_rfl) (by kernel_rfl) (by kernel_rfl) (fun _ _ _ h => h) (Or.inl ⟨by kernel_rfl, ?_⟩) (by first | assumption | trivial) ?_
    rotate_left
    · intro w hSw
      try dsimp only at hSw
      first | (go_simp; done) | (go_simp; with_reducible rfl)
    try simp only [Act.put, List.getElem_toArray, List.getElem_cons_succ, List.getElem_cons_zero, List.setIfInBounds_toArray, List.set_cons_zero, List.set_cons_succ]
    refine wpAnyH_take (i := 5) (v := ?_) rfl (by kernel_rfl) (by kernel_rfl) (by kernel_rfl) (fun _ _ _ h => h) (Or.inl ⟨by kernel_rfl, ?_⟩) (by first | assumption | trivial) ?_
    rotate_left
    · intro w hSw
      try dsimp only at hSw
      first | (go_simp; done) | (go_simp; with_reducible rfl)
    try simp only [Act.put, List.getElem_toArray, List.getElem_cons_succ, List.getElem_cons_zero, List.setIfInBounds_toArray, List.set_cons_zero, List.set_cons_succ]
    refine wpAnyH_take (i := 6) (v := ?_) rfl (by kernel_rfl) (by kernel_rfl) (by kernel_rfl) (fun _ _ _ h => h) (Or.inl ⟨by kernel_rfl, ?_⟩) (by first | assumption | trivial) ?_
    rotate_left
    · intro w hSw
      try dsimp only at hSw
      first | (go_simp; done) | (go_simp; with_reducible rfl)
    try simp only [Act.put, List.getElem_toArray, List.getElem_cons_succ, List.getElem_cons_zero, List.setIfInBounds_toArray, List.set_cons_zero, List.set_cons_succ]
    refine wpAnyH_take (i := 7) (v := ?_) rfl (by kernel_rfl) (by kernel_rfl) (by kernel_rfl) (fun _ _ _ h => h) (Or.inl ⟨by kernel_rfl, ?_⟩) (by first | assumption | trivial) ?_
    rotate_left
    · intro w hSw
      try dsimp only at hSw
      first | (go_simp; done) | (go_simp; with_reducible rfl)
    try simp only [Act.put, List.getElem_toArray, List.getElem_cons_succ, List.getElem_cons_zero, List.setIfInBounds_toArray, List.set_cons_zero, List.set_cons_succ]
    refine wpAnyH_done (by kernel_rfl) ?_ _
    have a0 : X2.drew.cell? ⟨w.heap.size, 0, none⟩ = some (.int .i64 E) := HSS.out.1
    have a1 : X2.drew.cell? ⟨w.heap.size, 1, none⟩ = some (.int .i64 C) := HSS.out.2.1
    have cv2 : X2.drew.cell? ⟨w2.heap.size, 0, none⟩ = some (.slice p2 n2 c2) := HV2.out.drew.cell 0
    go_wp2_with fail
    refine (HOF.out _ (Below.refl _ _).drew).mono ?_
    rintro y w4 ⟨rfl, hb4⟩
    have HB4 := Lib.hid (HW2.out.drew.trans (hb4.mono HW2.out.size))
    clear hb4
    go_wp2_with fail
    go_ret
    exact ⟨rfl, HB4.out⟩
end Go.Proofs.Ytaooiejgigicoaa
