/- DiskSure: the walk. -/
import Derived.Test.YtgkikjjgbceopaaDiskKeeps
import Derived.Test.YtgkikjjgbceopaaDiskDo
import Derived.Test.YtgkikjjgbceopaaDiskRead
namespace Go.Proofs.Ytgkikjjgbceopaa
open Go.RowKit
/-- What was sure stands at the beginning. -/
def Starts (A : List Int) (d : DSt) : Prop := d.Ok ∧ d.Fits ∧ d.nw = false ∧ ∃ X, d.S = A ++ X
theorem starts_settle {A : List Int} {d : DSt} (h : d.nw = false) (hX : ∃ X, d.S = A ++ X) : ∃ X, d.settleD.S = A ++ X := by
  obtain ⟨X, hX⟩ := hX
  refine ⟨X ++ d.R, ?_⟩
  show d.all = _
  unfold DSt.all DSt.ahead
  rw [h, hX, if_neg (by decide), List.append_assoc]
theorem starts_give {d : DSt} (h : d.nw = false) : d.giveD = d := by unfold DSt.giveD; rw [h, if_neg (by decide)]
theorem starts_op {A : List Int} {d : DSt} (h : Starts A d) {kd nn tt : Int} {D : List Int} (bn : -9223372036854775808 ≤ nn ∧ nn ≤ 9223372036854775807) (bt : 0 ≤ tt ∧ tt < 256) (oD : Oct D) (h1 : kd ≠ 1) : Starts A (opD d kd nn D tt) := by
  obtain ⟨g1, g2, g3, g4⟩ := h
  obtain ⟨k1, k2⟩ := opD_ok g1 g2 (kd := kd) (D := D) bn bt oD
  refine ⟨k1, k2, ?_⟩
  by_cases k0 : kd = 0
  · subst k0
    show (d.writeD D).nw = false ∧ ∃ X, (d.writeD D).S = A ++ X
    unfold DSt.writeD; split <;> exact ⟨g3, g4⟩
  by_cases k2 : kd = 2
  · subst k2
    show d.syncD.nw = false ∧ ∃ X, d.syncD.S = A ++ X
    unfold DSt.syncD; split
    · exact ⟨g3, g4⟩
    · exact ⟨rfl, starts_settle g3 g4⟩
  by_cases k3 : kd = 3
  · subst k3; exact ⟨g3, g4⟩
  by_cases k4 : kd = 4
  · subst k4
    show (d.crashD nn tt).nw = false ∧ ∃ X, (d.crashD nn tt).S = A ++ X
    unfold DSt.crashD; rw [starts_give g3]; exact ⟨g3, g4⟩
  by_cases k5 : kd = 5
  · subst k5
    show d.upD.nw = false ∧ ∃ X, d.upD.S = A ++ X
    unfold DSt.upD; split
    · rw [starts_give g3]; exact ⟨rfl, starts_settle (d := { d with dn := false }) g3 g4⟩
    · exact ⟨g3, g4⟩
  have e : opD d kd nn D tt = d := by unfold opD; simp [k0, h1, k2, k3, k4, k5]
  rw [e]; exact ⟨g3, g4⟩
theorem settle_read {d : DSt} (h : d.dn = false) : d.settleD.readE = 0 ∧ d.settleD.readD = d.settleD.S := by
  have e : d.settleD.dn = false := h
  unfold DSt.readE DSt.readD
  rw [e]
  refine ⟨rfl, ?_⟩
  rw [if_neg (by decide)]
  unfold DSt.all DSt.ahead
  show (if false = true then [] else d.settleD.S) ++ [] = _
  rw [if_neg (by decide), List.append_nil]
theorem starts_end {A : List Int} {d : DSt} (h : Starts A d) : d.upD.readE = 0 ∧ ∃ X, d.upD.readD = A ++ X := by
  obtain ⟨_, _, g3, g4⟩ := h
  unfold DSt.upD
  by_cases hd : d.dn = true
  · rw [if_pos hd, starts_give g3]
    have h := settle_read (d := { d with dn := false }) rfl
    exact ⟨h.1, by rw [h.2]; exact starts_settle (d := { d with dn := false }) g3 g4⟩
  · rw [if_neg hd]
    unfold DSt.readE DSt.readD
    rw [if_neg hd, if_neg hd]
    exact ⟨rfl, starts_settle g3 g4⟩
def s1D (A : List Int) : DSt := ⟨1048576, [], A, false, false, -1⟩
def s2D (A : List Int) : DSt := ⟨1048576, A, [], false, false, -1⟩
theorem sure_write {d : DSt} {zs : List Int} (h1 : d.dn = false) (h2 : d.left < 0) (h3 : (zs.length : Int) ≤ d.free) : d.writeD zs = { d with R := d.R ++ zs } ∧ d.writeE zs.length = 0 := by
  have he : spendE d.left zs.length = false := by unfold spendE; rw [decide_eq_false_iff_not]; omega
  have hn : spendN d.left zs.length = zs.length := by unfold spendN; rw [he]; rfl
  have hl : spendL d.left zs.length = d.left := by unfold spendL; rw [if_pos h2]
  constructor
  · unfold DSt.writeD
    rw [if_neg (by rw [h1]; intro h; rcases h with h | h; cases h; omega), he, hn, hl, List.take_length, ← h1]
  · unfold DSt.writeE
    rw [h1, if_neg (by decide), if_neg (by omega), he]; rfl
theorem sure_one {A : List Int} (h : A.length ≤ 1000) : (newD 1048576).writeD A = s1D A ∧ (newD 1048576).writeE A.length = 0 :=
  ⟨(sure_write (d := newD 1048576) (zs := A) rfl (by decide) (by show (A.length : Int) ≤ (1048576 : Int) - 0 - 0; omega)).1.trans rfl, (sure_write (d := newD 1048576) (zs := A) rfl (by decide) (by show (A.length : Int) ≤ (1048576 : Int) - 0 - 0; omega)).2⟩
theorem sure_two (A : List Int) : (s1D A).syncD = s2D A ∧ (s1D A).syncE = 0 := ⟨rfl, rfl⟩
theorem sure_starts {A : List Int} (ho : Oct A) (h : A.length ≤ 1000) : Starts A (s2D A) := by
  have hok : (s2D A).Ok := by
    refine ⟨by show 1048576 ≤ 4194304; decide, ho, (fun a ha => by cases ha), by show A.length ≤ _; omega, by show ([] : List Int).length ≤ _; simp, by show A.length + ([] : List Int).length ≤ _; simp; omega, by show (-9223372036854775808 : Int) ≤ -1; decide, by show (-1 : Int) ≤ _; decide, ?_⟩
    show 0 ≤ (1048576 : Int) - (A.length : Int) - (([] : List Int).length : Int)
    simp; omega
  exact ⟨hok, by show A.length ≤ 1048576; omega, rfl, [], (List.append_nil A).symm⟩
def zD : DSt := ⟨0, [], [], false, false, 0⟩
theorem z_ok : zD.Ok := by
  refine ⟨?_, ?_, ?_, ?_, ?_, ?_, ?_, ?_, ?_⟩ <;> simp [zD, Oct, DSt.free, DSt.ahead]
set_option linter.unusedSimpArgs false in
set_option maxHeartbeats 8000000 in
set_option maxRecDepth 100000 in
theorem dsure_walk (va vo : Value) (A : List Int) (n : Nat) (f : Nat → OpV) (W : World) (oa : Oct A) (ra : Row .u8 W va A) (_ : A.length ≤ 140737488355328) (ro : OpRow W vo n f) :
    Calls Try.prog 9 #[va, vo] W fun e W' => e = .returned (.bool true) ∧ Below W.heap.size W W' := by
  obtain ⟨pa, ca, rfl⟩ := ra.shape
  obtain ⟨po, co, rfl⟩ := ro.shape
  have RA := Lib.hid ra
  have RO := Lib.hid ro
  have OA := Lib.hid oa
  clear ra ro oa
  by_cases h1 : (A.length : Int) ≤ 1000 ∧ (n : Int) ≤ 40
  · obtain ⟨g1, g2⟩ := h1
    have T1 := Lib.hid (sure_one (A := A) (by omega))
    have T2 := Lib.hid (sure_two A)
    have T3 := Lib.hid (sure_starts OA.out (by omega))
    generalize hla : A.length = na at *
    have HLA := Lib.hid hla
    clear hla
    go_enter Try.func9, Try.ntmps9
    go_wp2_with fail
    refine (keeps_any W).mono ?_
    rintro y w0 ⟨rfl, hb0⟩
    have B0 := Lib.hid hb0
    have HAg := Lib.hid hb0.size
    clear hb0
    go_wp2_with fail
    refine (new_any 1048576 w0).mono ?_
    rintro y w1 ⟨hb1, _, hk1⟩
    obtain ⟨rfl, hd1⟩ := hk1 (by decide)
    have D1 : Hid (Dk w1 w0.heap.size w0.heap.size (newD 1048576)) := hd1
    have B1 := Lib.hid (B0.out.trans (hb1.mono HAg.out))
    clear hb1 hk1 hd1
    generalize w0.heap.size = g at *
    have FA := Lib.hid (row_far RA.out B1.out HAg.out)
    go_wp2_with fail
    refine (write_any w1 g g (newD 1048576) _ A D1.out OA.out FA.out).mono ?_
    rintro y w2 ⟨rfl, hd2, hb2⟩
    rw [HLA.out, T1.out.2]
    rw [T1.out.1] at hd2
    have D2 := Lib.hid hd2
    have B2 := Lib.hid (B1.out.trans (hb2.mono HAg.out))
    clear hd2 hb2
    go_wp2_with fail
    refine (sync_any w2 g g (s1D A) D2.out).mono ?_
    rintro y w3 ⟨rfl, hd3, hb3⟩
    rw [T2.out.2]
    rw [T2.out.1] at hd3
    have HR0 : Hid (∃ d, Starts A d ∧ Dk w3 g g d ∧ Below W.heap.size W w3) := ⟨s2D A, T3.out, hd3, B2.out.trans (hb3.mono HAg.out)⟩
    clear hd3 hb3
    go_wp2_with fail
    go_loopw [36] (fun i wr => ∃ k : Nat, k ≤ n ∧ i = .int .i64 k ∧ Hid (∃ d, Starts A d ∧ Dk wr g g d ∧ Below W.heap.size W wr)) (fun i _ => n - (intOf i).toNat)
    case atStart => exact ⟨0, by omega, rfl, HR0⟩
    case round =>
      obtain ⟨k, hk, rfl, HK⟩ := hrel
      obtain ⟨d, hst, hdk, hbw⟩ := HK.out
      have HST := Lib.hid hst
      have HDK := Lib.hid hdk
      have HB := Lib.hid hbw
      clear HK hst hdk hbw
      by_cases hlt : k < n
      · obtain ⟨b, o, q, e, rfl, hbl, hfit, d0, d1, d2, d3, d4⟩ := RO.out.at_ k hlt
        have c0 := (HB.out.cell (p := ⟨b, o + k * 4, none⟩) hbl).trans d0
        have c1 := (HB.out.cell (p := ⟨b, o + k * 4 + 1, none⟩) hbl).trans d1
        have c2 := (HB.out.cell (p := ⟨b, o + k * 4 + 2, none⟩) hbl).trans d2
        have c3 := (HB.out.cell (p := ⟨b, o + k * 4 + 3, none⟩) hbl).trans d4
        have HDT := Lib.hid d3
        have HFIT := Lib.hid hfit
        unfold OpV.Fit at HFIT
        generalize (f k).kind = kd at *
        generalize (f k).n = nn at *
        generalize (f k).data = D at *
        generalize (f k).turn = tt at *
        clear d0 d1 d2 d3 d4 hfit hbl
        by_cases hDl : D.length ≤ 1000
        · have hDl2 : (D.length : Int) ≤ 1000 := by omega
          by_cases hk1 : kd = 1
          · subst hk1
            have HN : Hid (∃ d, Starts A d ∧ Dk (wr.alloc (.cells #[.int .i64 1, .int .i64 nn, .slice q D.length e, .int .u8 tt] 61)) g g d ∧ Below W.heap.size W (wr.alloc (.cells #[.int .i64 1, .int .i64 nn, .slice q D.length e, .int .u8 tt] 61))) :=
              ⟨d, HST.out, HDK.out.later (oneB wr _), HB.out.alloc HB.out.size _⟩
            go_wp2_with fail
            go_roundw
            case rel => exact ⟨k + 1, by omega, by go_num, HN⟩
            case measure => simp [intOf]; omega
          · have j1 : (kd == 1) = false := by simpa using hk1
            have HBA := Lib.hid (fun (x : Obj) => HB.out.alloc HB.out.size x)
            have HDO := Lib.hid (fun (x : Obj) => do_any none_ W (wr.alloc x) g g d zD kd nn tt D q e ((HDK.out.later (oneB wr x)).dkp) HST.out.2.1 z_ok HFIT.out.2.1 HFIT.out.2.2.2 HFIT.out.2.2.1 hDl HDT.out (HBA.out x) HAg.out)
            have HNX := Lib.hid (starts_op (D := D) HST.out HFIT.out.2.1 HFIT.out.2.2.2 HFIT.out.2.2.1 hk1)
            clear hk1
            unfold refV cellsR zD DoPost at HDO
            go_wp2_with fail
            refine (HDO.out _).mono ?_
            rintro y w4 ⟨rfl, hd4, hb4⟩
            have HN : Hid (∃ d, Starts A d ∧ Dk w4 g g d ∧ Below W.heap.size W w4) := ⟨_, HNX.out, hd4.dk, (HBA.out _).trans (hb4.1.mono HAg.out)⟩
            clear hd4 hb4
            go_wp2_with fail
            go_roundw
            case rel => exact ⟨k + 1, by omega, by go_num, HN⟩
            case measure => simp [intOf]; omega
        · have hDl2 : (1000 : Int) < D.length := by omega
          have HBA := Lib.hid (fun (x : Obj) => HB.out.alloc HB.out.size x)
          go_wp2_with fail
          go_ret
          exact ⟨rfl, HBA.out _⟩
      · have hkn : (n : Int) ≤ (k : Int) := by omega
        obtain ⟨e1, X, e2⟩ := starts_end HST.out
        have HUF := Lib.hid HST.out.2.1
        go_wp2_with fail
        refine (up_any wr g g d HDK.out HUF.out).mono ?_
        rintro y w5 ⟨rfl, hd5, hb5⟩
        have D5 := Lib.hid hd5
        have B5 := Lib.hid (HB.out.trans (hb5.mono HAg.out))
        clear hd5 hb5
        go_wp2_with fail
        refine (dread_any w5 g g d.upD D5.out).mono ?_
        rintro y w6 ⟨v6, rfl, ho6, hd6, hb6⟩
        rw [e1]
        rw [e2] at ho6
        obtain ⟨p6, c6, rfl⟩ := ho6.form
        have B6 := Lib.hid (B5.out.trans (hb6.mono B5.out.size))
        have hle : (na : Int) ≤ ((A ++ X).length : Int) := by rw [List.length_append, HLA.out]; omega
        have hc6 : ((A ++ X).length : Int) ≤ (c6 : Int) := by obtain ⟨_, _, e, h2, _⟩ := ho6.row; cases e; omega
        have r6 := ho6.row
        have rt : Row .u8 w6 (.slice p6 na c6) A := by
          have h := (ho6.trunc na (by rw [List.length_append, HLA.out]; omega)).row
          rw [show na = A.length from HLA.out.symm] at h ⊢
          rw [List.take_left] at h
          exact h
        have k7 := conv_row (P := Try.prog) w6.drew 59 9 5 Try.underlying59 Try.underlying5 Try.underlying9 _ _ (show Row .u8 w6.drew _ _ from rt)
        have kA := conv_row (P := Try.prog) w6.drew 59 9 5 Try.underlying59 Try.underlying5 Try.underlying9 _ _ (show Row .u8 w6.drew _ _ from RA.out.under B6.out.drew (Nat.le_refl _))
        clear ho6 hd6 hb6 r6 rt e1 e2
        generalize (A ++ X).length = nx at *
        have hcn : na ≤ c6 := by omega
        go_wp2_with fail
        refine wp_region_held_drew (S := fun w' => w' = w6.drew) (by kernel_rfl) rfl (fun hS0 => ?_)
        refine wpAnyH_take (i := 0) (v := ?_) rfl (by kernel_rfl) (by kernel_rfl) (by kernel_rfl) (fun _ _ _ h => h) (Or.inl ⟨by kernel_rfl, ?_⟩) (by first | assumption | trivial) ?_
        rotate_left
        · intro w hSw
          try dsimp only at hSw
          subst hSw
          first | (go_simp; done) | (go_simp; with_reducible rfl)
        try simp only [Act.put, List.getElem_toArray, List.getElem_cons_succ, List.getElem_cons_zero, List.setIfInBounds_toArray, List.set_cons_zero, List.set_cons_succ]
        refine wpAnyH_take (i := 1) (v := ?_) rfl (by kernel_rfl) (by kernel_rfl) (by kernel_rfl) (fun _ _ _ h => h) (Or.inl ⟨by kernel_rfl, ?_⟩) (by first | assumption | trivial) ?_
        rotate_left
        · intro w hSw
          try dsimp only at hSw
          subst hSw
          first | (go_simp; done) | (go_simp; with_reducible rfl)
        try simp only [Act.put, List.getElem_toArray, List.getElem_cons_succ, List.getElem_cons_zero, List.setIfInBounds_toArray, List.set_cons_zero, List.set_cons_succ]
        refine wpAnyH_take (i := 2) (v := ?_) rfl (by kernel_rfl) (by kernel_rfl) (by kernel_rfl) (fun _ _ _ h => h) (Or.inl ⟨by kernel_rfl, ?_⟩) (by first | assumption | trivial) ?_
        rotate_left
        · intro w hSw
          try dsimp only at hSw
          subst hSw
          first | (go_simp; done) | (go_simp; with_reducible rfl)
        try simp only [Act.put, List.getElem_toArray, List.getElem_cons_succ, List.getElem_cons_zero, List.setIfInBounds_toArray, List.set_cons_zero, List.set_cons_succ]
        refine wpAnyH_take (i := 3) (v := ?_) rfl (by kernel_rfl) (by kernel_rfl) (by kernel_rfl) (fun _ _ _ h => h) (Or.inl ⟨by kernel_rfl, ?_⟩) (by first | assumption | trivial) ?_
        rotate_left
        · intro w hSw
          try dsimp only at hSw
          subst hSw
          first | (go_simp; done) | (go_simp; with_reducible rfl)
        try simp only [Act.put, List.getElem_toArray, List.getElem_cons_succ, List.getElem_cons_zero, List.setIfInBounds_toArray, List.set_cons_zero, List.set_cons_succ]
        refine wpAnyH_take (i := 4) (v := ?_) rfl (by kernel_rfl) (by kernel_rfl) (by kernel_rfl) (fun _ _ _ h => h) (Or.inl ⟨by kernel_rfl, ?_⟩) (by first | assumption | trivial) ?_
        rotate_left
        · intro w hSw
          try dsimp only at hSw
          subst hSw
          first | (go_simp; done) | (go_simp; with_reducible rfl)
        try simp only [Act.put, List.getElem_toArray, List.getElem_cons_succ, List.getElem_cons_zero, List.setIfInBounds_toArray, List.set_cons_zero, List.set_cons_succ]
        refine wpAnyH_take (i := 5) (v := ?_) rfl (by kernel_rfl) (by kernel_rfl) (by kernel_rfl) (fun _ _ _ h => h) (Or.inl ⟨by kernel_rfl, ?_⟩) (by first | assumption | trivial) ?_
        rotate_left
        · intro w hSw
          try dsimp only at hSw
          subst hSw
          first | (go_simp; done) | (go_simp; with_reducible rfl)
        try simp only [Act.put, List.getElem_toArray, List.getElem_cons_succ, List.getElem_cons_zero, List.setIfInBounds_toArray, List.set_cons_zero, List.set_cons_succ]
        refine wpAnyH_take (i := 6) (v := ?_) rfl (by kernel_rfl) (by kernel_rfl) (by kernel_rfl) (fun _ _ _ h => h) (Or.inl ⟨by kernel_rfl, ?_⟩) (by first | assumption | trivial) ?_
        rotate_left
        · intro w hSw
          try dsimp only at hSw
          subst hSw
          first | (go_simp; done) | (go_simp; with_reducible rfl)
        try simp only [Act.put, List.getElem_toArray, List.getElem_cons_succ, List.getElem_cons_zero, List.setIfInBounds_toArray, List.set_cons_zero, List.set_cons_succ]
        refine wpAnyH_take (i := 7) (v := ?_) rfl (by kernel_rfl) (by kernel_rfl) (by kernel_rfl) (fun _ _ _ h => h) (Or.inl ⟨by kernel_rfl, ?_⟩) (by first | assumption | trivial) ?_
        rotate_left
        · intro w hSw
          try dsimp only at hSw
          subst hSw
          first | (go_simp; done) | (go_simp; with_reducible rfl)
        try simp only [Act.put, List.getElem_toArray, List.getElem_cons_succ, List.getElem_cons_zero, List.setIfInBounds_toArray, List.set_cons_zero, List.set_cons_succ]
        refine wpAnyH_take (i := 8) (v := ?_) rfl (by kernel_rfl) (by kernel_rfl) (by kernel_rfl) (fun _ _ _ h => h) (Or.inl ⟨by kernel_rfl, ?_⟩) (by first | assumption | trivial) ?_
        rotate_left
        · intro w hSw
          try dsimp only at hSw
          subst hSw
          first | (go_simp; done) | (go_simp; with_reducible rfl)
        try simp only [Act.put, List.getElem_toArray, List.getElem_cons_succ, List.getElem_cons_zero, List.setIfInBounds_toArray, List.set_cons_zero, List.set_cons_succ]
        refine wpAnyH_take (i := 9) (v := ?_) rfl (by kernel_rfl) (by kernel_rfl) (by kernel_rfl) (fun _ _ _ h => h) (Or.inl ⟨by kernel_rfl, ?_⟩) (by first | assumption | trivial) ?_
        rotate_left
        · intro w hSw
          try dsimp only at hSw
          subst hSw
          first | (go_simp; done) | (go_simp; with_reducible rfl)
        try simp only [Act.put, List.getElem_toArray, List.getElem_cons_succ, List.getElem_cons_zero, List.setIfInBounds_toArray, List.set_cons_zero, List.set_cons_succ]
        refine wpAnyH_take (i := 10) (v := ?_) rfl (by kernel_rfl) (by kernel_rfl) (by kernel_rfl) (fun _ _ _ h => h) (Or.inl ⟨by kernel_rfl, ?_⟩) (by first | assumption | trivial) ?_
        rotate_left
        · intro w hSw
          try dsimp only at hSw
          subst hSw
          first | (go_simp; done) | (go_simp; with_reducible rfl)
        try simp only [Act.put, List.getElem_toArray, List.getElem_cons_succ, List.getElem_cons_zero, List.setIfInBounds_toArray, List.set_cons_zero, List.set_cons_succ]
        refine wpAnyH_take (i := 11) (v := ?_) rfl (by kernel_rfl) (by kernel_rfl) (by kernel_rfl) (fun _ _ _ h => h) (Or.inl ⟨by kernel_rfl, ?_⟩) (by first | assumption | trivial) ?_
        rotate_left
        · intro w hSw
          try dsimp only at hSw
          subst hSw
          first | (go_simp; done) | (go_simp; with_reducible rfl)
        try simp only [Act.put, List.getElem_toArray, List.getElem_cons_succ, List.getElem_cons_zero, List.setIfInBounds_toArray, List.set_cons_zero, List.set_cons_succ]
        refine wpAnyH_take (i := 12) (v := ?_) rfl (by kernel_rfl) (by kernel_rfl) (by kernel_rfl) (fun _ _ _ h => h) (Or.inl ⟨by kernel_rfl, ?_⟩) (by first | assumption | trivial) ?_
        rotate_left
        · intro w hSw
          try dsimp only at hSw
          subst hSw
          first | (go_simp; done) | (go_simp; with_reducible rfl)
        try simp only [Act.put, List.getElem_toArray, List.getElem_cons_succ, List.getElem_cons_zero, List.setIfInBounds_toArray, List.set_cons_zero, List.set_cons_succ]
        refine wpAnyH_take (i := 13) (v := ?_) rfl (by kernel_rfl) (by kernel_rfl) (by kernel_rfl) (fun _ _ _ h => h) (Or.inl ⟨by kernel_rfl, ?_⟩) (by first | assumption | trivial) ?_
        rotate_left
        · intro w hSw
          try dsimp only at hSw
          subst hSw
          first | (go_simp; done) | (go_simp; with_reducible rfl)
        try simp only [Act.put, List.getElem_toArray, List.getElem_cons_succ, List.getElem_cons_zero, List.setIfInBounds_toArray, List.set_cons_zero, List.set_cons_succ]
        refine wpAnyH_take (i := 14) (v := ?_) rfl (by kernel_rfl) (by kernel_rfl) (by kernel_rfl) (fun _ _ _ h => h) (Or.inl ⟨by kernel_rfl, ?_⟩) (by first | assumption | trivial) ?_
        rotate_left
        · intro w hSw
          try dsimp only at hSw
          subst hSw
          first | (go_simp; done) | (go_simp; with_reducible rfl)
        try simp only [Act.put, List.getElem_toArray, List.getElem_cons_succ, List.getElem_cons_zero, List.setIfInBounds_toArray, List.set_cons_zero, List.set_cons_succ]
        refine wpAnyH_take (i := 15) (v := ?_) rfl (by kernel_rfl) (by kernel_rfl) (by kernel_rfl) (fun _ _ _ h => h) (Or.inl ⟨by kernel_rfl, ?_⟩) (by first | assumption | trivial) ?_
        rotate_left
        · intro w hSw
          try dsimp only at hSw
          subst hSw
          first | (go_simp; done) | (go_simp; with_reducible rfl)
        try simp only [Act.put, List.getElem_toArray, List.getElem_cons_succ, List.getElem_cons_zero, List.setIfInBounds_toArray, List.set_cons_zero, List.set_cons_succ]
        refine wpAnyH_take (i := 16) (v := ?_) rfl (by kernel_rfl) (by kernel_rfl) (by kernel_rfl) (fun _ _ _ h => h) (Or.inl ⟨by kernel_rfl, ?_⟩) (by first | assumption | trivial) ?_
        rotate_left
        · intro w hSw
          try dsimp only at hSw
          subst hSw
          first | (go_simp; done) | (go_simp; with_reducible rfl)
        try simp only [Act.put, List.getElem_toArray, List.getElem_cons_succ, List.getElem_cons_zero, List.setIfInBounds_toArray, List.set_cons_zero, List.set_cons_succ]
        refine wpAnyH_take (i := 17) (v := ?_) rfl (by kernel_rfl) (by kernel_rfl) (by kernel_rfl) (fun _ _ _ h => h) (Or.inl ⟨by kernel_rfl, ?_⟩) (by first | assumption | trivial) ?_
        rotate_left
        · intro w hSw
          try dsimp only at hSw
          subst hSw
          first | (go_simp; done) | (go_simp; with_reducible rfl)
        try simp only [Act.put, List.getElem_toArray, List.getElem_cons_succ, List.getElem_cons_zero, List.setIfInBounds_toArray, List.set_cons_zero, List.set_cons_succ]
        refine wpAnyH_take (i := 18) (v := ?_) rfl (by kernel_rfl) (by kernel_rfl) (by kernel_rfl) (fun _ _ _ h => h) (Or.inl ⟨by kernel_rfl, ?_⟩) (by first | assumption | trivial) ?_
        rotate_left
        · intro w hSw
          try dsimp only at hSw
          subst hSw
          first | (go_simp; done) | (go_simp; with_reducible rfl)
        try simp only [Act.put, List.getElem_toArray, List.getElem_cons_succ, List.getElem_cons_zero, List.setIfInBounds_toArray, List.set_cons_zero, List.set_cons_succ]
        refine wpAnyH_take (i := 19) (v := ?_) rfl (by kernel_rfl) (by kernel_rfl) (by kernel_rfl) (fun _ _ _ h => h) (Or.inl ⟨by kernel_rfl, ?_⟩) (by first | assumption | trivial) ?_
        rotate_left
        · intro w hSw
          try dsimp only at hSw
          subst hSw
          first | (go_simp; done) | (go_simp; with_reducible rfl)
        try simp only [Act.put, List.getElem_toArray, List.getElem_cons_succ, List.getElem_cons_zero, List.setIfInBounds_toArray, List.set_cons_zero, List.set_cons_succ]
        refine wpAnyH_done (by kernel_rfl) ?_ _
        go_wp2_with fail
        go_ret
        exact ⟨rfl, B6.out.drew⟩
  · have hg : (1000 : Int) < A.length ∨ (A.length : Int) ≤ 1000 ∧ (40 : Int) < n := by omega
    clear h1
    rcases hg with hg | ⟨hg, hg2⟩
    all_goals
      go_enter Try.func9, Try.ntmps9
      go_wp2_with fail
      refine (keeps_any W).mono ?_
      rintro y w0 ⟨rfl, hb0⟩
      go_wp2_with fail
      go_ret
      exact ⟨rfl, hb0⟩
end Go.Proofs.Ytgkikjjgbceopaa
