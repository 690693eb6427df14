/- contralaw06.do by contract: an operation on the disk and on the document's. -/
import Derived.Test.YtgkikjjgbceopaaDisk5
import Derived.Test.YtgkikjjgbceopaaRefDisk6
import Derived.Test.YtgkikjjgbceopaaOpRow
import Derived.Test.YtgkikjjgbceopaaDiskNrm
import Derived.Deep.RegionHeld3
namespace Go.Proofs.Ytgkikjjgbceopaa
open Go.RowKit
/-- What an operation does to a disk. -/
def opD (d : DSt) (kd nn : Int) (D : List Int) (tt : Int) : DSt :=
  if kd = 0 then d.writeD D else if kd = 1 then d.renewD D else if kd = 2 then d.syncD else if kd = 3 then d.fuseD nn else if kd = 4 then d.crashD nn tt else if kd = 5 then d.upD else d
/-- And to the document's: of lefts below 0 there is one. -/
def opM (d : DSt) (kd nn : Int) (D : List Int) (tt : Int) : DSt :=
  if kd = 0 then d.writeD D else if kd = 1 then d.renewD D else if kd = 2 then d.syncD else if kd = 3 then d.fuseD (nrm nn) else if kd = 4 then d.crashD nn tt else if kd = 5 then d.upD else d
def opE (d : DSt) (kd : Int) (n : Nat) : Int := if kd = 0 then d.writeE n else if kd = 1 then d.renewE n else if kd = 2 then d.syncE else 0
def DoPost (P : Nat → Prop) (base g : Nat) (d m : DSt) (kd nn : Int) (D : List Int) (tt : Int) (w : World) (x : Ending) (w' : World) : Prop :=
  x = .returned (.tuple #[refV (opM m kd nn D tt), .bool (decide (opE d kd D.length = opE m kd D.length))]) ∧ Dkp P w' base g (opD d kd nn D tt) ∧ BelowP P base w w'
theorem row_far2 {W w w' : World} {v : Value} {zs : List Int} {g : Nat} (h : Row .u8 W v zs) (hb : Below W.heap.size W w) (hb' : Below w.heap.size w w') (hg : W.heap.size ≤ g) : ∃ g0, g0 ≠ g ∧ RowAt .u8 w' g0 v zs :=
  row_far h (hb.trans (hb'.mono hb.size)) hg
theorem dec_beq (a b : Int) : (a == b) = decide (a = b) := by rw [Bool.eq_iff_iff]; simp
theorem far_end {P : Nat → Prop} {w w1 w5 w6 st : World} {base g a b : Nat} {d : DSt} (hb1 : Below w.heap.size w w1) (hb5 : BelowP (since P w w1) base w1 w5) (hba : base ≤ w.heap.size) (hd : Dkp (since P w w1) w5 base g d) (qa : since P w w1 a) (qb : since P w w1 b) (ha : w.heap.size ≤ a) (hb : w.heap.size ≤ b)
    (h1 : Chg a w5 w6) (h2 : Chg b w6 st) : Dkp P st base g d ∧ BelowP P base w st := by
  have e1 : BelowP P base w w5 := (BelowP.of hb1 hba).trans (hb5.weak fun b hb => .inl hb)
  have hs1 := e1.1.size
  have hs2 := h1.size
  refine ⟨((hd.chg qa h1).chg qb h2).weak fun b hb => .inl hb, e1.1.trans ((h1.below (by omega) (by omega)).trans (h2.below (by omega) (by omega))), fun x hx hl => ?_⟩
  exact (h2.2 x (by omega) (by omega)).trans ((h1.2 x (by omega) (by omega)).trans (e1.2 x hx hl))
set_option linter.unusedSimpArgs false in
set_option maxHeartbeats 4000000 in
set_option maxRecDepth 100000 in
theorem do_write (P : Nat → Prop) (W w : World) (base g : Nat) (d m : DSt) (nn tt : Int) (D : List Int) (q : Option Addr) (e : Nat) (h : Dkp P w base g d) (hm : m.Ok) (oD : Oct D) (hD : D.length ≤ 1000) (hrow : Row .u8 W (.slice q D.length e) D) (hbW : Below W.heap.size W w) (hWg : W.heap.size ≤ g) :
    Calls Try.prog 21 #[.pointer (some ⟨g, 0, none⟩), refV m, .agg #[.int .i64 0, .int .i64 nn, .slice q D.length e, .int .u8 tt]] w (DoPost P base g d m 0 nn D tt w) := by
  have hlt : g < w.heap.size := h.dk.lt
  have hba : base ≤ w.heap.size := by obtain ⟨_, _, _, _, _, _, _, _, hb, _⟩ := h; omega
  have HD := Lib.hid h
  have HM := Lib.hid hm
  have HROW := Lib.hid hrow
  have HBW := Lib.hid hbW
  have HOD := Lib.hid oD
  have eM : opM m 0 nn D tt = m.writeD D := rfl
  have eD : opD d 0 nn D tt = d.writeD D := rfl
  have eE : ∀ x : DSt, opE x 0 D.length = x.writeE D.length := fun _ => rfl
  unfold DoPost
  rw [eM, eD, eE, eE]
  clear eM eD eE h hm hrow hbW oD
  have KC := Lib.hid (fun (w' : World) (hb : Below w.heap.size w w') => conv_row (P := Try.prog) w' 59 9 5 Try.underlying59 Try.underlying5 Try.underlying9 _ _ (HROW.out.under (HBW.out.trans (hb.mono HBW.out.size)) (Nat.le_refl _)))
  have kc := KC.out (((w.alloc (.cells (cellsR m) 58)).alloc (.cells #[.int .i64 0, .int .i64 nn, .slice q D.length e, .int .u8 tt] 61)).alloc (.cells #[.int .i64 0, .string ⟨#[]⟩, .string ⟨#[]⟩, .bool false, .bool false, .int .i64 0] 58)) (((oneB w _).alloc (by simp) _).alloc (by simp; omega) _)
  unfold cellsR at kc
  have HRW := Lib.hid (fun (w' : World) => refwrite_any m D (by omega) HM.out w')
  generalize m.writeD D = M at *
  generalize heW : m.writeE D.length = eW at *
  clear heW
  unfold refV cellsR at HRW ⊢
  go_enter Try.func21, Try.ntmps21
  go_wp2_with fail
  refine (HRW.out _).mono ?_
  rintro y w3 ⟨rfl, hb3⟩
  have B3 := Lib.hid hb3
  clear hb3
  go_wp2_with fail
  generalize hW1 : (((w.alloc (.cells #[.int .i64 m.room, .string (strOfNums m.S), .string (strOfNums m.R), .bool m.nw, .bool m.dn, .int .i64 m.left] 58)).alloc (.cells #[.int .i64 0, .int .i64 nn, .slice q D.length e, .int .u8 tt] 61)).alloc (.cells #[.int .i64 0, .string ⟨#[]⟩, .string ⟨#[]⟩, .bool false, .bool false, .int .i64 0] 58)) = W1 at *
  have hB1 : Below w.heap.size w W1 := by rw [← hW1]; exact ((oneB w _).alloc (by simp) _).alloc (by simp; omega) _
  have hO1 : Blk W1 (w.heap.size + 1) #[.int .i64 0, .int .i64 nn, .slice q D.length e, .int .u8 tt] 61 := by rw [← hW1]; exact (Blk.new' _ _ _ (by simp)).alloc _
  have hR1 : Blk W1 (w.heap.size + 1 + 1) #[.int .i64 0, .string ⟨#[]⟩, .string ⟨#[]⟩, .bool false, .bool false, .int .i64 0] 58 := by rw [← hW1]; exact Blk.new' _ _ _ (by simp)
  have hB3 : Below w.heap.size w w3 := hB1.trans (B3.out.mono hB1.size)
  have hO3 := hO1.below B3.out hO1.lt
  have hR3 := hR1.below B3.out hR1.lt
  clear hW1 hB1 hO1 hR1 B3 kc KC
  generalize hW4 : w3.alloc (.cells #[.int .i64 M.room, .string (strOfNums M.S), .string (strOfNums M.R), .bool M.nw, .bool M.dn, .int .i64 M.left] 58) = W4
  have hB4 : Below w.heap.size w W4 := by rw [← hW4]; exact hB3.alloc hB3.size _
  have hO4 : Blk W4 (w.heap.size + 1) #[.int .i64 0, .int .i64 nn, .slice q D.length e, .int .u8 tt] 61 := by rw [← hW4]; exact hO3.alloc _
  have hR4 : Blk W4 (w.heap.size + 1 + 1) #[.int .i64 0, .string ⟨#[]⟩, .string ⟨#[]⟩, .bool false, .bool false, .int .i64 0] 58 := by rw [← hW4]; exact hR3.alloc _
  have hN4 : Blk W4 w3.heap.size #[.int .i64 M.room, .string (strOfNums M.S), .string (strOfNums M.R), .bool M.nw, .bool M.dn, .int .i64 M.left] 58 := by rw [← hW4]; exact Blk.new _ _ _
  have hne : w3.heap.size ≠ w.heap.size + 1 + 1 := by have := hR3.lt; omega
  have hD4 : Dkp (since P w W4) W4 base g d := HD.out.since hB4
  have qO : since P w W4 (w.heap.size + 1) := .inr ⟨by omega, hO4.lt⟩
  have qR : since P w W4 (w.heap.size + 1 + 1) := .inr ⟨by omega, hR4.lt⟩
  have qN : since P w W4 w3.heap.size := .inr ⟨hB3.size, hN4.lt⟩
  clear hW4 hB3 hO3 hR3
  have HS : Hid (∀ w', BelowP (since P w W4) base W4 w' → w'.cell? ⟨w3.heap.size, 0, none⟩ = some (.int .i64 M.room) ∧ w'.cell? ⟨w3.heap.size, 1, none⟩ = some (.string (strOfNums M.S)) ∧ w'.cell? ⟨w3.heap.size, 2, none⟩ = some (.string (strOfNums M.R)) ∧ w'.cell? ⟨w3.heap.size, 3, none⟩ = some (.bool M.nw) ∧ w'.cell? ⟨w3.heap.size, 4, none⟩ = some (.bool M.dn) ∧ w'.cell? ⟨w3.heap.size, 5, none⟩ = some (.int .i64 M.left) ∧ w'.cell? ⟨w.heap.size + 1, 2, none⟩ = some (.slice q D.length e)) :=
    fun w' hb => ⟨(hN4.belowP hb qN).cell 0, (hN4.belowP hb qN).cell 1, (hN4.belowP hb qN).cell 2, (hN4.belowP hb qN).cell 3, (hN4.belowP hb qN).cell 4, (hN4.belowP hb qN).cell 5, (hO4.belowP hb qO).cell 2⟩
  have hS1 := HS.out W4.drew (BelowP.refl _ _ W4).drew
  have HB4 := Lib.hid hB4
  have HR4 := Lib.hid hR4
  have HD4 := Lib.hid hD4
  have QR := Lib.hid qR
  have QN := Lib.hid qN
  have HN4 := Lib.hid hN4
  clear hB4 hO4 hR4 hN4 hD4 qO qR qN
  have HFR := Lib.hid (row_far2 HROW.out HBW.out HB4.out hWg)
  refine wp_region_held_drew (S := fun w' => w'.cell? ⟨w3.heap.size, 0, none⟩ = some (.int .i64 M.room) ∧ w'.cell? ⟨w3.heap.size, 1, none⟩ = some (.string (strOfNums M.S)) ∧ w'.cell? ⟨w3.heap.size, 2, none⟩ = some (.string (strOfNums M.R)) ∧ w'.cell? ⟨w3.heap.size, 3, none⟩ = some (.bool M.nw) ∧ w'.cell? ⟨w3.heap.size, 4, none⟩ = some (.bool M.dn) ∧ w'.cell? ⟨w3.heap.size, 5, none⟩ = some (.int .i64 M.left) ∧ w'.cell? ⟨w.heap.size + 1, 2, none⟩ = some (.slice q D.length e)) (by kernel_rfl) hS1 (fun hS0 => ?_)
  refine wpAnyH_take (i := 0) (v := ?_) rfl (by kernel_rfl) (by kernel_rfl) (by kernel_rfl) (fun _ _ _ h => h) (Or.inl ⟨by kernel_rfl, ?_⟩) (by first | assumption | trivial) ?_
  rotate_left
  · intro w hSw
    try dsimp only at hSw
    first | (go_simp; done) | (go_simp; with_reducible rfl)
  try simp only [Act.put, List.getElem_toArray, List.getElem_cons_succ, List.getElem_cons_zero, List.setIfInBounds_toArray, List.set_cons_zero, List.set_cons_succ]
  refine wpAnyH_take (i := 1) (v := ?_) rfl (by kernel_rfl) (by kernel_rfl) (by kernel_rfl) (fun _ _ _ h => h) (Or.inl ⟨by kernel_rfl, ?_⟩) (by first | assumption | trivial) ?_
  rotate_left
  · intro w hSw
    try dsimp only at hSw
    first | (go_simp; done) | (go_simp; with_reducible rfl)
  try simp only [Act.put, List.getElem_toArray, List.getElem_cons_succ, List.getElem_cons_zero, List.setIfInBounds_toArray, List.set_cons_zero, List.set_cons_succ]
  refine wpAnyH_take (i := 2) (v := ?_) rfl (by kernel_rfl) (by kernel_rfl) (by kernel_rfl) (fun _ _ _ h => h) (Or.inl ⟨by kernel_rfl, ?_⟩) (by first | assumption | trivial) ?_
  rotate_left
  · intro w hSw
    try dsimp only at hSw
    first | (go_simp; done) | (go_simp; with_reducible rfl)
  try simp only [Act.put, List.getElem_toArray, List.getElem_cons_succ, List.getElem_cons_zero, List.setIfInBounds_toArray, List.set_cons_zero, List.set_cons_succ]
  refine wpAnyH_take (i := 3) (v := ?_) rfl (by kernel_rfl) (by kernel_rfl) (by kernel_rfl) (fun _ _ _ h => h) (Or.inl ⟨by kernel_rfl, ?_⟩) (by first | assumption | trivial) ?_
  rotate_left
  · intro w hSw
    try dsimp only at hSw
    first | (go_simp; done) | (go_simp; with_reducible rfl)
  try simp only [Act.put, List.getElem_toArray, List.getElem_cons_succ, List.getElem_cons_zero, List.setIfInBounds_toArray, List.set_cons_zero, List.set_cons_succ]
  refine wpAnyH_take (i := 5) (v := ?_) rfl (by kernel_rfl) (by kernel_rfl) (by kernel_rfl) (fun _ _ _ h => h) (Or.inl ⟨by kernel_rfl, ?_⟩) (by first | assumption | trivial) ?_
  rotate_left
  · intro w hSw
    try dsimp only at hSw
    first | (go_simp; done) | (go_simp; with_reducible rfl)
  try simp only [Act.put, List.getElem_toArray, List.getElem_cons_succ, List.getElem_cons_zero, List.setIfInBounds_toArray, List.set_cons_zero, List.set_cons_succ]
  refine wpAnyH_ready (rs := [4]) (by kernel_rfl) (by simp) ?_
  refine AllReadyH.cons rfl (fun K hK => ?_) AllReadyH.nil
  go_simp
  go_at_call 23
  refine (write_anyP _ W4.drew base g d _ D HD4.out HOD.out HFR.out).mono ?_
  rintro y w5 ⟨rfl, hd5, hb5⟩
  have HD5 := Lib.hid hd5
  have hb6 := (BelowP.refl _ _ W4).drew.trans hb5
  have HB5 := Lib.hid hb6
  clear hd5 hb5 hb6
  try go_wp2_with fail
  refine hK.out _ _ (HS.out w5 HB5.out) (fun hS => ?_)
  clear hK K
  try simp only [Act.put, List.getElem_toArray, List.getElem_cons_succ, List.getElem_cons_zero, List.setIfInBounds_toArray, List.set_cons_zero, List.set_cons_succ]
  refine wpAnyH_take (i := 6) (v := ?_) rfl (by kernel_rfl) (by kernel_rfl) (by kernel_rfl) (fun _ _ _ h => h) (Or.inl ⟨by kernel_rfl, ?_⟩) (by first | assumption | trivial) ?_
  rotate_left
  · intro w hSw
    try dsimp only at hSw
    first | (go_simp; done) | (go_simp; with_reducible rfl)
  try simp only [Act.put, List.getElem_toArray, List.getElem_cons_succ, List.getElem_cons_zero, List.setIfInBounds_toArray, List.set_cons_zero, List.set_cons_succ]
  have hR5 := HR4.out.belowP HB5.out QR.out
  have hN5 := HN4.out.belowP HB5.out QN.out
  have r0 : w5.cell? ⟨w.heap.size + 1 + 1, 0, none⟩ = some (.int .i64 0) := hR5.cell 0
  have fr0 := hR5.free 0
  have r1 : w5.cell? ⟨w.heap.size + 1 + 1, 1, none⟩ = some (.string ⟨#[]⟩) := hR5.cell 1
  have fr1 := hR5.free 1
  have r2 : w5.cell? ⟨w.heap.size + 1 + 1, 2, none⟩ = some (.string ⟨#[]⟩) := hR5.cell 2
  have fr2 := hR5.free 2
  have r3 : w5.cell? ⟨w.heap.size + 1 + 1, 3, none⟩ = some (.bool false) := hR5.cell 3
  have fr3 := hR5.free 3
  have r4 : w5.cell? ⟨w.heap.size + 1 + 1, 4, none⟩ = some (.bool false) := hR5.cell 4
  have fr4 := hR5.free 4
  have r5 : w5.cell? ⟨w.heap.size + 1 + 1, 5, none⟩ = some (.int .i64 0) := hR5.cell 5
  have fr5 := hR5.free 5
  have lR := hR5.lt
  have HR5 := Lib.hid hR5
  have HN5 := Lib.hid hN5
  clear hR5 hN5
  have hN6 : Blk ((((((w5.setCell ⟨w.heap.size + 1 + 1, 0, none⟩ (.int .i64 M.room)).setCell ⟨w.heap.size + 1 + 1, 1, none⟩ (.string (strOfNums M.S))).setCell ⟨w.heap.size + 1 + 1, 2, none⟩ (.string (strOfNums M.R))).setCell ⟨w.heap.size + 1 + 1, 3, none⟩ (.bool M.nw)).setCell ⟨w.heap.size + 1 + 1, 4, none⟩ (.bool M.dn)).setCell ⟨w.heap.size + 1 + 1, 5, none⟩ (.int .i64 M.left)) w3.heap.size #[.int .i64 M.room, .string (strOfNums M.S), .string (strOfNums M.R), .bool M.nw, .bool M.dn, .int .i64 M.left] 58 := ((((((HN5.out.setOther (a := ⟨w.heap.size + 1 + 1, 0, none⟩) (Ne.symm hne) _).setOther (a := ⟨w.heap.size + 1 + 1, 1, none⟩) (Ne.symm hne) _).setOther (a := ⟨w.heap.size + 1 + 1, 2, none⟩) (Ne.symm hne) _).setOther (a := ⟨w.heap.size + 1 + 1, 3, none⟩) (Ne.symm hne) _).setOther (a := ⟨w.heap.size + 1 + 1, 4, none⟩) (Ne.symm hne) _).setOther (a := ⟨w.heap.size + 1 + 1, 5, none⟩) (Ne.symm hne) _)
  have hO6 : ((((((w5.setCell ⟨w.heap.size + 1 + 1, 0, none⟩ (.int .i64 M.room)).setCell ⟨w.heap.size + 1 + 1, 1, none⟩ (.string (strOfNums M.S))).setCell ⟨w.heap.size + 1 + 1, 2, none⟩ (.string (strOfNums M.R))).setCell ⟨w.heap.size + 1 + 1, 3, none⟩ (.bool M.nw)).setCell ⟨w.heap.size + 1 + 1, 4, none⟩ (.bool M.dn)).setCell ⟨w.heap.size + 1 + 1, 5, none⟩ (.int .i64 M.left)).cell? ⟨w.heap.size + 1, 2, none⟩ = some (.slice q D.length e) := by
    have hc : Chg (w.heap.size + 1 + 1) w5 ((((((w5.setCell ⟨w.heap.size + 1 + 1, 0, none⟩ (.int .i64 M.room)).setCell ⟨w.heap.size + 1 + 1, 1, none⟩ (.string (strOfNums M.S))).setCell ⟨w.heap.size + 1 + 1, 2, none⟩ (.string (strOfNums M.R))).setCell ⟨w.heap.size + 1 + 1, 3, none⟩ (.bool M.nw)).setCell ⟨w.heap.size + 1 + 1, 4, none⟩ (.bool M.dn)).setCell ⟨w.heap.size + 1 + 1, 5, none⟩ (.int .i64 M.left)) := (((((((Chg.refl (w.heap.size + 1 + 1) w5).set 0 _).set 1 _).set 2 _).set 3 _).set 4 _).set 5 _)
    exact (hc.cell (a := ⟨w.heap.size + 1, 2, none⟩) (by show w.heap.size + 1 < _; omega) (by show w.heap.size + 1 ≠ _; omega)).trans hS.2.2.2.2.2.2
  have hS6 := And.intro (hN6.cell 0) (And.intro (hN6.cell 1) (And.intro (hN6.cell 2) (And.intro (hN6.cell 3) (And.intro (hN6.cell 4) (And.intro (hN6.cell 5) hO6)))))
  clear hN6 hO6
  refine wpAnyH_ready (rs := [7]) (by kernel_rfl) (by simp) ?_
  refine AllReadyH.cons rfl (fun K hK => ?_) AllReadyH.nil
  go_simp
  refine hK.out _ _ hS6 (fun hS => ?_)
  clear hK K
  try simp only [Act.put, List.getElem_toArray, List.getElem_cons_succ, List.getElem_cons_zero, List.setIfInBounds_toArray, List.set_cons_zero, List.set_cons_succ]
  refine wpAnyH_take (i := 8) (v := ?_) rfl (by kernel_rfl) (by kernel_rfl) (by kernel_rfl) (fun _ _ _ h => h) (Or.inl ⟨by kernel_rfl, ?_⟩) (by first | assumption | trivial) ?_
  rotate_left
  · intro w hSw
    try dsimp only at hSw
    first | (go_simp; done) | (go_simp; with_reducible rfl)
  try simp only [Act.put, List.getElem_toArray, List.getElem_cons_succ, List.getElem_cons_zero, List.setIfInBounds_toArray, List.set_cons_zero, List.set_cons_succ]
  refine wpAnyH_done (by kernel_rfl) ?_ _
  have hf : Blk ((((((w5.setCell ⟨w.heap.size + 1 + 1, 0, none⟩ (.int .i64 M.room)).setCell ⟨w.heap.size + 1 + 1, 1, none⟩ (.string (strOfNums M.S))).setCell ⟨w.heap.size + 1 + 1, 2, none⟩ (.string (strOfNums M.R))).setCell ⟨w.heap.size + 1 + 1, 3, none⟩ (.bool M.nw)).setCell ⟨w.heap.size + 1 + 1, 4, none⟩ (.bool M.dn)).setCell ⟨w.heap.size + 1 + 1, 5, none⟩ (.int .i64 M.left)) (w.heap.size + 1 + 1) #[.int .i64 M.room, .string (strOfNums M.S), .string (strOfNums M.R), .bool M.nw, .bool M.dn, .int .i64 M.left] 58 := ((((((HR5.out.set 0 (.int .i64 M.room)).set 1 (.string (strOfNums M.S))).set 2 (.string (strOfNums M.R))).set 3 (.bool M.nw)).set 4 (.bool M.dn)).set 5 (.int .i64 M.left))
  have hc : Chg (w.heap.size + 1 + 1) w5 ((((((w5.setCell ⟨w.heap.size + 1 + 1, 0, none⟩ (.int .i64 M.room)).setCell ⟨w.heap.size + 1 + 1, 1, none⟩ (.string (strOfNums M.S))).setCell ⟨w.heap.size + 1 + 1, 2, none⟩ (.string (strOfNums M.R))).setCell ⟨w.heap.size + 1 + 1, 3, none⟩ (.bool M.nw)).setCell ⟨w.heap.size + 1 + 1, 4, none⟩ (.bool M.dn)).setCell ⟨w.heap.size + 1 + 1, 5, none⟩ (.int .i64 M.left)) := (((((((Chg.refl (w.heap.size + 1 + 1) w5).set 0 _).set 1 _).set 2 _).set 3 _).set 4 _).set 5 _)
  have HF := Lib.hid hf
  have HC := Lib.hid hc
  have HR : Hid (BelowP P base w ((((((w5.setCell ⟨w.heap.size + 1 + 1, 0, none⟩ (.int .i64 M.room)).setCell ⟨w.heap.size + 1 + 1, 1, none⟩ (.string (strOfNums M.S))).setCell ⟨w.heap.size + 1 + 1, 2, none⟩ (.string (strOfNums M.R))).setCell ⟨w.heap.size + 1 + 1, 3, none⟩ (.bool M.nw)).setCell ⟨w.heap.size + 1 + 1, 4, none⟩ (.bool M.dn)).setCell ⟨w.heap.size + 1 + 1, 5, none⟩ (.int .i64 M.left)) ∧ Dkp P ((((((w5.setCell ⟨w.heap.size + 1 + 1, 0, none⟩ (.int .i64 M.room)).setCell ⟨w.heap.size + 1 + 1, 1, none⟩ (.string (strOfNums M.S))).setCell ⟨w.heap.size + 1 + 1, 2, none⟩ (.string (strOfNums M.R))).setCell ⟨w.heap.size + 1 + 1, 3, none⟩ (.bool M.nw)).setCell ⟨w.heap.size + 1 + 1, 4, none⟩ (.bool M.dn)).setCell ⟨w.heap.size + 1 + 1, 5, none⟩ (.int .i64 M.left)) base g (d.writeD D)) := by
    refine ⟨?_, ?_⟩
    · have h1 : BelowP P base w w5 := (BelowP.of HB4.out hba).trans (HB5.out.weak fun b hb => .inl hb)
      exact ⟨h1.1.trans (hc.below (by omega) (by have := h1.1.size; omega)), fun b hb hl => (hc.2 b (by have := h1.1.size; omega) (by omega)).trans (h1.2 b hb hl)⟩
    · exact (HD5.out.chg QR.out hc).weak fun b hb => .inl hb
  clear hf hc
  go_wp2_with fail
  refine bodyPost_ret (v := .tuple #[.agg #[.int .i64 M.room, .string (strOfNums M.S), .string (strOfNums M.R), .bool M.nw, .bool M.dn, .int .i64 M.left], .bool (decide (d.writeE D.length = eW))]) (by simp [results, Try.results21, go_sem, HF.out.cell 0, HF.out.cell 1, HF.out.cell 2, HF.out.cell 3, HF.out.cell 4, HF.out.cell 5, dec_beq]) rfl ⟨rfl, HR.out.2, HR.out.1⟩
set_option linter.unusedSimpArgs false in
set_option maxHeartbeats 4000000 in
set_option maxRecDepth 100000 in
theorem do_renew (P : Nat → Prop) (W w : World) (base g : Nat) (d m : DSt) (nn tt : Int) (D : List Int) (q : Option Addr) (e : Nat) (h : Dkp P w base g d) (hm : m.Ok) (oD : Oct D) (hD : D.length ≤ 1000) (hrow : Row .u8 W (.slice q D.length e) D) (hbW : Below W.heap.size W w) (hWg : W.heap.size ≤ g) :
    Calls Try.prog 21 #[.pointer (some ⟨g, 0, none⟩), refV m, .agg #[.int .i64 1, .int .i64 nn, .slice q D.length e, .int .u8 tt]] w (DoPost P base g d m 1 nn D tt w) := by
  have hlt : g < w.heap.size := h.dk.lt
  have hba : base ≤ w.heap.size := by obtain ⟨_, _, _, _, _, _, _, _, hb, _⟩ := h; omega
  have HD := Lib.hid h
  have HM := Lib.hid hm
  have HROW := Lib.hid hrow
  have HBW := Lib.hid hbW
  have HOD := Lib.hid oD
  have eM : opM m 1 nn D tt = m.renewD D := rfl
  have eD : opD d 1 nn D tt = d.renewD D := rfl
  have eE : ∀ x : DSt, opE x 1 D.length = x.renewE D.length := fun _ => rfl
  unfold DoPost
  rw [eM, eD, eE, eE]
  clear eM eD eE h hm hrow hbW oD
  have KC := Lib.hid (fun (w' : World) (hb : Below w.heap.size w w') => conv_row (P := Try.prog) w' 59 9 5 Try.underlying59 Try.underlying5 Try.underlying9 _ _ (HROW.out.under (HBW.out.trans (hb.mono HBW.out.size)) (Nat.le_refl _)))
  have kc := KC.out (((w.alloc (.cells (cellsR m) 58)).alloc (.cells #[.int .i64 1, .int .i64 nn, .slice q D.length e, .int .u8 tt] 61)).alloc (.cells #[.int .i64 0, .string ⟨#[]⟩, .string ⟨#[]⟩, .bool false, .bool false, .int .i64 0] 58)) (((oneB w _).alloc (by simp) _).alloc (by simp; omega) _)
  unfold cellsR at kc
  have HRW := Lib.hid (fun (w' : World) => refrenew_any m D (by omega) HM.out w')
  generalize m.renewD D = M at *
  generalize heW : m.renewE D.length = eW at *
  clear heW
  unfold refV cellsR at HRW ⊢
  go_enter Try.func21, Try.ntmps21
  go_wp2_with fail
  refine (HRW.out _).mono ?_
  rintro y w3 ⟨rfl, hb3⟩
  have B3 := Lib.hid hb3
  clear hb3
  go_wp2_with fail
  generalize hW1 : (((w.alloc (.cells #[.int .i64 m.room, .string (strOfNums m.S), .string (strOfNums m.R), .bool m.nw, .bool m.dn, .int .i64 m.left] 58)).alloc (.cells #[.int .i64 1, .int .i64 nn, .slice q D.length e, .int .u8 tt] 61)).alloc (.cells #[.int .i64 0, .string ⟨#[]⟩, .string ⟨#[]⟩, .bool false, .bool false, .int .i64 0] 58)) = W1 at *
  have hB1 : Below w.heap.size w W1 := by rw [← hW1]; exact ((oneB w _).alloc (by simp) _).alloc (by simp; omega) _
  have hO1 : Blk W1 (w.heap.size + 1) #[.int .i64 1, .int .i64 nn, .slice q D.length e, .int .u8 tt] 61 := by rw [← hW1]; exact (Blk.new' _ _ _ (by simp)).alloc _
  have hR1 : Blk W1 (w.heap.size + 1 + 1) #[.int .i64 0, .string ⟨#[]⟩, .string ⟨#[]⟩, .bool false, .bool false, .int .i64 0] 58 := by rw [← hW1]; exact Blk.new' _ _ _ (by simp)
  have hB3 : Below w.heap.size w w3 := hB1.trans (B3.out.mono hB1.size)
  have hO3 := hO1.below B3.out hO1.lt
  have hR3 := hR1.below B3.out hR1.lt
  clear hW1 hB1 hO1 hR1 B3 kc KC
  generalize hW4 : w3.alloc (.cells #[.int .i64 M.room, .string (strOfNums M.S), .string (strOfNums M.R), .bool M.nw, .bool M.dn, .int .i64 M.left] 58) = W4
  have hB4 : Below w.heap.size w W4 := by rw [← hW4]; exact hB3.alloc hB3.size _
  have hO4 : Blk W4 (w.heap.size + 1) #[.int .i64 1, .int .i64 nn, .slice q D.length e, .int .u8 tt] 61 := by rw [← hW4]; exact hO3.alloc _
  have hR4 : Blk W4 (w.heap.size + 1 + 1) #[.int .i64 0, .string ⟨#[]⟩, .string ⟨#[]⟩, .bool false, .bool false, .int .i64 0] 58 := by rw [← hW4]; exact hR3.alloc _
  have hN4 : Blk W4 w3.heap.size #[.int .i64 M.room, .string (strOfNums M.S), .string (strOfNums M.R), .bool M.nw, .bool M.dn, .int .i64 M.left] 58 := by rw [← hW4]; exact Blk.new _ _ _
  have hne : w3.heap.size ≠ w.heap.size + 1 + 1 := by have := hR3.lt; omega
  have hD4 : Dkp (since P w W4) W4 base g d := HD.out.since hB4
  have qO : since P w W4 (w.heap.size + 1) := .inr ⟨by omega, hO4.lt⟩
  have qR : since P w W4 (w.heap.size + 1 + 1) := .inr ⟨by omega, hR4.lt⟩
  have qN : since P w W4 w3.heap.size := .inr ⟨hB3.size, hN4.lt⟩
  clear hW4 hB3 hO3 hR3
  have HS : Hid (∀ w', BelowP (since P w W4) base W4 w' → w'.cell? ⟨w3.heap.size, 0, none⟩ = some (.int .i64 M.room) ∧ w'.cell? ⟨w3.heap.size, 1, none⟩ = some (.string (strOfNums M.S)) ∧ w'.cell? ⟨w3.heap.size, 2, none⟩ = some (.string (strOfNums M.R)) ∧ w'.cell? ⟨w3.heap.size, 3, none⟩ = some (.bool M.nw) ∧ w'.cell? ⟨w3.heap.size, 4, none⟩ = some (.bool M.dn) ∧ w'.cell? ⟨w3.heap.size, 5, none⟩ = some (.int .i64 M.left) ∧ w'.cell? ⟨w.heap.size + 1, 2, none⟩ = some (.slice q D.length e)) :=
    fun w' hb => ⟨(hN4.belowP hb qN).cell 0, (hN4.belowP hb qN).cell 1, (hN4.belowP hb qN).cell 2, (hN4.belowP hb qN).cell 3, (hN4.belowP hb qN).cell 4, (hN4.belowP hb qN).cell 5, (hO4.belowP hb qO).cell 2⟩
  have hS1 := HS.out W4.drew (BelowP.refl _ _ W4).drew
  have HB4 := Lib.hid hB4
  have HR4 := Lib.hid hR4
  have HD4 := Lib.hid hD4
  have QR := Lib.hid qR
  have QN := Lib.hid qN
  have HN4 := Lib.hid hN4
  clear hB4 hO4 hR4 hN4 hD4 qO qR qN
  have HFR := Lib.hid (row_far2 HROW.out HBW.out HB4.out hWg)
  refine wp_region_held_drew (S := fun w' => w'.cell? ⟨w3.heap.size, 0, none⟩ = some (.int .i64 M.room) ∧ w'.cell? ⟨w3.heap.size, 1, none⟩ = some (.string (strOfNums M.S)) ∧ w'.cell? ⟨w3.heap.size, 2, none⟩ = some (.string (strOfNums M.R)) ∧ w'.cell? ⟨w3.heap.size, 3, none⟩ = some (.bool M.nw) ∧ w'.cell? ⟨w3.heap.size, 4, none⟩ = some (.bool M.dn) ∧ w'.cell? ⟨w3.heap.size, 5, none⟩ = some (.int .i64 M.left) ∧ w'.cell? ⟨w.heap.size + 1, 2, none⟩ = some (.slice q D.length e)) (by kernel_rfl) hS1 (fun hS0 => ?_)
  refine wpAnyH_take (i := 0) (v := ?_) rfl (by kernel_rfl) (by kernel_rfl) (by kernel_rfl) (fun _ _ _ h => h) (Or.inl ⟨by kernel_rfl, ?_⟩) (by first | assumption | trivial) ?_
  rotate_left
  · intro w hSw
    try dsimp only at hSw
    first | (go_simp; done) | (go_simp; with_reducible rfl)
  try simp only [Act.put, List.getElem_toArray, List.getElem_cons_succ, List.getElem_cons_zero, List.setIfInBounds_toArray, List.set_cons_zero, List.set_cons_succ]
  refine wpAnyH_take (i := 1) (v := ?_) rfl (by kernel_rfl) (by kernel_rfl) (by kernel_rfl) (fun _ _ _ h => h) (Or.inl ⟨by kernel_rfl, ?_⟩) (by first | assumption | trivial) ?_
  rotate_left
  · intro w hSw
    try dsimp only at hSw
    first | (go_simp; done) | (go_simp; with_reducible rfl)
  try simp only [Act.put, List.getElem_toArray, List.getElem_cons_succ, List.getElem_cons_zero, List.setIfInBounds_toArray, List.set_cons_zero, List.set_cons_succ]
  refine wpAnyH_take (i := 2) (v := ?_) rfl (by kernel_rfl) (by kernel_rfl) (by kernel_rfl) (fun _ _ _ h => h) (Or.inl ⟨by kernel_rfl, ?_⟩) (by first | assumption | trivial) ?_
  rotate_left
  · intro w hSw
    try dsimp only at hSw
    first | (go_simp; done) | (go_simp; with_reducible rfl)
  try simp only [Act.put, List.getElem_toArray, List.getElem_cons_succ, List.getElem_cons_zero, List.setIfInBounds_toArray, List.set_cons_zero, List.set_cons_succ]
  refine wpAnyH_take (i := 3) (v := ?_) rfl (by kernel_rfl) (by kernel_rfl) (by kernel_rfl) (fun _ _ _ h => h) (Or.inl ⟨by kernel_rfl, ?_⟩) (by first | assumption | trivial) ?_
  rotate_left
  · intro w hSw
    try dsimp only at hSw
    first | (go_simp; done) | (go_simp; with_reducible rfl)
  try simp only [Act.put, List.getElem_toArray, List.getElem_cons_succ, List.getElem_cons_zero, List.setIfInBounds_toArray, List.set_cons_zero, List.set_cons_succ]
  refine wpAnyH_take (i := 5) (v := ?_) rfl (by kernel_rfl) (by kernel_rfl) (by kernel_rfl) (fun _ _ _ h => h) (Or.inl ⟨by kernel_rfl, ?_⟩) (by first | assumption | trivial) ?_
  rotate_left
  · intro w hSw
    try dsimp only at hSw
    first | (go_simp; done) | (go_simp; with_reducible rfl)
  try simp only [Act.put, List.getElem_toArray, List.getElem_cons_succ, List.getElem_cons_zero, List.setIfInBounds_toArray, List.set_cons_zero, List.set_cons_succ]
  refine wpAnyH_ready (rs := [4]) (by kernel_rfl) (by simp) ?_
  refine AllReadyH.cons rfl (fun K hK => ?_) AllReadyH.nil
  go_simp
  go_at_call 38
  refine (renew_anyP _ W4.drew base g d _ D HD4.out HOD.out HFR.out).mono ?_
  rintro y w5 ⟨rfl, hd5, hb5⟩
  have HD5 := Lib.hid hd5
  have hb6 := (BelowP.refl _ _ W4).drew.trans hb5
  have HB5 := Lib.hid hb6
  clear hd5 hb5 hb6
  try go_wp2_with fail
  refine hK.out _ _ (HS.out w5 HB5.out) (fun hS => ?_)
  clear hK K
  try simp only [Act.put, List.getElem_toArray, List.getElem_cons_succ, List.getElem_cons_zero, List.setIfInBounds_toArray, List.set_cons_zero, List.set_cons_succ]
  refine wpAnyH_take (i := 6) (v := ?_) rfl (by kernel_rfl) (by kernel_rfl) (by kernel_rfl) (fun _ _ _ h => h) (Or.inl ⟨by kernel_rfl, ?_⟩) (by first | assumption | trivial) ?_
  rotate_left
  · intro w hSw
    try dsimp only at hSw
    first | (go_simp; done) | (go_simp; with_reducible rfl)
  try simp only [Act.put, List.getElem_toArray, List.getElem_cons_succ, List.getElem_cons_zero, List.setIfInBounds_toArray, List.set_cons_zero, List.set_cons_succ]
  have hR5 := HR4.out.belowP HB5.out QR.out
  have hN5 := HN4.out.belowP HB5.out QN.out
  have r0 : w5.cell? ⟨w.heap.size + 1 + 1, 0, none⟩ = some (.int .i64 0) := hR5.cell 0
  have fr0 := hR5.free 0
  have r1 : w5.cell? ⟨w.heap.size + 1 + 1, 1, none⟩ = some (.string ⟨#[]⟩) := hR5.cell 1
  have fr1 := hR5.free 1
  have r2 : w5.cell? ⟨w.heap.size + 1 + 1, 2, none⟩ = some (.string ⟨#[]⟩) := hR5.cell 2
  have fr2 := hR5.free 2
  have r3 : w5.cell? ⟨w.heap.size + 1 + 1, 3, none⟩ = some (.bool false) := hR5.cell 3
  have fr3 := hR5.free 3
  have r4 : w5.cell? ⟨w.heap.size + 1 + 1, 4, none⟩ = some (.bool false) := hR5.cell 4
  have fr4 := hR5.free 4
  have r5 : w5.cell? ⟨w.heap.size + 1 + 1, 5, none⟩ = some (.int .i64 0) := hR5.cell 5
  have fr5 := hR5.free 5
  have lR := hR5.lt
  have HR5 := Lib.hid hR5
  have HN5 := Lib.hid hN5
  clear hR5 hN5
  have hN6 : Blk ((((((w5.setCell ⟨w.heap.size + 1 + 1, 0, none⟩ (.int .i64 M.room)).setCell ⟨w.heap.size + 1 + 1, 1, none⟩ (.string (strOfNums M.S))).setCell ⟨w.heap.size + 1 + 1, 2, none⟩ (.string (strOfNums M.R))).setCell ⟨w.heap.size + 1 + 1, 3, none⟩ (.bool M.nw)).setCell ⟨w.heap.size + 1 + 1, 4, none⟩ (.bool M.dn)).setCell ⟨w.heap.size + 1 + 1, 5, none⟩ (.int .i64 M.left)) w3.heap.size #[.int .i64 M.room, .string (strOfNums M.S), .string (strOfNums M.R), .bool M.nw, .bool M.dn, .int .i64 M.left] 58 := ((((((HN5.out.setOther (a := ⟨w.heap.size + 1 + 1, 0, none⟩) (Ne.symm hne) _).setOther (a := ⟨w.heap.size + 1 + 1, 1, none⟩) (Ne.symm hne) _).setOther (a := ⟨w.heap.size + 1 + 1, 2, none⟩) (Ne.symm hne) _).setOther (a := ⟨w.heap.size + 1 + 1, 3, none⟩) (Ne.symm hne) _).setOther (a := ⟨w.heap.size + 1 + 1, 4, none⟩) (Ne.symm hne) _).setOther (a := ⟨w.heap.size + 1 + 1, 5, none⟩) (Ne.symm hne) _)
  have hO6 : ((((((w5.setCell ⟨w.heap.size + 1 + 1, 0, none⟩ (.int .i64 M.room)).setCell ⟨w.heap.size + 1 + 1, 1, none⟩ (.string (strOfNums M.S))).setCell ⟨w.heap.size + 1 + 1, 2, none⟩ (.string (strOfNums M.R))).setCell ⟨w.heap.size + 1 + 1, 3, none⟩ (.bool M.nw)).setCell ⟨w.heap.size + 1 + 1, 4, none⟩ (.bool M.dn)).setCell ⟨w.heap.size + 1 + 1, 5, none⟩ (.int .i64 M.left)).cell? ⟨w.heap.size + 1, 2, none⟩ = some (.slice q D.length e) := by
    have hc : Chg (w.heap.size + 1 + 1) w5 ((((((w5.setCell ⟨w.heap.size + 1 + 1, 0, none⟩ (.int .i64 M.room)).setCell ⟨w.heap.size + 1 + 1, 1, none⟩ (.string (strOfNums M.S))).setCell ⟨w.heap.size + 1 + 1, 2, none⟩ (.string (strOfNums M.R))).setCell ⟨w.heap.size + 1 + 1, 3, none⟩ (.bool M.nw)).setCell ⟨w.heap.size + 1 + 1, 4, none⟩ (.bool M.dn)).setCell ⟨w.heap.size + 1 + 1, 5, none⟩ (.int .i64 M.left)) := (((((((Chg.refl (w.heap.size + 1 + 1) w5).set 0 _).set 1 _).set 2 _).set 3 _).set 4 _).set 5 _)
    exact (hc.cell (a := ⟨w.heap.size + 1, 2, none⟩) (by show w.heap.size + 1 < _; omega) (by show w.heap.size + 1 ≠ _; omega)).trans hS.2.2.2.2.2.2
  have hS6 := And.intro (hN6.cell 0) (And.intro (hN6.cell 1) (And.intro (hN6.cell 2) (And.intro (hN6.cell 3) (And.intro (hN6.cell 4) (And.intro (hN6.cell 5) hO6)))))
  clear hN6 hO6
  refine wpAnyH_ready (rs := [7]) (by kernel_rfl) (by simp) ?_
  refine AllReadyH.cons rfl (fun K hK => ?_) AllReadyH.nil
  go_simp
  refine hK.out _ _ hS6 (fun hS => ?_)
  clear hK K
  try simp only [Act.put, List.getElem_toArray, List.getElem_cons_succ, List.getElem_cons_zero, List.setIfInBounds_toArray, List.set_cons_zero, List.set_cons_succ]
  refine wpAnyH_take (i := 8) (v := ?_) rfl (by kernel_rfl) (by kernel_rfl) (by kernel_rfl) (fun _ _ _ h => h) (Or.inl ⟨by kernel_rfl, ?_⟩) (by first | assumption | trivial) ?_
  rotate_left
  · intro w hSw
    try dsimp only at hSw
    first | (go_simp; done) | (go_simp; with_reducible rfl)
  try simp only [Act.put, List.getElem_toArray, List.getElem_cons_succ, List.getElem_cons_zero, List.setIfInBounds_toArray, List.set_cons_zero, List.set_cons_succ]
  refine wpAnyH_done (by kernel_rfl) ?_ _
  have hf : Blk ((((((w5.setCell ⟨w.heap.size + 1 + 1, 0, none⟩ (.int .i64 M.room)).setCell ⟨w.heap.size + 1 + 1, 1, none⟩ (.string (strOfNums M.S))).setCell ⟨w.heap.size + 1 + 1, 2, none⟩ (.string (strOfNums M.R))).setCell ⟨w.heap.size + 1 + 1, 3, none⟩ (.bool M.nw)).setCell ⟨w.heap.size + 1 + 1, 4, none⟩ (.bool M.dn)).setCell ⟨w.heap.size + 1 + 1, 5, none⟩ (.int .i64 M.left)) (w.heap.size + 1 + 1) #[.int .i64 M.room, .string (strOfNums M.S), .string (strOfNums M.R), .bool M.nw, .bool M.dn, .int .i64 M.left] 58 := ((((((HR5.out.set 0 (.int .i64 M.room)).set 1 (.string (strOfNums M.S))).set 2 (.string (strOfNums M.R))).set 3 (.bool M.nw)).set 4 (.bool M.dn)).set 5 (.int .i64 M.left))
  have hc : Chg (w.heap.size + 1 + 1) w5 ((((((w5.setCell ⟨w.heap.size + 1 + 1, 0, none⟩ (.int .i64 M.room)).setCell ⟨w.heap.size + 1 + 1, 1, none⟩ (.string (strOfNums M.S))).setCell ⟨w.heap.size + 1 + 1, 2, none⟩ (.string (strOfNums M.R))).setCell ⟨w.heap.size + 1 + 1, 3, none⟩ (.bool M.nw)).setCell ⟨w.heap.size + 1 + 1, 4, none⟩ (.bool M.dn)).setCell ⟨w.heap.size + 1 + 1, 5, none⟩ (.int .i64 M.left)) := (((((((Chg.refl (w.heap.size + 1 + 1) w5).set 0 _).set 1 _).set 2 _).set 3 _).set 4 _).set 5 _)
  have HF := Lib.hid hf
  have HC := Lib.hid hc
  have HR : Hid (BelowP P base w ((((((w5.setCell ⟨w.heap.size + 1 + 1, 0, none⟩ (.int .i64 M.room)).setCell ⟨w.heap.size + 1 + 1, 1, none⟩ (.string (strOfNums M.S))).setCell ⟨w.heap.size + 1 + 1, 2, none⟩ (.string (strOfNums M.R))).setCell ⟨w.heap.size + 1 + 1, 3, none⟩ (.bool M.nw)).setCell ⟨w.heap.size + 1 + 1, 4, none⟩ (.bool M.dn)).setCell ⟨w.heap.size + 1 + 1, 5, none⟩ (.int .i64 M.left)) ∧ Dkp P ((((((w5.setCell ⟨w.heap.size + 1 + 1, 0, none⟩ (.int .i64 M.room)).setCell ⟨w.heap.size + 1 + 1, 1, none⟩ (.string (strOfNums M.S))).setCell ⟨w.heap.size + 1 + 1, 2, none⟩ (.string (strOfNums M.R))).setCell ⟨w.heap.size + 1 + 1, 3, none⟩ (.bool M.nw)).setCell ⟨w.heap.size + 1 + 1, 4, none⟩ (.bool M.dn)).setCell ⟨w.heap.size + 1 + 1, 5, none⟩ (.int .i64 M.left)) base g (d.renewD D)) := by
    refine ⟨?_, ?_⟩
    · have h1 : BelowP P base w w5 := (BelowP.of HB4.out hba).trans (HB5.out.weak fun b hb => .inl hb)
      exact ⟨h1.1.trans (hc.below (by omega) (by have := h1.1.size; omega)), fun b hb hl => (hc.2 b (by have := h1.1.size; omega) (by omega)).trans (h1.2 b hb hl)⟩
    · exact (HD5.out.chg QR.out hc).weak fun b hb => .inl hb
  clear hf hc
  go_wp2_with fail
  refine bodyPost_ret (v := .tuple #[.agg #[.int .i64 M.room, .string (strOfNums M.S), .string (strOfNums M.R), .bool M.nw, .bool M.dn, .int .i64 M.left], .bool (decide (d.renewE D.length = eW))]) (by simp [results, Try.results21, go_sem, HF.out.cell 0, HF.out.cell 1, HF.out.cell 2, HF.out.cell 3, HF.out.cell 4, HF.out.cell 5, dec_beq]) rfl ⟨rfl, HR.out.2, HR.out.1⟩
set_option linter.unusedSimpArgs false in
set_option maxHeartbeats 4000000 in
set_option maxRecDepth 100000 in
theorem do_sync (P : Nat → Prop) (w : World) (base g : Nat) (d m : DSt) (nn tt : Int) (D : List Int) (q : Option Addr) (e : Nat) (h : Dkp P w base g d) (hm : m.Ok) :
    Calls Try.prog 21 #[.pointer (some ⟨g, 0, none⟩), refV m, .agg #[.int .i64 2, .int .i64 nn, .slice q D.length e, .int .u8 tt]] w (DoPost P base g d m 2 nn D tt w) := by
  have hlt : g < w.heap.size := h.dk.lt
  have hba : base ≤ w.heap.size := by obtain ⟨_, _, _, _, _, _, _, _, hb, _⟩ := h; omega
  have HD := Lib.hid h
  have HM := Lib.hid hm
  have eM : opM m 2 nn D tt = m.syncD := rfl
  have eD : opD d 2 nn D tt = d.syncD := rfl
  have eE : ∀ x : DSt, opE x 2 D.length = x.syncE := fun _ => rfl
  unfold DoPost
  rw [eM, eD, eE, eE]
  clear eM eD eE h hm
  have HRW := Lib.hid (fun (w' : World) => refsync_any m HM.out w')
  generalize m.syncD = M at *
  generalize heW : m.syncE = eW at *
  clear heW
  unfold refV cellsR at HRW ⊢
  go_enter Try.func21, Try.ntmps21
  go_wp2_with fail
  refine (HRW.out _).mono ?_
  rintro y w3 ⟨rfl, hb3⟩
  have B3 := Lib.hid hb3
  clear hb3
  go_wp2_with fail
  generalize hW1 : (((w.alloc (.cells #[.int .i64 m.room, .string (strOfNums m.S), .string (strOfNums m.R), .bool m.nw, .bool m.dn, .int .i64 m.left] 58)).alloc (.cells #[.int .i64 2, .int .i64 nn, .slice q D.length e, .int .u8 tt] 61)).alloc (.cells #[.int .i64 0, .string ⟨#[]⟩, .string ⟨#[]⟩, .bool false, .bool false, .int .i64 0] 58)) = W1 at *
  have hB1 : Below w.heap.size w W1 := by rw [← hW1]; exact ((oneB w _).alloc (by simp) _).alloc (by simp; omega) _
  have hO1 : Blk W1 (w.heap.size + 1) #[.int .i64 2, .int .i64 nn, .slice q D.length e, .int .u8 tt] 61 := by rw [← hW1]; exact (Blk.new' _ _ _ (by simp)).alloc _
  have hR1 : Blk W1 (w.heap.size + 1 + 1) #[.int .i64 0, .string ⟨#[]⟩, .string ⟨#[]⟩, .bool false, .bool false, .int .i64 0] 58 := by rw [← hW1]; exact Blk.new' _ _ _ (by simp)
  have hB3 : Below w.heap.size w w3 := hB1.trans (B3.out.mono hB1.size)
  have hO3 := hO1.below B3.out hO1.lt
  have hR3 := hR1.below B3.out hR1.lt
  clear hW1 hB1 hO1 hR1 B3
  generalize hW4 : w3.alloc (.cells #[.int .i64 M.room, .string (strOfNums M.S), .string (strOfNums M.R), .bool M.nw, .bool M.dn, .int .i64 M.left] 58) = W4
  have hB4 : Below w.heap.size w W4 := by rw [← hW4]; exact hB3.alloc hB3.size _
  have hO4 : Blk W4 (w.heap.size + 1) #[.int .i64 2, .int .i64 nn, .slice q D.length e, .int .u8 tt] 61 := by rw [← hW4]; exact hO3.alloc _
  have hR4 : Blk W4 (w.heap.size + 1 + 1) #[.int .i64 0, .string ⟨#[]⟩, .string ⟨#[]⟩, .bool false, .bool false, .int .i64 0] 58 := by rw [← hW4]; exact hR3.alloc _
  have hN4 : Blk W4 w3.heap.size #[.int .i64 M.room, .string (strOfNums M.S), .string (strOfNums M.R), .bool M.nw, .bool M.dn, .int .i64 M.left] 58 := by rw [← hW4]; exact Blk.new _ _ _
  have hne : w3.heap.size ≠ w.heap.size + 1 + 1 := by have := hR3.lt; omega
  have hD4 : Dkp (since P w W4) W4 base g d := HD.out.since hB4
  have qO : since P w W4 (w.heap.size + 1) := .inr ⟨by omega, hO4.lt⟩
  have qR : since P w W4 (w.heap.size + 1 + 1) := .inr ⟨by omega, hR4.lt⟩
  have qN : since P w W4 w3.heap.size := .inr ⟨hB3.size, hN4.lt⟩
  clear hW4 hB3 hO3 hR3
  have HS : Hid (∀ w', BelowP (since P w W4) base W4 w' → w'.cell? ⟨w3.heap.size, 0, none⟩ = some (.int .i64 M.room) ∧ w'.cell? ⟨w3.heap.size, 1, none⟩ = some (.string (strOfNums M.S)) ∧ w'.cell? ⟨w3.heap.size, 2, none⟩ = some (.string (strOfNums M.R)) ∧ w'.cell? ⟨w3.heap.size, 3, none⟩ = some (.bool M.nw) ∧ w'.cell? ⟨w3.heap.size, 4, none⟩ = some (.bool M.dn) ∧ w'.cell? ⟨w3.heap.size, 5, none⟩ = some (.int .i64 M.left) ∧ w'.cell? ⟨w.heap.size + 1, 2, none⟩ = some (.slice q D.length e)) :=
    fun w' hb => ⟨(hN4.belowP hb qN).cell 0, (hN4.belowP hb qN).cell 1, (hN4.belowP hb qN).cell 2, (hN4.belowP hb qN).cell 3, (hN4.belowP hb qN).cell 4, (hN4.belowP hb qN).cell 5, (hO4.belowP hb qO).cell 2⟩
  have hS1 := HS.out W4.drew (BelowP.refl _ _ W4).drew
  have HB4 := Lib.hid hB4
  have HR4 := Lib.hid hR4
  have HD4 := Lib.hid hD4
  have QR := Lib.hid qR
  have QN := Lib.hid qN
  have HN4 := Lib.hid hN4
  clear hB4 hO4 hR4 hN4 hD4 qO qR qN
  refine wp_region_held_drew (S := fun w' => w'.cell? ⟨w3.heap.size, 0, none⟩ = some (.int .i64 M.room) ∧ w'.cell? ⟨w3.heap.size, 1, none⟩ = some (.string (strOfNums M.S)) ∧ w'.cell? ⟨w3.heap.size, 2, none⟩ = some (.string (strOfNums M.R)) ∧ w'.cell? ⟨w3.heap.size, 3, none⟩ = some (.bool M.nw) ∧ w'.cell? ⟨w3.heap.size, 4, none⟩ = some (.bool M.dn) ∧ w'.cell? ⟨w3.heap.size, 5, none⟩ = some (.int .i64 M.left) ∧ w'.cell? ⟨w.heap.size + 1, 2, none⟩ = some (.slice q D.length e)) (by kernel_rfl) hS1 (fun hS0 => ?_)
  refine wpAnyH_take (i := 0) (v := ?_) rfl (by kernel_rfl) (by kernel_rfl) (by kernel_rfl) (fun _ _ _ h => h) (Or.inl ⟨by kernel_rfl, ?_⟩) (by first | assumption | trivial) ?_
  rotate_left
  · intro w hSw
    try dsimp only at hSw
    first | (go_simp; done) | (go_simp; with_reducible rfl)
  try simp only [Act.put, List.getElem_toArray, List.getElem_cons_succ, List.getElem_cons_zero, List.setIfInBounds_toArray, List.set_cons_zero, List.set_cons_succ]
  refine wpAnyH_take (i := 1) (v := ?_) rfl (by kernel_rfl) (by kernel_rfl) (by kernel_rfl) (fun _ _ _ h => h) (Or.inl ⟨by kernel_rfl, ?_⟩) (by first | assumption | trivial) ?_
  rotate_left
  · intro w hSw
    try dsimp only at hSw
    first | (go_simp; done) | (go_simp; with_reducible rfl)
  try simp only [Act.put, List.getElem_toArray, List.getElem_cons_succ, List.getElem_cons_zero, List.setIfInBounds_toArray, List.set_cons_zero, List.set_cons_succ]
  refine wpAnyH_take (i := 3) (v := ?_) rfl (by kernel_rfl) (by kernel_rfl) (by kernel_rfl) (fun _ _ _ h => h) (Or.inl ⟨by kernel_rfl, ?_⟩) (by first | assumption | trivial) ?_
  rotate_left
  · intro w hSw
    try dsimp only at hSw
    first | (go_simp; done) | (go_simp; with_reducible rfl)
  try simp only [Act.put, List.getElem_toArray, List.getElem_cons_succ, List.getElem_cons_zero, List.setIfInBounds_toArray, List.set_cons_zero, List.set_cons_succ]
  refine wpAnyH_ready (rs := [2]) (by kernel_rfl) (by simp) ?_
  refine AllReadyH.cons rfl (fun K hK => ?_) AllReadyH.nil
  go_simp
  go_at_call 24
  refine (sync_anyP _ W4.drew base g d HD4.out).mono ?_
  rintro y w5 ⟨rfl, hd5, hb5⟩
  have HD5 := Lib.hid hd5
  have hb6 := (BelowP.refl _ _ W4).drew.trans hb5
  have HB5 := Lib.hid hb6
  clear hd5 hb5 hb6
  try go_wp2_with fail
  refine hK.out _ _ (HS.out w5 HB5.out) (fun hS => ?_)
  clear hK K
  try simp only [Act.put, List.getElem_toArray, List.getElem_cons_succ, List.getElem_cons_zero, List.setIfInBounds_toArray, List.set_cons_zero, List.set_cons_succ]
  refine wpAnyH_take (i := 4) (v := ?_) rfl (by kernel_rfl) (by kernel_rfl) (by kernel_rfl) (fun _ _ _ h => h) (Or.inl ⟨by kernel_rfl, ?_⟩) (by first | assumption | trivial) ?_
  rotate_left
  · intro w hSw
    try dsimp only at hSw
    first | (go_simp; done) | (go_simp; with_reducible rfl)
  try simp only [Act.put, List.getElem_toArray, List.getElem_cons_succ, List.getElem_cons_zero, List.setIfInBounds_toArray, List.set_cons_zero, List.set_cons_succ]
  have hR5 := HR4.out.belowP HB5.out QR.out
  have hN5 := HN4.out.belowP HB5.out QN.out
  have r0 : w5.cell? ⟨w.heap.size + 1 + 1, 0, none⟩ = some (.int .i64 0) := hR5.cell 0
  have fr0 := hR5.free 0
  have r1 : w5.cell? ⟨w.heap.size + 1 + 1, 1, none⟩ = some (.string ⟨#[]⟩) := hR5.cell 1
  have fr1 := hR5.free 1
  have r2 : w5.cell? ⟨w.heap.size + 1 + 1, 2, none⟩ = some (.string ⟨#[]⟩) := hR5.cell 2
  have fr2 := hR5.free 2
  have r3 : w5.cell? ⟨w.heap.size + 1 + 1, 3, none⟩ = some (.bool false) := hR5.cell 3
  have fr3 := hR5.free 3
  have r4 : w5.cell? ⟨w.heap.size + 1 + 1, 4, none⟩ = some (.bool false) := hR5.cell 4
  have fr4 := hR5.free 4
  have r5 : w5.cell? ⟨w.heap.size + 1 + 1, 5, none⟩ = some (.int .i64 0) := hR5.cell 5
  have fr5 := hR5.free 5
  have lR := hR5.lt
  have HR5 := Lib.hid hR5
  have HN5 := Lib.hid hN5
  clear hR5 hN5
  have hN6 : Blk ((((((w5.setCell ⟨w.heap.size + 1 + 1, 0, none⟩ (.int .i64 M.room)).setCell ⟨w.heap.size + 1 + 1, 1, none⟩ (.string (strOfNums M.S))).setCell ⟨w.heap.size + 1 + 1, 2, none⟩ (.string (strOfNums M.R))).setCell ⟨w.heap.size + 1 + 1, 3, none⟩ (.bool M.nw)).setCell ⟨w.heap.size + 1 + 1, 4, none⟩ (.bool M.dn)).setCell ⟨w.heap.size + 1 + 1, 5, none⟩ (.int .i64 M.left)) w3.heap.size #[.int .i64 M.room, .string (strOfNums M.S), .string (strOfNums M.R), .bool M.nw, .bool M.dn, .int .i64 M.left] 58 := ((((((HN5.out.setOther (a := ⟨w.heap.size + 1 + 1, 0, none⟩) (Ne.symm hne) _).setOther (a := ⟨w.heap.size + 1 + 1, 1, none⟩) (Ne.symm hne) _).setOther (a := ⟨w.heap.size + 1 + 1, 2, none⟩) (Ne.symm hne) _).setOther (a := ⟨w.heap.size + 1 + 1, 3, none⟩) (Ne.symm hne) _).setOther (a := ⟨w.heap.size + 1 + 1, 4, none⟩) (Ne.symm hne) _).setOther (a := ⟨w.heap.size + 1 + 1, 5, none⟩) (Ne.symm hne) _)
  have hO6 : ((((((w5.setCell ⟨w.heap.size + 1 + 1, 0, none⟩ (.int .i64 M.room)).setCell ⟨w.heap.size + 1 + 1, 1, none⟩ (.string (strOfNums M.S))).setCell ⟨w.heap.size + 1 + 1, 2, none⟩ (.string (strOfNums M.R))).setCell ⟨w.heap.size + 1 + 1, 3, none⟩ (.bool M.nw)).setCell ⟨w.heap.size + 1 + 1, 4, none⟩ (.bool M.dn)).setCell ⟨w.heap.size + 1 + 1, 5, none⟩ (.int .i64 M.left)).cell? ⟨w.heap.size + 1, 2, none⟩ = some (.slice q D.length e) := by
    have hc : Chg (w.heap.size + 1 + 1) w5 ((((((w5.setCell ⟨w.heap.size + 1 + 1, 0, none⟩ (.int .i64 M.room)).setCell ⟨w.heap.size + 1 + 1, 1, none⟩ (.string (strOfNums M.S))).setCell ⟨w.heap.size + 1 + 1, 2, none⟩ (.string (strOfNums M.R))).setCell ⟨w.heap.size + 1 + 1, 3, none⟩ (.bool M.nw)).setCell ⟨w.heap.size + 1 + 1, 4, none⟩ (.bool M.dn)).setCell ⟨w.heap.size + 1 + 1, 5, none⟩ (.int .i64 M.left)) := (((((((Chg.refl (w.heap.size + 1 + 1) w5).set 0 _).set 1 _).set 2 _).set 3 _).set 4 _).set 5 _)
    exact (hc.cell (a := ⟨w.heap.size + 1, 2, none⟩) (by show w.heap.size + 1 < _; omega) (by show w.heap.size + 1 ≠ _; omega)).trans hS.2.2.2.2.2.2
  have hS6 := And.intro (hN6.cell 0) (And.intro (hN6.cell 1) (And.intro (hN6.cell 2) (And.intro (hN6.cell 3) (And.intro (hN6.cell 4) (And.intro (hN6.cell 5) hO6)))))
  clear hN6 hO6
  refine wpAnyH_ready (rs := [5]) (by kernel_rfl) (by simp) ?_
  refine AllReadyH.cons rfl (fun K hK => ?_) AllReadyH.nil
  go_simp
  refine hK.out _ _ hS6 (fun hS => ?_)
  clear hK K
  try simp only [Act.put, List.getElem_toArray, List.getElem_cons_succ, List.getElem_cons_zero, List.setIfInBounds_toArray, List.set_cons_zero, List.set_cons_succ]
  refine wpAnyH_take (i := 6) (v := ?_) rfl (by kernel_rfl) (by kernel_rfl) (by kernel_rfl) (fun _ _ _ h => h) (Or.inl ⟨by kernel_rfl, ?_⟩) (by first | assumption | trivial) ?_
  rotate_left
  · intro w hSw
    try dsimp only at hSw
    first | (go_simp; done) | (go_simp; with_reducible rfl)
  try simp only [Act.put, List.getElem_toArray, List.getElem_cons_succ, List.getElem_cons_zero, List.setIfInBounds_toArray, List.set_cons_zero, List.set_cons_succ]
  refine wpAnyH_done (by kernel_rfl) ?_ _
  have hf : Blk ((((((w5.setCell ⟨w.heap.size + 1 + 1, 0, none⟩ (.int .i64 M.room)).setCell ⟨w.heap.size + 1 + 1, 1, none⟩ (.string (strOfNums M.S))).setCell ⟨w.heap.size + 1 + 1, 2, none⟩ (.string (strOfNums M.R))).setCell ⟨w.heap.size + 1 + 1, 3, none⟩ (.bool M.nw)).setCell ⟨w.heap.size + 1 + 1, 4, none⟩ (.bool M.dn)).setCell ⟨w.heap.size + 1 + 1, 5, none⟩ (.int .i64 M.left)) (w.heap.size + 1 + 1) #[.int .i64 M.room, .string (strOfNums M.S), .string (strOfNums M.R), .bool M.nw, .bool M.dn, .int .i64 M.left] 58 := ((((((HR5.out.set 0 (.int .i64 M.room)).set 1 (.string (strOfNums M.S))).set 2 (.string (strOfNums M.R))).set 3 (.bool M.nw)).set 4 (.bool M.dn)).set 5 (.int .i64 M.left))
  have hc : Chg (w.heap.size + 1 + 1) w5 ((((((w5.setCell ⟨w.heap.size + 1 + 1, 0, none⟩ (.int .i64 M.room)).setCell ⟨w.heap.size + 1 + 1, 1, none⟩ (.string (strOfNums M.S))).setCell ⟨w.heap.size + 1 + 1, 2, none⟩ (.string (strOfNums M.R))).setCell ⟨w.heap.size + 1 + 1, 3, none⟩ (.bool M.nw)).setCell ⟨w.heap.size + 1 + 1, 4, none⟩ (.bool M.dn)).setCell ⟨w.heap.size + 1 + 1, 5, none⟩ (.int .i64 M.left)) := (((((((Chg.refl (w.heap.size + 1 + 1) w5).set 0 _).set 1 _).set 2 _).set 3 _).set 4 _).set 5 _)
  have HF := Lib.hid hf
  have HC := Lib.hid hc
  have HR : Hid (BelowP P base w ((((((w5.setCell ⟨w.heap.size + 1 + 1, 0, none⟩ (.int .i64 M.room)).setCell ⟨w.heap.size + 1 + 1, 1, none⟩ (.string (strOfNums M.S))).setCell ⟨w.heap.size + 1 + 1, 2, none⟩ (.string (strOfNums M.R))).setCell ⟨w.heap.size + 1 + 1, 3, none⟩ (.bool M.nw)).setCell ⟨w.heap.size + 1 + 1, 4, none⟩ (.bool M.dn)).setCell ⟨w.heap.size + 1 + 1, 5, none⟩ (.int .i64 M.left)) ∧ Dkp P ((((((w5.setCell ⟨w.heap.size + 1 + 1, 0, none⟩ (.int .i64 M.room)).setCell ⟨w.heap.size + 1 + 1, 1, none⟩ (.string (strOfNums M.S))).setCell ⟨w.heap.size + 1 + 1, 2, none⟩ (.string (strOfNums M.R))).setCell ⟨w.heap.size + 1 + 1, 3, none⟩ (.bool M.nw)).setCell ⟨w.heap.size + 1 + 1, 4, none⟩ (.bool M.dn)).setCell ⟨w.heap.size + 1 + 1, 5, none⟩ (.int .i64 M.left)) base g (d.syncD)) := by
    refine ⟨?_, ?_⟩
    · have h1 : BelowP P base w w5 := (BelowP.of HB4.out hba).trans (HB5.out.weak fun b hb => .inl hb)
      exact ⟨h1.1.trans (hc.below (by omega) (by have := h1.1.size; omega)), fun b hb hl => (hc.2 b (by have := h1.1.size; omega) (by omega)).trans (h1.2 b hb hl)⟩
    · exact (HD5.out.chg QR.out hc).weak fun b hb => .inl hb
  clear hf hc
  go_wp2_with fail
  refine bodyPost_ret (v := .tuple #[.agg #[.int .i64 M.room, .string (strOfNums M.S), .string (strOfNums M.R), .bool M.nw, .bool M.dn, .int .i64 M.left], .bool (decide (d.syncE = eW))]) (by simp [results, Try.results21, go_sem, HF.out.cell 0, HF.out.cell 1, HF.out.cell 2, HF.out.cell 3, HF.out.cell 4, HF.out.cell 5, dec_beq]) rfl ⟨rfl, HR.out.2, HR.out.1⟩
set_option linter.unusedSimpArgs false in
set_option maxHeartbeats 4000000 in
set_option maxRecDepth 100000 in
theorem do_fuseN (P : Nat → Prop) (w : World) (base g : Nat) (d m : DSt) (nn tt : Int) (D : List Int) (q : Option Addr) (e : Nat) (h : Dkp P w base g d) (hm : m.Ok) (bn : -9223372036854775808 ≤ nn ∧ nn ≤ 9223372036854775807) (hn : nn < 0) :
    Calls Try.prog 21 #[.pointer (some ⟨g, 0, none⟩), refV m, .agg #[.int .i64 3, .int .i64 nn, .slice q D.length e, .int .u8 tt]] w (DoPost P base g d m 3 nn D tt w) := by
  have hlt : g < w.heap.size := h.dk.lt
  have hba : base ≤ w.heap.size := by obtain ⟨_, _, _, _, _, _, _, _, hb, _⟩ := h; omega
  have HD := Lib.hid h
  have HM := Lib.hid hm
  have eM : opM m 3 nn D tt = m.fuseD (nrm nn) := rfl
  have eD : opD d 3 nn D tt = d.fuseD nn := rfl
  have eE : ∀ x : DSt, opE x 3 D.length = 0 := fun _ => rfl
  unfold DoPost
  rw [eM, eD, eE, eE]
  clear eM eD eE h hm
  unfold refV cellsR
  have hm : m.fuseD (nrm nn) = { m with left := -1 } := by unfold DSt.fuseD nrm; rw [if_pos hn]
  rw [hm]
  clear hm
  go_enter Try.func21, Try.ntmps21
  go_wp2_with fail
  generalize hW1 : (((w.alloc (.cells #[.int .i64 m.room, .string (strOfNums m.S), .string (strOfNums m.R), .bool m.nw, .bool m.dn, .int .i64 m.left] 58)).alloc (.cells #[.int .i64 3, .int .i64 nn, .slice q D.length e, .int .u8 tt] 61)).alloc (.cells #[.int .i64 0, .string ⟨#[]⟩, .string ⟨#[]⟩, .bool false, .bool false, .int .i64 0] 58)) = W1
  have hB1 : Below w.heap.size w W1 := by rw [← hW1]; exact ((oneB w _).alloc (by simp) _).alloc (by simp; omega) _
  have hM1 : Blk W1 w.heap.size #[.int .i64 m.room, .string (strOfNums m.S), .string (strOfNums m.R), .bool m.nw, .bool m.dn, .int .i64 m.left] 58 := by rw [← hW1]; exact ((Blk.new w _ _).alloc _).alloc _
  have hO1 : Blk W1 (w.heap.size + 1) #[.int .i64 3, .int .i64 nn, .slice q D.length e, .int .u8 tt] 61 := by rw [← hW1]; exact (Blk.new' _ _ _ (by simp)).alloc _
  have hR1 : Blk W1 (w.heap.size + 1 + 1) #[.int .i64 0, .string ⟨#[]⟩, .string ⟨#[]⟩, .bool false, .bool false, .int .i64 0] 58 := by rw [← hW1]; exact Blk.new' _ _ _ (by simp)
  have hD1 : Dkp (since P w W1) W1 base g d := HD.out.since hB1
  have qM : since P w W1 w.heap.size := .inr ⟨by omega, hM1.lt⟩
  have qO : since P w W1 (w.heap.size + 1) := .inr ⟨by omega, hO1.lt⟩
  have qR : since P w W1 (w.heap.size + 1 + 1) := .inr ⟨by omega, hR1.lt⟩
  have o1 : W1.cell? ⟨w.heap.size + 1, 1, none⟩ = some (.int .i64 nn) := hO1.cell 1
  have o3 : W1.cell? ⟨w.heap.size + 1, 3, none⟩ = some (.int .u8 tt) := hO1.cell 3
  clear hW1
  refine (fuse_anyP _ W1 base g d nn bn.1 bn.2 hD1).mono ?_
  rintro y w5 ⟨rfl, hd5, hb5⟩
  have HD5 := Lib.hid hd5
  have HB5 := Lib.hid hb5
  have hM5 := hM1.belowP hb5 qM
  have hO5 := hO1.belowP hb5 qO
  have hR5 := hR1.belowP hb5 qR
  clear hd5 hb5 o1 o3
  have o1 : w5.cell? ⟨w.heap.size + 1, 1, none⟩ = some (.int .i64 nn) := hO5.cell 1
  have o3 : w5.cell? ⟨w.heap.size + 1, 3, none⟩ = some (.int .u8 tt) := hO5.cell 3
  have p0 : w5.cell? ⟨w.heap.size, 0, none⟩ = some (.int .i64 m.room) := hM5.cell 0
  have fp0 := hM5.free 0
  have p1 : w5.cell? ⟨w.heap.size, 1, none⟩ = some (.string (strOfNums m.S)) := hM5.cell 1
  have fp1 := hM5.free 1
  have p2 : w5.cell? ⟨w.heap.size, 2, none⟩ = some (.string (strOfNums m.R)) := hM5.cell 2
  have fp2 := hM5.free 2
  have p3 : w5.cell? ⟨w.heap.size, 3, none⟩ = some (.bool m.nw) := hM5.cell 3
  have fp3 := hM5.free 3
  have p4 : w5.cell? ⟨w.heap.size, 4, none⟩ = some (.bool m.dn) := hM5.cell 4
  have fp4 := hM5.free 4
  have p5 : w5.cell? ⟨w.heap.size, 5, none⟩ = some (.int .i64 m.left) := hM5.cell 5
  have fp5 := hM5.free 5
  have lp := hM5.lt
  have r0 : w5.cell? ⟨w.heap.size + 1 + 1, 0, none⟩ = some (.int .i64 0) := hR5.cell 0
  have fr0 := hR5.free 0
  have r1 : w5.cell? ⟨w.heap.size + 1 + 1, 1, none⟩ = some (.string ⟨#[]⟩) := hR5.cell 1
  have fr1 := hR5.free 1
  have r2 : w5.cell? ⟨w.heap.size + 1 + 1, 2, none⟩ = some (.string ⟨#[]⟩) := hR5.cell 2
  have fr2 := hR5.free 2
  have r3 : w5.cell? ⟨w.heap.size + 1 + 1, 3, none⟩ = some (.bool false) := hR5.cell 3
  have fr3 := hR5.free 3
  have r4 : w5.cell? ⟨w.heap.size + 1 + 1, 4, none⟩ = some (.bool false) := hR5.cell 4
  have fr4 := hR5.free 4
  have r5 : w5.cell? ⟨w.heap.size + 1 + 1, 5, none⟩ = some (.int .i64 0) := hR5.cell 5
  have fr5 := hR5.free 5
  have lr := hR5.lt
  have HM5 := Lib.hid hM5
  have HR5 := Lib.hid hR5
  have HB1 := Lib.hid hB1
  have QR := Lib.hid qR
  have QM := Lib.hid qM
  clear hM5 hO5 hR5 hB1 hM1 hO1 hR1 hD1 qM qO qR
  go_wp2_with fail
  have hf : Blk ((((((((w5.setCell ⟨w.heap.size, 5, none⟩ (.int .i64 nn)).setCell ⟨w.heap.size, 5, none⟩ (.int .i64 (-1))).setCell ⟨w.heap.size + 1 + 1, 0, none⟩ (.int .i64 m.room)).setCell ⟨w.heap.size + 1 + 1, 1, none⟩ (.string (strOfNums m.S))).setCell ⟨w.heap.size + 1 + 1, 2, none⟩ (.string (strOfNums m.R))).setCell ⟨w.heap.size + 1 + 1, 3, none⟩ (.bool m.nw)).setCell ⟨w.heap.size + 1 + 1, 4, none⟩ (.bool m.dn)).setCell ⟨w.heap.size + 1 + 1, 5, none⟩ (.int .i64 (-1))) (w.heap.size + 1 + 1) #[.int .i64 m.room, .string (strOfNums m.S), .string (strOfNums m.R), .bool m.nw, .bool m.dn, .int .i64 (-1)] 58 := ((((((((HR5.out.setOther (a := ⟨w.heap.size, 5, none⟩) (by simp; omega) _).setOther (a := ⟨w.heap.size, 5, none⟩) (by simp; omega) _).set 0 _).set 1 _).set 2 _).set 3 _).set 4 _).set 5 _)
  have hc2 : Chg (w.heap.size + 1 + 1) ((w5.setCell ⟨w.heap.size, 5, none⟩ (.int .i64 nn)).setCell ⟨w.heap.size, 5, none⟩ (.int .i64 (-1))) ((((((((w5.setCell ⟨w.heap.size, 5, none⟩ (.int .i64 nn)).setCell ⟨w.heap.size, 5, none⟩ (.int .i64 (-1))).setCell ⟨w.heap.size + 1 + 1, 0, none⟩ (.int .i64 m.room)).setCell ⟨w.heap.size + 1 + 1, 1, none⟩ (.string (strOfNums m.S))).setCell ⟨w.heap.size + 1 + 1, 2, none⟩ (.string (strOfNums m.R))).setCell ⟨w.heap.size + 1 + 1, 3, none⟩ (.bool m.nw)).setCell ⟨w.heap.size + 1 + 1, 4, none⟩ (.bool m.dn)).setCell ⟨w.heap.size + 1 + 1, 5, none⟩ (.int .i64 (-1))) := (((((((Chg.refl (w.heap.size + 1 + 1) ((w5.setCell ⟨w.heap.size, 5, none⟩ (.int .i64 nn)).setCell ⟨w.heap.size, 5, none⟩ (.int .i64 (-1)))).set 0 _).set 1 _).set 2 _).set 3 _).set 4 _).set 5 _)
  have hR := far_end HB1.out HB5.out hba HD5.out QM.out QR.out (Nat.le_refl _) (by omega) (((Chg.refl w.heap.size w5).set 5 _).set 5 _) hc2
  refine bodyPost_ret (v := .tuple #[.agg #[.int .i64 m.room, .string (strOfNums m.S), .string (strOfNums m.R), .bool m.nw, .bool m.dn, .int .i64 (-1)], .bool true]) (by simp [results, Try.results21, go_sem, hf.cell 0, hf.cell 1, hf.cell 2, hf.cell 3, hf.cell 4, hf.cell 5]) rfl ⟨rfl, hR.1, hR.2⟩
set_option linter.unusedSimpArgs false in
set_option maxHeartbeats 4000000 in
set_option maxRecDepth 100000 in
theorem do_fuseP (P : Nat → Prop) (w : World) (base g : Nat) (d m : DSt) (nn tt : Int) (D : List Int) (q : Option Addr) (e : Nat) (h : Dkp P w base g d) (hm : m.Ok) (bn : -9223372036854775808 ≤ nn ∧ nn ≤ 9223372036854775807) (hn : ¬ nn < 0) :
    Calls Try.prog 21 #[.pointer (some ⟨g, 0, none⟩), refV m, .agg #[.int .i64 3, .int .i64 nn, .slice q D.length e, .int .u8 tt]] w (DoPost P base g d m 3 nn D tt w) := by
  have hlt : g < w.heap.size := h.dk.lt
  have hba : base ≤ w.heap.size := by obtain ⟨_, _, _, _, _, _, _, _, hb, _⟩ := h; omega
  have HD := Lib.hid h
  have HM := Lib.hid hm
  have eM : opM m 3 nn D tt = m.fuseD (nrm nn) := rfl
  have eD : opD d 3 nn D tt = d.fuseD nn := rfl
  have eE : ∀ x : DSt, opE x 3 D.length = 0 := fun _ => rfl
  unfold DoPost
  rw [eM, eD, eE, eE]
  clear eM eD eE h hm
  unfold refV cellsR
  have hm : m.fuseD (nrm nn) = { m with left := nn } := by unfold DSt.fuseD nrm; rw [if_neg hn]
  rw [hm]
  clear hm
  go_enter Try.func21, Try.ntmps21
  go_wp2_with fail
  generalize hW1 : (((w.alloc (.cells #[.int .i64 m.room, .string (strOfNums m.S), .string (strOfNums m.R), .bool m.nw, .bool m.dn, .int .i64 m.left] 58)).alloc (.cells #[.int .i64 3, .int .i64 nn, .slice q D.length e, .int .u8 tt] 61)).alloc (.cells #[.int .i64 0, .string ⟨#[]⟩, .string ⟨#[]⟩, .bool false, .bool false, .int .i64 0] 58)) = W1
  have hB1 : Below w.heap.size w W1 := by rw [← hW1]; exact ((oneB w _).alloc (by simp) _).alloc (by simp; omega) _
  have hM1 : Blk W1 w.heap.size #[.int .i64 m.room, .string (strOfNums m.S), .string (strOfNums m.R), .bool m.nw, .bool m.dn, .int .i64 m.left] 58 := by rw [← hW1]; exact ((Blk.new w _ _).alloc _).alloc _
  have hO1 : Blk W1 (w.heap.size + 1) #[.int .i64 3, .int .i64 nn, .slice q D.length e, .int .u8 tt] 61 := by rw [← hW1]; exact (Blk.new' _ _ _ (by simp)).alloc _
  have hR1 : Blk W1 (w.heap.size + 1 + 1) #[.int .i64 0, .string ⟨#[]⟩, .string ⟨#[]⟩, .bool false, .bool false, .int .i64 0] 58 := by rw [← hW1]; exact Blk.new' _ _ _ (by simp)
  have hD1 : Dkp (since P w W1) W1 base g d := HD.out.since hB1
  have qM : since P w W1 w.heap.size := .inr ⟨by omega, hM1.lt⟩
  have qO : since P w W1 (w.heap.size + 1) := .inr ⟨by omega, hO1.lt⟩
  have qR : since P w W1 (w.heap.size + 1 + 1) := .inr ⟨by omega, hR1.lt⟩
  have o1 : W1.cell? ⟨w.heap.size + 1, 1, none⟩ = some (.int .i64 nn) := hO1.cell 1
  have o3 : W1.cell? ⟨w.heap.size + 1, 3, none⟩ = some (.int .u8 tt) := hO1.cell 3
  clear hW1
  refine (fuse_anyP _ W1 base g d nn bn.1 bn.2 hD1).mono ?_
  rintro y w5 ⟨rfl, hd5, hb5⟩
  have HD5 := Lib.hid hd5
  have HB5 := Lib.hid hb5
  have hM5 := hM1.belowP hb5 qM
  have hO5 := hO1.belowP hb5 qO
  have hR5 := hR1.belowP hb5 qR
  clear hd5 hb5 o1 o3
  have o1 : w5.cell? ⟨w.heap.size + 1, 1, none⟩ = some (.int .i64 nn) := hO5.cell 1
  have o3 : w5.cell? ⟨w.heap.size + 1, 3, none⟩ = some (.int .u8 tt) := hO5.cell 3
  have p0 : w5.cell? ⟨w.heap.size, 0, none⟩ = some (.int .i64 m.room) := hM5.cell 0
  have fp0 := hM5.free 0
  have p1 : w5.cell? ⟨w.heap.size, 1, none⟩ = some (.string (strOfNums m.S)) := hM5.cell 1
  have fp1 := hM5.free 1
  have p2 : w5.cell? ⟨w.heap.size, 2, none⟩ = some (.string (strOfNums m.R)) := hM5.cell 2
  have fp2 := hM5.free 2
  have p3 : w5.cell? ⟨w.heap.size, 3, none⟩ = some (.bool m.nw) := hM5.cell 3
  have fp3 := hM5.free 3
  have p4 : w5.cell? ⟨w.heap.size, 4, none⟩ = some (.bool m.dn) := hM5.cell 4
  have fp4 := hM5.free 4
  have p5 : w5.cell? ⟨w.heap.size, 5, none⟩ = some (.int .i64 m.left) := hM5.cell 5
  have fp5 := hM5.free 5
  have lp := hM5.lt
  have r0 : w5.cell? ⟨w.heap.size + 1 + 1, 0, none⟩ = some (.int .i64 0) := hR5.cell 0
  have fr0 := hR5.free 0
  have r1 : w5.cell? ⟨w.heap.size + 1 + 1, 1, none⟩ = some (.string ⟨#[]⟩) := hR5.cell 1
  have fr1 := hR5.free 1
  have r2 : w5.cell? ⟨w.heap.size + 1 + 1, 2, none⟩ = some (.string ⟨#[]⟩) := hR5.cell 2
  have fr2 := hR5.free 2
  have r3 : w5.cell? ⟨w.heap.size + 1 + 1, 3, none⟩ = some (.bool false) := hR5.cell 3
  have fr3 := hR5.free 3
  have r4 : w5.cell? ⟨w.heap.size + 1 + 1, 4, none⟩ = some (.bool false) := hR5.cell 4
  have fr4 := hR5.free 4
  have r5 : w5.cell? ⟨w.heap.size + 1 + 1, 5, none⟩ = some (.int .i64 0) := hR5.cell 5
  have fr5 := hR5.free 5
  have lr := hR5.lt
  have HM5 := Lib.hid hM5
  have HR5 := Lib.hid hR5
  have HB1 := Lib.hid hB1
  have QR := Lib.hid qR
  have QM := Lib.hid qM
  clear hM5 hO5 hR5 hB1 hM1 hO1 hR1 hD1 qM qO qR
  go_wp2_with fail
  have hf : Blk (((((((w5.setCell ⟨w.heap.size, 5, none⟩ (.int .i64 nn)).setCell ⟨w.heap.size + 1 + 1, 0, none⟩ (.int .i64 m.room)).setCell ⟨w.heap.size + 1 + 1, 1, none⟩ (.string (strOfNums m.S))).setCell ⟨w.heap.size + 1 + 1, 2, none⟩ (.string (strOfNums m.R))).setCell ⟨w.heap.size + 1 + 1, 3, none⟩ (.bool m.nw)).setCell ⟨w.heap.size + 1 + 1, 4, none⟩ (.bool m.dn)).setCell ⟨w.heap.size + 1 + 1, 5, none⟩ (.int .i64 nn)) (w.heap.size + 1 + 1) #[.int .i64 m.room, .string (strOfNums m.S), .string (strOfNums m.R), .bool m.nw, .bool m.dn, .int .i64 nn] 58 := (((((((HR5.out.setOther (a := ⟨w.heap.size, 5, none⟩) (by simp; omega) _).set 0 _).set 1 _).set 2 _).set 3 _).set 4 _).set 5 _)
  have hc2 : Chg (w.heap.size + 1 + 1) (w5.setCell ⟨w.heap.size, 5, none⟩ (.int .i64 nn)) (((((((w5.setCell ⟨w.heap.size, 5, none⟩ (.int .i64 nn)).setCell ⟨w.heap.size + 1 + 1, 0, none⟩ (.int .i64 m.room)).setCell ⟨w.heap.size + 1 + 1, 1, none⟩ (.string (strOfNums m.S))).setCell ⟨w.heap.size + 1 + 1, 2, none⟩ (.string (strOfNums m.R))).setCell ⟨w.heap.size + 1 + 1, 3, none⟩ (.bool m.nw)).setCell ⟨w.heap.size + 1 + 1, 4, none⟩ (.bool m.dn)).setCell ⟨w.heap.size + 1 + 1, 5, none⟩ (.int .i64 nn)) := (((((((Chg.refl (w.heap.size + 1 + 1) (w5.setCell ⟨w.heap.size, 5, none⟩ (.int .i64 nn))).set 0 _).set 1 _).set 2 _).set 3 _).set 4 _).set 5 _)
  have hR := far_end HB1.out HB5.out hba HD5.out QM.out QR.out (Nat.le_refl _) (by omega) ((Chg.refl w.heap.size w5).set 5 _) hc2
  refine bodyPost_ret (v := .tuple #[.agg #[.int .i64 m.room, .string (strOfNums m.S), .string (strOfNums m.R), .bool m.nw, .bool m.dn, .int .i64 nn], .bool true]) (by simp [results, Try.results21, go_sem, hf.cell 0, hf.cell 1, hf.cell 2, hf.cell 3, hf.cell 4, hf.cell 5]) rfl ⟨rfl, hR.1, hR.2⟩
set_option linter.unusedSimpArgs false in
set_option maxHeartbeats 4000000 in
set_option maxRecDepth 100000 in
theorem do_crash (P : Nat → Prop) (w : World) (base g : Nat) (d m : DSt) (nn tt : Int) (D : List Int) (q : Option Addr) (e : Nat) (h : Dkp P w base g d) (hm : m.Ok) (hf : d.Fits) (bn : -9223372036854775808 ≤ nn ∧ nn ≤ 9223372036854775807) (bt : 0 ≤ tt ∧ tt < 256) :
    Calls Try.prog 21 #[.pointer (some ⟨g, 0, none⟩), refV m, .agg #[.int .i64 4, .int .i64 nn, .slice q D.length e, .int .u8 tt]] w (DoPost P base g d m 4 nn D tt w) := by
  have hlt : g < w.heap.size := h.dk.lt
  have hba : base ≤ w.heap.size := by obtain ⟨_, _, _, _, _, _, _, _, hb, _⟩ := h; omega
  have HD := Lib.hid h
  have HM := Lib.hid hm
  have eM : opM m 4 nn D tt = m.crashD nn tt := rfl
  have eD : opD d 4 nn D tt = d.crashD nn tt := rfl
  have eE : ∀ x : DSt, opE x 4 D.length = 0 := fun _ => rfl
  unfold DoPost
  rw [eM, eD, eE, eE]
  clear eM eD eE h hm
  unfold refV cellsR
  have HRW := Lib.hid (fun (w' : World) => refcrash_any m nn tt bn bt HM.out w')
  generalize m.crashD nn tt = M at *
  unfold refV cellsR at HRW
  go_enter Try.func21, Try.ntmps21
  go_wp2_with fail
  generalize hW1 : (((w.alloc (.cells #[.int .i64 m.room, .string (strOfNums m.S), .string (strOfNums m.R), .bool m.nw, .bool m.dn, .int .i64 m.left] 58)).alloc (.cells #[.int .i64 4, .int .i64 nn, .slice q D.length e, .int .u8 tt] 61)).alloc (.cells #[.int .i64 0, .string ⟨#[]⟩, .string ⟨#[]⟩, .bool false, .bool false, .int .i64 0] 58)) = W1
  have hB1 : Below w.heap.size w W1 := by rw [← hW1]; exact ((oneB w _).alloc (by simp) _).alloc (by simp; omega) _
  have hM1 : Blk W1 w.heap.size #[.int .i64 m.room, .string (strOfNums m.S), .string (strOfNums m.R), .bool m.nw, .bool m.dn, .int .i64 m.left] 58 := by rw [← hW1]; exact ((Blk.new w _ _).alloc _).alloc _
  have hO1 : Blk W1 (w.heap.size + 1) #[.int .i64 4, .int .i64 nn, .slice q D.length e, .int .u8 tt] 61 := by rw [← hW1]; exact (Blk.new' _ _ _ (by simp)).alloc _
  have hR1 : Blk W1 (w.heap.size + 1 + 1) #[.int .i64 0, .string ⟨#[]⟩, .string ⟨#[]⟩, .bool false, .bool false, .int .i64 0] 58 := by rw [← hW1]; exact Blk.new' _ _ _ (by simp)
  have hD1 : Dkp (since P w W1) W1 base g d := HD.out.since hB1
  have qM : since P w W1 w.heap.size := .inr ⟨by omega, hM1.lt⟩
  have qO : since P w W1 (w.heap.size + 1) := .inr ⟨by omega, hO1.lt⟩
  have qR : since P w W1 (w.heap.size + 1 + 1) := .inr ⟨by omega, hR1.lt⟩
  have o1 : W1.cell? ⟨w.heap.size + 1, 1, none⟩ = some (.int .i64 nn) := hO1.cell 1
  have o3 : W1.cell? ⟨w.heap.size + 1, 3, none⟩ = some (.int .u8 tt) := hO1.cell 3
  clear hW1
  refine (crash_anyP _ W1 base g d nn tt bt hD1 hf).mono ?_
  rintro y w5 ⟨rfl, hd5, hb5⟩
  have HD5 := Lib.hid hd5
  have HB5 := Lib.hid hb5
  have hM5 := hM1.belowP hb5 qM
  have hO5 := hO1.belowP hb5 qO
  have hR5 := hR1.belowP hb5 qR
  clear hd5 hb5 o1 o3
  have o1 : w5.cell? ⟨w.heap.size + 1, 1, none⟩ = some (.int .i64 nn) := hO5.cell 1
  have o3 : w5.cell? ⟨w.heap.size + 1, 3, none⟩ = some (.int .u8 tt) := hO5.cell 3
  have p0 : w5.cell? ⟨w.heap.size, 0, none⟩ = some (.int .i64 m.room) := hM5.cell 0
  have fp0 := hM5.free 0
  have p1 : w5.cell? ⟨w.heap.size, 1, none⟩ = some (.string (strOfNums m.S)) := hM5.cell 1
  have fp1 := hM5.free 1
  have p2 : w5.cell? ⟨w.heap.size, 2, none⟩ = some (.string (strOfNums m.R)) := hM5.cell 2
  have fp2 := hM5.free 2
  have p3 : w5.cell? ⟨w.heap.size, 3, none⟩ = some (.bool m.nw) := hM5.cell 3
  have fp3 := hM5.free 3
  have p4 : w5.cell? ⟨w.heap.size, 4, none⟩ = some (.bool m.dn) := hM5.cell 4
  have fp4 := hM5.free 4
  have p5 : w5.cell? ⟨w.heap.size, 5, none⟩ = some (.int .i64 m.left) := hM5.cell 5
  have fp5 := hM5.free 5
  have lp := hM5.lt
  have HM5 := Lib.hid hM5
  have HO5 := Lib.hid hO5
  have HR5 := Lib.hid hR5
  have HB1 := Lib.hid hB1
  have QR := Lib.hid qR
  have QM := Lib.hid qM
  clear hM5 hO5 hR5 hB1 hM1 hO1 hR1 hD1 qM qO qR
  go_wp2_with fail
  refine (HRW.out _).mono ?_
  rintro y w6 ⟨rfl, hb6⟩
  have hM6 := HM5.out.below hb6 HM5.out.lt
  have hR6 := HR5.out.below hb6 HR5.out.lt
  have HB6 := Lib.hid hb6
  have HM6 := Lib.hid hM6
  have HR6 := Lib.hid hR6
  clear hb6
  have s0 : w6.cell? ⟨w.heap.size, 0, none⟩ = some (.int .i64 m.room) := hM6.cell 0
  have fs0 := hM6.free 0
  have s1 : w6.cell? ⟨w.heap.size, 1, none⟩ = some (.string (strOfNums m.S)) := hM6.cell 1
  have fs1 := hM6.free 1
  have s2 : w6.cell? ⟨w.heap.size, 2, none⟩ = some (.string (strOfNums m.R)) := hM6.cell 2
  have fs2 := hM6.free 2
  have s3 : w6.cell? ⟨w.heap.size, 3, none⟩ = some (.bool m.nw) := hM6.cell 3
  have fs3 := hM6.free 3
  have s4 : w6.cell? ⟨w.heap.size, 4, none⟩ = some (.bool m.dn) := hM6.cell 4
  have fs4 := hM6.free 4
  have s5 : w6.cell? ⟨w.heap.size, 5, none⟩ = some (.int .i64 m.left) := hM6.cell 5
  have fs5 := hM6.free 5
  have ls := hM6.lt
  have r0 : w6.cell? ⟨w.heap.size + 1 + 1, 0, none⟩ = some (.int .i64 0) := hR6.cell 0
  have fr0 := hR6.free 0
  have r1 : w6.cell? ⟨w.heap.size + 1 + 1, 1, none⟩ = some (.string ⟨#[]⟩) := hR6.cell 1
  have fr1 := hR6.free 1
  have r2 : w6.cell? ⟨w.heap.size + 1 + 1, 2, none⟩ = some (.string ⟨#[]⟩) := hR6.cell 2
  have fr2 := hR6.free 2
  have r3 : w6.cell? ⟨w.heap.size + 1 + 1, 3, none⟩ = some (.bool false) := hR6.cell 3
  have fr3 := hR6.free 3
  have r4 : w6.cell? ⟨w.heap.size + 1 + 1, 4, none⟩ = some (.bool false) := hR6.cell 4
  have fr4 := hR6.free 4
  have r5 : w6.cell? ⟨w.heap.size + 1 + 1, 5, none⟩ = some (.int .i64 0) := hR6.cell 5
  have fr5 := hR6.free 5
  have lr := hR6.lt
  clear hM6 hR6
  go_wp2_with fail
  have hf : Blk ((((((((((((w6.setCell ⟨w.heap.size, 0, none⟩ (.int .i64 M.room)).setCell ⟨w.heap.size, 1, none⟩ (.string (strOfNums M.S))).setCell ⟨w.heap.size, 2, none⟩ (.string (strOfNums M.R))).setCell ⟨w.heap.size, 3, none⟩ (.bool M.nw)).setCell ⟨w.heap.size, 4, none⟩ (.bool M.dn)).setCell ⟨w.heap.size, 5, none⟩ (.int .i64 M.left)).setCell ⟨w.heap.size + 1 + 1, 0, none⟩ (.int .i64 M.room)).setCell ⟨w.heap.size + 1 + 1, 1, none⟩ (.string (strOfNums M.S))).setCell ⟨w.heap.size + 1 + 1, 2, none⟩ (.string (strOfNums M.R))).setCell ⟨w.heap.size + 1 + 1, 3, none⟩ (.bool M.nw)).setCell ⟨w.heap.size + 1 + 1, 4, none⟩ (.bool M.dn)).setCell ⟨w.heap.size + 1 + 1, 5, none⟩ (.int .i64 M.left)) (w.heap.size + 1 + 1) #[.int .i64 M.room, .string (strOfNums M.S), .string (strOfNums M.R), .bool M.nw, .bool M.dn, .int .i64 M.left] 58 := ((((((((((((HR6.out.setOther (a := ⟨w.heap.size, 0, none⟩) (by simp; omega) _).setOther (a := ⟨w.heap.size, 1, none⟩) (by simp; omega) _).setOther (a := ⟨w.heap.size, 2, none⟩) (by simp; omega) _).setOther (a := ⟨w.heap.size, 3, none⟩) (by simp; omega) _).setOther (a := ⟨w.heap.size, 4, none⟩) (by simp; omega) _).setOther (a := ⟨w.heap.size, 5, none⟩) (by simp; omega) _).set 0 _).set 1 _).set 2 _).set 3 _).set 4 _).set 5 _)
  have hc2 : Chg (w.heap.size + 1 + 1) ((((((w6.setCell ⟨w.heap.size, 0, none⟩ (.int .i64 M.room)).setCell ⟨w.heap.size, 1, none⟩ (.string (strOfNums M.S))).setCell ⟨w.heap.size, 2, none⟩ (.string (strOfNums M.R))).setCell ⟨w.heap.size, 3, none⟩ (.bool M.nw)).setCell ⟨w.heap.size, 4, none⟩ (.bool M.dn)).setCell ⟨w.heap.size, 5, none⟩ (.int .i64 M.left)) ((((((((((((w6.setCell ⟨w.heap.size, 0, none⟩ (.int .i64 M.room)).setCell ⟨w.heap.size, 1, none⟩ (.string (strOfNums M.S))).setCell ⟨w.heap.size, 2, none⟩ (.string (strOfNums M.R))).setCell ⟨w.heap.size, 3, none⟩ (.bool M.nw)).setCell ⟨w.heap.size, 4, none⟩ (.bool M.dn)).setCell ⟨w.heap.size, 5, none⟩ (.int .i64 M.left)).setCell ⟨w.heap.size + 1 + 1, 0, none⟩ (.int .i64 M.room)).setCell ⟨w.heap.size + 1 + 1, 1, none⟩ (.string (strOfNums M.S))).setCell ⟨w.heap.size + 1 + 1, 2, none⟩ (.string (strOfNums M.R))).setCell ⟨w.heap.size + 1 + 1, 3, none⟩ (.bool M.nw)).setCell ⟨w.heap.size + 1 + 1, 4, none⟩ (.bool M.dn)).setCell ⟨w.heap.size + 1 + 1, 5, none⟩ (.int .i64 M.left)) := (((((((Chg.refl (w.heap.size + 1 + 1) ((((((w6.setCell ⟨w.heap.size, 0, none⟩ (.int .i64 M.room)).setCell ⟨w.heap.size, 1, none⟩ (.string (strOfNums M.S))).setCell ⟨w.heap.size, 2, none⟩ (.string (strOfNums M.R))).setCell ⟨w.heap.size, 3, none⟩ (.bool M.nw)).setCell ⟨w.heap.size, 4, none⟩ (.bool M.dn)).setCell ⟨w.heap.size, 5, none⟩ (.int .i64 M.left))).set 0 _).set 1 _).set 2 _).set 3 _).set 4 _).set 5 _)
  have hR := far_end HB1.out HB5.out hba HD5.out QM.out QR.out (Nat.le_refl _) (by omega) (((((((Chg.of_below HB6.out : Chg w.heap.size w5 w6).set 0 _).set 1 _).set 2 _).set 3 _).set 4 _).set 5 _) hc2
  refine bodyPost_ret (v := .tuple #[.agg #[.int .i64 M.room, .string (strOfNums M.S), .string (strOfNums M.R), .bool M.nw, .bool M.dn, .int .i64 M.left], .bool true]) (by simp [results, Try.results21, go_sem, hf.cell 0, hf.cell 1, hf.cell 2, hf.cell 3, hf.cell 4, hf.cell 5]) rfl ⟨rfl, hR.1, hR.2⟩
set_option linter.unusedSimpArgs false in
set_option maxHeartbeats 4000000 in
set_option maxRecDepth 100000 in
theorem do_up (P : Nat → Prop) (w : World) (base g : Nat) (d m : DSt) (nn tt : Int) (D : List Int) (q : Option Addr) (e : Nat) (h : Dkp P w base g d) (hm : m.Ok) (hf : d.Fits) :
    Calls Try.prog 21 #[.pointer (some ⟨g, 0, none⟩), refV m, .agg #[.int .i64 5, .int .i64 nn, .slice q D.length e, .int .u8 tt]] w (DoPost P base g d m 5 nn D tt w) := by
  have hlt : g < w.heap.size := h.dk.lt
  have hba : base ≤ w.heap.size := by obtain ⟨_, _, _, _, _, _, _, _, hb, _⟩ := h; omega
  have HD := Lib.hid h
  have HM := Lib.hid hm
  have eM : opM m 5 nn D tt = m.upD := rfl
  have eD : opD d 5 nn D tt = d.upD := rfl
  have eE : ∀ x : DSt, opE x 5 D.length = 0 := fun _ => rfl
  unfold DoPost
  rw [eM, eD, eE, eE]
  clear eM eD eE h hm
  unfold refV cellsR
  have HRW := Lib.hid (fun (w' : World) => refup_any m HM.out w')
  generalize m.upD = M at *
  unfold refV cellsR at HRW
  go_enter Try.func21, Try.ntmps21
  go_wp2_with fail
  generalize hW1 : (((w.alloc (.cells #[.int .i64 m.room, .string (strOfNums m.S), .string (strOfNums m.R), .bool m.nw, .bool m.dn, .int .i64 m.left] 58)).alloc (.cells #[.int .i64 5, .int .i64 nn, .slice q D.length e, .int .u8 tt] 61)).alloc (.cells #[.int .i64 0, .string ⟨#[]⟩, .string ⟨#[]⟩, .bool false, .bool false, .int .i64 0] 58)) = W1
  have hB1 : Below w.heap.size w W1 := by rw [← hW1]; exact ((oneB w _).alloc (by simp) _).alloc (by simp; omega) _
  have hM1 : Blk W1 w.heap.size #[.int .i64 m.room, .string (strOfNums m.S), .string (strOfNums m.R), .bool m.nw, .bool m.dn, .int .i64 m.left] 58 := by rw [← hW1]; exact ((Blk.new w _ _).alloc _).alloc _
  have hO1 : Blk W1 (w.heap.size + 1) #[.int .i64 5, .int .i64 nn, .slice q D.length e, .int .u8 tt] 61 := by rw [← hW1]; exact (Blk.new' _ _ _ (by simp)).alloc _
  have hR1 : Blk W1 (w.heap.size + 1 + 1) #[.int .i64 0, .string ⟨#[]⟩, .string ⟨#[]⟩, .bool false, .bool false, .int .i64 0] 58 := by rw [← hW1]; exact Blk.new' _ _ _ (by simp)
  have hD1 : Dkp (since P w W1) W1 base g d := HD.out.since hB1
  have qM : since P w W1 w.heap.size := .inr ⟨by omega, hM1.lt⟩
  have qO : since P w W1 (w.heap.size + 1) := .inr ⟨by omega, hO1.lt⟩
  have qR : since P w W1 (w.heap.size + 1 + 1) := .inr ⟨by omega, hR1.lt⟩
  have o1 : W1.cell? ⟨w.heap.size + 1, 1, none⟩ = some (.int .i64 nn) := hO1.cell 1
  have o3 : W1.cell? ⟨w.heap.size + 1, 3, none⟩ = some (.int .u8 tt) := hO1.cell 3
  clear hW1
  refine (up_anyP _ W1 base g d hD1 hf).mono ?_
  rintro y w5 ⟨rfl, hd5, hb5⟩
  have HD5 := Lib.hid hd5
  have HB5 := Lib.hid hb5
  have hM5 := hM1.belowP hb5 qM
  have hO5 := hO1.belowP hb5 qO
  have hR5 := hR1.belowP hb5 qR
  clear hd5 hb5 o1 o3
  have o1 : w5.cell? ⟨w.heap.size + 1, 1, none⟩ = some (.int .i64 nn) := hO5.cell 1
  have o3 : w5.cell? ⟨w.heap.size + 1, 3, none⟩ = some (.int .u8 tt) := hO5.cell 3
  have p0 : w5.cell? ⟨w.heap.size, 0, none⟩ = some (.int .i64 m.room) := hM5.cell 0
  have fp0 := hM5.free 0
  have p1 : w5.cell? ⟨w.heap.size, 1, none⟩ = some (.string (strOfNums m.S)) := hM5.cell 1
  have fp1 := hM5.free 1
  have p2 : w5.cell? ⟨w.heap.size, 2, none⟩ = some (.string (strOfNums m.R)) := hM5.cell 2
  have fp2 := hM5.free 2
  have p3 : w5.cell? ⟨w.heap.size, 3, none⟩ = some (.bool m.nw) := hM5.cell 3
  have fp3 := hM5.free 3
  have p4 : w5.cell? ⟨w.heap.size, 4, none⟩ = some (.bool m.dn) := hM5.cell 4
  have fp4 := hM5.free 4
  have p5 : w5.cell? ⟨w.heap.size, 5, none⟩ = some (.int .i64 m.left) := hM5.cell 5
  have fp5 := hM5.free 5
  have lp := hM5.lt
  have HM5 := Lib.hid hM5
  have HO5 := Lib.hid hO5
  have HR5 := Lib.hid hR5
  have HB1 := Lib.hid hB1
  have QR := Lib.hid qR
  have QM := Lib.hid qM
  clear hM5 hO5 hR5 hB1 hM1 hO1 hR1 hD1 qM qO qR
  go_wp2_with fail
  refine (HRW.out _).mono ?_
  rintro y w6 ⟨rfl, hb6⟩
  have hM6 := HM5.out.below hb6 HM5.out.lt
  have hR6 := HR5.out.below hb6 HR5.out.lt
  have HB6 := Lib.hid hb6
  have HM6 := Lib.hid hM6
  have HR6 := Lib.hid hR6
  clear hb6
  have s0 : w6.cell? ⟨w.heap.size, 0, none⟩ = some (.int .i64 m.room) := hM6.cell 0
  have fs0 := hM6.free 0
  have s1 : w6.cell? ⟨w.heap.size, 1, none⟩ = some (.string (strOfNums m.S)) := hM6.cell 1
  have fs1 := hM6.free 1
  have s2 : w6.cell? ⟨w.heap.size, 2, none⟩ = some (.string (strOfNums m.R)) := hM6.cell 2
  have fs2 := hM6.free 2
  have s3 : w6.cell? ⟨w.heap.size, 3, none⟩ = some (.bool m.nw) := hM6.cell 3
  have fs3 := hM6.free 3
  have s4 : w6.cell? ⟨w.heap.size, 4, none⟩ = some (.bool m.dn) := hM6.cell 4
  have fs4 := hM6.free 4
  have s5 : w6.cell? ⟨w.heap.size, 5, none⟩ = some (.int .i64 m.left) := hM6.cell 5
  have fs5 := hM6.free 5
  have ls := hM6.lt
  have r0 : w6.cell? ⟨w.heap.size + 1 + 1, 0, none⟩ = some (.int .i64 0) := hR6.cell 0
  have fr0 := hR6.free 0
  have r1 : w6.cell? ⟨w.heap.size + 1 + 1, 1, none⟩ = some (.string ⟨#[]⟩) := hR6.cell 1
  have fr1 := hR6.free 1
  have r2 : w6.cell? ⟨w.heap.size + 1 + 1, 2, none⟩ = some (.string ⟨#[]⟩) := hR6.cell 2
  have fr2 := hR6.free 2
  have r3 : w6.cell? ⟨w.heap.size + 1 + 1, 3, none⟩ = some (.bool false) := hR6.cell 3
  have fr3 := hR6.free 3
  have r4 : w6.cell? ⟨w.heap.size + 1 + 1, 4, none⟩ = some (.bool false) := hR6.cell 4
  have fr4 := hR6.free 4
  have r5 : w6.cell? ⟨w.heap.size + 1 + 1, 5, none⟩ = some (.int .i64 0) := hR6.cell 5
  have fr5 := hR6.free 5
  have lr := hR6.lt
  clear hM6 hR6
  go_wp2_with fail
  have hf : Blk ((((((((((((w6.setCell ⟨w.heap.size, 0, none⟩ (.int .i64 M.room)).setCell ⟨w.heap.size, 1, none⟩ (.string (strOfNums M.S))).setCell ⟨w.heap.size, 2, none⟩ (.string (strOfNums M.R))).setCell ⟨w.heap.size, 3, none⟩ (.bool M.nw)).setCell ⟨w.heap.size, 4, none⟩ (.bool M.dn)).setCell ⟨w.heap.size, 5, none⟩ (.int .i64 M.left)).setCell ⟨w.heap.size + 1 + 1, 0, none⟩ (.int .i64 M.room)).setCell ⟨w.heap.size + 1 + 1, 1, none⟩ (.string (strOfNums M.S))).setCell ⟨w.heap.size + 1 + 1, 2, none⟩ (.string (strOfNums M.R))).setCell ⟨w.heap.size + 1 + 1, 3, none⟩ (.bool M.nw)).setCell ⟨w.heap.size + 1 + 1, 4, none⟩ (.bool M.dn)).setCell ⟨w.heap.size + 1 + 1, 5, none⟩ (.int .i64 M.left)) (w.heap.size + 1 + 1) #[.int .i64 M.room, .string (strOfNums M.S), .string (strOfNums M.R), .bool M.nw, .bool M.dn, .int .i64 M.left] 58 := ((((((((((((HR6.out.setOther (a := ⟨w.heap.size, 0, none⟩) (by simp; omega) _).setOther (a := ⟨w.heap.size, 1, none⟩) (by simp; omega) _).setOther (a := ⟨w.heap.size, 2, none⟩) (by simp; omega) _).setOther (a := ⟨w.heap.size, 3, none⟩) (by simp; omega) _).setOther (a := ⟨w.heap.size, 4, none⟩) (by simp; omega) _).setOther (a := ⟨w.heap.size, 5, none⟩) (by simp; omega) _).set 0 _).set 1 _).set 2 _).set 3 _).set 4 _).set 5 _)
  have hc2 : Chg (w.heap.size + 1 + 1) ((((((w6.setCell ⟨w.heap.size, 0, none⟩ (.int .i64 M.room)).setCell ⟨w.heap.size, 1, none⟩ (.string (strOfNums M.S))).setCell ⟨w.heap.size, 2, none⟩ (.string (strOfNums M.R))).setCell ⟨w.heap.size, 3, none⟩ (.bool M.nw)).setCell ⟨w.heap.size, 4, none⟩ (.bool M.dn)).setCell ⟨w.heap.size, 5, none⟩ (.int .i64 M.left)) ((((((((((((w6.setCell ⟨w.heap.size, 0, none⟩ (.int .i64 M.room)).setCell ⟨w.heap.size, 1, none⟩ (.string (strOfNums M.S))).setCell ⟨w.heap.size, 2, none⟩ (.string (strOfNums M.R))).setCell ⟨w.heap.size, 3, none⟩ (.bool M.nw)).setCell ⟨w.heap.size, 4, none⟩ (.bool M.dn)).setCell ⟨w.heap.size, 5, none⟩ (.int .i64 M.left)).setCell ⟨w.heap.size + 1 + 1, 0, none⟩ (.int .i64 M.room)).setCell ⟨w.heap.size + 1 + 1, 1, none⟩ (.string (strOfNums M.S))).setCell ⟨w.heap.size + 1 + 1, 2, none⟩ (.string (strOfNums M.R))).setCell ⟨w.heap.size + 1 + 1, 3, none⟩ (.bool M.nw)).setCell ⟨w.heap.size + 1 + 1, 4, none⟩ (.bool M.dn)).setCell ⟨w.heap.size + 1 + 1, 5, none⟩ (.int .i64 M.left)) := (((((((Chg.refl (w.heap.size + 1 + 1) ((((((w6.setCell ⟨w.heap.size, 0, none⟩ (.int .i64 M.room)).setCell ⟨w.heap.size, 1, none⟩ (.string (strOfNums M.S))).setCell ⟨w.heap.size, 2, none⟩ (.string (strOfNums M.R))).setCell ⟨w.heap.size, 3, none⟩ (.bool M.nw)).setCell ⟨w.heap.size, 4, none⟩ (.bool M.dn)).setCell ⟨w.heap.size, 5, none⟩ (.int .i64 M.left))).set 0 _).set 1 _).set 2 _).set 3 _).set 4 _).set 5 _)
  have hR := far_end HB1.out HB5.out hba HD5.out QM.out QR.out (Nat.le_refl _) (by omega) (((((((Chg.of_below HB6.out : Chg w.heap.size w5 w6).set 0 _).set 1 _).set 2 _).set 3 _).set 4 _).set 5 _) hc2
  refine bodyPost_ret (v := .tuple #[.agg #[.int .i64 M.room, .string (strOfNums M.S), .string (strOfNums M.R), .bool M.nw, .bool M.dn, .int .i64 M.left], .bool true]) (by simp [results, Try.results21, go_sem, hf.cell 0, hf.cell 1, hf.cell 2, hf.cell 3, hf.cell 4, hf.cell 5]) rfl ⟨rfl, hR.1, hR.2⟩
set_option linter.unusedSimpArgs false in
set_option maxHeartbeats 4000000 in
set_option maxRecDepth 100000 in
theorem do_other (P : Nat → Prop) (w : World) (base g : Nat) (d m : DSt) (nn tt : Int) (D : List Int) (q : Option Addr) (e : Nat) (kd : Int) (h : Dkp P w base g d) (hm : m.Ok) (k0 : kd ≠ 0) (k1 : kd ≠ 1) (k2 : kd ≠ 2) (k3 : kd ≠ 3) (k4 : kd ≠ 4) (k5 : kd ≠ 5) :
    Calls Try.prog 21 #[.pointer (some ⟨g, 0, none⟩), refV m, .agg #[.int .i64 kd, .int .i64 nn, .slice q D.length e, .int .u8 tt]] w (DoPost P base g d m kd nn D tt w) := by
  have hlt : g < w.heap.size := h.dk.lt
  have hba : base ≤ w.heap.size := by obtain ⟨_, _, _, _, _, _, _, _, hb, _⟩ := h; omega
  have HD := Lib.hid h
  have HM := Lib.hid hm
  have eM : opM m kd nn D tt = m := by unfold opM; simp [k0, k1, k2, k3, k4, k5]
  have eD : opD d kd nn D tt = d := by unfold opD; simp [k0, k1, k2, k3, k4, k5]
  have eE : ∀ x : DSt, opE x kd D.length = 0 := by intro x; unfold opE; simp [k0, k1, k2]
  unfold DoPost
  rw [eM, eD, eE, eE]
  clear eM eD eE h hm
  unfold refV cellsR
  have j0 : (kd == 0) = false := by simpa using k0
  have j1 : (kd == 1) = false := by simpa using k1
  have j2 : (kd == 2) = false := by simpa using k2
  have j3 : (kd == 3) = false := by simpa using k3
  have j4 : (kd == 4) = false := by simpa using k4
  have j5 : (kd == 5) = false := by simpa using k5
  go_enter Try.func21, Try.ntmps21
  go_wp2_with fail
  have hf : Blk (((w.alloc (.cells #[.int .i64 m.room, .string (strOfNums m.S), .string (strOfNums m.R), .bool m.nw, .bool m.dn, .int .i64 m.left] 58)).alloc (.cells #[.int .i64 kd, .int .i64 nn, .slice q D.length e, .int .u8 tt] 61)).alloc (.cells #[.int .i64 m.room, .string (strOfNums m.S), .string (strOfNums m.R), .bool m.nw, .bool m.dn, .int .i64 m.left] 58)) (w.heap.size + 1 + 1) #[.int .i64 m.room, .string (strOfNums m.S), .string (strOfNums m.R), .bool m.nw, .bool m.dn, .int .i64 m.left] 58 := Blk.new' _ _ _ (by simp)
  have hb : Below w.heap.size w (((w.alloc (.cells #[.int .i64 m.room, .string (strOfNums m.S), .string (strOfNums m.R), .bool m.nw, .bool m.dn, .int .i64 m.left] 58)).alloc (.cells #[.int .i64 kd, .int .i64 nn, .slice q D.length e, .int .u8 tt] 61)).alloc (.cells #[.int .i64 m.room, .string (strOfNums m.S), .string (strOfNums m.R), .bool m.nw, .bool m.dn, .int .i64 m.left] 58)) := ((oneB w _).alloc (by simp) _).alloc (by simp; omega) _
  refine bodyPost_ret (v := .tuple #[.agg #[.int .i64 m.room, .string (strOfNums m.S), .string (strOfNums m.R), .bool m.nw, .bool m.dn, .int .i64 m.left], .bool true]) (by simp [results, Try.results21, go_sem, hf.cell 0, hf.cell 1, hf.cell 2, hf.cell 3, hf.cell 4, hf.cell 5]) rfl ⟨rfl, HD.out.kept hb, BelowP.of hb hba⟩
/-- Any operation. -/
theorem do_any (P : Nat → Prop) (W w : World) (base g : Nat) (d m : DSt) (kd nn tt : Int) (D : List Int) (q : Option Addr) (e : Nat) (h : Dkp P w base g d) (hf : d.Fits) (hm : m.Ok) (bn : -9223372036854775808 ≤ nn ∧ nn ≤ 9223372036854775807) (bt : 0 ≤ tt ∧ tt < 256) (oD : Oct D) (hD : D.length ≤ 1000) (hrow : Row .u8 W (.slice q D.length e) D) (hbW : Below W.heap.size W w) (hWg : W.heap.size ≤ g) :
    Calls Try.prog 21 #[.pointer (some ⟨g, 0, none⟩), refV m, .agg #[.int .i64 kd, .int .i64 nn, .slice q D.length e, .int .u8 tt]] w (DoPost P base g d m kd nn D tt w) := by
  by_cases k0 : kd = 0
  · subst k0; exact do_write P W w base g d m nn tt D q e h hm oD hD hrow hbW hWg
  by_cases k1 : kd = 1
  · subst k1; exact do_renew P W w base g d m nn tt D q e h hm oD hD hrow hbW hWg
  by_cases k2 : kd = 2
  · subst k2; exact do_sync P w base g d m nn tt D q e h hm
  by_cases k3 : kd = 3
  · subst k3
    by_cases hn : nn < 0
    · exact do_fuseN P w base g d m nn tt D q e h hm bn hn
    · exact do_fuseP P w base g d m nn tt D q e h hm bn hn
  by_cases k4 : kd = 4
  · subst k4; exact do_crash P w base g d m nn tt D q e h hm hf bn bt
  by_cases k5 : kd = 5
  · subst k5; exact do_up P w base g d m nn tt D q e h hm hf
  exact do_other P w base g d m nn tt D q e kd h hm k0 k1 k2 k3 k4 k5
theorem opD_ok {d : DSt} (h : d.Ok) (hf : d.Fits) {kd nn tt : Int} {D : List Int} (bn : -9223372036854775808 ≤ nn ∧ nn ≤ 9223372036854775807) (bt : 0 ≤ tt ∧ tt < 256) (oD : Oct D) : (opD d kd nn D tt).Ok ∧ (opD d kd nn D tt).Fits := by
  unfold opD
  split
  · exact ⟨write_ok h oD, write_fits hf D⟩
  · split
    · exact ⟨renew_ok h oD, renew_fits hf D⟩
    · split
      · exact ⟨sync_ok h, sync_fits h hf⟩
      · split
        · exact ⟨fuse_ok h bn.1 bn.2, hf⟩
        · split
          · exact ⟨crash_ok h hf nn bt, crash_fits hf nn tt⟩
          · split
            · exact ⟨up_ok h hf, up_fits h hf⟩
            · exact ⟨h, hf⟩
/-- The document's disk stays the program's. -/
theorem op_nr (d : DSt) (kd nn : Int) (D : List Int) (tt : Int) : opM d.nr kd nn D tt = (opD d kd nn D tt).nr ∧ opE d.nr kd D.length = opE d kd D.length := by
  unfold opM opD opE
  constructor
  · split
    · exact write_nrD d D
    · split
      · exact renew_nrD d D
      · split
        · exact sync_nrD d
        · split
          · exact fuse_nrD d nn
          · split
            · exact crash_nrD d nn tt
            · split
              · exact up_nrD d
              · rfl
  · split
    · exact write_nrE d _
    · split
      · exact renew_nrE d _
      · split
        · exact sync_nrE d
        · rfl
theorem nr_ok {d : DSt} (h : d.Ok) : d.nr.Ok := by
  obtain ⟨h1, h2, h3, h4, h5, h6, h7, h8, h9⟩ := h
  refine ⟨h1, h2, h3, h4, h5, h6, ?_, ?_, h9⟩ <;> show _ ≤ _ <;> unfold DSt.nr nrm <;> dsimp only <;> split <;> omega
end Go.Proofs.Ytgkikjjgbceopaa
