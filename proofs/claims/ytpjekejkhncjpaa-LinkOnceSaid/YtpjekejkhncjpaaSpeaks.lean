/- contralaw12.speaks by contract. -/
import Derived.Test.YtpjekejkhncjpaaLinkSay
import Derived.Test.YtpjekejkhncjpaaLinkPackets
namespace Go.Proofs.Ytpjekejkhncjpaa
open Go.RowKit
set_option linter.unusedSimpArgs false
def msg7 : Msg := ⟨7, 0, 0, 0, 0, 0, 0, 0, false, [], []⟩
theorem msg7_sz : msg7.Sz := ⟨by decide, by decide⟩
theorem PkRow.mono {P Q : Nat → Prop} {w : World} {v : Value} {ks : List Pk} (h : PkRow P w v ks) (hq : ∀ b, b < w.heap.size → P b → Q b) : PkRow Q w v ks := by
  obtain ⟨ys, h1, h2, h3, h4⟩ := h
  exact ⟨ys, h1, fun b o n c e hn => hq b (by have h2 := h1; rw [e] at h2; exact h2.lt_ hn) (h2 b o n c e hn), fun y hy => (h3 y hy).mono hq, h4⟩
/-- Sessions in a block. -/
structure LV (P : Nat → Prop) (w : World) (g : Nat) (me : Int) (qs : List Pe) (p : Option Addr) (n c : Nat) : Prop where
  blk : Blk w g #[.int .i64 me, .slice p n c] 27
  row : PeRow P w (.slice p n c) qs
  len : n = qs.length
  off : ¬ P g
theorem LV.kept {P : Nat → Prop} {w w' : World} {g : Nat} {me : Int} {qs : List Pe} {p : Option Addr} {n c : Nat} (h : LV P w g me qs p n c) (hb : Below w.heap.size w w') : LV P w' g me qs p n c := ⟨h.blk.below hb h.blk.lt, h.row.kept hb, h.len, h.off⟩
theorem LV.chg {P : Nat → Prop} {w w' : World} {g k : Nat} {me : Int} {qs : List Pe} {p : Option Addr} {n c : Nat} (h : LV P w g me qs p n c) (hc : Chg k w w') (hk : ¬ P k) (hne : g ≠ k) : LV P w' g me qs p n c := ⟨h.blk.chg hc hne, h.row.keepP (KeepP.of_chg hc hk), h.len, h.off⟩
abbrev put2 (w : World) (g : Nat) (me : Int) (p : Option Addr) (n c : Nat) : World := (w.setCell ⟨g, 0, none⟩ (.int .i64 me)).setCell ⟨g, 1, none⟩ (.slice p n c)
theorem chg_put2 (w : World) (g : Nat) (me : Int) (p : Option Addr) (n c : Nat) : Chg g w (put2 w g me p n c) := ((Chg.refl g w).set 0 _).set 1 _
theorem LV.store {P : Nat → Prop} {w : World} {g : Nat} {me me0 : Int} {qs : List Pe} {p p0 : Option Addr} {n c n0 c0 : Nat} (hb : Blk w g #[.int .i64 me0, .slice p0 n0 c0] 27) (hr : PeRow P w (.slice p n c) qs) (hn : n = qs.length) (hg : ¬ P g) : LV P (put2 w g me p n c) g me qs p n c :=
  ⟨(hb.set 0 (.int .i64 me)).set 1 (.slice p n c), hr.keepP (KeepP.of_chg (chg_put2 _ _ _ _ _ _) hg), hn, hg⟩
theorem LV.fresh {P Q : Nat → Prop} {w : World} {me : Int} {qs : List Pe} {p : Option Addr} {n c : Nat} (hr : PeRow Q w (.slice p n c) qs) (hn : n = qs.length) (hq : ∀ b, b < w.heap.size → Q b → P b) (hg : ¬ P w.heap.size) : LV P (w.alloc (.cells #[.int .i64 me, .slice p n c] 27)) w.heap.size me qs p n c :=
  ⟨Blk.new _ _ _, (hr.mono hq).kept (oneB _ _), hn, hg⟩
set_option maxHeartbeats 8000000 in
set_option maxRecDepth 100000 in
theorem speaks_any (w : World) : Calls Try.prog 5 #[] w fun e w' => e = .returned (.bool true) ∧ Below w.heap.size w w' := by
  have HSAY : Hid (∀ (P : Nat → Prop) (p : Option Addr) (c : Nat) (w : World), PeRow P w (.slice p 2 c) (peers0 2) → (∀ b, w.heap.size ≤ b → P b) → Calls Try.prog 7 #[.agg #[.int .i64 0, .slice p 2 c], .int .i64 1, .agg #[.int .i64 7, .int .i64 0, .int .i64 0, .int .i64 0, .int .i64 0, .int .i64 0, .int .i64 0, .int .i64 0, .bool false, .slice none 0 0, .slice none 0 0]] w fun e w' => ∃ v, e = .returned (.tuple #[v, .int .i64 0]) ∧ Lnk P w' v 0 [([], 0), ([msg7], 0)] ∧ Below w.heap.size w w') := fun P p c w hr hP => say_ok P 0 1 p 2 c (peers0 2) msg7 (.slice none 0 0) (.slice none 0 0) w rfl hr (TRow.nil_ _ _) (Row.nil_ _ _ 0) msg7_sz (by decide) (by decide) (by decide) (by decide) hP
  have HPKS : Hid (∀ (P : Nat → Prop) (p : Option Addr) (c : Nat) (w : World), PeRow P w (.slice p 2 c) [([], 0), ([msg7], 0)] → (∀ b, w.heap.size ≤ b → P b) → Calls Try.prog 8 #[.agg #[.int .i64 0, .slice p 2 c], .int .i64 1, .int .i64 0] w fun e w' => ∃ v, e = .returned v ∧ PkRow P w' v [⟨0, 1, 1, 0, msg7⟩] ∧ Below w.heap.size w w') := fun P p c w hr hP => packets_many P 0 1 0 p 2 c [([], 0), ([msg7], 0)] w rfl hr (by decide) (by decide) (by decide) (by decide) hP
  have HNX1 : Hid (∀ (P : Nat → Prop) (p : Option Addr) (c : Nat) (w : World), PeRow P w (.slice p 2 c) (peers0 2) → Calls Try.prog 9 #[.agg #[.int .i64 1, .slice p 2 c], .int .i64 0, .int .i64 1] w fun e w' => e = .returned (.tuple #[.bool true, .bool false]) ∧ Below w.heap.size w w') := fun P p c w hr => next_any P 1 0 1 p 2 c (peers0 2) w rfl hr (by decide)
  have HHE : Hid (∀ (P : Nat → Prop) (p : Option Addr) (c : Nat) (w : World), PeRow P w (.slice p 2 c) (peers0 2) → (∀ b, w.heap.size ≤ b → P b) → Calls Try.prog 10 #[.agg #[.int .i64 1, .slice p 2 c], .int .i64 0] w fun e w' => ∃ v, e = .returned (.tuple #[v, .int .i64 0]) ∧ Lnk P w' v 1 [([], 1), ([], 0)] ∧ Below w.heap.size w w') := fun P p c w hr hP => hear_ok P 1 0 p 2 c (peers0 2) w rfl hr (by decide) (by decide) (by decide) (by decide) hP
  have HNX2 : Hid (∀ (P : Nat → Prop) (p : Option Addr) (c : Nat) (w : World), PeRow P w (.slice p 2 c) [([], 1), ([], 0)] → Calls Try.prog 9 #[.agg #[.int .i64 1, .slice p 2 c], .int .i64 0, .int .i64 1] w fun e w' => e = .returned (.tuple #[.bool false, .bool true]) ∧ Below w.heap.size w w') := fun P p c w hr => next_any P 1 0 1 p 2 c [([], 1), ([], 0)] w rfl hr (by decide)
  go_enter Try.func5, Try.ntmps5
  go_wp2_with fail
  refine (new_ok (fun _ => True) 0 2 w ⟨by decide, by decide, by decide, by decide⟩ (fun _ _ => trivial)).mono ?_
  rintro y w1 ⟨_, rfl, ⟨p1, c1, rfl, hp1⟩, hb1⟩
  rw [show (peers0 2).length = 2 from rfl] at hp1 ⊢
  have LA := Lib.hid (LV.fresh (P := fun b => b ≠ w1.heap.size) (me := 0) hp1 rfl (fun b hb _ => by omega) (by simp))
  have B1 := Lib.hid (hb1.alloc hb1.size (.cells #[.int .i64 0, .slice p1 2 c1] 27))
  clear hp1
  have HGA : Hid (w.heap.size ≤ w1.heap.size) := hb1.size
  clear hb1
  have hla := LA.out.blk
  have a0 : (w1.alloc (.cells #[.int .i64 0, .slice p1 2 c1] 27)).cell? ⟨w1.heap.size, 0, none⟩ = some (.int .i64 0) := hla.cell 0
  have a1 : (w1.alloc (.cells #[.int .i64 0, .slice p1 2 c1] 27)).cell? ⟨w1.heap.size, 1, none⟩ = some (.slice p1 2 c1) := hla.cell 1
  have af0 := hla.free 0
  have af1 := hla.free 1
  clear hla
  go_wp2_with fail
  clear a0 a1 af0 af1
  generalize w1.alloc (.cells #[.int .i64 0, .slice p1 2 c1] 27) = W1 at *
  generalize w1.heap.size = ga at *
  have hga := LA.out.blk.lt
  refine (HSAY.out (fun b => b ≠ ga) p1 c1 W1 LA.out.row (fun b hb => by omega)).mono ?_
  rintro y w2 ⟨_, rfl, ⟨p2, c2, rfl, hp2⟩, hb2⟩
  dsimp only [List.length_cons, List.length_nil, Nat.zero_add, Nat.reduceAdd] at hp2 ⊢
  have HBA := Lib.hid (LA.out.blk.below hb2 hga)
  have LA2 := Lib.hid (LV.store (me := 0) HBA.out hp2 rfl (by simp))
  have B2 := Lib.hid ((B1.out.trans (hb2.mono B1.out.size)).trans ((chg_put2 w2 ga 0 p2 2 c2).below (by have := HGA.out; omega) (B1.out.trans (hb2.mono B1.out.size)).size))
  have hba := HBA.out
  have d0 : w2.cell? ⟨ga, 0, none⟩ = some (.int .i64 0) := hba.cell 0
  have d1 : w2.cell? ⟨ga, 1, none⟩ = some (.slice p1 2 c1) := hba.cell 1
  have df0 := hba.free 0
  have df1 := hba.free 1
  clear hba hp2 hb2 hga
  have hla := LA2.out.blk
  have a0 : (put2 w2 ga 0 p2 2 c2).cell? ⟨ga, 0, none⟩ = some (.int .i64 0) := hla.cell 0
  have a1 : (put2 w2 ga 0 p2 2 c2).cell? ⟨ga, 1, none⟩ = some (.slice p2 2 c2) := hla.cell 1
  clear hla
  unfold put2 at a0 a1
  go_wp2_with fail
  clear a0 a1 d0 d1 df0 df1
  have HW2 : Hid (∀ W, put2 w2 ga 0 p2 2 c2 = W → put2 w2 ga 0 p2 2 c2 = W) := fun _ h => h
  unfold put2 at LA2 B2 HW2
  generalize (w2.setCell ⟨ga, 0, none⟩ (.int .i64 0)).setCell ⟨ga, 1, none⟩ (.slice p2 2 c2) = W2 at *
  clear HW2
  have hga := LA2.out.blk.lt
  refine (HPKS.out (fun b => b ≠ ga) p2 c2 W2 LA2.out.row (fun b hb => by omega)).mono ?_
  rintro y w3 ⟨v3, rfl, hk3, hb3⟩
  obtain ⟨p3, c3, rfl⟩ := hk3.shape
  dsimp only [List.length_cons, List.length_nil, Nat.zero_add, Nat.reduceAdd] at hk3 ⊢
  have B3 := Lib.hid (B2.out.trans (hb3.mono B2.out.size))
  have HK3 := Lib.hid hk3
  clear hk3 hb3 hga
  go_wp2_with fail
  refine (new_ok (fun _ => True) 1 2 w3 ⟨by decide, by decide, by decide, by decide⟩ (fun _ _ => trivial)).mono ?_
  rintro y w4 ⟨_, rfl, ⟨p4, c4, rfl, hp4⟩, hb4⟩
  rw [show (peers0 2).length = 2 from rfl] at hp4 ⊢
  have LB := Lib.hid (LV.fresh (P := fun b => b ≠ w4.heap.size) (me := 1) hp4 rfl (fun b hb _ => by omega) (by simp))
  have HK4 := Lib.hid ((HK3.out.mono (fun b _ h => trivial) (Q := fun _ => True)).kept hb4 |>.mono (Q := fun b => b ≠ w4.heap.size) (fun b hb _ => by omega))
  have HK4' := Lib.hid (HK4.out.kept (oneB w4 (.cells #[.int .i64 1, .slice p4 2 c4] 27)))
  have B4 := Lib.hid ((B3.out.trans (hb4.mono B3.out.size)).alloc (B3.out.trans (hb4.mono B3.out.size)).size (.cells #[.int .i64 1, .slice p4 2 c4] 27))
  have HGB : Hid (w.heap.size ≤ w4.heap.size) := (B3.out.trans (hb4.mono B3.out.size)).size
  clear hp4 hb4 HK4 HK3
  have hlb := LB.out.blk
  have a0 : (w4.alloc (.cells #[.int .i64 1, .slice p4 2 c4] 27)).cell? ⟨w4.heap.size, 0, none⟩ = some (.int .i64 1) := hlb.cell 0
  have a1 : (w4.alloc (.cells #[.int .i64 1, .slice p4 2 c4] 27)).cell? ⟨w4.heap.size, 1, none⟩ = some (.slice p4 2 c4) := hlb.cell 1
  have af0 := hlb.free 0
  have af1 := hlb.free 1
  clear hlb
  go_wp2_with fail
  clear a0 a1 af0 af1
  generalize w4.alloc (.cells #[.int .i64 1, .slice p4 2 c4] 27) = W4 at *
  generalize w4.heap.size = gb at *
  have hgb := LB.out.blk.lt
  refine (HNX1.out _ p4 c4 W4 LB.out.row).mono ?_
  rintro y w5 ⟨rfl, hb5⟩
  have LB5 := Lib.hid (LB.out.kept hb5)
  have HK5 := Lib.hid (HK4'.out.kept hb5)
  have B5 := Lib.hid (B4.out.trans (hb5.mono B4.out.size))
  clear hb5 LB HK4' hgb
  have hlb := LB5.out.blk
  have a0 : w5.cell? ⟨gb, 0, none⟩ = some (.int .i64 1) := hlb.cell 0
  have a1 : w5.cell? ⟨gb, 1, none⟩ = some (.slice p4 2 c4) := hlb.cell 1
  have af0 := hlb.free 0
  have af1 := hlb.free 1
  clear hlb
  go_wp2_with fail
  clear a0 a1 af0 af1
  have hgb := LB5.out.blk.lt
  refine (HHE.out (fun b => b ≠ gb) p4 c4 w5 LB5.out.row (fun b hb => by omega)).mono ?_
  rintro y w6 ⟨_, rfl, ⟨p6, c6, rfl, hp6⟩, hb6⟩
  dsimp only [List.length_cons, List.length_nil, Nat.zero_add, Nat.reduceAdd] at hp6 ⊢
  have HBB := Lib.hid (LB5.out.blk.below hb6 hgb)
  have LB6 := Lib.hid (LV.store (me := 1) HBB.out hp6 rfl (by simp))
  have HK6 := Lib.hid ((HK5.out.kept hb6).keepP (KeepP.of_chg (chg_put2 w6 gb 1 p6 2 c6) (by simp)))
  have B6 := Lib.hid ((B5.out.trans (hb6.mono B5.out.size)).trans ((chg_put2 w6 gb 1 p6 2 c6).below (by have := HGB.out; omega) (B5.out.trans (hb6.mono B5.out.size)).size))
  have hba := HBB.out
  have d0 : w6.cell? ⟨gb, 0, none⟩ = some (.int .i64 1) := hba.cell 0
  have d1 : w6.cell? ⟨gb, 1, none⟩ = some (.slice p4 2 c4) := hba.cell 1
  have df0 := hba.free 0
  have df1 := hba.free 1
  clear hba hp6 hb6 hgb
  have hla := LB6.out.blk
  have a0 : (put2 w6 gb 1 p6 2 c6).cell? ⟨gb, 0, none⟩ = some (.int .i64 1) := hla.cell 0
  have a1 : (put2 w6 gb 1 p6 2 c6).cell? ⟨gb, 1, none⟩ = some (.slice p6 2 c6) := hla.cell 1
  clear hla
  unfold put2 at a0 a1
  go_wp2_with fail
  clear a0 a1 d0 d1 df0 df1
  unfold put2 at LB6 B6 HK6
  generalize (w6.setCell ⟨gb, 0, none⟩ (.int .i64 1)).setCell ⟨gb, 1, none⟩ (.slice p6 2 c6) = W6 at *
  refine (HNX2.out _ p6 c6 W6 LB6.out.row).mono ?_
  rintro y w7 ⟨rfl, hb7⟩
  obtain ⟨ys, hy1, _, hy3, hy4⟩ := HK6.out.kept hb7
  have B7 := Lib.hid (B6.out.trans (hb7.mono B6.out.size))
  have hyl : ys.length = 1 := by have := congrArg List.length hy4; simpa using this
  obtain ⟨b, o, rfl, _, hc⟩ := hy1.at_ 0 (by omega)
  have hy0 : ys[0].pk = ⟨0, 1, 1, 0, msg7⟩ := by
    have := congrArg (fun l => l[0]?) hy4
    simpa [hyl] using this
  have hyn : ys[0].n = 1 := by have := congrArg Pk.n hy0; exact this
  have hym : ys[0].x.m.k = 7 := by have := congrArg (fun (p : Pk) => p.m.k) hy0; exact this
  have c2 : w7.cell? ⟨b, o + 2, none⟩ = some (.int .i64 1) := by have := hc 2 (by decide); rw [Nat.zero_mul, Nat.add_zero] at this; rw [this, ← hyn]; rfl
  have c4 : w7.cell? ⟨b, o + 4, none⟩ = some (.int .i64 7) := by have := hc 4 (by decide); rw [Nat.zero_mul, Nat.add_zero] at this; rw [this, ← hym]; rfl
  clear hy1 hy3 hy4 hc hb7 hy0 hyn hym hyl
  go_wp2_with fail
  go_ret
  exact ⟨rfl, B7.out⟩
end Go.Proofs.Ytpjekejkhncjpaa
