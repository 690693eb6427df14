/- code.Reader: what it holds; fails and take by contract. -/
import Derived.Test.YtbimbpmdiahhbaaChg
import Derived.Test.YtbimbpmdiahhbaaOct
namespace Go.Proofs.Ytbimbpmdiahhbaa
open Go.RowKit
/-- The reader in block g: zs are left, which lie in block g0; its error is e. -/
def Rdr (w : World) (g g0 : Nat) (zs : List Int) (e : Int) : Prop := ∃ v, Blk w g #[v, .int .i64 e] 55 ∧ RowAt .u8 w g0 v zs ∧ g0 ≠ g
theorem Rdr.chg {w w' : World} {g g0 h : Nat} {zs : List Int} {e : Int} (r : Rdr w g g0 zs e) (hc : Chg h w w') (hg : g ≠ h) (hg0 : g0 ≠ h) : Rdr w' g g0 zs e := by
  obtain ⟨v, hb, hr, hn⟩ := r
  exact ⟨v, hb.chg hc hg, hr.chg hc hg0, hn⟩
theorem Rdr.below {w w' : World} {g g0 : Nat} {zs : List Int} {e : Int} (r : Rdr w g g0 zs e) (hb : Below w.heap.size w w') : Rdr w' g g0 zs e := by
  obtain ⟨v, h, hr, hn⟩ := r
  exact ⟨v, h.below hb h.lt, hr.below hb (fun h => h), hn⟩
theorem Rdr.lt {w : World} {g g0 : Nat} {zs : List Int} {e : Int} (r : Rdr w g g0 zs e) : g < w.heap.size := by
  obtain ⟨v, h, _⟩ := r
  exact h.lt
/-- The first error stays. -/
def orE (a b : Int) : Int := if a = 0 then b else a
theorem ret_i64e {a b : Int} (h : a = b) : Ending.returned (.int .i64 a) = .returned (.int .i64 b) := by rw [h]
set_option maxHeartbeats 1000000 in
set_option maxRecDepth 100000 in
theorem or_errno (a b : Int) (w : World) (b0 : Nat) (hB : Blk w b0 #[.int .i64 a, .int .i64 b] 30) :
    Calls Try.prog 40 #[.slice (some ⟨b0, 0, none⟩) 2 2] w fun x w' => x = .returned (.int .i64 (orE a b)) ∧ w = w' := by
  have hc0 : w.cell? ⟨b0, 0, none⟩ = some (.int .i64 a) := hB.cell 0
  have hc1 : w.cell? ⟨b0, 1, none⟩ = some (.int .i64 b) := hB.cell 1
  clear hB
  go_enter Try.func40, Try.ntmps40
  go_wp2
  go_loop [8] (fun v8 => ∃ i : Nat, i ≤ 2 ∧ v8 = .int .i64 i ∧ (1 ≤ i → a = 0) ∧ (2 ≤ i → b = 0)) (fun v8 => (2 - RowKit.intOf v8).toNat)
  case atStart => exact ⟨0, by omega, rfl, (fun h => by omega), (fun h => by omega)⟩
  case round =>
    obtain ⟨i, hi, rfl, ha, hb⟩ := hrel
    match i, hi with
    | 0, _ =>
      by_cases h : a = 0
      · have h' : (a != 0) = false := by simpa using h
        have HH := Lib.hid h
        clear h
        go_wp2
        go_round
        case rel => exact ⟨1, by omega, rfl, (fun _ => HH.out), (fun h => by omega)⟩
        case measure => simp [RowKit.intOf]
      · have h' : (a != 0) = true := by simpa using h
        have HH := Lib.hid h
        clear h
        go_wp2
        go_ret
        exact ⟨ret_i64e (by first | rfl | rw [orE, if_neg HH.out]), rfl⟩
    | 1, _ =>
      have HA := Lib.hid (ha (by omega))
      by_cases h : b = 0
      · have h' : (b != 0) = false := by simpa using h
        have HH := Lib.hid h
        clear h ha hb
        go_wp2
        go_round
        case rel => exact ⟨2, by omega, rfl, (fun _ => HA.out), (fun _ => HH.out)⟩
        case measure => simp [RowKit.intOf]
      · have h' : (b != 0) = true := by simpa using h
        clear h ha hb
        go_wp2
        go_ret
        exact ⟨ret_i64e (by unfold orE; rw [if_pos HA.out]), rfl⟩
    | 2, _ =>
      have HA := Lib.hid (ha (by omega))
      have HB := Lib.hid (hb (by omega))
      clear ha hb
      go_wp2
      go_ret
      exact ⟨ret_i64e (by unfold orE; rw [if_pos HA.out]; exact HB.out.symm), rfl⟩
def errB (e : Int) : Bool := decide (e ≠ 0)
theorem ret_berr (e : Int) : Ending.returned (.bool (e != 0)) = .returned (.bool (errB e)) := by unfold errB; congr 2; by_cases h : e = 0 <;> simp [h]
set_option maxHeartbeats 1000000 in
theorem fails_any (g g0 : Nat) (zs : List Int) (e f : Int) (w : World) (hr : Rdr w g g0 zs e) :
    Calls Try.prog 26 #[.pointer (some ⟨g, 0, none⟩), .int .i64 f] w fun x w' => x = .returned (.bool (errB (orE e f))) ∧ Chg g w w' ∧ Rdr w' g g0 zs (orE e f) := by
  obtain ⟨v, hb, hrow, hne⟩ := hr
  have hl := hb.lt
  have hc0 := hb.cell 0
  have hc1 : w.cell? ⟨g, 1, none⟩ = some (.int .i64 e) := hb.cell 1
  have hf1 := hb.free 1
  have HB := Lib.hid hb
  have HROW := Lib.hid hrow
  have HNE := Lib.hid hne
  have HL := Lib.hid hl
  clear hb hrow hne hc0
  go_enter Try.func26, Try.ntmps26
  go_wp2_with fail
  refine (or_errno e f _ _ (Blk.new w _ _)).mono ?_
  rintro x w1 ⟨rfl, rfl⟩
  have hc2 : (w.alloc (.cells #[.int .i64 e, .int .i64 f] 30)).cell? ⟨g, 1, none⟩ = some (.int .i64 e) := (HB.out.alloc _).cell 1
  have hf2 : (w.alloc (.cells #[.int .i64 e, .int .i64 f] 30)).frozen? ⟨g, 1, none⟩ = false := (HB.out.alloc _).free 1
  have hB2 := Lib.hid (HB.out.alloc (.cells #[.int .i64 e, .int .i64 f] 30))
  have hC2 := Lib.hid ((Chg.refl g w).alloc (.cells #[.int .i64 e, .int .i64 f] 30))
  generalize w.alloc (.cells #[.int .i64 e, .int .i64 f] 30) = w2 at *
  go_wp2_with fail
  go_ret
  refine ⟨ret_berr _, hC2.out.set 1 _, ?_⟩
  exact ⟨v, hB2.out.set 1 _, HROW.out.chg (hC2.out.set 1 _) HNE.out, HNE.out⟩
end Go.Proofs.Ytbimbpmdiahhbaa
