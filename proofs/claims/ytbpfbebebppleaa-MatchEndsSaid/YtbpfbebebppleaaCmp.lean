/- vector.compare: the order of positions. -/
import Derived.Test.YtbpfbebebppleaaMem
import Derived.Lib.Hide
import Derived.Deep.RegionWith
namespace Go.Proofs.Ytbpfbebebppleaa
open Go.RowKit Go.Lib

/-- Below, the same, above. -/
def ord (a b : Int) : Int := if a < b then -1 else if b < a then 1 else 0
/-- The order of positions: by entity, then by currency. -/
def ord2 (e c e' c' : Int) : Int := if ord e e' = 0 then ord c c' else ord e e'
/-- A position. -/
def posV (e c a : Int) : Value := .agg #[.int .i64 e, .int .i64 c, .int .i64 a]

theorem ret_i64 {a b : Int} (h : a = b) : Ending.returned (.int .i64 a) = .returned (.int .i64 b) := by rw [h]
theorem nan_any (a : Int) (w : World) : Calls Try.prog 71 #[.int .i64 a] w fun x w' => x = .returned (.bool false) ∧ w = w' := by
  go_enter Try.func71, Try.ntmps71
  go_wp2
  go_ret
  exact ⟨by simp, rfl⟩
set_option maxHeartbeats 1000000 in
set_option maxRecDepth 100000 in
theorem cmp_any (a b : Int) (w : World) :
    Calls Try.prog 62 #[.int .i64 a, .int .i64 b] w fun x w' => x = .returned (.int .i64 (ord a b)) ∧ w = w' := by
  go_enter Try.func62, Try.ntmps62
  go_wp2_with fail
  refine (nan_any a w).mono ?_
  rintro e w1 ⟨rfl, rfl⟩
  go_wp2_with fail
  refine (nan_any b w).mono ?_
  rintro e w1 ⟨rfl, rfl⟩
  by_cases h1 : a < b
  · have e : Hid (ord a b = -1) := if_pos h1
    go_wp2
    go_ret
    exact ⟨ret_i64 e.out.symm, rfl⟩
  · by_cases h2 : b < a
    · have e : Hid (ord a b = 1) := by show ord a b = 1; rw [ord, if_neg h1, if_pos h2]
      go_wp2
      go_ret
      exact ⟨ret_i64 e.out.symm, rfl⟩
    · have e : Hid (ord a b = 0) := by show ord a b = 0; rw [ord, if_neg h1, if_neg h2]
      go_wp2
      go_ret
      exact ⟨ret_i64 e.out.symm, rfl⟩
set_option maxHeartbeats 1000000 in
set_option maxRecDepth 100000 in
theorem or_any (a b : Int) (w : World) (b0 : Nat) (hB : Blk w b0 #[.int .i64 a, .int .i64 b] 3) :
    Calls Try.prog 61 #[.slice (some ⟨b0, 0, none⟩) 2 2] w fun x w' => x = .returned (.int .i64 (if a = 0 then b else a)) ∧ w = w' := by
  have hc0 : w.cell? ⟨b0, 0, none⟩ = some (.int .i64 a) := hB.cell 0
  have hc1 : w.cell? ⟨b0, 1, none⟩ = some (.int .i64 b) := hB.cell 1
  clear hB
  go_enter Try.func61, Try.ntmps61
  go_wp2
  go_loop [8] (fun v8 => ∃ i : Nat, i ≤ 2 ∧ v8 = .int .i64 i ∧ (1 ≤ i → a = 0) ∧ (2 ≤ i → b = 0)) (fun v8 => (2 - RowKit.intOf v8).toNat)
  case atStart => exact ⟨0, by omega, rfl, (fun h => by omega), (fun h => by omega)⟩
  case round =>
    obtain ⟨i, hi, rfl, ha, hb⟩ := hrel
    match i, hi with
    | 0, _ =>
      by_cases h : a = 0
      · have h' : (a != 0) = false := by simpa using h
        have HH := Lib.hid h
        clear h
        go_wp2
        go_round
        case rel => exact ⟨1, by omega, rfl, (fun _ => HH.out), (fun h => by omega)⟩
        case measure => simp [RowKit.intOf]
      · have h' : (a != 0) = true := by simpa using h
        have HH := Lib.hid h
        clear h
        go_wp2
        go_ret
        exact ⟨ret_i64 (by first | rfl | rw [if_neg HH.out]), rfl⟩
    | 1, _ =>
      have HA := Lib.hid (ha (by omega))
      by_cases h : b = 0
      · have h' : (b != 0) = false := by simpa using h
        have HH := Lib.hid h
        clear h ha hb
        go_wp2
        go_round
        case rel => exact ⟨2, by omega, rfl, (fun _ => HA.out), (fun _ => HH.out)⟩
        case measure => simp [RowKit.intOf]
      · have h' : (b != 0) = true := by simpa using h
        clear h ha hb
        go_wp2
        go_ret
        exact ⟨ret_i64 (by first | rfl | rw [if_pos HA.out]), rfl⟩
    | 2, _ =>
      have HA := Lib.hid (ha (by omega))
      have HB := Lib.hid (hb (by omega))
      clear ha hb
      go_wp2
      go_ret
      exact ⟨ret_i64 (by have h2 := HB.out; first | exact h2.symm | simp [h2]), rfl⟩
end Go.Proofs.Ytbpfbebebppleaa
