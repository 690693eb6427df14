/- contraref01.minus: digits less others. -/
import Derived.Test.YteofblabimneiaaPlus
namespace Go.Proofs.Yteofblabimneiaa
open Go.RowKit

/-- What the loop of the difference keeps. -/
def MinusRel (a b : List Int) (w : World) (i : Nat) (c : Int) (xs : List Int) (v : Value) (wr : World) : Prop :=
  minusC a b 0 = xs ++ minusC (a.drop i) (b.drop i) c ∧ xs.length = i ∧ wr.ownsRow w.heap.size 3 1 v xs.length (xs.map (Value.int .i64)) ∧ Below w.heap.size w wr
theorem MinusRel.start (a b : List Int) (w : World) : MinusRel a b w 0 0 [] (.slice none 0 0) w := ⟨by simp, rfl, World.ownsRow_nil _ _ _ _, Below.refl _ _⟩
theorem MinusRel.step {a b : List Int} {w wr w1 : World} {i : Nat} {c : Int} {xs : List Int} {v v' : Value} (h : MinusRel a b w i c xs v wr) (s r c' : Int) (hs : s = a.getD i 0 - c - b.getD i 0)
    (hr : r = if s < 0 then s + 10 else s) (hc : c' = if s < 0 then 1 else 0) (hin : i < a.length) (o : Obj)
    (hown : w1.ownsRow w.heap.size 3 1 v' (xs.length + 1) (xs.map (Value.int .i64) ++ [.int .i64 r])) (hg : (wr.alloc o).grownBy w1 v.ownBlock) :
    MinusRel a b w (i + 1) c' (xs ++ [r]) v' w1 := by
  obtain ⟨e1, e2, e3, e4⟩ := h
  have hb := e4.size
  refine ⟨?_, by simp [e2], by simpa using hown, (e4.alloc hb o).grown hg (by simp; omega) (fun k hk => (e3.lt k hk).1)⟩
  rw [e1, minusC_step a b i c hin, ← hs, ← hr, ← hc, List.append_assoc]; rfl

set_option maxHeartbeats 2000000 in
set_option maxRecDepth 100000 in
theorem minus_any (u v : Value) (a b : List Int) (w : World) (ha : IsDigs a) (hb : IsDigs b) (hma : a.length ≤ 1000000) (_hmb : b.length ≤ 1000000) (hu : Row .i64 w u a) (hv : Row .i64 w v b) :
    Calls Try.prog 38 #[u, v] w fun e w' => ∃ v', e = .returned v' ∧ Row .i64 w' v' (trimL (minusC a b 0)) ∧ Below w.heap.size w w' := by
  obtain ⟨i0, hi, hz0, hz1, hz2⟩ := info_parts info_int
  obtain ⟨p, ca, rfl, _, hp⟩ := id hu
  obtain ⟨q, cb, rfl, _, hq⟩ := id hv
  have HU := Lib.hid hu
  have HV := Lib.hid hv
  clear hu hv hp hq
  generalize hla : a.length = la at *
  generalize hlb : b.length = lb at *
  have HLA := Lib.hid hla
  have HLB := Lib.hid hlb
  clear hla hlb
  go_enter Try.func38, Try.ntmps38
  go_wp2
  go_loopw [5, 6, 7] (fun vo vc vi wr => ∃ (i : Nat) (c : Int) (xs : List Int) (po : Option Addr) (co : Nat), i ≤ la ∧ vi = .int .i64 i ∧ vc = .int .i64 c ∧ vo = .slice po xs.length co ∧ 0 ≤ c ∧ c ≤ 1 ∧ Hid (MinusRel a b w i c xs (.slice po xs.length co) wr)) (fun _ _ vi _ => la - (intOf vi).toNat)
  case atStart => exact ⟨0, 0, [], none, 0, Nat.zero_le _, rfl, rfl, rfl, by decide, by decide, MinusRel.start a b w⟩
  case round =>
    obtain ⟨i, c, xs, po, co, hil, rfl, rfl, rfl, h0, h1, HR⟩ := hrel
    have hxl : Hid (xs.length = i) := HR.out.2.1
    have C3 : Hid (xs.length + 1 ≤ maxLen) := by have := hxl.out; show _ ≤ _; unfold maxLen; omega
    have C4 : Hid ((xs.length + 1) * 8 ≤ 140737488355328) := by have := hxl.out; show _ ≤ _; omega
    have C5 : Hid (∀ o : Obj, w.heap.size ≤ (wr.alloc o).heap.size) := fun o => by have := HR.out.2.2.2.size; simp; omega
    have hbel := HR.out.2.2.2
    have hx := digs_getD ha i
    have hy := digs_getD hb i
    have hsz := hbel.size
    have HY0 : lb ≤ i → b.getD i 0 = 0 := fun h => getD_out (by rw [HLB.out]; exact h)
    have cx : i < la → ∃ x o, p = some ⟨x, o, none⟩ ∧ wr.cell? ⟨x, o + i, none⟩ = some (.int .i64 (a.getD i 0)) := fun h => by
      obtain ⟨x, o, e, hc⟩ := HU.out.at i (by rw [HLA.out]; exact h)
      exact ⟨x, o, e, by rw [hbel.cell (p := ⟨x, o + i, none⟩) (World.block_lt_of_cell? w _ hc)]; exact hc⟩
    have cy : i < lb → ∃ x o, q = some ⟨x, o, none⟩ ∧ wr.cell? ⟨x, o + i, none⟩ = some (.int .i64 (b.getD i 0)) := fun h => by
      obtain ⟨x, o, e, hc⟩ := HV.out.at i (by rw [HLB.out]; exact h)
      exact ⟨x, o, e, by rw [hbel.cell (p := ⟨x, o + i, none⟩) (World.block_lt_of_cell? w _ hc)]; exact hc⟩
    have step : ∀ (s r c' : Int) (w1 : World) (v' : Value) (hs : s = a.getD i 0 - c - b.getD i 0) (hr : r = if s < 0 then s + 10 else s) (hc : c' = if s < 0 then 1 else 0) (hin : i < la) (o : Obj)
        (hown : w1.ownsRow w.heap.size 3 1 v' (xs.length + 1) (xs.map (Value.int .i64) ++ [.int .i64 r])) (hg : (wr.alloc o).grownBy w1 (Value.slice po xs.length co).ownBlock),
        MinusRel a b w (i + 1) c' (xs ++ [r]) v' w1 := fun s r c' w1 v' hs hr hc hin o hown hg => HR.out.step s r c' hs hr hc (by rw [HLA.out]; exact hin) o hown hg
    have STEP := Lib.hid step
    have HY := Lib.hid HY0
    have CX := Lib.hid cx
    have CY := Lib.hid cy
    have HBEL := Lib.hid hbel
    clear step HY0 cx cy hbel
    generalize a.getD i 0 = x at *
    generalize b.getD i 0 = y at *
    by_cases hia : i < la
    · obtain ⟨bx, ox, rfl, hcx⟩ := CX.out hia
      by_cases hib : i < lb
      · obtain ⟨by', oy, rfl, hcy⟩ := CY.out hib
        clear CX CY HY
        by_cases hs : x - c - y < 0
        · go_wp2_with (at_builtin; refine wpList_append_own _ rfl _ _ 54 rfl w.heap.size 3 i0 (.int .i64 0) 1 8 Try.underlying54 hi hz0 hz1 hz2 rfl (by decide) _ _ _ rfl (HR.out.2.2.1.alloc _) ⟨wr.heap.size, 0, none⟩ 1 1 [.int .i64 (x - c - y + 10)] rfl rfl (one_new _ _ _) (one_cells _ _) C3.out C4.out (C5.out _) ?_)
          intro v' w1 hown hgrow _
          have hst := STEP.out (x - c - y) (x - c - y + 10) 1 w1 v' rfl (by rw [if_pos hs]) (by rw [if_pos hs]) hia _ hown hgrow
          obtain ⟨p', c', rfl⟩ := owned_slice hown
          have HST := Lib.hid hst
          clear hst hown hgrow
          go_wp2
          go_roundw
          case rel => exact ⟨i + 1, 1, xs ++ [x - c - y + 10], p', c', by omega, by go_num, rfl, by simp, by omega, by omega, by show MinusRel _ _ _ _ _ _ _ _; rw [List.length_append]; exact HST.out⟩
          case measure => simp [intOf]; omega
        · go_wp2_with (at_builtin; refine wpList_append_own _ rfl _ _ 54 rfl w.heap.size 3 i0 (.int .i64 0) 1 8 Try.underlying54 hi hz0 hz1 hz2 rfl (by decide) _ _ _ rfl (HR.out.2.2.1.alloc _) ⟨wr.heap.size, 0, none⟩ 1 1 [.int .i64 (x - c - y)] rfl rfl (one_new _ _ _) (one_cells _ _) C3.out C4.out (C5.out _) ?_)
          intro v' w1 hown hgrow _
          have hst := STEP.out (x - c - y) (x - c - y) 0 w1 v' rfl (by rw [if_neg (by omega)]) (by rw [if_neg (by omega)]) hia _ hown hgrow
          obtain ⟨p', c', rfl⟩ := owned_slice hown
          have HST := Lib.hid hst
          clear hst hown hgrow
          go_wp2
          go_roundw
          case rel => exact ⟨i + 1, 0, xs ++ [x - c - y], p', c', by omega, by go_num, rfl, by simp, by omega, by omega, by show MinusRel _ _ _ _ _ _ _ _; rw [List.length_append]; exact HST.out⟩
          case measure => simp [intOf]; omega
      · have hy0 := HY.out (by omega)
        subst hy0
        clear CX CY HY
        by_cases hs : x - c < 0
        · go_wp2_with (at_builtin; refine wpList_append_own _ rfl _ _ 54 rfl w.heap.size 3 i0 (.int .i64 0) 1 8 Try.underlying54 hi hz0 hz1 hz2 rfl (by decide) _ _ _ rfl (HR.out.2.2.1.alloc _) ⟨wr.heap.size, 0, none⟩ 1 1 [.int .i64 (x - c + 10)] rfl rfl (one_new _ _ _) (one_cells _ _) C3.out C4.out (C5.out _) ?_)
          intro v' w1 hown hgrow _
          have hst := STEP.out (x - c) (x - c + 10) 1 w1 v' (by omega) (by rw [if_pos hs]) (by rw [if_pos hs]) hia _ hown hgrow
          obtain ⟨p', c', rfl⟩ := owned_slice hown
          have HST := Lib.hid hst
          clear hst hown hgrow
          go_wp2
          go_roundw
          case rel => exact ⟨i + 1, 1, xs ++ [x - c + 10], p', c', by omega, by go_num, rfl, by simp, by omega, by omega, by show MinusRel _ _ _ _ _ _ _ _; rw [List.length_append]; exact HST.out⟩
          case measure => simp [intOf]; omega
        · go_wp2_with (at_builtin; refine wpList_append_own _ rfl _ _ 54 rfl w.heap.size 3 i0 (.int .i64 0) 1 8 Try.underlying54 hi hz0 hz1 hz2 rfl (by decide) _ _ _ rfl (HR.out.2.2.1.alloc _) ⟨wr.heap.size, 0, none⟩ 1 1 [.int .i64 (x - c)] rfl rfl (one_new _ _ _) (one_cells _ _) C3.out C4.out (C5.out _) ?_)
          intro v' w1 hown hgrow _
          have hst := STEP.out (x - c) (x - c) 0 w1 v' (by omega) (by rw [if_neg (by omega)]) (by rw [if_neg (by omega)]) hia _ hown hgrow
          obtain ⟨p', c', rfl⟩ := owned_slice hown
          have HST := Lib.hid hst
          clear hst hown hgrow
          go_wp2
          go_roundw
          case rel => exact ⟨i + 1, 0, xs ++ [x - c], p', c', by omega, by go_num, rfl, by simp, by omega, by omega, by show MinusRel _ _ _ _ _ _ _ _; rw [List.length_append]; exact HST.out⟩
          case measure => simp [intOf]; omega
    · have hR := HR.out
      have e : minusC a b 0 = xs := by rw [hR.1, minusC_stop a b i c (by rw [HLA.out]; omega), List.append_nil]
      have hrow : Row .i64 wr (.slice po xs.length co) (minusC a b 0) := by rw [e]; exact Row.owned hR.2.2.1
      have hbel := hR.2.2.2
      have hlen : xs.length ≤ 1000000 := by have := hxl.out; omega
      have hlm : (minusC a b 0).length ≤ 1000000 := by rw [e]; exact hlen
      have HBL := Lib.hid hbel
      have HE := Lib.hid e
      clear CX CY HY hR STEP e hbel HR
      go_wp2_with (go_at_call 35; refine (trim_any _ _ _ hlm hrow).mono ?_; rintro e w' ⟨v', rfl, hrow', rfl⟩)
      go_ret
      exact ⟨_, rfl, hrow', HBL.out⟩
end Go.Proofs.Yteofblabimneiaa
