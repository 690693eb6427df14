/- contraref01.plus and minus: digits together, and digits less others. -/
import Derived.Test.YteofblabimneiaaTrim
namespace Go.Proofs.Yteofblabimneiaa
open Go.RowKit

/-- What the loop of the sum keeps. -/
def PlusRel (a b : List Int) (w : World) (i : Nat) (c : Int) (xs : List Int) (v : Value) (wr : World) : Prop :=
  plusC a b 0 = xs ++ plusC (a.drop i) (b.drop i) c ∧ xs.length = i ∧ wr.ownsRow w.heap.size 3 1 v xs.length (xs.map (Value.int .i64)) ∧ Below w.heap.size w wr
theorem PlusRel.start (a b : List Int) (w : World) : PlusRel a b w 0 0 [] (.slice none 0 0) w := ⟨by simp, rfl, World.ownsRow_nil _ _ _ _, Below.refl _ _⟩
theorem PlusRel.step {a b : List Int} {w wr w1 : World} {i : Nat} {c : Int} {xs : List Int} {v v' : Value} (h : PlusRel a b w i c xs v wr) (s : Int) (hs : s = c + a.getD i 0 + b.getD i 0)
    (h0 : 0 ≤ c) (h1 : c ≤ 1) (hin : i < a.length ∨ i < b.length ∨ 0 < c) (o : Obj)
    (hown : w1.ownsRow w.heap.size 3 1 v' (xs.length + 1) (xs.map (Value.int .i64) ++ [.int .i64 (s % 10)])) (hg : (wr.alloc o).grownBy w1 v.ownBlock) :
    PlusRel a b w (i + 1) (s / 10) (xs ++ [s % 10]) v' w1 := by
  obtain ⟨e1, e2, e3, e4⟩ := h
  have hb := e4.size
  refine ⟨?_, by simp [e2], by simpa using hown, (e4.alloc hb o).grown hg (by simp; omega) (fun k hk => (e3.lt k hk).1)⟩
  rw [e1, plusC_step a b i c h0 h1 hin, ← hs, List.append_assoc]; rfl
theorem PlusRel.len {a b : List Int} {w wr : World} {i : Nat} {c : Int} {xs : List Int} {v : Value} (h : PlusRel a b w i c xs v wr) (ha : IsDigs a) (hb : IsDigs b) : i ≤ a.length + b.length + 1 := by
  have h1 := (plusC_spec a b 0 ha hb (by decide) (by decide)).2.2
  rw [h.1, List.length_append, h.2.1] at h1
  omega
theorem digs_getD {a : List Int} (ha : IsDigs a) (i : Nat) : 0 ≤ a.getD i 0 ∧ a.getD i 0 ≤ 9 := by
  rw [List.getD_eq_getElem?_getD]
  by_cases hi : i < a.length
  · rw [List.getElem?_eq_getElem hi]; exact ha _ (List.getElem_mem hi)
  · rw [List.getElem?_eq_none (by omega)]; simp
theorem getD_out {a : List Int} {i : Nat} (h : a.length ≤ i) : a.getD i 0 = 0 := by rw [List.getD_eq_getElem?_getD, List.getElem?_eq_none h]; rfl

set_option maxHeartbeats 2000000 in
set_option maxRecDepth 100000 in
theorem plus_any (u v : Value) (a b : List Int) (w : World) (ha : IsDigs a) (hb : IsDigs b) (hma : a.length ≤ 1000000) (hmb : b.length ≤ 1000000) (hu : Row .i64 w u a) (hv : Row .i64 w v b) :
    Calls Try.prog 36 #[u, v] w fun e w' => ∃ v', e = .returned v' ∧ Row .i64 w' v' (plusC a b 0) ∧ Below w.heap.size w w' := by
  obtain ⟨i0, hi, hz0, hz1, hz2⟩ := info_parts info_int
  obtain ⟨p, ca, rfl, _, hp⟩ := id hu
  obtain ⟨q, cb, rfl, _, hq⟩ := id hv
  have HU := Lib.hid hu
  have HV := Lib.hid hv
  clear hu hv hp hq
  generalize hla : a.length = la at *
  generalize hlb : b.length = lb at *
  have HLA := Lib.hid hla
  have HLB := Lib.hid hlb
  clear hla hlb
  go_enter Try.func36, Try.ntmps36
  go_wp2
  go_loopw [5, 6, 7] (fun vo vc vi wr => ∃ (i : Nat) (c : Int) (xs : List Int) (po : Option Addr) (co : Nat), vi = .int .i64 i ∧ vc = .int .i64 c ∧ vo = .slice po xs.length co ∧ 0 ≤ c ∧ c ≤ 1 ∧ Hid (PlusRel a b w i c xs (.slice po xs.length co) wr)) (fun _ _ vi _ => la + lb + 2 - (intOf vi).toNat)
  case atStart => exact ⟨0, 0, [], none, 0, rfl, rfl, rfl, by decide, by decide, PlusRel.start a b w⟩
  case round =>
    obtain ⟨i, c, xs, po, co, rfl, rfl, rfl, h0, h1, HR⟩ := hrel
    have hil := HR.out.len ha hb
    rw [HLA.out, HLB.out] at hil
    have hxl : Hid (xs.length = i) := HR.out.2.1
    have C3 : Hid (xs.length + 1 ≤ maxLen) := by have := hxl.out; show _ ≤ _; unfold maxLen; omega
    have C4 : Hid ((xs.length + 1) * 8 ≤ 140737488355328) := by have := hxl.out; show _ ≤ _; omega
    have C5 : Hid (∀ o : Obj, w.heap.size ≤ (wr.alloc o).heap.size) := fun o => by have := HR.out.2.2.2.size; simp; omega
    have hbel := HR.out.2.2.2
    have hx := digs_getD ha i
    have hy := digs_getD hb i
    have hsz := hbel.size
    have HX0 : la ≤ i → a.getD i 0 = 0 := fun h => getD_out (by rw [HLA.out]; exact h)
    have HY0 : lb ≤ i → b.getD i 0 = 0 := fun h => getD_out (by rw [HLB.out]; exact h)
    have cx : i < la → ∃ x o, p = some ⟨x, o, none⟩ ∧ wr.cell? ⟨x, o + i, none⟩ = some (.int .i64 (a.getD i 0)) := fun h => by
      obtain ⟨x, o, e, hc⟩ := HU.out.at i (by rw [HLA.out]; exact h)
      exact ⟨x, o, e, by rw [hbel.cell (p := ⟨x, o + i, none⟩) (World.block_lt_of_cell? w _ hc)]; exact hc⟩
    have cy : i < lb → ∃ x o, q = some ⟨x, o, none⟩ ∧ wr.cell? ⟨x, o + i, none⟩ = some (.int .i64 (b.getD i 0)) := fun h => by
      obtain ⟨x, o, e, hc⟩ := HV.out.at i (by rw [HLB.out]; exact h)
      exact ⟨x, o, e, by rw [hbel.cell (p := ⟨x, o + i, none⟩) (World.block_lt_of_cell? w _ hc)]; exact hc⟩
    have step : ∀ (s : Int) (w1 : World) (v' : Value) (hs : s = c + a.getD i 0 + b.getD i 0) (hin : i < la ∨ i < lb ∨ 0 < c) (o : Obj)
        (hown : w1.ownsRow w.heap.size 3 1 v' (xs.length + 1) (xs.map (Value.int .i64) ++ [.int .i64 (s % 10)])) (hg : (wr.alloc o).grownBy w1 (Value.slice po xs.length co).ownBlock),
        PlusRel a b w (i + 1) (s / 10) (xs ++ [s % 10]) v' w1 := fun s w1 v' hs hin o hown hg => HR.out.step s hs h0 h1 (by rw [HLA.out, HLB.out]; exact hin) o hown hg
    have STEP := Lib.hid step
    have HX := Lib.hid HX0
    have HY := Lib.hid HY0
    have CX := Lib.hid cx
    have CY := Lib.hid cy
    have HBEL := Lib.hid hbel
    clear step HX0 HY0 cx cy hbel
    generalize a.getD i 0 = x at *
    generalize b.getD i 0 = y at *
    by_cases hia : i < la
    · obtain ⟨bx, ox, rfl, hcx⟩ := CX.out hia
      by_cases hib : i < lb
      · obtain ⟨by', oy, rfl, hcy⟩ := CY.out hib
        clear CX CY
        go_wp2_with (at_builtin; refine wpList_append_own _ rfl _ _ 54 rfl w.heap.size 3 i0 (.int .i64 0) 1 8 Try.underlying54 hi hz0 hz1 hz2 rfl (by decide) _ _ _ rfl (HR.out.2.2.1.alloc _) ⟨wr.heap.size, 0, none⟩ 1 1 [.int .i64 ((c + x + y) % 10)] rfl rfl (one_new _ _ _) (one_cells _ _) C3.out C4.out (C5.out _) ?_)
        intro v' w1 hown hgrow _
        have hst := STEP.out (c + x + y) w1 v' rfl (.inl hia) _ hown hgrow
        obtain ⟨p', c', rfl⟩ := owned_slice hown
        have HST := Lib.hid hst
        clear hst hown hgrow
        go_wp2
        go_roundw
        case rel => exact ⟨i + 1, (c + x + y) / 10, xs ++ [(c + x + y) % 10], p', c', by go_num, rfl, by simp, by omega, by omega, by show PlusRel _ _ _ _ _ _ _ _; rw [List.length_append]; exact HST.out⟩
        case measure => simp [intOf]; omega
      · have hy0 := HY.out (by omega)
        subst hy0
        clear CX CY HY
        go_wp2_with (at_builtin; refine wpList_append_own _ rfl _ _ 54 rfl w.heap.size 3 i0 (.int .i64 0) 1 8 Try.underlying54 hi hz0 hz1 hz2 rfl (by decide) _ _ _ rfl (HR.out.2.2.1.alloc _) ⟨wr.heap.size, 0, none⟩ 1 1 [.int .i64 ((c + x) % 10)] rfl rfl (one_new _ _ _) (one_cells _ _) C3.out C4.out (C5.out _) ?_)
        intro v' w1 hown hgrow _
        have hst := STEP.out (c + x) w1 v' (by omega) (.inl hia) _ hown hgrow
        obtain ⟨p', c', rfl⟩ := owned_slice hown
        have HST := Lib.hid hst
        clear hst hown hgrow
        go_wp2
        go_roundw
        case rel => exact ⟨i + 1, (c + x) / 10, xs ++ [(c + x) % 10], p', c', by go_num, rfl, by simp, by omega, by omega, by show PlusRel _ _ _ _ _ _ _ _; rw [List.length_append]; exact HST.out⟩
        case measure => simp [intOf]; omega
    · have hx0 := HX.out (by omega)
      subst hx0
      by_cases hib : i < lb
      · obtain ⟨by', oy, rfl, hcy⟩ := CY.out hib
        clear CX CY HX
        go_wp2_with (at_builtin; refine wpList_append_own _ rfl _ _ 54 rfl w.heap.size 3 i0 (.int .i64 0) 1 8 Try.underlying54 hi hz0 hz1 hz2 rfl (by decide) _ _ _ rfl (HR.out.2.2.1.alloc _) ⟨wr.heap.size, 0, none⟩ 1 1 [.int .i64 ((c + y) % 10)] rfl rfl (one_new _ _ _) (one_cells _ _) C3.out C4.out (C5.out _) ?_)
        intro v' w1 hown hgrow _
        have hst := STEP.out (c + y) w1 v' (by omega) (.inr (.inl hib)) _ hown hgrow
        obtain ⟨p', c', rfl⟩ := owned_slice hown
        have HST := Lib.hid hst
        clear hst hown hgrow
        go_wp2
        go_roundw
        case rel => exact ⟨i + 1, (c + y) / 10, xs ++ [(c + y) % 10], p', c', by go_num, rfl, by simp, by omega, by omega, by show PlusRel _ _ _ _ _ _ _ _; rw [List.length_append]; exact HST.out⟩
        case measure => simp [intOf]; omega
      · have hy0 := HY.out (by omega)
        subst hy0
        by_cases hc : 0 < c
        · clear CX CY HX HY
          go_wp2_with (at_builtin; refine wpList_append_own _ rfl _ _ 54 rfl w.heap.size 3 i0 (.int .i64 0) 1 8 Try.underlying54 hi hz0 hz1 hz2 rfl (by decide) _ _ _ rfl (HR.out.2.2.1.alloc _) ⟨wr.heap.size, 0, none⟩ 1 1 [.int .i64 ((c) % 10)] rfl rfl (one_new _ _ _) (one_cells _ _) C3.out C4.out (C5.out _) ?_)
          intro v' w1 hown hgrow _
          have hst := STEP.out (c) w1 v' (by omega) (.inr (.inr hc)) _ hown hgrow
          obtain ⟨p', c', rfl⟩ := owned_slice hown
          have HST := Lib.hid hst
          clear hst hown hgrow
          go_wp2
          go_roundw
          case rel => exact ⟨i + 1, (c) / 10, xs ++ [(c) % 10], p', c', by go_num, rfl, by simp, by omega, by omega, by show PlusRel _ _ _ _ _ _ _ _; rw [List.length_append]; exact HST.out⟩
          case measure => simp [intOf]; omega
        · obtain rfl : c = 0 := by omega
          go_wp2
          go_ret
          have hR := HR.out
          have e : plusC a b 0 = xs := by rw [hR.1, plusC_stop a b i (by rw [HLA.out]; omega) (by rw [HLB.out]; omega), List.append_nil]
          exact ⟨_, rfl, by rw [e]; exact Row.owned hR.2.2.1, hR.2.2.2⟩
end Go.Proofs.Yteofblabimneiaa
