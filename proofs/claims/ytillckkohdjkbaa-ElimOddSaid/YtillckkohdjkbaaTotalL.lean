/- Vector.Total by contract, over any positions. -/
import Derived.Test.YtillckkohdjkbaaVecFind
import Derived.Test.YtillckkohdjkbaaSum0
import Derived.Test.YtillckkohdjkbaaApp
namespace Go.Proofs.Ytillckkohdjkbaa
open Go.RowKit
theorem elt64v : Elt Try.prog 34 2 .i64 8 := by
  have ht := Try.underlying34
  have h : (Try.prog.info? 2).map (fun i => (i.zero, i.size, i.bytes)) = some (some (.int .i64 0), 1, 8) := by kernel_rfl
  cases hi : Try.prog.info? 2 with
  | none => rw [hi] at h; cases h
  | some i =>
    rw [hi] at h
    simp only [Option.map_some, Option.some.injEq, Prod.mk.injEq] at h
    exact ⟨i, ht, hi, h.1, h.2.1, h.2.2⟩
/-- What the positions of a currency have. -/
def amtsC (c : Int) (ps : List Pos) : List Int := (ps.filter (fun p => decide (p.c = c))).map (·.a)
theorem amtsC_app (c : Int) (ps qs : List Pos) : amtsC c (ps ++ qs) = amtsC c ps ++ amtsC c qs := by simp [amtsC]
theorem amtsC_len (c : Int) (ps : List Pos) : (amtsC c ps).length ≤ ps.length := by
  unfold amtsC
  rw [List.length_map]
  exact List.length_filter_le _ _
theorem amtsC_one (c e a x : Int) : amtsC c [⟨e, x, a⟩] = if x = c then [a] else [] := by
  unfold amtsC
  by_cases h : x = c
  · simp [h]
  · simp [h]
theorem stop_appendT {P : Program} {ops : Array Oper} {rest : List Oper} {o : Oper} {a : Act} {w : World} {Q : Exit → Act → World → Prop} (s x : Operand) (t : TypeId)
    (_ : o.op = .call { callee := .builtin .append, args := #[s, x], argTypes := #[t, t] }) (h : Hid (wpList P ops Q (o :: rest) a w)) : wpList P ops Q (o :: rest) a w := h
/-- What the loop keeps. -/
def TRel (w : World) (sv : Value) (zs : List Int) (v : Value) (wr : World) : Prop := Blk wr w.heap.size #[sv] 50 ∧ Own .i64 wr (w.heap.size + 1) 2 v zs ∧ Below w.heap.size w wr
set_option linter.unusedSimpArgs false in
set_option maxHeartbeats 8000000 in
set_option maxRecDepth 100000 in
theorem totalL_any (w : World) (v : Value) (L : List Pos) (cur : Int) (hL : L.length ≤ 64) (hF : ∀ p ∈ L, Fits p.a) (hv : PRow w v L) :
    Calls Try.prog 12 #[vecV v, .int .i64 cur] w fun x w' => x = .returned (.tuple #[.int .i64 (sumN (amtsC cur L).sum), .int .i64 (sumE (amtsC cur L).sum)]) ∧ Below w.heap.size w w' := by
  have HFA : Hid (∀ p ∈ L, Fits p.a) := hF
  obtain ⟨pv, cv, rfl⟩ := hv.shape
  have HV := Lib.hid hv
  have hn64 : L.length ≤ 64 := hL
  clear hv hL hF
  have H64 : Hid (All64 (amtsC cur L)) := fun z hz => by
    unfold amtsC at hz
    obtain ⟨p, hp, rfl⟩ := List.mem_map.1 hz
    exact HFA.out p (List.mem_filter.1 hp).1
  have HLEN : Hid ((amtsC cur L).length ≤ 140737488355328) := Nat.le_trans (amtsC_len cur L) (by omega)
  have HSU : Hid (∀ W v, Row .i64 W v (amtsC cur L) → Calls Try.prog 28 #[v] W (SumTo (amtsC cur L).sum W)) := fun W v h => sum_any v _ W HLEN.out H64.out h
  generalize hS : sumN (amtsC cur L).sum = SN
  generalize hE : sumE (amtsC cur L).sum = SE
  have HS := Lib.hid hS
  have HE := Lib.hid hE
  clear hS hE
  generalize hnn : L.length = n at *
  have HNU := Lib.hid hnn
  clear hnn
  have HREL : Hid (TRel w (.slice pv n cv) [] (.slice none 0 0) (w.alloc (.cells #[.slice pv n cv] 50))) := ⟨Blk.new w _ _, Own.nil_ _ _ _ _, oneB w _⟩
  unfold vecV at *
  go_enter Try.func12, Try.ntmps12
  go_wp2_with fail
  go_loopw [6, 12] (fun v i wr => ∃ k : Nat, k ≤ n ∧ i = .int .i64 k ∧ Hid (TRel w (.slice pv n cv) (amtsC cur (L.take k)) v wr)) (fun _ i _ => n - (intOf i).toNat)
  case atStart => exact ⟨0, by omega, rfl, HREL⟩
  case round =>
    obtain ⟨k, hk, rfl, HK⟩ := hrel
    clear HREL
    by_cases hlt : k < n
    · have hkl : k < L.length := by rw [HNU.out]; exact hlt
      have hltI : (k : Int) < (n : Int) := by omega
      have HTK : Hid (L.take (k + 1) = L.take k ++ [L[k]]) := List.take_succ_eq_append_getElem hkl
      obtain ⟨b, o, rfl, hbl, e0, e1, e2⟩ := (HV.out.kept HK.out.2.2).at_ k hkl
      generalize L[k] = P at *
      obtain ⟨e, x, a⟩ := P
      dsimp only at e0 e1 e2
      have HSUC : Hid (amtsC cur (L.take (k + 1)) = amtsC cur (L.take k) ++ (if x = cur then [a] else [])) := by
        show _ = _
        rw [HTK.out, amtsC_app, amtsC_one]
      have HZL : Hid ((amtsC cur (L.take k)).length ≤ 64) := Nat.le_trans (amtsC_len _ _) (by rw [List.length_take]; omega)
      obtain ⟨hb1, ho1, hw1⟩ := HK.out
      obtain ⟨p2, c2, hv2⟩ := ho1.form
      generalize hz : amtsC cur (L.take k) = zs at *
      generalize hm : zs.length = m at *
      subst hv2
      have HM := Lib.hid hm
      have HB1 := Lib.hid (hb1.alloc (.cells #[.int .i64 e, .int .i64 x, .int .i64 a] 77))
      have HW1 := Lib.hid (hw1.alloc hw1.size (.cells #[.int .i64 e, .int .i64 x, .int .i64 a] 77))
      have HO1 := Lib.hid (ho1.alloc (.cells #[.int .i64 e, .int .i64 x, .int .i64 a] 77))
      have hszw : w.heap.size + 1 ≤ (wr.alloc (.cells #[.int .i64 e, .int .i64 x, .int .i64 a] 77)).heap.size := Nat.le_trans hb1.lt (by simp)
      have HSZ := Lib.hid hszw
      clear hb1 ho1 hw1 HK hz hm hszw HTK
      by_cases hc : x = cur
      · have ec : (x == cur) = true := by simpa using hc
        rw [if_pos hc] at HSUC
        clear hc
        have HFIN := Lib.hid (fun p c W (h : Own .i64 W (w.heap.size + 1) 2 (.slice p (m + 1) c) (zs ++ [a])) (hb : Below (w.heap.size + 1) (wr.alloc (.cells #[.int .i64 e, .int .i64 x, .int .i64 a] 77)) W) => (show TRel w (.slice (some ⟨b, o, none⟩) n cv) (amtsC cur (L.take (k + 1))) (.slice p (m + 1) c) W from ⟨HB1.out.below hb (Nat.lt_succ_self _), by rw [HSUC.out]; exact h, HW1.out.trans (hb.mono (Nat.le_succ _))⟩))
        go_wp2_with (at_builtin; with_reducible refine stop_appendT (.tmp 20) (.tmp 23) 34 rfl ?_)
        refine wpList_append_row rfl (.tmp 20) (.tmp 23) 34 rfl 2 .i64 8 (w.heap.size + 1) elt64v (.slice p2 m c2) (.slice (some ⟨wr.heap.size + 1, 0, none⟩) 1 1) zs [a] rfl rfl (HO1.out.alloc (.cells #[.int .i64 a] 2)) ⟨some ⟨wr.heap.size + 1, 0, none⟩, 1, rfl, Nat.le_refl _, .inr ⟨wr.heap.size + 1, 0, rfl, fun i hi => ?_⟩⟩ (by rw [HM.out]; have := HZL.out; simp only [List.length_cons, List.length_nil]; omega) (by rw [HM.out]; have := HZL.out; simp only [List.length_cons, List.length_nil]; omega) (Nat.le_trans HSZ.out (by simp)) (zs ++ [a]) (m + 1) rfl (by rw [List.length_append, HM.out]; rfl) ?_
        · obtain rfl : i = 0 := by simp at hi; omega
          exact (Blk.new' (wr.alloc (.cells #[.int .i64 e, .int .i64 x, .int .i64 a] 77)) #[.int .i64 a] 2 (b := wr.heap.size + 1) (by simp)).cell 0
        intro p3 c3 w3 ho3 hb3
        have HNX := Lib.hid (HFIN.out p3 c3 w3 ho3 ((Below.alloc (Below.refl _ _) HSZ.out _).trans hb3))
        clear ho3 hb3 HFIN
        go_wp2_with fail
        go_roundw
        case rel => exact ⟨k + 1, by omega, by go_num, HNX⟩
        case measure => simp [intOf]; omega
      · have ec : (x == cur) = false := by simpa using hc
        rw [if_neg hc, List.append_nil] at HSUC
        clear hc
        have HNX : Hid (TRel w (.slice (some ⟨b, o, none⟩) n cv) (amtsC cur (L.take (k + 1))) (.slice p2 m c2) (wr.alloc (.cells #[.int .i64 e, .int .i64 x, .int .i64 a] 77))) := ⟨HB1.out, by rw [HSUC.out, ← HM.out] at *; exact HO1.out, HW1.out⟩
        go_wp2_with fail
        go_roundw
        case rel => exact ⟨k + 1, by omega, by go_num, HNX⟩
        case measure => simp [intOf]; omega
    · have hle : (n : Int) ≤ (k : Int) := by omega
      have hkn : k = L.length := by rw [HNU.out]; omega
      have hK := HK.out
      rw [hkn, List.take_length] at hK
      obtain ⟨_, ho, hw⟩ := hK
      have HR := Lib.hid ho.row
      have HW := Lib.hid hw
      clear ho hw hkn HK
      go_wp2_with fail
      refine (HSU.out _ _ HR.out).mono ?_
      rintro y w2 ⟨rfl, rfl⟩
      rw [HS.out, HE.out]
      go_wp2_with fail
      go_ret2
      exact ⟨rfl, HW.out⟩
end Go.Proofs.Ytillckkohdjkbaa
