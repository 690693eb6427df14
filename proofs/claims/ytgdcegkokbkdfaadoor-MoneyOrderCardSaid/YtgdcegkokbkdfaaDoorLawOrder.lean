/- MoneyOrder: the walk. -/
import Derived.Test.YtgdcegkokbkdfaaDoorCounts
import Derived.Test.YtgdcegkokbkdfaaDoorBig
import Derived.Test.YtgdcegkokbkdfaaDoorStep
namespace Go.Proofs.YtgdcegkokbkdfaaDoor
open Go.RowKit Go.Lib

theorem info_i64 : (Tryd.prog.info? 2).map (fun i => (i.zero, i.size, i.bytes)) = some (some (.int .i64 0), 1, 8) := by kernel_rfl

/-- The cells of a row, as a law of append wants them: a piece from k on, m long. -/
theorem Row.piece {w : World} {p : Option Addr} {n c : Nat} {zs : List Int} (h : Row .i64 w (.slice p n c) zs) (k m : Nat) (hk : k + m ≤ zs.length) (b o : Nat) (hp : p = some ⟨b, o, none⟩) :
    ∀ (j : Nat) (u : Value), (((zs.drop k).take m).map (Value.int .i64))[j]? = some u → w.cell? ((⟨b, o + k, none⟩ : Addr).add j) = some u := by
  intro j u hj
  obtain ⟨p', c', e, _, h⟩ := h
  cases e
  have hjl : j < m := by
    rcases Nat.lt_or_ge j m with h | h
    · exact h
    · rw [List.getElem?_eq_none (by simp; omega)] at hj; cases hj
  rcases h with rfl | ⟨b', o', e, h⟩
  · simp at hj
  · rw [hp] at e
    cases e
    have hc := h (k + j) (by omega)
    rw [List.getElem?_map, List.getElem?_take, if_pos hjl, List.getElem?_drop, List.getElem?_eq_getElem (by omega)] at hj
    rw [List.getD_eq_getElem?_getD, List.getElem?_eq_getElem (by omega)] at hc
    rw [Lib.add_plain, show o + k + j = o + (k + j) by omega, hc]
    simpa using hj
theorem ints_cells (zs : List Int) : ∀ u ∈ zs.map (Value.int .i64), u.oneCell' = true := by
  intro u hu
  obtain ⟨x, _, rfl⟩ := List.mem_map.1 hu
  rfl

/-- The row that is turned round: a row of the call's own, whose numbers come to the same sum. -/
def RevRel (zs : List Int) (n : Nat) (w1 : World) (v : Value) (wr : World) : Prop :=
  ∃ (g c : Nat) (cur : Array Value) (ys : List Int), v = .slice (some ⟨g, 0, none⟩) n c ∧ n ≤ c ∧ Blk wr g cur 2 ∧ w1.heap.size ≤ g ∧ ys.length = n ∧ (∀ t, t < n → cur[t]? = some (.int .i64 (ys.getD t 0))) ∧ ys.sum = zs.sum ∧ All64 ys ∧ Below w1.heap.size w1 wr
theorem RevRel.form {zs : List Int} {n : Nat} {w1 wr : World} {v : Value} (h : RevRel zs n w1 v wr) (_h : 1 ≤ n) : ∃ g c, v = .slice (some ⟨g, 0, none⟩) n c := by
  obtain ⟨g, c, _, _, e, _⟩ := h
  exact ⟨g, c, e⟩
theorem RevRel.start {zs : List Int} {n k c o b : Nat} {w1 w2 w3 : World} {v2 v3 : Value} (_hr : Row .i64 w1 (.slice (some ⟨b, o, none⟩) n c) zs) (hB2 : Below w1.heap.size w1 w2)
    (hown : w3.ownsRow w1.heap.size 2 1 v3 (0 + (n - k) + k) ([] ++ ((zs.drop k).take (n - k)).map (Value.int .i64) ++ ((zs.drop 0).take k).map (Value.int .i64))) (hg : w2.grownBy w3 v2.ownBlock)
    (hk : k + (n - k) ≤ zs.length) (hl : zs.length = n) (h64 : All64 zs) (hn : 1 ≤ n) (hv2 : ∀ k', v2.ownBlock = some k' → w1.heap.size ≤ k') : RevRel zs n w1 v3 w3 := by
  have e1 : (zs.drop k).take (n - k) = zs.drop k := List.take_of_length_le (by rw [List.length_drop]; omega)
  rw [e1, List.drop_zero, List.nil_append, ← List.map_append, show 0 + (n - k) + k = n by omega] at hown
  obtain ⟨h1, h2 | ⟨g, cap, cur, rfl, hb, hg', hn', hm, hs, ht⟩⟩ := hown
  · omega
  · refine ⟨g, cap, cur, zs.drop k ++ zs.take k, rfl, hn', hg', hb, by simp; omega, fun t h => ?_, ?_, ?_, hB2.grown hg hB2.size hv2⟩
    · rw [Nat.mul_one] at ht
      have := congrArg (fun l => l[t]?) ht
      simp only [List.getElem?_take, List.getElem?_map, if_pos h] at this
      have hlen : t < (zs.drop k ++ zs.take k).length := by simp; omega
      rw [List.getElem?_eq_getElem hlen] at this
      rw [List.getD_eq_getElem?_getD, List.getElem?_eq_getElem hlen]
      simpa using this
    · rw [List.sum_append, Int.add_comm, ← List.sum_append, List.take_append_drop]
    · intro a ha
      rcases List.mem_append.1 ha with ha | ha
      · exact h64 a (List.mem_of_mem_drop ha)
      · exact h64 a (List.mem_of_mem_take ha)
theorem RevRel.drew {zs : List Int} {n : Nat} {w1 wr : World} {v : Value} (h : RevRel zs n w1 v wr) : RevRel zs n w1 v wr.drew := by
  obtain ⟨g, c, cur, ys, h1, h2, h3, h4, h5, h6, h7, h8, h9⟩ := h
  exact ⟨g, c, cur, ys, h1, h2, h3.drew, h4, h5, h6, h7, h8, h9.drew⟩
theorem RevRel.row {zs : List Int} {n : Nat} {w1 wr : World} {v : Value} (h : RevRel zs n w1 v wr) : ∃ ys, Row .i64 wr v ys ∧ ys.sum = zs.sum ∧ All64 ys ∧ ys.length = n ∧ Below w1.heap.size w1 wr := by
  obtain ⟨g, c, cur, ys, rfl, h2, h3, h4, h5, h6, h7, h8, h9⟩ := h
  refine ⟨ys, ⟨_, c, by rw [h5], by omega, .inr ⟨g, 0, rfl, fun i hi => ?_⟩⟩, h7, h8, h5, h9⟩
  rw [h3.cell, Nat.zero_add]; exact h6 i (by omega)
theorem set_sum (l : List Int) (i : Nat) (x : Int) (h : i < l.length) : (l.set i x).sum = l.sum - l.getD i 0 + x := by
  induction l generalizing i with
  | nil => simp at h
  | cons a t ih =>
    cases i with
    | zero => simp; omega
    | succ i =>
      have := ih i (by simpa using h)
      simp only [List.set_cons_succ, List.sum_cons, this, List.getD_cons_succ]; omega
theorem RevRel.swap {zs : List Int} {n g c i j : Nat} {w1 wr : World} {cur : Array Value} {ys : List Int} (hB : Blk wr g cur 2) (hc : n ≤ c) (hg : w1.heap.size ≤ g) (hl : ys.length = n) (hcur : ∀ t, t < n → cur[t]? = some (.int .i64 (ys.getD t 0)))
    (hs : ys.sum = zs.sum) (h64 : All64 ys) (hb : Below w1.heap.size w1 wr) (hij : i < j) (hj : j < n) :
    RevRel zs n w1 (.slice (some ⟨g, 0, none⟩) n c) ((wr.setCell ⟨g, i, none⟩ (.int .i64 (ys.getD j 0))).setCell ⟨g, j, none⟩ (.int .i64 (ys.getD i 0))) := by
  have hsz : ∀ t, t < n → t < cur.size := fun t h => by
    have := hcur t h
    rcases Nat.lt_or_ge t cur.size with h' | h'
    · exact h'
    · rw [Array.getElem?_eq_none h'] at this; cases this
  refine ⟨g, c, _, (ys.set i (ys.getD j 0)).set j (ys.getD i 0), rfl, hc, (hB.set i _).set j _, hg, by simp [hl], fun t h => ?_, ?_, ?_, (hb.setCell hg _).setCell hg _⟩
  · have s1 := hsz i (by omega)
    have s2 := hsz j hj
    by_cases e2 : t = j
    · subst e2
      rw [Array.getElem?_setIfInBounds_self_of_lt (by simpa using s2)]
      simp [List.getD_eq_getElem?_getD, hl, hj]
    · rw [Array.getElem?_setIfInBounds_ne (Ne.symm e2), show ((ys.set i (ys.getD j 0)).set j (ys.getD i 0)).getD t 0 = (ys.set i (ys.getD j 0)).getD t 0 by simp only [List.getD_eq_getElem?_getD]; rw [List.getElem?_set_ne (Ne.symm e2)]]
      by_cases e1 : t = i
      · subst e1
        rw [Array.getElem?_setIfInBounds_self_of_lt s1]
        simp [List.getD_eq_getElem?_getD, hl, h]
      · rw [Array.getElem?_setIfInBounds_ne (Ne.symm e1), show (ys.set i (ys.getD j 0)).getD t 0 = ys.getD t 0 by simp only [List.getD_eq_getElem?_getD]; rw [List.getElem?_set_ne (Ne.symm e1)]]
        exact hcur t h
  · rw [set_sum _ _ _ (by simp [hl]; exact hj), set_sum _ _ _ (by omega)]
    have : (ys.set i (ys.getD j 0)).getD j 0 = ys.getD j 0 := by
      rw [List.getD_eq_getElem?_getD, List.getElem?_set_ne (by omega), List.getD_eq_getElem?_getD]
    rw [this, ← hs]; omega
  · intro a ha
    rcases List.mem_or_eq_of_mem_set ha with ha | rfl
    · rcases List.mem_or_eq_of_mem_set ha with ha | rfl
      · exact h64 a ha
      · exact h64.getD j
    · exact h64.getD i

set_option maxHeartbeats 2000000 in
set_option maxRecDepth 100000 in
theorem order_main (p : Option Addr) (n c k : Nat) (zs : List Int) (turn : Int) (w : World) (h64 : All64 zs) (hrow : Row .i64 w (.slice p n c) zs) (hn : n = zs.length) (h1 : 1 ≤ n) (h2 : n ≤ 200) (ht0 : 0 ≤ turn) (ht : turn ≤ 9223372036854775807) (hk : turn % n = k) (htab : Pow w) :
    Calls Tryd.prog 5 #[.slice p n c, .int .i64 turn] w fun e w' => e = .returned (.bool true) ∧ Below w.heap.size w w' := by
  obtain ⟨i0, hi, hz0, hz1, hz2⟩ := info_parts info_i64
  have HC := Lib.hid (counts_any w htab)
  have HR := Lib.hid hrow
  have HK := Lib.hid hk
  have HN := Lib.hid hn
  obtain ⟨b, o, rfl, _⟩ := hrow.at 0 (by omega)
  have hkl : k < n := by have := Int.emod_lt_of_pos turn (b := (n : Int)) (by omega); omega
  have h0 : ((n : Int) == 0) = false := by simp; omega
  have hmod : turn.tmod (n : Int) = (k : Int) := by rw [Int.tmod_eq_emod_of_nonneg ht0, hk]
  have hcap : n ≤ c := by obtain ⟨_, _, e, h, _⟩ := hrow; cases e; omega
  have hle : k ≤ n := by omega
  have hkc : k ≤ c := by omega
  have hck : ¬ c = k := by omega
  clear htab hrow hk hn
  go_enter Tryd.func5, Tryd.ntmps5
  go_wp2_with fail
  refine HC.out.mono ?_
  rintro e w1 ⟨rfl, hb1⟩
  have R1 := Lib.hid (HR.out.kept hb1)
  have HB1 := Lib.hid hb1
  clear hb1 HC
  go_wp2_with fail
  have lz : Hid (zs.length = n) := HN.out.symm
  have L1 : Hid ((((zs.drop k).take (n - k)).map (Value.int .i64)).length = (n - k) * 1) := by show _ = _; have := lz.out; simp; omega
  have L2 : Hid ((((zs.drop 0).take k).map (Value.int .i64)).length = k * 1) := by show _ = _; have := lz.out; simp; omega
  have K1 : Hid (k + (n - k) ≤ zs.length) := by show _ ≤ _; have := lz.out; omega
  have K2 : Hid (0 + k ≤ zs.length) := by show _ ≤ _; have := lz.out; omega
  have M1 : Hid (0 + (n - k) ≤ maxLen) := by show _ ≤ _; unfold maxLen; omega
  have M2 : Hid ((0 + (n - k)) * 8 ≤ 140737488355328) := by show _ ≤ _; omega
  have M3 : Hid (0 + (n - k) + k ≤ maxLen) := by show _ ≤ _; unfold maxLen; omega
  have M4 : Hid ((0 + (n - k) + k) * 8 ≤ 140737488355328) := by show _ ≤ _; omega
  have own0 : Hid (∀ W : World, (W.alloc (.cells #[] 2)).ownsRow W.heap.size 2 1 (.slice (some ⟨W.heap.size, 0, none⟩) 0 0) 0 []) := fun W => World.ownsRow_made (base := W.heap.size) (w := W) (e := 2) (size := 1) #[] 0 (Nat.le_refl _) (by decide) (by decide)
  go_region_law ((first
    | (refine step_append_own rfl (.tmp 31) (.tmp 34) 28 rfl w1.heap.size 2 i0 (.int .i64 0) 1 8 Tryd.underlying28 hi hz0 hz1 hz2 rfl (by decide) (.slice (some ⟨w1.heap.size, 0, none⟩) 0 0) 0 [] (by simp [Act.eval]) (own0.out w1) ⟨b, o + k, none⟩ (n - k) (c - k) (((zs.drop k).take (n - k)).map (Value.int .i64)) (by simp [Act.eval]) L1.out ((R1.out.kept (by repeat (first | exact Below.refl _ _ | refine Below.drew ?_ | refine Below.alloc ?_ (by first | omega | (simp; done) | (simp; omega)) _))).piece k (n - k) K1.out b o rfl) (ints_cells _) M1.out M2.out (by simp) ?_; intro v2 w2 hown2 hg2 _; have HB2 : Hid (Below w1.heap.size w1 w2) := (by first | exact (oneB w1 _).drew.grown hg2 (by simp) (by intro k h; simp [Value.ownBlock] at h; omega) | exact (oneB w1 _).grown hg2 (by simp) (by intro k h; simp [Value.ownBlock] at h; omega)))
    | (refine step_append_own rfl (.tmp 35) (.tmp 38) 28 rfl w1.heap.size 2 i0 (.int .i64 0) 1 8 Tryd.underlying28 hi hz0 hz1 hz2 rfl (by decide) v2 (0 + (n - k)) ([] ++ ((zs.drop k).take (n - k)).map (Value.int .i64)) (by simp [Act.eval]) hown2 ⟨b, o + 0, none⟩ k c (((zs.drop 0).take k).map (Value.int .i64)) (by simp [Act.eval]) L2.out ((R1.out.kept HB2.out).piece 0 k K2.out b o rfl) (ints_cells _) M3.out M4.out HB2.out.size ?_; intro v3 w3 hown3 hg3 _)))
  have hfin : Hid (RevRel zs n w1 v3 (w3)) := RevRel.start R1.out HB2.out hown3 hg3 K1.out lz.out h64 h1 (fun q hq => (hown2.lt q hq).1)
  clear hown2 hg2 hown3 hg3 own0 L1 L2 K1 K2 M1 M2 M3 M4
  obtain ⟨g, c3, rfl⟩ := hfin.out.form (by omega)
  go_wp2
  go_loopw [7, 8] (fun vi vj wr => ∃ i j : Nat, vi = .int .i64 i ∧ vj = .int .i64 j ∧ j < n ∧ Hid (RevRel zs n w1 (.slice (some ⟨g, 0, none⟩) n c3) wr)) (fun _ vj _ => (RowKit.intOf vj).toNat)
  case atStart => exact ⟨0, n - 1, rfl, by go_num, by omega, hfin⟩
  case round =>
    obtain ⟨i, j, rfl, rfl, hj, hrel⟩ := hrel
    by_cases hij : i < j
    · obtain ⟨g', c', cur, ys, e, hc, hB, hg, hl, hcur, hs, hy64, hb⟩ := hrel.out
      cases e
      have hci : wr.cell? ⟨g, i, none⟩ = some (.int .i64 (ys.getD i 0)) := by rw [hB.cell]; exact hcur i (by omega)
      have hcj : wr.cell? ⟨g, j, none⟩ = some (.int .i64 (ys.getD j 0)) := by rw [hB.cell]; exact hcur j hj
      have hfi := hB.free i
      have hfj := hB.free j
      have hsw := Lib.hid (RevRel.swap hB hc hg hl hcur hs hy64 hb hij hj)
      generalize ys.getD i 0 = x at *
      generalize ys.getD j 0 = y at *
      clear hB hcur hs hy64 hb hl
      have b1 : (0 : Int) ≤ (i : Int) := Int.natCast_nonneg _
      have b2 : (i : Int) < (n : Int) := by omega
      have b3 : (0 : Int) ≤ (j : Int) := Int.natCast_nonneg _
      have b4 : (j : Int) < (n : Int) := by omega
      go_wp2_with fail
      go_region
      all_goals
        go_wp2
        go_roundw
        case rel => exact ⟨i + 1, j - 1, by go_num, by go_num, by omega, hsw.out.drew⟩
        case measure => simp [RowKit.intOf]; omega
    · obtain ⟨ys, hry, hsy, h64y, hly, hby⟩ := hrel.out.row
      have R2 := Lib.hid (R1.out.kept hby)
      have HRY := Lib.hid hry
      have HSY := Lib.hid hsy
      have HBY := Lib.hid hby
      have HLY := Lib.hid hly
      clear hry hsy hby hrel hfin hly
      go_wp2_with fail
      refine (sum_any _ zs wr (by have := HN.out; omega) h64 R2.out).mono ?_
      rintro e w4 ⟨rfl, rfl⟩
      go_wp2_with fail
      refine (sum_any _ ys wr (by have := HLY.out; omega) h64y HRY.out).mono ?_
      rintro e w4 ⟨rfl, rfl⟩
      rw [HSY.out]
      go_wp2
      go_ret
      exact ⟨rfl, seqB HB1.out HBY.out⟩

theorem order_walk (v : Value) (zs : List Int) (turn : Int) (w : World) (h64 : All64 zs) (hrow : Row .i64 w v zs) (ht : Fits turn) (htab : Pow w) :
    Calls Tryd.prog 5 #[v, .int .i64 turn] w fun e w' => e = .returned (.bool true) ∧ Below w.heap.size w w' := by
  obtain ⟨p, c, rfl⟩ := hrow.form
  by_cases h0 : zs.length = 0
  · have HC := Lib.hid (counts_any w htab)
    rw [h0]
    clear htab hrow h0 h64
    go_enter Tryd.func5, Tryd.ntmps5
    go_wp2_with fail
    refine HC.out.mono ?_
    rintro e w1 ⟨rfl, hb1⟩
    go_wp2
    go_ret
    exact ⟨rfl, hb1⟩
  · by_cases h2 : 200 < zs.length
    · have HC := Lib.hid (counts_any w htab)
      have hb0 : ((zs.length : Int) == 0) = false := beq_eq_false_iff_ne.2 (by omega)
      clear htab hrow h0 h64
      go_enter Tryd.func5, Tryd.ntmps5
      go_wp2_with fail
      refine HC.out.mono ?_
      rintro e w1 ⟨rfl, hb1⟩
      go_wp2
      go_ret
      exact ⟨rfl, hb1⟩
    · by_cases h3 : turn < 0
      · have HC := Lib.hid (counts_any w htab)
        have hb0 : ((zs.length : Int) == 0) = false := beq_eq_false_iff_ne.2 (by omega)
        clear htab hrow h0 h64
        go_enter Tryd.func5, Tryd.ntmps5
        go_wp2_with fail
        refine HC.out.mono ?_
        rintro e w1 ⟨rfl, hb1⟩
        go_wp2
        go_ret
        exact ⟨rfl, hb1⟩
      · refine order_main p zs.length c (turn % (zs.length : Int)).toNat zs turn w h64 hrow rfl (by omega) (by omega) (by omega) ht.2 ?_ htab
        have := Int.emod_nonneg turn (b := (zs.length : Int)) (by omega)
        omega
end Go.Proofs.YtgdcegkokbkdfaaDoor
