/- CrcApart: the walk. -/
import Derived.Test.YtckbbdfmacjohaaApartPure
import Derived.Test.YtckbbdfmacjohaaCrcKnown
import Derived.Test.YtckbbdfmacjohaaElt
import Derived.Test.YtckbbdfmacjohaaStrRow
import Derived.Laws.CopyOwn
import Derived.Deep.RegionLaw
import Derived.Deep.RegionWith
namespace Go.Proofs.Ytckbbdfmacjohaa
open Go.RowKit
theorem Own.spliced {k : IntKind} {w w' : World} {base n c g q : Nat} {e : TypeId} {zs four : List Int} {cur : List Value} (h : Own k w base e (.slice (some ⟨g, 0, none⟩) n c) zs) (hg : w.heap[g]? = some (.cells cur.toArray e (0, 0))) (hq : q + four.length ≤ zs.length)
    (hg' : w'.heap[g]? = some (.cells (splice cur q (four.map (Value.int k))).toArray e (0, 0))) :
    Own k w' base e (.slice (some ⟨g, 0, none⟩) n c) (zs.take q ++ four ++ zs.drop (q + four.length)) := by
  obtain ⟨hl, h⟩ := h
  rcases h with ⟨e2, h0⟩ | ⟨g2, cap, cur2, e2, hb, hg2, hn, hm, hs, ht⟩
  · cases e2
  · cases e2
    rw [hg] at hg2
    simp only [Option.some.injEq, Obj.cells.injEq, and_true] at hg2
    have hlen : (zs.take q ++ four ++ zs.drop (q + four.length)).length = zs.length := by simp; omega
    have hcur : cur2.toList = cur := by rw [← hg2]
    have hcl : zs.length ≤ cur.length := by
      have : cur.length = c * 1 := by rw [← hcur]; simpa using hs
      omega
    refine ⟨by simp, .inr ⟨g, c, _, by rw [hlen], hb, hg', by rw [hlen]; exact hn, hm, ?_, ?_⟩⟩
    · have h1 := length_splice cur q (four.map (Value.int k)) (by simp; omega)
      have hcc : cur.length = c * 1 := by rw [← hcur]; simpa using hs
      simp only [List.size_toArray]
      rw [h1, hcc]
    · rw [hlen]
      rw [hcur] at ht
      simp only [Nat.mul_one] at ht ⊢
      obtain ⟨rest, hrest⟩ : ∃ rest, cur = zs.map (Value.int k) ++ rest := ⟨cur.drop zs.length, by rw [← ht, List.take_append_drop]⟩
      simp only [splice, List.length_map]
      have t1 : (zs.map (Value.int k) ++ rest).take q = (zs.map (Value.int k)).take q := List.take_append_of_le_length (by rw [List.length_map]; omega)
      have t2 : (zs.map (Value.int k) ++ rest).drop (q + four.length) = (zs.map (Value.int k)).drop (q + four.length) ++ rest := List.drop_append_of_le_length (by rw [List.length_map]; omega)
      rw [hrest, t1, t2]
      have e : (zs.map (Value.int k)).take q ++ (four.map (Value.int k) ++ ((zs.map (Value.int k)).drop (q + four.length) ++ rest)) = (zs.take q ++ four ++ zs.drop (q + four.length)).map (Value.int k) ++ rest := by
        simp [List.map_take, List.map_drop]
      rw [e]
      exact List.take_left' (by rw [List.length_map, hlen])
theorem Own.block {k : IntKind} {w : World} {base n c g : Nat} {e : TypeId} {zs : List Int} (h : Own k w base e (.slice (some ⟨g, 0, none⟩) n c) zs) :
    ∃ cur : List Value, w.heap[g]? = some (.cells cur.toArray e (0, 0)) ∧ n ≤ c ∧ cur.length = c := by
  obtain ⟨hl, h⟩ := h
  rcases h with ⟨e2, h0⟩ | ⟨g2, cap, cur2, e2, hb, hg2, hn, hm, hs, ht⟩
  · cases e2
  · cases e2
    exact ⟨cur2.toList, by simpa using hg2, hn, by simpa using hs⟩
theorem four_cells (w : World) (g : Nat) (x0 x1 x2 x3 : Int) (t : TypeId) (h : Blk w g #[.int .u8 x0, .int .u8 x1, .int .u8 x2, .int .u8 x3] t) :
    ∀ (j : Nat) (v : Value), (([x0, x1, x2, x3] : List Int).map (Value.int .u8))[j]? = some v → w.cell? ((⟨g, 0, none⟩ : Addr).add j) = some v := by
  intro j v hj
  rw [addAt, Nat.zero_add, h.cell j]
  match j, hj with
  | 0, hj => exact hj
  | 1, hj => exact hj
  | 2, hj => exact hj
  | 3, hj => exact hj
theorem str_inj {a b : List Int} (ha : Oct a) (hb : Oct b) (h : strOfNums a = strOfNums b) : a = b := by
  have h1 := congrArg (fun s => s.data.toList) h
  simp only [strOfNums_data] at h1
  refine ha.back hb ?_
  have key : ∀ (zs : List Int), Oct zs → (zs.map fun n => UInt8.ofNat n.toNat).map UInt8.toNat = natsOf zs := by
    intro zs hz
    unfold natsOf
    rw [List.map_map]
    refine List.map_congr_left fun x hx => ?_
    have := hz x hx
    simp; omega
  rw [← key a ha, ← key b hb, h1]
theorem ret_apart {a b : Bool} (h : a = b) : Ending.returned (.bool a) = .returned (.bool b) := by rw [h]
theorem apart_end {L b : List Int} {A C : Nat} (hL : Oct L) (hb : Oct b) (h : A = C ↔ L = b) : (((A : Int) == (C : Int)) == ((strOfNums L).toList == (strOfNums b).toList)) = true := by
  rw [ByteArray.toList_eq, ByteArray.toList_eq]
  by_cases hz : L = b
  · have h2 : (A : Int) = (C : Int) := by have := h.2 hz; omega
    subst hz
    simp [h2]
  · have h2 : (A : Int) ≠ (C : Int) := by
      intro e
      exact hz (h.1 (by omega))
    have h3 : (strOfNums L).data.toList ≠ (strOfNums b).data.toList := fun e => hz (str_inj hL hb (by cases hA : strOfNums L; cases hB : strOfNums b; rw [hA, hB] at e; congr; exact Array.toList_inj.mp e))
    have e1 : ((A : Int) == (C : Int)) = false := beq_eq_false_iff_ne.mpr h2
    have e2 : ((strOfNums L).data.toList == (strOfNums b).data.toList) = false := beq_eq_false_iff_ne.mpr h3
    rw [e1, e2]; rfl
set_option maxHeartbeats 4000000 in
set_option maxRecDepth 100000 in
theorem crcapart_walk (vb : Value) (b : List Int) (at_ x0 x1 x2 x3 : Int) (W : World) (ob : Oct b) (rb : Row .u8 W vb b) (lb : b.length ≤ 140737488355328) (ba : -9223372036854775808 ≤ at_ ∧ at_ ≤ 9223372036854775807) (of : Oct [x0, x1, x2, x3]) :
    Calls Try.prog 11 #[vb, .int .i64 at_, .agg #[.int .u8 x0, .int .u8 x1, .int .u8 x2, .int .u8 x3]] W fun e W' => e = .returned (.bool true) ∧ Below W.heap.size W W' := by
  obtain ⟨pb, cb, rfl⟩ := rb.shape
  have RB := Lib.hid rb
  have LB := Lib.hid lb
  clear rb
  obtain ⟨ba1, ba2⟩ := ba
  by_cases h1 : (b.length : Int) ≤ 500 ∧ 0 ≤ at_ ∧ at_ ≤ (b.length : Int) - 4
  · obtain ⟨g1, g2, g3⟩ := h1
    obtain ⟨q, rfl⟩ : ∃ q : Nat, at_ = (q : Int) := ⟨at_.toNat, by omega⟩
    generalize hn : b.length = n at *
    have HN := Lib.hid hn
    clear hn
    go_enter Try.func11, Try.ntmps11
    go_wp2_with fail
    refine (crcknown_any _).mono ?_
    rintro e w1 ⟨rfl, hb1⟩
    have hn0 : 0 < n := by omega
    have hF := (Blk.new W #[.int .u8 x0, .int .u8 x1, .int .u8 x2, .int .u8 x3] 64).below hb1 (by simp)
    have BW : Hid (Below W.heap.size W w1) := (oneB W _).trans (hb1.mono (by simp))
    have HF := Lib.hid hF
    have B0 := Lib.hid (BW.out.alloc BW.out.size (.cells #[] 5))
    have O0 := Lib.hid (Own.made_at .u8 w1 w1.heap.size w1.heap.size 5 (Nat.le_refl _) rfl)
    have Z1 := Lib.hid BW.out.size
    have Z2 := Lib.hid hF.lt
    have F0 := Lib.hid (hF.alloc (.cells #[] 5))
    clear hb1 hF
    go_wp2_with (at_builtin; go_loud (refine wpList_append_row rfl _ _ 53 rfl 5 .u8 1 w1.heap.size elt8 _ _ [] b rfl rfl O0.out (RB.out.under B0.out (Nat.le_refl _)) (by have := HN.out; simp; omega) (by have := HN.out; simp; omega) (by simp) b n rfl HN.out ?_; intro p2 c2 w2 ho2 hb2; have O2 := Lib.hid ho2; have B2 := Lib.hid (B0.out.trans (hb2.mono Z1.out)); have F2 := Lib.hid (F0.out.below hb2 Z2.out); clear ho2 hb2))
    obtain ⟨g, rfl, hgb, hgl, _⟩ := O2.out.at_ hn0
    obtain ⟨cur, hg, hnc, hcl⟩ := O2.out.block
    have hcq : ¬ c2 = q := by omega
    have hqn : q ≤ n := by omega
    have HG := Lib.hid hg
    have HGB := Lib.hid hgb
    have HCL := Lib.hid hcl
    have HQ4 : Hid (q + 4 ≤ n) := by show _ ≤ _; omega
    have HW : Hid (W.heap.size ≤ g) := Nat.le_trans Z1.out hgb
    have HWg : Hid (W.heap.size ≠ g) := by show _ ≠ _; have := Z2.out; omega
    have HOB : Hid ([x0, x1, x2, x3].map (Value.int .u8) = [x0, x1, x2, x3].map (Value.int .u8)) := rfl
    clear hg hgb hcl
    go_region_law (go_loud (refine step_copy_splice rfl (.tmp 29) (.tmp 30) 53 53 rfl 5 Try.underlying53 (by kernel_rfl) _ _ (n - q) (c2 - q) 4 4 rfl rfl g q cur 5 HG.out (([x0, x1, x2, x3] : List Int).map (Value.int .u8)) (by show 4 = _; exact (Nat.min_eq_left (by have := HQ4.out; omega)).symm) (fun _ => ⟨by simp, _, rfl, four_cells _ _ x0 x1 x2 x3 _ F2.out⟩) (by have := HQ4.out; have := HCL.out; simp; omega) (ints_onecell _ _) W.heap.size W (by first | exact B2.out.drew | exact B2.out) HW.out ?_; intro w4 hg4 hb4))
    have HO4 := Lib.hid (O2.out.spliced (four := [x0, x1, x2, x3]) (q := q) HG.out (by rw [HN.out]; exact HQ4.out) hg4.out)
    have O4 : Hid (Own .u8 w4 w1.heap.size 5 (.slice (some ⟨g, 0, none⟩) n c2) (putL b q [x0, x1, x2, x3])) := HO4.out
    have B4 := Lib.hid hb4
    have HAP := Lib.hid (apart_check (four := [x0, x1, x2, x3]) (q := q) rfl (by rw [HN.out]; exact HQ4.out) ob of)
    have HOP := Lib.hid (putL_oct q ob of)
    have HPL : Hid ((putL b q [x0, x1, x2, x3]).length = n) := by show _ = _; rw [putL_length (by rw [HN.out]; exact HQ4.out), HN.out]
    clear hg4 hb4 HO4
    generalize hL : putL b q [x0, x1, x2, x3] = L at *
    clear hL
    go_wp2_with fail
    have B4d : Hid (Below W.heap.size W w4.drew) := B4.out.drew
    have O4d : Hid (Own .u8 w4.drew w1.heap.size 5 (.slice (some ⟨g, 0, none⟩) n c2) L) := O4.out
    have kA := conv_row (P := Try.prog) w4.drew 53 9 5 Try.underlying53 Try.underlying5 Try.underlying9 _ _ O4d.out.row
    have kB := conv_row (P := Try.prog) w4.drew 53 9 5 Try.underlying53 Try.underlying5 Try.underlying9 _ _ (RB.out.under B4d.out (Nat.le_refl _))
    go_region_with (first
      | (go_at_call 25; refine (crcof_any (.slice (some ⟨g, 0, none⟩) n c2) L _ (by have := HPL.out; omega) HOP.out (by exact O4d.out.row)).mono ?_; rintro y w5 ⟨rfl, hb5⟩; have B5 := Lib.hid (B4d.out.trans (hb5.mono B4d.out.size)); have O5 := Lib.hid (O4d.out.later hb5); have kA5 := conv_row (P := Try.prog) w5 53 9 5 Try.underlying53 Try.underlying5 Try.underlying9 _ _ O5.out.row; have kB5 := conv_row (P := Try.prog) w5 53 9 5 Try.underlying53 Try.underlying5 Try.underlying9 _ _ (RB.out.under B5.out (Nat.le_refl _)); clear hb5)
      | (go_at_call 25; go_loud (refine (crcof_any (.slice pb n cb) b _ (by have := HN.out; omega) ob (RB.out.under B5.out (Nat.le_refl _))).mono ?_; rintro y w6 ⟨rfl, hb6⟩; have B6 := Lib.hid (B5.out.trans (hb6.mono B5.out.size)); have O6 := Lib.hid (O5.out.later hb6); have kA6 := conv_row (P := Try.prog) w6 53 9 5 Try.underlying53 Try.underlying5 Try.underlying9 _ _ O6.out.row; have kB6 := conv_row (P := Try.prog) w6 53 9 5 Try.underlying53 Try.underlying5 Try.underlying9 _ _ (RB.out.under B6.out (Nat.le_refl _)); clear hb6)))
    all_goals
      go_wp2_with fail
      go_ret
      exact ⟨ret_apart (apart_end HOP.out ob HAP.out), B6.out⟩
  · have hg : (500 : Int) < b.length ∨ (b.length : Int) ≤ 500 ∧ at_ < 0 ∨ (b.length : Int) ≤ 500 ∧ 0 ≤ at_ ∧ (b.length : Int) - 4 < at_ := by omega
    clear h1
    rcases hg with hg | ⟨hg, hg2⟩ | ⟨hg, hg2, hg3⟩
    all_goals
      go_enter Try.func11, Try.ntmps11
      go_wp2_with fail
      refine (crcknown_any _).mono ?_
      rintro e w1 ⟨rfl, hb1⟩
      go_wp2_with fail
      go_ret
      exact ⟨rfl, (oneB W _).trans (hb1.mono (by simp))⟩
end Go.Proofs.Ytckbbdfmacjohaa
