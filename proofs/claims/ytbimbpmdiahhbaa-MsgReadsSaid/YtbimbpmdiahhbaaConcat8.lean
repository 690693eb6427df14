/- slices.Grow of nil, slices.Concat of bytes: by contract. -/
import Derived.Test.YtbimbpmdiahhbaaElt
import Derived.Test.YtbimbpmdiahhbaaOct
import Derived.Lib.AppendZeros
namespace Go.Proofs.Ytbimbpmdiahhbaa
open Go.RowKit

set_option maxHeartbeats 1000000 in
set_option maxRecDepth 100000 in
theorem grow8_nil (n : Nat) (w : World) (hn : n ≤ 140737488355328) :
    Calls Try.prog 34 #[.slice none 0 0, .int .i64 n] w fun e w' => ∃ v, e = .returned v ∧ Own .u8 w' w.heap.size 5 v [] ∧ Below w.heap.size w w' := by
  obtain ⟨i0, _, hi, hz, hs, hby⟩ := elt8
  by_cases h0 : n = 0
  · subst h0
    go_enter Try.func34, Try.ntmps34
    go_wp2
    go_ret
    exact ⟨_, rfl, Own.nil_ _ _ _ _, Below.refl _ _⟩
  · have hpos : (0 : Int) < (n : Int) := by omega
    have happ := Lib.run_append_nil_zeros (P := Try.prog) w 22 3 22 5 i0 (.int .u8 0) .i64 .i64 Try.underlying22 Try.underlying3 hi hz n (by omega) (by omega) (by omega) (by rw [hby]; omega)
    generalize hcap : grownCap w n 0 5 = cap2 at happ
    have hcapge : n ≤ cap2 := by rw [← hcap]; exact grownCap_ge w _ 0 5
    have hcaple : cap2 ≤ maxLen := by rw [← hcap]; exact grownCap_le_maxLen w _ 0 5 (by unfold maxLen; omega)
    generalize hZ : (Builtin.zeroCells (Value.int .u8 0).cells n ++ Builtin.zeroCells (Value.int .u8 0).cells (cap2 - n)) = Z at happ
    have hZs : Z.size = cap2 := by rw [← hZ]; simp [Builtin.zeroCells, Value.cells]; omega
    clear hcap hZ h0
    have HG := Lib.hid hcapge
    have HL := Lib.hid hcaple
    have HS := Lib.hid hZs
    clear hcapge hcaple hZs
    go_enter Try.func34, Try.ntmps34
    go_wp2_with (at_builtin; refine Lib.wpList_append_run _ rfl _ _ _ _ rfl _ _ rfl rfl _ _ happ ?_)
    go_ret
    exact ⟨_, rfl, ⟨by simp, .inr ⟨w.heap.size, cap2, Z, rfl, Nat.le_refl _, heap_alloc_new w.drew _, Nat.zero_le _, HL.out, by rw [HS.out, Nat.mul_one], by simp⟩⟩, (Below.refl _ _).drew.alloc (Nat.le_refl _) _⟩

/-- Slices in a slice: each the address of a row. -/
def Rows8 (w : World) (b o : Nat) (vs : List Value) (zss : List (List Int)) : Prop :=
  vs.length = zss.length ∧ ∀ i, i < zss.length → w.cell? ⟨b, o + i, none⟩ = some (vs.getD i undef) ∧ Row .u8 w (vs.getD i undef) (zss.getD i [])
def catL (zss : List (List Int)) (k : Nat) : List Int := (zss.take k).flatten
def sumLen (zss : List (List Int)) (k : Nat) : Nat := (zss.take k).flatten.length
theorem sumLen_succ (zss : List (List Int)) (k : Nat) (h : k < zss.length) : sumLen zss (k + 1) = sumLen zss k + (zss.getD k []).length := by
  unfold sumLen
  rw [List.take_succ_eq_append_getElem h, List.flatten_append, List.length_append, List.getD_eq_getElem?_getD, List.getElem?_eq_getElem h]; simp
theorem flatten_succ (zss : List (List Int)) (k : Nat) (h : k < zss.length) : catL zss k ++ zss.getD k [] = catL zss (k + 1) := by
  unfold catL
  rw [List.take_succ_eq_append_getElem h, List.flatten_append, List.getD_eq_getElem?_getD, List.getElem?_eq_getElem h]; simp
theorem sumLen_le (zss : List (List Int)) (k : Nat) : sumLen zss k ≤ zss.flatten.length := by
  unfold sumLen
  have : zss.flatten = (zss.take k).flatten ++ (zss.drop k).flatten := by rw [← List.flatten_append, List.take_append_drop]
  rw [this, List.length_append]; omega
def CatRel (w : World) (zss : List (List Int)) (k : Nat) (v : Value) (wr : World) : Prop := Own .u8 wr w.heap.size 5 v (catL zss k) ∧ Below w.heap.size w wr

set_option maxHeartbeats 2000000 in
set_option maxRecDepth 100000 in
theorem concat8_any (b o m c : Nat) (vs : List Value) (zss : List (List Int)) (w : World) (hR : Rows8 w b o vs zss) (hm : m = zss.length) (hmc : m ≤ 1000) (hbig : zss.flatten.length ≤ 140737488355000) :
    Calls Try.prog 15 #[.slice (some ⟨b, o, none⟩) m c] w fun e w' => ∃ v, e = .returned v ∧ Own .u8 w' w.heap.size 5 v zss.flatten ∧ Below w.heap.size w w' := by
  have HR := Lib.hid hR.2
  have HM := Lib.hid hm
  have HSB : Hid (∀ k, sumLen zss k ≤ 140737488355000) := fun k => Nat.le_trans (sumLen_le zss k) hbig
  clear hR hm
  go_enter Try.func15, Try.ntmps15
  go_wp2
  go_loop [3, 11] (fun s i => ∃ (k : Nat), k ≤ m ∧ i = .int .i64 k ∧ s = .int .i64 (sumLen zss k : Nat)) (fun _ i => m - (intOf i).toNat)
  case atStart => exact ⟨0, by omega, rfl, rfl⟩
  case round =>
    obtain ⟨k, hk, rfl, rfl⟩ := hrel
    by_cases hlt : k < m
    · obtain ⟨hc, hrow⟩ := HR.out k (by rw [← HM.out]; exact hlt)
      obtain ⟨p1, c1, hv⟩ := hrow.shape
      rw [hv] at hc
      have hs := Lib.hid (sumLen_succ zss k (by rw [← HM.out]; exact hlt))
      have hsb := HSB.out (k + 1)
      rw [hs.out] at hsb
      clear hv hrow
      generalize (zss.getD k []).length = L at *
      go_wp2
      go_round
      case rel => exact ⟨k + 1, by omega, by go_num, by rw [hs.out]; go_num⟩
      case measure => simp [intOf]; omega
    · have hkm : (m : Int) ≤ (k : Int) := by omega
      have hsb := HSB.out k
      go_wp2_with fail
      refine (grow8_nil _ _ (by omega)).mono ?_
      rintro e w1 ⟨v1, rfl, ho1, hb1⟩
      have hstart : CatRel w zss 0 v1 w1 := ⟨by simpa [catL] using ho1, hb1⟩
      have HST := Lib.hid hstart
      clear hstart ho1 hb1
      go_wp2_with fail
      go_loopw [6, 27] (fun v i wr => ∃ (j : Nat), j ≤ m ∧ i = .int .i64 j ∧ Hid (CatRel w zss j v wr)) (fun _ i _ => m - (intOf i).toNat)
      case atStart => exact ⟨0, by omega, rfl, HST⟩
      case round =>
        obtain ⟨j, hj, rfl, HJ⟩ := hrel
        by_cases hlt : j < m
        · have hlz : j < zss.length := by rw [← HM.out]; exact hlt
          obtain ⟨hc, hrow⟩ := HR.out j hlz
          obtain ⟨p1, c1, hv⟩ := hrow.shape
          have hbl := World.block_lt_of_cell? w _ hc
          have HRW := Lib.hid hrow
          rw [hv] at hc HRW
          have hcw := (HJ.out.2.cell (p := ⟨b, o + j, none⟩) hbl).trans hc
          have hlen : (catL zss j).length + (zss.getD j []).length ≤ 140737488355000 := by have := HSB.out (j + 1); rw [sumLen_succ zss j hlz] at this; exact this
          have HLEN := Lib.hid hlen
          have HLZ := Lib.hid hlz
          clear hv hrow hc hbl hlen hlz
          obtain ⟨p0, c0, hv0⟩ := HJ.out.1.form
          have HJ2 := HJ.out
          rw [hv0] at HJ2
          have HJ3 := Lib.hid HJ2
          subst hv0
          clear HJ2
          go_wp2_with (at_builtin; go_loud (refine wpList_append_row rfl _ _ 22 rfl 5 .u8 1 w.heap.size elt8 _ _ (catL zss j) (zss.getD j []) rfl rfl HJ3.out.1 (HRW.out.under HJ3.out.2 (Nat.le_refl _)) HLEN.out (by have h : _ ≤ _ := HLEN.out; omega) HJ3.out.2.size (catL zss (j + 1)) (sumLen zss (j + 1)) (flatten_succ zss j HLZ.out) rfl ?_; intro p2 c2 w2 ho2 hb2; have HN := Lib.hid (show CatRel w zss (j + 1) _ w2 from ⟨ho2, HJ3.out.2.trans hb2⟩); clear ho2 hb2))
          go_roundw
          case rel => exact ⟨j + 1, by omega, by go_num, HN⟩
          case measure => simp [intOf]; omega
        · have hjm : (m : Int) ≤ (j : Int) := by omega
          have hjz : j = zss.length := by rw [← HM.out]; omega
          have hE := HJ.out
          rw [hjz] at hE
          have HE := Lib.hid hE
          clear hjz hE
          go_wp2
          go_ret
          exact ⟨_, rfl, by have := HE.out.1; unfold catL at this; rwa [List.take_length] at this, HE.out.2⟩
end Go.Proofs.Ytbimbpmdiahhbaa
