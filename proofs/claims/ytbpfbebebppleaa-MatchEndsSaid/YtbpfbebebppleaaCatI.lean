/- Grow and Concat of slices of contra/api.Item, by contract. -/
import Derived.Test.YtbpfbebebppleaaBookCmp
namespace Go.Proofs.Ytbpfbebebppleaa
open Go.RowKit
def zeroVI : Value := .agg #[.int .i64 0, .int .i64 0, .int .i64 0, .int .i64 0, .int .i64 0, .int .i64 0, .int .i64 0, .int .i64 0]
theorem eltI : EltT encI Try.prog 24 64 zeroVI 64 := eltT_mk Try.underlying24 (by kernel_rfl)
set_option maxHeartbeats 1000000 in
set_option maxRecDepth 100000 in
theorem growI_nil (n : Nat) (w : World) (hn : n ≤ 1000000) :
    Calls Try.prog 79 #[.slice none 0 0, .int .i64 n] w fun e w' => ∃ v, e = .returned v ∧ OwnT encI w' w.heap.size 64 v [] ∧ Below w.heap.size w w' := by
  obtain ⟨i0, _, hi, hz, hs, hby⟩ := eltI
  by_cases h0 : n = 0
  · subst h0
    go_enter Try.func79, Try.ntmps79
    go_wp2
    go_ret
    exact ⟨_, rfl, OwnT.nil_ encI _ _ _, Below.refl _ _⟩
  · have hpos : (0 : Int) < (n : Int) := by omega
    have happ := Lib.run_append_nil_zeros (P := Try.prog) w 24 3 24 64 i0 zeroVI .i64 .i64 Try.underlying24 Try.underlying3 hi hz n (by omega) (by rw [hs]; decide) (by omega) (by rw [hby]; omega)
    generalize hcap : grownCap w n 0 64 = cap2 at happ
    have hcapge : n ≤ cap2 := by rw [← hcap]; exact grownCap_ge w _ 0 64
    have hcaple : cap2 ≤ maxLen := by rw [← hcap]; exact grownCap_le_maxLen w _ 0 64 (by unfold maxLen; omega)
    generalize hZ : (Builtin.zeroCells zeroVI.cells n ++ Builtin.zeroCells zeroVI.cells (cap2 - n)) = Z at happ
    have hZs : Z.size = cap2 * 8 := by rw [← hZ]; simp [Builtin.zeroCells, Value.cells, zeroVI]; omega
    clear hcap hZ h0
    have HG := Lib.hid hcapge
    have HL := Lib.hid hcaple
    have HS := Lib.hid hZs
    clear hcapge hcaple hZs
    go_enter Try.func79, Try.ntmps79
    go_wp2_with (at_builtin; refine Lib.wpList_append_run _ rfl _ _ _ _ rfl _ _ rfl rfl _ _ happ ?_)
    go_ret
    exact ⟨_, rfl, ⟨by simp, .inr ⟨w.heap.size, cap2, Z, rfl, Nat.le_refl _, heap_alloc_new w.drew _, Nat.zero_le _, HL.out, HS.out, by simp⟩⟩, (Below.refl _ _).drew.alloc (Nat.le_refl _) _⟩
set_option maxHeartbeats 2000000 in
set_option maxRecDepth 100000 in
theorem concatI_any (b o m c : Nat) (vs : List Value) (pss : List (List Itm)) (w : World) (hR : RowsT encI w b o vs pss) (hm : m = pss.length) (hmc : m ≤ 1000) (hbig : pss.flatten.length ≤ 100000) :
    Calls Try.prog 77 #[.slice (some ⟨b, o, none⟩) m c] w fun e w' => ∃ v, e = .returned v ∧ OwnT encI w' w.heap.size 64 v pss.flatten ∧ Below w.heap.size w w' := by
  have HR := Lib.hid hR.2
  have HM := Lib.hid hm
  have HSB : Hid (∀ k, (catT pss k).length ≤ 100000) := fun k => Nat.le_trans (catT_le pss k) hbig
  clear hR hm
  go_enter Try.func77, Try.ntmps77
  go_wp2
  go_loop [3, 11] (fun s i => ∃ (k : Nat), k ≤ m ∧ i = .int .i64 k ∧ s = .int .i64 ((catT pss k).length : Nat)) (fun _ i => m - (intOf i).toNat)
  case atStart => exact ⟨0, by omega, rfl, rfl⟩
  case round =>
    obtain ⟨k, hk, rfl, rfl⟩ := hrel
    by_cases hlt : k < m
    · obtain ⟨hc, hrow⟩ := HR.out k (by rw [← HM.out]; exact hlt)
      obtain ⟨p1, c1, hv⟩ := hrow.shape
      rw [hv] at hc
      have hs := Lib.hid (catT_len pss k (by rw [← HM.out]; exact hlt))
      have hsb := HSB.out (k + 1)
      rw [hs.out] at hsb
      clear hv hrow
      generalize (pss.getD k []).length = L at *
      go_wp2
      go_round
      case rel => exact ⟨k + 1, by omega, by go_num, by rw [hs.out]; go_num⟩
      case measure => simp [intOf]; omega
    · have hkm : (m : Int) ≤ (k : Int) := by omega
      have hsb := HSB.out k
      go_wp2_with fail
      refine (growI_nil _ _ (by omega)).mono ?_
      rintro e w1 ⟨v1, rfl, ho1, hb1⟩
      have hstart : CatRelT encI 64 w pss 0 v1 w1 := ⟨by simpa [catT] using ho1, hb1⟩
      have HST := Lib.hid hstart
      clear hstart ho1 hb1
      go_wp2_with fail
      go_loopw [6, 27] (fun v i wr => ∃ (j : Nat), j ≤ m ∧ i = .int .i64 j ∧ Hid (CatRelT encI 64 w pss j v wr)) (fun _ i _ => m - (intOf i).toNat)
      case atStart => exact ⟨0, by omega, rfl, HST⟩
      case round =>
        obtain ⟨j, hj, rfl, HJ⟩ := hrel
        by_cases hlt : j < m
        · have hlz : j < pss.length := by rw [← HM.out]; exact hlt
          obtain ⟨hc, hrow⟩ := HR.out j hlz
          obtain ⟨p1, c1, hv⟩ := hrow.shape
          have hbl := World.block_lt_of_cell? w _ hc
          have HRW := Lib.hid hrow
          rw [hv] at hc HRW
          have hcw := (HJ.out.2.cell (p := ⟨b, o + j, none⟩) hbl).trans hc
          have HLEN : Hid ((catT pss j).length + (pss.getD j []).length ≤ 100000) := by have h := HSB.out (j + 1); rw [catT_len pss j hlz] at h; exact h
          have HLZ := Lib.hid hlz
          clear hv hrow hc hbl hlz
          obtain ⟨p0, c0, hv0⟩ := HJ.out.1.form
          have HJ2 := HJ.out
          rw [hv0] at HJ2
          have HJ3 := Lib.hid HJ2
          subst hv0
          clear HJ2
          go_wp2_with (at_builtin; go_loud (refine wpList_append_t rfl _ _ 24 rfl 64 zeroVI 64 w.heap.size eltI rfl (by decide) _ _ (catT pss j) (pss.getD j []) rfl rfl HJ3.out.1 (HRW.out.kept (HJ3.out.2)) (by have h : _ ≤ _ := HLEN.out; omega) HJ3.out.2.size (catT pss (j + 1)) ((catT pss (j + 1)).length) (catT_succ pss j HLZ.out) rfl ?_; intro p2 c2 w2 ho2 _ hb2; have HN := Lib.hid (show CatRelT encI 64 w pss (j + 1) _ w2 from ⟨ho2, HJ3.out.2.trans hb2⟩); clear ho2 hb2))
          go_roundw
          case rel => exact ⟨j + 1, by omega, by go_num, HN⟩
          case measure => simp [intOf]; omega
        · have hjm : (m : Int) ≤ (j : Int) := by omega
          have hjz : j = pss.length := by rw [← HM.out]; omega
          have hE := HJ.out
          rw [hjz] at hE
          have HE := Lib.hid hE
          clear hjz hE
          go_wp2
          go_ret
          exact ⟨_, rfl, by have := HE.out.1; unfold catT at this; rwa [List.take_length] at this, HE.out.2⟩
end Go.Proofs.Ytbpfbebebppleaa
