/- VectorBack: the walk. -/
import Derived.Test.YtaooiejgigicoaaStepM
import Derived.Deep.RegionHeld3
namespace Go.Proofs.Ytaooiejgigicoaa
open Go.RowKit
/-- A slice of positions of the call's own whose amounts are written. -/
def LRel (w : World) (base : Nat) (p : Option Addr) (n : Nat) (wr : World) : Prop :=
  Below base w wr ∧ (n = 0 ∨ ∃ g cs t, p = some ⟨g, 0, none⟩ ∧ base ≤ g ∧ Blk wr g cs t ∧ ∀ i, i < n → ∃ z, cs[i * 3 + 2]? = some (.int .i64 z))
theorem lrel_start {w wr : World} {base : Nat} {e : TypeId} {p : Option Addr} {n c : Nat} {ps : List Pos} (hn : ps.length = n) (h : OwnP wr base e (.slice p n c) ps) (hb : Below base w wr) : LRel w base p n wr := by
  refine ⟨hb, ?_⟩
  by_cases h0 : n = 0
  · exact .inl h0
  right
  have hrow := h.row
  rcases h.2 with ⟨hv, hl⟩ | ⟨g, cap, cur, hv, hbg, hg, hn2, hm, hc, ht⟩
  · exact absurd (hn.symm.trans hl) h0
  · cases hv
    refine ⟨g, cur, e, rfl, hbg, hg, fun i hi => ?_⟩
    obtain ⟨b, o, he, _, _, _, h2⟩ := hrow.at_ i (by omega)
    cases he
    rw [Nat.zero_add] at h2
    rw [cell_of_row wr g _ cur e (0, 0) hg] at h2
    exact ⟨_, h2⟩
theorem lrel_set {w wr : World} {base g n k : Nat} {cs : Array Value} {t : TypeId} (hb : Below base w wr) (hg : base ≤ g) (h : Blk wr g cs t) (hz : ∀ i, i < n → ∃ z, cs[i * 3 + 2]? = some (.int .i64 z)) (hk : k < n) (u : Int) :
    LRel w base (some ⟨g, 0, none⟩) n (wr.setCell ⟨g, k * 3 + 2, none⟩ (.int .i64 u)) := by
  refine ⟨hb.setCell (p := ⟨g, k * 3 + 2, none⟩) hg _, .inr ⟨g, _, t, rfl, hg, h.set (k * 3 + 2) (.int .i64 u), fun i hi => ?_⟩⟩
  obtain ⟨z, hz1⟩ := hz i hi
  have hlt : i * 3 + 2 < cs.size := by
    rcases Nat.lt_or_ge (i * 3 + 2) cs.size with h | h
    · exact h
    · rw [Array.getElem?_eq_none h] at hz1; cases hz1
  by_cases he : i = k
  · subst he
    exact ⟨u, Array.getElem?_setIfInBounds_self_of_lt hlt⟩
  · exact ⟨z, by rw [Array.getElem?_setIfInBounds_ne (by omega)]; exact hz1⟩
set_option linter.unusedSimpArgs false in
set_option maxHeartbeats 16000000 in
set_option maxRecDepth 100000 in
theorem vback_walk (v : Value) (ps : List Pos) (e c a : Int) (w : World) (hr : PRow w v ps) (hf : ∀ p ∈ ps, FitP p) (_ : Fits e) (_ : Fits c) (ha : Fits a) : Calls Try.prog 5 #[v, .agg #[.int .i64 e, .int .i64 c, .int .i64 a]] w fun e w' => e = .returned (.bool true) ∧ Below w.heap.size w w' := by
  have HL := Lib.hid (fun w => holds_any w)
  obtain ⟨pv, cv, rfl⟩ := hr.shape
  have HB0 := Lib.hid (oneB w (.cells #[.int .i64 e, .int .i64 c, .int .i64 a] 46))
  have HA0 := Lib.hid (Blk.new w #[.int .i64 e, .int .i64 c, .int .i64 a] 46)
  by_cases hb : 40 < ps.length
  · have hb' : (40 : Int) < (ps.length : Int) := by omega
    generalize ps.length = n at *
    clear hr hf ha
    go_enter Try.func5, Try.ntmps5
    go_wp2_with fail
    refine (HL.out _).mono ?_
    rintro y w1 ⟨rfl, hb1⟩
    have HB1 := Lib.hid (HB0.out.trans (hb1.mono HB0.out.size))
    have HA1 := Lib.hid (HA0.out.below hb1 HA0.out.lt)
    clear hb1
    have a0 : w1.cell? ⟨w.heap.size, 0, none⟩ = some (.int .i64 e) := HA1.out.cell 0
    have a1 : w1.cell? ⟨w.heap.size, 1, none⟩ = some (.int .i64 c) := HA1.out.cell 1
    have a2 : w1.cell? ⟨w.heap.size, 2, none⟩ = some (.int .i64 a) := HA1.out.cell 2
    have la := HA1.out.lt
    go_wp2_with fail
    go_ret
    exact ⟨rfl, HB1.out⟩
  have hb' : ¬ (40 : Int) < (ps.length : Int) := by omega
  by_cases hmin : a = -9223372036854775808
  · have e9 : (a == -9223372036854775808) = true := by simpa using hmin
    generalize ps.length = n at *
    clear hr hf ha hmin
    go_enter Try.func5, Try.ntmps5
    go_wp2_with fail
    refine (HL.out _).mono ?_
    rintro y w1 ⟨rfl, hb1⟩
    have HB1 := Lib.hid (HB0.out.trans (hb1.mono HB0.out.size))
    have HA1 := Lib.hid (HA0.out.below hb1 HA0.out.lt)
    clear hb1
    have a0 : w1.cell? ⟨w.heap.size, 0, none⟩ = some (.int .i64 e) := HA1.out.cell 0
    have a1 : w1.cell? ⟨w.heap.size, 1, none⟩ = some (.int .i64 c) := HA1.out.cell 1
    have a2 : w1.cell? ⟨w.heap.size, 2, none⟩ = some (.int .i64 a) := HA1.out.cell 2
    have la := HA1.out.lt
    go_wp2_with fail
    go_ret
    exact ⟨rfl, HB1.out⟩
  have e9 : (a == -9223372036854775808) = false := by simpa using hmin
  have HNEG : Hid (Fits (-a)) := by show Fits (-a); unfold Fits at *; omega
  have hwn : wrap64 (-a) = -a := by unfold wrap64; unfold Fits at ha; omega
  have HFA := Lib.hid ha
  have HP := Lib.hid (fun (W : World) (h : Below w.heap.size w W) => play_any W _ ps (hr.kept h) (by omega) hf)
  unfold vecV at HP
  generalize hn : ps.length = n at *
  clear hr hf hn hb hmin ha
  go_enter Try.func5, Try.ntmps5
  go_wp2_with fail
  refine (HL.out _).mono ?_
  rintro y w1 ⟨rfl, hb1⟩
  have HB1 := Lib.hid (HB0.out.trans (hb1.mono HB0.out.size))
  have HA1 := Lib.hid (HA0.out.below hb1 HA0.out.lt)
  clear hb1
  have a0 : w1.cell? ⟨w.heap.size, 0, none⟩ = some (.int .i64 e) := HA1.out.cell 0
  have a1 : w1.cell? ⟨w.heap.size, 1, none⟩ = some (.int .i64 c) := HA1.out.cell 1
  have a2 : w1.cell? ⟨w.heap.size, 2, none⟩ = some (.int .i64 a) := HA1.out.cell 2
  have la := HA1.out.lt
  go_wp2_with fail
  refine (HP.out _ HB1.out).mono ?_
  rintro y w2 ⟨v2, rfl, hr2, hb2⟩
  obtain ⟨p2, c2, hv2⟩ := hr2.shape
  generalize hn2 : (posOf (playM ps)).length = n2 at hv2
  clear hn2
  subst hv2
  have HPW2 := Lib.hid (playw w w2 (.slice p2 n2 c2) (playM ps) (playM_len _) (HB1.out.trans (hb2.mono HB1.out.size)) hr2)
  have HTH2 := Lib.hid (zeros_there w2 (.slice p2 n2 c2) (playM ps) (playM_len _))
  have HIN2 := Lib.hid (mInfo (mCells (playM ps)) (by rw [mCells_size]; exact playM_len _))
  have HBK2 := Lib.hid hb2
  clear hr2 hb2
  go_wp2_with (with_reducible refine stop_store 30 (.tmp 6) (.tmp 28) rfl ?_)
  refine wpList_store_mid rfl 30 (.tmp 6) (.tmp 28) rfl (w2.heap.size + 1) 0 (mCells (playM ps)) rfl rfl HTH2.out HIN2.out (mCells_one (playM ps)) ?_
  obtain ⟨hbv2, hbm2, hbw2, hrow2, hbb2⟩ := HPW2.out
  clear HPW2 HTH2 HIN2
  generalize World.setCells _ (w2.heap.size + 1) 0 (mCells (playM ps)).toList = X2 at *
  have HV2 := Lib.hid hbv2
  have HM2 := Lib.hid hbm2
  have HW2 := Lib.hid hbw2
  have HR2 := Lib.hid hrow2
  have HBB2 := Lib.hid hbb2
  have cv2 : X2.cell? ⟨w2.heap.size, 0, none⟩ = some (.slice p2 n2 c2) := hbv2.cell 0
  have lv2 := hbv2.lt
  have lm2 := hbm2.lt
  clear hbv2 hbm2 hbw2 hrow2 hbb2
  clear HP HL hb' a0 a1 a2 la
  have HAX : Hid (Blk X2 w.heap.size #[.int .i64 e, .int .i64 c, .int .i64 a] 46) := (HA1.out.below HBK2.out HA1.out.lt).below HBB2.out (Nat.lt_of_lt_of_le HA1.out.lt HBK2.out.size)
  have a0 : X2.cell? ⟨w.heap.size, 0, none⟩ = some (.int .i64 e) := HAX.out.cell 0
  have a1 : X2.cell? ⟨w.heap.size, 1, none⟩ = some (.int .i64 c) := HAX.out.cell 1
  have a2 : X2.cell? ⟨w.heap.size, 2, none⟩ = some (.int .i64 a) := HAX.out.cell 2
  have la := HAX.out.lt
  have HML := Lib.hid (playM_len ps)
  have HM64 := Lib.hid (playM_64 ps)
  generalize playM ps = M at *
  have HIN := Lib.hid (mInfo (mCells M) (by rw [mCells_size]; exact HML.out))
  have HAD := Lib.hid (vadd_step X2 (.slice p2 n2 c2) M e c a HML.out HM64.out HR2.out HFA.out)
  have HLEN2 : Hid ((stepM M ⟨e, c, a⟩).length = 64) := step_len _ HML.out
  unfold vecV at HAD
  clear HA1 HBK2 HBB2 HB1
  by_cases he : errM M ⟨e, c, a⟩ = 0
  rotate_left
  · have hE : (errM M ⟨e, c, a⟩ != 0) = true := by simpa using he
    rw [err_keep he] at HAD
    generalize errM M ⟨e, c, a⟩ = er at HAD hE
    clear he
    go_wp2_with fail
    refine HAD.out.mono ?_
    rintro y w3 ⟨v3, rfl, ho3, hb3⟩
    obtain ⟨p3, c3, hv3⟩ := ho3.form
    generalize (posOf M).length = n3 at hv3
    subst hv3
    have hm3 := HM2.out.below hb3 HM2.out.lt
    have HM3 := Lib.hid (hm3.alloc (.cells #[.slice p3 n3 c3] 27))
    have HB3 := Lib.hid ((HW2.out.trans (hb3.mono HW2.out.size)).alloc (HW2.out.trans (hb3.mono HW2.out.size)).size (.cells #[.slice p3 n3 c3] 27))
    have HSA := Lib.hid (same_any (w3.alloc (.cells #[.slice p3 n3 c3] 27)) (.slice p3 n3 c3) M HML.out (ho3.row.kept (oneB w3 _)))
    unfold vecV at HSA
    clear ho3 hb3 hm3
    go_wp2_with (with_reducible refine stop_load 30 (.tmp 6) rfl ?_)
    refine wpList_load_blk (by kernel_rfl) 30 (.tmp 6) rfl (w2.heap.size + 1) rfl 30 (mCells M) (.array 8 28) HM3.out Try.underlying30 rfl HIN.out ?_
    go_wp2_with fail
    refine HSA.out.mono ?_
    rintro y w4 ⟨rfl, hb4⟩
    have HB4 := Lib.hid (HB3.out.trans (hb4.mono HB3.out.size))
    clear hb4
    go_wp2_with fail
    go_ret
    exact ⟨rfl, HB4.out⟩
  have hback := step_back HML.out HM64.out he
  have HBK := Lib.hid hback
  have H642 := Lib.hid (step_64 ⟨e, c, a⟩ HM64.out)
  rw [he] at HAD
  clear he hback
  go_wp2_with fail
  refine HAD.out.mono ?_
  rintro y w3 ⟨v3, rfl, ho3, hb3⟩
  obtain ⟨p3, c3, hv3⟩ := ho3.form
  generalize (posOf (stepM M ⟨e, c, a⟩)).length = n3 at hv3
  subst hv3
  have HAX3 := Lib.hid (HAX.out.below hb3 HAX.out.lt)
  clear a0 a1 a2 la
  have a0 : w3.cell? ⟨w.heap.size, 0, none⟩ = some (.int .i64 e) := HAX3.out.cell 0
  have a1 : w3.cell? ⟨w.heap.size, 1, none⟩ = some (.int .i64 c) := HAX3.out.cell 1
  have a2 : w3.cell? ⟨w.heap.size, 2, none⟩ = some (.int .i64 a) := HAX3.out.cell 2
  have la := HAX3.out.lt
  have HM3 := Lib.hid ((HM2.out.below hb3 HM2.out.lt).alloc (.cells #[.slice p3 n3 c3] 27))
  have HV3 := Lib.hid ((HV2.out.below hb3 HV2.out.lt).alloc (.cells #[.slice p3 n3 c3] 27))
  have hB3 := HW2.out.trans (hb3.mono HW2.out.size)
  have HB3 := Lib.hid (hB3.alloc hB3.size (.cells #[.slice p3 n3 c3] 27))
  have HR3 := Lib.hid ((HR2.out.kept hb3).kept (oneB w3 (.cells #[.slice p3 n3 c3] 27)))
  have HAD3 := Lib.hid (vadd_step (w3.alloc (.cells #[.slice p3 n3 c3] 27)) (.slice p3 n3 c3) (stepM M ⟨e, c, a⟩) e c (-a) HLEN2.out H642.out (ho3.row.kept (oneB w3 _)) HNEG.out)
  rw [HBK.out.1, HBK.out.2] at HAD3
  unfold vecV at HAD3
  clear ho3 hb3 hB3 HAD HBK H642 HLEN2
  go_wp2_with fail
  refine HAD3.out.mono ?_
  rintro y w4 ⟨v4, rfl, ho4, hb4⟩
  obtain ⟨p4, c4, hv4⟩ := ho4.form
  generalize hn4 : (posOf M).length = n4 at hv4
  subst hv4
  have HM4 := Lib.hid ((HM3.out.below hb4 HM3.out.lt).alloc (.cells #[.slice p4 n4 c4] 27))
  have hv4 := HV3.out.below hb4 HV3.out.lt
  have HV4 := Lib.hid (hv4.alloc (.cells #[.slice p4 n4 c4] 27))
  have HN4 := Lib.hid (Blk.new w4 #[.slice p4 n4 c4] 27)
  have hB4 := HB3.out.trans (hb4.mono HB3.out.size)
  have HB4 := Lib.hid (hB4.alloc hB4.size (.cells #[.slice p4 n4 c4] 27))
  have HR4 := Lib.hid ((HR3.out.kept hb4).kept (oneB w4 (.cells #[.slice p4 n4 c4] 27)))
  have HO4 := Lib.hid (ho4.row.kept (oneB w4 (.cells #[.slice p4 n4 c4] 27)))
  have HLI := Lib.hid (list_any (w4.alloc (.cells #[.slice p4 n4 c4] 27)) (.slice p2 n2 c2) (posOf M) HR4.out (Nat.le_trans (posOf_length M) (by omega)))
  have cv4 : w4.cell? ⟨w2.heap.size, 0, none⟩ = some (.slice p2 n2 c2) := hv4.cell 0
  have lv4 := hv4.lt
  have HN4L := Lib.hid hn4
  unfold vecV at HLI
  clear ho4 hb4 hB4 hv4 HAD3 a0 a1 a2 la cv2 lv2 lm2 hwn hn4 e9
  go_wp2_with fail
  refine HLI.out.mono ?_
  rintro y w5 ⟨v5, rfl, ho5, hb5⟩
  obtain ⟨p5, c5, hv5⟩ := ho5.form
  rw [HN4L.out] at hv5
  subst hv5
  have HREL : Hid (LRel (w4.alloc (.cells #[.slice p4 n4 c4] 27)) (w4.alloc (.cells #[.slice p4 n4 c4] 27)).heap.size p5 n4 w5) := lrel_start HN4L.out ho5 hb5
  clear ho5 hb5 cv4 lv4
  generalize hX4 : w4.alloc (.cells #[.slice p4 n4 c4] 27) = X4 at *
  have HX4 := Lib.hid hX4
  clear hX4
  have hn64 : n4 ≤ 64 := by rw [← HN4L.out]; exact posOf_length M
  go_wp2_with fail
  go_loopw [13, 64] (fun _ i wr => ∃ k : Nat, k ≤ n4 ∧ i = .int .i64 k ∧ Hid (LRel X4 X4.heap.size p5 n4 wr)) (fun _ i _ => n4 - (intOf i).toNat)
  case atStart => exact ⟨0, by omega, rfl, HREL⟩
  case round =>
    obtain ⟨k, hk, rfl, HJ⟩ := hrel
    by_cases hlt : k < n4
    · have hltI : (k : Int) < (n4 : Int) := by omega
      obtain ⟨hbj, hj⟩ := HJ.out
      obtain ⟨g, cs, t, hp, hbg, hblk, hz⟩ := hj.resolve_left (by omega)
      subst hp
      obtain ⟨z, hz1⟩ := hz k hlt
      have HNX := Lib.hid (fun u => lrel_set hbj hbg hblk hz hlt u)
      have q0 : wr.cell? ⟨g, k * 3 + 2, none⟩ = some (.int .i64 z) := (hblk.cell _).trans hz1
      have qf := hblk.free (k * 3 + 2)
      have lg := hblk.lt
      clear hbj hj hbg hblk hz hz1 HJ
      go_wp2_with fail
      go_roundw
      case rel => exact ⟨k + 1, by omega, by go_num, HNX.out _⟩
      case measure => simp [intOf]; omega
    · have hle : (n4 : Int) ≤ (k : Int) := by omega
      have hbj := HJ.out.1
      have hm5 := HM4.out.below hbj HM4.out.lt
      have hv5 := HV4.out.below hbj HV4.out.lt
      have hn5 := HN4.out.below hbj HN4.out.lt
      have HM5 := Lib.hid hm5
      have HV5 := Lib.hid hv5
      have cn5 : wr.cell? ⟨w4.heap.size, 0, none⟩ = some (.slice p4 n4 c4) := hn5.cell 0
      have ln5 := hn5.lt
      have HB5 := Lib.hid (HB4.out.trans (hbj.mono HB4.out.size))
      have HSA := Lib.hid (same_any wr (.slice p4 n4 c4) M HML.out (HO4.out.kept hbj))
      have HR5 := Lib.hid (HR4.out.kept hbj)
      unfold vecV at HSA
      clear hbj hm5 hv5 hn5 HJ HREL
      go_wp2_with (with_reducible refine stop_load 30 (.tmp 6) rfl ?_)
      refine wpList_load_blk (by kernel_rfl) 30 (.tmp 6) rfl (w2.heap.size + 1) rfl 30 (mCells M) (.array 8 28) HM5.out Try.underlying30 rfl HIN.out ?_
      go_wp2_with fail
      refine HSA.out.mono ?_
      rintro y w6 ⟨rfl, hb6⟩
      have hv6 := HV5.out.below hb6 HV5.out.lt
      have HM6 := Lib.hid (HM5.out.below hb6 HM5.out.lt)
      have cv6 : w6.cell? ⟨w2.heap.size, 0, none⟩ = some (.slice p2 n2 c2) := hv6.cell 0
      have lv6 := hv6.lt
      have HB6 := Lib.hid (HB5.out.trans (hb6.mono HB5.out.size))
      have HSB := Lib.hid (same_any w6 (.slice p2 n2 c2) M HML.out (HR5.out.kept hb6))
      unfold vecV at HSB
      clear hb6 hv6 cn5 ln5
      go_wp2_with (with_reducible refine stop_load 30 (.tmp 6) rfl ?_)
      refine wpList_load_blk (by kernel_rfl) 30 (.tmp 6) rfl (w2.heap.size + 1) rfl 30 (mCells M) (.array 8 28) HM6.out Try.underlying30 rfl HIN.out ?_
      go_wp2_with fail
      refine HSB.out.mono ?_
      rintro y w7 ⟨rfl, hb7⟩
      have HB7 := Lib.hid (HB6.out.trans (hb7.mono HB6.out.size))
      clear hb7
      go_wp2_with fail
      go_ret
      exact ⟨rfl, HB7.out⟩
end Go.Proofs.Ytaooiejgigicoaa
