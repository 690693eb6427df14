/- The document's clock (contraref08): Set and Drop. -/
import Derived.Test.YtpmiekheiddihaaRClk
import Derived.Test.YtpmiekheiddihaaTRow2
namespace Go.Proofs.Ytpmiekheiddihaa
open Go.RowKit Go.Maps
theorem chg_putD (g : Nat) (W : World) : ∀ (vs : List Value) (o : Nat) (w : World), Chg g W w → Chg g W (w.setCells g o vs)
  | [], _, _, h => h
  | v :: vs, o, w, h => by rw [World.setCells]; exact chg_putD g W vs (o + 1) _ (h.set o v)
theorem infoC {cs : Array Value} (h : cs.size = 2) : (Try.prog.info? 28).map (·.size) = some cs.size := by
  rw [h]
  kernel_rfl
theorem OwnT.last {w : World} {B : Nat} {T : TypeId} {v : Value} {L : List Du} {b b' : Nat} {s : ByteArray} {t z z' : Int} (h : OwnT encL w B T v (L ++ [⟨b, s, t, z⟩])) : OwnT encL w B T v (L ++ [⟨b', s, t, z'⟩]) := by
  unfold OwnT at *
  rw [List.length_append, List.flatMap_append] at *
  exact h
/-- What Set answers. -/
structure RSet (w : World) (now : Int) (ds : List Du) (s : ByteArray) (later : Int) (p : Option Addr) (n c : Nat) (p' : Option Addr) (n' c' : Nat) (w' : World) : Prop where
  yes : setE now ds s later = 0 → ∀ b z, OwnT encL w' w.heap.size 45 (.slice p' n' c') (dropU ds s ++ [⟨b, s, now + later, z⟩])
  no : setE now ds s later ≠ 0 → p' = p ∧ n' = n ∧ c' = c
  below : Below w.heap.size w w'
structure RDrop (w : World) (ds : List Du) (s : ByteArray) (p : Option Addr) (n c : Nat) (p' : Option Addr) (n' c' : Nat) (w' : World) : Prop where
  yes : dropE ds s = 0 → OwnT encL w' w.heap.size 45 (.slice p' n' c') (dropU ds s)
  no : dropE ds s ≠ 0 → p' = p ∧ n' = n ∧ c' = c
  below : Below w.heap.size w w'
set_option linter.unusedSimpArgs false in
set_option maxHeartbeats 4000000 in
set_option maxRecDepth 100000 in
theorem rset_any (w : World) (now : Int) (p : Option Addr) (n c : Nat) (ds : List Du) (s : ByteArray) (later : Int) (hr : TRow encL w (.slice p n c) ds) (hn : n = ds.length) (hl : ds.length ≤ 4096) (hnd : NamesU ds) (h0 : 0 ≤ now ∧ now ≤ 1099511627776) :
    Calls Try.prog 10 #[.agg #[.int .i64 now, .slice p n c], .string s, .int .i64 later] w fun e w' => ∃ p' n' c', e = .returned (.tuple #[.agg #[.int .i64 now, .slice p' n' c'], .int .i64 (setE now ds s later)]) ∧ RSet w now ds s later p n c p' n' c' w' := by
  have HR := Lib.hid hr
  have HL : Hid (ds.length = n ∧ n ≤ 4096) := Lib.hid ⟨hn.symm, by omega⟩
  have HND := Lib.hid hnd
  have hn4 : n ≤ 4096 := by omega
  clear hr hn hl hnd
  have HB0 : Hid (Below w.heap.size w ((w.alloc (.cells #[.int .i64 now, .slice p n c] 28)).alloc (.cells #[.int .i64 0, .slice none 0 0] 28))) := Lib.hid (((oneB w _).alloc (by simp <;> omega) _))
  have Hd0 : Hid (Blk ((w.alloc (.cells #[.int .i64 now, .slice p n c] 28)).alloc (.cells #[.int .i64 0, .slice none 0 0] 28)) w.heap.size #[.int .i64 now, .slice p n c] 28) := Lib.hid ((Blk.new w #[.int .i64 now, .slice p n c] 28).alloc _)
  have Hr0 : Hid (Blk ((w.alloc (.cells #[.int .i64 now, .slice p n c] 28)).alloc (.cells #[.int .i64 0, .slice none 0 0] 28)) (w.heap.size + 1) #[.int .i64 0, .slice none 0 0] 28) := Lib.hid (Blk.new' (w.alloc (.cells #[.int .i64 now, .slice p n c] 28)) #[.int .i64 0, .slice none 0 0] 28 (by simp))
  have HZ0 : Hid (w.heap.size ≤ ((w.alloc (.cells #[.int .i64 now, .slice p n c] 28)).alloc (.cells #[.int .i64 0, .slice none 0 0] 28)).heap.size) := Lib.hid HB0.out.size
  go_enter Try.func10, Try.ntmps10
  go_upto_region 1 with fail
  generalize ((w.alloc (.cells #[.int .i64 now, .slice p n c] 28)).alloc (.cells #[.int .i64 0, .slice none 0 0] 28)) = W at *
  have HWL : Hid (w.heap.size + 1 < W.heap.size) := Lib.hid Hr0.out.lt
  have HT : Hid (0 ≤ now ∧ now ≤ 1099511627776) := Lib.hid h0
  have e1 : wrap64 (1099511627776 - now) = 1099511627776 - now := IntWalk.wrap64_in _ (by omega)
  clear h0
  by_cases k1 : later < 1
  · have HE : Hid (setE now ds s later = 1) := Lib.hid (if_pos (.inl k1))
    have a0 : W.cell? ⟨w.heap.size, 0, none⟩ = some (.int .i64 now) := Hd0.out.cell 0
    have a1 : W.cell? ⟨w.heap.size, 1, none⟩ = some (.slice p n c) := Hd0.out.cell 1
    go_wp2_with (with_reducible refine stop_storeT 28 (.tmp 6) (.tmp 19) rfl ?_)
    clear a0 a1
    have HTH : Hid (W.there (w.heap.size + 1) 0 2) := Hr0.out.thereAt
    have hch : Hid (Chg (w.heap.size + 1) W (W.setCells (w.heap.size + 1) 0 (#[.int .i64 now, .slice p n c] : Array Value).toList)) := Lib.hid (chg_putD _ _ _ _ _ (Chg.refl _ W))
    have Hr1 : Hid (Blk (W.setCells (w.heap.size + 1) 0 (#[.int .i64 now, .slice p n c] : Array Value).toList) (w.heap.size + 1) #[.int .i64 now, .slice p n c] 28) := Lib.hid (blk_put_all Hr0.out _ rfl)
    have HB1 : Hid (Below w.heap.size w (W.setCells (w.heap.size + 1) 0 (#[.int .i64 now, .slice p n c] : Array Value).toList)) := Lib.hid (below_put (by have h7 := HWL.out; omega) _ _ _ _ HB0.out)
    have HZ1 : Hid (w.heap.size ≤ (W.setCells (w.heap.size + 1) 0 (#[.int .i64 now, .slice p n c] : Array Value).toList).heap.size) := Lib.hid (Nat.le_trans HZ0.out hch.out.size)
    have Hd1 := Lib.hid (Hd0.out.chg hch.out (by have h7 := HWL.out; omega))
    clear hch Hd0 Hr0 HB0 HZ0
    refine wpList_store_mid rfl 28 (.tmp 6) (.tmp 19) rfl (w.heap.size + 1) 0 #[.int .i64 now, .slice p n c] rfl rfl HTH.out (infoC rfl) (all_oneCell_toArray (by intro u hu; simp at hu; rcases hu with rfl | rfl <;> rfl)) ?_
    generalize (W.setCells (w.heap.size + 1) 0 (#[.int .i64 now, .slice p n c] : Array Value).toList) = WE at *
    clear HTH
    go_wp2_with fail
    have hfr := Hr1.out
    refine bodyPost_ret (v := .tuple #[.agg #[.int .i64 now, .slice p n c], .int .i64 1]) (by simp [results, Try.results10, go_sem, hfr.cell 0, hfr.cell 1]) rfl ⟨p, n, c, by rw [HE.out], ⟨fun h => absurd (HE.out.symm.trans h) (by decide), fun _ => ⟨rfl, rfl, rfl⟩, HB1.out⟩⟩
  have k1' : (1 : Int) ≤ later := by omega
  by_cases k2 : 1099511627776 - now < later
  · have HE : Hid (setE now ds s later = 1) := Lib.hid (if_pos (.inr k2))
    clear k1
    have a0 : W.cell? ⟨w.heap.size, 0, none⟩ = some (.int .i64 now) := Hd0.out.cell 0
    have a1 : W.cell? ⟨w.heap.size, 1, none⟩ = some (.slice p n c) := Hd0.out.cell 1
    go_wp2_with (with_reducible refine stop_storeT 28 (.tmp 6) (.tmp 19) rfl ?_)
    clear a0 a1
    have HTH : Hid (W.there (w.heap.size + 1) 0 2) := Hr0.out.thereAt
    have hch : Hid (Chg (w.heap.size + 1) W (W.setCells (w.heap.size + 1) 0 (#[.int .i64 now, .slice p n c] : Array Value).toList)) := Lib.hid (chg_putD _ _ _ _ _ (Chg.refl _ W))
    have Hr1 : Hid (Blk (W.setCells (w.heap.size + 1) 0 (#[.int .i64 now, .slice p n c] : Array Value).toList) (w.heap.size + 1) #[.int .i64 now, .slice p n c] 28) := Lib.hid (blk_put_all Hr0.out _ rfl)
    have HB1 : Hid (Below w.heap.size w (W.setCells (w.heap.size + 1) 0 (#[.int .i64 now, .slice p n c] : Array Value).toList)) := Lib.hid (below_put (by have h7 := HWL.out; omega) _ _ _ _ HB0.out)
    have HZ1 : Hid (w.heap.size ≤ (W.setCells (w.heap.size + 1) 0 (#[.int .i64 now, .slice p n c] : Array Value).toList).heap.size) := Lib.hid (Nat.le_trans HZ0.out hch.out.size)
    have Hd1 := Lib.hid (Hd0.out.chg hch.out (by have h7 := HWL.out; omega))
    clear hch Hd0 Hr0 HB0 HZ0
    refine wpList_store_mid rfl 28 (.tmp 6) (.tmp 19) rfl (w.heap.size + 1) 0 #[.int .i64 now, .slice p n c] rfl rfl HTH.out (infoC rfl) (all_oneCell_toArray (by intro u hu; simp at hu; rcases hu with rfl | rfl <;> rfl)) ?_
    generalize (W.setCells (w.heap.size + 1) 0 (#[.int .i64 now, .slice p n c] : Array Value).toList) = WE at *
    clear HTH
    go_wp2_with fail
    have hfr := Hr1.out
    refine bodyPost_ret (v := .tuple #[.agg #[.int .i64 now, .slice p n c], .int .i64 1]) (by simp [results, Try.results10, go_sem, hfr.cell 0, hfr.cell 1]) rfl ⟨p, n, c, by rw [HE.out], ⟨fun h => absurd (HE.out.symm.trans h) (by decide), fun _ => ⟨rfl, rfl, rfl⟩, HB1.out⟩⟩
  have k2' : later ≤ 1099511627776 - now := by omega
  have HLA : Hid (1 ≤ later ∧ later ≤ 1099511627776 - now) := Lib.hid ⟨k1', k2'⟩
  clear k1 k2
  have HG := Lib.hid (rfind_any W now p n c ds s (HR.out.kept HB0.out) HL.out.1.symm (by have := HL.out; omega))
  have a0 : W.cell? ⟨w.heap.size, 0, none⟩ = some (.int .i64 now) := Hd0.out.cell 0
  have a1 : W.cell? ⟨w.heap.size, 1, none⟩ = some (.slice p n c) := Hd0.out.cell 1
  go_wp2_with fail
  clear a0 a1
  refine HG.out.mono ?_
  rintro y9 w2 ⟨⟨r, rfl, hat⟩, hb⟩
  clear HG
  have Hd1 := Lib.hid (Hd0.out.below hb Hd0.out.lt)
  have Hr1 := Lib.hid (Hr0.out.below hb Hr0.out.lt)
  have HB1 := Lib.hid (HB0.out.trans (hb.mono HB0.out.size))
  have HZ1 : Hid (w.heap.size ≤ w2.heap.size) := Lib.hid (Nat.le_trans HZ0.out hb.size)
  clear Hd0 Hr0 HB0 HZ0
  clear hb
  have HAT := Lib.hid hat
  clear hat
  have HW2 : Hid (w.heap.size + 1 < w2.heap.size) := Lib.hid Hr1.out.lt
  clear k1' k2' e1
  by_cases hr0 : r < 0
  · have hlt : (r : Int) < 0 := hr0
    have HNO := Lib.hid (HAT.out.none_ hr0)
    clear hr0
    by_cases h4 : 4096 ≤ n
    · have h4I : (4096 : Int) ≤ (n : Int) := by omega
      have HE : Hid (setE now ds s later = 3) := Lib.hid (by unfold setE; rw [if_neg (by have := HLA.out; omega), if_pos ⟨HNO.out, by have := HL.out; omega⟩])
      have a0 : w2.cell? ⟨w.heap.size, 0, none⟩ = some (.int .i64 now) := Hd1.out.cell 0
      have a1 : w2.cell? ⟨w.heap.size, 1, none⟩ = some (.slice p n c) := Hd1.out.cell 1
      go_wp2_with (with_reducible refine stop_storeT 28 (.tmp 6) (.tmp 31) rfl ?_)
      clear a0 a1
      have HTH : Hid (w2.there (w.heap.size + 1) 0 2) := Hr1.out.thereAt
      have hch : Hid (Chg (w.heap.size + 1) w2 (w2.setCells (w.heap.size + 1) 0 (#[.int .i64 now, .slice p n c] : Array Value).toList)) := Lib.hid (chg_putD _ _ _ _ _ (Chg.refl _ w2))
      have Hr2 : Hid (Blk (w2.setCells (w.heap.size + 1) 0 (#[.int .i64 now, .slice p n c] : Array Value).toList) (w.heap.size + 1) #[.int .i64 now, .slice p n c] 28) := Lib.hid (blk_put_all Hr1.out _ rfl)
      have HB2 : Hid (Below w.heap.size w (w2.setCells (w.heap.size + 1) 0 (#[.int .i64 now, .slice p n c] : Array Value).toList)) := Lib.hid (below_put (by have h7 := HWL.out; omega) _ _ _ _ HB1.out)
      have HZ2 : Hid (w.heap.size ≤ (w2.setCells (w.heap.size + 1) 0 (#[.int .i64 now, .slice p n c] : Array Value).toList).heap.size) := Lib.hid (Nat.le_trans HZ1.out hch.out.size)
      have Hd2 := Lib.hid (Hd1.out.chg hch.out (by have h7 := HWL.out; omega))
      clear hch Hd1 Hr1 HB1 HZ1
      refine wpList_store_mid rfl 28 (.tmp 6) (.tmp 31) rfl (w.heap.size + 1) 0 #[.int .i64 now, .slice p n c] rfl rfl HTH.out (infoC rfl) (all_oneCell_toArray (by intro u hu; simp at hu; rcases hu with rfl | rfl <;> rfl)) ?_
      generalize (w2.setCells (w.heap.size + 1) 0 (#[.int .i64 now, .slice p n c] : Array Value).toList) = WE at *
      clear HTH
      go_wp2_with fail
      have hfr := Hr2.out
      refine bodyPost_ret (v := .tuple #[.agg #[.int .i64 now, .slice p n c], .int .i64 3]) (by simp [results, Try.results10, go_sem, hfr.cell 0, hfr.cell 1]) rfl ⟨p, n, c, by rw [HE.out], ⟨fun h => absurd (HE.out.symm.trans h) (by decide), fun _ => ⟨rfl, rfl, rfl⟩, HB2.out⟩⟩
    · have h4I : ¬ (4096 : Int) ≤ (n : Int) := by omega
      have HE : Hid (setE now ds s later = 0) := Lib.hid (by unfold setE; rw [if_neg (by have := HLA.out; omega), if_neg (fun h => by have := HL.out; omega)])
      have HM := Lib.hid (madeL w2 w2.heap.size (Nat.le_refl _))
      have HRW := Lib.hid ((HR.out.kept HB1.out).kept (oneB w2 (.cells #[] 45)))
      have hbm := oneB w2 (.cells #[] 45)
      have HZM : Hid (w2.heap.size ≤ (w2.alloc (.cells #[] 45)).heap.size) := Lib.hid hbm.size
      have a1 : w2.cell? ⟨w.heap.size, 1, none⟩ = some (.slice p n c) := Hd1.out.cell 1
      have Hd2 := Lib.hid (Hd1.out.below hbm Hd1.out.lt)
      have Hr2 := Lib.hid (Hr1.out.below hbm Hr1.out.lt)
      have HB2 := Lib.hid (HB1.out.trans (hbm.mono HB1.out.size))
      have HZ2 : Hid (w.heap.size ≤ (w2.alloc (.cells #[] 45)).heap.size) := Lib.hid (Nat.le_trans HZ1.out hbm.size)
      clear Hd1 Hr1 HB1 HZ1
      clear hbm
      have b1 : (w2.alloc (.cells #[] 45)).cell? ⟨w.heap.size, 1, none⟩ = some (.slice p n c) := Hd2.out.cell 1
      go_wp2_with (at_builtin; with_reducible refine stop_appendU (.tmp 32) (.tmp 34) 26 rfl ?_)
      clear a1 b1
      refine wpList_append_t rfl (.tmp 32) (.tmp 34) 26 rfl 45 zeroL 24 w2.heap.size eltL rfl (by decide) (.slice (some ⟨w2.heap.size, 0, none⟩) 0 0) (.slice p n c) [] ds rfl rfl HM.out HRW.out (by have := HL.out; simp; omega) HZM.out ds n (List.nil_append _) HL.out.1 ?_
      intro p1 c1 w3 ho _ hbw
      clear HM HRW
      have HLI := Lib.hid ho
      clear ho
      have Hd3 := Lib.hid (Hd2.out.below hbw (by have h7 := HW2.out; omega))
      have Hr3 := Lib.hid (Hr2.out.below hbw (by have h7 := HW2.out; omega))
      have HB3 := Lib.hid (HB2.out.trans (hbw.mono (by have h7 := HW2.out; omega)))
      have HZ3 : Hid (w.heap.size ≤ w3.heap.size) := Lib.hid HB3.out.size
      have HZM3 : Hid (w2.heap.size ≤ w3.heap.size) := Lib.hid (Nat.le_trans HZM.out hbw.size)
      clear Hd2 Hr2 HB2 HZ2
      clear hbw HZM
      have HDS : Hid (dropU ds s = ds) := Lib.hid (drop_self HNO.out)
      rw [← HDS.out] at HLI
      have HN4 : Hid ((dropU ds s).length = n ∧ n ≤ 4096) := Lib.hid ⟨by rw [HDS.out]; exact HL.out.1, HL.out.2⟩
      have e2 : wrap64 (now + later) = now + later := IntWalk.wrap64_in _ (by have := HLA.out; have := HT.out; omega)
      have a0 : w3.cell? ⟨w.heap.size, 0, none⟩ = some (.int .i64 now) := Hd3.out.cell 0
      go_wp2_with (at_builtin; with_reducible refine stop_appendU (.tmp 41) (.tmp 48) 26 rfl ?_)
      clear a0 e2
      refine wpList_append_t rfl (.tmp 41) (.tmp 48) 26 rfl 45 zeroL 24 w2.heap.size eltL rfl (by decide) (.slice p1 n c1) (.slice (some ⟨w3.heap.size, 0, none⟩) 1 1) (dropU ds s) [⟨0, s, now + later, 0⟩] rfl rfl (HLI.out.later (oneB w3 _)) (TRow.one_ encL ⟨0, s, now + later, 0⟩ (Blk.new w3 #[.string s, .int .i64 (now + later)] 45) rfl (Nat.le_refl _)) (by have := HN4.out; have := HL.out; simp; omega) (by have h7 := HZM3.out; have h8 := (oneB w3 (.cells #[.string s, .int .i64 (now + later)] 45)).size; omega) (dropU ds s ++ [⟨0, s, now + later, 0⟩]) (n + 1) rfl (by rw [List.length_append, HN4.out.1]; rfl) ?_
      intro p6 c6 w6 ho _ hbw0
      have hbw := ((oneB w3 (.cells #[.string s, .int .i64 (now + later)] 45)).mono HZM3.out).trans hbw0
      clear hbw0
      have HLO := Lib.hid ho
      clear ho HLI
      have Hd4 := Lib.hid (Hd3.out.below hbw (by have h7 := HW2.out; omega))
      have Hr4 := Lib.hid (Hr3.out.below hbw (by have h7 := HW2.out; omega))
      have HB4 := Lib.hid (HB3.out.trans (hbw.mono (by have h7 := HW2.out; omega)))
      have HZ4 : Hid (w.heap.size ≤ w6.heap.size) := Lib.hid HB4.out.size
      have HZM4 : Hid (w2.heap.size ≤ w6.heap.size) := Lib.hid (Nat.le_trans HZM3.out hbw.size)
      clear Hd3 Hr3 HB3 HZ3
      clear hbw
      have Sl4 := HLO
      clear HLO
      have z1 : w6.cell? ⟨w.heap.size, 1, none⟩ = some (.slice p n c) := Hd4.out.cell 1
      have f1 := Hd4.out.free 1
      go_upto_region 10 with fail
      clear z1 f1
      have hch : Hid (Chg w.heap.size w6 (w6.setCell ⟨w.heap.size, 1, none⟩ (.slice p6 (n + 1) c6))) := Lib.hid ((Chg.refl w.heap.size w6).set 1 (.slice p6 (n + 1) c6))
      have Hd5 : Hid (Blk (w6.setCell ⟨w.heap.size, 1, none⟩ (.slice p6 (n + 1) c6)) w.heap.size #[.int .i64 now, .slice p6 (n + 1) c6] 28) := Lib.hid (Hd4.out.set 1 (.slice p6 (n + 1) c6))
      have HB5 : Hid (Below w.heap.size w (w6.setCell ⟨w.heap.size, 1, none⟩ (.slice p6 (n + 1) c6))) := Lib.hid (HB4.out.setCell (p := ⟨w.heap.size, 1, none⟩) (by show w.heap.size ≤ w.heap.size; have h7 := HWL.out; omega) (.slice p6 (n + 1) c6))
      have HZ5 : Hid (w.heap.size ≤ (w6.setCell ⟨w.heap.size, 1, none⟩ (.slice p6 (n + 1) c6)).heap.size) := Lib.hid (Nat.le_trans HZ4.out hch.out.size)
      have Hr5 := Lib.hid (Hr4.out.chg hch.out (by have h7 := HWL.out; omega))
      have Sl5 := Lib.hid (Sl4.out.stay (fun b hb => hch.out.2 b (Sl4.out.lt b hb) (by have h1 := Sl4.out.block_ge b hb; have h9 := HW2.out; have h7 := HWL.out; omega)))
      clear hch Hd4 Hr4 Sl4 HB4 HZ4
      generalize (w6.setCell ⟨w.heap.size, 1, none⟩ (.slice p6 (n + 1) c6)) = WS at *
      have a0 : WS.cell? ⟨w.heap.size, 0, none⟩ = some (.int .i64 now) := Hd5.out.cell 0
      have a1 : WS.cell? ⟨w.heap.size, 1, none⟩ = some (.slice p6 (n + 1) c6) := Hd5.out.cell 1
      go_wp2_with (with_reducible refine stop_storeT 28 (.tmp 6) (.tmp 51) rfl ?_)
      clear a0 a1
      have HTH : Hid (WS.there (w.heap.size + 1) 0 2) := Hr5.out.thereAt
      have hch : Hid (Chg (w.heap.size + 1) WS (WS.setCells (w.heap.size + 1) 0 (#[.int .i64 now, .slice p6 (n + 1) c6] : Array Value).toList)) := Lib.hid (chg_putD _ _ _ _ _ (Chg.refl _ WS))
      have Hr6 : Hid (Blk (WS.setCells (w.heap.size + 1) 0 (#[.int .i64 now, .slice p6 (n + 1) c6] : Array Value).toList) (w.heap.size + 1) #[.int .i64 now, .slice p6 (n + 1) c6] 28) := Lib.hid (blk_put_all Hr5.out _ rfl)
      have HB6 : Hid (Below w.heap.size w (WS.setCells (w.heap.size + 1) 0 (#[.int .i64 now, .slice p6 (n + 1) c6] : Array Value).toList)) := Lib.hid (below_put (by have h7 := HWL.out; omega) _ _ _ _ HB5.out)
      have HZ6 : Hid (w.heap.size ≤ (WS.setCells (w.heap.size + 1) 0 (#[.int .i64 now, .slice p6 (n + 1) c6] : Array Value).toList).heap.size) := Lib.hid (Nat.le_trans HZ5.out hch.out.size)
      have Hd6 := Lib.hid (Hd5.out.chg hch.out (by have h7 := HWL.out; omega))
      have Sl6 := Lib.hid (Sl5.out.stay (fun b hb => hch.out.2 b (Sl5.out.lt b hb) (by have h1 := Sl5.out.block_ge b hb; have h9 := HW2.out; have h7 := HWL.out; omega)))
      clear hch Hd5 Hr5 Sl5 HB5 HZ5
      refine wpList_store_mid rfl 28 (.tmp 6) (.tmp 51) rfl (w.heap.size + 1) 0 #[.int .i64 now, .slice p6 (n + 1) c6] rfl rfl HTH.out (infoC rfl) (all_oneCell_toArray (by intro u hu; simp at hu; rcases hu with rfl | rfl <;> rfl)) ?_
      generalize (WS.setCells (w.heap.size + 1) 0 (#[.int .i64 now, .slice p6 (n + 1) c6] : Array Value).toList) = WE at *
      clear HTH
      go_wp2_with fail
      have hfr := Hr6.out
      refine bodyPost_ret (v := .tuple #[.agg #[.int .i64 now, .slice p6 (n + 1) c6], .int .i64 0]) (by simp [results, Try.results10, go_sem, hfr.cell 0, hfr.cell 1]) rfl ⟨_, _, _, by rw [HE.out], ⟨fun _ => fun b z => (Sl6.out.less (by have h7 := HW2.out; omega)).last, fun h => absurd HE.out h, HB6.out⟩⟩
  · skip
    have hge : (0 : Int) ≤ r := by omega
    obtain ⟨k, hk, rfl, hkn, hdr, hdo⟩ := HAT.out.some_ HND.out hge
    have hlt : ¬ (k : Int) < 0 := by omega
    have hdn : dofU ds s ≠ none := by rw [hdo]; exact fun h => by cases h
    have HKD := Lib.hid (And.intro hdr (And.intro (show k < ds.length from hk) hdn))
    clear hdn
    clear hkn hdr hdo hr0 hk
    have HE : Hid (setE now ds s later = 0) := Lib.hid (by unfold setE; rw [if_neg (by have := HLA.out; omega), if_neg (fun h => HKD.out.2.2 h.1)])
    have HM := Lib.hid (madeL w2 w2.heap.size (Nat.le_refl _))
    have HRW := Lib.hid ((HR.out.kept HB1.out).kept (oneB w2 (.cells #[] 45)))
    have hbm := oneB w2 (.cells #[] 45)
    have HZM : Hid (w2.heap.size ≤ (w2.alloc (.cells #[] 45)).heap.size) := Lib.hid hbm.size
    have a1 : w2.cell? ⟨w.heap.size, 1, none⟩ = some (.slice p n c) := Hd1.out.cell 1
    have Hd2 := Lib.hid (Hd1.out.below hbm Hd1.out.lt)
    have Hr2 := Lib.hid (Hr1.out.below hbm Hr1.out.lt)
    have HB2 := Lib.hid (HB1.out.trans (hbm.mono HB1.out.size))
    have HZ2 : Hid (w.heap.size ≤ (w2.alloc (.cells #[] 45)).heap.size) := Lib.hid (Nat.le_trans HZ1.out hbm.size)
    clear Hd1 Hr1 HB1 HZ1
    clear hbm
    have b1 : (w2.alloc (.cells #[] 45)).cell? ⟨w.heap.size, 1, none⟩ = some (.slice p n c) := Hd2.out.cell 1
    go_wp2_with (at_builtin; with_reducible refine stop_appendU (.tmp 32) (.tmp 34) 26 rfl ?_)
    clear a1 b1
    refine wpList_append_t rfl (.tmp 32) (.tmp 34) 26 rfl 45 zeroL 24 w2.heap.size eltL rfl (by decide) (.slice (some ⟨w2.heap.size, 0, none⟩) 0 0) (.slice p n c) [] ds rfl rfl HM.out HRW.out (by have := HL.out; simp; omega) HZM.out ds n (List.nil_append _) HL.out.1 ?_
    intro p1 c1 w3 ho _ hbw
    clear HM HRW
    have HLI := Lib.hid ho
    clear ho
    have Hd3 := Lib.hid (Hd2.out.below hbw (by have h7 := HW2.out; omega))
    have Hr3 := Lib.hid (Hr2.out.below hbw (by have h7 := HW2.out; omega))
    have HB3 := Lib.hid (HB2.out.trans (hbw.mono (by have h7 := HW2.out; omega)))
    have HZ3 : Hid (w.heap.size ≤ w3.heap.size) := Lib.hid HB3.out.size
    have HZM3 : Hid (w2.heap.size ≤ w3.heap.size) := Lib.hid (Nat.le_trans HZM.out hbw.size)
    clear Hd2 Hr2 HB2 HZ2
    clear hbw HZM
    have HG := Lib.hid (rwithout_any w3 p1 n c1 ds k HLI.out.row HL.out.1.symm (by have := HL.out; omega) (by have := HKD.out.2.1; have := HL.out; omega))
    go_wp2_with fail
    refine HG.out.mono ?_
    rintro y9 w4 ⟨v4, rfl, ho4, hb⟩
    clear HG
    have hbz := Lib.hid hb.size
    have Hd4 := Lib.hid (Hd3.out.below hb Hd3.out.lt)
    have Hr4 := Lib.hid (Hr3.out.below hb Hr3.out.lt)
    have HB4 := Lib.hid (HB3.out.trans (hb.mono HB3.out.size))
    have HZ4 : Hid (w.heap.size ≤ w4.heap.size) := Lib.hid (Nat.le_trans HZ3.out hb.size)
    clear Hd3 Hr3 HB3 HZ3
    clear hb
    rw [HKD.out.1] at ho4
    obtain ⟨p4, c4, hv4⟩ := ho4.form
    obtain ⟨n4, hn4e⟩ : ∃ m, (dropU ds s).length = m := ⟨_, rfl⟩
    rw [hn4e] at hv4
    subst hv4
    have HN4 : Hid ((dropU ds s).length = n4 ∧ n4 ≤ 4096) := Lib.hid ⟨hn4e, by rw [← hn4e]; exact Nat.le_trans (List.length_filter_le _ _) (by have := HL.out; omega)⟩
    have HLI4 : Hid (OwnT encL w4 w2.heap.size 45 (.slice p4 n4 c4) (dropU ds s)) := Lib.hid (ho4.less HZM3.out)
    have HZM4 : Hid (w2.heap.size ≤ w4.heap.size) := Lib.hid (Nat.le_trans HZM3.out hbz.out)
    clear ho4 hn4e HLI HZM3 hbz
    have e2 : wrap64 (now + later) = now + later := IntWalk.wrap64_in _ (by have := HLA.out; have := HT.out; omega)
    have a0 : w4.cell? ⟨w.heap.size, 0, none⟩ = some (.int .i64 now) := Hd4.out.cell 0
    go_wp2_with (at_builtin; with_reducible refine stop_appendU (.tmp 41) (.tmp 48) 26 rfl ?_)
    clear a0 e2
    refine wpList_append_t rfl (.tmp 41) (.tmp 48) 26 rfl 45 zeroL 24 w2.heap.size eltL rfl (by decide) (.slice p4 n4 c4) (.slice (some ⟨w4.heap.size, 0, none⟩) 1 1) (dropU ds s) [⟨0, s, now + later, 0⟩] rfl rfl (HLI4.out.later (oneB w4 _)) (TRow.one_ encL ⟨0, s, now + later, 0⟩ (Blk.new w4 #[.string s, .int .i64 (now + later)] 45) rfl (Nat.le_refl _)) (by have := HN4.out; have := HL.out; simp; omega) (by have h7 := HZM4.out; have h8 := (oneB w4 (.cells #[.string s, .int .i64 (now + later)] 45)).size; omega) (dropU ds s ++ [⟨0, s, now + later, 0⟩]) (n4 + 1) rfl (by rw [List.length_append, HN4.out.1]; rfl) ?_
    intro p6 c6 w6 ho _ hbw0
    have hbw := ((oneB w4 (.cells #[.string s, .int .i64 (now + later)] 45)).mono HZM4.out).trans hbw0
    clear hbw0
    have HLO := Lib.hid ho
    clear ho HLI4
    have Hd5 := Lib.hid (Hd4.out.below hbw (by have h7 := HW2.out; omega))
    have Hr5 := Lib.hid (Hr4.out.below hbw (by have h7 := HW2.out; omega))
    have HB5 := Lib.hid (HB4.out.trans (hbw.mono (by have h7 := HW2.out; omega)))
    have HZ5 : Hid (w.heap.size ≤ w6.heap.size) := Lib.hid HB5.out.size
    have HZM5 : Hid (w2.heap.size ≤ w6.heap.size) := Lib.hid (Nat.le_trans HZM4.out hbw.size)
    clear Hd4 Hr4 HB4 HZ4
    clear hbw
    have Sl5 := HLO
    clear HLO
    have z1 : w6.cell? ⟨w.heap.size, 1, none⟩ = some (.slice p n c) := Hd5.out.cell 1
    have f1 := Hd5.out.free 1
    go_upto_region 10 with fail
    clear z1 f1
    have hch : Hid (Chg w.heap.size w6 (w6.setCell ⟨w.heap.size, 1, none⟩ (.slice p6 (n4 + 1) c6))) := Lib.hid ((Chg.refl w.heap.size w6).set 1 (.slice p6 (n4 + 1) c6))
    have Hd6 : Hid (Blk (w6.setCell ⟨w.heap.size, 1, none⟩ (.slice p6 (n4 + 1) c6)) w.heap.size #[.int .i64 now, .slice p6 (n4 + 1) c6] 28) := Lib.hid (Hd5.out.set 1 (.slice p6 (n4 + 1) c6))
    have HB6 : Hid (Below w.heap.size w (w6.setCell ⟨w.heap.size, 1, none⟩ (.slice p6 (n4 + 1) c6))) := Lib.hid (HB5.out.setCell (p := ⟨w.heap.size, 1, none⟩) (by show w.heap.size ≤ w.heap.size; have h7 := HWL.out; omega) (.slice p6 (n4 + 1) c6))
    have HZ6 : Hid (w.heap.size ≤ (w6.setCell ⟨w.heap.size, 1, none⟩ (.slice p6 (n4 + 1) c6)).heap.size) := Lib.hid (Nat.le_trans HZ5.out hch.out.size)
    have Hr6 := Lib.hid (Hr5.out.chg hch.out (by have h7 := HWL.out; omega))
    have Sl6 := Lib.hid (Sl5.out.stay (fun b hb => hch.out.2 b (Sl5.out.lt b hb) (by have h1 := Sl5.out.block_ge b hb; have h9 := HW2.out; have h7 := HWL.out; omega)))
    clear hch Hd5 Hr5 Sl5 HB5 HZ5
    generalize (w6.setCell ⟨w.heap.size, 1, none⟩ (.slice p6 (n4 + 1) c6)) = WS at *
    have a0 : WS.cell? ⟨w.heap.size, 0, none⟩ = some (.int .i64 now) := Hd6.out.cell 0
    have a1 : WS.cell? ⟨w.heap.size, 1, none⟩ = some (.slice p6 (n4 + 1) c6) := Hd6.out.cell 1
    go_wp2_with (with_reducible refine stop_storeT 28 (.tmp 6) (.tmp 51) rfl ?_)
    clear a0 a1
    have HTH : Hid (WS.there (w.heap.size + 1) 0 2) := Hr6.out.thereAt
    have hch : Hid (Chg (w.heap.size + 1) WS (WS.setCells (w.heap.size + 1) 0 (#[.int .i64 now, .slice p6 (n4 + 1) c6] : Array Value).toList)) := Lib.hid (chg_putD _ _ _ _ _ (Chg.refl _ WS))
    have Hr7 : Hid (Blk (WS.setCells (w.heap.size + 1) 0 (#[.int .i64 now, .slice p6 (n4 + 1) c6] : Array Value).toList) (w.heap.size + 1) #[.int .i64 now, .slice p6 (n4 + 1) c6] 28) := Lib.hid (blk_put_all Hr6.out _ rfl)
    have HB7 : Hid (Below w.heap.size w (WS.setCells (w.heap.size + 1) 0 (#[.int .i64 now, .slice p6 (n4 + 1) c6] : Array Value).toList)) := Lib.hid (below_put (by have h7 := HWL.out; omega) _ _ _ _ HB6.out)
    have HZ7 : Hid (w.heap.size ≤ (WS.setCells (w.heap.size + 1) 0 (#[.int .i64 now, .slice p6 (n4 + 1) c6] : Array Value).toList).heap.size) := Lib.hid (Nat.le_trans HZ6.out hch.out.size)
    have Hd7 := Lib.hid (Hd6.out.chg hch.out (by have h7 := HWL.out; omega))
    have Sl7 := Lib.hid (Sl6.out.stay (fun b hb => hch.out.2 b (Sl6.out.lt b hb) (by have h1 := Sl6.out.block_ge b hb; have h9 := HW2.out; have h7 := HWL.out; omega)))
    clear hch Hd6 Hr6 Sl6 HB6 HZ6
    refine wpList_store_mid rfl 28 (.tmp 6) (.tmp 51) rfl (w.heap.size + 1) 0 #[.int .i64 now, .slice p6 (n4 + 1) c6] rfl rfl HTH.out (infoC rfl) (all_oneCell_toArray (by intro u hu; simp at hu; rcases hu with rfl | rfl <;> rfl)) ?_
    generalize (WS.setCells (w.heap.size + 1) 0 (#[.int .i64 now, .slice p6 (n4 + 1) c6] : Array Value).toList) = WE at *
    clear HTH
    go_wp2_with fail
    have hfr := Hr7.out
    refine bodyPost_ret (v := .tuple #[.agg #[.int .i64 now, .slice p6 (n4 + 1) c6], .int .i64 0]) (by simp [results, Try.results10, go_sem, hfr.cell 0, hfr.cell 1]) rfl ⟨_, _, _, by rw [HE.out], ⟨fun _ => fun b z => (Sl7.out.less (by have h7 := HW2.out; omega)).last, fun h => absurd HE.out h, HB7.out⟩⟩
set_option linter.unusedSimpArgs false in
set_option maxHeartbeats 4000000 in
set_option maxRecDepth 100000 in
theorem rdrop_any (w : World) (now : Int) (p : Option Addr) (n c : Nat) (ds : List Du) (s : ByteArray) (hr : TRow encL w (.slice p n c) ds) (hn : n = ds.length) (hl : ds.length ≤ 4096) (hnd : NamesU ds) :
    Calls Try.prog 12 #[.agg #[.int .i64 now, .slice p n c], .string s] w fun e w' => ∃ p' n' c', e = .returned (.tuple #[.agg #[.int .i64 now, .slice p' n' c'], .int .i64 (dropE ds s)]) ∧ RDrop w ds s p n c p' n' c' w' := by
  have HR := Lib.hid hr
  have HL : Hid (ds.length = n ∧ n ≤ 4096) := Lib.hid ⟨hn.symm, by omega⟩
  have HND := Lib.hid hnd
  have hn4 : n ≤ 4096 := by omega
  clear hr hn hl hnd
  have HB0 : Hid (Below w.heap.size w ((w.alloc (.cells #[.int .i64 now, .slice p n c] 28)).alloc (.cells #[.int .i64 0, .slice none 0 0] 28))) := Lib.hid (((oneB w _).alloc (by simp <;> omega) _))
  have Hd0 : Hid (Blk ((w.alloc (.cells #[.int .i64 now, .slice p n c] 28)).alloc (.cells #[.int .i64 0, .slice none 0 0] 28)) w.heap.size #[.int .i64 now, .slice p n c] 28) := Lib.hid ((Blk.new w #[.int .i64 now, .slice p n c] 28).alloc _)
  have Hr0 : Hid (Blk ((w.alloc (.cells #[.int .i64 now, .slice p n c] 28)).alloc (.cells #[.int .i64 0, .slice none 0 0] 28)) (w.heap.size + 1) #[.int .i64 0, .slice none 0 0] 28) := Lib.hid (Blk.new' (w.alloc (.cells #[.int .i64 now, .slice p n c] 28)) #[.int .i64 0, .slice none 0 0] 28 (by simp))
  have HZ0 : Hid (w.heap.size ≤ ((w.alloc (.cells #[.int .i64 now, .slice p n c] 28)).alloc (.cells #[.int .i64 0, .slice none 0 0] 28)).heap.size) := Lib.hid HB0.out.size
  go_enter Try.func12, Try.ntmps12
  go_upto_region 1 with fail
  generalize ((w.alloc (.cells #[.int .i64 now, .slice p n c] 28)).alloc (.cells #[.int .i64 0, .slice none 0 0] 28)) = W at *
  have HWL : Hid (w.heap.size + 1 < W.heap.size) := Lib.hid Hr0.out.lt
  have HG := Lib.hid (rfind_any W now p n c ds s (HR.out.kept HB0.out) HL.out.1.symm (by have := HL.out; omega))
  have a0 : W.cell? ⟨w.heap.size, 0, none⟩ = some (.int .i64 now) := Hd0.out.cell 0
  have a1 : W.cell? ⟨w.heap.size, 1, none⟩ = some (.slice p n c) := Hd0.out.cell 1
  go_wp2_with fail
  clear a0 a1
  refine HG.out.mono ?_
  rintro y9 w2 ⟨⟨r, rfl, hat⟩, hb⟩
  clear HG
  have Hd1 := Lib.hid (Hd0.out.below hb Hd0.out.lt)
  have Hr1 := Lib.hid (Hr0.out.below hb Hr0.out.lt)
  have HB1 := Lib.hid (HB0.out.trans (hb.mono HB0.out.size))
  have HZ1 : Hid (w.heap.size ≤ w2.heap.size) := Lib.hid (Nat.le_trans HZ0.out hb.size)
  clear Hd0 Hr0 HB0 HZ0
  clear hb
  have HAT := Lib.hid hat
  clear hat
  have HW2 : Hid (w.heap.size + 1 < w2.heap.size) := Lib.hid Hr1.out.lt
  by_cases hr0 : r < 0
  · have hlt : (r : Int) < 0 := hr0
    have HE : Hid (dropE ds s = 4) := Lib.hid (by unfold dropE; rw [if_pos (HAT.out.none_ hr0)])
    clear hr0
    have a0 : w2.cell? ⟨w.heap.size, 0, none⟩ = some (.int .i64 now) := Hd1.out.cell 0
    have a1 : w2.cell? ⟨w.heap.size, 1, none⟩ = some (.slice p n c) := Hd1.out.cell 1
    go_wp2_with (with_reducible refine stop_storeT 28 (.tmp 4) (.tmp 12) rfl ?_)
    clear a0 a1
    have HTH : Hid (w2.there (w.heap.size + 1) 0 2) := Hr1.out.thereAt
    have hch : Hid (Chg (w.heap.size + 1) w2 (w2.setCells (w.heap.size + 1) 0 (#[.int .i64 now, .slice p n c] : Array Value).toList)) := Lib.hid (chg_putD _ _ _ _ _ (Chg.refl _ w2))
    have Hr2 : Hid (Blk (w2.setCells (w.heap.size + 1) 0 (#[.int .i64 now, .slice p n c] : Array Value).toList) (w.heap.size + 1) #[.int .i64 now, .slice p n c] 28) := Lib.hid (blk_put_all Hr1.out _ rfl)
    have HB2 : Hid (Below w.heap.size w (w2.setCells (w.heap.size + 1) 0 (#[.int .i64 now, .slice p n c] : Array Value).toList)) := Lib.hid (below_put (by have h7 := HWL.out; omega) _ _ _ _ HB1.out)
    have HZ2 : Hid (w.heap.size ≤ (w2.setCells (w.heap.size + 1) 0 (#[.int .i64 now, .slice p n c] : Array Value).toList).heap.size) := Lib.hid (Nat.le_trans HZ1.out hch.out.size)
    have Hd2 := Lib.hid (Hd1.out.chg hch.out (by have h7 := HWL.out; omega))
    clear hch Hd1 Hr1 HB1 HZ1
    refine wpList_store_mid rfl 28 (.tmp 4) (.tmp 12) rfl (w.heap.size + 1) 0 #[.int .i64 now, .slice p n c] rfl rfl HTH.out (infoC rfl) (all_oneCell_toArray (by intro u hu; simp at hu; rcases hu with rfl | rfl <;> rfl)) ?_
    generalize (w2.setCells (w.heap.size + 1) 0 (#[.int .i64 now, .slice p n c] : Array Value).toList) = WE at *
    clear HTH
    go_wp2_with fail
    have hfr := Hr2.out
    refine bodyPost_ret (v := .tuple #[.agg #[.int .i64 now, .slice p n c], .int .i64 4]) (by simp [results, Try.results12, go_sem, hfr.cell 0, hfr.cell 1]) rfl ⟨p, n, c, by rw [HE.out], ⟨fun h => absurd (HE.out.symm.trans h) (by decide), fun _ => ⟨rfl, rfl, rfl⟩, HB2.out⟩⟩
  · skip
    have hge : (0 : Int) ≤ r := by omega
    obtain ⟨k, hk, rfl, hkn, hdr, hdo⟩ := HAT.out.some_ HND.out hge
    have hlt : ¬ (k : Int) < 0 := by omega
    have hdn : dofU ds s ≠ none := by rw [hdo]; exact fun h => by cases h
    have HKD := Lib.hid (And.intro hdr (And.intro (show k < ds.length from hk) hdn))
    clear hdn
    clear hkn hdr hdo hr0 hk
    have HE : Hid (dropE ds s = 0) := Lib.hid (by unfold dropE; rw [if_neg HKD.out.2.2])
    have HG := Lib.hid (rwithout_any w2 p n c ds k (HR.out.kept HB1.out) HL.out.1.symm (by have := HL.out; omega) (by have := HKD.out.2.1; have := HL.out; omega))
    have a1 : w2.cell? ⟨w.heap.size, 1, none⟩ = some (.slice p n c) := Hd1.out.cell 1
    go_wp2_with fail
    clear a1
    refine HG.out.mono ?_
    rintro y9 w4 ⟨v4, rfl, ho4, hb⟩
    clear HG
    have Hd2 := Lib.hid (Hd1.out.below hb Hd1.out.lt)
    have Hr2 := Lib.hid (Hr1.out.below hb Hr1.out.lt)
    have HB2 := Lib.hid (HB1.out.trans (hb.mono HB1.out.size))
    have HZ2 : Hid (w.heap.size ≤ w4.heap.size) := Lib.hid (Nat.le_trans HZ1.out hb.size)
    clear Hd1 Hr1 HB1 HZ1
    clear hb
    rw [HKD.out.1] at ho4
    obtain ⟨p4, c4, hv4⟩ := ho4.form
    obtain ⟨n4, hn4e⟩ : ∃ m, (dropU ds s).length = m := ⟨_, rfl⟩
    rw [hn4e] at hv4
    subst hv4
    have HLO := Lib.hid ho4
    clear ho4 hn4e
    have Sl2 := HLO
    clear HLO
    have z1 : w4.cell? ⟨w.heap.size, 1, none⟩ = some (.slice p n c) := Hd2.out.cell 1
    have f1 := Hd2.out.free 1
    go_upto_region 5 with fail
    clear z1 f1
    have hch : Hid (Chg w.heap.size w4 (w4.setCell ⟨w.heap.size, 1, none⟩ (.slice p4 n4 c4))) := Lib.hid ((Chg.refl w.heap.size w4).set 1 (.slice p4 n4 c4))
    have Hd3 : Hid (Blk (w4.setCell ⟨w.heap.size, 1, none⟩ (.slice p4 n4 c4)) w.heap.size #[.int .i64 now, .slice p4 n4 c4] 28) := Lib.hid (Hd2.out.set 1 (.slice p4 n4 c4))
    have HB3 : Hid (Below w.heap.size w (w4.setCell ⟨w.heap.size, 1, none⟩ (.slice p4 n4 c4))) := Lib.hid (HB2.out.setCell (p := ⟨w.heap.size, 1, none⟩) (by show w.heap.size ≤ w.heap.size; have h7 := HWL.out; omega) (.slice p4 n4 c4))
    have HZ3 : Hid (w.heap.size ≤ (w4.setCell ⟨w.heap.size, 1, none⟩ (.slice p4 n4 c4)).heap.size) := Lib.hid (Nat.le_trans HZ2.out hch.out.size)
    have Hr3 := Lib.hid (Hr2.out.chg hch.out (by have h7 := HWL.out; omega))
    have Sl3 := Lib.hid (Sl2.out.stay (fun b hb => hch.out.2 b (Sl2.out.lt b hb) (by have h1 := Sl2.out.block_ge b hb; have h9 := HW2.out; have h7 := HWL.out; omega)))
    clear hch Hd2 Hr2 Sl2 HB2 HZ2
    generalize (w4.setCell ⟨w.heap.size, 1, none⟩ (.slice p4 n4 c4)) = WS at *
    have a0 : WS.cell? ⟨w.heap.size, 0, none⟩ = some (.int .i64 now) := Hd3.out.cell 0
    have a1 : WS.cell? ⟨w.heap.size, 1, none⟩ = some (.slice p4 n4 c4) := Hd3.out.cell 1
    go_wp2_with (with_reducible refine stop_storeT 28 (.tmp 4) (.tmp 18) rfl ?_)
    clear a0 a1
    have HTH : Hid (WS.there (w.heap.size + 1) 0 2) := Hr3.out.thereAt
    have hch : Hid (Chg (w.heap.size + 1) WS (WS.setCells (w.heap.size + 1) 0 (#[.int .i64 now, .slice p4 n4 c4] : Array Value).toList)) := Lib.hid (chg_putD _ _ _ _ _ (Chg.refl _ WS))
    have Hr4 : Hid (Blk (WS.setCells (w.heap.size + 1) 0 (#[.int .i64 now, .slice p4 n4 c4] : Array Value).toList) (w.heap.size + 1) #[.int .i64 now, .slice p4 n4 c4] 28) := Lib.hid (blk_put_all Hr3.out _ rfl)
    have HB4 : Hid (Below w.heap.size w (WS.setCells (w.heap.size + 1) 0 (#[.int .i64 now, .slice p4 n4 c4] : Array Value).toList)) := Lib.hid (below_put (by have h7 := HWL.out; omega) _ _ _ _ HB3.out)
    have HZ4 : Hid (w.heap.size ≤ (WS.setCells (w.heap.size + 1) 0 (#[.int .i64 now, .slice p4 n4 c4] : Array Value).toList).heap.size) := Lib.hid (Nat.le_trans HZ3.out hch.out.size)
    have Hd4 := Lib.hid (Hd3.out.chg hch.out (by have h7 := HWL.out; omega))
    have Sl4 := Lib.hid (Sl3.out.stay (fun b hb => hch.out.2 b (Sl3.out.lt b hb) (by have h1 := Sl3.out.block_ge b hb; have h9 := HW2.out; have h7 := HWL.out; omega)))
    clear hch Hd3 Hr3 Sl3 HB3 HZ3
    refine wpList_store_mid rfl 28 (.tmp 4) (.tmp 18) rfl (w.heap.size + 1) 0 #[.int .i64 now, .slice p4 n4 c4] rfl rfl HTH.out (infoC rfl) (all_oneCell_toArray (by intro u hu; simp at hu; rcases hu with rfl | rfl <;> rfl)) ?_
    generalize (WS.setCells (w.heap.size + 1) 0 (#[.int .i64 now, .slice p4 n4 c4] : Array Value).toList) = WE at *
    clear HTH
    go_wp2_with fail
    have hfr := Hr4.out
    refine bodyPost_ret (v := .tuple #[.agg #[.int .i64 now, .slice p4 n4 c4], .int .i64 0]) (by simp [results, Try.results12, go_sem, hfr.cell 0, hfr.cell 1]) rfl ⟨_, _, _, by rw [HE.out], ⟨fun _ => (Sl4.out.less (by have h7 := HW2.out; omega)), fun h => absurd HE.out h, HB4.out⟩⟩
end Go.Proofs.Ytpmiekheiddihaa
