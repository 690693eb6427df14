/- The document's clock (contraref08): Tick. -/
import Derived.Test.YtpmiekheiddihaaRClkSet
namespace Go.Proofs.Ytpmiekheiddihaa
open Go.RowKit Go.Maps
theorem due_more {T : Int} {ds : List Du} {k : Nat} (h : k < ds.length) (hd : ds[k].t ≤ T) : dueL T (ds.take (k + 1)) = dueL T (ds.take k) ++ [ds[k]] ∧ restL T (ds.take (k + 1)) = restL T (ds.take k) := by
  unfold dueL restL dueB
  rw [List.take_succ_eq_append_getElem h, List.filter_append, List.filter_append, List.filter_cons, List.filter_cons, if_pos (by simpa using hd), if_neg (by simp; omega)]
  simp
theorem rest_more {T : Int} {ds : List Du} {k : Nat} (h : k < ds.length) (hd : T < ds[k].t) : dueL T (ds.take (k + 1)) = dueL T (ds.take k) ∧ restL T (ds.take (k + 1)) = restL T (ds.take k) ++ [ds[k]] := by
  unfold dueL restL dueB
  rw [List.take_succ_eq_append_getElem h, List.filter_append, List.filter_append, List.filter_cons, List.filter_cons, if_neg (by simp; omega), if_pos (by simp; omega)]
  simp
/-- A tick under way. -/
structure TLp (w : World) (now : Int) (ds : List Du) (p : Option Addr) (n c : Nat) (v u : Value) (k : Nat) (wr : World) : Prop where
  out : OwnT encT wr (w.heap.size + 1 + 1) 9 v ((dueL (now + 1) (ds.take k)).map (·.nm))
  lft : OwnT encL wr (w.heap.size + 1 + 1) 45 u (restL (now + 1) (ds.take k))
  sep : ∀ g, v.ownBlock = some g → u.ownBlock ≠ some g
  bd : Blk wr w.heap.size #[.int .i64 (now + 1), .slice p n c] 28
  br : Blk wr (w.heap.size + 1) #[.int .i64 0, .slice none 0 0] 28
  below : Below w.heap.size w wr
theorem TLp.drew {w : World} {now : Int} {ds : List Du} {p : Option Addr} {n c : Nat} {v u : Value} {k : Nat} {wr : World} (h : TLp w now ds p n c v u k wr) : TLp w now ds p n c v u k wr.drew :=
  have hb := (Below.refl wr.heap.size wr).drew
  ⟨h.out.later hb, h.lft.later hb, h.sep, h.bd.below hb h.bd.lt, h.br.below hb h.br.lt, h.below.trans (hb.mono h.below.size)⟩
/-- What Tick answers. -/
structure RTick (w : World) (now : Int) (ds : List Du) (p : Option Addr) (n c : Nat) (p' : Option Addr) (n' c' : Nat) (v : Value) (w' : World) : Prop where
  out : OwnT encT w' w.heap.size 9 v (tickL now ds)
  yes : now ≠ 1099511627776 → OwnT encL w' w.heap.size 45 (.slice p' n' c') (tickD now ds)
  no : now = 1099511627776 → p' = p ∧ n' = n ∧ c' = c
  below : Below w.heap.size w w'
set_option linter.unusedSimpArgs false in
set_option maxHeartbeats 4000000 in
set_option maxRecDepth 100000 in
theorem rtick_any (w : World) (now : Int) (p : Option Addr) (n c : Nat) (ds : List Du) (hr : TRow encL w (.slice p n c) ds) (hn : n = ds.length) (hl : ds.length ≤ 4096) (h0 : 0 ≤ now ∧ now ≤ 1099511627776) :
    Calls Try.prog 14 #[.agg #[.int .i64 now, .slice p n c]] w fun e w' => ∃ p' n' c' v, e = .returned (.tuple #[.agg #[.int .i64 (tickN now), .slice p' n' c'], v]) ∧ RTick w now ds p n c p' n' c' v w' := by
  have HR := Lib.hid hr
  have HL : Hid (ds.length = n ∧ n ≤ 4096) := Lib.hid ⟨hn.symm, by omega⟩
  have hn4 : n ≤ 4096 := by omega
  clear hr hn hl
  have HB0 : Hid (Below w.heap.size w ((w.alloc (.cells #[.int .i64 now, .slice p n c] 28)).alloc (.cells #[.int .i64 0, .slice none 0 0] 28))) := Lib.hid (((oneB w _).alloc (by simp <;> omega) _))
  have Hd0 : Hid (Blk ((w.alloc (.cells #[.int .i64 now, .slice p n c] 28)).alloc (.cells #[.int .i64 0, .slice none 0 0] 28)) w.heap.size #[.int .i64 now, .slice p n c] 28) := Lib.hid ((Blk.new w #[.int .i64 now, .slice p n c] 28).alloc _)
  have Hr0 : Hid (Blk ((w.alloc (.cells #[.int .i64 now, .slice p n c] 28)).alloc (.cells #[.int .i64 0, .slice none 0 0] 28)) (w.heap.size + 1) #[.int .i64 0, .slice none 0 0] 28) := Lib.hid (Blk.new' (w.alloc (.cells #[.int .i64 now, .slice p n c] 28)) #[.int .i64 0, .slice none 0 0] 28 (by simp))
  have HZ0 : Hid (w.heap.size ≤ ((w.alloc (.cells #[.int .i64 now, .slice p n c] 28)).alloc (.cells #[.int .i64 0, .slice none 0 0] 28)).heap.size) := Lib.hid HB0.out.size
  go_enter Try.func14, Try.ntmps14
  go_upto_region 1 with fail
  generalize ((w.alloc (.cells #[.int .i64 now, .slice p n c] 28)).alloc (.cells #[.int .i64 0, .slice none 0 0] 28)) = W at *
  have HWL : Hid (w.heap.size + 1 < W.heap.size) := Lib.hid Hr0.out.lt
  by_cases hmx : now = 1099511627776
  · subst hmx
    have a0 : W.cell? ⟨w.heap.size, 0, none⟩ = some (.int .i64 1099511627776) := Hd0.out.cell 0
    have a1 : W.cell? ⟨w.heap.size, 1, none⟩ = some (.slice p n c) := Hd0.out.cell 1
    go_wp2_with (with_reducible refine stop_storeT 28 (.tmp 2) (.tmp 10) rfl ?_)
    clear a0 a1
    have HTH : Hid (W.there (w.heap.size + 1) 0 2) := Hr0.out.thereAt
    have hch : Hid (Chg (w.heap.size + 1) W (W.setCells (w.heap.size + 1) 0 (#[.int .i64 1099511627776, .slice p n c] : Array Value).toList)) := Lib.hid (chg_putD _ _ _ _ _ (Chg.refl _ W))
    have Hr1 : Hid (Blk (W.setCells (w.heap.size + 1) 0 (#[.int .i64 1099511627776, .slice p n c] : Array Value).toList) (w.heap.size + 1) #[.int .i64 1099511627776, .slice p n c] 28) := Lib.hid (blk_put_all Hr0.out _ rfl)
    have HB1 : Hid (Below w.heap.size w (W.setCells (w.heap.size + 1) 0 (#[.int .i64 1099511627776, .slice p n c] : Array Value).toList)) := Lib.hid (below_put (by have h7 := HWL.out; omega) _ _ _ _ HB0.out)
    have HZ1 : Hid (w.heap.size ≤ (W.setCells (w.heap.size + 1) 0 (#[.int .i64 1099511627776, .slice p n c] : Array Value).toList).heap.size) := Lib.hid (Nat.le_trans HZ0.out hch.out.size)
    have Hd1 := Lib.hid (Hd0.out.chg hch.out (by have h7 := HWL.out; omega))
    clear hch Hd0 Hr0 HB0 HZ0
    refine wpList_store_mid rfl 28 (.tmp 2) (.tmp 10) rfl (w.heap.size + 1) 0 #[.int .i64 1099511627776, .slice p n c] rfl rfl HTH.out (infoC rfl) (all_oneCell_toArray (by intro u hu; simp at hu; rcases hu with rfl | rfl <;> rfl)) ?_
    generalize (W.setCells (w.heap.size + 1) 0 (#[.int .i64 1099511627776, .slice p n c] : Array Value).toList) = WE at *
    clear HTH
    go_wp2_with fail
    have hfr := Hr1.out
    refine bodyPost_ret (v := .tuple #[.agg #[.int .i64 1099511627776, .slice p n c], .slice none 0 0]) (by simp [results, Try.results14, go_sem, hfr.cell 0, hfr.cell 1]) rfl ⟨p, n, c, .slice none 0 0, rfl, ⟨OwnT.nil_ _ _ _ _, fun h => absurd rfl h, fun _ => ⟨rfl, rfl, rfl⟩, HB1.out⟩⟩
  have hlt : now < 1099511627776 := by omega
  have HTL : Hid (tickL now ds = (dueL (now + 1) ds).map (·.nm) ∧ tickN now = now + 1 ∧ tickD now ds = restL (now + 1) ds) := Lib.hid ⟨if_neg hmx, if_neg hmx, if_neg hmx⟩
  have HMX := Lib.hid hmx
  have e1 : wrap64 (now + 1) = now + 1 := IntWalk.wrap64_in _ (by omega)
  clear hmx h0
  have b0 : W.cell? ⟨w.heap.size, 0, none⟩ = some (.int .i64 now) := Hd0.out.cell 0
  have z0 : W.cell? ⟨w.heap.size, 0, none⟩ = some (.int .i64 now) := Hd0.out.cell 0
  have f0 := Hd0.out.free 0
  go_upto_region 5 with fail
  try simp only [e1]
  clear z0 f0
  have hch : Hid (Chg w.heap.size W (W.setCell ⟨w.heap.size, 0, none⟩ (.int .i64 (now + 1)))) := Lib.hid ((Chg.refl w.heap.size W).set 0 (.int .i64 (now + 1)))
  have Hd1 : Hid (Blk (W.setCell ⟨w.heap.size, 0, none⟩ (.int .i64 (now + 1))) w.heap.size #[.int .i64 (now + 1), .slice p n c] 28) := Lib.hid (Hd0.out.set 0 (.int .i64 (now + 1)))
  have HB1 : Hid (Below w.heap.size w (W.setCell ⟨w.heap.size, 0, none⟩ (.int .i64 (now + 1)))) := Lib.hid (HB0.out.setCell (p := ⟨w.heap.size, 0, none⟩) (by show w.heap.size ≤ w.heap.size; have h7 := HWL.out; omega) (.int .i64 (now + 1)))
  have HZ1 : Hid (w.heap.size ≤ (W.setCell ⟨w.heap.size, 0, none⟩ (.int .i64 (now + 1))).heap.size) := Lib.hid (Nat.le_trans HZ0.out hch.out.size)
  have Hr1 := Lib.hid (Hr0.out.chg hch.out (by have h7 := HWL.out; omega))
  clear hch Hd0 Hr0 HB0 HZ0
  generalize (W.setCell ⟨w.heap.size, 0, none⟩ (.int .i64 (now + 1))) = W1 at *
  clear b0 e1 hlt
  have HREL : Hid (TLp w now ds p n c (.slice none 0 0) (.slice none 0 0) 0 W1) := Lib.hid ⟨OwnT.nil_ _ _ _ _, OwnT.nil_ _ _ _ _, fun g e => (by cases e), Hd1.out, Hr1.out, HB1.out⟩
  clear Hd1 Hr1 HB1 HZ1 HWL
  go_wp2_with fail
  go_loopw [4, 5, 6] (fun v u i wr => ∃ k : Nat, k ≤ n ∧ i = .int .i64 k ∧ Hid (TLp w now ds p n c v u k wr)) (fun _ _ i _ => n - (intOf i).toNat)
  case atStart => exact ⟨0, by omega, rfl, HREL⟩
  case round =>
    obtain ⟨k, hk, rfl, HJ⟩ := hrel
    clear HREL
    obtain ⟨pv, cv, hv⟩ := HJ.out.out.form
    obtain ⟨m, hm⟩ : ∃ m, ((dueL (now + 1) (ds.take k)).map (·.nm)).length = m := ⟨_, rfl⟩
    rw [hm] at hv
    subst hv
    obtain ⟨pu, cu, hu⟩ := HJ.out.lft.form
    obtain ⟨m2, hm2⟩ : ∃ m, (restL (now + 1) (ds.take k)).length = m := ⟨_, rfl⟩
    rw [hm2] at hu
    subst hu
    have HM : Hid (((dueL (now + 1) (ds.take k)).map (·.nm)).length = m ∧ (restL (now + 1) (ds.take k)).length = m2 ∧ m ≤ 4096 ∧ m2 ≤ 4096) := Lib.hid ⟨hm, hm2, by rw [← hm, List.length_map]; exact Nat.le_trans (List.length_filter_le _ _) (by rw [List.length_take]; have := HL.out; omega), by rw [← hm2]; exact Nat.le_trans (List.length_filter_le _ _) (by rw [List.length_take]; have := HL.out; omega)⟩
    clear hm hm2
    have d1 : wr.cell? ⟨w.heap.size, 1, none⟩ = some (.slice p n c) := HJ.out.bd.cell 1
    by_cases hlt : k < n
    · have hkl : k < ds.length := by have := HL.out; omega
      have hltI : (k : Int) < (n : Int) := by omega
      have HDM := Lib.hid (fun h => due_more (T := now + 1) hkl h)
      have HRM := Lib.hid (fun h => rest_more (T := now + 1) hkl h)
      obtain ⟨b, o, rfl, hbl, hcs⟩ := (HR.out.kept HJ.out.drew.below).at_ k hkl
      obtain ⟨q, hq⟩ : ∃ q, ds[k] = q := ⟨_, rfl⟩
      rw [hq] at hcs HDM HRM
      clear hq
      have hS1 : wr.drew.cell? ⟨w.heap.size, 0, none⟩ = some (.int .i64 (now + 1)) ∧ wr.drew.cell? ⟨w.heap.size, 1, none⟩ = some (.slice (some ⟨b, o, none⟩) n c) ∧ wr.drew.cell? ⟨b, o + k * 2 + 1, none⟩ = some (.int .i64 q.t) := ⟨HJ.out.drew.bd.cell 0, HJ.out.drew.bd.cell 1, hcs 1 (by decide)⟩
      have HC0 : Hid (wr.drew.cell? ⟨b, o + k * 2, none⟩ = some (.string q.nm)) := Lib.hid (hcs 0 (by decide))
      have HS1 := Lib.hid hS1
      have HJD := Lib.hid HJ.out.drew
      have hkn : k + 1 ≤ 4096 := by omega
      clear hcs hbl hkl
      by_cases hdt : q.t ≤ now + 1
      · go_upto_region 9 with fail
        clear d1
        refine wp_region_held_drew (S := fun w' => w'.cell? ⟨w.heap.size, 0, none⟩ = some (.int .i64 (now + 1)) ∧ w'.cell? ⟨w.heap.size, 1, none⟩ = some (.slice (some ⟨b, o, none⟩) n c) ∧ w'.cell? ⟨b, o + k * 2 + 1, none⟩ = some (.int .i64 q.t)) (by kernel_rfl) hS1 (fun hS0 => ?_)
        clear hS1
        refine wpAnyH_take (i := 0) (v := ?_) rfl (by kernel_rfl) (by kernel_rfl) (by kernel_rfl) (fun _ _ _ h => h) (Or.inl ⟨by kernel_rfl, ?_⟩) (by first | assumption | trivial) ?_
        rotate_left
        · intro w hSw
          try dsimp only at hSw
          first | (go_simp; done) | (go_simp; with_reducible rfl)
        try simp only [Act.put, List.getElem_toArray, List.getElem_cons_succ, List.getElem_cons_zero, List.setIfInBounds_toArray, List.set_cons_zero, List.set_cons_succ]
        refine wpAnyH_take (i := 1) (v := ?_) rfl (by kernel_rfl) (by kernel_rfl) (by kernel_rfl) (fun _ _ _ h => h) (Or.inl ⟨by kernel_rfl, ?_⟩) (by first | assumption | trivial) ?_
        rotate_left
        · intro w hSw
          try dsimp only at hSw
          first | (go_simp; done) | (go_simp; with_reducible rfl)
        try simp only [Act.put, List.getElem_toArray, List.getElem_cons_succ, List.getElem_cons_zero, List.setIfInBounds_toArray, List.set_cons_zero, List.set_cons_succ]
        refine wpAnyH_take (i := 2) (v := ?_) rfl (by kernel_rfl) (by kernel_rfl) (by kernel_rfl) (fun _ _ _ h => h) (Or.inl ⟨by kernel_rfl, ?_⟩) (by first | assumption | trivial) ?_
        rotate_left
        · intro w hSw
          try dsimp only at hSw
          first | (go_simp; done) | (go_simp; with_reducible rfl)
        try simp only [Act.put, List.getElem_toArray, List.getElem_cons_succ, List.getElem_cons_zero, List.setIfInBounds_toArray, List.set_cons_zero, List.set_cons_succ]
        refine wpAnyH_take (i := 3) (v := ?_) rfl (by kernel_rfl) (by kernel_rfl) (by kernel_rfl) (fun _ _ _ h => h) (Or.inl ⟨by kernel_rfl, ?_⟩) (by first | assumption | trivial) ?_
        rotate_left
        · intro w hSw
          try dsimp only at hSw
          first | (go_simp; done) | (go_simp; with_reducible rfl)
        try simp only [Act.put, List.getElem_toArray, List.getElem_cons_succ, List.getElem_cons_zero, List.setIfInBounds_toArray, List.set_cons_zero, List.set_cons_succ]
        refine wpAnyH_take (i := 4) (v := ?_) rfl (by kernel_rfl) (by kernel_rfl) (by kernel_rfl) (fun _ _ _ h => h) (Or.inl ⟨by kernel_rfl, ?_⟩) (by first | assumption | trivial) ?_
        rotate_left
        · intro w hSw
          try dsimp only at hSw
          first | (go_simp; done) | (go_simp; with_reducible rfl)
        try simp only [Act.put, List.getElem_toArray, List.getElem_cons_succ, List.getElem_cons_zero, List.setIfInBounds_toArray, List.set_cons_zero, List.set_cons_succ]
        refine wpAnyH_take (i := 5) (v := ?_) rfl (by kernel_rfl) (by kernel_rfl) (by kernel_rfl) (fun _ _ _ h => h) (Or.inl ⟨by kernel_rfl, ?_⟩) (by first | assumption | trivial) ?_
        rotate_left
        · intro w hSw
          try dsimp only at hSw
          first | (go_simp; done) | (go_simp; with_reducible rfl)
        try simp only [Act.put, List.getElem_toArray, List.getElem_cons_succ, List.getElem_cons_zero, List.setIfInBounds_toArray, List.set_cons_zero, List.set_cons_succ]
        refine wpAnyH_take (i := 6) (v := ?_) rfl (by kernel_rfl) (by kernel_rfl) (by kernel_rfl) (fun _ _ _ h => h) (Or.inl ⟨by kernel_rfl, ?_⟩) (by first | assumption | trivial) ?_
        rotate_left
        · intro w hSw
          try dsimp only at hSw
          first | (go_simp; done) | (go_simp; with_reducible rfl)
        try simp only [Act.put, List.getElem_toArray, List.getElem_cons_succ, List.getElem_cons_zero, List.setIfInBounds_toArray, List.set_cons_zero, List.set_cons_succ]
        refine wpAnyH_take (i := 7) (v := ?_) rfl (by kernel_rfl) (by kernel_rfl) (by kernel_rfl) (fun _ _ _ h => h) (Or.inl ⟨by kernel_rfl, ?_⟩) (by first | assumption | trivial) ?_
        rotate_left
        · intro w hSw
          try dsimp only at hSw
          first | (go_simp; done) | (go_simp; with_reducible rfl)
        try simp only [Act.put, List.getElem_toArray, List.getElem_cons_succ, List.getElem_cons_zero, List.setIfInBounds_toArray, List.set_cons_zero, List.set_cons_succ]
        refine wpAnyH_take (i := 8) (v := ?_) rfl (by kernel_rfl) (by kernel_rfl) (by kernel_rfl) (fun _ _ _ h => h) (Or.inl ⟨by kernel_rfl, ?_⟩) (by first | assumption | trivial) ?_
        rotate_left
        · intro w hSw
          try dsimp only at hSw
          first | (go_simp; done) | (go_simp; with_reducible rfl)
        try simp only [Act.put, List.getElem_toArray, List.getElem_cons_succ, List.getElem_cons_zero, List.setIfInBounds_toArray, List.set_cons_zero, List.set_cons_succ]
        refine wpAnyH_done (by kernel_rfl) ?_ _
        clear hS0 HJ
        have a1 := HS1.out.2.1
        have a2 := HS1.out.2.2
        have a0 := HC0.out
        generalize wr.drew = wd at *
        go_wp2_with (at_builtin; with_reducible refine stop_appendU (.tmp 32) (.tmp 39) 37 rfl ?_)
        clear a0 a1 a2
        have HSZ : Hid ((w.heap.size + 1 + 1) ≤ wd.heap.size) := Lib.hid (by have := HJD.out.br.lt; omega)
        refine wpList_append_u rfl (.tmp 32) (.tmp 39) 37 rfl 9 (.string ByteArray.empty) 16 (w.heap.size + 1 + 1) eltS rfl (by decide) (.slice pv m cv) (.slice (some ⟨wd.heap.size, 0, none⟩) 1 1) ((dueL (now + 1) (ds.take k)).map (·.nm)) [q.nm] rfl rfl (HJD.out.out.later (oneB wd _)) (TRow.one_ encT q.nm (Blk.new wd #[.string q.nm] 9) rfl (Nat.le_refl _)) (by have := HM.out; rw [List.length_singleton]; omega) (Nat.le_trans HSZ.out (oneB wd (.cells #[.string q.nm] 9)).size) (((dueL (now + 1) (ds.take k)).map (·.nm)) ++ [q.nm]) (m + 1) rfl (by rw [List.length_append, List.length_singleton]; have := HM.out; omega) ?_
        intro p6 c6 w6 ho hg hor
        have hbw := (Below.refl (w.heap.size + 1 + 1) (wd.alloc (.cells #[.string q.nm] 9))).grown hg (Nat.le_trans HSZ.out (oneB wd (.cells #[.string q.nm] 9)).size) (fun g e => HJD.out.out.block_ge g e)
        have hba := oneB wd (.cells #[.string q.nm] 9)
        have hsz : wd.heap.size < (wd.alloc (.cells #[.string q.nm] 9)).heap.size := by simp
        have HD := HDM.out hdt
        have hall : Below (w.heap.size + 1 + 1) wd w6 := (hba.mono HSZ.out).trans hbw
        have hst : ∀ g, g < wd.heap.size → (Value.slice pv m cv).ownBlock ≠ some g → w6.heap[g]? = wd.heap[g]? := fun g h1 h2 => (hg.block g (by omega) (fun e => h2 e.symm)).trans (hba.block g h1)
        have HX : Hid (TLp w now ds (some ⟨b, o, none⟩) n c (.slice p6 (m + 1) c6) (.slice pu m2 cu) (k + 1) w6) := Lib.hid ⟨(by rw [HD.1, List.map_append]; exact ho), (by rw [HD.2]; exact HJD.out.lft.stay (fun g hg2 => hst g (HJD.out.lft.lt g hg2) (fun e => HJD.out.sep g e hg2))), (fun g e1 e2 => by
          rcases hor with h1 | h1
          · exact HJD.out.sep g (h1 ▸ e1) e2
          · have h2 := HJD.out.lft.lt g e2; rw [h1] at e1; cases e1; omega), HJD.out.bd.below hall (by omega), HJD.out.br.below hall (by omega), HJD.out.below.trans (hall.mono (by omega))⟩
        clear ho hg hor hbw hba hsz hall hst HD HJD HDM HRM
        go_wp2_with fail
        go_roundw
        case rel => exact ⟨k + 1, by omega, by go_num, HX⟩
        case measure => simp [intOf]; omega
      · have hdt2 : now + 1 < q.t := by omega
        clear hdt
        go_upto_region 9 with fail
        clear d1
        refine wp_region_held_drew (S := fun w' => w'.cell? ⟨w.heap.size, 0, none⟩ = some (.int .i64 (now + 1)) ∧ w'.cell? ⟨w.heap.size, 1, none⟩ = some (.slice (some ⟨b, o, none⟩) n c) ∧ w'.cell? ⟨b, o + k * 2 + 1, none⟩ = some (.int .i64 q.t)) (by kernel_rfl) hS1 (fun hS0 => ?_)
        clear hS1
        refine wpAnyH_take (i := 0) (v := ?_) rfl (by kernel_rfl) (by kernel_rfl) (by kernel_rfl) (fun _ _ _ h => h) (Or.inl ⟨by kernel_rfl, ?_⟩) (by first | assumption | trivial) ?_
        rotate_left
        · intro w hSw
          try dsimp only at hSw
          first | (go_simp; done) | (go_simp; with_reducible rfl)
        try simp only [Act.put, List.getElem_toArray, List.getElem_cons_succ, List.getElem_cons_zero, List.setIfInBounds_toArray, List.set_cons_zero, List.set_cons_succ]
        refine wpAnyH_take (i := 1) (v := ?_) rfl (by kernel_rfl) (by kernel_rfl) (by kernel_rfl) (fun _ _ _ h => h) (Or.inl ⟨by kernel_rfl, ?_⟩) (by first | assumption | trivial) ?_
        rotate_left
        · intro w hSw
          try dsimp only at hSw
          first | (go_simp; done) | (go_simp; with_reducible rfl)
        try simp only [Act.put, List.getElem_toArray, List.getElem_cons_succ, List.getElem_cons_zero, List.setIfInBounds_toArray, List.set_cons_zero, List.set_cons_succ]
        refine wpAnyH_take (i := 2) (v := ?_) rfl (by kernel_rfl) (by kernel_rfl) (by kernel_rfl) (fun _ _ _ h => h) (Or.inl ⟨by kernel_rfl, ?_⟩) (by first | assumption | trivial) ?_
        rotate_left
        · intro w hSw
          try dsimp only at hSw
          first | (go_simp; done) | (go_simp; with_reducible rfl)
        try simp only [Act.put, List.getElem_toArray, List.getElem_cons_succ, List.getElem_cons_zero, List.setIfInBounds_toArray, List.set_cons_zero, List.set_cons_succ]
        refine wpAnyH_take (i := 3) (v := ?_) rfl (by kernel_rfl) (by kernel_rfl) (by kernel_rfl) (fun _ _ _ h => h) (Or.inl ⟨by kernel_rfl, ?_⟩) (by first | assumption | trivial) ?_
        rotate_left
        · intro w hSw
          try dsimp only at hSw
          first | (go_simp; done) | (go_simp; with_reducible rfl)
        try simp only [Act.put, List.getElem_toArray, List.getElem_cons_succ, List.getElem_cons_zero, List.setIfInBounds_toArray, List.set_cons_zero, List.set_cons_succ]
        refine wpAnyH_take (i := 4) (v := ?_) rfl (by kernel_rfl) (by kernel_rfl) (by kernel_rfl) (fun _ _ _ h => h) (Or.inl ⟨by kernel_rfl, ?_⟩) (by first | assumption | trivial) ?_
        rotate_left
        · intro w hSw
          try dsimp only at hSw
          first | (go_simp; done) | (go_simp; with_reducible rfl)
        try simp only [Act.put, List.getElem_toArray, List.getElem_cons_succ, List.getElem_cons_zero, List.setIfInBounds_toArray, List.set_cons_zero, List.set_cons_succ]
        refine wpAnyH_take (i := 5) (v := ?_) rfl (by kernel_rfl) (by kernel_rfl) (by kernel_rfl) (fun _ _ _ h => h) (Or.inl ⟨by kernel_rfl, ?_⟩) (by first | assumption | trivial) ?_
        rotate_left
        · intro w hSw
          try dsimp only at hSw
          first | (go_simp; done) | (go_simp; with_reducible rfl)
        try simp only [Act.put, List.getElem_toArray, List.getElem_cons_succ, List.getElem_cons_zero, List.setIfInBounds_toArray, List.set_cons_zero, List.set_cons_succ]
        refine wpAnyH_take (i := 6) (v := ?_) rfl (by kernel_rfl) (by kernel_rfl) (by kernel_rfl) (fun _ _ _ h => h) (Or.inl ⟨by kernel_rfl, ?_⟩) (by first | assumption | trivial) ?_
        rotate_left
        · intro w hSw
          try dsimp only at hSw
          first | (go_simp; done) | (go_simp; with_reducible rfl)
        try simp only [Act.put, List.getElem_toArray, List.getElem_cons_succ, List.getElem_cons_zero, List.setIfInBounds_toArray, List.set_cons_zero, List.set_cons_succ]
        refine wpAnyH_take (i := 7) (v := ?_) rfl (by kernel_rfl) (by kernel_rfl) (by kernel_rfl) (fun _ _ _ h => h) (Or.inl ⟨by kernel_rfl, ?_⟩) (by first | assumption | trivial) ?_
        rotate_left
        · intro w hSw
          try dsimp only at hSw
          first | (go_simp; done) | (go_simp; with_reducible rfl)
        try simp only [Act.put, List.getElem_toArray, List.getElem_cons_succ, List.getElem_cons_zero, List.setIfInBounds_toArray, List.set_cons_zero, List.set_cons_succ]
        refine wpAnyH_take (i := 8) (v := ?_) rfl (by kernel_rfl) (by kernel_rfl) (by kernel_rfl) (fun _ _ _ h => h) (Or.inl ⟨by kernel_rfl, ?_⟩) (by first | assumption | trivial) ?_
        rotate_left
        · intro w hSw
          try dsimp only at hSw
          first | (go_simp; done) | (go_simp; with_reducible rfl)
        try simp only [Act.put, List.getElem_toArray, List.getElem_cons_succ, List.getElem_cons_zero, List.setIfInBounds_toArray, List.set_cons_zero, List.set_cons_succ]
        refine wpAnyH_done (by kernel_rfl) ?_ _
        clear hS0 HJ
        have a1 := HS1.out.2.1
        have a2 := HS1.out.2.2
        have a0 := HC0.out
        generalize wr.drew = wd at *
        go_wp2_with (at_builtin; with_reducible refine stop_appendU (.tmp 41) (.tmp 47) 26 rfl ?_)
        clear a0 a1 a2
        have HSZ : Hid ((w.heap.size + 1 + 1) ≤ wd.heap.size) := Lib.hid (by have := HJD.out.br.lt; omega)
        refine wpList_append_u rfl (.tmp 41) (.tmp 47) 26 rfl 45 zeroL 24 (w.heap.size + 1 + 1) eltL rfl (by decide) (.slice pu m2 cu) (.slice (some ⟨wd.heap.size, 0, none⟩) 1 1) (restL (now + 1) (ds.take k)) [q] rfl rfl (HJD.out.lft.later (oneB wd _)) (TRow.one_ encL q (Blk.new wd #[.string q.nm, .int .i64 q.t] 45) rfl (Nat.le_refl _)) (by have := HM.out; rw [List.length_singleton]; omega) (Nat.le_trans HSZ.out (oneB wd (.cells #[.string q.nm, .int .i64 q.t] 45)).size) ((restL (now + 1) (ds.take k)) ++ [q]) (m2 + 1) rfl (by rw [List.length_append, List.length_singleton]; have := HM.out; omega) ?_
        intro p6 c6 w6 ho hg hor
        have hbw := (Below.refl (w.heap.size + 1 + 1) (wd.alloc (.cells #[.string q.nm, .int .i64 q.t] 45))).grown hg (Nat.le_trans HSZ.out (oneB wd (.cells #[.string q.nm, .int .i64 q.t] 45)).size) (fun g e => HJD.out.lft.block_ge g e)
        have hba := oneB wd (.cells #[.string q.nm, .int .i64 q.t] 45)
        have hsz : wd.heap.size < (wd.alloc (.cells #[.string q.nm, .int .i64 q.t] 45)).heap.size := by simp
        have HD := HRM.out hdt2
        have hall : Below (w.heap.size + 1 + 1) wd w6 := (hba.mono HSZ.out).trans hbw
        have hst : ∀ g, g < wd.heap.size → (Value.slice pu m2 cu).ownBlock ≠ some g → w6.heap[g]? = wd.heap[g]? := fun g h1 h2 => (hg.block g (by omega) (fun e => h2 e.symm)).trans (hba.block g h1)
        have HX : Hid (TLp w now ds (some ⟨b, o, none⟩) n c (.slice pv m cv) (.slice p6 (m2 + 1) c6) (k + 1) w6) := Lib.hid ⟨(by rw [HD.1]; exact HJD.out.out.stay (fun g hg2 => hst g (HJD.out.out.lt g hg2) (fun e => HJD.out.sep g hg2 e))), (by rw [HD.2]; exact ho), (fun g e1 e2 => by
          rcases hor with h1 | h1
          · exact HJD.out.sep g e1 (h1 ▸ e2)
          · have h2 := HJD.out.out.lt g e1; rw [h1] at e2; cases e2; omega), HJD.out.bd.below hall (by omega), HJD.out.br.below hall (by omega), HJD.out.below.trans (hall.mono (by omega))⟩
        clear ho hg hor hbw hba hsz hall hst HD HJD HDM HRM
        go_wp2_with fail
        go_roundw
        case rel => exact ⟨k + 1, by omega, by go_num, HX⟩
        case measure => simp [intOf]; omega
    · have hltI : ¬ (k : Int) < (n : Int) := by omega
      have Hd0 := Lib.hid HJ.out.bd
      have Hr0 := Lib.hid HJ.out.br
      have HB0 := Lib.hid HJ.out.below
      have HZ0 := Lib.hid HJ.out.below.size
      have hke : ds.take k = ds := List.take_of_length_le (by have := HL.out; omega)
      have So0 : Hid (OwnT encT wr (w.heap.size + 1 + 1) 9 (.slice pv m cv) (tickL now ds)) := Lib.hid (by have h1 := HJ.out.out; rw [hke] at h1; rw [HTL.out.1]; exact h1)
      have Sl0 : Hid (OwnT encL wr (w.heap.size + 1 + 1) 45 (.slice pu m2 cu) (tickD now ds)) := Lib.hid (by have h1 := HJ.out.lft; rw [hke] at h1; rw [HTL.out.2.2]; exact h1)
      clear hke HJ
      go_upto_region 12 with fail
      clear d1
      have z1 : wr.cell? ⟨w.heap.size, 1, none⟩ = some (.slice p n c) := Hd0.out.cell 1
      have f1 := Hd0.out.free 1
      go_upto_region 13 with fail
      clear z1 f1
      have hch : Hid (Chg w.heap.size wr (wr.setCell ⟨w.heap.size, 1, none⟩ (.slice pu m2 cu))) := Lib.hid ((Chg.refl w.heap.size wr).set 1 (.slice pu m2 cu))
      have Hd1 : Hid (Blk (wr.setCell ⟨w.heap.size, 1, none⟩ (.slice pu m2 cu)) w.heap.size #[.int .i64 (now + 1), .slice pu m2 cu] 28) := Lib.hid (Hd0.out.set 1 (.slice pu m2 cu))
      have HB1 : Hid (Below w.heap.size w (wr.setCell ⟨w.heap.size, 1, none⟩ (.slice pu m2 cu))) := Lib.hid (HB0.out.setCell (p := ⟨w.heap.size, 1, none⟩) (by show w.heap.size ≤ w.heap.size; omega) (.slice pu m2 cu))
      have HZ1 : Hid (w.heap.size ≤ (wr.setCell ⟨w.heap.size, 1, none⟩ (.slice pu m2 cu)).heap.size) := Lib.hid (Nat.le_trans HZ0.out hch.out.size)
      have Hr1 := Lib.hid (Hr0.out.chg hch.out (by omega))
      have So1 := Lib.hid (So0.out.stay (fun b hb => hch.out.2 b (So0.out.lt b hb) (by have h1 := So0.out.block_ge b hb; omega)))
      have Sl1 := Lib.hid (Sl0.out.stay (fun b hb => hch.out.2 b (Sl0.out.lt b hb) (by have h1 := Sl0.out.block_ge b hb; omega)))
      clear hch Hd0 Hr0 So0 Sl0 HB0 HZ0
      generalize (wr.setCell ⟨w.heap.size, 1, none⟩ (.slice pu m2 cu)) = WS at *
      have a0 : WS.cell? ⟨w.heap.size, 0, none⟩ = some (.int .i64 (now + 1)) := Hd1.out.cell 0
      have a1 : WS.cell? ⟨w.heap.size, 1, none⟩ = some (.slice pu m2 cu) := Hd1.out.cell 1
      go_wp2_with (with_reducible refine stop_storeT 28 (.tmp 2) (.tmp 51) rfl ?_)
      clear a0 a1
      have HTH : Hid (WS.there (w.heap.size + 1) 0 2) := Hr1.out.thereAt
      have hch : Hid (Chg (w.heap.size + 1) WS (WS.setCells (w.heap.size + 1) 0 (#[.int .i64 (now + 1), .slice pu m2 cu] : Array Value).toList)) := Lib.hid (chg_putD _ _ _ _ _ (Chg.refl _ WS))
      have Hr2 : Hid (Blk (WS.setCells (w.heap.size + 1) 0 (#[.int .i64 (now + 1), .slice pu m2 cu] : Array Value).toList) (w.heap.size + 1) #[.int .i64 (now + 1), .slice pu m2 cu] 28) := Lib.hid (blk_put_all Hr1.out _ rfl)
      have HB2 : Hid (Below w.heap.size w (WS.setCells (w.heap.size + 1) 0 (#[.int .i64 (now + 1), .slice pu m2 cu] : Array Value).toList)) := Lib.hid (below_put (by omega) _ _ _ _ HB1.out)
      have HZ2 : Hid (w.heap.size ≤ (WS.setCells (w.heap.size + 1) 0 (#[.int .i64 (now + 1), .slice pu m2 cu] : Array Value).toList).heap.size) := Lib.hid (Nat.le_trans HZ1.out hch.out.size)
      have Hd2 := Lib.hid (Hd1.out.chg hch.out (by omega))
      have So2 := Lib.hid (So1.out.stay (fun b hb => hch.out.2 b (So1.out.lt b hb) (by have h1 := So1.out.block_ge b hb; omega)))
      have Sl2 := Lib.hid (Sl1.out.stay (fun b hb => hch.out.2 b (Sl1.out.lt b hb) (by have h1 := Sl1.out.block_ge b hb; omega)))
      clear hch Hd1 Hr1 So1 Sl1 HB1 HZ1
      refine wpList_store_mid rfl 28 (.tmp 2) (.tmp 51) rfl (w.heap.size + 1) 0 #[.int .i64 (now + 1), .slice pu m2 cu] rfl rfl HTH.out (infoC rfl) (all_oneCell_toArray (by intro u hu; simp at hu; rcases hu with rfl | rfl <;> rfl)) ?_
      generalize (WS.setCells (w.heap.size + 1) 0 (#[.int .i64 (now + 1), .slice pu m2 cu] : Array Value).toList) = WE at *
      clear HTH
      go_wp2_with fail
      have hfr := Hr2.out
      refine bodyPost_ret (v := .tuple #[.agg #[.int .i64 (now + 1), .slice pu m2 cu], .slice pv m cv]) (by simp [results, Try.results14, go_sem, hfr.cell 0, hfr.cell 1]) rfl ⟨pu, m2, cu, .slice pv m cv, by rw [HTL.out.2.1], ⟨So2.out.less (by omega), fun _ => Sl2.out.less (by omega), fun h => absurd h HMX.out, HB2.out⟩⟩
end Go.Proofs.Ytpmiekheiddihaa
