/- ClockPlays: the walk. -/
import Derived.Test.YtpmiekheiddihaaClkW
import Derived.Test.YtpmiekheiddihaaLiftClk
namespace Go.Proofs.Ytpmiekheiddihaa
open Go.RowKit Go.Maps
theorem PW.ownW {w cur cur' : World} {L : List Nat} {gc gd : Nat} {nowc nowd : Int} {kk : Nat} {dsc dsd : List Du} {v : Value} (h : PW w cur L gc gd nowc kk dsc nowd v dsd) (hb : Below cur.heap.size cur cur') (u : Value) (hu : ∀ g, u.ownBlock = some g → g ∈ L ∨ (cur.heap.size ≤ g ∧ g < cur'.heap.size)) : ∃ L', (∀ x ∈ L, x ∈ L') ∧ (∀ g, u.ownBlock = some g → g ∈ L') ∧ PW w cur' L' gc gd nowc kk dsc nowd v dsd := by
  cases hx : u.ownBlock with
  | none => exact ⟨L, fun _ h => h, fun g e => by (cases e), h.kept hb⟩
  | some x =>
    rcases hu x hx with h1 | h1
    · exact ⟨L, fun _ h => h, fun g e => by cases e; exact h1, h.kept hb⟩
    · exact ⟨x :: L, fun _ h => List.mem_cons_of_mem _ h, fun g e => by cases e; exact List.mem_cons_self, h.own hb x h1.1 h1.2⟩
theorem LC.owns {w W W' : World} {L : List Nat} {gc : Nat} {now : Int} {k : Nat} {ds : List Du} (h : LC w L W gc now k ds) (hb : Below W.heap.size W W') (X : List Nat) (hX : ∀ x ∈ X, W.heap.size ≤ x ∧ x < W'.heap.size) : LC w (X ++ L) W' gc now k ds :=
  ⟨(h.ck.mono (Q := fun b => w.heap.size ≤ b ∧ b ∉ X ++ L) (fun b hb' hp => ⟨hp.1, fun e => (List.mem_append.1 e).elim (fun h1 => by have := (hX b h1).1; omega) hp.2⟩)).kept hb, h.below.trans (hb.mono h.below.size), fun y hy => (List.mem_append.1 hy).elim (fun h1 => (hX y h1).2) (fun h1 => Nat.lt_of_lt_of_le (h.lt y h1) hb.size), h.tm, h.nw, h.ln⟩
theorem PW.ownW2 {w cur cur' : World} {L : List Nat} {gc gd : Nat} {nowc nowd : Int} {kk : Nat} {dsc dsd : List Du} {v : Value} (h : PW w cur L gc gd nowc kk dsc nowd v dsd) (hb : Below cur.heap.size cur cur') (u z : Value) (hu : ∀ g, u.ownBlock = some g → g ∈ L ∨ (cur.heap.size ≤ g ∧ g < cur'.heap.size)) (hz : ∀ g, z.ownBlock = some g → cur.heap.size ≤ g ∧ g < cur'.heap.size) : ∃ L', (∀ x ∈ L, x ∈ L') ∧ (∀ g, u.ownBlock = some g → g ∈ L') ∧ (∀ g, z.ownBlock = some g → g ∈ L') ∧ PW w cur' L' gc gd nowc kk dsc nowd v dsd := by
  have hX : ∃ X : List Nat, (∀ x ∈ X, cur.heap.size ≤ x ∧ x < cur'.heap.size) ∧ (∀ g, u.ownBlock = some g → g ∈ X ++ L) ∧ (∀ g, z.ownBlock = some g → g ∈ X ++ L) := by
    have hz2 : ∃ Z : List Nat, (∀ x ∈ Z, cur.heap.size ≤ x ∧ x < cur'.heap.size) ∧ (∀ g, z.ownBlock = some g → g ∈ Z) := by
      cases hq : z.ownBlock with
      | none => exact ⟨[], fun _ h => by (cases h), fun g e => by (cases e)⟩
      | some x => exact ⟨[x], fun y hy => by rw [List.mem_singleton.1 hy]; exact hz x hq, fun g e => by cases e; exact List.mem_cons_self⟩
    obtain ⟨Z, hZ1, hZ2⟩ := hz2
    cases hx : u.ownBlock with
    | none => exact ⟨Z, hZ1, fun g e => by (cases e), fun g e => List.mem_append_left _ (hZ2 g e)⟩
    | some x =>
      rcases hu x hx with h1 | h1
      · exact ⟨Z, hZ1, fun g e => by cases e; exact List.mem_append_right _ h1, fun g e => List.mem_append_left _ (hZ2 g e)⟩
      · exact ⟨x :: Z, fun y hy => (List.mem_cons.1 hy).elim (fun e => e ▸ h1) (hZ1 y), fun g e => by cases e; exact List.mem_cons_self, fun g e => List.mem_cons_of_mem _ (List.mem_append_left _ (hZ2 g e))⟩
  obtain ⟨X, h1, h2, h3⟩ := hX
  exact ⟨X ++ L, fun _ h => List.mem_append_right _ h, h2, h3, h.lc.owns hb X h1, h.row.later hb, h.blk.below hb h.blk.lt, List.mem_append_right _ h.gin, h.lb, fun g e => List.mem_append_right _ (h.rin g e), h.ne⟩
set_option linter.unusedSimpArgs false in
set_option maxHeartbeats 4000000 in
set_option maxRecDepth 100000 in
theorem plays_walk (v : Value) (xss : List OpC) (ask : ByteArray) (w : World) (hr : TRow encOpC w v xss) (hf : ∀ x ∈ xss, x.Fit) (ha : ask.size ≤ maxLen) :
    Calls Try.prog 3 #[v, .string ask] w fun e w' => e = .returned (.bool true) ∧ Below w.heap.size w w' := by
  obtain ⟨psc, csc, hsv⟩ := hr.shape
  subst hsv
  obtain ⟨m, hm⟩ : ∃ m, xss.length = m := ⟨_, rfl⟩
  have HM : Hid (xss.length = m) := Lib.hid hm
  rw [hm] at hr ⊢
  clear hm
  have HR := Lib.hid hr
  have HF := Lib.hid hf
  have HA := Lib.hid ha
  have HT := Lib.hid (ticks_any w)
  clear hr hf ha
  go_enter Try.func3, Try.ntmps3
  go_wp2_with fail
  refine HT.out.mono ?_
  rintro q w1 ⟨rfl, hb1⟩
  have HB1 := Lib.hid hb1
  clear hb1 HT
  by_cases c1 : (100 : Int) < (m : Int)
  case pos =>
    go_wp2_with fail
    go_ret
    exact ⟨rfl, HB1.out⟩
  have c1' : (m : Int) ≤ 100 := by omega
  clear c1
  have HNW := Lib.hid (lnew_any w w1 HB1.out)
  go_wp2_with fail
  refine HNW.out.mono ?_
  rintro q w2 ⟨rfl, hc, -⟩
  have HC := Lib.hid hc
  clear hc HNW
  generalize w1.heap.size + 1 = gc at *
  go_upto_region 7 with fail
  have HREL : Hid (∃ (L : List Nat) (now : Int) (kk : Nat) (ds : List Du) (v : Value), PW w (w2.alloc (.cells #[.int .i64 0, .slice none 0 0] 28)) L gc w2.heap.size now kk ds now v ds ∧ kk ≤ 0) := Lib.hid ⟨[w2.heap.size], 0, 0, [], .slice none 0 0, ⟨HC.out.own (oneB w2 _) _ (Nat.le_refl _) (by simp), OwnT.nil_ _ _ _ _, Blk.new w2 _ _, List.mem_cons_self, HC.out.below.size, fun g e => (by cases e), fun e => (by cases e)⟩, Nat.le_refl _⟩
  generalize (w2.alloc (.cells #[.int .i64 0, .slice none 0 0] 28)) = W0 at *
  generalize w2.heap.size = gd at *
  clear HC HB1
  go_wp2_with fail
  go_loopw [28] (fun v wr => ∃ k : Nat, k ≤ m ∧ v = .int .i64 k ∧ Hid (∃ (L : List Nat) (now : Int) (kk : Nat) (ds : List Du) (v : Value), PW w wr L gc gd now kk ds now v ds ∧ kk ≤ k)) (fun v _ => m - (intOf v).toNat)
  case atStart => exact ⟨0, Nat.zero_le _, rfl, HREL⟩
  case round =>
    obtain ⟨k, hk, rfl, HJ⟩ := hrel
    clear HREL
    by_cases hlt : k < m
    · have hltI : (k : Int) < (m : Int) := by omega
      have hk100 : k ≤ 99 := by omega
      obtain ⟨L0, now, kk, ds, v, hp, hkk⟩ := HJ.out
      have HKI : Hid (kk ≤ k ∧ k ≤ 99) := Lib.hid ⟨hkk, hk100⟩
      have hkl : k < xss.length := by rw [HM.out]; exact hlt
      obtain ⟨b, o, rfl, hbl, hcs⟩ := (HR.out.kept hp.lc.below).at_ k hkl
      have HFX := Lib.hid (HF.out _ (List.getElem_mem hkl))
      generalize xss[k] = x at *
      obtain ⟨xk, xl, xs⟩ := x
      have s0 : wr.cell? ⟨b, o + k * 3, none⟩ = some (.int .i64 xk) := hcs 0 (by decide)
      have s1 : wr.cell? ⟨b, o + k * 3 + 1, none⟩ = some (.int .i64 xl) := hcs 1 (by decide)
      have s2 : wr.cell? ⟨b, o + k * 3 + 2, none⟩ = some (.string xs) := hcs 2 (by decide)
      have HP0 := Lib.hid hp
      clear hcs hbl hp hkk HJ
      go_wp2_with (with_reducible refine stop_storeT 30 (.tmp 8) (.tmp 31) rfl ?_)
      clear s0 s1 s2
      have HLY := Lib.hid (laid_new wr #[.int .i64 0, .int .i64 0, .string ⟨#[]⟩] #[.int .i64 xk, .int .i64 xl, .string xs] 30 rfl)
      have HTH : Hid ((wr.alloc (.cells #[.int .i64 0, .int .i64 0, .string ⟨#[]⟩] 30)).there wr.heap.size 0 3) := Lib.hid (Blk.new wr #[.int .i64 0, .int .i64 0, .string ⟨#[]⟩] 30).thereAt
      refine wpList_store_mid rfl 30 (.tmp 8) (.tmp 31) rfl wr.heap.size 0 #[.int .i64 xk, .int .i64 xl, .string xs] rfl rfl HTH.out (infoO rfl) (all_oneCell_toArray (by intro u hu; simp at hu; rcases hu with rfl | rfl | rfl <;> rfl)) ?_
      clear HTH
      generalize ((wr.alloc (.cells #[.int .i64 0, .int .i64 0, .string ⟨#[]⟩] 30)).setCells wr.heap.size 0 (#[.int .i64 xk, .int .i64 xl, .string xs] : Array Value).toList) = W1 at *
      have HP := Lib.hid (HP0.out.own HLY.out.1 wr.heap.size (Nat.le_refl _) HLY.out.2.2)
      have HO := Lib.hid HLY.out.2.1
      have HGD : Hid (wr.heap.size ≠ gd) := Lib.hid (by have := HP0.out.blk.lt; omega)
      have HGO : Hid (wr.heap.size ∈ wr.heap.size :: L0) := Lib.hid List.mem_cons_self
      obtain ⟨L, hL1⟩ : ∃ l, wr.heap.size :: L0 = l := ⟨_, rfl⟩
      rw [hL1] at HP HGO
      clear hL1
      generalize wr.heap.size = go at *
      clear HLY HP0
      have q0 : W1.cell? ⟨go, 0, none⟩ = some (.int .i64 xk) := HO.out.cell 0
      go_upto_block 2 with fail
      clear q0
      try go_frame
      go_cut [28] from 29 to 149 (fun i wx => i = .int .i64 k ∧ Hid (∃ (L : List Nat) (now : Int) (kk : Nat) (ds : List Du) (v : Value), PW w wx L gc gd now kk ds now v ds ∧ kk ≤ (k + 1)))
      case first =>
        by_cases k0 : xk = 0
        · subst k0
          have HR1 := Lib.hid HP.out.row.row
          obtain ⟨n, hn1⟩ : ∃ n, ds.length = n := ⟨_, rfl⟩
          obtain ⟨p, c, hv⟩ := HP.out.row.form
          rw [hn1] at hv
          subst hv
          have HNN : Hid (ds.length = n) := Lib.hid hn1
          clear hn1
          have HS := Lib.hid (rset_any W1 now p n c ds xs xl HR1.out HNN.out.symm HP.out.lc.ln HP.out.lc.ck.nd HP.out.lc.nw)
          have d0 : W1.cell? ⟨gd, 0, none⟩ = some (.int .i64 now) := HP.out.blk.cell 0
          have d1 : W1.cell? ⟨gd, 1, none⟩ = some (.slice p n c) := HP.out.blk.cell 1
          have q1 : W1.cell? ⟨go, 1, none⟩ = some ((.int .i64 xl)) := HO.out.cell 1
          have q2 : W1.cell? ⟨go, 2, none⟩ = some ((.string xs)) := HO.out.cell 2
          go_wp2_with fail
          clear d0 d1 q1 q2
          refine HS.out.mono ?_
          rintro y9 w2 ⟨p2, n2, c2, rfl, hrs⟩
          clear HS HR1
          obtain ⟨E, hE⟩ : ∃ E, setE now ds xs xl = E := ⟨_, rfl⟩
          have HE := Lib.hid hE
          rw [hE]
          have hbz := hrs.below
          have hVV : ∃ D' : List Du, OwnT encL w2 w.heap.size 45 (.slice p2 n2 c2) D' ∧ (∀ g, (Value.slice p2 n2 c2).ownBlock = some g → g ∈ L ∨ (W1.heap.size ≤ g ∧ g < w2.heap.size)) ∧ (Value.slice p2 n2 c2).ownBlock ≠ some gd ∧ (∀ k' ds' W, SetR now kk ds xs xl k' ds' → OwnT encL W w.heap.size 45 (.slice p2 n2 c2) D' → OwnT encL W w.heap.size 45 (.slice p2 n2 c2) ds' ∧ k' ≤ kk + 1) := by
            have hsz := HP.out.lc.below.size
            by_cases he : setE now ds xs xl = 0
            · have h1 := hrs.yes he 0 0
              refine ⟨_, h1.less hsz, fun g e => .inr ⟨h1.block_ge g e, h1.lt g e⟩, fun e => by have h2 := h1.block_ge gd e; have h3 := HP.out.blk.lt; omega, fun k' ds' W hr hW => ?_⟩
              obtain ⟨rfl, b, rfl⟩ := hr.1 he
              exact ⟨hW.last, Nat.le_refl _⟩
            · obtain ⟨rfl, rfl, rfl⟩ := hrs.no he
              refine ⟨ds, HP.out.row.later hbz, fun g e => .inl (HP.out.rin g e), HP.out.ne, fun k' ds' W hr hW => ?_⟩
              obtain ⟨rfl, rfl⟩ := hr.2 he
              exact ⟨hW, Nat.le_succ _⟩
          obtain ⟨D', hD1, hD2, hD3, hD4⟩ := hVV
          have HHB := Lib.hid hbz
          have HP2 := Lib.hid (HP.out.kept hbz)
          obtain ⟨L2, hL1, hL2, hP3⟩ := HP.out.ownW hbz (.slice p2 n2 c2) hD2
          have HO2 := Lib.hid (HO.out.below hbz HO.out.lt)
          have HGO2 : Hid (go ∈ L2) := Lib.hid (hL1 _ HGO.out)
          have HD1 := Lib.hid hD1
          have HD3 := Lib.hid hD3
          have HD4 := Lib.hid hD4
          have HL2 := Lib.hid hL2
          have HP3 := Lib.hid hP3
          clear hbz HHB HP2 hL1 hL2 hP3 hD1 hD2 hD3 hD4 HP HO HGO hrs hE
          go_wp2_with (with_reducible refine stop_storeT 28 (.tmp 9) (.tmp 43) rfl ?_)
          have HLY := Lib.hid (laid_new w2 #[.int .i64 0, .slice none 0 0] #[.int .i64 now, .slice p2 n2 c2] 28 rfl)
          have HTH : Hid ((w2.alloc (.cells #[.int .i64 0, .slice none 0 0] 28)).there w2.heap.size 0 2) := Lib.hid (Blk.new w2 #[.int .i64 0, .slice none 0 0] 28).thereAt
          refine wpList_store_mid rfl 28 (.tmp 9) (.tmp 43) rfl w2.heap.size 0 #[.int .i64 now, .slice p2 n2 c2] rfl rfl HTH.out (infoC rfl) (all_oneCell_toArray (by intro u hu; simp at hu; rcases hu with rfl | rfl <;> rfl)) ?_
          clear HTH
          generalize ((w2.alloc (.cells #[.int .i64 0, .slice none 0 0] 28)).setCells w2.heap.size 0 (#[.int .i64 now, .slice p2 n2 c2] : Array Value).toList) = w3 at *
          have HP4 := Lib.hid (HP3.out.kept HLY.out.1)
          have HO3 := Lib.hid (HO2.out.below HLY.out.1 HO2.out.lt)
          have HD5 := Lib.hid (HD1.out.later HLY.out.1)
          have r0 : w3.cell? ⟨w2.heap.size, 0, none⟩ = some (.int .i64 now) := HLY.out.2.1.cell 0
          have r1 : w3.cell? ⟨w2.heap.size, 1, none⟩ = some (.slice p2 n2 c2) := HLY.out.2.1.cell 1
          clear HP3 HO2 HD1 HLY
          go_wp2_with (with_reducible refine stop_storeT 28 (.tmp 6) (.tmp 45) rfl ?_)
          clear r0 r1
          have HTH : Hid (w3.there gd 0 2) := Lib.hid HP4.out.blk.thereAt
          have HCH : Hid (Chg gd w3 (w3.setCells gd 0 (#[.int .i64 now, .slice p2 n2 c2] : Array Value).toList)) := Lib.hid (chg_putD _ _ _ _ _ (Chg.refl _ w3))
          have HBD : Hid (Blk (w3.setCells gd 0 (#[.int .i64 now, .slice p2 n2 c2] : Array Value).toList) gd #[.int .i64 now, .slice p2 n2 c2] 28) := Lib.hid (blk_put_all HP4.out.blk _ rfl)
          refine wpList_store_mid rfl 28 (.tmp 6) (.tmp 45) rfl gd 0 #[.int .i64 now, .slice p2 n2 c2] rfl rfl HTH.out (infoC rfl) (all_oneCell_toArray (by intro u hu; simp at hu; rcases hu with rfl | rfl <;> rfl)) ?_
          clear HTH
          generalize (w3.setCells gd 0 (#[.int .i64 now, .slice p2 n2 c2] : Array Value).toList) = w4 at *
          have HNE : Hid (go ≠ gd) := HGD
          have HP5 := Lib.hid (HP4.out.doc HCH.out HBD.out HD5.out HL2.out HD3.out)
          have HO4 := Lib.hid (HO3.out.chg HCH.out HNE.out)
          clear HP4 HO3 HD5 HCH HBD HL2 HD3
          have HS := Lib.hid (lset_any w L2 w4 gc now kk ds xs xl HP5.out.lc HFX.out.l (by have h7 : xs.size ≤ 140737488351232 := HFX.out.s; omega) (by have := HKI.out; omega))
          rw [HE.out] at HS
          have q1 : w4.cell? ⟨go, 1, none⟩ = some ((.int .i64 xl)) := HO4.out.cell 1
          have q2 : w4.cell? ⟨go, 2, none⟩ = some ((.string xs)) := HO4.out.cell 2
          go_wp2_with fail
          clear q1 q2
          refine HS.out.mono ?_
          rintro y9 w5 ⟨rfl, hb5, hst, k5, ds5, hc5, hr5⟩
          have HX : Hid (∃ (L : List Nat) (now : Int) (kk : Nat) (ds : List Du) (v : Value), PW w w5 L gc gd now kk ds now v ds ∧ kk ≤ (k + 1)) := by
            have h1 := HP5.out.prog hst hc5
            have h2 := HD4.out k5 ds5 w5 hr5 h1.row
            exact Lib.hid ⟨L2, now, k5, ds5, _, h1.as h2.1, by have := HKI.out; have := h2.2; omega⟩
          clear hb5 hst hc5 hr5 HS HP5 HO4 HD4 HGO2 HNE HE
          go_wp2_with fail
          go_meet
          case rel => exact ⟨rfl, HX⟩
        by_cases k1 : xk = 1
        · subst k1
          clear k0
          have HR1 := Lib.hid HP.out.row.row
          obtain ⟨n, hn1⟩ : ∃ n, ds.length = n := ⟨_, rfl⟩
          obtain ⟨p, c, hv⟩ := HP.out.row.form
          rw [hn1] at hv
          subst hv
          have HNN : Hid (ds.length = n) := Lib.hid hn1
          clear hn1
          have HS := Lib.hid (rdrop_any W1 now p n c ds xs HR1.out HNN.out.symm HP.out.lc.ln HP.out.lc.ck.nd)
          have d0 : W1.cell? ⟨gd, 0, none⟩ = some (.int .i64 now) := HP.out.blk.cell 0
          have d1 : W1.cell? ⟨gd, 1, none⟩ = some (.slice p n c) := HP.out.blk.cell 1
          have q2 : W1.cell? ⟨go, 2, none⟩ = some ((.string xs)) := HO.out.cell 2
          go_wp2_with fail
          clear d0 d1 q2
          refine HS.out.mono ?_
          rintro y9 w2 ⟨p2, n2, c2, rfl, hrs⟩
          clear HS HR1
          obtain ⟨E, hE⟩ : ∃ E, dropE ds xs = E := ⟨_, rfl⟩
          have HE := Lib.hid hE
          rw [hE]
          have hbz := hrs.below
          have hVV : ∃ D' : List Du, OwnT encL w2 w.heap.size 45 (.slice p2 n2 c2) D' ∧ (∀ g, (Value.slice p2 n2 c2).ownBlock = some g → g ∈ L ∨ (W1.heap.size ≤ g ∧ g < w2.heap.size)) ∧ (Value.slice p2 n2 c2).ownBlock ≠ some gd ∧ D' = dropU ds xs := by
            have hsz := HP.out.lc.below.size
            by_cases he : dropE ds xs = 0
            · have h1 := hrs.yes he
              exact ⟨_, h1.less hsz, fun g e => .inr ⟨h1.block_ge g e, h1.lt g e⟩, fun e => by have h2 := h1.block_ge gd e; have h3 := HP.out.blk.lt; omega, rfl⟩
            · obtain ⟨rfl, rfl, rfl⟩ := hrs.no he
              have hno : dofU ds xs = none := by
                unfold dropE at he
                by_cases h1 : dofU ds xs = none
                · exact h1
                · rw [if_neg h1] at he; exact absurd rfl he
              exact ⟨ds, HP.out.row.later hbz, fun g e => .inl (HP.out.rin g e), HP.out.ne, (drop_self hno).symm⟩
          obtain ⟨D', hD1, hD2, hD3, hD4⟩ := hVV
          have HHB := Lib.hid hbz
          have HP2 := Lib.hid (HP.out.kept hbz)
          obtain ⟨L2, hL1, hL2, hP3⟩ := HP.out.ownW hbz (.slice p2 n2 c2) hD2
          have HO2 := Lib.hid (HO.out.below hbz HO.out.lt)
          have HGO2 : Hid (go ∈ L2) := Lib.hid (hL1 _ HGO.out)
          have HD1 := Lib.hid hD1
          have HD3 := Lib.hid hD3
          have HD4 := Lib.hid hD4
          have HL2 := Lib.hid hL2
          have HP3 := Lib.hid hP3
          clear hbz HHB HP2 hL1 hL2 hP3 hD1 hD2 hD3 hD4 HP HO HGO hrs hE
          go_wp2_with (with_reducible refine stop_storeT 28 (.tmp 11) (.tmp 61) rfl ?_)
          have HLY := Lib.hid (laid_new w2 #[.int .i64 0, .slice none 0 0] #[.int .i64 now, .slice p2 n2 c2] 28 rfl)
          have HTH : Hid ((w2.alloc (.cells #[.int .i64 0, .slice none 0 0] 28)).there w2.heap.size 0 2) := Lib.hid (Blk.new w2 #[.int .i64 0, .slice none 0 0] 28).thereAt
          refine wpList_store_mid rfl 28 (.tmp 11) (.tmp 61) rfl w2.heap.size 0 #[.int .i64 now, .slice p2 n2 c2] rfl rfl HTH.out (infoC rfl) (all_oneCell_toArray (by intro u hu; simp at hu; rcases hu with rfl | rfl <;> rfl)) ?_
          clear HTH
          generalize ((w2.alloc (.cells #[.int .i64 0, .slice none 0 0] 28)).setCells w2.heap.size 0 (#[.int .i64 now, .slice p2 n2 c2] : Array Value).toList) = w3 at *
          have HP4 := Lib.hid (HP3.out.kept HLY.out.1)
          have HO3 := Lib.hid (HO2.out.below HLY.out.1 HO2.out.lt)
          have HD5 := Lib.hid (HD1.out.later HLY.out.1)
          have r0 : w3.cell? ⟨w2.heap.size, 0, none⟩ = some (.int .i64 now) := HLY.out.2.1.cell 0
          have r1 : w3.cell? ⟨w2.heap.size, 1, none⟩ = some (.slice p2 n2 c2) := HLY.out.2.1.cell 1
          clear HP3 HO2 HD1 HLY
          go_wp2_with (with_reducible refine stop_storeT 28 (.tmp 6) (.tmp 63) rfl ?_)
          clear r0 r1
          have HTH : Hid (w3.there gd 0 2) := Lib.hid HP4.out.blk.thereAt
          have HCH : Hid (Chg gd w3 (w3.setCells gd 0 (#[.int .i64 now, .slice p2 n2 c2] : Array Value).toList)) := Lib.hid (chg_putD _ _ _ _ _ (Chg.refl _ w3))
          have HBD : Hid (Blk (w3.setCells gd 0 (#[.int .i64 now, .slice p2 n2 c2] : Array Value).toList) gd #[.int .i64 now, .slice p2 n2 c2] 28) := Lib.hid (blk_put_all HP4.out.blk _ rfl)
          refine wpList_store_mid rfl 28 (.tmp 6) (.tmp 63) rfl gd 0 #[.int .i64 now, .slice p2 n2 c2] rfl rfl HTH.out (infoC rfl) (all_oneCell_toArray (by intro u hu; simp at hu; rcases hu with rfl | rfl <;> rfl)) ?_
          clear HTH
          generalize (w3.setCells gd 0 (#[.int .i64 now, .slice p2 n2 c2] : Array Value).toList) = w4 at *
          have HNE : Hid (go ≠ gd) := HGD
          have HP5 := Lib.hid (HP4.out.doc HCH.out HBD.out HD5.out HL2.out HD3.out)
          have HO4 := Lib.hid (HO3.out.chg HCH.out HNE.out)
          clear HP4 HO3 HD5 HCH HBD HL2 HD3
          have HS := Lib.hid (ldrop_any w L2 w4 gc now kk ds xs HP5.out.lc (by have h7 : xs.size ≤ 140737488351232 := HFX.out.s; unfold maxLen; omega))
          rw [HE.out] at HS
          have q2 : w4.cell? ⟨go, 2, none⟩ = some ((.string xs)) := HO4.out.cell 2
          go_wp2_with fail
          clear q2
          refine HS.out.mono ?_
          rintro y9 w5 ⟨rfl, hb5, hst, hc5⟩
          have HX : Hid (∃ (L : List Nat) (now : Int) (kk : Nat) (ds : List Du) (v : Value), PW w w5 L gc gd now kk ds now v ds ∧ kk ≤ (k + 1)) := by
            have h1 := HP5.out.prog hst hc5
            rw [HD4.out] at h1
            exact Lib.hid ⟨L2, now, kk, _, _, h1, by have := HKI.out; omega⟩
          clear hb5 hst hc5 HS HP5 HO4 HD4 HGO2 HNE HE
          go_wp2_with fail
          go_meet
          case rel => exact ⟨rfl, HX⟩
        have b0 : (xk == 0) = false := by simpa using k0
        have b1 : (xk == 1) = false := by simpa using k1
        by_cases k2 : xk = 2
        · subst k2
          clear k0 k1 b0 b1
          have HR1 := Lib.hid HP.out.row.row
          obtain ⟨n, hn1⟩ : ∃ n, ds.length = n := ⟨_, rfl⟩
          obtain ⟨p, c, hv⟩ := HP.out.row.form
          rw [hn1] at hv
          subst hv
          have HNN : Hid (ds.length = n) := Lib.hid hn1
          clear hn1
          have HS := Lib.hid (rtick_any W1 now p n c ds HR1.out HNN.out.symm HP.out.lc.ln HP.out.lc.nw)
          have d0 : W1.cell? ⟨gd, 0, none⟩ = some (.int .i64 now) := HP.out.blk.cell 0
          have d1 : W1.cell? ⟨gd, 1, none⟩ = some (.slice p n c) := HP.out.blk.cell 1
          go_wp2_with fail
          clear d0 d1
          refine HS.out.mono ?_
          rintro y9 w2 ⟨p2, n2, c2, vw, rfl, hrs⟩
          clear HS HR1
          obtain ⟨T2, hT2⟩ : ∃ T, tickN now = T := ⟨_, rfl⟩
          rw [hT2]
          have HT2 := Lib.hid hT2
          have hbz := hrs.below
          have hVV : OwnT encL w2 w.heap.size 45 (.slice p2 n2 c2) (tickD now ds) ∧ (∀ g, (Value.slice p2 n2 c2).ownBlock = some g → g ∈ L ∨ (W1.heap.size ≤ g ∧ g < w2.heap.size)) ∧ (Value.slice p2 n2 c2).ownBlock ≠ some gd := by
            have hsz := HP.out.lc.below.size
            by_cases he : now = 1099511627776
            · obtain ⟨rfl, rfl, rfl⟩ := hrs.no he
              have e1 : tickD now ds = ds := if_pos he
              rw [e1]
              exact ⟨HP.out.row.later hbz, fun g e => .inl (HP.out.rin g e), HP.out.ne⟩
            · have h1 := hrs.yes he
              exact ⟨h1.less hsz, fun g e => .inr ⟨h1.block_ge g e, h1.lt g e⟩, fun e => by have h2 := h1.block_ge gd e; have h3 := HP.out.blk.lt; omega⟩
          obtain ⟨hD1, hD2, hD3⟩ := hVV
          obtain ⟨L2, hL1, hL2, hL4, hP3⟩ := HP.out.ownW2 hbz (.slice p2 n2 c2) vw hD2 (fun g e => ⟨hrs.out.block_ge g e, hrs.out.lt g e⟩)
          have HO2 := Lib.hid (HO.out.below hbz HO.out.lt)
          have HD1 := Lib.hid hD1
          have HD3 := Lib.hid hD3
          have HL2 := Lib.hid hL2
          have HL4 := Lib.hid hL4
          have HP3 := Lib.hid hP3
          have HW2 := Lib.hid hrs.out
          have HGL : Hid (gd < W1.heap.size) := Lib.hid HP.out.blk.lt
          clear hbz hL1 hL2 hL4 hP3 hD1 hD2 hD3 HP HO HGO hrs hT2
          go_wp2_with (with_reducible refine stop_storeT 28 (.tmp 13) (.tmp 75) rfl ?_)
          have HLY := Lib.hid (laid_new w2 #[.int .i64 0, .slice none 0 0] #[.int .i64 T2, .slice p2 n2 c2] 28 rfl)
          have HTH : Hid ((w2.alloc (.cells #[.int .i64 0, .slice none 0 0] 28)).there w2.heap.size 0 2) := Lib.hid (Blk.new w2 #[.int .i64 0, .slice none 0 0] 28).thereAt
          refine wpList_store_mid rfl 28 (.tmp 13) (.tmp 75) rfl w2.heap.size 0 #[.int .i64 T2, .slice p2 n2 c2] rfl rfl HTH.out (infoC rfl) (all_oneCell_toArray (by intro u hu; simp at hu; rcases hu with rfl | rfl <;> rfl)) ?_
          clear HTH
          generalize ((w2.alloc (.cells #[.int .i64 0, .slice none 0 0] 28)).setCells w2.heap.size 0 (#[.int .i64 T2, .slice p2 n2 c2] : Array Value).toList) = w3 at *
          have HP4 := Lib.hid (HP3.out.kept HLY.out.1)
          have HD5 := Lib.hid (HD1.out.later HLY.out.1)
          have HW3 := Lib.hid (HW2.out.later HLY.out.1)
          have r0 : w3.cell? ⟨w2.heap.size, 0, none⟩ = some (.int .i64 T2) := HLY.out.2.1.cell 0
          have r1 : w3.cell? ⟨w2.heap.size, 1, none⟩ = some (.slice p2 n2 c2) := HLY.out.2.1.cell 1
          clear HP3 HD1 HW2 HLY
          go_wp2_with (with_reducible refine stop_storeT 28 (.tmp 6) (.tmp 77) rfl ?_)
          clear r0 r1
          have HTH : Hid (w3.there gd 0 2) := Lib.hid HP4.out.blk.thereAt
          have HCH : Hid (Chg gd w3 (w3.setCells gd 0 (#[.int .i64 T2, .slice p2 n2 c2] : Array Value).toList)) := Lib.hid (chg_putD _ _ _ _ _ (Chg.refl _ w3))
          have HBD : Hid (Blk (w3.setCells gd 0 (#[.int .i64 T2, .slice p2 n2 c2] : Array Value).toList) gd #[.int .i64 T2, .slice p2 n2 c2] 28) := Lib.hid (blk_put_all HP4.out.blk _ rfl)
          refine wpList_store_mid rfl 28 (.tmp 6) (.tmp 77) rfl gd 0 #[.int .i64 T2, .slice p2 n2 c2] rfl rfl HTH.out (infoC rfl) (all_oneCell_toArray (by intro u hu; simp at hu; rcases hu with rfl | rfl <;> rfl)) ?_
          clear HTH
          generalize (w3.setCells gd 0 (#[.int .i64 T2, .slice p2 n2 c2] : Array Value).toList) = w4 at *
          have HP5 := Lib.hid (HP4.out.doc HCH.out HBD.out HD5.out HL2.out HD3.out)
          have HW4 := Lib.hid (HW3.out.stay (fun g e => HCH.out.2 g (HW3.out.lt g e) (fun e2 => by have := HW3.out.block_ge g e; have := HGL.out; omega)))
          clear HP4 HD5 HW3 HCH HBD HL2 HD3
          have HS := Lib.hid (ltick_any w L2 w4 gc now kk ds HP5.out.lc)
          go_wp2_with fail
          refine HS.out.mono ?_
          rintro y9 w5 ⟨v5, rfl, ho5, hb5, hst, hl5⟩
          have hc5 := hl5 L2 (fun x hx => Nat.lt_of_lt_of_le (HP5.out.lc.lt x hx) hb5.size) (fun b h1 _ h2 => h1 h2)
          have HP6 := Lib.hid (HP5.out.prog hst hc5)
          rw [HT2.out] at HP6
          have HW5 := Lib.hid (HW4.out.stay (fun g e => hst g (HL4.out g e)))
          have HO5 := Lib.hid ho5
          obtain ⟨p5, c5, hv5⟩ := ho5.form
          obtain ⟨pw, cw, hvw⟩ := HW5.out.form
          obtain ⟨TL, hTL⟩ : ∃ l, tickL now ds = l := ⟨_, rfl⟩
          have HQ0 : Hid (TL.length ≤ 4096) := Lib.hid (by
            rw [← hTL]
            unfold tickL
            split
            · simp
            · rw [List.length_map]; exact Nat.le_trans (List.length_filter_le _ _) HP5.out.lc.ln)
          rw [hTL] at HW5 HO5 hv5 hvw
          obtain ⟨tq, htq⟩ : ∃ m, TL.length = m := ⟨_, rfl⟩
          rw [htq] at hv5 hvw
          subst hv5
          subst hvw
          have HQ : Hid (TL.length = tq ∧ tq ≤ 4096) := Lib.hid ⟨htq, by have := HQ0.out; omega⟩
          obtain ⟨DD, hDD⟩ : ∃ l, tickD now ds = l := ⟨_, rfl⟩
          rw [hDD] at HP6
          generalize W1.heap.size = bw at *
          generalize w4.heap.size = b4 at *
          clear ho5 hb5 hst hl5 hc5 HS HP5 HW4 hTL htq HQ0 hDD HT2 HL4 HGL HNN HO2
          go_wp2_with fail
          go_loopw [87] (fun v wx => ∃ j : Nat, j ≤ tq ∧ v = .int .i64 j ∧ Hid (PW w wx L2 gc gd T2 kk DD T2 (.slice p2 n2 c2) DD ∧ OwnT encT wx b4 9 (.slice p5 tq c5) TL ∧ OwnT encT wx bw 9 (.slice pw tq cw) TL)) (fun v _ => tq - (intOf v).toNat)
          case atStart => exact ⟨0, Nat.zero_le _, rfl, ⟨HP6.out, HO5.out, HW5.out⟩⟩
          case round =>
            obtain ⟨j, hj, rfl, HJ⟩ := hrel
            clear HP6 HO5 HW5
            by_cases hjq : j < tq
            · have hjI : (j : Int) < (tq : Int) := by omega
              have hj4 : j ≤ 4096 := by have := HQ.out.2; omega
              have hjl : j < TL.length := by rw [HQ.out.1]; exact hjq
              have hbd := (Below.refl wr.heap.size wr).drew
              have HJD := Lib.hid (And.intro (HJ.out.1.kept hbd) (And.intro (HJ.out.2.1.later hbd) (HJ.out.2.2.later hbd)))
              obtain ⟨g5, rfl, hc5⟩ := HJD.out.2.1.strs j hjl
              obtain ⟨gw, rfl, hcw⟩ := HJD.out.2.2.strs j hjl
              generalize TL[j] = s at *
              have hS1 : wr.drew.cell? ⟨g5, j, none⟩ = some (.string s) ∧ wr.drew.cell? ⟨gw, j, none⟩ = some (.string s) := ⟨hc5, hcw⟩
              clear hbd hc5 hcw hjl HJ
              have hss := bl_self s
              go_upto_region 30 with fail
              refine wp_region_held_drew (S := fun w' => w'.cell? ⟨g5, j, none⟩ = some (.string s) ∧ w'.cell? ⟨gw, j, none⟩ = some (.string s)) (by kernel_rfl) hS1 (fun hS0 => ?_)
              clear hS1
              refine wpAnyH_take (i := 0) (v := ?_) rfl (by kernel_rfl) (by kernel_rfl) (by kernel_rfl) (fun _ _ _ h => h) (Or.inl ⟨by kernel_rfl, ?_⟩) (by first | assumption | trivial) ?_
              rotate_left
              · intro w hSw
                try dsimp only at hSw
                first | (go_simp; done) | (go_simp; with_reducible rfl)
              try simp only [Act.put, List.getElem_toArray, List.getElem_cons_succ, List.getElem_cons_zero, List.setIfInBounds_toArray, List.set_cons_zero, List.set_cons_succ]
              refine wpAnyH_take (i := 1) (v := ?_) rfl (by kernel_rfl) (by kernel_rfl) (by kernel_rfl) (fun _ _ _ h => h) (Or.inl ⟨by kernel_rfl, ?_⟩) (by first | assumption | trivial) ?_
              rotate_left
              · intro w hSw
                try dsimp only at hSw
                first | (go_simp; done) | (go_simp; with_reducible rfl)
              try simp only [Act.put, List.getElem_toArray, List.getElem_cons_succ, List.getElem_cons_zero, List.setIfInBounds_toArray, List.set_cons_zero, List.set_cons_succ]
              refine wpAnyH_take (i := 2) (v := ?_) rfl (by kernel_rfl) (by kernel_rfl) (by kernel_rfl) (fun _ _ _ h => h) (Or.inl ⟨by kernel_rfl, ?_⟩) (by first | assumption | trivial) ?_
              rotate_left
              · intro w hSw
                try dsimp only at hSw
                first | (go_simp; done) | (go_simp; with_reducible rfl)
              try simp only [Act.put, List.getElem_toArray, List.getElem_cons_succ, List.getElem_cons_zero, List.setIfInBounds_toArray, List.set_cons_zero, List.set_cons_succ]
              refine wpAnyH_take (i := 3) (v := ?_) rfl (by kernel_rfl) (by kernel_rfl) (by kernel_rfl) (fun _ _ _ h => h) (Or.inl ⟨by kernel_rfl, ?_⟩) (by first | assumption | trivial) ?_
              rotate_left
              · intro w hSw
                try dsimp only at hSw
                first | (go_simp; done) | (go_simp; with_reducible rfl)
              try simp only [Act.put, List.getElem_toArray, List.getElem_cons_succ, List.getElem_cons_zero, List.setIfInBounds_toArray, List.set_cons_zero, List.set_cons_succ]
              refine wpAnyH_take (i := 4) (v := ?_) rfl (by kernel_rfl) (by kernel_rfl) (by kernel_rfl) (fun _ _ _ h => h) (Or.inl ⟨by kernel_rfl, ?_⟩) (by first | assumption | trivial) ?_
              rotate_left
              · intro w hSw
                try dsimp only at hSw
                first | (go_simp; done) | (go_simp; with_reducible rfl)
              try simp only [Act.put, List.getElem_toArray, List.getElem_cons_succ, List.getElem_cons_zero, List.setIfInBounds_toArray, List.set_cons_zero, List.set_cons_succ]
              refine wpAnyH_take (i := 5) (v := ?_) rfl (by kernel_rfl) (by kernel_rfl) (by kernel_rfl) (fun _ _ _ h => h) (Or.inl ⟨by kernel_rfl, ?_⟩) (by first | assumption | trivial) ?_
              rotate_left
              · intro w hSw
                try dsimp only at hSw
                first | (go_simp; done) | (go_simp; with_reducible rfl)
              try simp only [Act.put, List.getElem_toArray, List.getElem_cons_succ, List.getElem_cons_zero, List.setIfInBounds_toArray, List.set_cons_zero, List.set_cons_succ]
              refine wpAnyH_take (i := 6) (v := ?_) rfl (by kernel_rfl) (by kernel_rfl) (by kernel_rfl) (fun _ _ _ h => h) (Or.inl ⟨by kernel_rfl, ?_⟩) (by first | assumption | trivial) ?_
              rotate_left
              · intro w hSw
                try dsimp only at hSw
                first | (go_simp; done) | (go_simp; with_reducible rfl)
              try simp only [Act.put, List.getElem_toArray, List.getElem_cons_succ, List.getElem_cons_zero, List.setIfInBounds_toArray, List.set_cons_zero, List.set_cons_succ]
              refine wpAnyH_take (i := 7) (v := ?_) rfl (by kernel_rfl) (by kernel_rfl) (by kernel_rfl) (fun _ _ _ h => h) (Or.inl ⟨by kernel_rfl, ?_⟩) (by first | assumption | trivial) ?_
              rotate_left
              · intro w hSw
                try dsimp only at hSw
                first | (go_simp; done) | (go_simp; with_reducible rfl)
              try simp only [Act.put, List.getElem_toArray, List.getElem_cons_succ, List.getElem_cons_zero, List.setIfInBounds_toArray, List.set_cons_zero, List.set_cons_succ]
              refine wpAnyH_take (i := 8) (v := ?_) rfl (by kernel_rfl) (by kernel_rfl) (by kernel_rfl) (fun _ _ _ h => h) (Or.inl ⟨by kernel_rfl, ?_⟩) (by first | assumption | trivial) ?_
              rotate_left
              · intro w hSw
                try dsimp only at hSw
                first | (go_simp; done) | (go_simp; with_reducible rfl)
              try simp only [Act.put, List.getElem_toArray, List.getElem_cons_succ, List.getElem_cons_zero, List.setIfInBounds_toArray, List.set_cons_zero, List.set_cons_succ]
              refine wpAnyH_done (by kernel_rfl) ?_ _
              clear hS0
              generalize wr.drew = wd at *
              go_wp2_with fail
              go_roundw
              case rel => exact ⟨j + 1, by omega, by go_num, HJD⟩
              case measure => simp [intOf]; omega
            · have hjI : ¬ (j : Int) < (tq : Int) := by omega
              have HX : Hid (∃ (L : List Nat) (now : Int) (kk : Nat) (ds : List Du) (v : Value), PW w wr L gc gd now kk ds now v ds ∧ kk ≤ (k + 1)) := Lib.hid ⟨L2, T2, kk, DD, _, HJ.out.1, by have := HKI.out; omega⟩
              clear HJ
              go_wp2_with fail
              go_meet
              case rel => exact ⟨rfl, HX⟩
        · have b2 : (xk == 2) = false := by simpa using k2
          have HX : Hid (∃ (L : List Nat) (now : Int) (kk : Nat) (ds : List Du) (v : Value), PW w W1 L gc gd now kk ds now v ds ∧ kk ≤ (k + 1)) := Lib.hid ⟨_, now, kk, ds, _, HP.out, by have := HKI.out; omega⟩
          go_wp2_with fail
          go_meet
          case rel => exact ⟨rfl, HX⟩
      case rest =>
        obtain ⟨rfl, HX⟩ := hcut
        obtain ⟨L, now, kk, ds, v, hp, hkk⟩ := HX.out
        have HP := Lib.hid hp
        have HKK : Hid (kk ≤ k + 1) := Lib.hid hkk
        clear hp hkk HX HKI HFX
        obtain ⟨n, hn1⟩ : ∃ n, ds.length = n := ⟨_, rfl⟩
        obtain ⟨p, c, hv⟩ := HP.out.row.form
        rw [hn1] at hv
        subst hv
        have HNN : Hid (ds.length = n) := Lib.hid hn1
        clear hn1
        have HWN := Lib.hid (HP.out.lc.when_any ask HA.out)
        have HR1 := Lib.hid HP.out.row.row
        have HFD := Lib.hid (rfind_any wc now p n c ds ask HR1.out HNN.out.symm (by have := HP.out.lc.ln; omega))
        have d0 : wc.cell? ⟨gd, 0, none⟩ = some (.int .i64 now) := HP.out.blk.cell 0
        have d1 : wc.cell? ⟨gd, 1, none⟩ = some (.slice p n c) := HP.out.blk.cell 1
        obtain ⟨tw, htw⟩ : ∃ a, (whenU ds ask).getD 0 = a := ⟨_, rfl⟩
        obtain ⟨okb, hok⟩ : ∃ b, (whenU ds ask).isSome = b := ⟨_, rfl⟩
        rw [htw, hok] at HWN
        have HTW := Lib.hid (And.intro htw hok)
        clear htw hok
        go_wp2_with fail
        refine HWN.out.mono ?_
        rintro y9 wd ⟨rfl, hwd⟩
        replace hwd := hwd.symm
        subst hwd
        go_wp2_with fail
        refine HFD.out.mono ?_
        rintro y9 w2 ⟨⟨r, rfl, hat⟩, hb⟩
        clear d0 d1 HWN HFD HR1
        have hbd := (Below.refl w2.heap.size w2).drew
        have HPD := Lib.hid ((HP.out.kept hb).kept hbd)
        have d0 : w2.drew.cell? ⟨gd, 0, none⟩ = some (.int .i64 now) := HPD.out.blk.cell 0
        have d1 : w2.drew.cell? ⟨gd, 1, none⟩ = some (.slice p n c) := HPD.out.blk.cell 1
        have HAT := Lib.hid hat
        clear hat hb hbd HP
        by_cases hr0 : r < 0
        · skip
          have hno := HAT.out.none_ hr0
          have e2 := when_no hno
          have ht0 : tw = 0 := by rw [← HTW.out.1, e2]; rfl
          have ho0 : okb = false := by rw [← HTW.out.2, e2]; rfl
          subst ht0
          subst ho0
          obtain rfl : r = -1 := by
            rcases HAT.out with ⟨_, _, h1, _⟩ | ⟨h1, _⟩
            · omega
            · exact h1
          clear hno e2 hr0 HTW HAT
          have hS1 : w2.drew.cell? ⟨gd, 0, none⟩ = some (.int .i64 now) ∧ w2.drew.cell? ⟨gd, 1, none⟩ = some (.slice p n c) := ⟨d0, d1⟩
          have HSD := Lib.hid hS1
          have HNO := Lib.hid HPD.out.lc.now_any
          have HLE := Lib.hid HPD.out.lc.len_any
          rw [HNN.out] at HLE
          clear d0 d1
          go_upto_region 35 with fail
          refine wp_region_held_drew (S := fun w' => w'.cell? ⟨gd, 0, none⟩ = some (.int .i64 now) ∧ w'.cell? ⟨gd, 1, none⟩ = some (.slice p n c)) (by kernel_rfl) hS1 (fun hS0 => ?_)
          clear hS1
          generalize w2.drew = wd at *
          refine wpAnyH_take (i := 0) (v := ?_) rfl (by kernel_rfl) (by kernel_rfl) (by kernel_rfl) (fun _ _ _ h => h) (Or.inl ⟨by kernel_rfl, ?_⟩) (by first | assumption | trivial) ?_
          rotate_left
          · intro w hSw
            try dsimp only at hSw
            first | (go_simp; done) | (go_simp; with_reducible rfl)
          try simp only [Act.put, List.getElem_toArray, List.getElem_cons_succ, List.getElem_cons_zero, List.setIfInBounds_toArray, List.set_cons_zero, List.set_cons_succ]
          refine wpAnyH_take (i := 1) (v := ?_) rfl (by kernel_rfl) (by kernel_rfl) (by kernel_rfl) (fun _ _ _ h => h) (Or.inl ⟨by kernel_rfl, ?_⟩) (by first | assumption | trivial) ?_
          rotate_left
          · intro w hSw
            try dsimp only at hSw
            first | (go_simp; done) | (go_simp; with_reducible rfl)
          try simp only [Act.put, List.getElem_toArray, List.getElem_cons_succ, List.getElem_cons_zero, List.setIfInBounds_toArray, List.set_cons_zero, List.set_cons_succ]
          refine wpAnyH_take (i := 2) (v := ?_) rfl (by kernel_rfl) (by kernel_rfl) (by kernel_rfl) (fun _ _ _ h => h) (Or.inl ⟨by kernel_rfl, ?_⟩) (by first | assumption | trivial) ?_
          rotate_left
          · intro w hSw
            try dsimp only at hSw
            first | (go_simp; done) | (go_simp; with_reducible rfl)
          try simp only [Act.put, List.getElem_toArray, List.getElem_cons_succ, List.getElem_cons_zero, List.setIfInBounds_toArray, List.set_cons_zero, List.set_cons_succ]
          refine wpAnyH_take (i := 3) (v := ?_) rfl (by kernel_rfl) (by kernel_rfl) (by kernel_rfl) (fun _ _ _ h => h) (Or.inl ⟨by kernel_rfl, ?_⟩) (by first | assumption | trivial) ?_
          rotate_left
          · intro w hSw
            try dsimp only at hSw
            first | (go_simp; done) | (go_simp; with_reducible rfl)
          try simp only [Act.put, List.getElem_toArray, List.getElem_cons_succ, List.getElem_cons_zero, List.setIfInBounds_toArray, List.set_cons_zero, List.set_cons_succ]
          refine wpAnyH_take (i := 4) (v := ?_) rfl (by kernel_rfl) (by kernel_rfl) (by kernel_rfl) (fun _ _ _ h => h) (Or.inl ⟨by kernel_rfl, ?_⟩) (by first | assumption | trivial) ?_
          rotate_left
          · intro w hSw
            try dsimp only at hSw
            first | (go_simp; done) | (go_simp; with_reducible rfl)
          try simp only [Act.put, List.getElem_toArray, List.getElem_cons_succ, List.getElem_cons_zero, List.setIfInBounds_toArray, List.set_cons_zero, List.set_cons_succ]
          refine wpAnyH_take (i := 5) (v := ?_) rfl (by kernel_rfl) (by kernel_rfl) (by kernel_rfl) (fun _ _ _ h => h) (Or.inl ⟨by kernel_rfl, ?_⟩) (by first | assumption | trivial) ?_
          rotate_left
          · intro w hSw
            try dsimp only at hSw
            first | (go_simp; done) | (go_simp; with_reducible rfl)
          try simp only [Act.put, List.getElem_toArray, List.getElem_cons_succ, List.getElem_cons_zero, List.setIfInBounds_toArray, List.set_cons_zero, List.set_cons_succ]
          refine wpAnyH_take (i := 6) (v := ?_) rfl (by kernel_rfl) (by kernel_rfl) (by kernel_rfl) (fun _ _ _ h => h) (Or.inl ⟨by kernel_rfl, ?_⟩) (by first | assumption | trivial) ?_
          rotate_left
          · intro w hSw
            try dsimp only at hSw
            first | (go_simp; done) | (go_simp; with_reducible rfl)
          try simp only [Act.put, List.getElem_toArray, List.getElem_cons_succ, List.getElem_cons_zero, List.setIfInBounds_toArray, List.set_cons_zero, List.set_cons_succ]
          refine wpAnyH_take (i := 7) (v := undef) rfl (by kernel_rfl) (by kernel_rfl) (by kernel_rfl) (fun _ _ _ h => h) (Or.inr ⟨by kernel_rfl, rfl⟩) (by first | assumption | trivial) ?_
          try simp only [Act.put, List.getElem_toArray, List.getElem_cons_succ, List.getElem_cons_zero, List.setIfInBounds_toArray, List.set_cons_zero, List.set_cons_succ]
          refine wpAnyH_take (i := 8) (v := undef) rfl (by kernel_rfl) (by kernel_rfl) (by kernel_rfl) (fun _ _ _ h => h) (Or.inr ⟨by kernel_rfl, rfl⟩) (by first | assumption | trivial) ?_
          try simp only [Act.put, List.getElem_toArray, List.getElem_cons_succ, List.getElem_cons_zero, List.setIfInBounds_toArray, List.set_cons_zero, List.set_cons_succ]
          refine wpAnyH_take (i := 9) (v := undef) rfl (by kernel_rfl) (by kernel_rfl) (by kernel_rfl) (fun _ _ _ h => h) (Or.inr ⟨by kernel_rfl, rfl⟩) (by first | assumption | trivial) ?_
          try simp only [Act.put, List.getElem_toArray, List.getElem_cons_succ, List.getElem_cons_zero, List.setIfInBounds_toArray, List.set_cons_zero, List.set_cons_succ]
          refine wpAnyH_take (i := 10) (v := undef) rfl (by kernel_rfl) (by kernel_rfl) (by kernel_rfl) (fun _ _ _ h => h) (Or.inr ⟨by kernel_rfl, rfl⟩) (by first | assumption | trivial) ?_
          try simp only [Act.put, List.getElem_toArray, List.getElem_cons_succ, List.getElem_cons_zero, List.setIfInBounds_toArray, List.set_cons_zero, List.set_cons_succ]
          refine wpAnyH_take (i := 11) (v := undef) rfl (by kernel_rfl) (by kernel_rfl) (by kernel_rfl) (fun _ _ _ h => h) (Or.inr ⟨by kernel_rfl, rfl⟩) (by first | assumption | trivial) ?_
          try simp only [Act.put, List.getElem_toArray, List.getElem_cons_succ, List.getElem_cons_zero, List.setIfInBounds_toArray, List.set_cons_zero, List.set_cons_succ]
          refine wpAnyH_take (i := 12) (v := undef) rfl (by kernel_rfl) (by kernel_rfl) (by kernel_rfl) (fun _ _ _ h => h) (Or.inr ⟨by kernel_rfl, rfl⟩) (by first | assumption | trivial) ?_
          try simp only [Act.put, List.getElem_toArray, List.getElem_cons_succ, List.getElem_cons_zero, List.setIfInBounds_toArray, List.set_cons_zero, List.set_cons_succ]
          refine wpAnyH_take (i := 13) (v := undef) rfl (by kernel_rfl) (by kernel_rfl) (by kernel_rfl) (fun _ _ _ h => h) (Or.inr ⟨by kernel_rfl, rfl⟩) (by first | assumption | trivial) ?_
          try simp only [Act.put, List.getElem_toArray, List.getElem_cons_succ, List.getElem_cons_zero, List.setIfInBounds_toArray, List.set_cons_zero, List.set_cons_succ]
          refine wpAnyH_take (i := 14) (v := undef) rfl (by kernel_rfl) (by kernel_rfl) (by kernel_rfl) (fun _ _ _ h => h) (Or.inr ⟨by kernel_rfl, rfl⟩) (by first | assumption | trivial) ?_
          try simp only [Act.put, List.getElem_toArray, List.getElem_cons_succ, List.getElem_cons_zero, List.setIfInBounds_toArray, List.set_cons_zero, List.set_cons_succ]
          refine wpAnyH_take (i := 15) (v := ?_) rfl (by kernel_rfl) (by kernel_rfl) (by kernel_rfl) (fun _ _ _ h => h) (Or.inl ⟨by kernel_rfl, ?_⟩) (by first | assumption | trivial) ?_
          rotate_left
          · intro w hSw
            try dsimp only at hSw
            first | (go_simp; done) | (go_simp; with_reducible rfl)
          try simp only [Act.put, List.getElem_toArray, List.getElem_cons_succ, List.getElem_cons_zero, List.setIfInBounds_toArray, List.set_cons_zero, List.set_cons_succ]
          refine wpAnyH_take (i := 16) (v := ?_) rfl (by kernel_rfl) (by kernel_rfl) (by kernel_rfl) (fun _ _ _ h => h) (Or.inl ⟨by kernel_rfl, ?_⟩) (by first | assumption | trivial) ?_
          rotate_left
          · intro w hSw
            try dsimp only at hSw
            first | (go_simp; done) | (go_simp; with_reducible rfl)
          try simp only [Act.put, List.getElem_toArray, List.getElem_cons_succ, List.getElem_cons_zero, List.setIfInBounds_toArray, List.set_cons_zero, List.set_cons_succ]
          refine wpAnyH_take (i := 17) (v := ?_) rfl (by kernel_rfl) (by kernel_rfl) (by kernel_rfl) (fun _ _ _ h => h) (Or.inl ⟨by kernel_rfl, ?_⟩) (by first | assumption | trivial) ?_
          rotate_left
          · intro w hSw
            try dsimp only at hSw
            first | (go_simp; done) | (go_simp; with_reducible rfl)
          try simp only [Act.put, List.getElem_toArray, List.getElem_cons_succ, List.getElem_cons_zero, List.setIfInBounds_toArray, List.set_cons_zero, List.set_cons_succ]
          refine wpAnyH_take (i := 18) (v := ?_) rfl (by kernel_rfl) (by kernel_rfl) (by kernel_rfl) (fun _ _ _ h => h) (Or.inl ⟨by kernel_rfl, ?_⟩) (by first | assumption | trivial) ?_
          rotate_left
          · intro w hSw
            try dsimp only at hSw
            first | (go_simp; done) | (go_simp; with_reducible rfl)
          try simp only [Act.put, List.getElem_toArray, List.getElem_cons_succ, List.getElem_cons_zero, List.setIfInBounds_toArray, List.set_cons_zero, List.set_cons_succ]
          refine wpAnyH_take (i := 19) (v := ?_) rfl (by kernel_rfl) (by kernel_rfl) (by kernel_rfl) (fun _ _ _ h => h) (Or.inl ⟨by kernel_rfl, ?_⟩) (by first | assumption | trivial) ?_
          rotate_left
          · intro w hSw
            try dsimp only at hSw
            first | (go_simp; done) | (go_simp; with_reducible rfl)
          try simp only [Act.put, List.getElem_toArray, List.getElem_cons_succ, List.getElem_cons_zero, List.setIfInBounds_toArray, List.set_cons_zero, List.set_cons_succ]
          refine wpAnyH_take (i := 20) (v := ?_) rfl (by kernel_rfl) (by kernel_rfl) (by kernel_rfl) (fun _ _ _ h => h) (Or.inl ⟨by kernel_rfl, ?_⟩) (by first | assumption | trivial) ?_
          rotate_left
          · intro w hSw
            try dsimp only at hSw
            first | (go_simp; done) | (go_simp; with_reducible rfl)
          try simp only [Act.put, List.getElem_toArray, List.getElem_cons_succ, List.getElem_cons_zero, List.setIfInBounds_toArray, List.set_cons_zero, List.set_cons_succ]
          refine wpAnyH_take (i := 21) (v := ?_) rfl (by kernel_rfl) (by kernel_rfl) (by kernel_rfl) (fun _ _ _ h => h) (Or.inl ⟨by kernel_rfl, ?_⟩) (by first | assumption | trivial) ?_
          rotate_left
          · intro w hSw
            try dsimp only at hSw
            first | (go_simp; done) | (go_simp; with_reducible rfl)
          try simp only [Act.put, List.getElem_toArray, List.getElem_cons_succ, List.getElem_cons_zero, List.setIfInBounds_toArray, List.set_cons_zero, List.set_cons_succ]
          refine wpAnyH_take (i := 22) (v := ?_) rfl (by kernel_rfl) (by kernel_rfl) (by kernel_rfl) (fun _ _ _ h => h) (Or.inl ⟨by kernel_rfl, ?_⟩) (by first | assumption | trivial) ?_
          rotate_left
          · intro w hSw
            try dsimp only at hSw
            first | (go_simp; done) | (go_simp; with_reducible rfl)
          try simp only [Act.put, List.getElem_toArray, List.getElem_cons_succ, List.getElem_cons_zero, List.setIfInBounds_toArray, List.set_cons_zero, List.set_cons_succ]
          refine wpAnyH_take (i := 23) (v := ?_) rfl (by kernel_rfl) (by kernel_rfl) (by kernel_rfl) (fun _ _ _ h => h) (Or.inl ⟨by kernel_rfl, ?_⟩) (by first | assumption | trivial) ?_
          rotate_left
          · intro w hSw
            try dsimp only at hSw
            first | (go_simp; done) | (go_simp; with_reducible rfl)
          try simp only [Act.put, List.getElem_toArray, List.getElem_cons_succ, List.getElem_cons_zero, List.setIfInBounds_toArray, List.set_cons_zero, List.set_cons_succ]
          refine wpAnyH_take (i := 24) (v := ?_) rfl (by kernel_rfl) (by kernel_rfl) (by kernel_rfl) (fun _ _ _ h => h) (Or.inl ⟨by kernel_rfl, ?_⟩) (by first | assumption | trivial) ?_
          rotate_left
          · intro w hSw
            try dsimp only at hSw
            first | (go_simp; done) | (go_simp; with_reducible rfl)
          try simp only [Act.put, List.getElem_toArray, List.getElem_cons_succ, List.getElem_cons_zero, List.setIfInBounds_toArray, List.set_cons_zero, List.set_cons_succ]
          refine wpAnyH_take (i := 25) (v := ?_) rfl (by kernel_rfl) (by kernel_rfl) (by kernel_rfl) (fun _ _ _ h => h) (Or.inl ⟨by kernel_rfl, ?_⟩) (by first | assumption | trivial) ?_
          rotate_left
          · intro w hSw
            try dsimp only at hSw
            first | (go_simp; done) | (go_simp; with_reducible rfl)
          try simp only [Act.put, List.getElem_toArray, List.getElem_cons_succ, List.getElem_cons_zero, List.setIfInBounds_toArray, List.set_cons_zero, List.set_cons_succ]
          refine wpAnyH_take (i := 26) (v := ?_) rfl (by kernel_rfl) (by kernel_rfl) (by kernel_rfl) (fun _ _ _ h => h) (Or.inl ⟨by kernel_rfl, ?_⟩) (by first | assumption | trivial) ?_
          rotate_left
          · intro w hSw
            try dsimp only at hSw
            first | (go_simp; done) | (go_simp; with_reducible rfl)
          try simp only [Act.put, List.getElem_toArray, List.getElem_cons_succ, List.getElem_cons_zero, List.setIfInBounds_toArray, List.set_cons_zero, List.set_cons_succ]
          refine wpAnyH_take (i := 28) (v := ?_) rfl (by kernel_rfl) (by kernel_rfl) (by kernel_rfl) (fun _ _ _ h => h) (Or.inl ⟨by kernel_rfl, ?_⟩) (by first | assumption | trivial) ?_
          rotate_left
          · intro w hSw
            try dsimp only at hSw
            first | (go_simp; done) | (go_simp; with_reducible rfl)
          try simp only [Act.put, List.getElem_toArray, List.getElem_cons_succ, List.getElem_cons_zero, List.setIfInBounds_toArray, List.set_cons_zero, List.set_cons_succ]
          refine wpAnyH_take (i := 29) (v := ?_) rfl (by kernel_rfl) (by kernel_rfl) (by kernel_rfl) (fun _ _ _ h => h) (Or.inl ⟨by kernel_rfl, ?_⟩) (by first | assumption | trivial) ?_
          rotate_left
          · intro w hSw
            try dsimp only at hSw
            first | (go_simp; done) | (go_simp; with_reducible rfl)
          try simp only [Act.put, List.getElem_toArray, List.getElem_cons_succ, List.getElem_cons_zero, List.setIfInBounds_toArray, List.set_cons_zero, List.set_cons_succ]
          refine wpAnyH_ready (rs := [27]) (by kernel_rfl) (by simp) ?_
          refine AllReadyH.cons rfl (fun K hK => ?_) AllReadyH.nil
          go_simp
          go_at_call 18
          refine (HNO.out).mono ?_
          rintro y9 w9 ⟨rfl, hw9⟩
          replace hw9 := hw9.symm
          subst hw9
          try go_wp2_with fail
          refine hK.out _ _ HSD.out (fun hS => ?_)
          clear hK K
          try simp only [Act.put, List.getElem_toArray, List.getElem_cons_succ, List.getElem_cons_zero, List.setIfInBounds_toArray, List.set_cons_zero, List.set_cons_succ]
          refine wpAnyH_take (i := 30) (v := ?_) rfl (by kernel_rfl) (by kernel_rfl) (by kernel_rfl) (fun _ _ _ h => h) (Or.inl ⟨by kernel_rfl, ?_⟩) (by first | assumption | trivial) ?_
          rotate_left
          · intro w hSw
            try dsimp only at hSw
            first | (go_simp; done) | (go_simp; with_reducible rfl)
          try simp only [Act.put, List.getElem_toArray, List.getElem_cons_succ, List.getElem_cons_zero, List.setIfInBounds_toArray, List.set_cons_zero, List.set_cons_succ]
          refine wpAnyH_take (i := 31) (v := ?_) rfl (by kernel_rfl) (by kernel_rfl) (by kernel_rfl) (fun _ _ _ h => h) (Or.inl ⟨by kernel_rfl, ?_⟩) (by first | assumption | trivial) ?_
          rotate_left
          · intro w hSw
            try dsimp only at hSw
            first | (go_simp; done) | (go_simp; with_reducible rfl)
          try simp only [Act.put, List.getElem_toArray, List.getElem_cons_succ, List.getElem_cons_zero, List.setIfInBounds_toArray, List.set_cons_zero, List.set_cons_succ]
          refine wpAnyH_take (i := 32) (v := ?_) rfl (by kernel_rfl) (by kernel_rfl) (by kernel_rfl) (fun _ _ _ h => h) (Or.inl ⟨by kernel_rfl, ?_⟩) (by first | assumption | trivial) ?_
          rotate_left
          · intro w hSw
            try dsimp only at hSw
            first | (go_simp; done) | (go_simp; with_reducible rfl)
          try simp only [Act.put, List.getElem_toArray, List.getElem_cons_succ, List.getElem_cons_zero, List.setIfInBounds_toArray, List.set_cons_zero, List.set_cons_succ]
          refine wpAnyH_take (i := 33) (v := ?_) rfl (by kernel_rfl) (by kernel_rfl) (by kernel_rfl) (fun _ _ _ h => h) (Or.inl ⟨by kernel_rfl, ?_⟩) (by first | assumption | trivial) ?_
          rotate_left
          · intro w hSw
            try dsimp only at hSw
            first | (go_simp; done) | (go_simp; with_reducible rfl)
          try simp only [Act.put, List.getElem_toArray, List.getElem_cons_succ, List.getElem_cons_zero, List.setIfInBounds_toArray, List.set_cons_zero, List.set_cons_succ]
          refine wpAnyH_take (i := 35) (v := ?_) rfl (by kernel_rfl) (by kernel_rfl) (by kernel_rfl) (fun _ _ _ h => h) (Or.inl ⟨by kernel_rfl, ?_⟩) (by first | assumption | trivial) ?_
          rotate_left
          · intro w hSw
            try dsimp only at hSw
            first | (go_simp; done) | (go_simp; with_reducible rfl)
          try simp only [Act.put, List.getElem_toArray, List.getElem_cons_succ, List.getElem_cons_zero, List.setIfInBounds_toArray, List.set_cons_zero, List.set_cons_succ]
          refine wpAnyH_take (i := 36) (v := ?_) rfl (by kernel_rfl) (by kernel_rfl) (by kernel_rfl) (fun _ _ _ h => h) (Or.inl ⟨by kernel_rfl, ?_⟩) (by first | assumption | trivial) ?_
          rotate_left
          · intro w hSw
            try dsimp only at hSw
            first | (go_simp; done) | (go_simp; with_reducible rfl)
          try simp only [Act.put, List.getElem_toArray, List.getElem_cons_succ, List.getElem_cons_zero, List.setIfInBounds_toArray, List.set_cons_zero, List.set_cons_succ]
          refine wpAnyH_take (i := 37) (v := ?_) rfl (by kernel_rfl) (by kernel_rfl) (by kernel_rfl) (fun _ _ _ h => h) (Or.inl ⟨by kernel_rfl, ?_⟩) (by first | assumption | trivial) ?_
          rotate_left
          · intro w hSw
            try dsimp only at hSw
            first | (go_simp; done) | (go_simp; with_reducible rfl)
          try simp only [Act.put, List.getElem_toArray, List.getElem_cons_succ, List.getElem_cons_zero, List.setIfInBounds_toArray, List.set_cons_zero, List.set_cons_succ]
          refine wpAnyH_ready (rs := [34]) (by kernel_rfl) (by simp) ?_
          refine AllReadyH.cons rfl (fun K hK => ?_) AllReadyH.nil
          go_simp
          go_at_call 19
          refine (HLE.out).mono ?_
          rintro y9 w9 ⟨rfl, hw9⟩
          replace hw9 := hw9.symm
          subst hw9
          try go_wp2_with fail
          refine hK.out _ _ HSD.out (fun hS => ?_)
          clear hK K
          try simp only [Act.put, List.getElem_toArray, List.getElem_cons_succ, List.getElem_cons_zero, List.setIfInBounds_toArray, List.set_cons_zero, List.set_cons_succ]
          refine wpAnyH_take (i := 38) (v := ?_) rfl (by kernel_rfl) (by kernel_rfl) (by kernel_rfl) (fun _ _ _ h => h) (Or.inl ⟨by kernel_rfl, ?_⟩) (by first | assumption | trivial) ?_
          rotate_left
          · intro w hSw
            try dsimp only at hSw
            first | (go_simp; done) | (go_simp; with_reducible rfl)
          try simp only [Act.put, List.getElem_toArray, List.getElem_cons_succ, List.getElem_cons_zero, List.setIfInBounds_toArray, List.set_cons_zero, List.set_cons_succ]
          refine wpAnyH_take (i := 39) (v := ?_) rfl (by kernel_rfl) (by kernel_rfl) (by kernel_rfl) (fun _ _ _ h => h) (Or.inl ⟨by kernel_rfl, ?_⟩) (by first | assumption | trivial) ?_
          rotate_left
          · intro w hSw
            try dsimp only at hSw
            first | (go_simp; done) | (go_simp; with_reducible rfl)
          try simp only [Act.put, List.getElem_toArray, List.getElem_cons_succ, List.getElem_cons_zero, List.setIfInBounds_toArray, List.set_cons_zero, List.set_cons_succ]
          refine wpAnyH_done (by kernel_rfl) ?_ _
          clear hS0
          have HX : Hid (∃ (L : List Nat) (now : Int) (kk : Nat) (ds : List Du) (v : Value), PW w wd L gc gd now kk ds now v ds ∧ kk ≤ (k + 1)) := Lib.hid ⟨L, now, kk, ds, _, HPD.out, HKK.out⟩
          clear HPD HSD HNO HLE
          go_wp2_with fail
          go_roundw
          case rel => exact ⟨k + 1, by omega, by go_num, HX⟩
          case measure => simp [intOf]; omega
        · skip
          have hge : (0 : Int) ≤ r := by omega
          obtain ⟨rk, hrk, rfl, hnm, -, -⟩ := HAT.out.some_ HPD.out.lc.ck.nd hge
          have e2 := when_at HPD.out.lc.ck.nd hrk hnm
          obtain ⟨bq, oq, rfl, -, hcs⟩ := HPD.out.row.row.at_ rk hrk
          have e1 : w2.drew.cell? ⟨bq, oq + rk * 2 + 1, none⟩ = some (.int .i64 tw) := by
            have h1 := hcs 1 (by decide)
            have h2 : ds[rk].t = tw := by rw [← HTW.out.1, e2]; rfl
            rw [← h2]
            exact h1
          have ho0 : okb = true := by rw [← HTW.out.2, e2]; rfl
          subst ho0
          have hrkn : rk < n := by have := HNN.out; omega
          have hrkI : (rk : Int) < (n : Int) := by omega
          have hn4 : n ≤ 4096 := by have := HPD.out.lc.ln; have := HNN.out; omega
          clear hrk hnm e2 hcs HTW HAT hr0
          have hS1 : w2.drew.cell? ⟨gd, 0, none⟩ = some (.int .i64 now) ∧ w2.drew.cell? ⟨gd, 1, none⟩ = some (.slice (some ⟨bq, oq, none⟩) n c) ∧ w2.drew.cell? ⟨bq, oq + rk * 2 + 1, none⟩ = some (.int .i64 tw) := ⟨d0, d1, e1⟩
          have HSD := Lib.hid hS1
          have HNO := Lib.hid HPD.out.lc.now_any
          have HLE := Lib.hid HPD.out.lc.len_any
          rw [HNN.out] at HLE
          clear d0 d1 e1
          go_upto_region 35 with fail
          refine wp_region_held_drew (S := fun w' => w'.cell? ⟨gd, 0, none⟩ = some (.int .i64 now) ∧ w'.cell? ⟨gd, 1, none⟩ = some (.slice (some ⟨bq, oq, none⟩) n c) ∧ w'.cell? ⟨bq, oq + rk * 2 + 1, none⟩ = some (.int .i64 tw)) (by kernel_rfl) hS1 (fun hS0 => ?_)
          clear hS1
          generalize w2.drew = wd at *
          refine wpAnyH_take (i := 0) (v := ?_) rfl (by kernel_rfl) (by kernel_rfl) (by kernel_rfl) (fun _ _ _ h => h) (Or.inl ⟨by kernel_rfl, ?_⟩) (by first | assumption | trivial) ?_
          rotate_left
          · intro w hSw
            try dsimp only at hSw
            first | (go_simp; done) | (go_simp; with_reducible rfl)
          try simp only [Act.put, List.getElem_toArray, List.getElem_cons_succ, List.getElem_cons_zero, List.setIfInBounds_toArray, List.set_cons_zero, List.set_cons_succ]
          refine wpAnyH_take (i := 1) (v := ?_) rfl (by kernel_rfl) (by kernel_rfl) (by kernel_rfl) (fun _ _ _ h => h) (Or.inl ⟨by kernel_rfl, ?_⟩) (by first | assumption | trivial) ?_
          rotate_left
          · intro w hSw
            try dsimp only at hSw
            first | (go_simp; done) | (go_simp; with_reducible rfl)
          try simp only [Act.put, List.getElem_toArray, List.getElem_cons_succ, List.getElem_cons_zero, List.setIfInBounds_toArray, List.set_cons_zero, List.set_cons_succ]
          refine wpAnyH_take (i := 2) (v := ?_) rfl (by kernel_rfl) (by kernel_rfl) (by kernel_rfl) (fun _ _ _ h => h) (Or.inl ⟨by kernel_rfl, ?_⟩) (by first | assumption | trivial) ?_
          rotate_left
          · intro w hSw
            try dsimp only at hSw
            first | (go_simp; done) | (go_simp; with_reducible rfl)
          try simp only [Act.put, List.getElem_toArray, List.getElem_cons_succ, List.getElem_cons_zero, List.setIfInBounds_toArray, List.set_cons_zero, List.set_cons_succ]
          refine wpAnyH_take (i := 3) (v := ?_) rfl (by kernel_rfl) (by kernel_rfl) (by kernel_rfl) (fun _ _ _ h => h) (Or.inl ⟨by kernel_rfl, ?_⟩) (by first | assumption | trivial) ?_
          rotate_left
          · intro w hSw
            try dsimp only at hSw
            first | (go_simp; done) | (go_simp; with_reducible rfl)
          try simp only [Act.put, List.getElem_toArray, List.getElem_cons_succ, List.getElem_cons_zero, List.setIfInBounds_toArray, List.set_cons_zero, List.set_cons_succ]
          refine wpAnyH_take (i := 4) (v := ?_) rfl (by kernel_rfl) (by kernel_rfl) (by kernel_rfl) (fun _ _ _ h => h) (Or.inl ⟨by kernel_rfl, ?_⟩) (by first | assumption | trivial) ?_
          rotate_left
          · intro w hSw
            try dsimp only at hSw
            first | (go_simp; done) | (go_simp; with_reducible rfl)
          try simp only [Act.put, List.getElem_toArray, List.getElem_cons_succ, List.getElem_cons_zero, List.setIfInBounds_toArray, List.set_cons_zero, List.set_cons_succ]
          refine wpAnyH_take (i := 5) (v := ?_) rfl (by kernel_rfl) (by kernel_rfl) (by kernel_rfl) (fun _ _ _ h => h) (Or.inl ⟨by kernel_rfl, ?_⟩) (by first | assumption | trivial) ?_
          rotate_left
          · intro w hSw
            try dsimp only at hSw
            first | (go_simp; done) | (go_simp; with_reducible rfl)
          try simp only [Act.put, List.getElem_toArray, List.getElem_cons_succ, List.getElem_cons_zero, List.setIfInBounds_toArray, List.set_cons_zero, List.set_cons_succ]
          refine wpAnyH_take (i := 6) (v := ?_) rfl (by kernel_rfl) (by kernel_rfl) (by kernel_rfl) (fun _ _ _ h => h) (Or.inl ⟨by kernel_rfl, ?_⟩) (by first | assumption | trivial) ?_
          rotate_left
          · intro w hSw
            try dsimp only at hSw
            first | (go_simp; done) | (go_simp; with_reducible rfl)
          try simp only [Act.put, List.getElem_toArray, List.getElem_cons_succ, List.getElem_cons_zero, List.setIfInBounds_toArray, List.set_cons_zero, List.set_cons_succ]
          refine wpAnyH_take (i := 7) (v := ?_) rfl (by kernel_rfl) (by kernel_rfl) (by kernel_rfl) (fun _ _ _ h => h) (Or.inl ⟨by kernel_rfl, ?_⟩) (by first | assumption | trivial) ?_
          rotate_left
          · intro w hSw
            try dsimp only at hSw
            first | (go_simp; done) | (go_simp; with_reducible rfl)
          try simp only [Act.put, List.getElem_toArray, List.getElem_cons_succ, List.getElem_cons_zero, List.setIfInBounds_toArray, List.set_cons_zero, List.set_cons_succ]
          refine wpAnyH_take (i := 8) (v := ?_) rfl (by kernel_rfl) (by kernel_rfl) (by kernel_rfl) (fun _ _ _ h => h) (Or.inl ⟨by kernel_rfl, ?_⟩) (by first | assumption | trivial) ?_
          rotate_left
          · intro w hSw
            try dsimp only at hSw
            first | (go_simp; done) | (go_simp; with_reducible rfl)
          try simp only [Act.put, List.getElem_toArray, List.getElem_cons_succ, List.getElem_cons_zero, List.setIfInBounds_toArray, List.set_cons_zero, List.set_cons_succ]
          refine wpAnyH_take (i := 9) (v := ?_) rfl (by kernel_rfl) (by kernel_rfl) (by kernel_rfl) (fun _ _ _ h => h) (Or.inl ⟨by kernel_rfl, ?_⟩) (by first | assumption | trivial) ?_
          rotate_left
          · intro w hSw
            try dsimp only at hSw
            first | (go_simp; done) | (go_simp; with_reducible rfl)
          try simp only [Act.put, List.getElem_toArray, List.getElem_cons_succ, List.getElem_cons_zero, List.setIfInBounds_toArray, List.set_cons_zero, List.set_cons_succ]
          refine wpAnyH_take (i := 10) (v := ?_) rfl (by kernel_rfl) (by kernel_rfl) (by kernel_rfl) (fun _ _ _ h => h) (Or.inl ⟨by kernel_rfl, ?_⟩) (by first | assumption | trivial) ?_
          rotate_left
          · intro w hSw
            try dsimp only at hSw
            first | (go_simp; done) | (go_simp; with_reducible rfl)
          try simp only [Act.put, List.getElem_toArray, List.getElem_cons_succ, List.getElem_cons_zero, List.setIfInBounds_toArray, List.set_cons_zero, List.set_cons_succ]
          refine wpAnyH_take (i := 11) (v := ?_) rfl (by kernel_rfl) (by kernel_rfl) (by kernel_rfl) (fun _ _ _ h => h) (Or.inl ⟨by kernel_rfl, ?_⟩) (by first | assumption | trivial) ?_
          rotate_left
          · intro w hSw
            try dsimp only at hSw
            first | (go_simp; done) | (go_simp; with_reducible rfl)
          try simp only [Act.put, List.getElem_toArray, List.getElem_cons_succ, List.getElem_cons_zero, List.setIfInBounds_toArray, List.set_cons_zero, List.set_cons_succ]
          refine wpAnyH_take (i := 12) (v := ?_) rfl (by kernel_rfl) (by kernel_rfl) (by kernel_rfl) (fun _ _ _ h => h) (Or.inl ⟨by kernel_rfl, ?_⟩) (by first | assumption | trivial) ?_
          rotate_left
          · intro w hSw
            try dsimp only at hSw
            first | (go_simp; done) | (go_simp; with_reducible rfl)
          try simp only [Act.put, List.getElem_toArray, List.getElem_cons_succ, List.getElem_cons_zero, List.setIfInBounds_toArray, List.set_cons_zero, List.set_cons_succ]
          refine wpAnyH_take (i := 13) (v := ?_) rfl (by kernel_rfl) (by kernel_rfl) (by kernel_rfl) (fun _ _ _ h => h) (Or.inl ⟨by kernel_rfl, ?_⟩) (by first | assumption | trivial) ?_
          rotate_left
          · intro w hSw
            try dsimp only at hSw
            first | (go_simp; done) | (go_simp; with_reducible rfl)
          try simp only [Act.put, List.getElem_toArray, List.getElem_cons_succ, List.getElem_cons_zero, List.setIfInBounds_toArray, List.set_cons_zero, List.set_cons_succ]
          refine wpAnyH_take (i := 14) (v := ?_) rfl (by kernel_rfl) (by kernel_rfl) (by kernel_rfl) (fun _ _ _ h => h) (Or.inl ⟨by kernel_rfl, ?_⟩) (by first | assumption | trivial) ?_
          rotate_left
          · intro w hSw
            try dsimp only at hSw
            first | (go_simp; done) | (go_simp; with_reducible rfl)
          try simp only [Act.put, List.getElem_toArray, List.getElem_cons_succ, List.getElem_cons_zero, List.setIfInBounds_toArray, List.set_cons_zero, List.set_cons_succ]
          refine wpAnyH_take (i := 15) (v := ?_) rfl (by kernel_rfl) (by kernel_rfl) (by kernel_rfl) (fun _ _ _ h => h) (Or.inl ⟨by kernel_rfl, ?_⟩) (by first | assumption | trivial) ?_
          rotate_left
          · intro w hSw
            try dsimp only at hSw
            first | (go_simp; done) | (go_simp; with_reducible rfl)
          try simp only [Act.put, List.getElem_toArray, List.getElem_cons_succ, List.getElem_cons_zero, List.setIfInBounds_toArray, List.set_cons_zero, List.set_cons_succ]
          refine wpAnyH_take (i := 16) (v := ?_) rfl (by kernel_rfl) (by kernel_rfl) (by kernel_rfl) (fun _ _ _ h => h) (Or.inl ⟨by kernel_rfl, ?_⟩) (by first | assumption | trivial) ?_
          rotate_left
          · intro w hSw
            try dsimp only at hSw
            first | (go_simp; done) | (go_simp; with_reducible rfl)
          try simp only [Act.put, List.getElem_toArray, List.getElem_cons_succ, List.getElem_cons_zero, List.setIfInBounds_toArray, List.set_cons_zero, List.set_cons_succ]
          refine wpAnyH_take (i := 17) (v := ?_) rfl (by kernel_rfl) (by kernel_rfl) (by kernel_rfl) (fun _ _ _ h => h) (Or.inl ⟨by kernel_rfl, ?_⟩) (by first | assumption | trivial) ?_
          rotate_left
          · intro w hSw
            try dsimp only at hSw
            first | (go_simp; done) | (go_simp; with_reducible rfl)
          try simp only [Act.put, List.getElem_toArray, List.getElem_cons_succ, List.getElem_cons_zero, List.setIfInBounds_toArray, List.set_cons_zero, List.set_cons_succ]
          refine wpAnyH_take (i := 18) (v := ?_) rfl (by kernel_rfl) (by kernel_rfl) (by kernel_rfl) (fun _ _ _ h => h) (Or.inl ⟨by kernel_rfl, ?_⟩) (by first | assumption | trivial) ?_
          rotate_left
          · intro w hSw
            try dsimp only at hSw
            first | (go_simp; done) | (go_simp; with_reducible rfl)
          try simp only [Act.put, List.getElem_toArray, List.getElem_cons_succ, List.getElem_cons_zero, List.setIfInBounds_toArray, List.set_cons_zero, List.set_cons_succ]
          refine wpAnyH_take (i := 19) (v := ?_) rfl (by kernel_rfl) (by kernel_rfl) (by kernel_rfl) (fun _ _ _ h => h) (Or.inl ⟨by kernel_rfl, ?_⟩) (by first | assumption | trivial) ?_
          rotate_left
          · intro w hSw
            try dsimp only at hSw
            first | (go_simp; done) | (go_simp; with_reducible rfl)
          try simp only [Act.put, List.getElem_toArray, List.getElem_cons_succ, List.getElem_cons_zero, List.setIfInBounds_toArray, List.set_cons_zero, List.set_cons_succ]
          refine wpAnyH_take (i := 20) (v := ?_) rfl (by kernel_rfl) (by kernel_rfl) (by kernel_rfl) (fun _ _ _ h => h) (Or.inl ⟨by kernel_rfl, ?_⟩) (by first | assumption | trivial) ?_
          rotate_left
          · intro w hSw
            try dsimp only at hSw
            first | (go_simp; done) | (go_simp; with_reducible rfl)
          try simp only [Act.put, List.getElem_toArray, List.getElem_cons_succ, List.getElem_cons_zero, List.setIfInBounds_toArray, List.set_cons_zero, List.set_cons_succ]
          refine wpAnyH_take (i := 21) (v := undef) rfl (by kernel_rfl) (by kernel_rfl) (by kernel_rfl) (fun _ _ _ h => h) (Or.inr ⟨by kernel_rfl, rfl⟩) (by first | assumption | trivial) ?_
          try simp only [Act.put, List.getElem_toArray, List.getElem_cons_succ, List.getElem_cons_zero, List.setIfInBounds_toArray, List.set_cons_zero, List.set_cons_succ]
          refine wpAnyH_take (i := 22) (v := undef) rfl (by kernel_rfl) (by kernel_rfl) (by kernel_rfl) (fun _ _ _ h => h) (Or.inr ⟨by kernel_rfl, rfl⟩) (by first | assumption | trivial) ?_
          try simp only [Act.put, List.getElem_toArray, List.getElem_cons_succ, List.getElem_cons_zero, List.setIfInBounds_toArray, List.set_cons_zero, List.set_cons_succ]
          refine wpAnyH_take (i := 23) (v := ?_) rfl (by kernel_rfl) (by kernel_rfl) (by kernel_rfl) (fun _ _ _ h => h) (Or.inl ⟨by kernel_rfl, ?_⟩) (by first | assumption | trivial) ?_
          rotate_left
          · intro w hSw
            try dsimp only at hSw
            first | (go_simp; done) | (go_simp; with_reducible rfl)
          try simp only [Act.put, List.getElem_toArray, List.getElem_cons_succ, List.getElem_cons_zero, List.setIfInBounds_toArray, List.set_cons_zero, List.set_cons_succ]
          refine wpAnyH_take (i := 24) (v := ?_) rfl (by kernel_rfl) (by kernel_rfl) (by kernel_rfl) (fun _ _ _ h => h) (Or.inl ⟨by kernel_rfl, ?_⟩) (by first | assumption | trivial) ?_
          rotate_left
          · intro w hSw
            try dsimp only at hSw
            first | (go_simp; done) | (go_simp; with_reducible rfl)
          try simp only [Act.put, List.getElem_toArray, List.getElem_cons_succ, List.getElem_cons_zero, List.setIfInBounds_toArray, List.set_cons_zero, List.set_cons_succ]
          refine wpAnyH_take (i := 25) (v := ?_) rfl (by kernel_rfl) (by kernel_rfl) (by kernel_rfl) (fun _ _ _ h => h) (Or.inl ⟨by kernel_rfl, ?_⟩) (by first | assumption | trivial) ?_
          rotate_left
          · intro w hSw
            try dsimp only at hSw
            first | (go_simp; done) | (go_simp; with_reducible rfl)
          try simp only [Act.put, List.getElem_toArray, List.getElem_cons_succ, List.getElem_cons_zero, List.setIfInBounds_toArray, List.set_cons_zero, List.set_cons_succ]
          refine wpAnyH_take (i := 26) (v := ?_) rfl (by kernel_rfl) (by kernel_rfl) (by kernel_rfl) (fun _ _ _ h => h) (Or.inl ⟨by kernel_rfl, ?_⟩) (by first | assumption | trivial) ?_
          rotate_left
          · intro w hSw
            try dsimp only at hSw
            first | (go_simp; done) | (go_simp; with_reducible rfl)
          try simp only [Act.put, List.getElem_toArray, List.getElem_cons_succ, List.getElem_cons_zero, List.setIfInBounds_toArray, List.set_cons_zero, List.set_cons_succ]
          refine wpAnyH_take (i := 28) (v := ?_) rfl (by kernel_rfl) (by kernel_rfl) (by kernel_rfl) (fun _ _ _ h => h) (Or.inl ⟨by kernel_rfl, ?_⟩) (by first | assumption | trivial) ?_
          rotate_left
          · intro w hSw
            try dsimp only at hSw
            first | (go_simp; done) | (go_simp; with_reducible rfl)
          try simp only [Act.put, List.getElem_toArray, List.getElem_cons_succ, List.getElem_cons_zero, List.setIfInBounds_toArray, List.set_cons_zero, List.set_cons_succ]
          refine wpAnyH_take (i := 29) (v := ?_) rfl (by kernel_rfl) (by kernel_rfl) (by kernel_rfl) (fun _ _ _ h => h) (Or.inl ⟨by kernel_rfl, ?_⟩) (by first | assumption | trivial) ?_
          rotate_left
          · intro w hSw
            try dsimp only at hSw
            first | (go_simp; done) | (go_simp; with_reducible rfl)
          try simp only [Act.put, List.getElem_toArray, List.getElem_cons_succ, List.getElem_cons_zero, List.setIfInBounds_toArray, List.set_cons_zero, List.set_cons_succ]
          refine wpAnyH_ready (rs := [27]) (by kernel_rfl) (by simp) ?_
          refine AllReadyH.cons rfl (fun K hK => ?_) AllReadyH.nil
          go_simp
          go_at_call 18
          refine (HNO.out).mono ?_
          rintro y9 w9 ⟨rfl, hw9⟩
          replace hw9 := hw9.symm
          subst hw9
          try go_wp2_with fail
          refine hK.out _ _ HSD.out (fun hS => ?_)
          clear hK K
          try simp only [Act.put, List.getElem_toArray, List.getElem_cons_succ, List.getElem_cons_zero, List.setIfInBounds_toArray, List.set_cons_zero, List.set_cons_succ]
          refine wpAnyH_take (i := 30) (v := ?_) rfl (by kernel_rfl) (by kernel_rfl) (by kernel_rfl) (fun _ _ _ h => h) (Or.inl ⟨by kernel_rfl, ?_⟩) (by first | assumption | trivial) ?_
          rotate_left
          · intro w hSw
            try dsimp only at hSw
            first | (go_simp; done) | (go_simp; with_reducible rfl)
          try simp only [Act.put, List.getElem_toArray, List.getElem_cons_succ, List.getElem_cons_zero, List.setIfInBounds_toArray, List.set_cons_zero, List.set_cons_succ]
          refine wpAnyH_take (i := 31) (v := ?_) rfl (by kernel_rfl) (by kernel_rfl) (by kernel_rfl) (fun _ _ _ h => h) (Or.inl ⟨by kernel_rfl, ?_⟩) (by first | assumption | trivial) ?_
          rotate_left
          · intro w hSw
            try dsimp only at hSw
            first | (go_simp; done) | (go_simp; with_reducible rfl)
          try simp only [Act.put, List.getElem_toArray, List.getElem_cons_succ, List.getElem_cons_zero, List.setIfInBounds_toArray, List.set_cons_zero, List.set_cons_succ]
          refine wpAnyH_take (i := 32) (v := ?_) rfl (by kernel_rfl) (by kernel_rfl) (by kernel_rfl) (fun _ _ _ h => h) (Or.inl ⟨by kernel_rfl, ?_⟩) (by first | assumption | trivial) ?_
          rotate_left
          · intro w hSw
            try dsimp only at hSw
            first | (go_simp; done) | (go_simp; with_reducible rfl)
          try simp only [Act.put, List.getElem_toArray, List.getElem_cons_succ, List.getElem_cons_zero, List.setIfInBounds_toArray, List.set_cons_zero, List.set_cons_succ]
          refine wpAnyH_take (i := 33) (v := ?_) rfl (by kernel_rfl) (by kernel_rfl) (by kernel_rfl) (fun _ _ _ h => h) (Or.inl ⟨by kernel_rfl, ?_⟩) (by first | assumption | trivial) ?_
          rotate_left
          · intro w hSw
            try dsimp only at hSw
            first | (go_simp; done) | (go_simp; with_reducible rfl)
          try simp only [Act.put, List.getElem_toArray, List.getElem_cons_succ, List.getElem_cons_zero, List.setIfInBounds_toArray, List.set_cons_zero, List.set_cons_succ]
          refine wpAnyH_take (i := 35) (v := ?_) rfl (by kernel_rfl) (by kernel_rfl) (by kernel_rfl) (fun _ _ _ h => h) (Or.inl ⟨by kernel_rfl, ?_⟩) (by first | assumption | trivial) ?_
          rotate_left
          · intro w hSw
            try dsimp only at hSw
            first | (go_simp; done) | (go_simp; with_reducible rfl)
          try simp only [Act.put, List.getElem_toArray, List.getElem_cons_succ, List.getElem_cons_zero, List.setIfInBounds_toArray, List.set_cons_zero, List.set_cons_succ]
          refine wpAnyH_take (i := 36) (v := ?_) rfl (by kernel_rfl) (by kernel_rfl) (by kernel_rfl) (fun _ _ _ h => h) (Or.inl ⟨by kernel_rfl, ?_⟩) (by first | assumption | trivial) ?_
          rotate_left
          · intro w hSw
            try dsimp only at hSw
            first | (go_simp; done) | (go_simp; with_reducible rfl)
          try simp only [Act.put, List.getElem_toArray, List.getElem_cons_succ, List.getElem_cons_zero, List.setIfInBounds_toArray, List.set_cons_zero, List.set_cons_succ]
          refine wpAnyH_take (i := 37) (v := ?_) rfl (by kernel_rfl) (by kernel_rfl) (by kernel_rfl) (fun _ _ _ h => h) (Or.inl ⟨by kernel_rfl, ?_⟩) (by first | assumption | trivial) ?_
          rotate_left
          · intro w hSw
            try dsimp only at hSw
            first | (go_simp; done) | (go_simp; with_reducible rfl)
          try simp only [Act.put, List.getElem_toArray, List.getElem_cons_succ, List.getElem_cons_zero, List.setIfInBounds_toArray, List.set_cons_zero, List.set_cons_succ]
          refine wpAnyH_ready (rs := [34]) (by kernel_rfl) (by simp) ?_
          refine AllReadyH.cons rfl (fun K hK => ?_) AllReadyH.nil
          go_simp
          go_at_call 19
          refine (HLE.out).mono ?_
          rintro y9 w9 ⟨rfl, hw9⟩
          replace hw9 := hw9.symm
          subst hw9
          try go_wp2_with fail
          refine hK.out _ _ HSD.out (fun hS => ?_)
          clear hK K
          try simp only [Act.put, List.getElem_toArray, List.getElem_cons_succ, List.getElem_cons_zero, List.setIfInBounds_toArray, List.set_cons_zero, List.set_cons_succ]
          refine wpAnyH_take (i := 38) (v := ?_) rfl (by kernel_rfl) (by kernel_rfl) (by kernel_rfl) (fun _ _ _ h => h) (Or.inl ⟨by kernel_rfl, ?_⟩) (by first | assumption | trivial) ?_
          rotate_left
          · intro w hSw
            try dsimp only at hSw
            first | (go_simp; done) | (go_simp; with_reducible rfl)
          try simp only [Act.put, List.getElem_toArray, List.getElem_cons_succ, List.getElem_cons_zero, List.setIfInBounds_toArray, List.set_cons_zero, List.set_cons_succ]
          refine wpAnyH_take (i := 39) (v := ?_) rfl (by kernel_rfl) (by kernel_rfl) (by kernel_rfl) (fun _ _ _ h => h) (Or.inl ⟨by kernel_rfl, ?_⟩) (by first | assumption | trivial) ?_
          rotate_left
          · intro w hSw
            try dsimp only at hSw
            first | (go_simp; done) | (go_simp; with_reducible rfl)
          try simp only [Act.put, List.getElem_toArray, List.getElem_cons_succ, List.getElem_cons_zero, List.setIfInBounds_toArray, List.set_cons_zero, List.set_cons_succ]
          refine wpAnyH_done (by kernel_rfl) ?_ _
          clear hS0
          have HX : Hid (∃ (L : List Nat) (now : Int) (kk : Nat) (ds : List Du) (v : Value), PW w wd L gc gd now kk ds now v ds ∧ kk ≤ (k + 1)) := Lib.hid ⟨L, now, kk, ds, _, HPD.out, HKK.out⟩
          clear HPD HSD HNO HLE
          go_wp2_with fail
          go_roundw
          case rel => exact ⟨k + 1, by omega, by go_num, HX⟩
          case measure => simp [intOf]; omega
    · have hle : ¬ (k : Int) < (m : Int) := by omega
      obtain ⟨L, now, kk, ds, v, hp, hkk⟩ := HJ.out
      have HBB := Lib.hid hp.lc.below
      clear hp hkk HJ
      go_wp2_with fail
      go_ret
      exact ⟨rfl, HBB.out⟩
end Go.Proofs.Ytpmiekheiddihaa
