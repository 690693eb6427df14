/- contraref11.From by contract. -/
import Derived.Test.YtbimbpmdiahhbaaFromTail
namespace Go.Proofs.Ytbimbpmdiahhbaa
open Go.RowKit
set_option linter.unusedSimpArgs false
set_option linter.unusedSimpArgs false in
set_option maxHeartbeats 4000000 in
set_option maxRecDepth 100000 in
theorem reffrom_any (w : World) (s : ByteArray) (a : Nat) (r : RS) (h : TieR s a r) : Calls Try.prog 12 #[rdV s a r.e] w (FromD w s r) := by
  have HT := Lib.hid h
  clear h
  unfold rdV
  have HB0 : Hid (Below w.heap.size w (((w.alloc (.cells #[.string s, .int .i64 a, .int .i64 r.e] 44)).alloc (.cells #[.string ⟨#[]⟩, .int .i64 0, .int .i64 0] 44)).alloc (.cells #[.int .i64 0, .int .i64 0, .int .i64 0, .int .i64 0, .int .i64 0, .int .i64 0, .int .i64 0, .int .i64 0, .bool false, .slice none 0 0, .slice none 0 0] 29))) := Lib.hid ((((oneB w _).alloc (by simp <;> omega) _).alloc (by simp <;> omega) _))
  have Hr0 : Hid (Blk (((w.alloc (.cells #[.string s, .int .i64 a, .int .i64 r.e] 44)).alloc (.cells #[.string ⟨#[]⟩, .int .i64 0, .int .i64 0] 44)).alloc (.cells #[.int .i64 0, .int .i64 0, .int .i64 0, .int .i64 0, .int .i64 0, .int .i64 0, .int .i64 0, .int .i64 0, .bool false, .slice none 0 0, .slice none 0 0] 29)) w.heap.size #[.string s, .int .i64 a, .int .i64 r.e] 44) := Lib.hid (((Blk.new w #[.string s, .int .i64 a, .int .i64 r.e] 44).alloc _).alloc _)
  have Hq0 : Hid (Blk (((w.alloc (.cells #[.string s, .int .i64 a, .int .i64 r.e] 44)).alloc (.cells #[.string ⟨#[]⟩, .int .i64 0, .int .i64 0] 44)).alloc (.cells #[.int .i64 0, .int .i64 0, .int .i64 0, .int .i64 0, .int .i64 0, .int .i64 0, .int .i64 0, .int .i64 0, .bool false, .slice none 0 0, .slice none 0 0] 29)) (w.heap.size + 1) #[.string ⟨#[]⟩, .int .i64 0, .int .i64 0] 44) := Lib.hid ((Blk.new' (w.alloc (.cells #[.string s, .int .i64 a, .int .i64 r.e] 44)) #[.string ⟨#[]⟩, .int .i64 0, .int .i64 0] 44 (by simp)).alloc _)
  have Hm0 : Hid (Blk (((w.alloc (.cells #[.string s, .int .i64 a, .int .i64 r.e] 44)).alloc (.cells #[.string ⟨#[]⟩, .int .i64 0, .int .i64 0] 44)).alloc (.cells #[.int .i64 0, .int .i64 0, .int .i64 0, .int .i64 0, .int .i64 0, .int .i64 0, .int .i64 0, .int .i64 0, .bool false, .slice none 0 0, .slice none 0 0] 29)) (w.heap.size + 1 + 1) #[.int .i64 0, .int .i64 0, .int .i64 0, .int .i64 0, .int .i64 0, .int .i64 0, .int .i64 0, .int .i64 0, .bool false, .slice none 0 0, .slice none 0 0] 29) := Lib.hid (Blk.new' ((w.alloc (.cells #[.string s, .int .i64 a, .int .i64 r.e] 44)).alloc (.cells #[.string ⟨#[]⟩, .int .i64 0, .int .i64 0] 44)) #[.int .i64 0, .int .i64 0, .int .i64 0, .int .i64 0, .int .i64 0, .int .i64 0, .int .i64 0, .int .i64 0, .bool false, .slice none 0 0, .slice none 0 0] 29 (by simp))
  have HZ0 : Hid (w.heap.size ≤ (((w.alloc (.cells #[.string s, .int .i64 a, .int .i64 r.e] 44)).alloc (.cells #[.string ⟨#[]⟩, .int .i64 0, .int .i64 0] 44)).alloc (.cells #[.int .i64 0, .int .i64 0, .int .i64 0, .int .i64 0, .int .i64 0, .int .i64 0, .int .i64 0, .int .i64 0, .bool false, .slice none 0 0, .slice none 0 0] 29)).heap.size) := Lib.hid HB0.out.size
  go_enter Try.func12, Try.ntmps12
  go_upto_region 1 with fail
  generalize (((w.alloc (.cells #[.string s, .int .i64 a, .int .i64 r.e] 44)).alloc (.cells #[.string ⟨#[]⟩, .int .i64 0, .int .i64 0] 44)).alloc (.cells #[.int .i64 0, .int .i64 0, .int .i64 0, .int .i64 0, .int .i64 0, .int .i64 0, .int .i64 0, .int .i64 0, .bool false, .slice none 0 0, .slice none 0 0] 29)) = W at *
  have HGL : Hid (w.heap.size + 1 + 1 < W.heap.size) := Lib.hid Hm0.out.lt
  have HWG : Hid (w.heap.size + 1 + 1 < W.heap.size) := HGL
  have hba := oneB W (.cells #[.int .i64 0, .int .i64 0, .int .i64 0, .int .i64 0, .int .i64 0, .int .i64 0, .int .i64 0] 3)
  have Hr1 := Lib.hid (Hr0.out.below hba Hr0.out.lt)
  have Hq1 := Lib.hid (Hq0.out.below hba Hq0.out.lt)
  have Hm1 := Lib.hid (Hm0.out.below hba Hm0.out.lt)
  have Hl1 := Lib.hid (Blk.new W #[.int .i64 0, .int .i64 0, .int .i64 0, .int .i64 0, .int .i64 0, .int .i64 0, .int .i64 0] 3)
  have HB1 := Lib.hid (HB0.out.alloc HB0.out.size (.cells #[.int .i64 0, .int .i64 0, .int .i64 0, .int .i64 0, .int .i64 0, .int .i64 0, .int .i64 0] 3))
  have HZ1 : Hid (w.heap.size ≤ (W.alloc (.cells #[.int .i64 0, .int .i64 0, .int .i64 0, .int .i64 0, .int .i64 0, .int .i64 0, .int .i64 0] 3)).heap.size) := Lib.hid (Nat.le_trans HZ0.out hba.size)
  have HGgl : Hid (w.heap.size ≤ W.heap.size) := Lib.hid HB0.out.size
  clear hba Hr0 Hq0 Hm0 HB0 HZ0
  go_upto_region 3 with fail
  generalize (W.alloc (.cells #[.int .i64 0, .int .i64 0, .int .i64 0, .int .i64 0, .int .i64 0, .int .i64 0, .int .i64 0] 3)) = W1 at *
  generalize hggl : W.heap.size = gl at *
  clear hggl
  clear HGgl
  have HREL : Hid (Blk W1 w.heap.size #[.string s, .int .i64 a, .int .i64 (dk r 0).e] 44 ∧ Blk W1 (w.heap.size + 1) #[.string ⟨#[]⟩, .int .i64 0, .int .i64 0] 44 ∧ Blk W1 (w.heap.size + 1 + 1) #[.int .i64 0, .int .i64 0, .int .i64 0, .int .i64 0, .int .i64 0, .int .i64 0, .int .i64 0, .int .i64 0, .bool false, .slice none 0 0, .slice none 0 0] 29 ∧ Blk W1 gl (csD r 0) 3 ∧ Below w.heap.size w W1) := ⟨Hr1.out, Hq1.out, Hm1.out, Hl1.out, HB1.out⟩
  have HT0 : Hid (TieR s a (dk r 0)) := HT
  clear HT Hr1 Hq1 Hm1 Hl1 HB1 HZ1
  go_loopw [5] (fun i wr => ∃ (k a : Nat), k ≤ 7 ∧ i = .int .i64 k ∧ Hid (TieR s a (dk r k)) ∧ Hid (Blk wr w.heap.size #[.string s, .int .i64 a, .int .i64 (dk r k).e] 44 ∧ Blk wr (w.heap.size + 1) #[.string ⟨#[]⟩, .int .i64 0, .int .i64 0] 44 ∧ Blk wr (w.heap.size + 1 + 1) #[.int .i64 0, .int .i64 0, .int .i64 0, .int .i64 0, .int .i64 0, .int .i64 0, .int .i64 0, .int .i64 0, .bool false, .slice none 0 0, .slice none 0 0] 29 ∧ Blk wr gl (csD r k) 3 ∧ Below w.heap.size w wr)) (fun i _ => 7 - (intOf i).toNat)
  case atStart => exact ⟨0, a, by omega, rfl, HT0, HREL⟩
  case round =>
    clear HREL HT0
    obtain ⟨k, a, hk, rfl, HT, HK⟩ := hrel
    have Hr2 := Lib.hid HK.out.1
    have Hq2 := Lib.hid HK.out.2.1
    have Hm2 := Lib.hid HK.out.2.2.1
    have Hl2 := Lib.hid HK.out.2.2.2.1
    have HB2 := Lib.hid HK.out.2.2.2.2
    have HZ2 : Hid (w.heap.size ≤ wr.heap.size) := Lib.hid HB2.out.size
    clear HK
    have hk9 : k + 1 ≤ 8 := by omega
    by_cases hlt : k < 7
    · skip
      have hltI : (k : Int) < 7 := by omega
      obtain ⟨e1, he1⟩ : ∃ z, (dk r k).e = z := ⟨_, rfl⟩
      have HG := Lib.hid (int_tie s a (dk r k) 0 1073741824 wr HT.out)
      obtain ⟨e2, he2⟩ : ∃ z, ((dk r k).int 0 1073741824).e = z := ⟨_, rfl⟩
      obtain ⟨v, hv⟩ : ∃ z, (dk r k).intV 0 1073741824 = z := ⟨_, rfl⟩
      unfold rdV at HG
      rw [he2, hv, he1] at HG
      rw [he1] at Hr2
      have HE : Hid ((dk r k).nx.e = e2 ∧ (dk r k).nV = v) := Lib.hid ⟨he2, hv⟩
      clear he1 he2 hv
      have x0 : wr.cell? ⟨w.heap.size, 0, none⟩ = some (.string s) := Hr2.out.cell 0
      have x1 : wr.cell? ⟨w.heap.size, 1, none⟩ = some (.int .i64 a) := Hr2.out.cell 1
      have x2 : wr.cell? ⟨w.heap.size, 2, none⟩ = some (.int .i64 e1) := Hr2.out.cell 2
      go_wp2_with fail
      clear x0 x1 x2
      refine HG.out.mono ?_
      rintro y9 w2 ⟨a2, rfl, ht, hb⟩
      clear HG
      have HT2 : Hid (TieR s a2 (dk r k).nx) := Lib.hid ht
      clear ht HT
      have Hr3 := Lib.hid (Hr2.out.below hb Hr2.out.lt)
      have Hq3 := Lib.hid (Hq2.out.below hb Hq2.out.lt)
      have Hm3 := Lib.hid (Hm2.out.below hb Hm2.out.lt)
      have Hl3 := Lib.hid (Hl2.out.below hb Hl2.out.lt)
      have HB3 := Lib.hid (HB2.out.trans (hb.mono HB2.out.size))
      have HZ3 : Hid (w.heap.size ≤ w2.heap.size) := Lib.hid (Nat.le_trans HZ2.out hb.size)
      clear Hr2 Hq2 Hm2 Hl2 HB2 HZ2
      clear hb
      have HGX : Hid (gl < w2.heap.size) := Lib.hid Hl3.out.lt
      have hba := oneB w2 (.cells #[.string s, .int .i64 a2, .int .i64 e2] 44)
      have Hr4 := Lib.hid (Hr3.out.below hba Hr3.out.lt)
      have Hq4 := Lib.hid (Hq3.out.below hba Hq3.out.lt)
      have Hm4 := Lib.hid (Hm3.out.below hba Hm3.out.lt)
      have Hl4 := Lib.hid (Hl3.out.below hba Hl3.out.lt)
      have Hx4 := Lib.hid (Blk.new w2 #[.string s, .int .i64 a2, .int .i64 e2] 44)
      have HB4 := Lib.hid (HB3.out.alloc HB3.out.size (.cells #[.string s, .int .i64 a2, .int .i64 e2] 44))
      have HZ4 : Hid (w.heap.size ≤ (w2.alloc (.cells #[.string s, .int .i64 a2, .int .i64 e2] 44)).heap.size) := Lib.hid (Nat.le_trans HZ3.out hba.size)
      have HGgx : Hid (w.heap.size ≤ w2.heap.size) := Lib.hid HB3.out.size
      clear hba Hr3 Hq3 Hm3 Hl3 HB3 HZ3
      go_upto_region 6 with fail
      generalize (w2.alloc (.cells #[.string s, .int .i64 a2, .int .i64 e2] 44)) = W2 at *
      generalize hggx : w2.heap.size = gx at *
      clear hggx
      clear HGgx
      have x0 : W2.cell? ⟨gx, 0, none⟩ = some (.string s) := Hx4.out.cell 0
      have x1 : W2.cell? ⟨gx, 1, none⟩ = some (.int .i64 a2) := Hx4.out.cell 1
      have x2 : W2.cell? ⟨gx, 2, none⟩ = some (.int .i64 e2) := Hx4.out.cell 2
      go_wp2_with (with_reducible refine stop_storeT 44 (.tmp 1) (.tmp 35) rfl ?_)
      clear x0 x1 x2
      have HTH : Hid (W2.there w.heap.size 0 3) := Hr4.out.thereAt
      have hch : Hid (Chg w.heap.size W2 (W2.setCells w.heap.size 0 (#[.string s, .int .i64 a2, .int .i64 e2] : Array Value).toList)) := Lib.hid (chg_putL _ _ _ _ _ (Chg.refl _ W2))
      have Hr5 : Hid (Blk (W2.setCells w.heap.size 0 (#[.string s, .int .i64 a2, .int .i64 e2] : Array Value).toList) w.heap.size #[.string s, .int .i64 a2, .int .i64 e2] 44) := Lib.hid (blk_put_all Hr4.out _ rfl)
      have HB5 : Hid (Below w.heap.size w (W2.setCells w.heap.size 0 (#[.string s, .int .i64 a2, .int .i64 e2] : Array Value).toList)) := Lib.hid (below_put (by have h9 := HGL.out; have h8 := HGX.out; omega) _ _ _ _ HB4.out)
      have HZ5 : Hid (w.heap.size ≤ (W2.setCells w.heap.size 0 (#[.string s, .int .i64 a2, .int .i64 e2] : Array Value).toList).heap.size) := Lib.hid (Nat.le_trans HZ4.out hch.out.size)
      have Hq5 := Lib.hid (Hq4.out.chg hch.out (by have h9 := HGL.out; have h8 := HGX.out; omega))
      have Hm5 := Lib.hid (Hm4.out.chg hch.out (by have h9 := HGL.out; have h8 := HGX.out; omega))
      have Hl5 := Lib.hid (Hl4.out.chg hch.out (by have h9 := HGL.out; have h8 := HGX.out; omega))
      have Hx5 := Lib.hid (Hx4.out.chg hch.out (by have h9 := HGL.out; have h8 := HGX.out; omega))
      clear hch Hr4 Hq4 Hm4 Hl4 Hx4 HB4 HZ4
      refine wpList_store_mid rfl 44 (.tmp 1) (.tmp 35) rfl w.heap.size 0 #[.string s, .int .i64 a2, .int .i64 e2] rfl rfl HTH.out (infoRd rfl) (all_oneCell_toArray (by intro u hu; simp at hu; rcases hu with rfl | rfl | rfl <;> rfl)) ?_
      generalize (W2.setCells w.heap.size 0 (#[.string s, .int .i64 a2, .int .i64 e2] : Array Value).toList) = W3 at *
      clear HTH
      clear Hx5
      have ck : W3.cell? ⟨gl, k, none⟩ = some (.int .i64 0) := (Hl5.out.cell k).trans (csD_at hlt)
      have fk := Hl5.out.free k
      go_upto_region 8 with fail
      clear ck fk
      have hch : Hid (Chg gl W3 (W3.setCell ⟨gl, k, none⟩ (.int .i64 v))) := Lib.hid ((Chg.refl gl W3).set k (.int .i64 v))
      have Hl6 : Hid (Blk (W3.setCell ⟨gl, k, none⟩ (.int .i64 v)) gl (csD r (k + 1)) 3) := by
        have h1 := Hl5.out.set k (.int .i64 v)
        rw [← HE.out.2, csD_set hlt, HE.out.2] at h1
        exact Lib.hid h1
      have HB6 : Hid (Below w.heap.size w (W3.setCell ⟨gl, k, none⟩ (.int .i64 v))) := Lib.hid (HB5.out.setCell (p := ⟨gl, k, none⟩) (by show w.heap.size ≤ gl; have h9 := HGL.out; omega) (.int .i64 v))
      have HZ6 : Hid (w.heap.size ≤ (W3.setCell ⟨gl, k, none⟩ (.int .i64 v)).heap.size) := Lib.hid (Nat.le_trans HZ5.out hch.out.size)
      have Hr6 := Lib.hid (Hr5.out.chg hch.out (by have h9 := HGL.out; have h8 := HGX.out; omega))
      have Hq6 := Lib.hid (Hq5.out.chg hch.out (by have h9 := HGL.out; have h8 := HGX.out; omega))
      have Hm6 := Lib.hid (Hm5.out.chg hch.out (by have h9 := HGL.out; have h8 := HGX.out; omega))
      clear hch Hr5 Hq5 Hm5 Hl5 HB5 HZ5
      generalize (W3.setCell ⟨gl, k, none⟩ (.int .i64 v)) = W4 at *
      have x2 : W4.cell? ⟨w.heap.size, 2, none⟩ = some (.int .i64 e2) := Hr6.out.cell 2
      by_cases hk0 : k = 0
      · skip
        have HK0 := Lib.hid hk0
        have hkb : ((k : Int) == 0) = true := by simp [hk0]
        clear hk0
        by_cases he : e2 = 0
        · skip
          have heb : (e2 == 0) = true := by simpa using he
          by_cases hv : 1 ≤ v ∧ v ≤ 16
          · skip
            have HBK : Hid (badK r = false) := by
              show _ = _
              have h1 := HE.out
              rw [HK0.out] at h1
              have e1 : r.nx.e = e2 := h1.1
              have e3 : r.nV = v := h1.2
              exact badK_not (by rw [e1, e3]; exact .inr hv)
            have h1v : ¬ v < 1 := by omega
            have h16 : ¬ 16 < v := by omega
            clear hv he
            have HDK : Hid ((dk r (k + 1)).e = e2) := by show _ = _; rw [HK0.out]; show (dst r).e = _; have h1 := HE.out; rw [HK0.out] at h1; unfold dst; rw [HBK.out, if_neg (by simp)]; exact h1.1
            have HTN : Hid (TieR s a2 (dk r (k + 1))) := by show TieR _ _ _; rw [HK0.out]; show TieR s a2 (dst r); have h1 := HT2.out; rw [HK0.out] at h1; exact tie_dst h1
            have HNX : Hid (Blk W4 w.heap.size #[.string s, .int .i64 a2, .int .i64 (dk r (k + 1)).e] 44 ∧ Blk W4 (w.heap.size + 1) #[.string ⟨#[]⟩, .int .i64 0, .int .i64 0] 44 ∧ Blk W4 (w.heap.size + 1 + 1) #[.int .i64 0, .int .i64 0, .int .i64 0, .int .i64 0, .int .i64 0, .int .i64 0, .int .i64 0, .int .i64 0, .bool false, .slice none 0 0, .slice none 0 0] 29 ∧ Blk W4 gl (csD r (k + 1)) 3 ∧ Below w.heap.size w W4) := by
              have h1 := HDK.out
              refine Lib.hid ⟨?_, Hq6.out, Hm6.out, Hl6.out, HB6.out⟩
              rw [h1]
              exact Hr6.out
            clear HBK HK0
            clear HDK HE HT2 Hr6 Hq6 Hm6 Hl6 HB6 HZ6
            go_wp2_with fail
            go_roundw
            case rel => exact ⟨k + 1, a2, by omega, by go_num, HTN, HNX⟩
            case measure => simp [intOf]; omega
          · skip
            have HBK : Hid (badK r = true) := by
              show _ = _
              have h1 := HE.out
              rw [HK0.out] at h1
              have e1 : r.nx.e = e2 := h1.1
              have e3 : r.nV = v := h1.2
              exact badK_of (e1.trans he) (by rw [e3]; exact hv)
            have hvd : v < 1 ∨ 16 < v := by omega
            clear hv he
            rcases hvd with h1v | h16
            · skip
              have f2 := Hr6.out.free 2
              go_upto_region 4 with fail
              clear x2 f2
              have hch : Hid (Chg w.heap.size W4 (W4.setCell ⟨w.heap.size, 2, none⟩ (.int .i64 110))) := Lib.hid ((Chg.refl w.heap.size W4).set 2 (.int .i64 110))
              have Hr7 : Hid (Blk (W4.setCell ⟨w.heap.size, 2, none⟩ (.int .i64 110)) w.heap.size #[.string s, .int .i64 a2, .int .i64 110] 44) := Lib.hid (Hr6.out.set 2 (.int .i64 110))
              have HB7 : Hid (Below w.heap.size w (W4.setCell ⟨w.heap.size, 2, none⟩ (.int .i64 110))) := Lib.hid (HB6.out.setCell (p := ⟨w.heap.size, 2, none⟩) (by show w.heap.size ≤ w.heap.size; omega) (.int .i64 110))
              have HZ7 : Hid (w.heap.size ≤ (W4.setCell ⟨w.heap.size, 2, none⟩ (.int .i64 110)).heap.size) := Lib.hid (Nat.le_trans HZ6.out hch.out.size)
              have Hq7 := Lib.hid (Hq6.out.chg hch.out (by have h9 := HGL.out; have h8 := HGX.out; omega))
              have Hm7 := Lib.hid (Hm6.out.chg hch.out (by have h9 := HGL.out; have h8 := HGX.out; omega))
              have Hl7 := Lib.hid (Hl6.out.chg hch.out (by have h9 := HGL.out; have h8 := HGX.out; omega))
              clear hch Hr6 Hq6 Hm6 Hl6 HB6 HZ6
              generalize (W4.setCell ⟨w.heap.size, 2, none⟩ (.int .i64 110)) = W5 at *
              have HDK : Hid ((dk r (k + 1)).e = 110) := by show _ = _; rw [HK0.out]; show (dst r).e = _; unfold dst; rw [HBK.out, if_pos rfl]
              have HTN : Hid (TieR s a2 (dk r (k + 1))) := by show TieR _ _ _; rw [HK0.out]; show TieR s a2 (dst r); have h1 := HT2.out; rw [HK0.out] at h1; exact tie_dst h1
              have HNX : Hid (Blk W5 w.heap.size #[.string s, .int .i64 a2, .int .i64 (dk r (k + 1)).e] 44 ∧ Blk W5 (w.heap.size + 1) #[.string ⟨#[]⟩, .int .i64 0, .int .i64 0] 44 ∧ Blk W5 (w.heap.size + 1 + 1) #[.int .i64 0, .int .i64 0, .int .i64 0, .int .i64 0, .int .i64 0, .int .i64 0, .int .i64 0, .int .i64 0, .bool false, .slice none 0 0, .slice none 0 0] 29 ∧ Blk W5 gl (csD r (k + 1)) 3 ∧ Below w.heap.size w W5) := by
                have h1 := HDK.out
                refine Lib.hid ⟨?_, Hq7.out, Hm7.out, Hl7.out, HB7.out⟩
                rw [h1]
                exact Hr7.out
              clear HDK HE HT2 Hr7 Hq7 Hm7 Hl7 HB7 HZ7
              go_wp2_with fail
              go_roundw
              case rel => exact ⟨k + 1, a2, by omega, by go_num, HTN, HNX⟩
              case measure => simp [intOf]; omega
            · skip
              have h1v : ¬ v < 1 := by omega
              have f2 := Hr6.out.free 2
              go_upto_region 4 with fail
              clear x2 f2
              have hch : Hid (Chg w.heap.size W4 (W4.setCell ⟨w.heap.size, 2, none⟩ (.int .i64 110))) := Lib.hid ((Chg.refl w.heap.size W4).set 2 (.int .i64 110))
              have Hr7 : Hid (Blk (W4.setCell ⟨w.heap.size, 2, none⟩ (.int .i64 110)) w.heap.size #[.string s, .int .i64 a2, .int .i64 110] 44) := Lib.hid (Hr6.out.set 2 (.int .i64 110))
              have HB7 : Hid (Below w.heap.size w (W4.setCell ⟨w.heap.size, 2, none⟩ (.int .i64 110))) := Lib.hid (HB6.out.setCell (p := ⟨w.heap.size, 2, none⟩) (by show w.heap.size ≤ w.heap.size; omega) (.int .i64 110))
              have HZ7 : Hid (w.heap.size ≤ (W4.setCell ⟨w.heap.size, 2, none⟩ (.int .i64 110)).heap.size) := Lib.hid (Nat.le_trans HZ6.out hch.out.size)
              have Hq7 := Lib.hid (Hq6.out.chg hch.out (by have h9 := HGL.out; have h8 := HGX.out; omega))
              have Hm7 := Lib.hid (Hm6.out.chg hch.out (by have h9 := HGL.out; have h8 := HGX.out; omega))
              have Hl7 := Lib.hid (Hl6.out.chg hch.out (by have h9 := HGL.out; have h8 := HGX.out; omega))
              clear hch Hr6 Hq6 Hm6 Hl6 HB6 HZ6
              generalize (W4.setCell ⟨w.heap.size, 2, none⟩ (.int .i64 110)) = W5 at *
              have HDK : Hid ((dk r (k + 1)).e = 110) := by show _ = _; rw [HK0.out]; show (dst r).e = _; unfold dst; rw [HBK.out, if_pos rfl]
              have HTN : Hid (TieR s a2 (dk r (k + 1))) := by show TieR _ _ _; rw [HK0.out]; show TieR s a2 (dst r); have h1 := HT2.out; rw [HK0.out] at h1; exact tie_dst h1
              have HNX : Hid (Blk W5 w.heap.size #[.string s, .int .i64 a2, .int .i64 (dk r (k + 1)).e] 44 ∧ Blk W5 (w.heap.size + 1) #[.string ⟨#[]⟩, .int .i64 0, .int .i64 0] 44 ∧ Blk W5 (w.heap.size + 1 + 1) #[.int .i64 0, .int .i64 0, .int .i64 0, .int .i64 0, .int .i64 0, .int .i64 0, .int .i64 0, .int .i64 0, .bool false, .slice none 0 0, .slice none 0 0] 29 ∧ Blk W5 gl (csD r (k + 1)) 3 ∧ Below w.heap.size w W5) := by
                have h1 := HDK.out
                refine Lib.hid ⟨?_, Hq7.out, Hm7.out, Hl7.out, HB7.out⟩
                rw [h1]
                exact Hr7.out
              clear HDK HE HT2 Hr7 Hq7 Hm7 Hl7 HB7 HZ7
              go_wp2_with fail
              go_roundw
              case rel => exact ⟨k + 1, a2, by omega, by go_num, HTN, HNX⟩
              case measure => simp [intOf]; omega
        · skip
          have heb : (e2 == 0) = false := by simpa using he
          have HBK : Hid (badK r = false) := by
            show _ = _
            have h1 := HE.out
            rw [HK0.out] at h1
            have e1 : r.nx.e = e2 := h1.1
            have e3 : r.nV = v := h1.2
            exact badK_not (by rw [e1, e3]; exact .inl he)
          clear he
          have HDK : Hid ((dk r (k + 1)).e = e2) := by show _ = _; rw [HK0.out]; show (dst r).e = _; have h1 := HE.out; rw [HK0.out] at h1; unfold dst; rw [HBK.out, if_neg (by simp)]; exact h1.1
          have HTN : Hid (TieR s a2 (dk r (k + 1))) := by show TieR _ _ _; rw [HK0.out]; show TieR s a2 (dst r); have h1 := HT2.out; rw [HK0.out] at h1; exact tie_dst h1
          have HNX : Hid (Blk W4 w.heap.size #[.string s, .int .i64 a2, .int .i64 (dk r (k + 1)).e] 44 ∧ Blk W4 (w.heap.size + 1) #[.string ⟨#[]⟩, .int .i64 0, .int .i64 0] 44 ∧ Blk W4 (w.heap.size + 1 + 1) #[.int .i64 0, .int .i64 0, .int .i64 0, .int .i64 0, .int .i64 0, .int .i64 0, .int .i64 0, .int .i64 0, .bool false, .slice none 0 0, .slice none 0 0] 29 ∧ Blk W4 gl (csD r (k + 1)) 3 ∧ Below w.heap.size w W4) := by
            have h1 := HDK.out
            refine Lib.hid ⟨?_, Hq6.out, Hm6.out, Hl6.out, HB6.out⟩
            rw [h1]
            exact Hr6.out
          clear HBK HK0
          clear HDK HE HT2 Hr6 Hq6 Hm6 Hl6 HB6 HZ6
          go_wp2_with fail
          go_roundw
          case rel => exact ⟨k + 1, a2, by omega, by go_num, HTN, HNX⟩
          case measure => simp [intOf]; omega
      · skip
        have HK0 : Hid (0 < k) := Lib.hid (by omega)
        have hkb : ((k : Int) == 0) = false := by simp [hk0]
        clear hk0
        have HDK : Hid ((dk r (k + 1)).e = e2) := by show _ = _; rw [dk_succ r k HK0.out]; exact HE.out.1
        have HTN : Hid (TieR s a2 (dk r (k + 1))) := by show TieR _ _ _; rw [dk_succ r k HK0.out]; exact HT2.out
        have HNX : Hid (Blk W4 w.heap.size #[.string s, .int .i64 a2, .int .i64 (dk r (k + 1)).e] 44 ∧ Blk W4 (w.heap.size + 1) #[.string ⟨#[]⟩, .int .i64 0, .int .i64 0] 44 ∧ Blk W4 (w.heap.size + 1 + 1) #[.int .i64 0, .int .i64 0, .int .i64 0, .int .i64 0, .int .i64 0, .int .i64 0, .int .i64 0, .int .i64 0, .bool false, .slice none 0 0, .slice none 0 0] 29 ∧ Blk W4 gl (csD r (k + 1)) 3 ∧ Below w.heap.size w W4) := by
          have h1 := HDK.out
          refine Lib.hid ⟨?_, Hq6.out, Hm6.out, Hl6.out, HB6.out⟩
          rw [h1]
          exact Hr6.out
        clear HDK HE HT2 Hr6 Hq6 Hm6 Hl6 HB6 HZ6
        go_wp2_with fail
        go_roundw
        case rel => exact ⟨k + 1, a2, by omega, by go_num, HTN, HNX⟩
        case measure => simp [intOf]; omega
    · skip
      have hltI : ¬ (k : Int) < 7 := by omega
      have HK7 : Hid (k = 7) := Lib.hid (by omega)
      obtain ⟨v0, hv0⟩ : ∃ z, (dk r 0).nV = z := ⟨_, rfl⟩
      obtain ⟨v1, hv1⟩ : ∃ z, (dk r 1).nV = z := ⟨_, rfl⟩
      obtain ⟨v2, hv2⟩ : ∃ z, (dk r 2).nV = z := ⟨_, rfl⟩
      obtain ⟨v3, hv3⟩ : ∃ z, (dk r 3).nV = z := ⟨_, rfl⟩
      obtain ⟨v4, hv4⟩ : ∃ z, (dk r 4).nV = z := ⟨_, rfl⟩
      obtain ⟨v5, hv5⟩ : ∃ z, (dk r 5).nV = z := ⟨_, rfl⟩
      obtain ⟨v6, hv6⟩ : ∃ z, (dk r 6).nV = z := ⟨_, rfl⟩
      have HV : Hid ((dk r 0).nV = v0 ∧ (dk r 1).nV = v1 ∧ (dk r 2).nV = v2 ∧ (dk r 3).nV = v3 ∧ (dk r 4).nV = v4 ∧ (dk r 5).nV = v5 ∧ (dk r 6).nV = v6) := Lib.hid ⟨hv0, hv1, hv2, hv3, hv4, hv5, hv6⟩
      clear hv0 hv1 hv2 hv3 hv4 hv5 hv6
      have HL9 : Hid (Blk wr gl #[.int .i64 v0, .int .i64 v1, .int .i64 v2, .int .i64 v3, .int .i64 v4, .int .i64 v5, .int .i64 v6] 3) := by
        have h1 := Hl2.out
        rw [HK7.out, show csD r 7 = #[.int .i64 (dk r 0).nV, .int .i64 (dk r 1).nV, .int .i64 (dk r 2).nV, .int .i64 (dk r 3).nV, .int .i64 (dk r 4).nV, .int .i64 (dk r 5).nV, .int .i64 (dk r 6).nV] from rfl, HV.out.1, HV.out.2.1, HV.out.2.2.1, HV.out.2.2.2.1, HV.out.2.2.2.2.1, HV.out.2.2.2.2.2.1, HV.out.2.2.2.2.2.2] at h1
        exact Lib.hid h1
      clear Hl2
      have Hl2 := HL9
      clear HL9
      obtain ⟨q, hq⟩ : ∃ q, dk r k = q := ⟨_, rfl⟩
      rw [hq] at HT Hr2
      have HQ : Hid (dk r 7 = q) := Lib.hid (by rw [← hq, HK7.out])
      clear hq HK7 hk hk9 hlt
      go_upto_region 10 with fail
      clear hltI
      have hbd := (Below.refl wr.heap.size wr).drew
      have Hr3 := Lib.hid (Hr2.out.below hbd Hr2.out.lt)
      have Hq3 := Lib.hid (Hq2.out.below hbd Hq2.out.lt)
      have Hm3 := Lib.hid (Hm2.out.below hbd Hm2.out.lt)
      have Hl3 := Lib.hid (Hl2.out.below hbd Hl2.out.lt)
      have HB3 := Lib.hid (HB2.out.trans (hbd.mono HB2.out.size))
      have HZ3 : Hid (w.heap.size ≤ wr.drew.heap.size) := Lib.hid (Nat.le_trans HZ2.out hbd.size)
      clear Hr2 Hq2 Hm2 Hl2 HB2 HZ2
      have hS1 : wr.drew.cell? ⟨gl, 0, none⟩ = some (.int .i64 v0) ∧ wr.drew.cell? ⟨gl, 1, none⟩ = some (.int .i64 v1) ∧ wr.drew.cell? ⟨gl, 2, none⟩ = some (.int .i64 v2) ∧ wr.drew.cell? ⟨gl, 3, none⟩ = some (.int .i64 v3) ∧ wr.drew.cell? ⟨gl, 4, none⟩ = some (.int .i64 v4) ∧ wr.drew.cell? ⟨gl, 5, none⟩ = some (.int .i64 v5) ∧ wr.drew.cell? ⟨gl, 6, none⟩ = some (.int .i64 v6) := ⟨Hl3.out.cell 0, Hl3.out.cell 1, Hl3.out.cell 2, Hl3.out.cell 3, Hl3.out.cell 4, Hl3.out.cell 5, Hl3.out.cell 6⟩
      refine wp_region_held_drew (S := fun w' => w'.cell? ⟨gl, 0, none⟩ = some (.int .i64 v0) ∧ w'.cell? ⟨gl, 1, none⟩ = some (.int .i64 v1) ∧ w'.cell? ⟨gl, 2, none⟩ = some (.int .i64 v2) ∧ w'.cell? ⟨gl, 3, none⟩ = some (.int .i64 v3) ∧ w'.cell? ⟨gl, 4, none⟩ = some (.int .i64 v4) ∧ w'.cell? ⟨gl, 5, none⟩ = some (.int .i64 v5) ∧ w'.cell? ⟨gl, 6, none⟩ = some (.int .i64 v6)) (by kernel_rfl) hS1 (fun hS0 => ?_)
      clear hS1
      generalize wr.drew = WD at *
      clear hbd
      refine wpAnyH_take (i := 0) (v := ?_) rfl (by kernel_rfl) (by kernel_rfl) (by kernel_rfl) (fun _ _ _ h => h) (Or.inl ⟨by kernel_rfl, ?_⟩) (by first | assumption | trivial) ?_
      rotate_left
      · intro w hSw
        try dsimp only at hSw
        first | (go_simp; done) | (go_simp; with_reducible rfl)
      try simp only [Act.put, List.getElem_toArray, List.getElem_cons_succ, List.getElem_cons_zero, List.setIfInBounds_toArray, List.set_cons_zero, List.set_cons_succ]
      refine wpAnyH_take (i := 1) (v := ?_) rfl (by kernel_rfl) (by kernel_rfl) (by kernel_rfl) (fun _ _ _ h => h) (Or.inl ⟨by kernel_rfl, ?_⟩) (by first | assumption | trivial) ?_
      rotate_left
      · intro w hSw
        try dsimp only at hSw
        first | (go_simp; done) | (go_simp; with_reducible rfl)
      try simp only [Act.put, List.getElem_toArray, List.getElem_cons_succ, List.getElem_cons_zero, List.setIfInBounds_toArray, List.set_cons_zero, List.set_cons_succ]
      refine wpAnyH_take (i := 2) (v := ?_) rfl (by kernel_rfl) (by kernel_rfl) (by kernel_rfl) (fun _ _ _ h => h) (Or.inl ⟨by kernel_rfl, ?_⟩) (by first | assumption | trivial) ?_
      rotate_left
      · intro w hSw
        try dsimp only at hSw
        first | (go_simp; done) | (go_simp; with_reducible rfl)
      try simp only [Act.put, List.getElem_toArray, List.getElem_cons_succ, List.getElem_cons_zero, List.setIfInBounds_toArray, List.set_cons_zero, List.set_cons_succ]
      refine wpAnyH_take (i := 3) (v := ?_) rfl (by kernel_rfl) (by kernel_rfl) (by kernel_rfl) (fun _ _ _ h => h) (Or.inl ⟨by kernel_rfl, ?_⟩) (by first | assumption | trivial) ?_
      rotate_left
      · intro w hSw
        try dsimp only at hSw
        first | (go_simp; done) | (go_simp; with_reducible rfl)
      try simp only [Act.put, List.getElem_toArray, List.getElem_cons_succ, List.getElem_cons_zero, List.setIfInBounds_toArray, List.set_cons_zero, List.set_cons_succ]
      refine wpAnyH_take (i := 4) (v := ?_) rfl (by kernel_rfl) (by kernel_rfl) (by kernel_rfl) (fun _ _ _ h => h) (Or.inl ⟨by kernel_rfl, ?_⟩) (by first | assumption | trivial) ?_
      rotate_left
      · intro w hSw
        try dsimp only at hSw
        first | (go_simp; done) | (go_simp; with_reducible rfl)
      try simp only [Act.put, List.getElem_toArray, List.getElem_cons_succ, List.getElem_cons_zero, List.setIfInBounds_toArray, List.set_cons_zero, List.set_cons_succ]
      refine wpAnyH_take (i := 5) (v := ?_) rfl (by kernel_rfl) (by kernel_rfl) (by kernel_rfl) (fun _ _ _ h => h) (Or.inl ⟨by kernel_rfl, ?_⟩) (by first | assumption | trivial) ?_
      rotate_left
      · intro w hSw
        try dsimp only at hSw
        first | (go_simp; done) | (go_simp; with_reducible rfl)
      try simp only [Act.put, List.getElem_toArray, List.getElem_cons_succ, List.getElem_cons_zero, List.setIfInBounds_toArray, List.set_cons_zero, List.set_cons_succ]
      refine wpAnyH_take (i := 6) (v := ?_) rfl (by kernel_rfl) (by kernel_rfl) (by kernel_rfl) (fun _ _ _ h => h) (Or.inl ⟨by kernel_rfl, ?_⟩) (by first | assumption | trivial) ?_
      rotate_left
      · intro w hSw
        try dsimp only at hSw
        first | (go_simp; done) | (go_simp; with_reducible rfl)
      try simp only [Act.put, List.getElem_toArray, List.getElem_cons_succ, List.getElem_cons_zero, List.setIfInBounds_toArray, List.set_cons_zero, List.set_cons_succ]
      refine wpAnyH_take (i := 7) (v := ?_) rfl (by kernel_rfl) (by kernel_rfl) (by kernel_rfl) (fun _ _ _ h => h) (Or.inl ⟨by kernel_rfl, ?_⟩) (by first | assumption | trivial) ?_
      rotate_left
      · intro w hSw
        try dsimp only at hSw
        first | (go_simp; done) | (go_simp; with_reducible rfl)
      try simp only [Act.put, List.getElem_toArray, List.getElem_cons_succ, List.getElem_cons_zero, List.setIfInBounds_toArray, List.set_cons_zero, List.set_cons_succ]
      refine wpAnyH_take (i := 8) (v := ?_) rfl (by kernel_rfl) (by kernel_rfl) (by kernel_rfl) (fun _ _ _ h => h) (Or.inl ⟨by kernel_rfl, ?_⟩) (by first | assumption | trivial) ?_
      rotate_left
      · intro w hSw
        try dsimp only at hSw
        first | (go_simp; done) | (go_simp; with_reducible rfl)
      try simp only [Act.put, List.getElem_toArray, List.getElem_cons_succ, List.getElem_cons_zero, List.setIfInBounds_toArray, List.set_cons_zero, List.set_cons_succ]
      refine wpAnyH_take (i := 9) (v := ?_) rfl (by kernel_rfl) (by kernel_rfl) (by kernel_rfl) (fun _ _ _ h => h) (Or.inl ⟨by kernel_rfl, ?_⟩) (by first | assumption | trivial) ?_
      rotate_left
      · intro w hSw
        try dsimp only at hSw
        first | (go_simp; done) | (go_simp; with_reducible rfl)
      try simp only [Act.put, List.getElem_toArray, List.getElem_cons_succ, List.getElem_cons_zero, List.setIfInBounds_toArray, List.set_cons_zero, List.set_cons_succ]
      refine wpAnyH_take (i := 10) (v := ?_) rfl (by kernel_rfl) (by kernel_rfl) (by kernel_rfl) (fun _ _ _ h => h) (Or.inl ⟨by kernel_rfl, ?_⟩) (by first | assumption | trivial) ?_
      rotate_left
      · intro w hSw
        try dsimp only at hSw
        first | (go_simp; done) | (go_simp; with_reducible rfl)
      try simp only [Act.put, List.getElem_toArray, List.getElem_cons_succ, List.getElem_cons_zero, List.setIfInBounds_toArray, List.set_cons_zero, List.set_cons_succ]
      refine wpAnyH_take (i := 11) (v := ?_) rfl (by kernel_rfl) (by kernel_rfl) (by kernel_rfl) (fun _ _ _ h => h) (Or.inl ⟨by kernel_rfl, ?_⟩) (by first | assumption | trivial) ?_
      rotate_left
      · intro w hSw
        try dsimp only at hSw
        first | (go_simp; done) | (go_simp; with_reducible rfl)
      try simp only [Act.put, List.getElem_toArray, List.getElem_cons_succ, List.getElem_cons_zero, List.setIfInBounds_toArray, List.set_cons_zero, List.set_cons_succ]
      refine wpAnyH_take (i := 12) (v := ?_) rfl (by kernel_rfl) (by kernel_rfl) (by kernel_rfl) (fun _ _ _ h => h) (Or.inl ⟨by kernel_rfl, ?_⟩) (by first | assumption | trivial) ?_
      rotate_left
      · intro w hSw
        try dsimp only at hSw
        first | (go_simp; done) | (go_simp; with_reducible rfl)
      try simp only [Act.put, List.getElem_toArray, List.getElem_cons_succ, List.getElem_cons_zero, List.setIfInBounds_toArray, List.set_cons_zero, List.set_cons_succ]
      refine wpAnyH_take (i := 13) (v := ?_) rfl (by kernel_rfl) (by kernel_rfl) (by kernel_rfl) (fun _ _ _ h => h) (Or.inl ⟨by kernel_rfl, ?_⟩) (by first | assumption | trivial) ?_
      rotate_left
      · intro w hSw
        try dsimp only at hSw
        first | (go_simp; done) | (go_simp; with_reducible rfl)
      try simp only [Act.put, List.getElem_toArray, List.getElem_cons_succ, List.getElem_cons_zero, List.setIfInBounds_toArray, List.set_cons_zero, List.set_cons_succ]
      refine wpAnyH_take (i := 14) (v := ?_) rfl (by kernel_rfl) (by kernel_rfl) (by kernel_rfl) (fun _ _ _ h => h) (Or.inl ⟨by kernel_rfl, ?_⟩) (by first | assumption | trivial) ?_
      rotate_left
      · intro w hSw
        try dsimp only at hSw
        first | (go_simp; done) | (go_simp; with_reducible rfl)
      try simp only [Act.put, List.getElem_toArray, List.getElem_cons_succ, List.getElem_cons_zero, List.setIfInBounds_toArray, List.set_cons_zero, List.set_cons_succ]
      refine wpAnyH_take (i := 15) (v := ?_) rfl (by kernel_rfl) (by kernel_rfl) (by kernel_rfl) (fun _ _ _ h => h) (Or.inl ⟨by kernel_rfl, ?_⟩) (by first | assumption | trivial) ?_
      rotate_left
      · intro w hSw
        try dsimp only at hSw
        first | (go_simp; done) | (go_simp; with_reducible rfl)
      try simp only [Act.put, List.getElem_toArray, List.getElem_cons_succ, List.getElem_cons_zero, List.setIfInBounds_toArray, List.set_cons_zero, List.set_cons_succ]
      refine wpAnyH_take (i := 16) (v := ?_) rfl (by kernel_rfl) (by kernel_rfl) (by kernel_rfl) (fun _ _ _ h => h) (Or.inl ⟨by kernel_rfl, ?_⟩) (by first | assumption | trivial) ?_
      rotate_left
      · intro w hSw
        try dsimp only at hSw
        first | (go_simp; done) | (go_simp; with_reducible rfl)
      try simp only [Act.put, List.getElem_toArray, List.getElem_cons_succ, List.getElem_cons_zero, List.setIfInBounds_toArray, List.set_cons_zero, List.set_cons_succ]
      refine wpAnyH_take (i := 17) (v := ?_) rfl (by kernel_rfl) (by kernel_rfl) (by kernel_rfl) (fun _ _ _ h => h) (Or.inl ⟨by kernel_rfl, ?_⟩) (by first | assumption | trivial) ?_
      rotate_left
      · intro w hSw
        try dsimp only at hSw
        first | (go_simp; done) | (go_simp; with_reducible rfl)
      try simp only [Act.put, List.getElem_toArray, List.getElem_cons_succ, List.getElem_cons_zero, List.setIfInBounds_toArray, List.set_cons_zero, List.set_cons_succ]
      refine wpAnyH_take (i := 18) (v := ?_) rfl (by kernel_rfl) (by kernel_rfl) (by kernel_rfl) (fun _ _ _ h => h) (Or.inl ⟨by kernel_rfl, ?_⟩) (by first | assumption | trivial) ?_
      rotate_left
      · intro w hSw
        try dsimp only at hSw
        first | (go_simp; done) | (go_simp; with_reducible rfl)
      try simp only [Act.put, List.getElem_toArray, List.getElem_cons_succ, List.getElem_cons_zero, List.setIfInBounds_toArray, List.set_cons_zero, List.set_cons_succ]
      refine wpAnyH_take (i := 19) (v := ?_) rfl (by kernel_rfl) (by kernel_rfl) (by kernel_rfl) (fun _ _ _ h => h) (Or.inl ⟨by kernel_rfl, ?_⟩) (by first | assumption | trivial) ?_
      rotate_left
      · intro w hSw
        try dsimp only at hSw
        first | (go_simp; done) | (go_simp; with_reducible rfl)
      try simp only [Act.put, List.getElem_toArray, List.getElem_cons_succ, List.getElem_cons_zero, List.setIfInBounds_toArray, List.set_cons_zero, List.set_cons_succ]
      refine wpAnyH_take (i := 20) (v := ?_) rfl (by kernel_rfl) (by kernel_rfl) (by kernel_rfl) (fun _ _ _ h => h) (Or.inl ⟨by kernel_rfl, ?_⟩) (by first | assumption | trivial) ?_
      rotate_left
      · intro w hSw
        try dsimp only at hSw
        first | (go_simp; done) | (go_simp; with_reducible rfl)
      try simp only [Act.put, List.getElem_toArray, List.getElem_cons_succ, List.getElem_cons_zero, List.setIfInBounds_toArray, List.set_cons_zero, List.set_cons_succ]
      refine wpAnyH_take (i := 21) (v := ?_) rfl (by kernel_rfl) (by kernel_rfl) (by kernel_rfl) (fun _ _ _ h => h) (Or.inl ⟨by kernel_rfl, ?_⟩) (by first | assumption | trivial) ?_
      rotate_left
      · intro w hSw
        try dsimp only at hSw
        first | (go_simp; done) | (go_simp; with_reducible rfl)
      try simp only [Act.put, List.getElem_toArray, List.getElem_cons_succ, List.getElem_cons_zero, List.setIfInBounds_toArray, List.set_cons_zero, List.set_cons_succ]
      refine wpAnyH_take (i := 22) (v := ?_) rfl (by kernel_rfl) (by kernel_rfl) (by kernel_rfl) (fun _ _ _ h => h) (Or.inl ⟨by kernel_rfl, ?_⟩) (by first | assumption | trivial) ?_
      rotate_left
      · intro w hSw
        try dsimp only at hSw
        first | (go_simp; done) | (go_simp; with_reducible rfl)
      try simp only [Act.put, List.getElem_toArray, List.getElem_cons_succ, List.getElem_cons_zero, List.setIfInBounds_toArray, List.set_cons_zero, List.set_cons_succ]
      have HGM : Hid (gl < WD.heap.size) := Lib.hid Hl3.out.lt
      refine wpAnyH_ready (rs := [23]) (by kernel_rfl) (by simp) ?_
      refine AllReadyH.cons rfl (fun K hK => ?_) AllReadyH.nil
      go_simp
      have hba := oneB WD (.cells #[.int .i64 0, .int .i64 0, .int .i64 0, .int .i64 0, .int .i64 0, .int .i64 0, .int .i64 0, .int .i64 0, .bool false, .slice none 0 0, .slice none 0 0] 29)
      have Hr4 := Lib.hid (Hr3.out.below hba Hr3.out.lt)
      have Hq4 := Lib.hid (Hq3.out.below hba Hq3.out.lt)
      have Hm4 := Lib.hid (Hm3.out.below hba Hm3.out.lt)
      have Hl4 := Lib.hid (Hl3.out.below hba Hl3.out.lt)
      have Hc4 := Lib.hid (Blk.new WD #[.int .i64 0, .int .i64 0, .int .i64 0, .int .i64 0, .int .i64 0, .int .i64 0, .int .i64 0, .int .i64 0, .bool false, .slice none 0 0, .slice none 0 0] 29)
      have HB4 := Lib.hid (HB3.out.alloc HB3.out.size (.cells #[.int .i64 0, .int .i64 0, .int .i64 0, .int .i64 0, .int .i64 0, .int .i64 0, .int .i64 0, .int .i64 0, .bool false, .slice none 0 0, .slice none 0 0] 29))
      have HZ4 : Hid (w.heap.size ≤ (WD.alloc (.cells #[.int .i64 0, .int .i64 0, .int .i64 0, .int .i64 0, .int .i64 0, .int .i64 0, .int .i64 0, .int .i64 0, .bool false, .slice none 0 0, .slice none 0 0] 29)).heap.size) := Lib.hid (Nat.le_trans HZ3.out hba.size)
      clear hba hS0 Hr3 Hq3 Hm3 Hl3 HB3 HZ3
      generalize (WD.alloc (.cells #[.int .i64 0, .int .i64 0, .int .i64 0, .int .i64 0, .int .i64 0, .int .i64 0, .int .i64 0, .int .i64 0, .bool false, .slice none 0 0, .slice none 0 0] 29)) = WA at *
      generalize hggc : WD.heap.size = gc at *
      clear hggc
      refine hK.out _ _ ⟨Hl4.out.cell 0, Hl4.out.cell 1, Hl4.out.cell 2, Hl4.out.cell 3, Hl4.out.cell 4, Hl4.out.cell 5, Hl4.out.cell 6⟩ (fun hS0 => ?_)
      clear hK K
      try simp only [Act.put, List.getElem_toArray, List.getElem_cons_succ, List.getElem_cons_zero, List.setIfInBounds_toArray, List.set_cons_zero, List.set_cons_succ]
      refine wpAnyH_ready (rs := [24]) (by kernel_rfl) (by simp) ?_
      refine AllReadyH.cons rfl (fun K hK => ?_) AllReadyH.nil
      have z0 : WA.cell? ⟨gc, 0, none⟩ = some (.int .i64 0) := Hc4.out.cell 0
      have z1 : WA.cell? ⟨gc, 1, none⟩ = some (.int .i64 0) := Hc4.out.cell 1
      have z2 : WA.cell? ⟨gc, 2, none⟩ = some (.int .i64 0) := Hc4.out.cell 2
      have z3 : WA.cell? ⟨gc, 3, none⟩ = some (.int .i64 0) := Hc4.out.cell 3
      have z4 : WA.cell? ⟨gc, 4, none⟩ = some (.int .i64 0) := Hc4.out.cell 4
      have z5 : WA.cell? ⟨gc, 5, none⟩ = some (.int .i64 0) := Hc4.out.cell 5
      have z6 : WA.cell? ⟨gc, 6, none⟩ = some (.int .i64 0) := Hc4.out.cell 6
      have z7 : WA.cell? ⟨gc, 7, none⟩ = some (.int .i64 0) := Hc4.out.cell 7
      have z8 : WA.cell? ⟨gc, 8, none⟩ = some (.bool false) := Hc4.out.cell 8
      have z9 : WA.cell? ⟨gc, 9, none⟩ = some (.slice none 0 0) := Hc4.out.cell 9
      have z10 : WA.cell? ⟨gc, 10, none⟩ = some (.slice none 0 0) := Hc4.out.cell 10
      have f0 := Hc4.out.free 0
      have f1 := Hc4.out.free 1
      have f2 := Hc4.out.free 2
      have f3 := Hc4.out.free 3
      have f4 := Hc4.out.free 4
      have f5 := Hc4.out.free 5
      have f6 := Hc4.out.free 6
      have f7 := Hc4.out.free 7
      have f8 := Hc4.out.free 8
      have f9 := Hc4.out.free 9
      have f10 := Hc4.out.free 10
      go_simp
      clear z0 f0 z1 f1 z2 f2 z3 f3 z4 f4 z5 f5 z6 f6 z7 f7 z8 f8 z9 f9 z10 f10
      have hch : Hid (Chg gc WA (((((((((((WA.setCell ⟨gc, 0, none⟩ (.int .i64 v0)).setCell ⟨gc, 1, none⟩ (.int .i64 v1)).setCell ⟨gc, 2, none⟩ (.int .i64 v2)).setCell ⟨gc, 3, none⟩ (.int .i64 v3)).setCell ⟨gc, 4, none⟩ (.int .i64 v4)).setCell ⟨gc, 5, none⟩ (.int .i64 v5)).setCell ⟨gc, 6, none⟩ (.int .i64 v6)).setCell ⟨gc, 7, none⟩ (.int .i64 0)).setCell ⟨gc, 8, none⟩ (.bool false)).setCell ⟨gc, 9, none⟩ (.slice none 0 0)).setCell ⟨gc, 10, none⟩ (.slice none 0 0))) := Lib.hid ((((((((((((Chg.refl gc WA).set 0 (.int .i64 v0)).set 1 (.int .i64 v1)).set 2 (.int .i64 v2)).set 3 (.int .i64 v3)).set 4 (.int .i64 v4)).set 5 (.int .i64 v5)).set 6 (.int .i64 v6)).set 7 (.int .i64 0)).set 8 (.bool false)).set 9 (.slice none 0 0)).set 10 (.slice none 0 0))
      have Hc5 : Hid (Blk (((((((((((WA.setCell ⟨gc, 0, none⟩ (.int .i64 v0)).setCell ⟨gc, 1, none⟩ (.int .i64 v1)).setCell ⟨gc, 2, none⟩ (.int .i64 v2)).setCell ⟨gc, 3, none⟩ (.int .i64 v3)).setCell ⟨gc, 4, none⟩ (.int .i64 v4)).setCell ⟨gc, 5, none⟩ (.int .i64 v5)).setCell ⟨gc, 6, none⟩ (.int .i64 v6)).setCell ⟨gc, 7, none⟩ (.int .i64 0)).setCell ⟨gc, 8, none⟩ (.bool false)).setCell ⟨gc, 9, none⟩ (.slice none 0 0)).setCell ⟨gc, 10, none⟩ (.slice none 0 0)) gc #[.int .i64 v0, .int .i64 v1, .int .i64 v2, .int .i64 v3, .int .i64 v4, .int .i64 v5, .int .i64 v6, .int .i64 0, .bool false, .slice none 0 0, .slice none 0 0] 29) := (by have h1 := blk_put_all Hc4.out #[.int .i64 v0, .int .i64 v1, .int .i64 v2, .int .i64 v3, .int .i64 v4, .int .i64 v5, .int .i64 v6, .int .i64 0, .bool false, .slice none 0 0, .slice none 0 0] rfl; exact Lib.hid h1)
      have HB5 : Hid (Below w.heap.size w (((((((((((WA.setCell ⟨gc, 0, none⟩ (.int .i64 v0)).setCell ⟨gc, 1, none⟩ (.int .i64 v1)).setCell ⟨gc, 2, none⟩ (.int .i64 v2)).setCell ⟨gc, 3, none⟩ (.int .i64 v3)).setCell ⟨gc, 4, none⟩ (.int .i64 v4)).setCell ⟨gc, 5, none⟩ (.int .i64 v5)).setCell ⟨gc, 6, none⟩ (.int .i64 v6)).setCell ⟨gc, 7, none⟩ (.int .i64 0)).setCell ⟨gc, 8, none⟩ (.bool false)).setCell ⟨gc, 9, none⟩ (.slice none 0 0)).setCell ⟨gc, 10, none⟩ (.slice none 0 0))) := Lib.hid (((((((((((HB4.out.setCell (p := ⟨gc, 0, none⟩) (by show w.heap.size ≤ gc; have h9 := HGL.out; have h8 := HGM.out; omega) (.int .i64 v0)).setCell (p := ⟨gc, 1, none⟩) (by show w.heap.size ≤ gc; have h9 := HGL.out; have h8 := HGM.out; omega) (.int .i64 v1)).setCell (p := ⟨gc, 2, none⟩) (by show w.heap.size ≤ gc; have h9 := HGL.out; have h8 := HGM.out; omega) (.int .i64 v2)).setCell (p := ⟨gc, 3, none⟩) (by show w.heap.size ≤ gc; have h9 := HGL.out; have h8 := HGM.out; omega) (.int .i64 v3)).setCell (p := ⟨gc, 4, none⟩) (by show w.heap.size ≤ gc; have h9 := HGL.out; have h8 := HGM.out; omega) (.int .i64 v4)).setCell (p := ⟨gc, 5, none⟩) (by show w.heap.size ≤ gc; have h9 := HGL.out; have h8 := HGM.out; omega) (.int .i64 v5)).setCell (p := ⟨gc, 6, none⟩) (by show w.heap.size ≤ gc; have h9 := HGL.out; have h8 := HGM.out; omega) (.int .i64 v6)).setCell (p := ⟨gc, 7, none⟩) (by show w.heap.size ≤ gc; have h9 := HGL.out; have h8 := HGM.out; omega) (.int .i64 0)).setCell (p := ⟨gc, 8, none⟩) (by show w.heap.size ≤ gc; have h9 := HGL.out; have h8 := HGM.out; omega) (.bool false)).setCell (p := ⟨gc, 9, none⟩) (by show w.heap.size ≤ gc; have h9 := HGL.out; have h8 := HGM.out; omega) (.slice none 0 0)).setCell (p := ⟨gc, 10, none⟩) (by show w.heap.size ≤ gc; have h9 := HGL.out; have h8 := HGM.out; omega) (.slice none 0 0))
      have HZ5 : Hid (w.heap.size ≤ (((((((((((WA.setCell ⟨gc, 0, none⟩ (.int .i64 v0)).setCell ⟨gc, 1, none⟩ (.int .i64 v1)).setCell ⟨gc, 2, none⟩ (.int .i64 v2)).setCell ⟨gc, 3, none⟩ (.int .i64 v3)).setCell ⟨gc, 4, none⟩ (.int .i64 v4)).setCell ⟨gc, 5, none⟩ (.int .i64 v5)).setCell ⟨gc, 6, none⟩ (.int .i64 v6)).setCell ⟨gc, 7, none⟩ (.int .i64 0)).setCell ⟨gc, 8, none⟩ (.bool false)).setCell ⟨gc, 9, none⟩ (.slice none 0 0)).setCell ⟨gc, 10, none⟩ (.slice none 0 0)).heap.size) := Lib.hid (Nat.le_trans HZ4.out hch.out.size)
      have Hr5 := Lib.hid (Hr4.out.chg hch.out (by have h9 := HGL.out; have h8 := HGM.out; omega))
      have Hq5 := Lib.hid (Hq4.out.chg hch.out (by have h9 := HGL.out; have h8 := HGM.out; omega))
      have Hm5 := Lib.hid (Hm4.out.chg hch.out (by have h9 := HGL.out; have h8 := HGM.out; omega))
      have Hl5 := Lib.hid (Hl4.out.chg hch.out (by have h9 := HGL.out; have h8 := HGM.out; omega))
      clear hch hS0 Hr4 Hq4 Hm4 Hl4 Hc4 HB4 HZ4
      generalize (((((((((((WA.setCell ⟨gc, 0, none⟩ (.int .i64 v0)).setCell ⟨gc, 1, none⟩ (.int .i64 v1)).setCell ⟨gc, 2, none⟩ (.int .i64 v2)).setCell ⟨gc, 3, none⟩ (.int .i64 v3)).setCell ⟨gc, 4, none⟩ (.int .i64 v4)).setCell ⟨gc, 5, none⟩ (.int .i64 v5)).setCell ⟨gc, 6, none⟩ (.int .i64 v6)).setCell ⟨gc, 7, none⟩ (.int .i64 0)).setCell ⟨gc, 8, none⟩ (.bool false)).setCell ⟨gc, 9, none⟩ (.slice none 0 0)).setCell ⟨gc, 10, none⟩ (.slice none 0 0)) = WM at *
      refine hK.out _ _ ⟨Hl5.out.cell 0, Hl5.out.cell 1, Hl5.out.cell 2, Hl5.out.cell 3, Hl5.out.cell 4, Hl5.out.cell 5, Hl5.out.cell 6⟩ (fun hS0 => ?_)
      clear hK K
      try simp only [Act.put, List.getElem_toArray, List.getElem_cons_succ, List.getElem_cons_zero, List.setIfInBounds_toArray, List.set_cons_zero, List.set_cons_succ]
      refine wpAnyH_done (by kernel_rfl) ?_ _
      clear hS0
      clear Hl5
      have x0 : WM.cell? ⟨w.heap.size, 0, none⟩ = some (.string s) := Hr5.out.cell 0
      have x1 : WM.cell? ⟨w.heap.size, 1, none⟩ = some (.int .i64 a) := Hr5.out.cell 1
      have x2 : WM.cell? ⟨w.heap.size, 2, none⟩ = some (.int .i64 q.e) := Hr5.out.cell 2
      have HG := Lib.hid (number_tie s a q WM HT.out)
      unfold rdV at HG
      go_wp2_with fail
      clear x0 x1 x2
      refine HG.out.mono ?_
      rintro y9 w2 ⟨a2, rfl, ht, hb⟩
      clear HG HT
      have HT2 := Lib.hid ht
      clear ht
      have Hr6 := Lib.hid (Hr5.out.below hb Hr5.out.lt)
      have Hq6 := Lib.hid (Hq5.out.below hb Hq5.out.lt)
      have Hm6 := Lib.hid (Hm5.out.below hb Hm5.out.lt)
      have Hc6 := Lib.hid (Hc5.out.below hb Hc5.out.lt)
      have HB6 := Lib.hid (HB5.out.trans (hb.mono HB5.out.size))
      have HZ6 : Hid (w.heap.size ≤ w2.heap.size) := Lib.hid (Nat.le_trans HZ5.out hb.size)
      clear Hr5 Hq5 Hm5 Hc5 HB5 HZ5
      clear hb
      go_wp2_with (with_reducible refine stop_storeT 44 (.tmp 1) (.tmp 82) rfl ?_)
      have HTH : Hid (w2.there w.heap.size 0 3) := Hr6.out.thereAt
      have hch : Hid (Chg w.heap.size w2 (w2.setCells w.heap.size 0 (#[.string s, .int .i64 a2, .int .i64 q.num.e] : Array Value).toList)) := Lib.hid (chg_putL _ _ _ _ _ (Chg.refl _ w2))
      have Hr7 : Hid (Blk (w2.setCells w.heap.size 0 (#[.string s, .int .i64 a2, .int .i64 q.num.e] : Array Value).toList) w.heap.size #[.string s, .int .i64 a2, .int .i64 q.num.e] 44) := Lib.hid (blk_put_all Hr6.out _ rfl)
      have HB7 : Hid (Below w.heap.size w (w2.setCells w.heap.size 0 (#[.string s, .int .i64 a2, .int .i64 q.num.e] : Array Value).toList)) := Lib.hid (below_put (by have h9 := HGL.out; have h8 := HGM.out; omega) _ _ _ _ HB6.out)
      have HZ7 : Hid (w.heap.size ≤ (w2.setCells w.heap.size 0 (#[.string s, .int .i64 a2, .int .i64 q.num.e] : Array Value).toList).heap.size) := Lib.hid (Nat.le_trans HZ6.out hch.out.size)
      have Hq7 := Lib.hid (Hq6.out.chg hch.out (by have h9 := HGL.out; have h8 := HGM.out; omega))
      have Hm7 := Lib.hid (Hm6.out.chg hch.out (by have h9 := HGL.out; have h8 := HGM.out; omega))
      have Hc7 := Lib.hid (Hc6.out.chg hch.out (by have h9 := HGL.out; have h8 := HGM.out; omega))
      clear hch Hr6 Hq6 Hm6 Hc6 HB6 HZ6
      refine wpList_store_mid rfl 44 (.tmp 1) (.tmp 82) rfl w.heap.size 0 #[.string s, .int .i64 a2, .int .i64 q.num.e] rfl rfl HTH.out (infoRd rfl) (all_oneCell_toArray (by intro u hu; simp at hu; rcases hu with rfl | rfl | rfl <;> rfl)) ?_
      generalize (w2.setCells w.heap.size 0 (#[.string s, .int .i64 a2, .int .i64 q.num.e] : Array Value).toList) = W3 at *
      clear HTH
      have z7 : W3.cell? ⟨gc, 7, none⟩ = some (.int .i64 0) := Hc7.out.cell 7
      have f7 := Hc7.out.free 7
      go_upto_region 12 with fail
      clear z7 f7
      have hch : Hid (Chg gc W3 (W3.setCell ⟨gc, 7, none⟩ (.int .i64 q.numV))) := Lib.hid ((Chg.refl gc W3).set 7 (.int .i64 q.numV))
      have Hc8 : Hid (Blk (W3.setCell ⟨gc, 7, none⟩ (.int .i64 q.numV)) gc #[.int .i64 v0, .int .i64 v1, .int .i64 v2, .int .i64 v3, .int .i64 v4, .int .i64 v5, .int .i64 v6, .int .i64 q.numV, .bool false, .slice none 0 0, .slice none 0 0] 29) := Lib.hid (Hc7.out.set 7 (.int .i64 q.numV))
      have HB8 : Hid (Below w.heap.size w (W3.setCell ⟨gc, 7, none⟩ (.int .i64 q.numV))) := Lib.hid (HB7.out.setCell (p := ⟨gc, 7, none⟩) (by show w.heap.size ≤ gc; have h9 := HGL.out; have h8 := HGM.out; omega) (.int .i64 q.numV))
      have HZ8 : Hid (w.heap.size ≤ (W3.setCell ⟨gc, 7, none⟩ (.int .i64 q.numV)).heap.size) := Lib.hid (Nat.le_trans HZ7.out hch.out.size)
      have Hr8 := Lib.hid (Hr7.out.chg hch.out (by have h9 := HGL.out; have h8 := HGM.out; omega))
      have Hq8 := Lib.hid (Hq7.out.chg hch.out (by have h9 := HGL.out; have h8 := HGM.out; omega))
      have Hm8 := Lib.hid (Hm7.out.chg hch.out (by have h9 := HGL.out; have h8 := HGM.out; omega))
      clear hch Hr7 Hq7 Hm7 Hc7 HB7 HZ7
      generalize (W3.setCell ⟨gc, 7, none⟩ (.int .i64 q.numV)) = W4 at *
      have x0 : W4.cell? ⟨w.heap.size, 0, none⟩ = some (.string s) := Hr8.out.cell 0
      have x1 : W4.cell? ⟨w.heap.size, 1, none⟩ = some (.int .i64 a2) := Hr8.out.cell 1
      have x2 : W4.cell? ⟨w.heap.size, 2, none⟩ = some (.int .i64 q.num.e) := Hr8.out.cell 2
      have HG := Lib.hid (truth_tie s a2 q.num W4 HT2.out)
      unfold rdV at HG
      rw [show q.num.bool = F9 q from rfl] at HG
      go_wp2_with fail
      clear x0 x1 x2
      refine HG.out.mono ?_
      rintro y9 w5 ⟨a3, rfl, ht, hb⟩
      clear HG HT2
      have HT3 := Lib.hid ht
      clear ht
      have Hr9 := Lib.hid (Hr8.out.below hb Hr8.out.lt)
      have Hq9 := Lib.hid (Hq8.out.below hb Hq8.out.lt)
      have Hm9 := Lib.hid (Hm8.out.below hb Hm8.out.lt)
      have Hc9 := Lib.hid (Hc8.out.below hb Hc8.out.lt)
      have HB9 := Lib.hid (HB8.out.trans (hb.mono HB8.out.size))
      have HZ9 : Hid (w.heap.size ≤ w5.heap.size) := Lib.hid (Nat.le_trans HZ8.out hb.size)
      clear Hr8 Hq8 Hm8 Hc8 HB8 HZ8
      clear hb
      go_wp2_with (with_reducible refine stop_storeT 44 (.tmp 1) (.tmp 88) rfl ?_)
      have HTH : Hid (w5.there w.heap.size 0 3) := Hr9.out.thereAt
      have hch : Hid (Chg w.heap.size w5 (w5.setCells w.heap.size 0 (#[.string s, .int .i64 a3, .int .i64 (F9 q).e] : Array Value).toList)) := Lib.hid (chg_putL _ _ _ _ _ (Chg.refl _ w5))
      have Hr10 : Hid (Blk (w5.setCells w.heap.size 0 (#[.string s, .int .i64 a3, .int .i64 (F9 q).e] : Array Value).toList) w.heap.size #[.string s, .int .i64 a3, .int .i64 (F9 q).e] 44) := Lib.hid (blk_put_all Hr9.out _ rfl)
      have HB10 : Hid (Below w.heap.size w (w5.setCells w.heap.size 0 (#[.string s, .int .i64 a3, .int .i64 (F9 q).e] : Array Value).toList)) := Lib.hid (below_put (by have h9 := HGL.out; have h8 := HGM.out; omega) _ _ _ _ HB9.out)
      have HZ10 : Hid (w.heap.size ≤ (w5.setCells w.heap.size 0 (#[.string s, .int .i64 a3, .int .i64 (F9 q).e] : Array Value).toList).heap.size) := Lib.hid (Nat.le_trans HZ9.out hch.out.size)
      have Hq10 := Lib.hid (Hq9.out.chg hch.out (by have h9 := HGL.out; have h8 := HGM.out; omega))
      have Hm10 := Lib.hid (Hm9.out.chg hch.out (by have h9 := HGL.out; have h8 := HGM.out; omega))
      have Hc10 := Lib.hid (Hc9.out.chg hch.out (by have h9 := HGL.out; have h8 := HGM.out; omega))
      clear hch Hr9 Hq9 Hm9 Hc9 HB9 HZ9
      refine wpList_store_mid rfl 44 (.tmp 1) (.tmp 88) rfl w.heap.size 0 #[.string s, .int .i64 a3, .int .i64 (F9 q).e] rfl rfl HTH.out (infoRd rfl) (all_oneCell_toArray (by intro u hu; simp at hu; rcases hu with rfl | rfl | rfl <;> rfl)) ?_
      generalize (w5.setCells w.heap.size 0 (#[.string s, .int .i64 a3, .int .i64 (F9 q).e] : Array Value).toList) = W6 at *
      clear HTH
      have z8 : W6.cell? ⟨gc, 8, none⟩ = some (.bool false) := Hc10.out.cell 8
      have f8 := Hc10.out.free 8
      go_upto_region 13 with fail
      clear z8 f8
      have hch : Hid (Chg gc W6 (W6.setCell ⟨gc, 8, none⟩ (.bool q.num.boolV))) := Lib.hid ((Chg.refl gc W6).set 8 (.bool q.num.boolV))
      have Hc11 : Hid (Blk (W6.setCell ⟨gc, 8, none⟩ (.bool q.num.boolV)) gc #[.int .i64 v0, .int .i64 v1, .int .i64 v2, .int .i64 v3, .int .i64 v4, .int .i64 v5, .int .i64 v6, .int .i64 q.numV, .bool q.num.boolV, .slice none 0 0, .slice none 0 0] 29) := Lib.hid (Hc10.out.set 8 (.bool q.num.boolV))
      have HB11 : Hid (Below w.heap.size w (W6.setCell ⟨gc, 8, none⟩ (.bool q.num.boolV))) := Lib.hid (HB10.out.setCell (p := ⟨gc, 8, none⟩) (by show w.heap.size ≤ gc; have h9 := HGL.out; have h8 := HGM.out; omega) (.bool q.num.boolV))
      have HZ11 : Hid (w.heap.size ≤ (W6.setCell ⟨gc, 8, none⟩ (.bool q.num.boolV)).heap.size) := Lib.hid (Nat.le_trans HZ10.out hch.out.size)
      have Hr11 := Lib.hid (Hr10.out.chg hch.out (by have h9 := HGL.out; have h8 := HGM.out; omega))
      have Hq11 := Lib.hid (Hq10.out.chg hch.out (by have h9 := HGL.out; have h8 := HGM.out; omega))
      have Hm11 := Lib.hid (Hm10.out.chg hch.out (by have h9 := HGL.out; have h8 := HGM.out; omega))
      clear hch Hr10 Hq10 Hm10 Hc10 HB10 HZ10
      generalize (W6.setCell ⟨gc, 8, none⟩ (.bool q.num.boolV)) = W7 at *
      have x0 : W7.cell? ⟨w.heap.size, 0, none⟩ = some (.string s) := Hr11.out.cell 0
      have x1 : W7.cell? ⟨w.heap.size, 1, none⟩ = some (.int .i64 a3) := Hr11.out.cell 1
      have x2 : W7.cell? ⟨w.heap.size, 2, none⟩ = some (.int .i64 (F9 q).e) := Hr11.out.cell 2
      have HG := Lib.hid (int_tie s a3 (F9 q) 0 1024 W7 HT3.out)
      unfold rdV at HG
      rw [show (F9 q).int 0 1024 = F10 q from rfl, (fLs_eq q).1] at HG
      go_wp2_with fail
      clear x0 x1 x2
      refine HG.out.mono ?_
      rintro y9 w8 ⟨a4, rfl, ht, hb⟩
      clear HG HT3
      have HT4 := Lib.hid ht
      clear ht
      have Hr12 := Lib.hid (Hr11.out.below hb Hr11.out.lt)
      have Hq12 := Lib.hid (Hq11.out.below hb Hq11.out.lt)
      have Hm12 := Lib.hid (Hm11.out.below hb Hm11.out.lt)
      have Hc12 := Lib.hid (Hc11.out.below hb Hc11.out.lt)
      have HB12 := Lib.hid (HB11.out.trans (hb.mono HB11.out.size))
      have HZ12 : Hid (w.heap.size ≤ w8.heap.size) := Lib.hid (Nat.le_trans HZ11.out hb.size)
      clear Hr11 Hq11 Hm11 Hc11 HB11 HZ11
      clear hb
      have HGC : Hid (gc < w8.heap.size) := Lib.hid Hc12.out.lt
      have hba := oneB w8 (.cells #[.string s, .int .i64 a4, .int .i64 (F10 q).e] 44)
      have Hr13 := Lib.hid (Hr12.out.below hba Hr12.out.lt)
      have Hq13 := Lib.hid (Hq12.out.below hba Hq12.out.lt)
      have Hm13 := Lib.hid (Hm12.out.below hba Hm12.out.lt)
      have Hc13 := Lib.hid (Hc12.out.below hba Hc12.out.lt)
      have Hx13 := Lib.hid (Blk.new w8 #[.string s, .int .i64 a4, .int .i64 (F10 q).e] 44)
      have HB13 := Lib.hid (HB12.out.alloc HB12.out.size (.cells #[.string s, .int .i64 a4, .int .i64 (F10 q).e] 44))
      have HZ13 : Hid (w.heap.size ≤ (w8.alloc (.cells #[.string s, .int .i64 a4, .int .i64 (F10 q).e] 44)).heap.size) := Lib.hid (Nat.le_trans HZ12.out hba.size)
      have HGg9 : Hid (w.heap.size ≤ w8.heap.size) := Lib.hid HB12.out.size
      clear hba Hr12 Hq12 Hm12 Hc12 HB12 HZ12
      go_upto_region 14 with fail
      generalize (w8.alloc (.cells #[.string s, .int .i64 a4, .int .i64 (F10 q).e] 44)) = W9 at *
      generalize hgg9 : w8.heap.size = g9 at *
      clear hgg9
      clear HGg9
      have x0 : W9.cell? ⟨g9, 0, none⟩ = some (.string s) := Hx13.out.cell 0
      have x1 : W9.cell? ⟨g9, 1, none⟩ = some (.int .i64 a4) := Hx13.out.cell 1
      have x2 : W9.cell? ⟨g9, 2, none⟩ = some (.int .i64 (F10 q).e) := Hx13.out.cell 2
      go_wp2_with (with_reducible refine stop_storeT 44 (.tmp 1) (.tmp 96) rfl ?_)
      clear x0 x1 x2
      have HTH : Hid (W9.there w.heap.size 0 3) := Hr13.out.thereAt
      have hch : Hid (Chg w.heap.size W9 (W9.setCells w.heap.size 0 (#[.string s, .int .i64 a4, .int .i64 (F10 q).e] : Array Value).toList)) := Lib.hid (chg_putL _ _ _ _ _ (Chg.refl _ W9))
      have Hr14 : Hid (Blk (W9.setCells w.heap.size 0 (#[.string s, .int .i64 a4, .int .i64 (F10 q).e] : Array Value).toList) w.heap.size #[.string s, .int .i64 a4, .int .i64 (F10 q).e] 44) := Lib.hid (blk_put_all Hr13.out _ rfl)
      have HB14 : Hid (Below w.heap.size w (W9.setCells w.heap.size 0 (#[.string s, .int .i64 a4, .int .i64 (F10 q).e] : Array Value).toList)) := Lib.hid (below_put (by have h9 := HGL.out; have h8 := HGM.out; have h7 := HGC.out; omega) _ _ _ _ HB13.out)
      have HZ14 : Hid (w.heap.size ≤ (W9.setCells w.heap.size 0 (#[.string s, .int .i64 a4, .int .i64 (F10 q).e] : Array Value).toList).heap.size) := Lib.hid (Nat.le_trans HZ13.out hch.out.size)
      have Hq14 := Lib.hid (Hq13.out.chg hch.out (by have h9 := HGL.out; have h8 := HGM.out; have h7 := HGC.out; omega))
      have Hm14 := Lib.hid (Hm13.out.chg hch.out (by have h9 := HGL.out; have h8 := HGM.out; have h7 := HGC.out; omega))
      have Hc14 := Lib.hid (Hc13.out.chg hch.out (by have h9 := HGL.out; have h8 := HGM.out; have h7 := HGC.out; omega))
      have Hx14 := Lib.hid (Hx13.out.chg hch.out (by have h9 := HGL.out; have h8 := HGM.out; have h7 := HGC.out; omega))
      clear hch Hr13 Hq13 Hm13 Hc13 Hx13 HB13 HZ13
      refine wpList_store_mid rfl 44 (.tmp 1) (.tmp 96) rfl w.heap.size 0 #[.string s, .int .i64 a4, .int .i64 (F10 q).e] rfl rfl HTH.out (infoRd rfl) (all_oneCell_toArray (by intro u hu; simp at hu; rcases hu with rfl | rfl | rfl <;> rfl)) ?_
      generalize (W9.setCells w.heap.size 0 (#[.string s, .int .i64 a4, .int .i64 (F10 q).e] : Array Value).toList) = WB at *
      clear HTH
      clear Hx14
      have HLC : Hid (gl < gc) := HGM
      clear HGC
      have HREL : Hid (Blk WB w.heap.size #[.string s, .int .i64 a4, .int .i64 ((F10 q).lins 0).e] 44 ∧ Blk WB (w.heap.size + 1) #[.string ⟨#[]⟩, .int .i64 0, .int .i64 0] 44 ∧ Blk WB (w.heap.size + 1 + 1) #[.int .i64 0, .int .i64 0, .int .i64 0, .int .i64 0, .int .i64 0, .int .i64 0, .int .i64 0, .int .i64 0, .bool false, .slice none 0 0, .slice none 0 0] 29 ∧ Blk WB gc #[.int .i64 v0, .int .i64 v1, .int .i64 v2, .int .i64 v3, .int .i64 v4, .int .i64 v5, .int .i64 v6, .int .i64 q.numV, .bool q.num.boolV, .slice none 0 0, .slice none 0 0] 29 ∧ OwnT encN WB (gc + 1) 49 (.slice none 0 0) (rdLins (F10 q) 0) ∧ Below w.heap.size w WB) := ⟨Hr14.out, Hq14.out, Hm14.out, Hc14.out, OwnT.nil_ _ _ _ _, HB14.out⟩
      have HT0 : Hid (TieR s a4 ((F10 q).lins 0)) := HT4
      clear HT4 Hr14 Hq14 Hm14 Hc14 HB14 HZ14
      go_upto_region 16 with fail
      go_loopw [11] (fun v wr => ∃ (i a : Nat) (pl : Option Addr) (cl : Nat), i ≤ fLs q ∧ v = .int .i64 i ∧ Hid (TieR s a ((F10 q).lins i)) ∧ Hid (Blk wr w.heap.size #[.string s, .int .i64 a, .int .i64 ((F10 q).lins i).e] 44 ∧ Blk wr (w.heap.size + 1) #[.string ⟨#[]⟩, .int .i64 0, .int .i64 0] 44 ∧ Blk wr (w.heap.size + 1 + 1) #[.int .i64 0, .int .i64 0, .int .i64 0, .int .i64 0, .int .i64 0, .int .i64 0, .int .i64 0, .int .i64 0, .bool false, .slice none 0 0, .slice none 0 0] 29 ∧ Blk wr gc #[.int .i64 v0, .int .i64 v1, .int .i64 v2, .int .i64 v3, .int .i64 v4, .int .i64 v5, .int .i64 v6, .int .i64 q.numV, .bool q.num.boolV, .slice pl i cl, .slice none 0 0] 29 ∧ OwnT encN wr (gc + 1) 49 (.slice pl i cl) (rdLins (F10 q) i) ∧ Below w.heap.size w wr)) (fun v _ => fLs q - (intOf v).toNat)
      case atStart => exact ⟨0, a4, none, 0, by omega, rfl, HT0, HREL⟩
      case round =>
        clear HREL HT0
        obtain ⟨i, a, pl, cl, hi, rfl, HT, HK⟩ := hrel
        have Hr15 := Lib.hid HK.out.1
        have Hq15 := Lib.hid HK.out.2.1
        have Hm15 := Lib.hid HK.out.2.2.1
        have Hc15 := Lib.hid HK.out.2.2.2.1
        have Sl15 := Lib.hid HK.out.2.2.2.2.1
        have HB15 := Lib.hid HK.out.2.2.2.2.2
        have HZ15 : Hid (w.heap.size ≤ wr.heap.size) := Lib.hid HB15.out.size
        clear HK
        have hi9 : i + 1 ≤ 1025 := by have h1 := (fLs_eq q).2; omega
        obtain ⟨q0, hq0⟩ : ∃ z, (F10 q).lins i = z := ⟨_, rfl⟩
        rw [hq0] at HT Hr15
        have HQ0 := Lib.hid hq0
        clear hq0
        by_cases hlt : i < fLs q
        · skip
          have hltI : (i : Int) < (fLs q : Int) := by omega
          by_cases he : q0.e = 0
          · skip
            have heb : (q0.e == 0) = true := by simpa using he
            clear he
            have x0 : wr.cell? ⟨w.heap.size, 0, none⟩ = some (.string s) := Hr15.out.cell 0
            have x1 : wr.cell? ⟨w.heap.size, 1, none⟩ = some (.int .i64 a) := Hr15.out.cell 1
            have x2 : wr.cell? ⟨w.heap.size, 2, none⟩ = some (.int .i64 q0.e) := Hr15.out.cell 2
            go_upto_region 18 with fail
            clear heb
            have HG := Lib.hid (int_tie s a q0 0 1073741824 wr HT.out)
            unfold rdV at HG
            rw [show q0.int 0 1073741824 = q0.nx from rfl, show q0.intV 0 1073741824 = q0.nV from rfl] at HG
            go_wp2_with fail
            clear x0 x1 x2
            refine HG.out.mono ?_
            rintro y9 u0 ⟨a2, rfl, ht, hb⟩
            clear HG HT
            have HT2 := Lib.hid ht
            clear ht
            have Hr16 := Lib.hid (Hr15.out.below hb Hr15.out.lt)
            have Hq16 := Lib.hid (Hq15.out.below hb Hq15.out.lt)
            have Hm16 := Lib.hid (Hm15.out.below hb Hm15.out.lt)
            have Hc16 := Lib.hid (Hc15.out.below hb Hc15.out.lt)
            have Sl16 := Lib.hid (Sl15.out.later hb)
            have HB16 := Lib.hid (HB15.out.trans (hb.mono HB15.out.size))
            have HZ16 : Hid (w.heap.size ≤ u0.heap.size) := Lib.hid (Nat.le_trans HZ15.out hb.size)
            clear Hr15 Hq15 Hm15 Hc15 Sl15 HB15 HZ15
            clear hb
            have hba := oneB u0 (.cells #[.string s, .int .i64 a2, .int .i64 q0.nx.e] 44)
            have Hr17 := Lib.hid (Hr16.out.below hba Hr16.out.lt)
            have Hq17 := Lib.hid (Hq16.out.below hba Hq16.out.lt)
            have Hm17 := Lib.hid (Hm16.out.below hba Hm16.out.lt)
            have Hc17 := Lib.hid (Hc16.out.below hba Hc16.out.lt)
            have Sl17 := Lib.hid (Sl16.out.later hba)
            have Hy017 := Lib.hid (Blk.new u0 #[.string s, .int .i64 a2, .int .i64 q0.nx.e] 44)
            have HB17 := Lib.hid (HB16.out.alloc HB16.out.size (.cells #[.string s, .int .i64 a2, .int .i64 q0.nx.e] 44))
            have HZ17 : Hid (w.heap.size ≤ (u0.alloc (.cells #[.string s, .int .i64 a2, .int .i64 q0.nx.e] 44)).heap.size) := Lib.hid (Nat.le_trans HZ16.out hba.size)
            have HGh0 : Hid (w.heap.size ≤ u0.heap.size) := Lib.hid HB16.out.size
            clear hba Hr16 Hq16 Hm16 Hc16 Sl16 HB16 HZ16
            go_upto_region 19 with fail
            generalize (u0.alloc (.cells #[.string s, .int .i64 a2, .int .i64 q0.nx.e] 44)) = U0 at *
            generalize hgh0 : u0.heap.size = h0 at *
            clear hgh0
            clear HGh0
            have x0 : U0.cell? ⟨h0, 0, none⟩ = some (.string s) := Hy017.out.cell 0
            have x1 : U0.cell? ⟨h0, 1, none⟩ = some (.int .i64 a2) := Hy017.out.cell 1
            have x2 : U0.cell? ⟨h0, 2, none⟩ = some (.int .i64 q0.nx.e) := Hy017.out.cell 2
            have HG := Lib.hid (int_tie s a2 q0.nx 0 1073741824 U0 HT2.out)
            unfold rdV at HG
            rw [show q0.nx.int 0 1073741824 = q0.nx.nx from rfl, show q0.nx.intV 0 1073741824 = q0.nx.nV from rfl] at HG
            go_wp2_with fail
            clear x0 x1 x2
            refine HG.out.mono ?_
            rintro y9 u1 ⟨a3, rfl, ht, hb⟩
            clear HG HT2
            have HT3 := Lib.hid ht
            clear ht
            have Hr18 := Lib.hid (Hr17.out.below hb Hr17.out.lt)
            have Hq18 := Lib.hid (Hq17.out.below hb Hq17.out.lt)
            have Hm18 := Lib.hid (Hm17.out.below hb Hm17.out.lt)
            have Hc18 := Lib.hid (Hc17.out.below hb Hc17.out.lt)
            have Hy018 := Lib.hid (Hy017.out.below hb Hy017.out.lt)
            have Sl18 := Lib.hid (Sl17.out.later hb)
            have HB18 := Lib.hid (HB17.out.trans (hb.mono HB17.out.size))
            have HZ18 : Hid (w.heap.size ≤ u1.heap.size) := Lib.hid (Nat.le_trans HZ17.out hb.size)
            clear Hr17 Hq17 Hm17 Hc17 Hy017 Sl17 HB17 HZ17
            clear hb
            clear Hy018
            have hba := oneB u1 (.cells #[.string s, .int .i64 a3, .int .i64 q0.nx.nx.e] 44)
            have Hr19 := Lib.hid (Hr18.out.below hba Hr18.out.lt)
            have Hq19 := Lib.hid (Hq18.out.below hba Hq18.out.lt)
            have Hm19 := Lib.hid (Hm18.out.below hba Hm18.out.lt)
            have Hc19 := Lib.hid (Hc18.out.below hba Hc18.out.lt)
            have Sl19 := Lib.hid (Sl18.out.later hba)
            have Hy119 := Lib.hid (Blk.new u1 #[.string s, .int .i64 a3, .int .i64 q0.nx.nx.e] 44)
            have HB19 := Lib.hid (HB18.out.alloc HB18.out.size (.cells #[.string s, .int .i64 a3, .int .i64 q0.nx.nx.e] 44))
            have HZ19 : Hid (w.heap.size ≤ (u1.alloc (.cells #[.string s, .int .i64 a3, .int .i64 q0.nx.nx.e] 44)).heap.size) := Lib.hid (Nat.le_trans HZ18.out hba.size)
            have HGh1 : Hid (w.heap.size ≤ u1.heap.size) := Lib.hid HB18.out.size
            clear hba Hr18 Hq18 Hm18 Hc18 Sl18 HB18 HZ18
            go_upto_region 20 with fail
            generalize (u1.alloc (.cells #[.string s, .int .i64 a3, .int .i64 q0.nx.nx.e] 44)) = U1 at *
            generalize hgh1 : u1.heap.size = h1 at *
            clear hgh1
            clear HGh1
            have x0 : U1.cell? ⟨h1, 0, none⟩ = some (.string s) := Hy119.out.cell 0
            have x1 : U1.cell? ⟨h1, 1, none⟩ = some (.int .i64 a3) := Hy119.out.cell 1
            have x2 : U1.cell? ⟨h1, 2, none⟩ = some (.int .i64 q0.nx.nx.e) := Hy119.out.cell 2
            have HG := Lib.hid (int_tie s a3 q0.nx.nx 0 1073741824 U1 HT3.out)
            unfold rdV at HG
            rw [show q0.nx.nx.int 0 1073741824 = q0.nx.nx.nx from rfl, show q0.nx.nx.intV 0 1073741824 = q0.nx.nx.nV from rfl] at HG
            go_wp2_with fail
            clear x0 x1 x2
            refine HG.out.mono ?_
            rintro y9 u2 ⟨a4, rfl, ht, hb⟩
            clear HG HT3
            have HT4 := Lib.hid ht
            clear ht
            have Hr20 := Lib.hid (Hr19.out.below hb Hr19.out.lt)
            have Hq20 := Lib.hid (Hq19.out.below hb Hq19.out.lt)
            have Hm20 := Lib.hid (Hm19.out.below hb Hm19.out.lt)
            have Hc20 := Lib.hid (Hc19.out.below hb Hc19.out.lt)
            have Hy120 := Lib.hid (Hy119.out.below hb Hy119.out.lt)
            have Sl20 := Lib.hid (Sl19.out.later hb)
            have HB20 := Lib.hid (HB19.out.trans (hb.mono HB19.out.size))
            have HZ20 : Hid (w.heap.size ≤ u2.heap.size) := Lib.hid (Nat.le_trans HZ19.out hb.size)
            clear Hr19 Hq19 Hm19 Hc19 Hy119 Sl19 HB19 HZ19
            clear hb
            clear Hy120
            have hba := oneB u2 (.cells #[.string s, .int .i64 a4, .int .i64 q0.nx.nx.nx.e] 44)
            have Hr21 := Lib.hid (Hr20.out.below hba Hr20.out.lt)
            have Hq21 := Lib.hid (Hq20.out.below hba Hq20.out.lt)
            have Hm21 := Lib.hid (Hm20.out.below hba Hm20.out.lt)
            have Hc21 := Lib.hid (Hc20.out.below hba Hc20.out.lt)
            have Sl21 := Lib.hid (Sl20.out.later hba)
            have Hy221 := Lib.hid (Blk.new u2 #[.string s, .int .i64 a4, .int .i64 q0.nx.nx.nx.e] 44)
            have HB21 := Lib.hid (HB20.out.alloc HB20.out.size (.cells #[.string s, .int .i64 a4, .int .i64 q0.nx.nx.nx.e] 44))
            have HZ21 : Hid (w.heap.size ≤ (u2.alloc (.cells #[.string s, .int .i64 a4, .int .i64 q0.nx.nx.nx.e] 44)).heap.size) := Lib.hid (Nat.le_trans HZ20.out hba.size)
            have HGh2 : Hid (w.heap.size ≤ u2.heap.size) := Lib.hid HB20.out.size
            clear hba Hr20 Hq20 Hm20 Hc20 Sl20 HB20 HZ20
            go_upto_region 21 with fail
            generalize (u2.alloc (.cells #[.string s, .int .i64 a4, .int .i64 q0.nx.nx.nx.e] 44)) = U2 at *
            generalize hgh2 : u2.heap.size = h2 at *
            clear hgh2
            clear HGh2
            have x0 : U2.cell? ⟨h2, 0, none⟩ = some (.string s) := Hy221.out.cell 0
            have x1 : U2.cell? ⟨h2, 1, none⟩ = some (.int .i64 a4) := Hy221.out.cell 1
            have x2 : U2.cell? ⟨h2, 2, none⟩ = some (.int .i64 q0.nx.nx.nx.e) := Hy221.out.cell 2
            have HG := Lib.hid (number_tie s a4 q0.nx.nx.nx U2 HT4.out)
            unfold rdV at HG
            rw [show q0.nx.nx.nx.num = q0.lin from rfl] at HG
            go_wp2_with fail
            clear x0 x1 x2
            refine HG.out.mono ?_
            rintro y9 u3 ⟨a5, rfl, ht, hb⟩
            clear HG HT4
            have HT5 := Lib.hid ht
            clear ht
            have Hr22 := Lib.hid (Hr21.out.below hb Hr21.out.lt)
            have Hq22 := Lib.hid (Hq21.out.below hb Hq21.out.lt)
            have Hm22 := Lib.hid (Hm21.out.below hb Hm21.out.lt)
            have Hc22 := Lib.hid (Hc21.out.below hb Hc21.out.lt)
            have Hy222 := Lib.hid (Hy221.out.below hb Hy221.out.lt)
            have Sl22 := Lib.hid (Sl21.out.later hb)
            have HB22 := Lib.hid (HB21.out.trans (hb.mono HB21.out.size))
            have HZ22 : Hid (w.heap.size ≤ u3.heap.size) := Lib.hid (Nat.le_trans HZ21.out hb.size)
            clear Hr21 Hq21 Hm21 Hc21 Hy221 Sl21 HB21 HZ21
            clear hb
            clear Hy222
            have HGX : Hid (gc < u3.heap.size) := Lib.hid Hc22.out.lt
            have hba := oneB u3 (.cells #[.string s, .int .i64 a5, .int .i64 q0.lin.e] 44)
            have Hr23 := Lib.hid (Hr22.out.below hba Hr22.out.lt)
            have Hq23 := Lib.hid (Hq22.out.below hba Hq22.out.lt)
            have Hm23 := Lib.hid (Hm22.out.below hba Hm22.out.lt)
            have Hc23 := Lib.hid (Hc22.out.below hba Hc22.out.lt)
            have Sl23 := Lib.hid (Sl22.out.later hba)
            have Hy323 := Lib.hid (Blk.new u3 #[.string s, .int .i64 a5, .int .i64 q0.lin.e] 44)
            have HB23 := Lib.hid (HB22.out.alloc HB22.out.size (.cells #[.string s, .int .i64 a5, .int .i64 q0.lin.e] 44))
            have HZ23 : Hid (w.heap.size ≤ (u3.alloc (.cells #[.string s, .int .i64 a5, .int .i64 q0.lin.e] 44)).heap.size) := Lib.hid (Nat.le_trans HZ22.out hba.size)
            have HGh3 : Hid (w.heap.size ≤ u3.heap.size) := Lib.hid HB22.out.size
            clear hba Hr22 Hq22 Hm22 Hc22 Sl22 HB22 HZ22
            go_upto_region 22 with fail
            generalize (u3.alloc (.cells #[.string s, .int .i64 a5, .int .i64 q0.lin.e] 44)) = U3 at *
            generalize hgh3 : u3.heap.size = h3 at *
            clear hgh3
            clear HGh3
            have x0 : U3.cell? ⟨h3, 0, none⟩ = some (.string s) := Hy323.out.cell 0
            have x1 : U3.cell? ⟨h3, 1, none⟩ = some (.int .i64 a5) := Hy323.out.cell 1
            have x2 : U3.cell? ⟨h3, 2, none⟩ = some (.int .i64 q0.lin.e) := Hy323.out.cell 2
            go_wp2_with (with_reducible refine stop_storeT 44 (.tmp 1) (.tmp 127) rfl ?_)
            clear x0 x1 x2
            have HTH : Hid (U3.there w.heap.size 0 3) := Hr23.out.thereAt
            have hch : Hid (Chg w.heap.size U3 (U3.setCells w.heap.size 0 (#[.string s, .int .i64 a5, .int .i64 q0.lin.e] : Array Value).toList)) := Lib.hid (chg_putL _ _ _ _ _ (Chg.refl _ U3))
            have Hr24 : Hid (Blk (U3.setCells w.heap.size 0 (#[.string s, .int .i64 a5, .int .i64 q0.lin.e] : Array Value).toList) w.heap.size #[.string s, .int .i64 a5, .int .i64 q0.lin.e] 44) := Lib.hid (blk_put_all Hr23.out _ rfl)
            have HB24 : Hid (Below w.heap.size w (U3.setCells w.heap.size 0 (#[.string s, .int .i64 a5, .int .i64 q0.lin.e] : Array Value).toList)) := Lib.hid (below_put (by have h9 := HGL.out; have h8 := HLC.out; have h7 := HGX.out; omega) _ _ _ _ HB23.out)
            have HZ24 : Hid (w.heap.size ≤ (U3.setCells w.heap.size 0 (#[.string s, .int .i64 a5, .int .i64 q0.lin.e] : Array Value).toList).heap.size) := Lib.hid (Nat.le_trans HZ23.out hch.out.size)
            have Hq24 := Lib.hid (Hq23.out.chg hch.out (by have h9 := HGL.out; have h8 := HLC.out; have h7 := HGX.out; omega))
            have Hm24 := Lib.hid (Hm23.out.chg hch.out (by have h9 := HGL.out; have h8 := HLC.out; have h7 := HGX.out; omega))
            have Hc24 := Lib.hid (Hc23.out.chg hch.out (by have h9 := HGL.out; have h8 := HLC.out; have h7 := HGX.out; omega))
            have Hy324 := Lib.hid (Hy323.out.chg hch.out (by have h9 := HGL.out; have h8 := HLC.out; have h7 := HGX.out; omega))
            have Sl24 := Lib.hid (Sl23.out.stay (fun b hb => hch.out.2 b (Sl23.out.lt b hb) (by have h1 := Sl23.out.block_ge b hb; have h9 := HGL.out; have h8 := HLC.out; have h7 := HGX.out; omega)))
            clear hch Hr23 Hq23 Hm23 Hc23 Hy323 Sl23 HB23 HZ23
            refine wpList_store_mid rfl 44 (.tmp 1) (.tmp 127) rfl w.heap.size 0 #[.string s, .int .i64 a5, .int .i64 q0.lin.e] rfl rfl HTH.out (infoRd rfl) (all_oneCell_toArray (by intro u hu; simp at hu; rcases hu with rfl | rfl | rfl <;> rfl)) ?_
            generalize (U3.setCells w.heap.size 0 (#[.string s, .int .i64 a5, .int .i64 q0.lin.e] : Array Value).toList) = Z1 at *
            clear HTH
            clear Hy324
            have x9 : Z1.cell? ⟨gc, 9, none⟩ = some (.slice pl i cl) := Hc24.out.cell 9
            go_wp2_with (at_builtin; with_reducible refine stop_appN (.tmp 129) (.tmp 136) 26 rfl ?_)
            clear x9
            have hb1 := oneB Z1 (.cells #[.int .i64 q0.nV, .int .i64 q0.nx.nV, .int .i64 q0.nx.nx.nV, .int .i64 q0.nx.nx.nx.numV] 49)
            have HLB : Hid (gc + 1 ≤ (Z1.alloc (.cells #[.int .i64 q0.nV, .int .i64 q0.nx.nV, .int .i64 q0.nx.nx.nV, .int .i64 q0.nx.nx.nx.numV] 49)).heap.size) := Lib.hid (by have h1 := Hc24.out.lt; have h2 := hb1.size; omega)
            refine wpList_append_t rfl (.tmp 129) (.tmp 136) 26 rfl 49 zeroVN 32 (gc + 1) eltN rfl (by decide) (.slice pl i cl) (.slice (some ⟨Z1.heap.size, 0, none⟩) 1 1) (rdLins (F10 q) i) [rdLin q0] rfl rfl (Sl24.out.later hb1) (TRow.one_ encN (rdLin q0) (Blk.new Z1 #[.int .i64 q0.nV, .int .i64 q0.nx.nV, .int .i64 q0.nx.nx.nV, .int .i64 q0.nx.nx.nx.numV] 49) rfl (Nat.le_refl _)) (by rw [rdLins_len]; simp; omega) HLB.out (rdLins (F10 q) (i + 1)) (i + 1) (by rw [← HQ0.out]; rfl) (rdLins_len _ _) ?_
            intro p3 c3 Z2 ho _ hb2
            have Hr25 := Lib.hid ((Hr24.out.below hb1 Hr24.out.lt).below hb2 (by have h9 := HGL.out; have h8 := HLC.out; omega))
            have Hq25 := Lib.hid ((Hq24.out.below hb1 Hq24.out.lt).below hb2 (by have h9 := HGL.out; have h8 := HLC.out; omega))
            have Hm25 := Lib.hid ((Hm24.out.below hb1 Hm24.out.lt).below hb2 (by have h9 := HGL.out; have h8 := HLC.out; omega))
            have Hc25 := Lib.hid ((Hc24.out.below hb1 Hc24.out.lt).below hb2 (by have h9 := HGL.out; have h8 := HLC.out; omega))
            have Sl25 := Lib.hid ho
            have HB25 := Lib.hid (HB24.out.trans ((hb1.mono HB24.out.size).trans (hb2.mono (by have h9 := HGL.out; have h8 := HLC.out; have h7 := HWG.out; omega))))
            have HZ25 : Hid (w.heap.size ≤ Z2.heap.size) := Lib.hid HB25.out.size
            clear ho hb1 hb2 HLB Hr24 Hq24 Hm24 Hc24 Sl24 HB24 HZ24
            have z9 : Z2.cell? ⟨gc, 9, none⟩ = some (.slice pl i cl) := Hc25.out.cell 9
            have f9 := Hc25.out.free 9
            go_upto_region 17 with fail
            clear z9 f9
            have hch : Hid (Chg gc Z2 (Z2.setCell ⟨gc, 9, none⟩ (.slice p3 (i + 1) c3))) := Lib.hid ((Chg.refl gc Z2).set 9 (.slice p3 (i + 1) c3))
            have Hc26 : Hid (Blk (Z2.setCell ⟨gc, 9, none⟩ (.slice p3 (i + 1) c3)) gc #[.int .i64 v0, .int .i64 v1, .int .i64 v2, .int .i64 v3, .int .i64 v4, .int .i64 v5, .int .i64 v6, .int .i64 q.numV, .bool q.num.boolV, .slice p3 (i + 1) c3, .slice none 0 0] 29) := Lib.hid (Hc25.out.set 9 (.slice p3 (i + 1) c3))
            have HB26 : Hid (Below w.heap.size w (Z2.setCell ⟨gc, 9, none⟩ (.slice p3 (i + 1) c3))) := Lib.hid (HB25.out.setCell (p := ⟨gc, 9, none⟩) (by show w.heap.size ≤ gc; have h9 := HGL.out; have h8 := HLC.out; have h7 := HGX.out; omega) (.slice p3 (i + 1) c3))
            have HZ26 : Hid (w.heap.size ≤ (Z2.setCell ⟨gc, 9, none⟩ (.slice p3 (i + 1) c3)).heap.size) := Lib.hid (Nat.le_trans HZ25.out hch.out.size)
            have Hr26 := Lib.hid (Hr25.out.chg hch.out (by have h9 := HGL.out; have h8 := HLC.out; have h7 := HGX.out; omega))
            have Hq26 := Lib.hid (Hq25.out.chg hch.out (by have h9 := HGL.out; have h8 := HLC.out; have h7 := HGX.out; omega))
            have Hm26 := Lib.hid (Hm25.out.chg hch.out (by have h9 := HGL.out; have h8 := HLC.out; have h7 := HGX.out; omega))
            have Sl26 := Lib.hid (Sl25.out.stay (fun b hb => hch.out.2 b (Sl25.out.lt b hb) (by have h1 := Sl25.out.block_ge b hb; have h9 := HGL.out; have h8 := HLC.out; have h7 := HGX.out; omega)))
            clear hch Hr25 Hq25 Hm25 Hc25 Sl25 HB25 HZ25
            generalize (Z2.setCell ⟨gc, 9, none⟩ (.slice p3 (i + 1) c3)) = Z3 at *
            have HNX : Hid (Blk Z3 w.heap.size #[.string s, .int .i64 a5, .int .i64 ((F10 q).lins (i + 1)).e] 44 ∧ Blk Z3 (w.heap.size + 1) #[.string ⟨#[]⟩, .int .i64 0, .int .i64 0] 44 ∧ Blk Z3 (w.heap.size + 1 + 1) #[.int .i64 0, .int .i64 0, .int .i64 0, .int .i64 0, .int .i64 0, .int .i64 0, .int .i64 0, .int .i64 0, .bool false, .slice none 0 0, .slice none 0 0] 29 ∧ Blk Z3 gc #[.int .i64 v0, .int .i64 v1, .int .i64 v2, .int .i64 v3, .int .i64 v4, .int .i64 v5, .int .i64 v6, .int .i64 q.numV, .bool q.num.boolV, .slice p3 (i + 1) c3, .slice none 0 0] 29 ∧ OwnT encN Z3 (gc + 1) 49 (.slice p3 (i + 1) c3) (rdLins (F10 q) (i + 1)) ∧ Below w.heap.size w Z3) := by
              rw [show (F10 q).lins (i + 1) = ((F10 q).lins i).lin from rfl, HQ0.out]
              exact Lib.hid ⟨Hr26.out, Hq26.out, Hm26.out, Hc26.out, Sl26.out, HB26.out⟩
            have HTN : Hid (TieR s a5 ((F10 q).lins (i + 1))) := by
              rw [show (F10 q).lins (i + 1) = ((F10 q).lins i).lin from rfl, HQ0.out]
              exact HT5
            clear HT5 HQ0 Hr26 Hq26 Hm26 Hc26 Sl26 HB26 HZ26
            go_wp2_with fail
            go_roundw
            case rel => exact ⟨i + 1, a5, p3, c3, by omega, by go_num, HTN, HNX⟩
            case measure => simp [intOf]; omega
          · skip
            have heb : (q0.e == 0) = false := by simpa using he
            have HE0 := Lib.hid he
            clear he
            have x2 : wr.cell? ⟨w.heap.size, 2, none⟩ = some (.int .i64 q0.e) := Hr15.out.cell 2
            have HAL : Hid (AtL r q q0 i) := Lib.hid ⟨HQ.out, hi, HQ0.out, .inr HE0.out⟩
            clear HE0 HQ0
            obtain ⟨nn, hnn, hnn8⟩ : ∃ nn : Nat, q0.intV 0 8 = (nn : Int) ∧ nn ≤ 8 := ⟨(q0.intV 0 8).toNat, by have h1 := q0.intV_fits (a := 0) (b := 8) (by decide) (by decide); omega⟩
            obtain ⟨q1, hq1⟩ : ∃ z, q0.int 0 8 = z := ⟨_, rfl⟩
            have x0 : wr.cell? ⟨w.heap.size, 0, none⟩ = some (.string s) := Hr15.out.cell 0
            have x1 : wr.cell? ⟨w.heap.size, 1, none⟩ = some (.int .i64 a) := Hr15.out.cell 1
            have x2 : wr.cell? ⟨w.heap.size, 2, none⟩ = some (.int .i64 q0.e) := Hr15.out.cell 2
            have HG := Lib.hid (int_tie s a q0 0 8 wr HT.out)
            unfold rdV at HG
            rw [hnn, hq1] at HG
            have HNN := Lib.hid hnn
            have HQ1 := Lib.hid hq1
            clear hnn hq1
            go_wp2_with fail
            clear x0 x1 x2
            refine HG.out.mono ?_
            rintro y9 n2 ⟨a2, rfl, ht, hb⟩
            clear HG HT
            have HT2 := Lib.hid ht
            clear ht
            have Hr16 := Lib.hid (Hr15.out.below hb Hr15.out.lt)
            have Hq16 := Lib.hid (Hq15.out.below hb Hq15.out.lt)
            have Hm16 := Lib.hid (Hm15.out.below hb Hm15.out.lt)
            have Hc16 := Lib.hid (Hc15.out.below hb Hc15.out.lt)
            have Sl16 := Lib.hid (Sl15.out.later hb)
            have HB16 := Lib.hid (HB15.out.trans (hb.mono HB15.out.size))
            have HZ16 : Hid (w.heap.size ≤ n2.heap.size) := Lib.hid (Nat.le_trans HZ15.out hb.size)
            clear Hr15 Hq15 Hm15 Hc15 Sl15 HB15 HZ15
            clear hb
            have HGX : Hid (gc < n2.heap.size) := Lib.hid Hc16.out.lt
            have hba := oneB n2 (.cells #[.string s, .int .i64 a2, .int .i64 q1.e] 44)
            have Hr17 := Lib.hid (Hr16.out.below hba Hr16.out.lt)
            have Hq17 := Lib.hid (Hq16.out.below hba Hq16.out.lt)
            have Hm17 := Lib.hid (Hm16.out.below hba Hm16.out.lt)
            have Hc17 := Lib.hid (Hc16.out.below hba Hc16.out.lt)
            have Sl17 := Lib.hid (Sl16.out.later hba)
            have Hx17 := Lib.hid (Blk.new n2 #[.string s, .int .i64 a2, .int .i64 q1.e] 44)
            have HB17 := Lib.hid (HB16.out.alloc HB16.out.size (.cells #[.string s, .int .i64 a2, .int .i64 q1.e] 44))
            have HZ17 : Hid (w.heap.size ≤ (n2.alloc (.cells #[.string s, .int .i64 a2, .int .i64 q1.e] 44)).heap.size) := Lib.hid (Nat.le_trans HZ16.out hba.size)
            have HGgx : Hid (w.heap.size ≤ n2.heap.size) := Lib.hid HB16.out.size
            clear hba Hr16 Hq16 Hm16 Hc16 Sl16 HB16 HZ16
            go_upto_region 25 with fail
            generalize (n2.alloc (.cells #[.string s, .int .i64 a2, .int .i64 q1.e] 44)) = N3 at *
            generalize hggx : n2.heap.size = gx at *
            clear hggx
            clear HGgx
            have x0 : N3.cell? ⟨gx, 0, none⟩ = some (.string s) := Hx17.out.cell 0
            have x1 : N3.cell? ⟨gx, 1, none⟩ = some (.int .i64 a2) := Hx17.out.cell 1
            have x2 : N3.cell? ⟨gx, 2, none⟩ = some (.int .i64 q1.e) := Hx17.out.cell 2
            go_wp2_with (with_reducible refine stop_storeT 44 (.tmp 1) (.tmp 144) rfl ?_)
            clear x0 x1 x2
            have HTH : Hid (N3.there w.heap.size 0 3) := Hr17.out.thereAt
            have hch : Hid (Chg w.heap.size N3 (N3.setCells w.heap.size 0 (#[.string s, .int .i64 a2, .int .i64 q1.e] : Array Value).toList)) := Lib.hid (chg_putL _ _ _ _ _ (Chg.refl _ N3))
            have Hr18 : Hid (Blk (N3.setCells w.heap.size 0 (#[.string s, .int .i64 a2, .int .i64 q1.e] : Array Value).toList) w.heap.size #[.string s, .int .i64 a2, .int .i64 q1.e] 44) := Lib.hid (blk_put_all Hr17.out _ rfl)
            have HB18 : Hid (Below w.heap.size w (N3.setCells w.heap.size 0 (#[.string s, .int .i64 a2, .int .i64 q1.e] : Array Value).toList)) := Lib.hid (below_put (by have h9 := HGL.out; have h8 := HLC.out; have h7 := HGX.out; omega) _ _ _ _ HB17.out)
            have HZ18 : Hid (w.heap.size ≤ (N3.setCells w.heap.size 0 (#[.string s, .int .i64 a2, .int .i64 q1.e] : Array Value).toList).heap.size) := Lib.hid (Nat.le_trans HZ17.out hch.out.size)
            have Hq18 := Lib.hid (Hq17.out.chg hch.out (by have h9 := HGL.out; have h8 := HLC.out; have h7 := HGX.out; omega))
            have Hm18 := Lib.hid (Hm17.out.chg hch.out (by have h9 := HGL.out; have h8 := HLC.out; have h7 := HGX.out; omega))
            have Hc18 := Lib.hid (Hc17.out.chg hch.out (by have h9 := HGL.out; have h8 := HLC.out; have h7 := HGX.out; omega))
            have Hx18 := Lib.hid (Hx17.out.chg hch.out (by have h9 := HGL.out; have h8 := HLC.out; have h7 := HGX.out; omega))
            have Sl18 := Lib.hid (Sl17.out.stay (fun b hb => hch.out.2 b (Sl17.out.lt b hb) (by have h1 := Sl17.out.block_ge b hb; have h9 := HGL.out; have h8 := HLC.out; have h7 := HGX.out; omega)))
            clear hch Hr17 Hq17 Hm17 Hc17 Hx17 Sl17 HB17 HZ17
            refine wpList_store_mid rfl 44 (.tmp 1) (.tmp 144) rfl w.heap.size 0 #[.string s, .int .i64 a2, .int .i64 q1.e] rfl rfl HTH.out (infoRd rfl) (all_oneCell_toArray (by intro u hu; simp at hu; rcases hu with rfl | rfl | rfl <;> rfl)) ?_
            generalize (N3.setCells w.heap.size 0 (#[.string s, .int .i64 a2, .int .i64 q1.e] : Array Value).toList) = N4 at *
            clear HTH
            clear Hx18
            obtain ⟨B, hB⟩ : ∃ B, N4.heap.size = B := ⟨_, rfl⟩
            have HBB : Hid (gc < B) := Lib.hid (by rw [← hB]; exact Hc18.out.lt)
            have HLB : Hid (∀ b, (Value.slice pl i cl).ownBlock = some b → b < B) := Lib.hid (by rw [← hB]; exact Sl18.out.lt)
            have HBN : Hid (B ≤ N4.heap.size) := Lib.hid (Nat.le_of_eq hB.symm)
            clear hB HGX
            have HREL : Hid (Blk N4 w.heap.size #[.string s, .int .i64 a2, .int .i64 (q1.nets 0).e] 44 ∧ Blk N4 (w.heap.size + 1) #[.string ⟨#[]⟩, .int .i64 0, .int .i64 0] 44 ∧ Blk N4 (w.heap.size + 1 + 1) #[.int .i64 0, .int .i64 0, .int .i64 0, .int .i64 0, .int .i64 0, .int .i64 0, .int .i64 0, .int .i64 0, .bool false, .slice none 0 0, .slice none 0 0] 29 ∧ Blk N4 gc #[.int .i64 v0, .int .i64 v1, .int .i64 v2, .int .i64 v3, .int .i64 v4, .int .i64 v5, .int .i64 v6, .int .i64 q.numV, .bool q.num.boolV, .slice pl i cl, .slice none 0 0] 29 ∧ OwnT encN N4 (gc + 1) 49 (.slice pl i cl) (rdLins (F10 q) i) ∧ NRw N4 B (.slice none 0 0) (rdNets q1 0) ∧ Below w.heap.size w N4) := ⟨Hr18.out, Hq18.out, Hm18.out, Hc18.out, Sl18.out, Own.nil_ _ _ _ _, HB18.out⟩
            have HT0 : Hid (TieR s a2 (q1.nets 0)) := HT2
            clear HT2 Hr18 Hq18 Hm18 Hc18 Sl18 HB18 HZ18
            go_upto_region 27 with fail
            go_loopw [22] (fun v wr => ∃ (j a : Nat) (pn : Option Addr) (cn : Nat), j ≤ nn ∧ v = .int .i64 j ∧ Hid (TieR s a (q1.nets j)) ∧ Hid (B ≤ wr.heap.size) ∧ Hid (Blk wr w.heap.size #[.string s, .int .i64 a, .int .i64 (q1.nets j).e] 44 ∧ Blk wr (w.heap.size + 1) #[.string ⟨#[]⟩, .int .i64 0, .int .i64 0] 44 ∧ Blk wr (w.heap.size + 1 + 1) #[.int .i64 0, .int .i64 0, .int .i64 0, .int .i64 0, .int .i64 0, .int .i64 0, .int .i64 0, .int .i64 0, .bool false, .slice none 0 0, .slice none 0 0] 29 ∧ Blk wr gc #[.int .i64 v0, .int .i64 v1, .int .i64 v2, .int .i64 v3, .int .i64 v4, .int .i64 v5, .int .i64 v6, .int .i64 q.numV, .bool q.num.boolV, .slice pl i cl, .slice pn j cn] 29 ∧ OwnT encN wr (gc + 1) 49 (.slice pl i cl) (rdLins (F10 q) i) ∧ NRw wr B (.slice pn j cn) (rdNets q1 j) ∧ Below w.heap.size w wr)) (fun v _ => nn - (intOf v).toNat)
            case atStart => exact ⟨0, a2, none, 0, by omega, rfl, HT0, HBN, HREL⟩
            case round =>
              clear HREL HT0 HBN
              obtain ⟨j, a, pn, cn, hj, rfl, HT, HBW, HK⟩ := hrel
              have Hr19 := Lib.hid HK.out.1
              have Hq19 := Lib.hid HK.out.2.1
              have Hm19 := Lib.hid HK.out.2.2.1
              have Hc19 := Lib.hid HK.out.2.2.2.1
              have Sl19 := Lib.hid HK.out.2.2.2.2.1
              have Qn19 := Lib.hid HK.out.2.2.2.2.2.1
              have HB19 := Lib.hid HK.out.2.2.2.2.2.2
              have HZ19 : Hid (w.heap.size ≤ wr.heap.size) := Lib.hid HB19.out.size
              clear HK
              obtain ⟨q2, hq2⟩ : ∃ z, q1.nets j = z := ⟨_, rfl⟩
              rw [hq2] at HT Hr19
              have HQ2 := Lib.hid hq2
              clear hq2
              by_cases he : q2.e = 0
              · skip
                have heb : (q2.e == 0) = true := by simpa using he
                have hen : (q2.e != 0) = false := by simp [he]
                have HE2 := Lib.hid he
                clear he
                by_cases hlt : j < nn
                · skip
                  have hltI : (j : Int) < (nn : Int) := by omega
                  clear hen HE2
                  have x0 : wr.cell? ⟨w.heap.size, 0, none⟩ = some (.string s) := Hr19.out.cell 0
                  have x1 : wr.cell? ⟨w.heap.size, 1, none⟩ = some (.int .i64 a) := Hr19.out.cell 1
                  have x2 : wr.cell? ⟨w.heap.size, 2, none⟩ = some (.int .i64 q2.e) := Hr19.out.cell 2
                  go_upto_region 29 with fail
                  clear heb
                  have HG := Lib.hid (number_tie s a q2 wr HT.out)
                  unfold rdV at HG
                  go_wp2_with fail
                  clear x0 x1 x2
                  refine HG.out.mono ?_
                  rintro y9 u0 ⟨a3, rfl, ht, hb⟩
                  clear HG HT
                  have HT3 := Lib.hid ht
                  clear ht
                  have HBU : Hid (B ≤ u0.heap.size) := Lib.hid (Nat.le_trans HBW.out hb.size)
                  clear HBW
                  have Hr20 := Lib.hid (Hr19.out.below hb Hr19.out.lt)
                  have Hq20 := Lib.hid (Hq19.out.below hb Hq19.out.lt)
                  have Hm20 := Lib.hid (Hm19.out.below hb Hm19.out.lt)
                  have Hc20 := Lib.hid (Hc19.out.below hb Hc19.out.lt)
                  have Qn20 := Lib.hid (Qn19.out.kept hb)
                  have Sl20 := Lib.hid (Sl19.out.later hb)
                  have HB20 := Lib.hid (HB19.out.trans (hb.mono HB19.out.size))
                  have HZ20 : Hid (w.heap.size ≤ u0.heap.size) := Lib.hid (Nat.le_trans HZ19.out hb.size)
                  clear Hr19 Hq19 Hm19 Hc19 Qn19 Sl19 HB19 HZ19
                  clear hb
                  have HGX : Hid (gc < u0.heap.size) := Lib.hid Hc20.out.lt
                  have hba := oneB u0 (.cells #[.string s, .int .i64 a3, .int .i64 q2.num.e] 44)
                  have Hr21 := Lib.hid (Hr20.out.below hba Hr20.out.lt)
                  have Hq21 := Lib.hid (Hq20.out.below hba Hq20.out.lt)
                  have Hm21 := Lib.hid (Hm20.out.below hba Hm20.out.lt)
                  have Hc21 := Lib.hid (Hc20.out.below hba Hc20.out.lt)
                  have Qn21 := Lib.hid (Qn20.out.kept hba)
                  have Sl21 := Lib.hid (Sl20.out.later hba)
                  have Hx21 := Lib.hid (Blk.new u0 #[.string s, .int .i64 a3, .int .i64 q2.num.e] 44)
                  have HB21 := Lib.hid (HB20.out.alloc HB20.out.size (.cells #[.string s, .int .i64 a3, .int .i64 q2.num.e] 44))
                  have HZ21 : Hid (w.heap.size ≤ (u0.alloc (.cells #[.string s, .int .i64 a3, .int .i64 q2.num.e] 44)).heap.size) := Lib.hid (Nat.le_trans HZ20.out hba.size)
                  have HGgx : Hid (w.heap.size ≤ u0.heap.size) := Lib.hid HB20.out.size
                  clear hba Hr20 Hq20 Hm20 Hc20 Qn20 Sl20 HB20 HZ20
                  go_upto_region 30 with fail
                  have HBV : Hid (B ≤ (u0.alloc (.cells #[.string s, .int .i64 a3, .int .i64 q2.num.e] 44)).heap.size) := Lib.hid (Nat.le_trans HBU.out (oneB u0 _).size)
                  clear HBU
                  generalize (u0.alloc (.cells #[.string s, .int .i64 a3, .int .i64 q2.num.e] 44)) = U1 at *
                  generalize hggx : u0.heap.size = gx at *
                  clear hggx
                  clear HGgx
                  have x0 : U1.cell? ⟨gx, 0, none⟩ = some (.string s) := Hx21.out.cell 0
                  have x1 : U1.cell? ⟨gx, 1, none⟩ = some (.int .i64 a3) := Hx21.out.cell 1
                  have x2 : U1.cell? ⟨gx, 2, none⟩ = some (.int .i64 q2.num.e) := Hx21.out.cell 2
                  go_wp2_with (with_reducible refine stop_storeT 44 (.tmp 1) (.tmp 160) rfl ?_)
                  clear x0 x1 x2
                  have HTH : Hid (U1.there w.heap.size 0 3) := Hr21.out.thereAt
                  have hch : Hid (Chg w.heap.size U1 (U1.setCells w.heap.size 0 (#[.string s, .int .i64 a3, .int .i64 q2.num.e] : Array Value).toList)) := Lib.hid (chg_putL _ _ _ _ _ (Chg.refl _ U1))
                  have Hr22 : Hid (Blk (U1.setCells w.heap.size 0 (#[.string s, .int .i64 a3, .int .i64 q2.num.e] : Array Value).toList) w.heap.size #[.string s, .int .i64 a3, .int .i64 q2.num.e] 44) := Lib.hid (blk_put_all Hr21.out _ rfl)
                  have HB22 : Hid (Below w.heap.size w (U1.setCells w.heap.size 0 (#[.string s, .int .i64 a3, .int .i64 q2.num.e] : Array Value).toList)) := Lib.hid (below_put (by have h9 := HGL.out; have h8 := HLC.out; have h7 := HGX.out; have h6 := HBB.out; omega) _ _ _ _ HB21.out)
                  have HZ22 : Hid (w.heap.size ≤ (U1.setCells w.heap.size 0 (#[.string s, .int .i64 a3, .int .i64 q2.num.e] : Array Value).toList).heap.size) := Lib.hid (Nat.le_trans HZ21.out hch.out.size)
                  have Hq22 := Lib.hid (Hq21.out.chg hch.out (by have h9 := HGL.out; have h8 := HLC.out; have h7 := HGX.out; have h6 := HBB.out; omega))
                  have Hm22 := Lib.hid (Hm21.out.chg hch.out (by have h9 := HGL.out; have h8 := HLC.out; have h7 := HGX.out; have h6 := HBB.out; omega))
                  have Hc22 := Lib.hid (Hc21.out.chg hch.out (by have h9 := HGL.out; have h8 := HLC.out; have h7 := HGX.out; have h6 := HBB.out; omega))
                  have Hx22 := Lib.hid (Hx21.out.chg hch.out (by have h9 := HGL.out; have h8 := HLC.out; have h7 := HGX.out; have h6 := HBB.out; omega))
                  have Qn22 := Lib.hid (Qn21.out.chg hch.out (by have h9 := HGL.out; have h8 := HLC.out; have h6 := HBB.out; omega))
                  have Sl22 := Lib.hid (Sl21.out.stay (fun b hb => hch.out.2 b (Sl21.out.lt b hb) (by have h1 := Sl21.out.block_ge b hb; have h9 := HGL.out; have h8 := HLC.out; have h7 := HGX.out; have h6 := HBB.out; omega)))
                  have HBZ : Hid (B ≤ (U1.setCells w.heap.size 0 (#[.string s, .int .i64 a3, .int .i64 q2.num.e] : Array Value).toList).heap.size) := Lib.hid (Nat.le_trans HBV.out hch.out.size)
                  clear HBV
                  clear hch Hr21 Hq21 Hm21 Hc21 Hx21 Qn21 Sl21 HB21 HZ21
                  refine wpList_store_mid rfl 44 (.tmp 1) (.tmp 160) rfl w.heap.size 0 #[.string s, .int .i64 a3, .int .i64 q2.num.e] rfl rfl HTH.out (infoRd rfl) (all_oneCell_toArray (by intro u hu; simp at hu; rcases hu with rfl | rfl | rfl <;> rfl)) ?_
                  generalize (U1.setCells w.heap.size 0 (#[.string s, .int .i64 a3, .int .i64 q2.num.e] : Array Value).toList) = Z1 at *
                  clear HTH
                  clear Hx22
                  have x10 : Z1.cell? ⟨gc, 10, none⟩ = some (.slice pn j cn) := Hc22.out.cell 10
                  go_wp2_with (at_builtin; with_reducible refine stop_appN (.tmp 162) (.tmp 164) 27 rfl ?_)
                  clear x10
                  have hb1 := oneB Z1 (.cells #[.int .i64 q2.numV] 2)
                  have hBA : B ≤ (Z1.alloc (.cells #[.int .i64 q2.numV] 2)).heap.size := Nat.le_trans HBZ.out hb1.size
                  refine wpList_append_row rfl (.tmp 162) (.tmp 164) 27 rfl 2 .i64 8 B elt64 (.slice pn j cn) (.slice (some ⟨Z1.heap.size, 0, none⟩) 1 1) (rdNets q1 j) [q2.numV] rfl rfl (Own.later Qn22.out hb1) (Row.laid .i64 Z1 2 [q2.numV] #[.int .i64 q2.numV] rfl (0, 0) 1 1 rfl (by simp)) (by rw [rdNets_len]; simp; omega) (by rw [rdNets_len]; simp; omega) hBA (rdNets q1 (j + 1)) (j + 1) (by rw [← HQ2.out]; rfl) (rdNets_len _ _) ?_
                  intro p3 c3 Z2 ho hb2
                  have Hr23 := Lib.hid ((Hr22.out.below hb1 Hr22.out.lt).below hb2 (by have h9 := HGL.out; have h8 := HLC.out; have h6 := HBB.out; omega))
                  have Hq23 := Lib.hid ((Hq22.out.below hb1 Hq22.out.lt).below hb2 (by have h9 := HGL.out; have h8 := HLC.out; have h6 := HBB.out; omega))
                  have Hm23 := Lib.hid ((Hm22.out.below hb1 Hm22.out.lt).below hb2 (by have h9 := HGL.out; have h8 := HLC.out; have h6 := HBB.out; omega))
                  have Hc23 := Lib.hid ((Hc22.out.below hb1 Hc22.out.lt).below hb2 (by have h9 := HGL.out; have h8 := HLC.out; have h6 := HBB.out; omega))
                  have Sl23 := Lib.hid (lrow_below (Sl22.out.later hb1) hb2 HLB.out)
                  have Qn23 : Hid (NRw Z2 B (.slice p3 (j + 1) c3) (rdNets q1 (j + 1))) := Lib.hid ho
                  have HB23 := Lib.hid (HB22.out.trans ((hb1.mono HB22.out.size).trans (hb2.mono (by have h9 := HGL.out; have h8 := HLC.out; have h6 := HBB.out; omega))))
                  have HZ23 : Hid (w.heap.size ≤ Z2.heap.size) := Lib.hid HB23.out.size
                  have HBY : Hid (B ≤ Z2.heap.size) := Lib.hid (Nat.le_trans hBA hb2.size)
                  clear ho hb1 hb2 hBA HBZ Hr22 Hq22 Hm22 Hc22 Qn22 Sl22 HB22 HZ22
                  have z10 : Z2.cell? ⟨gc, 10, none⟩ = some (.slice pn j cn) := Hc23.out.cell 10
                  have f10 := Hc23.out.free 10
                  go_upto_region 28 with fail
                  clear z10 f10
                  have hch : Hid (Chg gc Z2 (Z2.setCell ⟨gc, 10, none⟩ (.slice p3 (j + 1) c3))) := Lib.hid ((Chg.refl gc Z2).set 10 (.slice p3 (j + 1) c3))
                  have Hc24 : Hid (Blk (Z2.setCell ⟨gc, 10, none⟩ (.slice p3 (j + 1) c3)) gc #[.int .i64 v0, .int .i64 v1, .int .i64 v2, .int .i64 v3, .int .i64 v4, .int .i64 v5, .int .i64 v6, .int .i64 q.numV, .bool q.num.boolV, .slice pl i cl, .slice p3 (j + 1) c3] 29) := Lib.hid (Hc23.out.set 10 (.slice p3 (j + 1) c3))
                  have HB24 : Hid (Below w.heap.size w (Z2.setCell ⟨gc, 10, none⟩ (.slice p3 (j + 1) c3))) := Lib.hid (HB23.out.setCell (p := ⟨gc, 10, none⟩) (by show w.heap.size ≤ gc; have h9 := HGL.out; have h8 := HLC.out; have h7 := HGX.out; have h6 := HBB.out; omega) (.slice p3 (j + 1) c3))
                  have HZ24 : Hid (w.heap.size ≤ (Z2.setCell ⟨gc, 10, none⟩ (.slice p3 (j + 1) c3)).heap.size) := Lib.hid (Nat.le_trans HZ23.out hch.out.size)
                  have Hr24 := Lib.hid (Hr23.out.chg hch.out (by have h9 := HGL.out; have h8 := HLC.out; have h7 := HGX.out; have h6 := HBB.out; omega))
                  have Hq24 := Lib.hid (Hq23.out.chg hch.out (by have h9 := HGL.out; have h8 := HLC.out; have h7 := HGX.out; have h6 := HBB.out; omega))
                  have Hm24 := Lib.hid (Hm23.out.chg hch.out (by have h9 := HGL.out; have h8 := HLC.out; have h7 := HGX.out; have h6 := HBB.out; omega))
                  have Qn24 := Lib.hid (Qn23.out.chg hch.out (by have h9 := HGL.out; have h8 := HLC.out; have h6 := HBB.out; omega))
                  have Sl24 := Lib.hid (Sl23.out.stay (fun b hb => hch.out.2 b (Sl23.out.lt b hb) (by have h1 := Sl23.out.block_ge b hb; have h9 := HGL.out; have h8 := HLC.out; have h7 := HGX.out; have h6 := HBB.out; omega)))
                  have HBX : Hid (B ≤ (Z2.setCell ⟨gc, 10, none⟩ (.slice p3 (j + 1) c3)).heap.size) := Lib.hid (Nat.le_trans HBY.out hch.out.size)
                  clear HBY
                  clear hch Hr23 Hq23 Hm23 Hc23 Qn23 Sl23 HB23 HZ23
                  generalize (Z2.setCell ⟨gc, 10, none⟩ (.slice p3 (j + 1) c3)) = Z3 at *
                  have HNX : Hid (Blk Z3 w.heap.size #[.string s, .int .i64 a3, .int .i64 (q1.nets (j + 1)).e] 44 ∧ Blk Z3 (w.heap.size + 1) #[.string ⟨#[]⟩, .int .i64 0, .int .i64 0] 44 ∧ Blk Z3 (w.heap.size + 1 + 1) #[.int .i64 0, .int .i64 0, .int .i64 0, .int .i64 0, .int .i64 0, .int .i64 0, .int .i64 0, .int .i64 0, .bool false, .slice none 0 0, .slice none 0 0] 29 ∧ Blk Z3 gc #[.int .i64 v0, .int .i64 v1, .int .i64 v2, .int .i64 v3, .int .i64 v4, .int .i64 v5, .int .i64 v6, .int .i64 q.numV, .bool q.num.boolV, .slice pl i cl, .slice p3 (j + 1) c3] 29 ∧ OwnT encN Z3 (gc + 1) 49 (.slice pl i cl) (rdLins (F10 q) i) ∧ NRw Z3 B (.slice p3 (j + 1) c3) (rdNets q1 (j + 1)) ∧ Below w.heap.size w Z3) := by
                    rw [show q1.nets (j + 1) = (q1.nets j).num from rfl, HQ2.out]
                    exact Lib.hid ⟨Hr24.out, Hq24.out, Hm24.out, Hc24.out, Sl24.out, Qn24.out, HB24.out⟩
                  have HTN : Hid (TieR s a3 (q1.nets (j + 1))) := by
                    rw [show q1.nets (j + 1) = (q1.nets j).num from rfl, HQ2.out]
                    exact HT3
                  clear HT3 HQ2 Hr24 Hq24 Hm24 Hc24 Qn24 Sl24 HB24 HZ24
                  go_wp2_with fail
                  go_roundw
                  case rel => exact ⟨j + 1, a3, p3, c3, by omega, by go_num, HTN, HBX, HNX⟩
                  case measure => simp [intOf]; omega
                · skip
                  have hltI : ¬ (j : Int) < (nn : Int) := by omega
                  have HJ : Hid (j = nn) := Lib.hid (by omega)
                  have HRG := Lib.hid (HAL.out.good HNN.out HQ1.out HJ.out HQ2.out HE2.out HV.out)
                  have x2 : wr.cell? ⟨w.heap.size, 2, none⟩ = some (.int .i64 q2.e) := Hr19.out.cell 2
                  go_upto_region 34 with fail
                  clear x2 heb hen
                  have hbd := (Below.refl wr.heap.size wr).drew
                  have Hr20 := Lib.hid (Hr19.out.below hbd Hr19.out.lt)
                  have Hq20 := Lib.hid (Hq19.out.below hbd Hq19.out.lt)
                  have Hm20 := Lib.hid (Hm19.out.below hbd Hm19.out.lt)
                  have Hc20 := Lib.hid (Hc19.out.below hbd Hc19.out.lt)
                  have Qn20 := Lib.hid (Qn19.out.kept hbd)
                  have Sl20 := Lib.hid (Sl19.out.later hbd)
                  have HB20 := Lib.hid (HB19.out.trans (hbd.mono HB19.out.size))
                  have HZ20 : Hid (w.heap.size ≤ wr.drew.heap.size) := Lib.hid (Nat.le_trans HZ19.out hbd.size)
                  clear Hr19 Hq19 Hm19 Hc19 Qn19 Sl19 HB19 HZ19
                  have hS1 : wr.drew.cell? ⟨w.heap.size, 0, none⟩ = some (.string s) ∧ wr.drew.cell? ⟨w.heap.size, 1, none⟩ = some (.int .i64 a) ∧ wr.drew.cell? ⟨w.heap.size, 2, none⟩ = some (.int .i64 q2.e) ∧ wr.drew.cell? ⟨gc, 0, none⟩ = some (.int .i64 v0) ∧ wr.drew.cell? ⟨gc, 1, none⟩ = some (.int .i64 v1) ∧ wr.drew.cell? ⟨gc, 2, none⟩ = some (.int .i64 v2) ∧ wr.drew.cell? ⟨gc, 3, none⟩ = some (.int .i64 v3) ∧ wr.drew.cell? ⟨gc, 4, none⟩ = some (.int .i64 v4) ∧ wr.drew.cell? ⟨gc, 5, none⟩ = some (.int .i64 v5) ∧ wr.drew.cell? ⟨gc, 6, none⟩ = some (.int .i64 v6) ∧ wr.drew.cell? ⟨gc, 7, none⟩ = some (.int .i64 q.numV) ∧ wr.drew.cell? ⟨gc, 8, none⟩ = some (.bool q.num.boolV) ∧ wr.drew.cell? ⟨gc, 9, none⟩ = some (.slice pl i cl) ∧ wr.drew.cell? ⟨gc, 10, none⟩ = some (.slice pn j cn) := ⟨Hr20.out.cell 0, Hr20.out.cell 1, Hr20.out.cell 2, Hc20.out.cell 0, Hc20.out.cell 1, Hc20.out.cell 2, Hc20.out.cell 3, Hc20.out.cell 4, Hc20.out.cell 5, Hc20.out.cell 6, Hc20.out.cell 7, Hc20.out.cell 8, Hc20.out.cell 9, Hc20.out.cell 10⟩
                  refine wp_region_held_drew (S := fun w' => w'.cell? ⟨w.heap.size, 0, none⟩ = some (.string s) ∧ w'.cell? ⟨w.heap.size, 1, none⟩ = some (.int .i64 a) ∧ w'.cell? ⟨w.heap.size, 2, none⟩ = some (.int .i64 q2.e) ∧ w'.cell? ⟨gc, 0, none⟩ = some (.int .i64 v0) ∧ w'.cell? ⟨gc, 1, none⟩ = some (.int .i64 v1) ∧ w'.cell? ⟨gc, 2, none⟩ = some (.int .i64 v2) ∧ w'.cell? ⟨gc, 3, none⟩ = some (.int .i64 v3) ∧ w'.cell? ⟨gc, 4, none⟩ = some (.int .i64 v4) ∧ w'.cell? ⟨gc, 5, none⟩ = some (.int .i64 v5) ∧ w'.cell? ⟨gc, 6, none⟩ = some (.int .i64 v6) ∧ w'.cell? ⟨gc, 7, none⟩ = some (.int .i64 q.numV) ∧ w'.cell? ⟨gc, 8, none⟩ = some (.bool q.num.boolV) ∧ w'.cell? ⟨gc, 9, none⟩ = some (.slice pl i cl) ∧ w'.cell? ⟨gc, 10, none⟩ = some (.slice pn j cn)) (by kernel_rfl) hS1 (fun hS0 => ?_)
                  clear hS1
                  generalize wr.drew = WD at *
                  clear hbd
                  refine wpAnyH_take (i := 0) (v := ?_) rfl (by kernel_rfl) (by kernel_rfl) (by kernel_rfl) (fun _ _ _ h => h) (Or.inl ⟨by kernel_rfl, ?_⟩) (by first | assumption | trivial) ?_
                  rotate_left
                  · intro w hSw
                    try dsimp only at hSw
                    first | (go_simp; done) | (go_simp; with_reducible rfl)
                  try simp only [Act.put, List.getElem_toArray, List.getElem_cons_succ, List.getElem_cons_zero, List.setIfInBounds_toArray, List.set_cons_zero, List.set_cons_succ]
                  refine wpAnyH_take (i := 1) (v := ?_) rfl (by kernel_rfl) (by kernel_rfl) (by kernel_rfl) (fun _ _ _ h => h) (Or.inl ⟨by kernel_rfl, ?_⟩) (by first | assumption | trivial) ?_
                  rotate_left
                  · intro w hSw
                    try dsimp only at hSw
                    first | (go_simp; done) | (go_simp; with_reducible rfl)
                  try simp only [Act.put, List.getElem_toArray, List.getElem_cons_succ, List.getElem_cons_zero, List.setIfInBounds_toArray, List.set_cons_zero, List.set_cons_succ]
                  refine wpAnyH_ready (rs := [2]) (by kernel_rfl) (by simp) ?_
                  refine AllReadyH.cons rfl (fun K hK => ?_) AllReadyH.nil
                  have z0 : WD.cell? ⟨(w.heap.size + 1), 0, none⟩ = some (.string ⟨#[]⟩) := Hq20.out.cell 0
                  have z1 : WD.cell? ⟨(w.heap.size + 1), 1, none⟩ = some (.int .i64 0) := Hq20.out.cell 1
                  have z2 : WD.cell? ⟨(w.heap.size + 1), 2, none⟩ = some (.int .i64 0) := Hq20.out.cell 2
                  have f0 := Hq20.out.free 0
                  have f1 := Hq20.out.free 1
                  have f2 := Hq20.out.free 2
                  go_simp
                  clear z0 f0 z1 f1 z2 f2
                  have hch : Hid (Chg (w.heap.size + 1) WD (((WD.setCell ⟨w.heap.size + 1, 0, none⟩ (.string s)).setCell ⟨w.heap.size + 1, 1, none⟩ (.int .i64 a)).setCell ⟨w.heap.size + 1, 2, none⟩ (.int .i64 q2.e))) := Lib.hid ((((Chg.refl (w.heap.size + 1) WD).set 0 (.string s)).set 1 (.int .i64 a)).set 2 (.int .i64 q2.e))
                  have Hq21 : Hid (Blk (((WD.setCell ⟨w.heap.size + 1, 0, none⟩ (.string s)).setCell ⟨w.heap.size + 1, 1, none⟩ (.int .i64 a)).setCell ⟨w.heap.size + 1, 2, none⟩ (.int .i64 q2.e)) (w.heap.size + 1) #[.string s, .int .i64 a, .int .i64 q2.e] 44) := Lib.hid (((Hq20.out.set 0 (.string s)).set 1 (.int .i64 a)).set 2 (.int .i64 q2.e))
                  have HB21 : Hid (Below w.heap.size w (((WD.setCell ⟨w.heap.size + 1, 0, none⟩ (.string s)).setCell ⟨w.heap.size + 1, 1, none⟩ (.int .i64 a)).setCell ⟨w.heap.size + 1, 2, none⟩ (.int .i64 q2.e))) := Lib.hid (((HB20.out.setCell (p := ⟨w.heap.size + 1, 0, none⟩) (by show w.heap.size ≤ (w.heap.size + 1); have h9 := HGL.out; have h8 := HLC.out; have h6 := HBB.out; omega) (.string s)).setCell (p := ⟨w.heap.size + 1, 1, none⟩) (by show w.heap.size ≤ (w.heap.size + 1); have h9 := HGL.out; have h8 := HLC.out; have h6 := HBB.out; omega) (.int .i64 a)).setCell (p := ⟨w.heap.size + 1, 2, none⟩) (by show w.heap.size ≤ (w.heap.size + 1); have h9 := HGL.out; have h8 := HLC.out; have h6 := HBB.out; omega) (.int .i64 q2.e))
                  have HZ21 : Hid (w.heap.size ≤ (((WD.setCell ⟨w.heap.size + 1, 0, none⟩ (.string s)).setCell ⟨w.heap.size + 1, 1, none⟩ (.int .i64 a)).setCell ⟨w.heap.size + 1, 2, none⟩ (.int .i64 q2.e)).heap.size) := Lib.hid (Nat.le_trans HZ20.out hch.out.size)
                  have Hr21 := Lib.hid (Hr20.out.chg hch.out (by have h9 := HGL.out; have h8 := HLC.out; have h6 := HBB.out; omega))
                  have Hm21 := Lib.hid (Hm20.out.chg hch.out (by have h9 := HGL.out; have h8 := HLC.out; have h6 := HBB.out; omega))
                  have Hc21 := Lib.hid (Hc20.out.chg hch.out (by have h9 := HGL.out; have h8 := HLC.out; have h6 := HBB.out; omega))
                  have Qn21 := Lib.hid (Qn20.out.chg hch.out (by have h9 := HGL.out; have h8 := HLC.out; have h6 := HBB.out; omega))
                  have Sl21 := Lib.hid (Sl20.out.stay (fun b hb => hch.out.2 b (Sl20.out.lt b hb) (by have h1 := Sl20.out.block_ge b hb; have h9 := HGL.out; have h8 := HLC.out; have h6 := HBB.out; omega)))
                  clear hch hS0 Hr20 Hq20 Hm20 Hc20 Qn20 Sl20 HB20 HZ20
                  generalize (((WD.setCell ⟨w.heap.size + 1, 0, none⟩ (.string s)).setCell ⟨w.heap.size + 1, 1, none⟩ (.int .i64 a)).setCell ⟨w.heap.size + 1, 2, none⟩ (.int .i64 q2.e)) = X1 at *
                  refine hK.out _ _ ⟨Hr21.out.cell 0, Hr21.out.cell 1, Hr21.out.cell 2, Hc21.out.cell 0, Hc21.out.cell 1, Hc21.out.cell 2, Hc21.out.cell 3, Hc21.out.cell 4, Hc21.out.cell 5, Hc21.out.cell 6, Hc21.out.cell 7, Hc21.out.cell 8, Hc21.out.cell 9, Hc21.out.cell 10⟩ (fun hS0 => ?_)
                  clear hK K
                  try simp only [Act.put, List.getElem_toArray, List.getElem_cons_succ, List.getElem_cons_zero, List.setIfInBounds_toArray, List.set_cons_zero, List.set_cons_succ]
                  refine wpAnyH_ready (rs := [3]) (by kernel_rfl) (by simp) ?_
                  refine AllReadyH.cons rfl (fun K hK => ?_) AllReadyH.nil
                  have z0 : X1.cell? ⟨(w.heap.size + 1 + 1), 0, none⟩ = some (.int .i64 0) := Hm21.out.cell 0
                  have z1 : X1.cell? ⟨(w.heap.size + 1 + 1), 1, none⟩ = some (.int .i64 0) := Hm21.out.cell 1
                  have z2 : X1.cell? ⟨(w.heap.size + 1 + 1), 2, none⟩ = some (.int .i64 0) := Hm21.out.cell 2
                  have z3 : X1.cell? ⟨(w.heap.size + 1 + 1), 3, none⟩ = some (.int .i64 0) := Hm21.out.cell 3
                  have z4 : X1.cell? ⟨(w.heap.size + 1 + 1), 4, none⟩ = some (.int .i64 0) := Hm21.out.cell 4
                  have z5 : X1.cell? ⟨(w.heap.size + 1 + 1), 5, none⟩ = some (.int .i64 0) := Hm21.out.cell 5
                  have z6 : X1.cell? ⟨(w.heap.size + 1 + 1), 6, none⟩ = some (.int .i64 0) := Hm21.out.cell 6
                  have z7 : X1.cell? ⟨(w.heap.size + 1 + 1), 7, none⟩ = some (.int .i64 0) := Hm21.out.cell 7
                  have z8 : X1.cell? ⟨(w.heap.size + 1 + 1), 8, none⟩ = some (.bool false) := Hm21.out.cell 8
                  have z9 : X1.cell? ⟨(w.heap.size + 1 + 1), 9, none⟩ = some (.slice none 0 0) := Hm21.out.cell 9
                  have z10 : X1.cell? ⟨(w.heap.size + 1 + 1), 10, none⟩ = some (.slice none 0 0) := Hm21.out.cell 10
                  have f0 := Hm21.out.free 0
                  have f1 := Hm21.out.free 1
                  have f2 := Hm21.out.free 2
                  have f3 := Hm21.out.free 3
                  have f4 := Hm21.out.free 4
                  have f5 := Hm21.out.free 5
                  have f6 := Hm21.out.free 6
                  have f7 := Hm21.out.free 7
                  have f8 := Hm21.out.free 8
                  have f9 := Hm21.out.free 9
                  have f10 := Hm21.out.free 10
                  go_simp
                  clear z0 f0 z1 f1 z2 f2 z3 f3 z4 f4 z5 f5 z6 f6 z7 f7 z8 f8 z9 f9 z10 f10
                  have hch : Hid (Chg (w.heap.size + 1 + 1) X1 (((((((((((X1.setCell ⟨w.heap.size + 1 + 1, 0, none⟩ (.int .i64 v0)).setCell ⟨w.heap.size + 1 + 1, 1, none⟩ (.int .i64 v1)).setCell ⟨w.heap.size + 1 + 1, 2, none⟩ (.int .i64 v2)).setCell ⟨w.heap.size + 1 + 1, 3, none⟩ (.int .i64 v3)).setCell ⟨w.heap.size + 1 + 1, 4, none⟩ (.int .i64 v4)).setCell ⟨w.heap.size + 1 + 1, 5, none⟩ (.int .i64 v5)).setCell ⟨w.heap.size + 1 + 1, 6, none⟩ (.int .i64 v6)).setCell ⟨w.heap.size + 1 + 1, 7, none⟩ (.int .i64 q.numV)).setCell ⟨w.heap.size + 1 + 1, 8, none⟩ (.bool q.num.boolV)).setCell ⟨w.heap.size + 1 + 1, 9, none⟩ (.slice pl i cl)).setCell ⟨w.heap.size + 1 + 1, 10, none⟩ (.slice pn j cn))) := Lib.hid ((((((((((((Chg.refl (w.heap.size + 1 + 1) X1).set 0 (.int .i64 v0)).set 1 (.int .i64 v1)).set 2 (.int .i64 v2)).set 3 (.int .i64 v3)).set 4 (.int .i64 v4)).set 5 (.int .i64 v5)).set 6 (.int .i64 v6)).set 7 (.int .i64 q.numV)).set 8 (.bool q.num.boolV)).set 9 (.slice pl i cl)).set 10 (.slice pn j cn))
                  have Hm22 : Hid (Blk (((((((((((X1.setCell ⟨w.heap.size + 1 + 1, 0, none⟩ (.int .i64 v0)).setCell ⟨w.heap.size + 1 + 1, 1, none⟩ (.int .i64 v1)).setCell ⟨w.heap.size + 1 + 1, 2, none⟩ (.int .i64 v2)).setCell ⟨w.heap.size + 1 + 1, 3, none⟩ (.int .i64 v3)).setCell ⟨w.heap.size + 1 + 1, 4, none⟩ (.int .i64 v4)).setCell ⟨w.heap.size + 1 + 1, 5, none⟩ (.int .i64 v5)).setCell ⟨w.heap.size + 1 + 1, 6, none⟩ (.int .i64 v6)).setCell ⟨w.heap.size + 1 + 1, 7, none⟩ (.int .i64 q.numV)).setCell ⟨w.heap.size + 1 + 1, 8, none⟩ (.bool q.num.boolV)).setCell ⟨w.heap.size + 1 + 1, 9, none⟩ (.slice pl i cl)).setCell ⟨w.heap.size + 1 + 1, 10, none⟩ (.slice pn j cn)) (w.heap.size + 1 + 1) #[.int .i64 v0, .int .i64 v1, .int .i64 v2, .int .i64 v3, .int .i64 v4, .int .i64 v5, .int .i64 v6, .int .i64 q.numV, .bool q.num.boolV, .slice pl i cl, .slice pn j cn] 29) := (by have h1 := blk_put_all Hm21.out #[.int .i64 v0, .int .i64 v1, .int .i64 v2, .int .i64 v3, .int .i64 v4, .int .i64 v5, .int .i64 v6, .int .i64 q.numV, .bool q.num.boolV, .slice pl i cl, .slice pn j cn] rfl; exact Lib.hid h1)
                  have HB22 : Hid (Below w.heap.size w (((((((((((X1.setCell ⟨w.heap.size + 1 + 1, 0, none⟩ (.int .i64 v0)).setCell ⟨w.heap.size + 1 + 1, 1, none⟩ (.int .i64 v1)).setCell ⟨w.heap.size + 1 + 1, 2, none⟩ (.int .i64 v2)).setCell ⟨w.heap.size + 1 + 1, 3, none⟩ (.int .i64 v3)).setCell ⟨w.heap.size + 1 + 1, 4, none⟩ (.int .i64 v4)).setCell ⟨w.heap.size + 1 + 1, 5, none⟩ (.int .i64 v5)).setCell ⟨w.heap.size + 1 + 1, 6, none⟩ (.int .i64 v6)).setCell ⟨w.heap.size + 1 + 1, 7, none⟩ (.int .i64 q.numV)).setCell ⟨w.heap.size + 1 + 1, 8, none⟩ (.bool q.num.boolV)).setCell ⟨w.heap.size + 1 + 1, 9, none⟩ (.slice pl i cl)).setCell ⟨w.heap.size + 1 + 1, 10, none⟩ (.slice pn j cn))) := Lib.hid (((((((((((HB21.out.setCell (p := ⟨w.heap.size + 1 + 1, 0, none⟩) (by show w.heap.size ≤ (w.heap.size + 1 + 1); have h9 := HGL.out; have h8 := HLC.out; have h6 := HBB.out; omega) (.int .i64 v0)).setCell (p := ⟨w.heap.size + 1 + 1, 1, none⟩) (by show w.heap.size ≤ (w.heap.size + 1 + 1); have h9 := HGL.out; have h8 := HLC.out; have h6 := HBB.out; omega) (.int .i64 v1)).setCell (p := ⟨w.heap.size + 1 + 1, 2, none⟩) (by show w.heap.size ≤ (w.heap.size + 1 + 1); have h9 := HGL.out; have h8 := HLC.out; have h6 := HBB.out; omega) (.int .i64 v2)).setCell (p := ⟨w.heap.size + 1 + 1, 3, none⟩) (by show w.heap.size ≤ (w.heap.size + 1 + 1); have h9 := HGL.out; have h8 := HLC.out; have h6 := HBB.out; omega) (.int .i64 v3)).setCell (p := ⟨w.heap.size + 1 + 1, 4, none⟩) (by show w.heap.size ≤ (w.heap.size + 1 + 1); have h9 := HGL.out; have h8 := HLC.out; have h6 := HBB.out; omega) (.int .i64 v4)).setCell (p := ⟨w.heap.size + 1 + 1, 5, none⟩) (by show w.heap.size ≤ (w.heap.size + 1 + 1); have h9 := HGL.out; have h8 := HLC.out; have h6 := HBB.out; omega) (.int .i64 v5)).setCell (p := ⟨w.heap.size + 1 + 1, 6, none⟩) (by show w.heap.size ≤ (w.heap.size + 1 + 1); have h9 := HGL.out; have h8 := HLC.out; have h6 := HBB.out; omega) (.int .i64 v6)).setCell (p := ⟨w.heap.size + 1 + 1, 7, none⟩) (by show w.heap.size ≤ (w.heap.size + 1 + 1); have h9 := HGL.out; have h8 := HLC.out; have h6 := HBB.out; omega) (.int .i64 q.numV)).setCell (p := ⟨w.heap.size + 1 + 1, 8, none⟩) (by show w.heap.size ≤ (w.heap.size + 1 + 1); have h9 := HGL.out; have h8 := HLC.out; have h6 := HBB.out; omega) (.bool q.num.boolV)).setCell (p := ⟨w.heap.size + 1 + 1, 9, none⟩) (by show w.heap.size ≤ (w.heap.size + 1 + 1); have h9 := HGL.out; have h8 := HLC.out; have h6 := HBB.out; omega) (.slice pl i cl)).setCell (p := ⟨w.heap.size + 1 + 1, 10, none⟩) (by show w.heap.size ≤ (w.heap.size + 1 + 1); have h9 := HGL.out; have h8 := HLC.out; have h6 := HBB.out; omega) (.slice pn j cn))
                  have HZ22 : Hid (w.heap.size ≤ (((((((((((X1.setCell ⟨w.heap.size + 1 + 1, 0, none⟩ (.int .i64 v0)).setCell ⟨w.heap.size + 1 + 1, 1, none⟩ (.int .i64 v1)).setCell ⟨w.heap.size + 1 + 1, 2, none⟩ (.int .i64 v2)).setCell ⟨w.heap.size + 1 + 1, 3, none⟩ (.int .i64 v3)).setCell ⟨w.heap.size + 1 + 1, 4, none⟩ (.int .i64 v4)).setCell ⟨w.heap.size + 1 + 1, 5, none⟩ (.int .i64 v5)).setCell ⟨w.heap.size + 1 + 1, 6, none⟩ (.int .i64 v6)).setCell ⟨w.heap.size + 1 + 1, 7, none⟩ (.int .i64 q.numV)).setCell ⟨w.heap.size + 1 + 1, 8, none⟩ (.bool q.num.boolV)).setCell ⟨w.heap.size + 1 + 1, 9, none⟩ (.slice pl i cl)).setCell ⟨w.heap.size + 1 + 1, 10, none⟩ (.slice pn j cn)).heap.size) := Lib.hid (Nat.le_trans HZ21.out hch.out.size)
                  have Hr22 := Lib.hid (Hr21.out.chg hch.out (by have h9 := HGL.out; have h8 := HLC.out; have h6 := HBB.out; omega))
                  have Hq22 := Lib.hid (Hq21.out.chg hch.out (by have h9 := HGL.out; have h8 := HLC.out; have h6 := HBB.out; omega))
                  have Hc22 := Lib.hid (Hc21.out.chg hch.out (by have h9 := HGL.out; have h8 := HLC.out; have h6 := HBB.out; omega))
                  have Qn22 := Lib.hid (Qn21.out.chg hch.out (by have h9 := HGL.out; have h8 := HLC.out; have h6 := HBB.out; omega))
                  have Sl22 := Lib.hid (Sl21.out.stay (fun b hb => hch.out.2 b (Sl21.out.lt b hb) (by have h1 := Sl21.out.block_ge b hb; have h9 := HGL.out; have h8 := HLC.out; have h6 := HBB.out; omega)))
                  clear hch hS0 Hr21 Hq21 Hm21 Hc21 Qn21 Sl21 HB21 HZ21
                  generalize (((((((((((X1.setCell ⟨w.heap.size + 1 + 1, 0, none⟩ (.int .i64 v0)).setCell ⟨w.heap.size + 1 + 1, 1, none⟩ (.int .i64 v1)).setCell ⟨w.heap.size + 1 + 1, 2, none⟩ (.int .i64 v2)).setCell ⟨w.heap.size + 1 + 1, 3, none⟩ (.int .i64 v3)).setCell ⟨w.heap.size + 1 + 1, 4, none⟩ (.int .i64 v4)).setCell ⟨w.heap.size + 1 + 1, 5, none⟩ (.int .i64 v5)).setCell ⟨w.heap.size + 1 + 1, 6, none⟩ (.int .i64 v6)).setCell ⟨w.heap.size + 1 + 1, 7, none⟩ (.int .i64 q.numV)).setCell ⟨w.heap.size + 1 + 1, 8, none⟩ (.bool q.num.boolV)).setCell ⟨w.heap.size + 1 + 1, 9, none⟩ (.slice pl i cl)).setCell ⟨w.heap.size + 1 + 1, 10, none⟩ (.slice pn j cn)) = X2 at *
                  refine hK.out _ _ ⟨Hr22.out.cell 0, Hr22.out.cell 1, Hr22.out.cell 2, Hc22.out.cell 0, Hc22.out.cell 1, Hc22.out.cell 2, Hc22.out.cell 3, Hc22.out.cell 4, Hc22.out.cell 5, Hc22.out.cell 6, Hc22.out.cell 7, Hc22.out.cell 8, Hc22.out.cell 9, Hc22.out.cell 10⟩ (fun hS0 => ?_)
                  clear hK K
                  try simp only [Act.put, List.getElem_toArray, List.getElem_cons_succ, List.getElem_cons_zero, List.setIfInBounds_toArray, List.set_cons_zero, List.set_cons_succ]
                  refine wpAnyH_done (by kernel_rfl) ?_ _
                  clear hS0
                  go_wp2_with fail
                  have hfq := Hq22.out
                  have hfm := Hm22.out
                  refine bodyPost_ret (v := .tuple #[.agg #[.string s, .int .i64 a, .int .i64 q2.e], .agg #[.int .i64 v0, .int .i64 v1, .int .i64 v2, .int .i64 v3, .int .i64 v4, .int .i64 v5, .int .i64 v6, .int .i64 q.numV, .bool q.num.boolV, .slice pl i cl, .slice pn j cn]]) (by simp [results, Try.results12, go_sem, hfq.cell 0, hfq.cell 1, hfq.cell 2, hfm.cell 0, hfm.cell 1, hfm.cell 2, hfm.cell 3, hfm.cell 4, hfm.cell 5, hfm.cell 6, hfm.cell 7, hfm.cell 8, hfm.cell 9, hfm.cell 10]) rfl ?_
                  obtain ⟨hR1, hR2, hR3⟩ := HRG.out
                  have hE2 := HE2.out
                  unfold FromD
                  rw [hR1, hR2, hR3]
                  unfold rdV
                  rw [hE2]
                  exact ⟨a, .slice pl i cl, .slice pn j cn, rfl, Sl22.out.less (by have h9 := HGL.out; have h8 := HLC.out; omega), own_down Qn22.out (by have h9 := HGL.out; have h8 := HLC.out; have h6 := HBB.out; omega), fun _ => HT.out, HB22.out⟩
              · skip
                have heb : (q2.e == 0) = false := by simpa using he
                have hen : (q2.e != 0) = true := by simpa using he
                have HRB := Lib.hid (HAL.out.bad HNN.out HQ1.out hj HQ2.out he)
                clear he
                by_cases hlt : j < nn
                · skip
                  have hltI : (j : Int) < (nn : Int) := by omega
                  have x0 : wr.cell? ⟨w.heap.size, 0, none⟩ = some (.string s) := Hr19.out.cell 0
                  have x1 : wr.cell? ⟨w.heap.size, 1, none⟩ = some (.int .i64 a) := Hr19.out.cell 1
                  have x2 : wr.cell? ⟨w.heap.size, 2, none⟩ = some (.int .i64 q2.e) := Hr19.out.cell 2
                  go_wp2_with (with_reducible refine stop_storeT 44 (.tmp 2) (.tmp 170) rfl ?_)
                  clear x0 x1 x2 heb hen
                  have HTH : Hid (wr.there (w.heap.size + 1) 0 3) := Hq19.out.thereAt
                  have hch : Hid (Chg (w.heap.size + 1) wr (wr.setCells (w.heap.size + 1) 0 (#[.string s, .int .i64 a, .int .i64 q2.e] : Array Value).toList)) := Lib.hid (chg_putL _ _ _ _ _ (Chg.refl _ wr))
                  have Hq20 : Hid (Blk (wr.setCells (w.heap.size + 1) 0 (#[.string s, .int .i64 a, .int .i64 q2.e] : Array Value).toList) (w.heap.size + 1) #[.string s, .int .i64 a, .int .i64 q2.e] 44) := Lib.hid (blk_put_all Hq19.out _ rfl)
                  have HB20 : Hid (Below w.heap.size w (wr.setCells (w.heap.size + 1) 0 (#[.string s, .int .i64 a, .int .i64 q2.e] : Array Value).toList)) := Lib.hid (below_put (by have h9 := HGL.out; have h8 := HLC.out; have h6 := HBB.out; omega) _ _ _ _ HB19.out)
                  have HZ20 : Hid (w.heap.size ≤ (wr.setCells (w.heap.size + 1) 0 (#[.string s, .int .i64 a, .int .i64 q2.e] : Array Value).toList).heap.size) := Lib.hid (Nat.le_trans HZ19.out hch.out.size)
                  have Hr20 := Lib.hid (Hr19.out.chg hch.out (by have h9 := HGL.out; have h8 := HLC.out; have h6 := HBB.out; omega))
                  have Hm20 := Lib.hid (Hm19.out.chg hch.out (by have h9 := HGL.out; have h8 := HLC.out; have h6 := HBB.out; omega))
                  have Hc20 := Lib.hid (Hc19.out.chg hch.out (by have h9 := HGL.out; have h8 := HLC.out; have h6 := HBB.out; omega))
                  have Qn20 := Lib.hid (Qn19.out.chg hch.out (by have h9 := HGL.out; have h8 := HLC.out; have h6 := HBB.out; omega))
                  have Sl20 := Lib.hid (Sl19.out.stay (fun b hb => hch.out.2 b (Sl19.out.lt b hb) (by have h1 := Sl19.out.block_ge b hb; have h9 := HGL.out; have h8 := HLC.out; have h6 := HBB.out; omega)))
                  clear hch Hr19 Hq19 Hm19 Hc19 Qn19 Sl19 HB19 HZ19
                  refine wpList_store_mid rfl 44 (.tmp 2) (.tmp 170) rfl (w.heap.size + 1) 0 #[.string s, .int .i64 a, .int .i64 q2.e] rfl rfl HTH.out (infoRd rfl) (all_oneCell_toArray (by intro u hu; simp at hu; rcases hu with rfl | rfl | rfl <;> rfl)) ?_
                  generalize (wr.setCells (w.heap.size + 1) 0 (#[.string s, .int .i64 a, .int .i64 q2.e] : Array Value).toList) = X1 at *
                  clear HTH
                  go_wp2_with (with_reducible refine stop_storeT 29 (.tmp 3) (.tmp 171) rfl ?_)
                  have HTH : Hid (X1.there (w.heap.size + 1 + 1) 0 11) := Hm20.out.thereAt
                  have hch : Hid (Chg (w.heap.size + 1 + 1) X1 (X1.setCells (w.heap.size + 1 + 1) 0 (#[.int .i64 0, .int .i64 0, .int .i64 0, .int .i64 0, .int .i64 0, .int .i64 0, .int .i64 0, .int .i64 0, .bool false, .slice none 0 0, .slice none 0 0] : Array Value).toList)) := Lib.hid (chg_putL _ _ _ _ _ (Chg.refl _ X1))
                  have Hm21 : Hid (Blk (X1.setCells (w.heap.size + 1 + 1) 0 (#[.int .i64 0, .int .i64 0, .int .i64 0, .int .i64 0, .int .i64 0, .int .i64 0, .int .i64 0, .int .i64 0, .bool false, .slice none 0 0, .slice none 0 0] : Array Value).toList) (w.heap.size + 1 + 1) #[.int .i64 0, .int .i64 0, .int .i64 0, .int .i64 0, .int .i64 0, .int .i64 0, .int .i64 0, .int .i64 0, .bool false, .slice none 0 0, .slice none 0 0] 29) := Lib.hid (blk_put_all Hm20.out _ rfl)
                  have HB21 : Hid (Below w.heap.size w (X1.setCells (w.heap.size + 1 + 1) 0 (#[.int .i64 0, .int .i64 0, .int .i64 0, .int .i64 0, .int .i64 0, .int .i64 0, .int .i64 0, .int .i64 0, .bool false, .slice none 0 0, .slice none 0 0] : Array Value).toList)) := Lib.hid (below_put (by have h9 := HGL.out; have h8 := HLC.out; have h6 := HBB.out; omega) _ _ _ _ HB20.out)
                  have HZ21 : Hid (w.heap.size ≤ (X1.setCells (w.heap.size + 1 + 1) 0 (#[.int .i64 0, .int .i64 0, .int .i64 0, .int .i64 0, .int .i64 0, .int .i64 0, .int .i64 0, .int .i64 0, .bool false, .slice none 0 0, .slice none 0 0] : Array Value).toList).heap.size) := Lib.hid (Nat.le_trans HZ20.out hch.out.size)
                  have Hr21 := Lib.hid (Hr20.out.chg hch.out (by have h9 := HGL.out; have h8 := HLC.out; have h6 := HBB.out; omega))
                  have Hq21 := Lib.hid (Hq20.out.chg hch.out (by have h9 := HGL.out; have h8 := HLC.out; have h6 := HBB.out; omega))
                  have Hc21 := Lib.hid (Hc20.out.chg hch.out (by have h9 := HGL.out; have h8 := HLC.out; have h6 := HBB.out; omega))
                  have Qn21 := Lib.hid (Qn20.out.chg hch.out (by have h9 := HGL.out; have h8 := HLC.out; have h6 := HBB.out; omega))
                  have Sl21 := Lib.hid (Sl20.out.stay (fun b hb => hch.out.2 b (Sl20.out.lt b hb) (by have h1 := Sl20.out.block_ge b hb; have h9 := HGL.out; have h8 := HLC.out; have h6 := HBB.out; omega)))
                  clear hch Hr20 Hq20 Hm20 Hc20 Qn20 Sl20 HB20 HZ20
                  refine wpList_store_mid rfl 29 (.tmp 3) (.tmp 171) rfl (w.heap.size + 1 + 1) 0 #[.int .i64 0, .int .i64 0, .int .i64 0, .int .i64 0, .int .i64 0, .int .i64 0, .int .i64 0, .int .i64 0, .bool false, .slice none 0 0, .slice none 0 0] rfl rfl HTH.out (infM rfl) (one11 _ _ _ _ _ _ _ _ _ _ _ _ _ _ _) ?_
                  generalize (X1.setCells (w.heap.size + 1 + 1) 0 (#[.int .i64 0, .int .i64 0, .int .i64 0, .int .i64 0, .int .i64 0, .int .i64 0, .int .i64 0, .int .i64 0, .bool false, .slice none 0 0, .slice none 0 0] : Array Value).toList) = X2 at *
                  clear HTH
                  go_wp2_with fail
                  have hfq := Hq21.out
                  have hfm := Hm21.out
                  refine bodyPost_ret (v := .tuple #[.agg #[.string s, .int .i64 a, .int .i64 q2.e], .agg #[.int .i64 0, .int .i64 0, .int .i64 0, .int .i64 0, .int .i64 0, .int .i64 0, .int .i64 0, .int .i64 0, .bool false, .slice none 0 0, .slice none 0 0]]) (by simp [results, Try.results12, go_sem, hfq.cell 0, hfq.cell 1, hfq.cell 2, hfm.cell 0, hfm.cell 1, hfm.cell 2, hfm.cell 3, hfm.cell 4, hfm.cell 5, hfm.cell 6, hfm.cell 7, hfm.cell 8, hfm.cell 9, hfm.cell 10]) rfl ?_
                  obtain ⟨hR1, hR2, hR3⟩ := HRB.out
                  unfold FromD
                  rw [hR1, hR2]
                  exact ⟨a, .slice none 0 0, .slice none 0 0, rfl, OwnT.nil_ _ _ _ _, Own.nil_ _ _ _ _, fun h => absurd (hR1.trans h) hR3, HB21.out⟩
                · skip
                  have hltI : ¬ (j : Int) < (nn : Int) := by omega
                  have x0 : wr.cell? ⟨w.heap.size, 0, none⟩ = some (.string s) := Hr19.out.cell 0
                  have x1 : wr.cell? ⟨w.heap.size, 1, none⟩ = some (.int .i64 a) := Hr19.out.cell 1
                  have x2 : wr.cell? ⟨w.heap.size, 2, none⟩ = some (.int .i64 q2.e) := Hr19.out.cell 2
                  go_wp2_with (with_reducible refine stop_storeT 44 (.tmp 2) (.tmp 170) rfl ?_)
                  clear x0 x1 x2 heb hen
                  have HTH : Hid (wr.there (w.heap.size + 1) 0 3) := Hq19.out.thereAt
                  have hch : Hid (Chg (w.heap.size + 1) wr (wr.setCells (w.heap.size + 1) 0 (#[.string s, .int .i64 a, .int .i64 q2.e] : Array Value).toList)) := Lib.hid (chg_putL _ _ _ _ _ (Chg.refl _ wr))
                  have Hq20 : Hid (Blk (wr.setCells (w.heap.size + 1) 0 (#[.string s, .int .i64 a, .int .i64 q2.e] : Array Value).toList) (w.heap.size + 1) #[.string s, .int .i64 a, .int .i64 q2.e] 44) := Lib.hid (blk_put_all Hq19.out _ rfl)
                  have HB20 : Hid (Below w.heap.size w (wr.setCells (w.heap.size + 1) 0 (#[.string s, .int .i64 a, .int .i64 q2.e] : Array Value).toList)) := Lib.hid (below_put (by have h9 := HGL.out; have h8 := HLC.out; have h6 := HBB.out; omega) _ _ _ _ HB19.out)
                  have HZ20 : Hid (w.heap.size ≤ (wr.setCells (w.heap.size + 1) 0 (#[.string s, .int .i64 a, .int .i64 q2.e] : Array Value).toList).heap.size) := Lib.hid (Nat.le_trans HZ19.out hch.out.size)
                  have Hr20 := Lib.hid (Hr19.out.chg hch.out (by have h9 := HGL.out; have h8 := HLC.out; have h6 := HBB.out; omega))
                  have Hm20 := Lib.hid (Hm19.out.chg hch.out (by have h9 := HGL.out; have h8 := HLC.out; have h6 := HBB.out; omega))
                  have Hc20 := Lib.hid (Hc19.out.chg hch.out (by have h9 := HGL.out; have h8 := HLC.out; have h6 := HBB.out; omega))
                  have Qn20 := Lib.hid (Qn19.out.chg hch.out (by have h9 := HGL.out; have h8 := HLC.out; have h6 := HBB.out; omega))
                  have Sl20 := Lib.hid (Sl19.out.stay (fun b hb => hch.out.2 b (Sl19.out.lt b hb) (by have h1 := Sl19.out.block_ge b hb; have h9 := HGL.out; have h8 := HLC.out; have h6 := HBB.out; omega)))
                  clear hch Hr19 Hq19 Hm19 Hc19 Qn19 Sl19 HB19 HZ19
                  refine wpList_store_mid rfl 44 (.tmp 2) (.tmp 170) rfl (w.heap.size + 1) 0 #[.string s, .int .i64 a, .int .i64 q2.e] rfl rfl HTH.out (infoRd rfl) (all_oneCell_toArray (by intro u hu; simp at hu; rcases hu with rfl | rfl | rfl <;> rfl)) ?_
                  generalize (wr.setCells (w.heap.size + 1) 0 (#[.string s, .int .i64 a, .int .i64 q2.e] : Array Value).toList) = X1 at *
                  clear HTH
                  go_wp2_with (with_reducible refine stop_storeT 29 (.tmp 3) (.tmp 171) rfl ?_)
                  have HTH : Hid (X1.there (w.heap.size + 1 + 1) 0 11) := Hm20.out.thereAt
                  have hch : Hid (Chg (w.heap.size + 1 + 1) X1 (X1.setCells (w.heap.size + 1 + 1) 0 (#[.int .i64 0, .int .i64 0, .int .i64 0, .int .i64 0, .int .i64 0, .int .i64 0, .int .i64 0, .int .i64 0, .bool false, .slice none 0 0, .slice none 0 0] : Array Value).toList)) := Lib.hid (chg_putL _ _ _ _ _ (Chg.refl _ X1))
                  have Hm21 : Hid (Blk (X1.setCells (w.heap.size + 1 + 1) 0 (#[.int .i64 0, .int .i64 0, .int .i64 0, .int .i64 0, .int .i64 0, .int .i64 0, .int .i64 0, .int .i64 0, .bool false, .slice none 0 0, .slice none 0 0] : Array Value).toList) (w.heap.size + 1 + 1) #[.int .i64 0, .int .i64 0, .int .i64 0, .int .i64 0, .int .i64 0, .int .i64 0, .int .i64 0, .int .i64 0, .bool false, .slice none 0 0, .slice none 0 0] 29) := Lib.hid (blk_put_all Hm20.out _ rfl)
                  have HB21 : Hid (Below w.heap.size w (X1.setCells (w.heap.size + 1 + 1) 0 (#[.int .i64 0, .int .i64 0, .int .i64 0, .int .i64 0, .int .i64 0, .int .i64 0, .int .i64 0, .int .i64 0, .bool false, .slice none 0 0, .slice none 0 0] : Array Value).toList)) := Lib.hid (below_put (by have h9 := HGL.out; have h8 := HLC.out; have h6 := HBB.out; omega) _ _ _ _ HB20.out)
                  have HZ21 : Hid (w.heap.size ≤ (X1.setCells (w.heap.size + 1 + 1) 0 (#[.int .i64 0, .int .i64 0, .int .i64 0, .int .i64 0, .int .i64 0, .int .i64 0, .int .i64 0, .int .i64 0, .bool false, .slice none 0 0, .slice none 0 0] : Array Value).toList).heap.size) := Lib.hid (Nat.le_trans HZ20.out hch.out.size)
                  have Hr21 := Lib.hid (Hr20.out.chg hch.out (by have h9 := HGL.out; have h8 := HLC.out; have h6 := HBB.out; omega))
                  have Hq21 := Lib.hid (Hq20.out.chg hch.out (by have h9 := HGL.out; have h8 := HLC.out; have h6 := HBB.out; omega))
                  have Hc21 := Lib.hid (Hc20.out.chg hch.out (by have h9 := HGL.out; have h8 := HLC.out; have h6 := HBB.out; omega))
                  have Qn21 := Lib.hid (Qn20.out.chg hch.out (by have h9 := HGL.out; have h8 := HLC.out; have h6 := HBB.out; omega))
                  have Sl21 := Lib.hid (Sl20.out.stay (fun b hb => hch.out.2 b (Sl20.out.lt b hb) (by have h1 := Sl20.out.block_ge b hb; have h9 := HGL.out; have h8 := HLC.out; have h6 := HBB.out; omega)))
                  clear hch Hr20 Hq20 Hm20 Hc20 Qn20 Sl20 HB20 HZ20
                  refine wpList_store_mid rfl 29 (.tmp 3) (.tmp 171) rfl (w.heap.size + 1 + 1) 0 #[.int .i64 0, .int .i64 0, .int .i64 0, .int .i64 0, .int .i64 0, .int .i64 0, .int .i64 0, .int .i64 0, .bool false, .slice none 0 0, .slice none 0 0] rfl rfl HTH.out (infM rfl) (one11 _ _ _ _ _ _ _ _ _ _ _ _ _ _ _) ?_
                  generalize (X1.setCells (w.heap.size + 1 + 1) 0 (#[.int .i64 0, .int .i64 0, .int .i64 0, .int .i64 0, .int .i64 0, .int .i64 0, .int .i64 0, .int .i64 0, .bool false, .slice none 0 0, .slice none 0 0] : Array Value).toList) = X2 at *
                  clear HTH
                  go_wp2_with fail
                  have hfq := Hq21.out
                  have hfm := Hm21.out
                  refine bodyPost_ret (v := .tuple #[.agg #[.string s, .int .i64 a, .int .i64 q2.e], .agg #[.int .i64 0, .int .i64 0, .int .i64 0, .int .i64 0, .int .i64 0, .int .i64 0, .int .i64 0, .int .i64 0, .bool false, .slice none 0 0, .slice none 0 0]]) (by simp [results, Try.results12, go_sem, hfq.cell 0, hfq.cell 1, hfq.cell 2, hfm.cell 0, hfm.cell 1, hfm.cell 2, hfm.cell 3, hfm.cell 4, hfm.cell 5, hfm.cell 6, hfm.cell 7, hfm.cell 8, hfm.cell 9, hfm.cell 10]) rfl ?_
                  obtain ⟨hR1, hR2, hR3⟩ := HRB.out
                  unfold FromD
                  rw [hR1, hR2]
                  exact ⟨a, .slice none 0 0, .slice none 0 0, rfl, OwnT.nil_ _ _ _ _, Own.nil_ _ _ _ _, fun h => absurd (hR1.trans h) hR3, HB21.out⟩
        · skip
          have hltI : ¬ (i : Int) < (fLs q : Int) := by omega
          have HIN : Hid (i = fLs q) := Lib.hid (by omega)
          have HAL : Hid (AtL r q q0 i) := Lib.hid ⟨HQ.out, hi, HQ0.out, .inl HIN.out⟩
          clear HIN HQ0
          obtain ⟨nn, hnn, hnn8⟩ : ∃ nn : Nat, q0.intV 0 8 = (nn : Int) ∧ nn ≤ 8 := ⟨(q0.intV 0 8).toNat, by have h1 := q0.intV_fits (a := 0) (b := 8) (by decide) (by decide); omega⟩
          obtain ⟨q1, hq1⟩ : ∃ z, q0.int 0 8 = z := ⟨_, rfl⟩
          have x0 : wr.cell? ⟨w.heap.size, 0, none⟩ = some (.string s) := Hr15.out.cell 0
          have x1 : wr.cell? ⟨w.heap.size, 1, none⟩ = some (.int .i64 a) := Hr15.out.cell 1
          have x2 : wr.cell? ⟨w.heap.size, 2, none⟩ = some (.int .i64 q0.e) := Hr15.out.cell 2
          have HG := Lib.hid (int_tie s a q0 0 8 wr HT.out)
          unfold rdV at HG
          rw [hnn, hq1] at HG
          have HNN := Lib.hid hnn
          have HQ1 := Lib.hid hq1
          clear hnn hq1
          go_wp2_with fail
          clear x0 x1 x2
          refine HG.out.mono ?_
          rintro y9 n2 ⟨a2, rfl, ht, hb⟩
          clear HG HT
          have HT2 := Lib.hid ht
          clear ht
          have Hr16 := Lib.hid (Hr15.out.below hb Hr15.out.lt)
          have Hq16 := Lib.hid (Hq15.out.below hb Hq15.out.lt)
          have Hm16 := Lib.hid (Hm15.out.below hb Hm15.out.lt)
          have Hc16 := Lib.hid (Hc15.out.below hb Hc15.out.lt)
          have Sl16 := Lib.hid (Sl15.out.later hb)
          have HB16 := Lib.hid (HB15.out.trans (hb.mono HB15.out.size))
          have HZ16 : Hid (w.heap.size ≤ n2.heap.size) := Lib.hid (Nat.le_trans HZ15.out hb.size)
          clear Hr15 Hq15 Hm15 Hc15 Sl15 HB15 HZ15
          clear hb
          have HGX : Hid (gc < n2.heap.size) := Lib.hid Hc16.out.lt
          have hba := oneB n2 (.cells #[.string s, .int .i64 a2, .int .i64 q1.e] 44)
          have Hr17 := Lib.hid (Hr16.out.below hba Hr16.out.lt)
          have Hq17 := Lib.hid (Hq16.out.below hba Hq16.out.lt)
          have Hm17 := Lib.hid (Hm16.out.below hba Hm16.out.lt)
          have Hc17 := Lib.hid (Hc16.out.below hba Hc16.out.lt)
          have Sl17 := Lib.hid (Sl16.out.later hba)
          have Hx17 := Lib.hid (Blk.new n2 #[.string s, .int .i64 a2, .int .i64 q1.e] 44)
          have HB17 := Lib.hid (HB16.out.alloc HB16.out.size (.cells #[.string s, .int .i64 a2, .int .i64 q1.e] 44))
          have HZ17 : Hid (w.heap.size ≤ (n2.alloc (.cells #[.string s, .int .i64 a2, .int .i64 q1.e] 44)).heap.size) := Lib.hid (Nat.le_trans HZ16.out hba.size)
          have HGgx : Hid (w.heap.size ≤ n2.heap.size) := Lib.hid HB16.out.size
          clear hba Hr16 Hq16 Hm16 Hc16 Sl16 HB16 HZ16
          go_upto_region 25 with fail
          generalize (n2.alloc (.cells #[.string s, .int .i64 a2, .int .i64 q1.e] 44)) = N3 at *
          generalize hggx : n2.heap.size = gx at *
          clear hggx
          clear HGgx
          have x0 : N3.cell? ⟨gx, 0, none⟩ = some (.string s) := Hx17.out.cell 0
          have x1 : N3.cell? ⟨gx, 1, none⟩ = some (.int .i64 a2) := Hx17.out.cell 1
          have x2 : N3.cell? ⟨gx, 2, none⟩ = some (.int .i64 q1.e) := Hx17.out.cell 2
          go_wp2_with (with_reducible refine stop_storeT 44 (.tmp 1) (.tmp 144) rfl ?_)
          clear x0 x1 x2
          have HTH : Hid (N3.there w.heap.size 0 3) := Hr17.out.thereAt
          have hch : Hid (Chg w.heap.size N3 (N3.setCells w.heap.size 0 (#[.string s, .int .i64 a2, .int .i64 q1.e] : Array Value).toList)) := Lib.hid (chg_putL _ _ _ _ _ (Chg.refl _ N3))
          have Hr18 : Hid (Blk (N3.setCells w.heap.size 0 (#[.string s, .int .i64 a2, .int .i64 q1.e] : Array Value).toList) w.heap.size #[.string s, .int .i64 a2, .int .i64 q1.e] 44) := Lib.hid (blk_put_all Hr17.out _ rfl)
          have HB18 : Hid (Below w.heap.size w (N3.setCells w.heap.size 0 (#[.string s, .int .i64 a2, .int .i64 q1.e] : Array Value).toList)) := Lib.hid (below_put (by have h9 := HGL.out; have h8 := HLC.out; have h7 := HGX.out; omega) _ _ _ _ HB17.out)
          have HZ18 : Hid (w.heap.size ≤ (N3.setCells w.heap.size 0 (#[.string s, .int .i64 a2, .int .i64 q1.e] : Array Value).toList).heap.size) := Lib.hid (Nat.le_trans HZ17.out hch.out.size)
          have Hq18 := Lib.hid (Hq17.out.chg hch.out (by have h9 := HGL.out; have h8 := HLC.out; have h7 := HGX.out; omega))
          have Hm18 := Lib.hid (Hm17.out.chg hch.out (by have h9 := HGL.out; have h8 := HLC.out; have h7 := HGX.out; omega))
          have Hc18 := Lib.hid (Hc17.out.chg hch.out (by have h9 := HGL.out; have h8 := HLC.out; have h7 := HGX.out; omega))
          have Hx18 := Lib.hid (Hx17.out.chg hch.out (by have h9 := HGL.out; have h8 := HLC.out; have h7 := HGX.out; omega))
          have Sl18 := Lib.hid (Sl17.out.stay (fun b hb => hch.out.2 b (Sl17.out.lt b hb) (by have h1 := Sl17.out.block_ge b hb; have h9 := HGL.out; have h8 := HLC.out; have h7 := HGX.out; omega)))
          clear hch Hr17 Hq17 Hm17 Hc17 Hx17 Sl17 HB17 HZ17
          refine wpList_store_mid rfl 44 (.tmp 1) (.tmp 144) rfl w.heap.size 0 #[.string s, .int .i64 a2, .int .i64 q1.e] rfl rfl HTH.out (infoRd rfl) (all_oneCell_toArray (by intro u hu; simp at hu; rcases hu with rfl | rfl | rfl <;> rfl)) ?_
          generalize (N3.setCells w.heap.size 0 (#[.string s, .int .i64 a2, .int .i64 q1.e] : Array Value).toList) = N4 at *
          clear HTH
          clear Hx18
          obtain ⟨B, hB⟩ : ∃ B, N4.heap.size = B := ⟨_, rfl⟩
          have HBB : Hid (gc < B) := Lib.hid (by rw [← hB]; exact Hc18.out.lt)
          have HLB : Hid (∀ b, (Value.slice pl i cl).ownBlock = some b → b < B) := Lib.hid (by rw [← hB]; exact Sl18.out.lt)
          have HBN : Hid (B ≤ N4.heap.size) := Lib.hid (Nat.le_of_eq hB.symm)
          clear hB HGX
          have HREL : Hid (Blk N4 w.heap.size #[.string s, .int .i64 a2, .int .i64 (q1.nets 0).e] 44 ∧ Blk N4 (w.heap.size + 1) #[.string ⟨#[]⟩, .int .i64 0, .int .i64 0] 44 ∧ Blk N4 (w.heap.size + 1 + 1) #[.int .i64 0, .int .i64 0, .int .i64 0, .int .i64 0, .int .i64 0, .int .i64 0, .int .i64 0, .int .i64 0, .bool false, .slice none 0 0, .slice none 0 0] 29 ∧ Blk N4 gc #[.int .i64 v0, .int .i64 v1, .int .i64 v2, .int .i64 v3, .int .i64 v4, .int .i64 v5, .int .i64 v6, .int .i64 q.numV, .bool q.num.boolV, .slice pl i cl, .slice none 0 0] 29 ∧ OwnT encN N4 (gc + 1) 49 (.slice pl i cl) (rdLins (F10 q) i) ∧ NRw N4 B (.slice none 0 0) (rdNets q1 0) ∧ Below w.heap.size w N4) := ⟨Hr18.out, Hq18.out, Hm18.out, Hc18.out, Sl18.out, Own.nil_ _ _ _ _, HB18.out⟩
          have HT0 : Hid (TieR s a2 (q1.nets 0)) := HT2
          clear HT2 Hr18 Hq18 Hm18 Hc18 Sl18 HB18 HZ18
          go_upto_region 27 with fail
          go_loopw [22] (fun v wr => ∃ (j a : Nat) (pn : Option Addr) (cn : Nat), j ≤ nn ∧ v = .int .i64 j ∧ Hid (TieR s a (q1.nets j)) ∧ Hid (B ≤ wr.heap.size) ∧ Hid (Blk wr w.heap.size #[.string s, .int .i64 a, .int .i64 (q1.nets j).e] 44 ∧ Blk wr (w.heap.size + 1) #[.string ⟨#[]⟩, .int .i64 0, .int .i64 0] 44 ∧ Blk wr (w.heap.size + 1 + 1) #[.int .i64 0, .int .i64 0, .int .i64 0, .int .i64 0, .int .i64 0, .int .i64 0, .int .i64 0, .int .i64 0, .bool false, .slice none 0 0, .slice none 0 0] 29 ∧ Blk wr gc #[.int .i64 v0, .int .i64 v1, .int .i64 v2, .int .i64 v3, .int .i64 v4, .int .i64 v5, .int .i64 v6, .int .i64 q.numV, .bool q.num.boolV, .slice pl i cl, .slice pn j cn] 29 ∧ OwnT encN wr (gc + 1) 49 (.slice pl i cl) (rdLins (F10 q) i) ∧ NRw wr B (.slice pn j cn) (rdNets q1 j) ∧ Below w.heap.size w wr)) (fun v _ => nn - (intOf v).toNat)
          case atStart => exact ⟨0, a2, none, 0, by omega, rfl, HT0, HBN, HREL⟩
          case round =>
            clear HREL HT0 HBN
            obtain ⟨j, a, pn, cn, hj, rfl, HT, HBW, HK⟩ := hrel
            have Hr19 := Lib.hid HK.out.1
            have Hq19 := Lib.hid HK.out.2.1
            have Hm19 := Lib.hid HK.out.2.2.1
            have Hc19 := Lib.hid HK.out.2.2.2.1
            have Sl19 := Lib.hid HK.out.2.2.2.2.1
            have Qn19 := Lib.hid HK.out.2.2.2.2.2.1
            have HB19 := Lib.hid HK.out.2.2.2.2.2.2
            have HZ19 : Hid (w.heap.size ≤ wr.heap.size) := Lib.hid HB19.out.size
            clear HK
            obtain ⟨q2, hq2⟩ : ∃ z, q1.nets j = z := ⟨_, rfl⟩
            rw [hq2] at HT Hr19
            have HQ2 := Lib.hid hq2
            clear hq2
            by_cases he : q2.e = 0
            · skip
              have heb : (q2.e == 0) = true := by simpa using he
              have hen : (q2.e != 0) = false := by simp [he]
              have HE2 := Lib.hid he
              clear he
              by_cases hlt : j < nn
              · skip
                have hltI : (j : Int) < (nn : Int) := by omega
                clear hen HE2
                have x0 : wr.cell? ⟨w.heap.size, 0, none⟩ = some (.string s) := Hr19.out.cell 0
                have x1 : wr.cell? ⟨w.heap.size, 1, none⟩ = some (.int .i64 a) := Hr19.out.cell 1
                have x2 : wr.cell? ⟨w.heap.size, 2, none⟩ = some (.int .i64 q2.e) := Hr19.out.cell 2
                go_upto_region 29 with fail
                clear heb
                have HG := Lib.hid (number_tie s a q2 wr HT.out)
                unfold rdV at HG
                go_wp2_with fail
                clear x0 x1 x2
                refine HG.out.mono ?_
                rintro y9 u0 ⟨a3, rfl, ht, hb⟩
                clear HG HT
                have HT3 := Lib.hid ht
                clear ht
                have HBU : Hid (B ≤ u0.heap.size) := Lib.hid (Nat.le_trans HBW.out hb.size)
                clear HBW
                have Hr20 := Lib.hid (Hr19.out.below hb Hr19.out.lt)
                have Hq20 := Lib.hid (Hq19.out.below hb Hq19.out.lt)
                have Hm20 := Lib.hid (Hm19.out.below hb Hm19.out.lt)
                have Hc20 := Lib.hid (Hc19.out.below hb Hc19.out.lt)
                have Qn20 := Lib.hid (Qn19.out.kept hb)
                have Sl20 := Lib.hid (Sl19.out.later hb)
                have HB20 := Lib.hid (HB19.out.trans (hb.mono HB19.out.size))
                have HZ20 : Hid (w.heap.size ≤ u0.heap.size) := Lib.hid (Nat.le_trans HZ19.out hb.size)
                clear Hr19 Hq19 Hm19 Hc19 Qn19 Sl19 HB19 HZ19
                clear hb
                have HGX : Hid (gc < u0.heap.size) := Lib.hid Hc20.out.lt
                have hba := oneB u0 (.cells #[.string s, .int .i64 a3, .int .i64 q2.num.e] 44)
                have Hr21 := Lib.hid (Hr20.out.below hba Hr20.out.lt)
                have Hq21 := Lib.hid (Hq20.out.below hba Hq20.out.lt)
                have Hm21 := Lib.hid (Hm20.out.below hba Hm20.out.lt)
                have Hc21 := Lib.hid (Hc20.out.below hba Hc20.out.lt)
                have Qn21 := Lib.hid (Qn20.out.kept hba)
                have Sl21 := Lib.hid (Sl20.out.later hba)
                have Hx21 := Lib.hid (Blk.new u0 #[.string s, .int .i64 a3, .int .i64 q2.num.e] 44)
                have HB21 := Lib.hid (HB20.out.alloc HB20.out.size (.cells #[.string s, .int .i64 a3, .int .i64 q2.num.e] 44))
                have HZ21 : Hid (w.heap.size ≤ (u0.alloc (.cells #[.string s, .int .i64 a3, .int .i64 q2.num.e] 44)).heap.size) := Lib.hid (Nat.le_trans HZ20.out hba.size)
                have HGgx : Hid (w.heap.size ≤ u0.heap.size) := Lib.hid HB20.out.size
                clear hba Hr20 Hq20 Hm20 Hc20 Qn20 Sl20 HB20 HZ20
                go_upto_region 30 with fail
                have HBV : Hid (B ≤ (u0.alloc (.cells #[.string s, .int .i64 a3, .int .i64 q2.num.e] 44)).heap.size) := Lib.hid (Nat.le_trans HBU.out (oneB u0 _).size)
                clear HBU
                generalize (u0.alloc (.cells #[.string s, .int .i64 a3, .int .i64 q2.num.e] 44)) = U1 at *
                generalize hggx : u0.heap.size = gx at *
                clear hggx
                clear HGgx
                have x0 : U1.cell? ⟨gx, 0, none⟩ = some (.string s) := Hx21.out.cell 0
                have x1 : U1.cell? ⟨gx, 1, none⟩ = some (.int .i64 a3) := Hx21.out.cell 1
                have x2 : U1.cell? ⟨gx, 2, none⟩ = some (.int .i64 q2.num.e) := Hx21.out.cell 2
                go_wp2_with (with_reducible refine stop_storeT 44 (.tmp 1) (.tmp 160) rfl ?_)
                clear x0 x1 x2
                have HTH : Hid (U1.there w.heap.size 0 3) := Hr21.out.thereAt
                have hch : Hid (Chg w.heap.size U1 (U1.setCells w.heap.size 0 (#[.string s, .int .i64 a3, .int .i64 q2.num.e] : Array Value).toList)) := Lib.hid (chg_putL _ _ _ _ _ (Chg.refl _ U1))
                have Hr22 : Hid (Blk (U1.setCells w.heap.size 0 (#[.string s, .int .i64 a3, .int .i64 q2.num.e] : Array Value).toList) w.heap.size #[.string s, .int .i64 a3, .int .i64 q2.num.e] 44) := Lib.hid (blk_put_all Hr21.out _ rfl)
                have HB22 : Hid (Below w.heap.size w (U1.setCells w.heap.size 0 (#[.string s, .int .i64 a3, .int .i64 q2.num.e] : Array Value).toList)) := Lib.hid (below_put (by have h9 := HGL.out; have h8 := HLC.out; have h7 := HGX.out; have h6 := HBB.out; omega) _ _ _ _ HB21.out)
                have HZ22 : Hid (w.heap.size ≤ (U1.setCells w.heap.size 0 (#[.string s, .int .i64 a3, .int .i64 q2.num.e] : Array Value).toList).heap.size) := Lib.hid (Nat.le_trans HZ21.out hch.out.size)
                have Hq22 := Lib.hid (Hq21.out.chg hch.out (by have h9 := HGL.out; have h8 := HLC.out; have h7 := HGX.out; have h6 := HBB.out; omega))
                have Hm22 := Lib.hid (Hm21.out.chg hch.out (by have h9 := HGL.out; have h8 := HLC.out; have h7 := HGX.out; have h6 := HBB.out; omega))
                have Hc22 := Lib.hid (Hc21.out.chg hch.out (by have h9 := HGL.out; have h8 := HLC.out; have h7 := HGX.out; have h6 := HBB.out; omega))
                have Hx22 := Lib.hid (Hx21.out.chg hch.out (by have h9 := HGL.out; have h8 := HLC.out; have h7 := HGX.out; have h6 := HBB.out; omega))
                have Qn22 := Lib.hid (Qn21.out.chg hch.out (by have h9 := HGL.out; have h8 := HLC.out; have h6 := HBB.out; omega))
                have Sl22 := Lib.hid (Sl21.out.stay (fun b hb => hch.out.2 b (Sl21.out.lt b hb) (by have h1 := Sl21.out.block_ge b hb; have h9 := HGL.out; have h8 := HLC.out; have h7 := HGX.out; have h6 := HBB.out; omega)))
                have HBZ : Hid (B ≤ (U1.setCells w.heap.size 0 (#[.string s, .int .i64 a3, .int .i64 q2.num.e] : Array Value).toList).heap.size) := Lib.hid (Nat.le_trans HBV.out hch.out.size)
                clear HBV
                clear hch Hr21 Hq21 Hm21 Hc21 Hx21 Qn21 Sl21 HB21 HZ21
                refine wpList_store_mid rfl 44 (.tmp 1) (.tmp 160) rfl w.heap.size 0 #[.string s, .int .i64 a3, .int .i64 q2.num.e] rfl rfl HTH.out (infoRd rfl) (all_oneCell_toArray (by intro u hu; simp at hu; rcases hu with rfl | rfl | rfl <;> rfl)) ?_
                generalize (U1.setCells w.heap.size 0 (#[.string s, .int .i64 a3, .int .i64 q2.num.e] : Array Value).toList) = Z1 at *
                clear HTH
                clear Hx22
                have x10 : Z1.cell? ⟨gc, 10, none⟩ = some (.slice pn j cn) := Hc22.out.cell 10
                go_wp2_with (at_builtin; with_reducible refine stop_appN (.tmp 162) (.tmp 164) 27 rfl ?_)
                clear x10
                have hb1 := oneB Z1 (.cells #[.int .i64 q2.numV] 2)
                have hBA : B ≤ (Z1.alloc (.cells #[.int .i64 q2.numV] 2)).heap.size := Nat.le_trans HBZ.out hb1.size
                refine wpList_append_row rfl (.tmp 162) (.tmp 164) 27 rfl 2 .i64 8 B elt64 (.slice pn j cn) (.slice (some ⟨Z1.heap.size, 0, none⟩) 1 1) (rdNets q1 j) [q2.numV] rfl rfl (Own.later Qn22.out hb1) (Row.laid .i64 Z1 2 [q2.numV] #[.int .i64 q2.numV] rfl (0, 0) 1 1 rfl (by simp)) (by rw [rdNets_len]; simp; omega) (by rw [rdNets_len]; simp; omega) hBA (rdNets q1 (j + 1)) (j + 1) (by rw [← HQ2.out]; rfl) (rdNets_len _ _) ?_
                intro p3 c3 Z2 ho hb2
                have Hr23 := Lib.hid ((Hr22.out.below hb1 Hr22.out.lt).below hb2 (by have h9 := HGL.out; have h8 := HLC.out; have h6 := HBB.out; omega))
                have Hq23 := Lib.hid ((Hq22.out.below hb1 Hq22.out.lt).below hb2 (by have h9 := HGL.out; have h8 := HLC.out; have h6 := HBB.out; omega))
                have Hm23 := Lib.hid ((Hm22.out.below hb1 Hm22.out.lt).below hb2 (by have h9 := HGL.out; have h8 := HLC.out; have h6 := HBB.out; omega))
                have Hc23 := Lib.hid ((Hc22.out.below hb1 Hc22.out.lt).below hb2 (by have h9 := HGL.out; have h8 := HLC.out; have h6 := HBB.out; omega))
                have Sl23 := Lib.hid (lrow_below (Sl22.out.later hb1) hb2 HLB.out)
                have Qn23 : Hid (NRw Z2 B (.slice p3 (j + 1) c3) (rdNets q1 (j + 1))) := Lib.hid ho
                have HB23 := Lib.hid (HB22.out.trans ((hb1.mono HB22.out.size).trans (hb2.mono (by have h9 := HGL.out; have h8 := HLC.out; have h6 := HBB.out; omega))))
                have HZ23 : Hid (w.heap.size ≤ Z2.heap.size) := Lib.hid HB23.out.size
                have HBY : Hid (B ≤ Z2.heap.size) := Lib.hid (Nat.le_trans hBA hb2.size)
                clear ho hb1 hb2 hBA HBZ Hr22 Hq22 Hm22 Hc22 Qn22 Sl22 HB22 HZ22
                have z10 : Z2.cell? ⟨gc, 10, none⟩ = some (.slice pn j cn) := Hc23.out.cell 10
                have f10 := Hc23.out.free 10
                go_upto_region 28 with fail
                clear z10 f10
                have hch : Hid (Chg gc Z2 (Z2.setCell ⟨gc, 10, none⟩ (.slice p3 (j + 1) c3))) := Lib.hid ((Chg.refl gc Z2).set 10 (.slice p3 (j + 1) c3))
                have Hc24 : Hid (Blk (Z2.setCell ⟨gc, 10, none⟩ (.slice p3 (j + 1) c3)) gc #[.int .i64 v0, .int .i64 v1, .int .i64 v2, .int .i64 v3, .int .i64 v4, .int .i64 v5, .int .i64 v6, .int .i64 q.numV, .bool q.num.boolV, .slice pl i cl, .slice p3 (j + 1) c3] 29) := Lib.hid (Hc23.out.set 10 (.slice p3 (j + 1) c3))
                have HB24 : Hid (Below w.heap.size w (Z2.setCell ⟨gc, 10, none⟩ (.slice p3 (j + 1) c3))) := Lib.hid (HB23.out.setCell (p := ⟨gc, 10, none⟩) (by show w.heap.size ≤ gc; have h9 := HGL.out; have h8 := HLC.out; have h7 := HGX.out; have h6 := HBB.out; omega) (.slice p3 (j + 1) c3))
                have HZ24 : Hid (w.heap.size ≤ (Z2.setCell ⟨gc, 10, none⟩ (.slice p3 (j + 1) c3)).heap.size) := Lib.hid (Nat.le_trans HZ23.out hch.out.size)
                have Hr24 := Lib.hid (Hr23.out.chg hch.out (by have h9 := HGL.out; have h8 := HLC.out; have h7 := HGX.out; have h6 := HBB.out; omega))
                have Hq24 := Lib.hid (Hq23.out.chg hch.out (by have h9 := HGL.out; have h8 := HLC.out; have h7 := HGX.out; have h6 := HBB.out; omega))
                have Hm24 := Lib.hid (Hm23.out.chg hch.out (by have h9 := HGL.out; have h8 := HLC.out; have h7 := HGX.out; have h6 := HBB.out; omega))
                have Qn24 := Lib.hid (Qn23.out.chg hch.out (by have h9 := HGL.out; have h8 := HLC.out; have h6 := HBB.out; omega))
                have Sl24 := Lib.hid (Sl23.out.stay (fun b hb => hch.out.2 b (Sl23.out.lt b hb) (by have h1 := Sl23.out.block_ge b hb; have h9 := HGL.out; have h8 := HLC.out; have h7 := HGX.out; have h6 := HBB.out; omega)))
                have HBX : Hid (B ≤ (Z2.setCell ⟨gc, 10, none⟩ (.slice p3 (j + 1) c3)).heap.size) := Lib.hid (Nat.le_trans HBY.out hch.out.size)
                clear HBY
                clear hch Hr23 Hq23 Hm23 Hc23 Qn23 Sl23 HB23 HZ23
                generalize (Z2.setCell ⟨gc, 10, none⟩ (.slice p3 (j + 1) c3)) = Z3 at *
                have HNX : Hid (Blk Z3 w.heap.size #[.string s, .int .i64 a3, .int .i64 (q1.nets (j + 1)).e] 44 ∧ Blk Z3 (w.heap.size + 1) #[.string ⟨#[]⟩, .int .i64 0, .int .i64 0] 44 ∧ Blk Z3 (w.heap.size + 1 + 1) #[.int .i64 0, .int .i64 0, .int .i64 0, .int .i64 0, .int .i64 0, .int .i64 0, .int .i64 0, .int .i64 0, .bool false, .slice none 0 0, .slice none 0 0] 29 ∧ Blk Z3 gc #[.int .i64 v0, .int .i64 v1, .int .i64 v2, .int .i64 v3, .int .i64 v4, .int .i64 v5, .int .i64 v6, .int .i64 q.numV, .bool q.num.boolV, .slice pl i cl, .slice p3 (j + 1) c3] 29 ∧ OwnT encN Z3 (gc + 1) 49 (.slice pl i cl) (rdLins (F10 q) i) ∧ NRw Z3 B (.slice p3 (j + 1) c3) (rdNets q1 (j + 1)) ∧ Below w.heap.size w Z3) := by
                  rw [show q1.nets (j + 1) = (q1.nets j).num from rfl, HQ2.out]
                  exact Lib.hid ⟨Hr24.out, Hq24.out, Hm24.out, Hc24.out, Sl24.out, Qn24.out, HB24.out⟩
                have HTN : Hid (TieR s a3 (q1.nets (j + 1))) := by
                  rw [show q1.nets (j + 1) = (q1.nets j).num from rfl, HQ2.out]
                  exact HT3
                clear HT3 HQ2 Hr24 Hq24 Hm24 Hc24 Qn24 Sl24 HB24 HZ24
                go_wp2_with fail
                go_roundw
                case rel => exact ⟨j + 1, a3, p3, c3, by omega, by go_num, HTN, HBX, HNX⟩
                case measure => simp [intOf]; omega
              · skip
                have hltI : ¬ (j : Int) < (nn : Int) := by omega
                have HJ : Hid (j = nn) := Lib.hid (by omega)
                have HRG := Lib.hid (HAL.out.good HNN.out HQ1.out HJ.out HQ2.out HE2.out HV.out)
                have x2 : wr.cell? ⟨w.heap.size, 2, none⟩ = some (.int .i64 q2.e) := Hr19.out.cell 2
                go_upto_region 34 with fail
                clear x2 heb hen
                have hbd := (Below.refl wr.heap.size wr).drew
                have Hr20 := Lib.hid (Hr19.out.below hbd Hr19.out.lt)
                have Hq20 := Lib.hid (Hq19.out.below hbd Hq19.out.lt)
                have Hm20 := Lib.hid (Hm19.out.below hbd Hm19.out.lt)
                have Hc20 := Lib.hid (Hc19.out.below hbd Hc19.out.lt)
                have Qn20 := Lib.hid (Qn19.out.kept hbd)
                have Sl20 := Lib.hid (Sl19.out.later hbd)
                have HB20 := Lib.hid (HB19.out.trans (hbd.mono HB19.out.size))
                have HZ20 : Hid (w.heap.size ≤ wr.drew.heap.size) := Lib.hid (Nat.le_trans HZ19.out hbd.size)
                clear Hr19 Hq19 Hm19 Hc19 Qn19 Sl19 HB19 HZ19
                have hS1 : wr.drew.cell? ⟨w.heap.size, 0, none⟩ = some (.string s) ∧ wr.drew.cell? ⟨w.heap.size, 1, none⟩ = some (.int .i64 a) ∧ wr.drew.cell? ⟨w.heap.size, 2, none⟩ = some (.int .i64 q2.e) ∧ wr.drew.cell? ⟨gc, 0, none⟩ = some (.int .i64 v0) ∧ wr.drew.cell? ⟨gc, 1, none⟩ = some (.int .i64 v1) ∧ wr.drew.cell? ⟨gc, 2, none⟩ = some (.int .i64 v2) ∧ wr.drew.cell? ⟨gc, 3, none⟩ = some (.int .i64 v3) ∧ wr.drew.cell? ⟨gc, 4, none⟩ = some (.int .i64 v4) ∧ wr.drew.cell? ⟨gc, 5, none⟩ = some (.int .i64 v5) ∧ wr.drew.cell? ⟨gc, 6, none⟩ = some (.int .i64 v6) ∧ wr.drew.cell? ⟨gc, 7, none⟩ = some (.int .i64 q.numV) ∧ wr.drew.cell? ⟨gc, 8, none⟩ = some (.bool q.num.boolV) ∧ wr.drew.cell? ⟨gc, 9, none⟩ = some (.slice pl i cl) ∧ wr.drew.cell? ⟨gc, 10, none⟩ = some (.slice pn j cn) := ⟨Hr20.out.cell 0, Hr20.out.cell 1, Hr20.out.cell 2, Hc20.out.cell 0, Hc20.out.cell 1, Hc20.out.cell 2, Hc20.out.cell 3, Hc20.out.cell 4, Hc20.out.cell 5, Hc20.out.cell 6, Hc20.out.cell 7, Hc20.out.cell 8, Hc20.out.cell 9, Hc20.out.cell 10⟩
                refine wp_region_held_drew (S := fun w' => w'.cell? ⟨w.heap.size, 0, none⟩ = some (.string s) ∧ w'.cell? ⟨w.heap.size, 1, none⟩ = some (.int .i64 a) ∧ w'.cell? ⟨w.heap.size, 2, none⟩ = some (.int .i64 q2.e) ∧ w'.cell? ⟨gc, 0, none⟩ = some (.int .i64 v0) ∧ w'.cell? ⟨gc, 1, none⟩ = some (.int .i64 v1) ∧ w'.cell? ⟨gc, 2, none⟩ = some (.int .i64 v2) ∧ w'.cell? ⟨gc, 3, none⟩ = some (.int .i64 v3) ∧ w'.cell? ⟨gc, 4, none⟩ = some (.int .i64 v4) ∧ w'.cell? ⟨gc, 5, none⟩ = some (.int .i64 v5) ∧ w'.cell? ⟨gc, 6, none⟩ = some (.int .i64 v6) ∧ w'.cell? ⟨gc, 7, none⟩ = some (.int .i64 q.numV) ∧ w'.cell? ⟨gc, 8, none⟩ = some (.bool q.num.boolV) ∧ w'.cell? ⟨gc, 9, none⟩ = some (.slice pl i cl) ∧ w'.cell? ⟨gc, 10, none⟩ = some (.slice pn j cn)) (by kernel_rfl) hS1 (fun hS0 => ?_)
                clear hS1
                generalize wr.drew = WD at *
                clear hbd
                refine wpAnyH_take (i := 0) (v := ?_) rfl (by kernel_rfl) (by kernel_rfl) (by kernel_rfl) (fun _ _ _ h => h) (Or.inl ⟨by kernel_rfl, ?_⟩) (by first | assumption | trivial) ?_
                rotate_left
                · intro w hSw
                  try dsimp only at hSw
                  first | (go_simp; done) | (go_simp; with_reducible rfl)
                try simp only [Act.put, List.getElem_toArray, List.getElem_cons_succ, List.getElem_cons_zero, List.setIfInBounds_toArray, List.set_cons_zero, List.set_cons_succ]
                refine wpAnyH_take (i := 1) (v := ?_) rfl (by kernel_rfl) (by kernel_rfl) (by kernel_rfl) (fun _ _ _ h => h) (Or.inl ⟨by kernel_rfl, ?_⟩) (by first | assumption | trivial) ?_
                rotate_left
                · intro w hSw
                  try dsimp only at hSw
                  first | (go_simp; done) | (go_simp; with_reducible rfl)
                try simp only [Act.put, List.getElem_toArray, List.getElem_cons_succ, List.getElem_cons_zero, List.setIfInBounds_toArray, List.set_cons_zero, List.set_cons_succ]
                refine wpAnyH_ready (rs := [2]) (by kernel_rfl) (by simp) ?_
                refine AllReadyH.cons rfl (fun K hK => ?_) AllReadyH.nil
                have z0 : WD.cell? ⟨(w.heap.size + 1), 0, none⟩ = some (.string ⟨#[]⟩) := Hq20.out.cell 0
                have z1 : WD.cell? ⟨(w.heap.size + 1), 1, none⟩ = some (.int .i64 0) := Hq20.out.cell 1
                have z2 : WD.cell? ⟨(w.heap.size + 1), 2, none⟩ = some (.int .i64 0) := Hq20.out.cell 2
                have f0 := Hq20.out.free 0
                have f1 := Hq20.out.free 1
                have f2 := Hq20.out.free 2
                go_simp
                clear z0 f0 z1 f1 z2 f2
                have hch : Hid (Chg (w.heap.size + 1) WD (((WD.setCell ⟨w.heap.size + 1, 0, none⟩ (.string s)).setCell ⟨w.heap.size + 1, 1, none⟩ (.int .i64 a)).setCell ⟨w.heap.size + 1, 2, none⟩ (.int .i64 q2.e))) := Lib.hid ((((Chg.refl (w.heap.size + 1) WD).set 0 (.string s)).set 1 (.int .i64 a)).set 2 (.int .i64 q2.e))
                have Hq21 : Hid (Blk (((WD.setCell ⟨w.heap.size + 1, 0, none⟩ (.string s)).setCell ⟨w.heap.size + 1, 1, none⟩ (.int .i64 a)).setCell ⟨w.heap.size + 1, 2, none⟩ (.int .i64 q2.e)) (w.heap.size + 1) #[.string s, .int .i64 a, .int .i64 q2.e] 44) := Lib.hid (((Hq20.out.set 0 (.string s)).set 1 (.int .i64 a)).set 2 (.int .i64 q2.e))
                have HB21 : Hid (Below w.heap.size w (((WD.setCell ⟨w.heap.size + 1, 0, none⟩ (.string s)).setCell ⟨w.heap.size + 1, 1, none⟩ (.int .i64 a)).setCell ⟨w.heap.size + 1, 2, none⟩ (.int .i64 q2.e))) := Lib.hid (((HB20.out.setCell (p := ⟨w.heap.size + 1, 0, none⟩) (by show w.heap.size ≤ (w.heap.size + 1); have h9 := HGL.out; have h8 := HLC.out; have h6 := HBB.out; omega) (.string s)).setCell (p := ⟨w.heap.size + 1, 1, none⟩) (by show w.heap.size ≤ (w.heap.size + 1); have h9 := HGL.out; have h8 := HLC.out; have h6 := HBB.out; omega) (.int .i64 a)).setCell (p := ⟨w.heap.size + 1, 2, none⟩) (by show w.heap.size ≤ (w.heap.size + 1); have h9 := HGL.out; have h8 := HLC.out; have h6 := HBB.out; omega) (.int .i64 q2.e))
                have HZ21 : Hid (w.heap.size ≤ (((WD.setCell ⟨w.heap.size + 1, 0, none⟩ (.string s)).setCell ⟨w.heap.size + 1, 1, none⟩ (.int .i64 a)).setCell ⟨w.heap.size + 1, 2, none⟩ (.int .i64 q2.e)).heap.size) := Lib.hid (Nat.le_trans HZ20.out hch.out.size)
                have Hr21 := Lib.hid (Hr20.out.chg hch.out (by have h9 := HGL.out; have h8 := HLC.out; have h6 := HBB.out; omega))
                have Hm21 := Lib.hid (Hm20.out.chg hch.out (by have h9 := HGL.out; have h8 := HLC.out; have h6 := HBB.out; omega))
                have Hc21 := Lib.hid (Hc20.out.chg hch.out (by have h9 := HGL.out; have h8 := HLC.out; have h6 := HBB.out; omega))
                have Qn21 := Lib.hid (Qn20.out.chg hch.out (by have h9 := HGL.out; have h8 := HLC.out; have h6 := HBB.out; omega))
                have Sl21 := Lib.hid (Sl20.out.stay (fun b hb => hch.out.2 b (Sl20.out.lt b hb) (by have h1 := Sl20.out.block_ge b hb; have h9 := HGL.out; have h8 := HLC.out; have h6 := HBB.out; omega)))
                clear hch hS0 Hr20 Hq20 Hm20 Hc20 Qn20 Sl20 HB20 HZ20
                generalize (((WD.setCell ⟨w.heap.size + 1, 0, none⟩ (.string s)).setCell ⟨w.heap.size + 1, 1, none⟩ (.int .i64 a)).setCell ⟨w.heap.size + 1, 2, none⟩ (.int .i64 q2.e)) = X1 at *
                refine hK.out _ _ ⟨Hr21.out.cell 0, Hr21.out.cell 1, Hr21.out.cell 2, Hc21.out.cell 0, Hc21.out.cell 1, Hc21.out.cell 2, Hc21.out.cell 3, Hc21.out.cell 4, Hc21.out.cell 5, Hc21.out.cell 6, Hc21.out.cell 7, Hc21.out.cell 8, Hc21.out.cell 9, Hc21.out.cell 10⟩ (fun hS0 => ?_)
                clear hK K
                try simp only [Act.put, List.getElem_toArray, List.getElem_cons_succ, List.getElem_cons_zero, List.setIfInBounds_toArray, List.set_cons_zero, List.set_cons_succ]
                refine wpAnyH_ready (rs := [3]) (by kernel_rfl) (by simp) ?_
                refine AllReadyH.cons rfl (fun K hK => ?_) AllReadyH.nil
                have z0 : X1.cell? ⟨(w.heap.size + 1 + 1), 0, none⟩ = some (.int .i64 0) := Hm21.out.cell 0
                have z1 : X1.cell? ⟨(w.heap.size + 1 + 1), 1, none⟩ = some (.int .i64 0) := Hm21.out.cell 1
                have z2 : X1.cell? ⟨(w.heap.size + 1 + 1), 2, none⟩ = some (.int .i64 0) := Hm21.out.cell 2
                have z3 : X1.cell? ⟨(w.heap.size + 1 + 1), 3, none⟩ = some (.int .i64 0) := Hm21.out.cell 3
                have z4 : X1.cell? ⟨(w.heap.size + 1 + 1), 4, none⟩ = some (.int .i64 0) := Hm21.out.cell 4
                have z5 : X1.cell? ⟨(w.heap.size + 1 + 1), 5, none⟩ = some (.int .i64 0) := Hm21.out.cell 5
                have z6 : X1.cell? ⟨(w.heap.size + 1 + 1), 6, none⟩ = some (.int .i64 0) := Hm21.out.cell 6
                have z7 : X1.cell? ⟨(w.heap.size + 1 + 1), 7, none⟩ = some (.int .i64 0) := Hm21.out.cell 7
                have z8 : X1.cell? ⟨(w.heap.size + 1 + 1), 8, none⟩ = some (.bool false) := Hm21.out.cell 8
                have z9 : X1.cell? ⟨(w.heap.size + 1 + 1), 9, none⟩ = some (.slice none 0 0) := Hm21.out.cell 9
                have z10 : X1.cell? ⟨(w.heap.size + 1 + 1), 10, none⟩ = some (.slice none 0 0) := Hm21.out.cell 10
                have f0 := Hm21.out.free 0
                have f1 := Hm21.out.free 1
                have f2 := Hm21.out.free 2
                have f3 := Hm21.out.free 3
                have f4 := Hm21.out.free 4
                have f5 := Hm21.out.free 5
                have f6 := Hm21.out.free 6
                have f7 := Hm21.out.free 7
                have f8 := Hm21.out.free 8
                have f9 := Hm21.out.free 9
                have f10 := Hm21.out.free 10
                go_simp
                clear z0 f0 z1 f1 z2 f2 z3 f3 z4 f4 z5 f5 z6 f6 z7 f7 z8 f8 z9 f9 z10 f10
                have hch : Hid (Chg (w.heap.size + 1 + 1) X1 (((((((((((X1.setCell ⟨w.heap.size + 1 + 1, 0, none⟩ (.int .i64 v0)).setCell ⟨w.heap.size + 1 + 1, 1, none⟩ (.int .i64 v1)).setCell ⟨w.heap.size + 1 + 1, 2, none⟩ (.int .i64 v2)).setCell ⟨w.heap.size + 1 + 1, 3, none⟩ (.int .i64 v3)).setCell ⟨w.heap.size + 1 + 1, 4, none⟩ (.int .i64 v4)).setCell ⟨w.heap.size + 1 + 1, 5, none⟩ (.int .i64 v5)).setCell ⟨w.heap.size + 1 + 1, 6, none⟩ (.int .i64 v6)).setCell ⟨w.heap.size + 1 + 1, 7, none⟩ (.int .i64 q.numV)).setCell ⟨w.heap.size + 1 + 1, 8, none⟩ (.bool q.num.boolV)).setCell ⟨w.heap.size + 1 + 1, 9, none⟩ (.slice pl i cl)).setCell ⟨w.heap.size + 1 + 1, 10, none⟩ (.slice pn j cn))) := Lib.hid ((((((((((((Chg.refl (w.heap.size + 1 + 1) X1).set 0 (.int .i64 v0)).set 1 (.int .i64 v1)).set 2 (.int .i64 v2)).set 3 (.int .i64 v3)).set 4 (.int .i64 v4)).set 5 (.int .i64 v5)).set 6 (.int .i64 v6)).set 7 (.int .i64 q.numV)).set 8 (.bool q.num.boolV)).set 9 (.slice pl i cl)).set 10 (.slice pn j cn))
                have Hm22 : Hid (Blk (((((((((((X1.setCell ⟨w.heap.size + 1 + 1, 0, none⟩ (.int .i64 v0)).setCell ⟨w.heap.size + 1 + 1, 1, none⟩ (.int .i64 v1)).setCell ⟨w.heap.size + 1 + 1, 2, none⟩ (.int .i64 v2)).setCell ⟨w.heap.size + 1 + 1, 3, none⟩ (.int .i64 v3)).setCell ⟨w.heap.size + 1 + 1, 4, none⟩ (.int .i64 v4)).setCell ⟨w.heap.size + 1 + 1, 5, none⟩ (.int .i64 v5)).setCell ⟨w.heap.size + 1 + 1, 6, none⟩ (.int .i64 v6)).setCell ⟨w.heap.size + 1 + 1, 7, none⟩ (.int .i64 q.numV)).setCell ⟨w.heap.size + 1 + 1, 8, none⟩ (.bool q.num.boolV)).setCell ⟨w.heap.size + 1 + 1, 9, none⟩ (.slice pl i cl)).setCell ⟨w.heap.size + 1 + 1, 10, none⟩ (.slice pn j cn)) (w.heap.size + 1 + 1) #[.int .i64 v0, .int .i64 v1, .int .i64 v2, .int .i64 v3, .int .i64 v4, .int .i64 v5, .int .i64 v6, .int .i64 q.numV, .bool q.num.boolV, .slice pl i cl, .slice pn j cn] 29) := (by have h1 := blk_put_all Hm21.out #[.int .i64 v0, .int .i64 v1, .int .i64 v2, .int .i64 v3, .int .i64 v4, .int .i64 v5, .int .i64 v6, .int .i64 q.numV, .bool q.num.boolV, .slice pl i cl, .slice pn j cn] rfl; exact Lib.hid h1)
                have HB22 : Hid (Below w.heap.size w (((((((((((X1.setCell ⟨w.heap.size + 1 + 1, 0, none⟩ (.int .i64 v0)).setCell ⟨w.heap.size + 1 + 1, 1, none⟩ (.int .i64 v1)).setCell ⟨w.heap.size + 1 + 1, 2, none⟩ (.int .i64 v2)).setCell ⟨w.heap.size + 1 + 1, 3, none⟩ (.int .i64 v3)).setCell ⟨w.heap.size + 1 + 1, 4, none⟩ (.int .i64 v4)).setCell ⟨w.heap.size + 1 + 1, 5, none⟩ (.int .i64 v5)).setCell ⟨w.heap.size + 1 + 1, 6, none⟩ (.int .i64 v6)).setCell ⟨w.heap.size + 1 + 1, 7, none⟩ (.int .i64 q.numV)).setCell ⟨w.heap.size + 1 + 1, 8, none⟩ (.bool q.num.boolV)).setCell ⟨w.heap.size + 1 + 1, 9, none⟩ (.slice pl i cl)).setCell ⟨w.heap.size + 1 + 1, 10, none⟩ (.slice pn j cn))) := Lib.hid (((((((((((HB21.out.setCell (p := ⟨w.heap.size + 1 + 1, 0, none⟩) (by show w.heap.size ≤ (w.heap.size + 1 + 1); have h9 := HGL.out; have h8 := HLC.out; have h6 := HBB.out; omega) (.int .i64 v0)).setCell (p := ⟨w.heap.size + 1 + 1, 1, none⟩) (by show w.heap.size ≤ (w.heap.size + 1 + 1); have h9 := HGL.out; have h8 := HLC.out; have h6 := HBB.out; omega) (.int .i64 v1)).setCell (p := ⟨w.heap.size + 1 + 1, 2, none⟩) (by show w.heap.size ≤ (w.heap.size + 1 + 1); have h9 := HGL.out; have h8 := HLC.out; have h6 := HBB.out; omega) (.int .i64 v2)).setCell (p := ⟨w.heap.size + 1 + 1, 3, none⟩) (by show w.heap.size ≤ (w.heap.size + 1 + 1); have h9 := HGL.out; have h8 := HLC.out; have h6 := HBB.out; omega) (.int .i64 v3)).setCell (p := ⟨w.heap.size + 1 + 1, 4, none⟩) (by show w.heap.size ≤ (w.heap.size + 1 + 1); have h9 := HGL.out; have h8 := HLC.out; have h6 := HBB.out; omega) (.int .i64 v4)).setCell (p := ⟨w.heap.size + 1 + 1, 5, none⟩) (by show w.heap.size ≤ (w.heap.size + 1 + 1); have h9 := HGL.out; have h8 := HLC.out; have h6 := HBB.out; omega) (.int .i64 v5)).setCell (p := ⟨w.heap.size + 1 + 1, 6, none⟩) (by show w.heap.size ≤ (w.heap.size + 1 + 1); have h9 := HGL.out; have h8 := HLC.out; have h6 := HBB.out; omega) (.int .i64 v6)).setCell (p := ⟨w.heap.size + 1 + 1, 7, none⟩) (by show w.heap.size ≤ (w.heap.size + 1 + 1); have h9 := HGL.out; have h8 := HLC.out; have h6 := HBB.out; omega) (.int .i64 q.numV)).setCell (p := ⟨w.heap.size + 1 + 1, 8, none⟩) (by show w.heap.size ≤ (w.heap.size + 1 + 1); have h9 := HGL.out; have h8 := HLC.out; have h6 := HBB.out; omega) (.bool q.num.boolV)).setCell (p := ⟨w.heap.size + 1 + 1, 9, none⟩) (by show w.heap.size ≤ (w.heap.size + 1 + 1); have h9 := HGL.out; have h8 := HLC.out; have h6 := HBB.out; omega) (.slice pl i cl)).setCell (p := ⟨w.heap.size + 1 + 1, 10, none⟩) (by show w.heap.size ≤ (w.heap.size + 1 + 1); have h9 := HGL.out; have h8 := HLC.out; have h6 := HBB.out; omega) (.slice pn j cn))
                have HZ22 : Hid (w.heap.size ≤ (((((((((((X1.setCell ⟨w.heap.size + 1 + 1, 0, none⟩ (.int .i64 v0)).setCell ⟨w.heap.size + 1 + 1, 1, none⟩ (.int .i64 v1)).setCell ⟨w.heap.size + 1 + 1, 2, none⟩ (.int .i64 v2)).setCell ⟨w.heap.size + 1 + 1, 3, none⟩ (.int .i64 v3)).setCell ⟨w.heap.size + 1 + 1, 4, none⟩ (.int .i64 v4)).setCell ⟨w.heap.size + 1 + 1, 5, none⟩ (.int .i64 v5)).setCell ⟨w.heap.size + 1 + 1, 6, none⟩ (.int .i64 v6)).setCell ⟨w.heap.size + 1 + 1, 7, none⟩ (.int .i64 q.numV)).setCell ⟨w.heap.size + 1 + 1, 8, none⟩ (.bool q.num.boolV)).setCell ⟨w.heap.size + 1 + 1, 9, none⟩ (.slice pl i cl)).setCell ⟨w.heap.size + 1 + 1, 10, none⟩ (.slice pn j cn)).heap.size) := Lib.hid (Nat.le_trans HZ21.out hch.out.size)
                have Hr22 := Lib.hid (Hr21.out.chg hch.out (by have h9 := HGL.out; have h8 := HLC.out; have h6 := HBB.out; omega))
                have Hq22 := Lib.hid (Hq21.out.chg hch.out (by have h9 := HGL.out; have h8 := HLC.out; have h6 := HBB.out; omega))
                have Hc22 := Lib.hid (Hc21.out.chg hch.out (by have h9 := HGL.out; have h8 := HLC.out; have h6 := HBB.out; omega))
                have Qn22 := Lib.hid (Qn21.out.chg hch.out (by have h9 := HGL.out; have h8 := HLC.out; have h6 := HBB.out; omega))
                have Sl22 := Lib.hid (Sl21.out.stay (fun b hb => hch.out.2 b (Sl21.out.lt b hb) (by have h1 := Sl21.out.block_ge b hb; have h9 := HGL.out; have h8 := HLC.out; have h6 := HBB.out; omega)))
                clear hch hS0 Hr21 Hq21 Hm21 Hc21 Qn21 Sl21 HB21 HZ21
                generalize (((((((((((X1.setCell ⟨w.heap.size + 1 + 1, 0, none⟩ (.int .i64 v0)).setCell ⟨w.heap.size + 1 + 1, 1, none⟩ (.int .i64 v1)).setCell ⟨w.heap.size + 1 + 1, 2, none⟩ (.int .i64 v2)).setCell ⟨w.heap.size + 1 + 1, 3, none⟩ (.int .i64 v3)).setCell ⟨w.heap.size + 1 + 1, 4, none⟩ (.int .i64 v4)).setCell ⟨w.heap.size + 1 + 1, 5, none⟩ (.int .i64 v5)).setCell ⟨w.heap.size + 1 + 1, 6, none⟩ (.int .i64 v6)).setCell ⟨w.heap.size + 1 + 1, 7, none⟩ (.int .i64 q.numV)).setCell ⟨w.heap.size + 1 + 1, 8, none⟩ (.bool q.num.boolV)).setCell ⟨w.heap.size + 1 + 1, 9, none⟩ (.slice pl i cl)).setCell ⟨w.heap.size + 1 + 1, 10, none⟩ (.slice pn j cn)) = X2 at *
                refine hK.out _ _ ⟨Hr22.out.cell 0, Hr22.out.cell 1, Hr22.out.cell 2, Hc22.out.cell 0, Hc22.out.cell 1, Hc22.out.cell 2, Hc22.out.cell 3, Hc22.out.cell 4, Hc22.out.cell 5, Hc22.out.cell 6, Hc22.out.cell 7, Hc22.out.cell 8, Hc22.out.cell 9, Hc22.out.cell 10⟩ (fun hS0 => ?_)
                clear hK K
                try simp only [Act.put, List.getElem_toArray, List.getElem_cons_succ, List.getElem_cons_zero, List.setIfInBounds_toArray, List.set_cons_zero, List.set_cons_succ]
                refine wpAnyH_done (by kernel_rfl) ?_ _
                clear hS0
                go_wp2_with fail
                have hfq := Hq22.out
                have hfm := Hm22.out
                refine bodyPost_ret (v := .tuple #[.agg #[.string s, .int .i64 a, .int .i64 q2.e], .agg #[.int .i64 v0, .int .i64 v1, .int .i64 v2, .int .i64 v3, .int .i64 v4, .int .i64 v5, .int .i64 v6, .int .i64 q.numV, .bool q.num.boolV, .slice pl i cl, .slice pn j cn]]) (by simp [results, Try.results12, go_sem, hfq.cell 0, hfq.cell 1, hfq.cell 2, hfm.cell 0, hfm.cell 1, hfm.cell 2, hfm.cell 3, hfm.cell 4, hfm.cell 5, hfm.cell 6, hfm.cell 7, hfm.cell 8, hfm.cell 9, hfm.cell 10]) rfl ?_
                obtain ⟨hR1, hR2, hR3⟩ := HRG.out
                have hE2 := HE2.out
                unfold FromD
                rw [hR1, hR2, hR3]
                unfold rdV
                rw [hE2]
                exact ⟨a, .slice pl i cl, .slice pn j cn, rfl, Sl22.out.less (by have h9 := HGL.out; have h8 := HLC.out; omega), own_down Qn22.out (by have h9 := HGL.out; have h8 := HLC.out; have h6 := HBB.out; omega), fun _ => HT.out, HB22.out⟩
            · skip
              have heb : (q2.e == 0) = false := by simpa using he
              have hen : (q2.e != 0) = true := by simpa using he
              have HRB := Lib.hid (HAL.out.bad HNN.out HQ1.out hj HQ2.out he)
              clear he
              by_cases hlt : j < nn
              · skip
                have hltI : (j : Int) < (nn : Int) := by omega
                have x0 : wr.cell? ⟨w.heap.size, 0, none⟩ = some (.string s) := Hr19.out.cell 0
                have x1 : wr.cell? ⟨w.heap.size, 1, none⟩ = some (.int .i64 a) := Hr19.out.cell 1
                have x2 : wr.cell? ⟨w.heap.size, 2, none⟩ = some (.int .i64 q2.e) := Hr19.out.cell 2
                go_wp2_with (with_reducible refine stop_storeT 44 (.tmp 2) (.tmp 170) rfl ?_)
                clear x0 x1 x2 heb hen
                have HTH : Hid (wr.there (w.heap.size + 1) 0 3) := Hq19.out.thereAt
                have hch : Hid (Chg (w.heap.size + 1) wr (wr.setCells (w.heap.size + 1) 0 (#[.string s, .int .i64 a, .int .i64 q2.e] : Array Value).toList)) := Lib.hid (chg_putL _ _ _ _ _ (Chg.refl _ wr))
                have Hq20 : Hid (Blk (wr.setCells (w.heap.size + 1) 0 (#[.string s, .int .i64 a, .int .i64 q2.e] : Array Value).toList) (w.heap.size + 1) #[.string s, .int .i64 a, .int .i64 q2.e] 44) := Lib.hid (blk_put_all Hq19.out _ rfl)
                have HB20 : Hid (Below w.heap.size w (wr.setCells (w.heap.size + 1) 0 (#[.string s, .int .i64 a, .int .i64 q2.e] : Array Value).toList)) := Lib.hid (below_put (by have h9 := HGL.out; have h8 := HLC.out; have h6 := HBB.out; omega) _ _ _ _ HB19.out)
                have HZ20 : Hid (w.heap.size ≤ (wr.setCells (w.heap.size + 1) 0 (#[.string s, .int .i64 a, .int .i64 q2.e] : Array Value).toList).heap.size) := Lib.hid (Nat.le_trans HZ19.out hch.out.size)
                have Hr20 := Lib.hid (Hr19.out.chg hch.out (by have h9 := HGL.out; have h8 := HLC.out; have h6 := HBB.out; omega))
                have Hm20 := Lib.hid (Hm19.out.chg hch.out (by have h9 := HGL.out; have h8 := HLC.out; have h6 := HBB.out; omega))
                have Hc20 := Lib.hid (Hc19.out.chg hch.out (by have h9 := HGL.out; have h8 := HLC.out; have h6 := HBB.out; omega))
                have Qn20 := Lib.hid (Qn19.out.chg hch.out (by have h9 := HGL.out; have h8 := HLC.out; have h6 := HBB.out; omega))
                have Sl20 := Lib.hid (Sl19.out.stay (fun b hb => hch.out.2 b (Sl19.out.lt b hb) (by have h1 := Sl19.out.block_ge b hb; have h9 := HGL.out; have h8 := HLC.out; have h6 := HBB.out; omega)))
                clear hch Hr19 Hq19 Hm19 Hc19 Qn19 Sl19 HB19 HZ19
                refine wpList_store_mid rfl 44 (.tmp 2) (.tmp 170) rfl (w.heap.size + 1) 0 #[.string s, .int .i64 a, .int .i64 q2.e] rfl rfl HTH.out (infoRd rfl) (all_oneCell_toArray (by intro u hu; simp at hu; rcases hu with rfl | rfl | rfl <;> rfl)) ?_
                generalize (wr.setCells (w.heap.size + 1) 0 (#[.string s, .int .i64 a, .int .i64 q2.e] : Array Value).toList) = X1 at *
                clear HTH
                go_wp2_with (with_reducible refine stop_storeT 29 (.tmp 3) (.tmp 171) rfl ?_)
                have HTH : Hid (X1.there (w.heap.size + 1 + 1) 0 11) := Hm20.out.thereAt
                have hch : Hid (Chg (w.heap.size + 1 + 1) X1 (X1.setCells (w.heap.size + 1 + 1) 0 (#[.int .i64 0, .int .i64 0, .int .i64 0, .int .i64 0, .int .i64 0, .int .i64 0, .int .i64 0, .int .i64 0, .bool false, .slice none 0 0, .slice none 0 0] : Array Value).toList)) := Lib.hid (chg_putL _ _ _ _ _ (Chg.refl _ X1))
                have Hm21 : Hid (Blk (X1.setCells (w.heap.size + 1 + 1) 0 (#[.int .i64 0, .int .i64 0, .int .i64 0, .int .i64 0, .int .i64 0, .int .i64 0, .int .i64 0, .int .i64 0, .bool false, .slice none 0 0, .slice none 0 0] : Array Value).toList) (w.heap.size + 1 + 1) #[.int .i64 0, .int .i64 0, .int .i64 0, .int .i64 0, .int .i64 0, .int .i64 0, .int .i64 0, .int .i64 0, .bool false, .slice none 0 0, .slice none 0 0] 29) := Lib.hid (blk_put_all Hm20.out _ rfl)
                have HB21 : Hid (Below w.heap.size w (X1.setCells (w.heap.size + 1 + 1) 0 (#[.int .i64 0, .int .i64 0, .int .i64 0, .int .i64 0, .int .i64 0, .int .i64 0, .int .i64 0, .int .i64 0, .bool false, .slice none 0 0, .slice none 0 0] : Array Value).toList)) := Lib.hid (below_put (by have h9 := HGL.out; have h8 := HLC.out; have h6 := HBB.out; omega) _ _ _ _ HB20.out)
                have HZ21 : Hid (w.heap.size ≤ (X1.setCells (w.heap.size + 1 + 1) 0 (#[.int .i64 0, .int .i64 0, .int .i64 0, .int .i64 0, .int .i64 0, .int .i64 0, .int .i64 0, .int .i64 0, .bool false, .slice none 0 0, .slice none 0 0] : Array Value).toList).heap.size) := Lib.hid (Nat.le_trans HZ20.out hch.out.size)
                have Hr21 := Lib.hid (Hr20.out.chg hch.out (by have h9 := HGL.out; have h8 := HLC.out; have h6 := HBB.out; omega))
                have Hq21 := Lib.hid (Hq20.out.chg hch.out (by have h9 := HGL.out; have h8 := HLC.out; have h6 := HBB.out; omega))
                have Hc21 := Lib.hid (Hc20.out.chg hch.out (by have h9 := HGL.out; have h8 := HLC.out; have h6 := HBB.out; omega))
                have Qn21 := Lib.hid (Qn20.out.chg hch.out (by have h9 := HGL.out; have h8 := HLC.out; have h6 := HBB.out; omega))
                have Sl21 := Lib.hid (Sl20.out.stay (fun b hb => hch.out.2 b (Sl20.out.lt b hb) (by have h1 := Sl20.out.block_ge b hb; have h9 := HGL.out; have h8 := HLC.out; have h6 := HBB.out; omega)))
                clear hch Hr20 Hq20 Hm20 Hc20 Qn20 Sl20 HB20 HZ20
                refine wpList_store_mid rfl 29 (.tmp 3) (.tmp 171) rfl (w.heap.size + 1 + 1) 0 #[.int .i64 0, .int .i64 0, .int .i64 0, .int .i64 0, .int .i64 0, .int .i64 0, .int .i64 0, .int .i64 0, .bool false, .slice none 0 0, .slice none 0 0] rfl rfl HTH.out (infM rfl) (one11 _ _ _ _ _ _ _ _ _ _ _ _ _ _ _) ?_
                generalize (X1.setCells (w.heap.size + 1 + 1) 0 (#[.int .i64 0, .int .i64 0, .int .i64 0, .int .i64 0, .int .i64 0, .int .i64 0, .int .i64 0, .int .i64 0, .bool false, .slice none 0 0, .slice none 0 0] : Array Value).toList) = X2 at *
                clear HTH
                go_wp2_with fail
                have hfq := Hq21.out
                have hfm := Hm21.out
                refine bodyPost_ret (v := .tuple #[.agg #[.string s, .int .i64 a, .int .i64 q2.e], .agg #[.int .i64 0, .int .i64 0, .int .i64 0, .int .i64 0, .int .i64 0, .int .i64 0, .int .i64 0, .int .i64 0, .bool false, .slice none 0 0, .slice none 0 0]]) (by simp [results, Try.results12, go_sem, hfq.cell 0, hfq.cell 1, hfq.cell 2, hfm.cell 0, hfm.cell 1, hfm.cell 2, hfm.cell 3, hfm.cell 4, hfm.cell 5, hfm.cell 6, hfm.cell 7, hfm.cell 8, hfm.cell 9, hfm.cell 10]) rfl ?_
                obtain ⟨hR1, hR2, hR3⟩ := HRB.out
                unfold FromD
                rw [hR1, hR2]
                exact ⟨a, .slice none 0 0, .slice none 0 0, rfl, OwnT.nil_ _ _ _ _, Own.nil_ _ _ _ _, fun h => absurd (hR1.trans h) hR3, HB21.out⟩
              · skip
                have hltI : ¬ (j : Int) < (nn : Int) := by omega
                have x0 : wr.cell? ⟨w.heap.size, 0, none⟩ = some (.string s) := Hr19.out.cell 0
                have x1 : wr.cell? ⟨w.heap.size, 1, none⟩ = some (.int .i64 a) := Hr19.out.cell 1
                have x2 : wr.cell? ⟨w.heap.size, 2, none⟩ = some (.int .i64 q2.e) := Hr19.out.cell 2
                go_wp2_with (with_reducible refine stop_storeT 44 (.tmp 2) (.tmp 170) rfl ?_)
                clear x0 x1 x2 heb hen
                have HTH : Hid (wr.there (w.heap.size + 1) 0 3) := Hq19.out.thereAt
                have hch : Hid (Chg (w.heap.size + 1) wr (wr.setCells (w.heap.size + 1) 0 (#[.string s, .int .i64 a, .int .i64 q2.e] : Array Value).toList)) := Lib.hid (chg_putL _ _ _ _ _ (Chg.refl _ wr))
                have Hq20 : Hid (Blk (wr.setCells (w.heap.size + 1) 0 (#[.string s, .int .i64 a, .int .i64 q2.e] : Array Value).toList) (w.heap.size + 1) #[.string s, .int .i64 a, .int .i64 q2.e] 44) := Lib.hid (blk_put_all Hq19.out _ rfl)
                have HB20 : Hid (Below w.heap.size w (wr.setCells (w.heap.size + 1) 0 (#[.string s, .int .i64 a, .int .i64 q2.e] : Array Value).toList)) := Lib.hid (below_put (by have h9 := HGL.out; have h8 := HLC.out; have h6 := HBB.out; omega) _ _ _ _ HB19.out)
                have HZ20 : Hid (w.heap.size ≤ (wr.setCells (w.heap.size + 1) 0 (#[.string s, .int .i64 a, .int .i64 q2.e] : Array Value).toList).heap.size) := Lib.hid (Nat.le_trans HZ19.out hch.out.size)
                have Hr20 := Lib.hid (Hr19.out.chg hch.out (by have h9 := HGL.out; have h8 := HLC.out; have h6 := HBB.out; omega))
                have Hm20 := Lib.hid (Hm19.out.chg hch.out (by have h9 := HGL.out; have h8 := HLC.out; have h6 := HBB.out; omega))
                have Hc20 := Lib.hid (Hc19.out.chg hch.out (by have h9 := HGL.out; have h8 := HLC.out; have h6 := HBB.out; omega))
                have Qn20 := Lib.hid (Qn19.out.chg hch.out (by have h9 := HGL.out; have h8 := HLC.out; have h6 := HBB.out; omega))
                have Sl20 := Lib.hid (Sl19.out.stay (fun b hb => hch.out.2 b (Sl19.out.lt b hb) (by have h1 := Sl19.out.block_ge b hb; have h9 := HGL.out; have h8 := HLC.out; have h6 := HBB.out; omega)))
                clear hch Hr19 Hq19 Hm19 Hc19 Qn19 Sl19 HB19 HZ19
                refine wpList_store_mid rfl 44 (.tmp 2) (.tmp 170) rfl (w.heap.size + 1) 0 #[.string s, .int .i64 a, .int .i64 q2.e] rfl rfl HTH.out (infoRd rfl) (all_oneCell_toArray (by intro u hu; simp at hu; rcases hu with rfl | rfl | rfl <;> rfl)) ?_
                generalize (wr.setCells (w.heap.size + 1) 0 (#[.string s, .int .i64 a, .int .i64 q2.e] : Array Value).toList) = X1 at *
                clear HTH
                go_wp2_with (with_reducible refine stop_storeT 29 (.tmp 3) (.tmp 171) rfl ?_)
                have HTH : Hid (X1.there (w.heap.size + 1 + 1) 0 11) := Hm20.out.thereAt
                have hch : Hid (Chg (w.heap.size + 1 + 1) X1 (X1.setCells (w.heap.size + 1 + 1) 0 (#[.int .i64 0, .int .i64 0, .int .i64 0, .int .i64 0, .int .i64 0, .int .i64 0, .int .i64 0, .int .i64 0, .bool false, .slice none 0 0, .slice none 0 0] : Array Value).toList)) := Lib.hid (chg_putL _ _ _ _ _ (Chg.refl _ X1))
                have Hm21 : Hid (Blk (X1.setCells (w.heap.size + 1 + 1) 0 (#[.int .i64 0, .int .i64 0, .int .i64 0, .int .i64 0, .int .i64 0, .int .i64 0, .int .i64 0, .int .i64 0, .bool false, .slice none 0 0, .slice none 0 0] : Array Value).toList) (w.heap.size + 1 + 1) #[.int .i64 0, .int .i64 0, .int .i64 0, .int .i64 0, .int .i64 0, .int .i64 0, .int .i64 0, .int .i64 0, .bool false, .slice none 0 0, .slice none 0 0] 29) := Lib.hid (blk_put_all Hm20.out _ rfl)
                have HB21 : Hid (Below w.heap.size w (X1.setCells (w.heap.size + 1 + 1) 0 (#[.int .i64 0, .int .i64 0, .int .i64 0, .int .i64 0, .int .i64 0, .int .i64 0, .int .i64 0, .int .i64 0, .bool false, .slice none 0 0, .slice none 0 0] : Array Value).toList)) := Lib.hid (below_put (by have h9 := HGL.out; have h8 := HLC.out; have h6 := HBB.out; omega) _ _ _ _ HB20.out)
                have HZ21 : Hid (w.heap.size ≤ (X1.setCells (w.heap.size + 1 + 1) 0 (#[.int .i64 0, .int .i64 0, .int .i64 0, .int .i64 0, .int .i64 0, .int .i64 0, .int .i64 0, .int .i64 0, .bool false, .slice none 0 0, .slice none 0 0] : Array Value).toList).heap.size) := Lib.hid (Nat.le_trans HZ20.out hch.out.size)
                have Hr21 := Lib.hid (Hr20.out.chg hch.out (by have h9 := HGL.out; have h8 := HLC.out; have h6 := HBB.out; omega))
                have Hq21 := Lib.hid (Hq20.out.chg hch.out (by have h9 := HGL.out; have h8 := HLC.out; have h6 := HBB.out; omega))
                have Hc21 := Lib.hid (Hc20.out.chg hch.out (by have h9 := HGL.out; have h8 := HLC.out; have h6 := HBB.out; omega))
                have Qn21 := Lib.hid (Qn20.out.chg hch.out (by have h9 := HGL.out; have h8 := HLC.out; have h6 := HBB.out; omega))
                have Sl21 := Lib.hid (Sl20.out.stay (fun b hb => hch.out.2 b (Sl20.out.lt b hb) (by have h1 := Sl20.out.block_ge b hb; have h9 := HGL.out; have h8 := HLC.out; have h6 := HBB.out; omega)))
                clear hch Hr20 Hq20 Hm20 Hc20 Qn20 Sl20 HB20 HZ20
                refine wpList_store_mid rfl 29 (.tmp 3) (.tmp 171) rfl (w.heap.size + 1 + 1) 0 #[.int .i64 0, .int .i64 0, .int .i64 0, .int .i64 0, .int .i64 0, .int .i64 0, .int .i64 0, .int .i64 0, .bool false, .slice none 0 0, .slice none 0 0] rfl rfl HTH.out (infM rfl) (one11 _ _ _ _ _ _ _ _ _ _ _ _ _ _ _) ?_
                generalize (X1.setCells (w.heap.size + 1 + 1) 0 (#[.int .i64 0, .int .i64 0, .int .i64 0, .int .i64 0, .int .i64 0, .int .i64 0, .int .i64 0, .int .i64 0, .bool false, .slice none 0 0, .slice none 0 0] : Array Value).toList) = X2 at *
                clear HTH
                go_wp2_with fail
                have hfq := Hq21.out
                have hfm := Hm21.out
                refine bodyPost_ret (v := .tuple #[.agg #[.string s, .int .i64 a, .int .i64 q2.e], .agg #[.int .i64 0, .int .i64 0, .int .i64 0, .int .i64 0, .int .i64 0, .int .i64 0, .int .i64 0, .int .i64 0, .bool false, .slice none 0 0, .slice none 0 0]]) (by simp [results, Try.results12, go_sem, hfq.cell 0, hfq.cell 1, hfq.cell 2, hfm.cell 0, hfm.cell 1, hfm.cell 2, hfm.cell 3, hfm.cell 4, hfm.cell 5, hfm.cell 6, hfm.cell 7, hfm.cell 8, hfm.cell 9, hfm.cell 10]) rfl ?_
                obtain ⟨hR1, hR2, hR3⟩ := HRB.out
                unfold FromD
                rw [hR1, hR2]
                exact ⟨a, .slice none 0 0, .slice none 0 0, rfl, OwnT.nil_ _ _ _ _, Own.nil_ _ _ _ _, fun h => absurd (hR1.trans h) hR3, HB21.out⟩
end Go.Proofs.Ytbimbpmdiahhbaa
