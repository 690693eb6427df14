/- contraref14.propose by contract. contraref14.client by contract. -/
import Derived.Test.YtbpfbebebppleaaP4
import Derived.Test.YtbpfbebebppleaaP1
namespace Go.Proofs.Ytbpfbebebppleaa
open Go.RowKit
set_option linter.unusedSimpArgs false
set_option linter.unusedSimpArgs false in
set_option maxHeartbeats 4000000 in
set_option maxRecDepth 100000 in
theorem rpropose_any (w : World) (P : Nat → Prop) (p po : Option Addr) (c co : Nat) (xs : List Itm) (os : List Ord) (d : Dsk) (m : Msg) (vl vn : Value) (fro : Int) (h : DdX P w p c po co xs os d) (hs : SortX d.xs) (ho : SortO d.os) (hok : d.Ok) (hoo : OrdOk d.os) (hn : d.xs.length ≤ 1024) (hno : d.os.length ≤ 1024) (hk : m.k = 6) :
  Calls Try.prog 40 #[.agg #[.int .i64 d.me, .int .i64 d.far, .slice p xs.length c, .slice po os.length co], m.v vl vn, .int .i64 fro] w (DPm w P (nodeM d m fro)) := by
 have HD := Lib.hid h.lt
 have HSX := Lib.hid hs
 have HSO := Lib.hid ho
 have HOK := Lib.hid hok
 have HOO := Lib.hid hoo
 have HLN : Hid (xs.length ≤ 1024 ∧ os.length ≤ 1024) := Lib.hid ⟨by rw [h.px.length_eq]; exact hn, by rw [h.po.length_eq]; exact hno⟩
 clear h hs ho hok hoo hn hno
 obtain ⟨R, hR⟩ : ∃ R, nodeM d m fro = R := ⟨_, rfl⟩
 rw [hR]
 have HA : Hid (d.beh (proI d m fro) (proK d m) = R) := Lib.hid (by rw [← hR]; unfold nodeM; rw [if_pos hk])
 clear hR hk
 unfold Msg.v
 have HB0 : Hid (Below w.heap.size w (((w.alloc (.cells #[.int .i64 d.me, .int .i64 d.far, .slice p xs.length c, .slice po os.length co] 34)).alloc (.cells #[.int .i64 m.k, .int .i64 m.s, .int .i64 m.n, .int .i64 m.b, .int .i64 m.c, .int .i64 m.r, .int .i64 m.y, .int .i64 m.a, .bool m.t, vl, vn] 40)).alloc (.cells #[.int .i64 0, .int .i64 0, .slice none 0 0, .slice none 0 0] 34))) := Lib.hid ((((oneB w _).alloc (by simp <;> omega) _).alloc (by simp <;> omega) _))
 have Hd0 : Hid (Blk (((w.alloc (.cells #[.int .i64 d.me, .int .i64 d.far, .slice p xs.length c, .slice po os.length co] 34)).alloc (.cells #[.int .i64 m.k, .int .i64 m.s, .int .i64 m.n, .int .i64 m.b, .int .i64 m.c, .int .i64 m.r, .int .i64 m.y, .int .i64 m.a, .bool m.t, vl, vn] 40)).alloc (.cells #[.int .i64 0, .int .i64 0, .slice none 0 0, .slice none 0 0] 34)) w.heap.size #[.int .i64 d.me, .int .i64 d.far, .slice p xs.length c, .slice po os.length co] 34) := Lib.hid (((Blk.new w #[.int .i64 d.me, .int .i64 d.far, .slice p xs.length c, .slice po os.length co] 34).alloc _).alloc _)
 have Hm0 : Hid (Blk (((w.alloc (.cells #[.int .i64 d.me, .int .i64 d.far, .slice p xs.length c, .slice po os.length co] 34)).alloc (.cells #[.int .i64 m.k, .int .i64 m.s, .int .i64 m.n, .int .i64 m.b, .int .i64 m.c, .int .i64 m.r, .int .i64 m.y, .int .i64 m.a, .bool m.t, vl, vn] 40)).alloc (.cells #[.int .i64 0, .int .i64 0, .slice none 0 0, .slice none 0 0] 34)) (w.heap.size + 1) #[.int .i64 m.k, .int .i64 m.s, .int .i64 m.n, .int .i64 m.b, .int .i64 m.c, .int .i64 m.r, .int .i64 m.y, .int .i64 m.a, .bool m.t, vl, vn] 40) := Lib.hid ((Blk.new' (w.alloc (.cells #[.int .i64 d.me, .int .i64 d.far, .slice p xs.length c, .slice po os.length co] 34)) #[.int .i64 m.k, .int .i64 m.s, .int .i64 m.n, .int .i64 m.b, .int .i64 m.c, .int .i64 m.r, .int .i64 m.y, .int .i64 m.a, .bool m.t, vl, vn] 40 (by simp)).alloc _)
 have Hr0 : Hid (Blk (((w.alloc (.cells #[.int .i64 d.me, .int .i64 d.far, .slice p xs.length c, .slice po os.length co] 34)).alloc (.cells #[.int .i64 m.k, .int .i64 m.s, .int .i64 m.n, .int .i64 m.b, .int .i64 m.c, .int .i64 m.r, .int .i64 m.y, .int .i64 m.a, .bool m.t, vl, vn] 40)).alloc (.cells #[.int .i64 0, .int .i64 0, .slice none 0 0, .slice none 0 0] 34)) (w.heap.size + 1 + 1) #[.int .i64 0, .int .i64 0, .slice none 0 0, .slice none 0 0] 34) := Lib.hid (Blk.new' ((w.alloc (.cells #[.int .i64 d.me, .int .i64 d.far, .slice p xs.length c, .slice po os.length co] 34)).alloc (.cells #[.int .i64 m.k, .int .i64 m.s, .int .i64 m.n, .int .i64 m.b, .int .i64 m.c, .int .i64 m.r, .int .i64 m.y, .int .i64 m.a, .bool m.t, vl, vn] 40)) #[.int .i64 0, .int .i64 0, .slice none 0 0, .slice none 0 0] 34 (by simp))
 have HZ0 : Hid (w.heap.size ≤ (((w.alloc (.cells #[.int .i64 d.me, .int .i64 d.far, .slice p xs.length c, .slice po os.length co] 34)).alloc (.cells #[.int .i64 m.k, .int .i64 m.s, .int .i64 m.n, .int .i64 m.b, .int .i64 m.c, .int .i64 m.r, .int .i64 m.y, .int .i64 m.a, .bool m.t, vl, vn] 40)).alloc (.cells #[.int .i64 0, .int .i64 0, .slice none 0 0, .slice none 0 0] 34)).heap.size) := Lib.hid HB0.out.size
 go_enter Try.func40, Try.ntmps40
 go_upto_region 1 with fail
 generalize (((w.alloc (.cells #[.int .i64 d.me, .int .i64 d.far, .slice p xs.length c, .slice po os.length co] 34)).alloc (.cells #[.int .i64 m.k, .int .i64 m.s, .int .i64 m.n, .int .i64 m.b, .int .i64 m.c, .int .i64 m.r, .int .i64 m.y, .int .i64 m.a, .bool m.t, vl, vn] 40)).alloc (.cells #[.int .i64 0, .int .i64 0, .slice none 0 0, .slice none 0 0] 34)) = W at *
 have HWL : Hid (w.heap.size + 1 + 1 < W.heap.size) := Lib.hid Hr0.out.lt
 have m1 : W.cell? ⟨(w.heap.size + 1), 1, none⟩ = some (.int .i64 m.s) := Hm0.out.cell 1
 have m2 : W.cell? ⟨(w.heap.size + 1), 2, none⟩ = some (.int .i64 m.n) := Hm0.out.cell 2
 have m3 : W.cell? ⟨(w.heap.size + 1), 3, none⟩ = some (.int .i64 m.b) := Hm0.out.cell 3
 have m4 : W.cell? ⟨(w.heap.size + 1), 4, none⟩ = some (.int .i64 m.c) := Hm0.out.cell 4
 have m5 : W.cell? ⟨(w.heap.size + 1), 5, none⟩ = some (.int .i64 m.r) := Hm0.out.cell 5
 have m7 : W.cell? ⟨(w.heap.size + 1), 7, none⟩ = some (.int .i64 m.a) := Hm0.out.cell 7
 have hba := oneB W (.cells #[.int .i64 m.s, .int .i64 m.n, .int .i64 m.b, .int .i64 m.c, .int .i64 m.a, .int .i64 m.r, .int .i64 1, .int .i64 0] 64)
 have Hd1 := kbq Hd0 hba
 have Hm1 := kbq Hm0 hba
 have Hr1 := kbq Hr0 hba
 have Hx1 := Lib.hid (Blk.new W #[.int .i64 m.s, .int .i64 m.n, .int .i64 m.b, .int .i64 m.c, .int .i64 m.a, .int .i64 m.r, .int .i64 1, .int .i64 0] 64)
 have HB1 := Lib.hid (HB0.out.alloc HB0.out.size (.cells #[.int .i64 m.s, .int .i64 m.n, .int .i64 m.b, .int .i64 m.c, .int .i64 m.a, .int .i64 m.r, .int .i64 1, .int .i64 0] 64))
 have HZ1 := kzq HZ0 hba.size
 have HGgx : Hid (w.heap.size + 1 + 1 < W.heap.size) := HWL
 clear hba Hd0 Hm0 Hr0 HB0 HZ0
 go_upto_region 2 with fail
 clear m1 m2 m3 m4 m5 m7
 generalize (W.alloc (.cells #[.int .i64 m.s, .int .i64 m.n, .int .i64 m.b, .int .i64 m.c, .int .i64 m.a, .int .i64 m.r, .int .i64 1, .int .i64 0] 64)) = W1 at *
 generalize hggx : W.heap.size = gx at *
 clear hggx
 clear HWL
 obtain ⟨E, hE⟩ : ∃ E, chkI (itemM m) = E := ⟨_, rfl⟩
 have HE := Lib.hid hE
 have HG := Lib.hid (refcheck_any (itemM m) W1)
 rw [hE] at HG
 unfold Itm.v itemM at HG
 dsimp only at HG
 clear hE
 have x0 : W1.cell? ⟨gx, 0, none⟩ = some (.int .i64 m.s) := Hx1.out.cell 0
 have x1 : W1.cell? ⟨gx, 1, none⟩ = some (.int .i64 m.n) := Hx1.out.cell 1
 have x2 : W1.cell? ⟨gx, 2, none⟩ = some (.int .i64 m.b) := Hx1.out.cell 2
 have x3 : W1.cell? ⟨gx, 3, none⟩ = some (.int .i64 m.c) := Hx1.out.cell 3
 have x4 : W1.cell? ⟨gx, 4, none⟩ = some (.int .i64 m.a) := Hx1.out.cell 4
 have x5 : W1.cell? ⟨gx, 5, none⟩ = some (.int .i64 m.r) := Hx1.out.cell 5
 have x6 : W1.cell? ⟨gx, 6, none⟩ = some (.int .i64 1) := Hx1.out.cell 6
 have x7 : W1.cell? ⟨gx, 7, none⟩ = some (.int .i64 0) := Hx1.out.cell 7
 go_wp2_with fail
 clear x0 x1 x2 x3 x4 x5 x6 x7
 refine HG.out.mono ?_
 rintro y9 w2 ⟨rfl, hb⟩
 clear HG
 have Hd2 := kbq Hd1 hb
 have Hm2 := kbq Hm1 hb
 have Hr2 := kbq Hr1 hb
 have Hx2 := kbq Hx1 hb
 have HB2 := ktq HB1 hb
 have HZ2 := kzq HZ1 hb.size
 clear Hd1 Hm1 Hr1 Hx1 HB1 HZ1
 clear hb
 by_cases hE0 : E = 0
 ·skip
  subst hE0
  go_upto_region 5 with fail
  have HPT : Hid (partsOk (itemM m) ∧ numsOk (itemM m)) := Lib.hid ⟨(chk_ok HE.out).1, (chk_ok HE.out).2.1⟩
  have x0 : w2.cell? ⟨gx, 0, none⟩ = some (.int .i64 m.s) := Hx2.out.cell 0
  have x2 : w2.cell? ⟨gx, 2, none⟩ = some (.int .i64 m.b) := Hx2.out.cell 2
  have a0 : w2.cell? ⟨w.heap.size, 0, none⟩ = some (.int .i64 d.me) := Hd2.out.cell 0
  by_cases hf1 : fro = m.s
  ·skip
   have hf2 : (fro != m.s) = false := by simpa using hf1
   have HF1 := Lib.hid hf1
   by_cases hf3 : m.b = d.me
   ·skip
    have hf4 : (m.b != d.me) = false := by simpa using hf3
    have HF3 := Lib.hid hf3
    go_upto_region 7 with fail
    clear hf1 hf2 hf3 hf4 x0 x2 a0
    have HPI : Hid (∀ b, followsB d (itemM m) = b → proI d m fro = if b = false then (itm0, 90) else if expectsB d (itemM m) = true then turnI (itemM m) 1 3 else turnI (itemM m) 1 2) := Lib.hid (fun b hb => by unfold proI; rw [if_neg (fun h => h HE.out), if_neg (by rintro (h | h); exact h HF1.out.symm; exact h HF3.out), hb])
    have HG := Lib.hid (cfind_any w2 d.me d.far m.s m.n p po xs.length c os.length co xs (HD.out.kept HB2.out).row rfl (by have := HLN.out; omega))
    have a0 : w2.cell? ⟨w.heap.size, 0, none⟩ = some (.int .i64 d.me) := Hd2.out.cell 0
    have a1 : w2.cell? ⟨w.heap.size, 1, none⟩ = some (.int .i64 d.far) := Hd2.out.cell 1
    have a2 : w2.cell? ⟨w.heap.size, 2, none⟩ = some (.slice p xs.length c) := Hd2.out.cell 2
    have a3 : w2.cell? ⟨w.heap.size, 3, none⟩ = some (.slice po os.length co) := Hd2.out.cell 3
    have x0 : w2.cell? ⟨gx, 0, none⟩ = some (.int .i64 m.s) := Hx2.out.cell 0
    have x1 : w2.cell? ⟨gx, 1, none⟩ = some (.int .i64 m.n) := Hx2.out.cell 1
    go_wp2_with fail
    clear a0 a1 a2 a3 x0 x1
    refine HG.out.mono ?_
    rintro y9 w3 ⟨⟨r1, rfl, hat⟩, hb⟩
    clear HG
    have Hd3 := kbq Hd2 hb
    have Hm3 := kbq Hm2 hb
    have Hr3 := kbq Hr2 hb
    have Hx3 := kbq Hx2 hb
    have HB3 := ktq HB2 hb
    have HZ3 := kzq HZ2 hb.size
    clear Hd2 Hm2 Hr2 Hx2 HB2 HZ2
    clear hb
    rcases at_findX hat with ⟨rfl, hfx⟩ | ⟨k, hk, rfl, hfx⟩
    ·skip
     rw [perm_findX HD.out.px HSX.out] at hfx
     have HFX := Lib.hid hfx
     clear hat hfx
     have x5 : w3.cell? ⟨gx, 5, none⟩ = some (.int .i64 m.r) := Hx3.out.cell 5
     by_cases hr0 : m.r = 0
     ·skip
      have hr1 : (m.r != 0) = false := by simpa using hr0
      have HR0 := Lib.hid hr0
      go_upto_region 10 with fail
      clear hr0 hr1 x5
      have hbd := (Below.refl w3.heap.size w3).drew
      have Hd4 := kbq Hd3 hbd
      have Hm4 := kbq Hm3 hbd
      have Hr4 := kbq Hr3 hbd
      have Hx4 := kbq Hx3 hbd
      have HB4 := ktq HB3 hbd
      have HZ4 := kzq HZ3 hbd.size
      clear Hd3 Hm3 Hr3 Hx3 HB3 HZ3
      refine wp_region_held_drew (S := fun w' => w'.cell? ⟨w.heap.size, 0, none⟩ = some (.int .i64 d.me) ∧ w'.cell? ⟨w.heap.size, 1, none⟩ = some (.int .i64 d.far) ∧ w'.cell? ⟨w.heap.size, 2, none⟩ = some (.slice p xs.length c) ∧ w'.cell? ⟨w.heap.size, 3, none⟩ = some (.slice po os.length co) ∧ w'.cell? ⟨gx, 0, none⟩ = some (.int .i64 m.s) ∧ w'.cell? ⟨gx, 1, none⟩ = some (.int .i64 m.n) ∧ w'.cell? ⟨gx, 2, none⟩ = some (.int .i64 m.b) ∧ w'.cell? ⟨gx, 3, none⟩ = some (.int .i64 m.c) ∧ w'.cell? ⟨gx, 4, none⟩ = some (.int .i64 m.a) ∧ w'.cell? ⟨gx, 5, none⟩ = some (.int .i64 m.r) ∧ w'.cell? ⟨gx, 6, none⟩ = some (.int .i64 1) ∧ w'.cell? ⟨gx, 7, none⟩ = some (.int .i64 0)) (by kernel_rfl) ⟨Hd4.out.cell 0, Hd4.out.cell 1, Hd4.out.cell 2, Hd4.out.cell 3, Hx4.out.cell 0, Hx4.out.cell 1, Hx4.out.cell 2, Hx4.out.cell 3, Hx4.out.cell 4, Hx4.out.cell 5, Hx4.out.cell 6, Hx4.out.cell 7⟩ (fun hS0 => ?_)
      generalize w3.drew = WF at *
      clear hbd
      refine tkq 0 ?_
      refine tkq 1 ?_
      refine tkq 2 ?_
      refine tnq 3 ?_
      refine tnq 4 ?_
      refine tnq 5 ?_
      refine tnq 6 ?_
      refine tnq 7 ?_
      refine tnq 8 ?_
      refine tnq 9 ?_
      refine tnq 10 ?_
      refine tnq 11 ?_
      refine tnq 12 ?_
      refine tnq 13 ?_
      refine tnq 14 ?_
      refine tnq 15 ?_
      refine tnq 16 ?_
      refine tnq 17 ?_
      refine tnq 18 ?_
      refine tnq 19 ?_
      refine tnq 20 ?_
      refine tnq 21 ?_
      refine tnq 22 ?_
      refine tnq 23 ?_
      refine tnq 24 ?_
      refine tnq 25 ?_
      refine tnq 26 ?_
      refine tnq 27 ?_
      refine tnq 28 ?_
      refine tnq 29 ?_
      refine tnq 30 ?_
      refine tnq 31 ?_
      refine tnq 32 ?_
      refine tkq 33 ?_
      refine wpAnyH_done (by kernel_rfl) ?_ _
      clear hS0
      have HFB : Hid (followsB d (itemM m) = true) := Lib.hid (by
       have h2 : followsB d (itemM m) = true := by
        unfold followsB
        rw [show findX d.xs (itemM m).s (itemM m).n = none from HFX.out]
        show (m.r == 0) = true; simpa using HR0.out
       exact h2
      )
      have z6 : WF.cell? ⟨gx, 6, none⟩ = some (.int .i64 1) := Hx4.out.cell 6
      have f6 := Hx4.out.free 6
      go_upto_region 13 with fail
      clear z6 f6
      have hch := Lib.hid ((Chg.refl gx WF).set 6 (.int .i64 2))
      have Hx5 : Hid (Blk _ gx #[.int .i64 m.s, .int .i64 m.n, .int .i64 m.b, .int .i64 m.c, .int .i64 m.a, .int .i64 m.r, .int .i64 2, .int .i64 0] 64) := Lib.hid (Hx4.out.set 6 (.int .i64 2))
      have HB5 := ksq HB4 hch (by show w.heap.size ≤ gx; have := HGgx.out; omega)
      have HZ5 := kzq HZ4 hch.out.size
      have Hd5 := kcq Hd4 hch (by have := HGgx.out; omega)
      have Hm5 := kcq Hm4 hch (by have := HGgx.out; omega)
      have Hr5 := kcq Hr4 hch (by have := HGgx.out; omega)
      clear hch Hd4 Hm4 Hr4 Hx4 HB4 HZ4
      generalize (WF.setCell ⟨gx, 6, none⟩ (.int .i64 2)) = W4 at *
      have HWZ : Hid (gx < W4.heap.size) := Lib.hid Hx5.out.lt
      have HREL : Hid (Blk W4 w.heap.size #[.int .i64 d.me, .int .i64 d.far, .slice p xs.length c, .slice po os.length co] 34 ∧ Blk W4 gx #[.int .i64 m.s, .int .i64 m.n, .int .i64 m.b, .int .i64 m.c, .int .i64 m.a, .int .i64 m.r, .int .i64 (2 : Int), .int .i64 0] 64 ∧ Blk W4 (w.heap.size + 1 + 1) #[.int .i64 0, .int .i64 0, .slice none 0 0, .slice none 0 0] 34 ∧ Below w.heap.size w W4 ∧ RrP (8 : Int) (2 : Int) ((os.take 0).any (expB (itemM m) d.far))) := Lib.hid ⟨Hd5.out, Hx5.out, Hr5.out, HB5.out, Or.inl ⟨rfl, rfl, rfl⟩⟩
      clear Hd5 Hm5 Hr5 Hx5 HB5 HZ5 HWZ
      go_wp2_with fail
      go_loopw [12, 13] (fun zv i wr => ∃ k : Nat, k ≤ os.length ∧ i = .int .i64 k ∧ ∃ z st : Int, zv = .int .i64 z ∧ Hid (Blk wr w.heap.size #[.int .i64 d.me, .int .i64 d.far, .slice p xs.length c, .slice po os.length co] 34 ∧ Blk wr gx #[.int .i64 m.s, .int .i64 m.n, .int .i64 m.b, .int .i64 m.c, .int .i64 m.a, .int .i64 m.r, .int .i64 st, .int .i64 0] 64 ∧ Blk wr (w.heap.size + 1 + 1) #[.int .i64 0, .int .i64 0, .slice none 0 0, .slice none 0 0] 34 ∧ Below w.heap.size w wr ∧ RrP z st ((os.take k).any (expB (itemM m) d.far)))) (fun _ i _ => os.length - (intOf i).toNat)
      case atStart => exact ⟨0, by omega, rfl, 8, 2, rfl, HREL⟩
      case round =>
       clear HREL
       obtain ⟨k7, hk, rfl, z, st, rfl, HK⟩ := hrel
       have hk9 : k7 + 1 ≤ 1025 := by have := HLN.out; omega
       have Hd6 := Lib.hid HK.out.1
       have Hx6 := Lib.hid HK.out.2.1
       have Hr6 := Lib.hid HK.out.2.2.1
       have HB6 := Lib.hid HK.out.2.2.2.1
       have HRR := Lib.hid HK.out.2.2.2.2
       have HZ6 : Hid (w.heap.size ≤ wr.heap.size) := Lib.hid HB6.out.size
       clear HK
       have a3 : wr.cell? ⟨w.heap.size, 3, none⟩ = some (.slice po os.length co) := Hd6.out.cell 3
       by_cases hlt : k7 < os.length
       ·skip
        have hltI : (k7 : Int) < (os.length : Int) := by omega
        obtain ⟨b2, o2, hpe, hbl, hcs⟩ := (HD.out.kept HB6.out).rowo.at_ k7 hlt
        subst hpe
        obtain ⟨od, hod⟩ : ∃ od, os[k7] = od := ⟨_, rfl⟩
        have HOD := Lib.hid hod
        have HLT := Lib.hid hlt
        have HOA : Hid (1 ≤ od.a ∧ od.a ≤ 1125899906842624) := Lib.hid (HOO.out od (HD.out.po.mem_iff.1 (by rw [← hod]; exact List.getElem_mem ..)))
        have HMA : Hid (1 ≤ m.a ∧ m.a ≤ 1125899906842624) := Lib.hid HPT.out.2.2.2.1
        have HTK : Hid ((os.take (k7 + 1)).any (expB (itemM m) d.far) = ((os.take k7).any (expB (itemM m) d.far) || expB (itemM m) d.far od)) := Lib.hid (by rw [List.take_succ_eq_append_getElem hlt, List.any_append, hod]; simp)
        clear hbl hcs hod
        have keq := fun (w : World) => cid_eq od.s od.n m.s m.n w
        go_upto_region 17 with fail
        clear a3
        cases hb : (od.s == m.s && od.n == m.n)
        ·skip
         rw [hb] at keq
         have HEX : Hid (expB (itemM m) d.far od = false) := Lib.hid (by show ((od.s == m.s && od.n == m.n) && nearB od.a m.a d.far) = false; rw [hb]; rfl)
         clear hb
         have hbd := (Below.refl wr.heap.size wr).drew
         have Hd7 := kbq Hd6 hbd
         have Hx7 := kbq Hx6 hbd
         have Hr7 := kbq Hr6 hbd
         have HB7 := ktq HB6 hbd
         have HZ7 := kzq HZ6 hbd.size
         clear Hd6 Hx6 Hr6 HB6 HZ6
         refine wp_region_held_drew (S := fun w' => w'.cell? ⟨w.heap.size, 0, none⟩ = some (.int .i64 d.me) ∧ w'.cell? ⟨w.heap.size, 1, none⟩ = some (.int .i64 d.far) ∧ w'.cell? ⟨w.heap.size, 2, none⟩ = some (.slice p xs.length c) ∧ w'.cell? ⟨w.heap.size, 3, none⟩ = some (.slice (some ⟨b2, o2, none⟩) os.length co) ∧ w'.cell? ⟨gx, 0, none⟩ = some (.int .i64 m.s) ∧ w'.cell? ⟨gx, 1, none⟩ = some (.int .i64 m.n) ∧ w'.cell? ⟨gx, 2, none⟩ = some (.int .i64 m.b) ∧ w'.cell? ⟨gx, 3, none⟩ = some (.int .i64 m.c) ∧ w'.cell? ⟨gx, 4, none⟩ = some (.int .i64 m.a) ∧ w'.cell? ⟨gx, 5, none⟩ = some (.int .i64 m.r) ∧ w'.cell? ⟨gx, 6, none⟩ = some (.int .i64 st) ∧ w'.cell? ⟨gx, 7, none⟩ = some (.int .i64 0) ∧ w'.cell? ⟨b2, o2 + k7 * 3, none⟩ = some (.int .i64 od.s) ∧ w'.cell? ⟨b2, o2 + k7 * 3 + 1, none⟩ = some (.int .i64 od.n) ∧ w'.cell? ⟨b2, o2 + k7 * 3 + 2, none⟩ = some (.int .i64 od.a)) (by kernel_rfl) ⟨Hd7.out.cell 0, Hd7.out.cell 1, Hd7.out.cell 2, Hd7.out.cell 3, Hx7.out.cell 0, Hx7.out.cell 1, Hx7.out.cell 2, Hx7.out.cell 3, Hx7.out.cell 4, Hx7.out.cell 5, Hx7.out.cell 6, Hx7.out.cell 7, trow_cell (HD.out.kept HB7.out).rowo k7 HLT.out HOD.out 0 (by decide), trow_cell (HD.out.kept HB7.out).rowo k7 HLT.out HOD.out 1 (by decide), trow_cell (HD.out.kept HB7.out).rowo k7 HLT.out HOD.out 2 (by decide)⟩ (fun hS0 => ?_)
         generalize wr.drew = WG at *
         clear hbd
         refine tkq 0 ?_
         refine tkq 1 ?_
         refine tkq 2 ?_
         refine tkq 3 ?_
         refine tkq 4 ?_
         refine tkq 5 ?_
         refine tkq 6 ?_
         refine tkq 7 ?_
         refine tkq 8 ?_
         refine tkq 9 ?_
         refine tnq 10 ?_
         refine tnq 11 ?_
         refine tnq 12 ?_
         refine tnq 13 ?_
         refine tnq 14 ?_
         refine tnq 15 ?_
         refine tnq 16 ?_
         refine tnq 17 ?_
         refine tnq 18 ?_
         refine tnq 19 ?_
         refine tnq 20 ?_
         refine tkq 21 ?_
         refine wpAnyH_done (by kernel_rfl) ?_ _
         clear hS0
         clear keq hltI
         have HNX : Hid (Blk WG w.heap.size #[.int .i64 d.me, .int .i64 d.far, .slice p xs.length c, .slice (some ⟨b2, o2, none⟩) os.length co] 34 ∧ Blk WG gx #[.int .i64 m.s, .int .i64 m.n, .int .i64 m.b, .int .i64 m.c, .int .i64 m.a, .int .i64 m.r, .int .i64 st, .int .i64 0] 64 ∧ Blk WG (w.heap.size + 1 + 1) #[.int .i64 0, .int .i64 0, .slice none 0 0, .slice none 0 0] 34 ∧ Below w.heap.size w WG ∧ RrP z st ((os.take (k7 + 1)).any (expB (itemM m) d.far))) := Lib.hid ⟨Hd7.out, Hx7.out, Hr7.out, HB7.out, by
          rw [HTK.out, HEX.out]
          rw [Bool.or_false]; exact HRR.out⟩
         clear Hd7 Hx7 Hr7 HB7 HZ7 HRR
         go_wp2_with fail
         go_roundw
         case rel => exact ⟨k7 + 1, by have := HLT.out; omega, by go_num, z, st, rfl, HNX⟩
         case measure => have := HLT.out; simp [intOf]; omega
        ·skip
         rw [hb] at keq
         obtain ⟨nb, hnb⟩ : ∃ nb, nearB od.a m.a d.far = nb := ⟨_, rfl⟩
         have HEX : Hid (expB (itemM m) d.far od = nb) := Lib.hid (by show ((od.s == m.s && od.n == m.n) && nearB od.a m.a d.far) = nb; rw [hb, hnb]; rfl)
         have HNB := Lib.hid hnb
         clear hb hnb
         have hbd := (Below.refl wr.heap.size wr).drew
         have Hd7 := kbq Hd6 hbd
         have Hx7 := kbq Hx6 hbd
         have Hr7 := kbq Hr6 hbd
         have HB7 := ktq HB6 hbd
         have HZ7 := kzq HZ6 hbd.size
         clear Hd6 Hx6 Hr6 HB6 HZ6
         refine wp_region_held_drew (S := fun w' => w'.cell? ⟨w.heap.size, 0, none⟩ = some (.int .i64 d.me) ∧ w'.cell? ⟨w.heap.size, 1, none⟩ = some (.int .i64 d.far) ∧ w'.cell? ⟨w.heap.size, 2, none⟩ = some (.slice p xs.length c) ∧ w'.cell? ⟨w.heap.size, 3, none⟩ = some (.slice (some ⟨b2, o2, none⟩) os.length co) ∧ w'.cell? ⟨gx, 0, none⟩ = some (.int .i64 m.s) ∧ w'.cell? ⟨gx, 1, none⟩ = some (.int .i64 m.n) ∧ w'.cell? ⟨gx, 2, none⟩ = some (.int .i64 m.b) ∧ w'.cell? ⟨gx, 3, none⟩ = some (.int .i64 m.c) ∧ w'.cell? ⟨gx, 4, none⟩ = some (.int .i64 m.a) ∧ w'.cell? ⟨gx, 5, none⟩ = some (.int .i64 m.r) ∧ w'.cell? ⟨gx, 6, none⟩ = some (.int .i64 st) ∧ w'.cell? ⟨gx, 7, none⟩ = some (.int .i64 0) ∧ w'.cell? ⟨b2, o2 + k7 * 3, none⟩ = some (.int .i64 od.s) ∧ w'.cell? ⟨b2, o2 + k7 * 3 + 1, none⟩ = some (.int .i64 od.n) ∧ w'.cell? ⟨b2, o2 + k7 * 3 + 2, none⟩ = some (.int .i64 od.a)) (by kernel_rfl) ⟨Hd7.out.cell 0, Hd7.out.cell 1, Hd7.out.cell 2, Hd7.out.cell 3, Hx7.out.cell 0, Hx7.out.cell 1, Hx7.out.cell 2, Hx7.out.cell 3, Hx7.out.cell 4, Hx7.out.cell 5, Hx7.out.cell 6, Hx7.out.cell 7, trow_cell (HD.out.kept HB7.out).rowo k7 HLT.out HOD.out 0 (by decide), trow_cell (HD.out.kept HB7.out).rowo k7 HLT.out HOD.out 1 (by decide), trow_cell (HD.out.kept HB7.out).rowo k7 HLT.out HOD.out 2 (by decide)⟩ (fun hS0 => ?_)
         generalize wr.drew = WG at *
         clear hbd
         refine tkq 0 ?_
         refine tkq 1 ?_
         refine tkq 2 ?_
         refine tkq 3 ?_
         refine tkq 4 ?_
         refine tkq 5 ?_
         refine tkq 6 ?_
         refine tkq 7 ?_
         refine tkq 8 ?_
         refine tkq 9 ?_
         refine tkq 10 ?_
         refine tkq 11 ?_
         refine tkq 12 ?_
         refine tkq 13 ?_
         refine tkq 14 ?_
         refine tkq 15 ?_
         refine tkq 16 ?_
         refine tkq 17 ?_
         refine tkq 18 ?_
         refine tkq 19 ?_
         refine rdq 20 (fun K hK => ?_)
         have HG := Lib.hid ((by have h := rnear_any od.a m.a d.far WG HOA.out HMA.out; rw [HNB.out] at h; exact h))
         go_simp
         go_at_call 58
         refine HG.out.mono ?_
         rintro y9 w5 ⟨rfl, hb⟩
         clear HG
         have Hd8 := kbq Hd7 hb
         have Hx8 := kbq Hx7 hb
         have Hr8 := kbq Hr7 hb
         have HB8 := ktq HB7 hb
         have HZ8 := kzq HZ7 hb.size
         clear Hd7 Hx7 Hr7 HB7 HZ7
         clear hb hS0
         try go_wp2_with fail
         refine hK.out _ _ ⟨Hd8.out.cell 0, Hd8.out.cell 1, Hd8.out.cell 2, Hd8.out.cell 3, Hx8.out.cell 0, Hx8.out.cell 1, Hx8.out.cell 2, Hx8.out.cell 3, Hx8.out.cell 4, Hx8.out.cell 5, Hx8.out.cell 6, Hx8.out.cell 7, trow_cell (HD.out.kept HB8.out).rowo k7 HLT.out HOD.out 0 (by decide), trow_cell (HD.out.kept HB8.out).rowo k7 HLT.out HOD.out 1 (by decide), trow_cell (HD.out.kept HB8.out).rowo k7 HLT.out HOD.out 2 (by decide)⟩ (fun hS0 => ?_)
         clear hK K
         try simp only [Act.put, List.getElem_toArray, List.getElem_cons_succ, List.getElem_cons_zero, List.setIfInBounds_toArray, List.set_cons_zero, List.set_cons_succ]
         refine tkq 21 ?_
         refine wpAnyH_done (by kernel_rfl) ?_ _
         clear hS0
         clear keq hltI
         cases nb
         ·skip
          have HNX : Hid (Blk w5 w.heap.size #[.int .i64 d.me, .int .i64 d.far, .slice p xs.length c, .slice (some ⟨b2, o2, none⟩) os.length co] 34 ∧ Blk w5 gx #[.int .i64 m.s, .int .i64 m.n, .int .i64 m.b, .int .i64 m.c, .int .i64 m.a, .int .i64 m.r, .int .i64 st, .int .i64 0] 64 ∧ Blk w5 (w.heap.size + 1 + 1) #[.int .i64 0, .int .i64 0, .slice none 0 0, .slice none 0 0] 34 ∧ Below w.heap.size w w5 ∧ RrP z st ((os.take (k7 + 1)).any (expB (itemM m) d.far))) := Lib.hid ⟨Hd8.out, Hx8.out, Hr8.out, HB8.out, by
           rw [HTK.out, HEX.out]
           rw [Bool.or_false]; exact HRR.out⟩
          clear Hd8 Hx8 Hr8 HB8 HZ8 HRR
          go_wp2_with fail
          go_roundw
          case rel => exact ⟨k7 + 1, by have := HLT.out; omega, by go_num, z, st, rfl, HNX⟩
          case measure => have := HLT.out; simp [intOf]; omega
         ·skip
          go_upto_region 18 with fail
          have z6 : w5.cell? ⟨gx, 6, none⟩ = some (.int .i64 st) := Hx8.out.cell 6
          have f6 := Hx8.out.free 6
          go_upto_region 19 with fail
          clear z6 f6
          have hch := Lib.hid ((Chg.refl gx w5).set 6 (.int .i64 3))
          have Hx9 : Hid (Blk _ gx #[.int .i64 m.s, .int .i64 m.n, .int .i64 m.b, .int .i64 m.c, .int .i64 m.a, .int .i64 m.r, .int .i64 3, .int .i64 0] 64) := Lib.hid (Hx8.out.set 6 (.int .i64 3))
          have HB9 := ksq HB8 hch (by show w.heap.size ≤ gx; have := HGgx.out; omega)
          have HZ9 := kzq HZ8 hch.out.size
          have Hd9 := kcq Hd8 hch (by have := HGgx.out; omega)
          have Hr9 := kcq Hr8 hch (by have := HGgx.out; omega)
          clear hch Hd8 Hx8 Hr8 HB8 HZ8
          generalize (w5.setCell ⟨gx, 6, none⟩ (.int .i64 3)) = W6 at *
          have HNX : Hid (Blk W6 w.heap.size #[.int .i64 d.me, .int .i64 d.far, .slice p xs.length c, .slice (some ⟨b2, o2, none⟩) os.length co] 34 ∧ Blk W6 gx #[.int .i64 m.s, .int .i64 m.n, .int .i64 m.b, .int .i64 m.c, .int .i64 m.a, .int .i64 m.r, .int .i64 3, .int .i64 0] 64 ∧ Blk W6 (w.heap.size + 1 + 1) #[.int .i64 0, .int .i64 0, .slice none 0 0, .slice none 0 0] 34 ∧ Below w.heap.size w W6 ∧ RrP 7 3 ((os.take (k7 + 1)).any (expB (itemM m) d.far))) := Lib.hid ⟨Hd9.out, Hx9.out, Hr9.out, HB9.out, by
           rw [HTK.out, HEX.out]
           exact Or.inr ⟨rfl, rfl, by rw [Bool.or_true]⟩⟩
          clear Hd9 Hx9 Hr9 HB9 HZ9 HRR
          go_wp2_with fail
          go_roundw
          case rel => exact ⟨k7 + 1, by have := HLT.out; omega, by go_num, 7, 3, rfl, HNX⟩
          case measure => have := HLT.out; simp [intOf]; omega
       ·skip
        have hltI : ¬ (k7 : Int) < (os.length : Int) := by omega
        have HEX : Hid (z = 8 ∧ st = 2 ∧ expectsB d (itemM m) = false ∨ z = 7 ∧ st = 3 ∧ expectsB d (itemM m) = true) := Lib.hid (by
         rw [exp_any HD.out.po HSO.out]
         have h1 := HRR.out
         rw [List.take_of_length_le (by omega)] at h1
         exact h1)
        clear HRR hk9
        go_upto_region 20 with fail
        clear hltI a3
        generalize wr = V at *
        obtain rfl : R = (d.put (⟨m.s, m.n, m.b, m.c, m.a, m.r, st, 0⟩ : Itm), [(fro, aboutM z (⟨m.s, m.n, m.b, m.c, m.a, m.r, st, 0⟩ : Itm))], 0) := by
         rw [← HA.out]
         rw [HPI.out _ HFB.out, if_neg (by decide)]
         unfold proK
         have h9 : (toI d.me (⟨m.s, m.n, m.b, m.c, m.a, m.r, st, 0⟩ : Itm)) = fro := by
          unfold toI
          rw [if_pos HF3.out]
          exact HF1.out.symm
         rcases HEX.out with ⟨h1, h2, h3⟩ | ⟨h1, h2, h3⟩
         ·rw [h3, if_neg (by decide), if_neg (by decide)]
          subst h1 h2
          rw [← h9]
          rfl
         ·rw [h3, if_pos rfl, if_pos rfl]
          subst h1 h2
          rw [← h9]
          rfl
        have HWL3 : Hid (w.heap.size + 1 + 1 + 1 ≤ V.heap.size) := Lib.hid Hr6.out.lt
        have hbd := (Below.refl V.heap.size V).drew
        have Hd7 := kbq Hd6 hbd
        have Hx7 := kbq Hx6 hbd
        have Hr7 := kbq Hr6 hbd
        have HB7 := ktq HB6 hbd
        have HZ7 := kzq HZ6 hbd.size
        clear Hd6 Hx6 Hr6 HB6 HZ6
        refine wp_region_held_drew (S := fun w' => w'.cell? ⟨w.heap.size, 0, none⟩ = some (.int .i64 d.me) ∧ w'.cell? ⟨w.heap.size, 1, none⟩ = some (.int .i64 d.far) ∧ w'.cell? ⟨w.heap.size, 2, none⟩ = some (.slice p xs.length c) ∧ w'.cell? ⟨w.heap.size, 3, none⟩ = some (.slice po os.length co) ∧ w'.cell? ⟨gx, 0, none⟩ = some (.int .i64 m.s) ∧ w'.cell? ⟨gx, 1, none⟩ = some (.int .i64 m.n) ∧ w'.cell? ⟨gx, 2, none⟩ = some (.int .i64 m.b) ∧ w'.cell? ⟨gx, 3, none⟩ = some (.int .i64 m.c) ∧ w'.cell? ⟨gx, 4, none⟩ = some (.int .i64 m.a) ∧ w'.cell? ⟨gx, 5, none⟩ = some (.int .i64 m.r) ∧ w'.cell? ⟨gx, 6, none⟩ = some (.int .i64 st) ∧ w'.cell? ⟨gx, 7, none⟩ = some (.int .i64 0)) (by kernel_rfl) ⟨Hd7.out.cell 0, Hd7.out.cell 1, Hd7.out.cell 2, Hd7.out.cell 3, Hx7.out.cell 0, Hx7.out.cell 1, Hx7.out.cell 2, Hx7.out.cell 3, Hx7.out.cell 4, Hx7.out.cell 5, Hx7.out.cell 6, Hx7.out.cell 7⟩ (fun hS0 => ?_)
        have HWD3 := Lib.hid (Nat.le_trans HWL3.out hbd.size)
        clear HWL3
        generalize V.drew = WD at *
        clear hbd
        refine tkq 0 ?_
        refine tkq 1 ?_
        refine tkq 3 ?_
        refine tkq 4 ?_
        refine tkq 5 ?_
        refine rdq 2 (fun K hK => ?_)
        have HG := Lib.hid (ckeep_any WD d.me d.far p po xs.length c os.length co (⟨m.s, m.n, m.b, m.c, m.a, m.r, st, 0⟩ : Itm) xs (HD.out.kept HB7.out).row rfl (by have := HLN.out; omega))
        unfold Itm.v at HG
        try dsimp only at HG
        go_simp
        go_at_call 37
        refine HG.out.mono ?_
        rintro y9 w7 ⟨r9, p9, n9, c9, ha9, rfl, hown9, hn9, hb⟩
        clear HG
        have HP9 := Lib.hid (cput_perm (x := (⟨m.s, m.n, m.b, m.c, m.a, m.r, st, 0⟩ : Itm)) HD.out.px HSX.out ha9)
        have HO9 := Lib.hid (hown9.less (base' := w.heap.size + 1 + 1 + 1) HWD3.out)
        have HWD4 := Lib.hid (Nat.le_trans HWD3.out hb.size)
        generalize cputL xs (⟨m.s, m.n, m.b, m.c, m.a, m.r, st, 0⟩ : Itm) r9 = ys at *
        subst hn9
        clear ha9 hown9
        have Hd8 := kbq Hd7 hb
        have Hx8 := kbq Hx7 hb
        have Hr8 := kbq Hr7 hb
        have HB8 := ktq HB7 hb
        have HZ8 := kzq HZ7 hb.size
        clear Hd7 Hx7 Hr7 HB7 HZ7
        clear hb hS0
        try go_wp2_with fail
        refine hK.out _ _ ⟨Hd8.out.cell 0, Hd8.out.cell 1, Hd8.out.cell 2, Hd8.out.cell 3, Hx8.out.cell 0, Hx8.out.cell 1, Hx8.out.cell 2, Hx8.out.cell 3, Hx8.out.cell 4, Hx8.out.cell 5, Hx8.out.cell 6, Hx8.out.cell 7⟩ (fun hS0 => ?_)
        clear hK K
        try simp only [Act.put, List.getElem_toArray, List.getElem_cons_succ, List.getElem_cons_zero, List.setIfInBounds_toArray, List.set_cons_zero, List.set_cons_succ]
        have Sy8 := HO9
        clear HO9
        refine rdq 6 (fun K hK => ?_)
        have HG := Lib.hid (rabout_any fro z (⟨m.s, m.n, m.b, m.c, m.a, m.r, st, 0⟩ : Itm) w7)
        unfold Itm.v at HG
        try dsimp only at HG
        go_simp
        go_at_call 38
        refine HG.out.mono ?_
        rintro y9 w8 ⟨vs9, rfl, hso9, hb⟩
        clear HG
        have HS9 := Lib.hid (hso9.less (base' := w.heap.size + 1 + 1 + 1) HWD4.out)
        clear hso9
        have Hd9 := kbq Hd8 hb
        have Hx9 := kbq Hx8 hb
        have Hr9 := kbq Hr8 hb
        have Sy9 := Lib.hid (Sy8.out.later hb)
        have HB9 := ktq HB8 hb
        have HZ9 := kzq HZ8 hb.size
        clear Hd8 Hx8 Hr8 Sy8 HB8 HZ8
        clear hb hS0
        try go_wp2_with fail
        refine hK.out _ _ ⟨Hd9.out.cell 0, Hd9.out.cell 1, Hd9.out.cell 2, Hd9.out.cell 3, Hx9.out.cell 0, Hx9.out.cell 1, Hx9.out.cell 2, Hx9.out.cell 3, Hx9.out.cell 4, Hx9.out.cell 5, Hx9.out.cell 6, Hx9.out.cell 7⟩ (fun hS0 => ?_)
        clear hK K
        try simp only [Act.put, List.getElem_toArray, List.getElem_cons_succ, List.getElem_cons_zero, List.setIfInBounds_toArray, List.set_cons_zero, List.set_cons_succ]
        have Sz9 := HS9
        clear HS9
        refine rdq 7 (fun K hK => ?_)
        have z0 : w8.cell? ⟨(w.heap.size + 1 + 1), 0, none⟩ = some (.int .i64 0) := Hr9.out.cell 0
        have z1 : w8.cell? ⟨(w.heap.size + 1 + 1), 1, none⟩ = some (.int .i64 0) := Hr9.out.cell 1
        have z2 : w8.cell? ⟨(w.heap.size + 1 + 1), 2, none⟩ = some (.slice none 0 0) := Hr9.out.cell 2
        have z3 : w8.cell? ⟨(w.heap.size + 1 + 1), 3, none⟩ = some (.slice none 0 0) := Hr9.out.cell 3
        have f0 := Hr9.out.free 0
        have f1 := Hr9.out.free 1
        have f2 := Hr9.out.free 2
        have f3 := Hr9.out.free 3
        go_simp
        clear z0 f0 z1 f1 z2 f2 z3 f3
        have hch := Lib.hid (((((Chg.refl (w.heap.size + 1 + 1) w8).set 0 (.int .i64 d.me)).set 1 (.int .i64 d.far)).set 2 (.slice p9 ys.length c9)).set 3 (.slice po os.length co))
        have Hr10 : Hid (Blk _ (w.heap.size + 1 + 1) #[.int .i64 d.me, .int .i64 d.far, .slice p9 ys.length c9, .slice po os.length co] 34) := Lib.hid ((((Hr9.out.set 0 (.int .i64 d.me)).set 1 (.int .i64 d.far)).set 2 (.slice p9 ys.length c9)).set 3 (.slice po os.length co))
        have HB10 := ksq HB9 hch (by show w.heap.size ≤ (w.heap.size + 1 + 1); have := HGgx.out; omega)
        have HZ10 := kzq HZ9 hch.out.size
        have Hd10 := kcq Hd9 hch (by have := HGgx.out; omega)
        have Hx10 := kcq Hx9 hch (by have := HGgx.out; omega)
        have Sy10 := Lib.hid (Sy9.out.stay (fun b hb => hch.out.2 b (Sy9.out.lt b hb) (by have h1 := Sy9.out.block_ge b hb; have := HGgx.out; omega)))
        have Sz10 := Lib.hid (Sz9.out.stay (fun b hb => hch.out.2 b (Sz9.out.lt b hb) (by have h1 := Sz9.out.block_ge b hb; have := HGgx.out; omega)))
        clear hch hS0 Hd9 Hx9 Hr9 Sy9 Sz9 HB9 HZ9
        generalize ((((w8.setCell ⟨w.heap.size + 1 + 1, 0, none⟩ (.int .i64 d.me)).setCell ⟨w.heap.size + 1 + 1, 1, none⟩ (.int .i64 d.far)).setCell ⟨w.heap.size + 1 + 1, 2, none⟩ (.slice p9 ys.length c9)).setCell ⟨w.heap.size + 1 + 1, 3, none⟩ (.slice po os.length co)) = W9 at *
        refine hK.out _ _ ⟨Hd10.out.cell 0, Hd10.out.cell 1, Hd10.out.cell 2, Hd10.out.cell 3, Hx10.out.cell 0, Hx10.out.cell 1, Hx10.out.cell 2, Hx10.out.cell 3, Hx10.out.cell 4, Hx10.out.cell 5, Hx10.out.cell 6, Hx10.out.cell 7⟩ (fun hS0 => ?_)
        clear hK K
        try simp only [Act.put, List.getElem_toArray, List.getElem_cons_succ, List.getElem_cons_zero, List.setIfInBounds_toArray, List.set_cons_zero, List.set_cons_succ]
        refine tkq 8 ?_
        refine tkq 9 ?_
        refine wpAnyH_done (by kernel_rfl) ?_ _
        clear hS0
        go_wp2_with fail
        have hfr := Hr10.out
        refine bodyPost_ret (v := .tuple #[.agg #[.int .i64 d.me, .int .i64 d.far, .slice p9 ys.length c9, .slice po os.length co], vs9, .int .i64 0]) (by simp [results, Try.results40, go_sem, hfr.cell 0, hfr.cell 1, hfr.cell 2, hfr.cell 3]) rfl ⟨_, _, _, _, _, _, _, rfl, ⟨Sy10.out.row, (HD.out.kept HB10.out).rowo, Sy10.out.at_P (fun b h => .inr (by omega)), HD.out.ao.imp (fun b h => .inl h.1), HP9.out, HD.out.po⟩, ?_, HB10.out⟩
        exact Sz10.out.less (by omega)
     ·skip
      have hr1 : (m.r != 0) = true := by simpa using hr0
      have HR0 := Lib.hid hr0
      go_upto_region 9 with fail
      clear hr0 hr1 x5
      obtain rfl : R = (d, [], 90) := by
       rw [← HA.out]
       have h2 : followsB d (itemM m) = false := by
        unfold followsB
        rw [show findX d.xs (itemM m).s (itemM m).n = none from HFX.out]
        show (m.r == 0) = false; simpa using HR0.out
       rw [HPI.out _ h2, if_pos rfl]
       exact beh_err (show (90 : Int) ≠ 0 by decide)
      have a0 : w3.cell? ⟨w.heap.size, 0, none⟩ = some (.int .i64 d.me) := Hd3.out.cell 0
      have a1 : w3.cell? ⟨w.heap.size, 1, none⟩ = some (.int .i64 d.far) := Hd3.out.cell 1
      have a2 : w3.cell? ⟨w.heap.size, 2, none⟩ = some (.slice p xs.length c) := Hd3.out.cell 2
      have a3 : w3.cell? ⟨w.heap.size, 3, none⟩ = some (.slice po os.length co) := Hd3.out.cell 3
      go_wp2_with (with_reducible refine stop_storeT 34 (.tmp 6) (.tmp 55) rfl ?_)
      clear a0 a1 a2 a3
      have HTH : Hid (w3.there (w.heap.size + 1 + 1) 0 4) := Hr3.out.thereAt
      have hch : Hid (Chg (w.heap.size + 1 + 1) w3 (w3.setCells (w.heap.size + 1 + 1) 0 (#[.int .i64 d.me, .int .i64 d.far, .slice p xs.length c, .slice po os.length co] : Array Value).toList)) := Lib.hid (chg_putL _ _ _ _ _ (Chg.refl _ w3))
      have Hr4 : Hid (Blk (w3.setCells (w.heap.size + 1 + 1) 0 (#[.int .i64 d.me, .int .i64 d.far, .slice p xs.length c, .slice po os.length co] : Array Value).toList) (w.heap.size + 1 + 1) #[.int .i64 d.me, .int .i64 d.far, .slice p xs.length c, .slice po os.length co] 34) := Lib.hid (blk_put_all Hr3.out _ rfl)
      have HB4 : Hid (Below w.heap.size w (w3.setCells (w.heap.size + 1 + 1) 0 (#[.int .i64 d.me, .int .i64 d.far, .slice p xs.length c, .slice po os.length co] : Array Value).toList)) := Lib.hid (below_put (by have := HGgx.out; omega) _ _ _ _ HB3.out)
      have HZ4 := kzq HZ3 hch.out.size
      have Hd4 := kcq Hd3 hch (by have := HGgx.out; omega)
      have Hm4 := kcq Hm3 hch (by have := HGgx.out; omega)
      have Hx4 := kcq Hx3 hch (by have := HGgx.out; omega)
      clear hch Hd3 Hm3 Hr3 Hx3 HB3 HZ3
      refine wpList_store_mid rfl 34 (.tmp 6) (.tmp 55) rfl (w.heap.size + 1 + 1) 0 #[.int .i64 d.me, .int .i64 d.far, .slice p xs.length c, .slice po os.length co] rfl rfl HTH.out (infoDC rfl) (all_oneCell_toArray (by intro u hu; simp at hu; rcases hu with rfl | rfl | rfl | rfl <;> rfl)) ?_
      generalize (w3.setCells (w.heap.size + 1 + 1) 0 (#[.int .i64 d.me, .int .i64 d.far, .slice p xs.length c, .slice po os.length co] : Array Value).toList) = WR at *
      clear HTH
      go_wp2_with fail
      have hfr := Hr4.out
      refine bodyPost_ret (v := .tuple #[.agg #[.int .i64 d.me, .int .i64 d.far, .slice p xs.length c, .slice po os.length co], .slice none 0 0, .int .i64 90]) (by simp [results, Try.results40, go_sem, hfr.cell 0, hfr.cell 1, hfr.cell 2, hfr.cell 3]) rfl ⟨_, _, _, _, _, _, _, rfl, (HD.out.kept HB4.out).imp (fun b h => .inl h.1), OwnT.nil_ _ _ _ _, HB4.out⟩
    ·skip
     rw [perm_findX HD.out.px HSX.out] at hfx
     obtain ⟨q, hq⟩ : ∃ q, xs[k] = q := ⟨_, rfl⟩
     rw [hq] at hfx
     have HFX := Lib.hid hfx
     have HQ := Lib.hid hq
     have HKL := Lib.hid hk
     have HQC : Hid (0 ≤ q.r ∧ q.r ≤ 3) := Lib.hid (by have h1 := (chk_ok (HOK.out.its q (findX_mem hfx).1).1).2.1; exact h1.2.2.2.1)
     have hkI : (k : Int) < (xs.length : Int) := by omega
     have hk0 : ¬ (k : Int) < 0 := by omega
     obtain ⟨b, o, hpe, hbl, hcs⟩ := (HD.out.kept HB3.out).row.at_ k hk
     subst hpe
     clear hat hfx hq hbl hcs
     go_upto_region 10 with fail
     clear hk0
     have hqr : IntKind.i64.wrap (q.r + 1) = q.r + 1 := IntWalk.i64_in _ (by have := HQC.out; omega)
     by_cases ht : q.t = 2
     ·skip
      have ht1 : (q.t != 2) = false := by simpa using ht
      have HT1 := Lib.hid ht
      clear ht
      by_cases hr : q.r + 1 = m.r
      ·skip
       have hr1 : (q.r + 1 != m.r) = false := by simpa using hr
       have HR1 := Lib.hid hr
       clear hr
       by_cases hc : q.c = m.c
       ·skip
        have hc1 : (q.c != m.c) = false := by simpa using hc
        have HC1 := Lib.hid hc
        clear hc
        have hbd := (Below.refl w3.heap.size w3).drew
        have Hd4 := kbq Hd3 hbd
        have Hm4 := kbq Hm3 hbd
        have Hr4 := kbq Hr3 hbd
        have Hx4 := kbq Hx3 hbd
        have HB4 := ktq HB3 hbd
        have HZ4 := kzq HZ3 hbd.size
        clear Hd3 Hm3 Hr3 Hx3 HB3 HZ3
        refine wp_region_held_drew (S := fun w' => w'.cell? ⟨w.heap.size, 0, none⟩ = some (.int .i64 d.me) ∧ w'.cell? ⟨w.heap.size, 1, none⟩ = some (.int .i64 d.far) ∧ w'.cell? ⟨w.heap.size, 2, none⟩ = some (.slice (some ⟨b, o, none⟩) xs.length c) ∧ w'.cell? ⟨w.heap.size, 3, none⟩ = some (.slice po os.length co) ∧ w'.cell? ⟨gx, 0, none⟩ = some (.int .i64 m.s) ∧ w'.cell? ⟨gx, 1, none⟩ = some (.int .i64 m.n) ∧ w'.cell? ⟨gx, 2, none⟩ = some (.int .i64 m.b) ∧ w'.cell? ⟨gx, 3, none⟩ = some (.int .i64 m.c) ∧ w'.cell? ⟨gx, 4, none⟩ = some (.int .i64 m.a) ∧ w'.cell? ⟨gx, 5, none⟩ = some (.int .i64 m.r) ∧ w'.cell? ⟨gx, 6, none⟩ = some (.int .i64 1) ∧ w'.cell? ⟨gx, 7, none⟩ = some (.int .i64 0) ∧ w'.cell? ⟨b, o + k * 8 + 6, none⟩ = some (.int .i64 q.t) ∧ w'.cell? ⟨b, o + k * 8 + 5, none⟩ = some (.int .i64 q.r) ∧ w'.cell? ⟨b, o + k * 8 + 3, none⟩ = some (.int .i64 q.c)) (by kernel_rfl) ⟨Hd4.out.cell 0, Hd4.out.cell 1, Hd4.out.cell 2, Hd4.out.cell 3, Hx4.out.cell 0, Hx4.out.cell 1, Hx4.out.cell 2, Hx4.out.cell 3, Hx4.out.cell 4, Hx4.out.cell 5, Hx4.out.cell 6, Hx4.out.cell 7, trow_cell (HD.out.kept HB4.out).row k HKL.out HQ.out 6 (by decide), trow_cell (HD.out.kept HB4.out).row k HKL.out HQ.out 5 (by decide), trow_cell (HD.out.kept HB4.out).row k HKL.out HQ.out 3 (by decide)⟩ (fun hS0 => ?_)
        generalize w3.drew = WF at *
        clear hbd
        refine tkq 0 ?_
        refine tkq 1 ?_
        refine tkq 2 ?_
        refine tkq 3 ?_
        refine tkq 4 ?_
        refine tkq 5 ?_
        refine tkq 6 ?_
        refine tkq 7 ?_
        refine tkq 8 ?_
        refine tkq 9 ?_
        refine tkq 10 ?_
        refine tkq 11 ?_
        refine tkq 12 ?_
        refine tkq 13 ?_
        refine tkq 14 ?_
        refine tkq 15 ?_
        refine tkq 16 ?_
        refine tkq 17 ?_
        refine tkq 18 ?_
        refine tkq 19 ?_
        refine tkq 20 ?_
        refine tkq 21 ?_
        refine tkq 22 ?_
        refine tkq 23 ?_
        refine tkq 24 ?_
        refine tkq 25 ?_
        refine tkq 26 ?_
        refine tkq 27 ?_
        refine tkq 28 ?_
        refine tkq 29 ?_
        refine tkq 30 ?_
        refine tkq 31 ?_
        refine tkq 32 ?_
        refine tkq 33 ?_
        refine wpAnyH_done (by kernel_rfl) ?_ _
        clear hS0
        clear ht1 hr1 hc1 hqr hkI
        have HFB : Hid (followsB d (itemM m) = true) := Lib.hid (by
         have h2 : followsB d (itemM m) = true := by
          unfold followsB
          rw [show findX d.xs (itemM m).s (itemM m).n = some q from HFX.out]
          show ((q.t == 2) && ((q.r + 1 == m.r) && (q.c == m.c))) = true; simp [HT1.out, HR1.out, HC1.out]
         exact h2
        )
        have z6 : WF.cell? ⟨gx, 6, none⟩ = some (.int .i64 1) := Hx4.out.cell 6
        have f6 := Hx4.out.free 6
        go_upto_region 13 with fail
        clear z6 f6
        have hch := Lib.hid ((Chg.refl gx WF).set 6 (.int .i64 2))
        have Hx5 : Hid (Blk _ gx #[.int .i64 m.s, .int .i64 m.n, .int .i64 m.b, .int .i64 m.c, .int .i64 m.a, .int .i64 m.r, .int .i64 2, .int .i64 0] 64) := Lib.hid (Hx4.out.set 6 (.int .i64 2))
        have HB5 := ksq HB4 hch (by show w.heap.size ≤ gx; have := HGgx.out; omega)
        have HZ5 := kzq HZ4 hch.out.size
        have Hd5 := kcq Hd4 hch (by have := HGgx.out; omega)
        have Hm5 := kcq Hm4 hch (by have := HGgx.out; omega)
        have Hr5 := kcq Hr4 hch (by have := HGgx.out; omega)
        clear hch Hd4 Hm4 Hr4 Hx4 HB4 HZ4
        generalize (WF.setCell ⟨gx, 6, none⟩ (.int .i64 2)) = W4 at *
        have HWZ : Hid (gx < W4.heap.size) := Lib.hid Hx5.out.lt
        have HREL : Hid (Blk W4 w.heap.size #[.int .i64 d.me, .int .i64 d.far, .slice (some ⟨b, o, none⟩) xs.length c, .slice po os.length co] 34 ∧ Blk W4 gx #[.int .i64 m.s, .int .i64 m.n, .int .i64 m.b, .int .i64 m.c, .int .i64 m.a, .int .i64 m.r, .int .i64 (2 : Int), .int .i64 0] 64 ∧ Blk W4 (w.heap.size + 1 + 1) #[.int .i64 0, .int .i64 0, .slice none 0 0, .slice none 0 0] 34 ∧ Below w.heap.size w W4 ∧ RrP (8 : Int) (2 : Int) ((os.take 0).any (expB (itemM m) d.far))) := Lib.hid ⟨Hd5.out, Hx5.out, Hr5.out, HB5.out, Or.inl ⟨rfl, rfl, rfl⟩⟩
        clear Hd5 Hm5 Hr5 Hx5 HB5 HZ5 HWZ
        go_wp2_with fail
        go_loopw [12, 13] (fun zv i wr => ∃ k : Nat, k ≤ os.length ∧ i = .int .i64 k ∧ ∃ z st : Int, zv = .int .i64 z ∧ Hid (Blk wr w.heap.size #[.int .i64 d.me, .int .i64 d.far, .slice (some ⟨b, o, none⟩) xs.length c, .slice po os.length co] 34 ∧ Blk wr gx #[.int .i64 m.s, .int .i64 m.n, .int .i64 m.b, .int .i64 m.c, .int .i64 m.a, .int .i64 m.r, .int .i64 st, .int .i64 0] 64 ∧ Blk wr (w.heap.size + 1 + 1) #[.int .i64 0, .int .i64 0, .slice none 0 0, .slice none 0 0] 34 ∧ Below w.heap.size w wr ∧ RrP z st ((os.take k).any (expB (itemM m) d.far)))) (fun _ i _ => os.length - (intOf i).toNat)
        case atStart => exact ⟨0, by omega, rfl, 8, 2, rfl, HREL⟩
        case round =>
         clear HREL
         obtain ⟨k7, hk, rfl, z, st, rfl, HK⟩ := hrel
         have hk9 : k7 + 1 ≤ 1025 := by have := HLN.out; omega
         have Hd6 := Lib.hid HK.out.1
         have Hx6 := Lib.hid HK.out.2.1
         have Hr6 := Lib.hid HK.out.2.2.1
         have HB6 := Lib.hid HK.out.2.2.2.1
         have HRR := Lib.hid HK.out.2.2.2.2
         have HZ6 : Hid (w.heap.size ≤ wr.heap.size) := Lib.hid HB6.out.size
         clear HK
         have a3 : wr.cell? ⟨w.heap.size, 3, none⟩ = some (.slice po os.length co) := Hd6.out.cell 3
         by_cases hlt : k7 < os.length
         ·skip
          have hltI : (k7 : Int) < (os.length : Int) := by omega
          obtain ⟨b2, o2, hpe, hbl, hcs⟩ := (HD.out.kept HB6.out).rowo.at_ k7 hlt
          subst hpe
          obtain ⟨od, hod⟩ : ∃ od, os[k7] = od := ⟨_, rfl⟩
          have HOD := Lib.hid hod
          have HLT := Lib.hid hlt
          have HOA : Hid (1 ≤ od.a ∧ od.a ≤ 1125899906842624) := Lib.hid (HOO.out od (HD.out.po.mem_iff.1 (by rw [← hod]; exact List.getElem_mem ..)))
          have HMA : Hid (1 ≤ m.a ∧ m.a ≤ 1125899906842624) := Lib.hid HPT.out.2.2.2.1
          have HTK : Hid ((os.take (k7 + 1)).any (expB (itemM m) d.far) = ((os.take k7).any (expB (itemM m) d.far) || expB (itemM m) d.far od)) := Lib.hid (by rw [List.take_succ_eq_append_getElem hlt, List.any_append, hod]; simp)
          clear hbl hcs hod
          have keq := fun (w : World) => cid_eq od.s od.n m.s m.n w
          go_upto_region 17 with fail
          clear a3
          cases hb : (od.s == m.s && od.n == m.n)
          ·skip
           rw [hb] at keq
           have HEX : Hid (expB (itemM m) d.far od = false) := Lib.hid (by show ((od.s == m.s && od.n == m.n) && nearB od.a m.a d.far) = false; rw [hb]; rfl)
           clear hb
           have hbd := (Below.refl wr.heap.size wr).drew
           have Hd7 := kbq Hd6 hbd
           have Hx7 := kbq Hx6 hbd
           have Hr7 := kbq Hr6 hbd
           have HB7 := ktq HB6 hbd
           have HZ7 := kzq HZ6 hbd.size
           clear Hd6 Hx6 Hr6 HB6 HZ6
           refine wp_region_held_drew (S := fun w' => w'.cell? ⟨w.heap.size, 0, none⟩ = some (.int .i64 d.me) ∧ w'.cell? ⟨w.heap.size, 1, none⟩ = some (.int .i64 d.far) ∧ w'.cell? ⟨w.heap.size, 2, none⟩ = some (.slice (some ⟨b, o, none⟩) xs.length c) ∧ w'.cell? ⟨w.heap.size, 3, none⟩ = some (.slice (some ⟨b2, o2, none⟩) os.length co) ∧ w'.cell? ⟨gx, 0, none⟩ = some (.int .i64 m.s) ∧ w'.cell? ⟨gx, 1, none⟩ = some (.int .i64 m.n) ∧ w'.cell? ⟨gx, 2, none⟩ = some (.int .i64 m.b) ∧ w'.cell? ⟨gx, 3, none⟩ = some (.int .i64 m.c) ∧ w'.cell? ⟨gx, 4, none⟩ = some (.int .i64 m.a) ∧ w'.cell? ⟨gx, 5, none⟩ = some (.int .i64 m.r) ∧ w'.cell? ⟨gx, 6, none⟩ = some (.int .i64 st) ∧ w'.cell? ⟨gx, 7, none⟩ = some (.int .i64 0) ∧ w'.cell? ⟨b2, o2 + k7 * 3, none⟩ = some (.int .i64 od.s) ∧ w'.cell? ⟨b2, o2 + k7 * 3 + 1, none⟩ = some (.int .i64 od.n) ∧ w'.cell? ⟨b2, o2 + k7 * 3 + 2, none⟩ = some (.int .i64 od.a)) (by kernel_rfl) ⟨Hd7.out.cell 0, Hd7.out.cell 1, Hd7.out.cell 2, Hd7.out.cell 3, Hx7.out.cell 0, Hx7.out.cell 1, Hx7.out.cell 2, Hx7.out.cell 3, Hx7.out.cell 4, Hx7.out.cell 5, Hx7.out.cell 6, Hx7.out.cell 7, trow_cell (HD.out.kept HB7.out).rowo k7 HLT.out HOD.out 0 (by decide), trow_cell (HD.out.kept HB7.out).rowo k7 HLT.out HOD.out 1 (by decide), trow_cell (HD.out.kept HB7.out).rowo k7 HLT.out HOD.out 2 (by decide)⟩ (fun hS0 => ?_)
           generalize wr.drew = WG at *
           clear hbd
           refine tkq 0 ?_
           refine tkq 1 ?_
           refine tkq 2 ?_
           refine tkq 3 ?_
           refine tkq 4 ?_
           refine tkq 5 ?_
           refine tkq 6 ?_
           refine tkq 7 ?_
           refine tkq 8 ?_
           refine tkq 9 ?_
           refine tnq 10 ?_
           refine tnq 11 ?_
           refine tnq 12 ?_
           refine tnq 13 ?_
           refine tnq 14 ?_
           refine tnq 15 ?_
           refine tnq 16 ?_
           refine tnq 17 ?_
           refine tnq 18 ?_
           refine tnq 19 ?_
           refine tnq 20 ?_
           refine tkq 21 ?_
           refine wpAnyH_done (by kernel_rfl) ?_ _
           clear hS0
           clear keq hltI
           have HNX : Hid (Blk WG w.heap.size #[.int .i64 d.me, .int .i64 d.far, .slice (some ⟨b, o, none⟩) xs.length c, .slice (some ⟨b2, o2, none⟩) os.length co] 34 ∧ Blk WG gx #[.int .i64 m.s, .int .i64 m.n, .int .i64 m.b, .int .i64 m.c, .int .i64 m.a, .int .i64 m.r, .int .i64 st, .int .i64 0] 64 ∧ Blk WG (w.heap.size + 1 + 1) #[.int .i64 0, .int .i64 0, .slice none 0 0, .slice none 0 0] 34 ∧ Below w.heap.size w WG ∧ RrP z st ((os.take (k7 + 1)).any (expB (itemM m) d.far))) := Lib.hid ⟨Hd7.out, Hx7.out, Hr7.out, HB7.out, by
            rw [HTK.out, HEX.out]
            rw [Bool.or_false]; exact HRR.out⟩
           clear Hd7 Hx7 Hr7 HB7 HZ7 HRR
           go_wp2_with fail
           go_roundw
           case rel => exact ⟨k7 + 1, by have := HLT.out; omega, by go_num, z, st, rfl, HNX⟩
           case measure => have := HLT.out; simp [intOf]; omega
          ·skip
           rw [hb] at keq
           obtain ⟨nb, hnb⟩ : ∃ nb, nearB od.a m.a d.far = nb := ⟨_, rfl⟩
           have HEX : Hid (expB (itemM m) d.far od = nb) := Lib.hid (by show ((od.s == m.s && od.n == m.n) && nearB od.a m.a d.far) = nb; rw [hb, hnb]; rfl)
           have HNB := Lib.hid hnb
           clear hb hnb
           have hbd := (Below.refl wr.heap.size wr).drew
           have Hd7 := kbq Hd6 hbd
           have Hx7 := kbq Hx6 hbd
           have Hr7 := kbq Hr6 hbd
           have HB7 := ktq HB6 hbd
           have HZ7 := kzq HZ6 hbd.size
           clear Hd6 Hx6 Hr6 HB6 HZ6
           refine wp_region_held_drew (S := fun w' => w'.cell? ⟨w.heap.size, 0, none⟩ = some (.int .i64 d.me) ∧ w'.cell? ⟨w.heap.size, 1, none⟩ = some (.int .i64 d.far) ∧ w'.cell? ⟨w.heap.size, 2, none⟩ = some (.slice (some ⟨b, o, none⟩) xs.length c) ∧ w'.cell? ⟨w.heap.size, 3, none⟩ = some (.slice (some ⟨b2, o2, none⟩) os.length co) ∧ w'.cell? ⟨gx, 0, none⟩ = some (.int .i64 m.s) ∧ w'.cell? ⟨gx, 1, none⟩ = some (.int .i64 m.n) ∧ w'.cell? ⟨gx, 2, none⟩ = some (.int .i64 m.b) ∧ w'.cell? ⟨gx, 3, none⟩ = some (.int .i64 m.c) ∧ w'.cell? ⟨gx, 4, none⟩ = some (.int .i64 m.a) ∧ w'.cell? ⟨gx, 5, none⟩ = some (.int .i64 m.r) ∧ w'.cell? ⟨gx, 6, none⟩ = some (.int .i64 st) ∧ w'.cell? ⟨gx, 7, none⟩ = some (.int .i64 0) ∧ w'.cell? ⟨b2, o2 + k7 * 3, none⟩ = some (.int .i64 od.s) ∧ w'.cell? ⟨b2, o2 + k7 * 3 + 1, none⟩ = some (.int .i64 od.n) ∧ w'.cell? ⟨b2, o2 + k7 * 3 + 2, none⟩ = some (.int .i64 od.a)) (by kernel_rfl) ⟨Hd7.out.cell 0, Hd7.out.cell 1, Hd7.out.cell 2, Hd7.out.cell 3, Hx7.out.cell 0, Hx7.out.cell 1, Hx7.out.cell 2, Hx7.out.cell 3, Hx7.out.cell 4, Hx7.out.cell 5, Hx7.out.cell 6, Hx7.out.cell 7, trow_cell (HD.out.kept HB7.out).rowo k7 HLT.out HOD.out 0 (by decide), trow_cell (HD.out.kept HB7.out).rowo k7 HLT.out HOD.out 1 (by decide), trow_cell (HD.out.kept HB7.out).rowo k7 HLT.out HOD.out 2 (by decide)⟩ (fun hS0 => ?_)
           generalize wr.drew = WG at *
           clear hbd
           refine tkq 0 ?_
           refine tkq 1 ?_
           refine tkq 2 ?_
           refine tkq 3 ?_
           refine tkq 4 ?_
           refine tkq 5 ?_
           refine tkq 6 ?_
           refine tkq 7 ?_
           refine tkq 8 ?_
           refine tkq 9 ?_
           refine tkq 10 ?_
           refine tkq 11 ?_
           refine tkq 12 ?_
           refine tkq 13 ?_
           refine tkq 14 ?_
           refine tkq 15 ?_
           refine tkq 16 ?_
           refine tkq 17 ?_
           refine tkq 18 ?_
           refine tkq 19 ?_
           refine rdq 20 (fun K hK => ?_)
           have HG := Lib.hid ((by have h := rnear_any od.a m.a d.far WG HOA.out HMA.out; rw [HNB.out] at h; exact h))
           go_simp
           go_at_call 58
           refine HG.out.mono ?_
           rintro y9 w5 ⟨rfl, hb⟩
           clear HG
           have Hd8 := kbq Hd7 hb
           have Hx8 := kbq Hx7 hb
           have Hr8 := kbq Hr7 hb
           have HB8 := ktq HB7 hb
           have HZ8 := kzq HZ7 hb.size
           clear Hd7 Hx7 Hr7 HB7 HZ7
           clear hb hS0
           try go_wp2_with fail
           refine hK.out _ _ ⟨Hd8.out.cell 0, Hd8.out.cell 1, Hd8.out.cell 2, Hd8.out.cell 3, Hx8.out.cell 0, Hx8.out.cell 1, Hx8.out.cell 2, Hx8.out.cell 3, Hx8.out.cell 4, Hx8.out.cell 5, Hx8.out.cell 6, Hx8.out.cell 7, trow_cell (HD.out.kept HB8.out).rowo k7 HLT.out HOD.out 0 (by decide), trow_cell (HD.out.kept HB8.out).rowo k7 HLT.out HOD.out 1 (by decide), trow_cell (HD.out.kept HB8.out).rowo k7 HLT.out HOD.out 2 (by decide)⟩ (fun hS0 => ?_)
           clear hK K
           try simp only [Act.put, List.getElem_toArray, List.getElem_cons_succ, List.getElem_cons_zero, List.setIfInBounds_toArray, List.set_cons_zero, List.set_cons_succ]
           refine tkq 21 ?_
           refine wpAnyH_done (by kernel_rfl) ?_ _
           clear hS0
           clear keq hltI
           cases nb
           ·skip
            have HNX : Hid (Blk w5 w.heap.size #[.int .i64 d.me, .int .i64 d.far, .slice (some ⟨b, o, none⟩) xs.length c, .slice (some ⟨b2, o2, none⟩) os.length co] 34 ∧ Blk w5 gx #[.int .i64 m.s, .int .i64 m.n, .int .i64 m.b, .int .i64 m.c, .int .i64 m.a, .int .i64 m.r, .int .i64 st, .int .i64 0] 64 ∧ Blk w5 (w.heap.size + 1 + 1) #[.int .i64 0, .int .i64 0, .slice none 0 0, .slice none 0 0] 34 ∧ Below w.heap.size w w5 ∧ RrP z st ((os.take (k7 + 1)).any (expB (itemM m) d.far))) := Lib.hid ⟨Hd8.out, Hx8.out, Hr8.out, HB8.out, by
             rw [HTK.out, HEX.out]
             rw [Bool.or_false]; exact HRR.out⟩
            clear Hd8 Hx8 Hr8 HB8 HZ8 HRR
            go_wp2_with fail
            go_roundw
            case rel => exact ⟨k7 + 1, by have := HLT.out; omega, by go_num, z, st, rfl, HNX⟩
            case measure => have := HLT.out; simp [intOf]; omega
           ·skip
            go_upto_region 18 with fail
            have z6 : w5.cell? ⟨gx, 6, none⟩ = some (.int .i64 st) := Hx8.out.cell 6
            have f6 := Hx8.out.free 6
            go_upto_region 19 with fail
            clear z6 f6
            have hch := Lib.hid ((Chg.refl gx w5).set 6 (.int .i64 3))
            have Hx9 : Hid (Blk _ gx #[.int .i64 m.s, .int .i64 m.n, .int .i64 m.b, .int .i64 m.c, .int .i64 m.a, .int .i64 m.r, .int .i64 3, .int .i64 0] 64) := Lib.hid (Hx8.out.set 6 (.int .i64 3))
            have HB9 := ksq HB8 hch (by show w.heap.size ≤ gx; have := HGgx.out; omega)
            have HZ9 := kzq HZ8 hch.out.size
            have Hd9 := kcq Hd8 hch (by have := HGgx.out; omega)
            have Hr9 := kcq Hr8 hch (by have := HGgx.out; omega)
            clear hch Hd8 Hx8 Hr8 HB8 HZ8
            generalize (w5.setCell ⟨gx, 6, none⟩ (.int .i64 3)) = W6 at *
            have HNX : Hid (Blk W6 w.heap.size #[.int .i64 d.me, .int .i64 d.far, .slice (some ⟨b, o, none⟩) xs.length c, .slice (some ⟨b2, o2, none⟩) os.length co] 34 ∧ Blk W6 gx #[.int .i64 m.s, .int .i64 m.n, .int .i64 m.b, .int .i64 m.c, .int .i64 m.a, .int .i64 m.r, .int .i64 3, .int .i64 0] 64 ∧ Blk W6 (w.heap.size + 1 + 1) #[.int .i64 0, .int .i64 0, .slice none 0 0, .slice none 0 0] 34 ∧ Below w.heap.size w W6 ∧ RrP 7 3 ((os.take (k7 + 1)).any (expB (itemM m) d.far))) := Lib.hid ⟨Hd9.out, Hx9.out, Hr9.out, HB9.out, by
             rw [HTK.out, HEX.out]
             exact Or.inr ⟨rfl, rfl, by rw [Bool.or_true]⟩⟩
            clear Hd9 Hx9 Hr9 HB9 HZ9 HRR
            go_wp2_with fail
            go_roundw
            case rel => exact ⟨k7 + 1, by have := HLT.out; omega, by go_num, 7, 3, rfl, HNX⟩
            case measure => have := HLT.out; simp [intOf]; omega
         ·skip
          have hltI : ¬ (k7 : Int) < (os.length : Int) := by omega
          have HEX : Hid (z = 8 ∧ st = 2 ∧ expectsB d (itemM m) = false ∨ z = 7 ∧ st = 3 ∧ expectsB d (itemM m) = true) := Lib.hid (by
           rw [exp_any HD.out.po HSO.out]
           have h1 := HRR.out
           rw [List.take_of_length_le (by omega)] at h1
           exact h1)
          clear HRR hk9
          go_upto_region 20 with fail
          clear hltI a3
          generalize wr = V at *
          obtain rfl : R = (d.put (⟨m.s, m.n, m.b, m.c, m.a, m.r, st, 0⟩ : Itm), [(fro, aboutM z (⟨m.s, m.n, m.b, m.c, m.a, m.r, st, 0⟩ : Itm))], 0) := by
           rw [← HA.out]
           rw [HPI.out _ HFB.out, if_neg (by decide)]
           unfold proK
           have h9 : (toI d.me (⟨m.s, m.n, m.b, m.c, m.a, m.r, st, 0⟩ : Itm)) = fro := by
            unfold toI
            rw [if_pos HF3.out]
            exact HF1.out.symm
           rcases HEX.out with ⟨h1, h2, h3⟩ | ⟨h1, h2, h3⟩
           ·rw [h3, if_neg (by decide), if_neg (by decide)]
            subst h1 h2
            rw [← h9]
            rfl
           ·rw [h3, if_pos rfl, if_pos rfl]
            subst h1 h2
            rw [← h9]
            rfl
          have HWL3 : Hid (w.heap.size + 1 + 1 + 1 ≤ V.heap.size) := Lib.hid Hr6.out.lt
          have hbd := (Below.refl V.heap.size V).drew
          have Hd7 := kbq Hd6 hbd
          have Hx7 := kbq Hx6 hbd
          have Hr7 := kbq Hr6 hbd
          have HB7 := ktq HB6 hbd
          have HZ7 := kzq HZ6 hbd.size
          clear Hd6 Hx6 Hr6 HB6 HZ6
          refine wp_region_held_drew (S := fun w' => w'.cell? ⟨w.heap.size, 0, none⟩ = some (.int .i64 d.me) ∧ w'.cell? ⟨w.heap.size, 1, none⟩ = some (.int .i64 d.far) ∧ w'.cell? ⟨w.heap.size, 2, none⟩ = some (.slice (some ⟨b, o, none⟩) xs.length c) ∧ w'.cell? ⟨w.heap.size, 3, none⟩ = some (.slice po os.length co) ∧ w'.cell? ⟨gx, 0, none⟩ = some (.int .i64 m.s) ∧ w'.cell? ⟨gx, 1, none⟩ = some (.int .i64 m.n) ∧ w'.cell? ⟨gx, 2, none⟩ = some (.int .i64 m.b) ∧ w'.cell? ⟨gx, 3, none⟩ = some (.int .i64 m.c) ∧ w'.cell? ⟨gx, 4, none⟩ = some (.int .i64 m.a) ∧ w'.cell? ⟨gx, 5, none⟩ = some (.int .i64 m.r) ∧ w'.cell? ⟨gx, 6, none⟩ = some (.int .i64 st) ∧ w'.cell? ⟨gx, 7, none⟩ = some (.int .i64 0)) (by kernel_rfl) ⟨Hd7.out.cell 0, Hd7.out.cell 1, Hd7.out.cell 2, Hd7.out.cell 3, Hx7.out.cell 0, Hx7.out.cell 1, Hx7.out.cell 2, Hx7.out.cell 3, Hx7.out.cell 4, Hx7.out.cell 5, Hx7.out.cell 6, Hx7.out.cell 7⟩ (fun hS0 => ?_)
          have HWD3 := Lib.hid (Nat.le_trans HWL3.out hbd.size)
          clear HWL3
          generalize V.drew = WD at *
          clear hbd
          refine tkq 0 ?_
          refine tkq 1 ?_
          refine tkq 3 ?_
          refine tkq 4 ?_
          refine tkq 5 ?_
          refine rdq 2 (fun K hK => ?_)
          have HG := Lib.hid (ckeep_any WD d.me d.far (some ⟨b, o, none⟩) po xs.length c os.length co (⟨m.s, m.n, m.b, m.c, m.a, m.r, st, 0⟩ : Itm) xs (HD.out.kept HB7.out).row rfl (by have := HLN.out; omega))
          unfold Itm.v at HG
          try dsimp only at HG
          go_simp
          go_at_call 37
          refine HG.out.mono ?_
          rintro y9 w7 ⟨r9, p9, n9, c9, ha9, rfl, hown9, hn9, hb⟩
          clear HG
          have HP9 := Lib.hid (cput_perm (x := (⟨m.s, m.n, m.b, m.c, m.a, m.r, st, 0⟩ : Itm)) HD.out.px HSX.out ha9)
          have HO9 := Lib.hid (hown9.less (base' := w.heap.size + 1 + 1 + 1) HWD3.out)
          have HWD4 := Lib.hid (Nat.le_trans HWD3.out hb.size)
          generalize cputL xs (⟨m.s, m.n, m.b, m.c, m.a, m.r, st, 0⟩ : Itm) r9 = ys at *
          subst hn9
          clear ha9 hown9
          have Hd8 := kbq Hd7 hb
          have Hx8 := kbq Hx7 hb
          have Hr8 := kbq Hr7 hb
          have HB8 := ktq HB7 hb
          have HZ8 := kzq HZ7 hb.size
          clear Hd7 Hx7 Hr7 HB7 HZ7
          clear hb hS0
          try go_wp2_with fail
          refine hK.out _ _ ⟨Hd8.out.cell 0, Hd8.out.cell 1, Hd8.out.cell 2, Hd8.out.cell 3, Hx8.out.cell 0, Hx8.out.cell 1, Hx8.out.cell 2, Hx8.out.cell 3, Hx8.out.cell 4, Hx8.out.cell 5, Hx8.out.cell 6, Hx8.out.cell 7⟩ (fun hS0 => ?_)
          clear hK K
          try simp only [Act.put, List.getElem_toArray, List.getElem_cons_succ, List.getElem_cons_zero, List.setIfInBounds_toArray, List.set_cons_zero, List.set_cons_succ]
          have Sy8 := HO9
          clear HO9
          refine rdq 6 (fun K hK => ?_)
          have HG := Lib.hid (rabout_any fro z (⟨m.s, m.n, m.b, m.c, m.a, m.r, st, 0⟩ : Itm) w7)
          unfold Itm.v at HG
          try dsimp only at HG
          go_simp
          go_at_call 38
          refine HG.out.mono ?_
          rintro y9 w8 ⟨vs9, rfl, hso9, hb⟩
          clear HG
          have HS9 := Lib.hid (hso9.less (base' := w.heap.size + 1 + 1 + 1) HWD4.out)
          clear hso9
          have Hd9 := kbq Hd8 hb
          have Hx9 := kbq Hx8 hb
          have Hr9 := kbq Hr8 hb
          have Sy9 := Lib.hid (Sy8.out.later hb)
          have HB9 := ktq HB8 hb
          have HZ9 := kzq HZ8 hb.size
          clear Hd8 Hx8 Hr8 Sy8 HB8 HZ8
          clear hb hS0
          try go_wp2_with fail
          refine hK.out _ _ ⟨Hd9.out.cell 0, Hd9.out.cell 1, Hd9.out.cell 2, Hd9.out.cell 3, Hx9.out.cell 0, Hx9.out.cell 1, Hx9.out.cell 2, Hx9.out.cell 3, Hx9.out.cell 4, Hx9.out.cell 5, Hx9.out.cell 6, Hx9.out.cell 7⟩ (fun hS0 => ?_)
          clear hK K
          try simp only [Act.put, List.getElem_toArray, List.getElem_cons_succ, List.getElem_cons_zero, List.setIfInBounds_toArray, List.set_cons_zero, List.set_cons_succ]
          have Sz9 := HS9
          clear HS9
          refine rdq 7 (fun K hK => ?_)
          have z0 : w8.cell? ⟨(w.heap.size + 1 + 1), 0, none⟩ = some (.int .i64 0) := Hr9.out.cell 0
          have z1 : w8.cell? ⟨(w.heap.size + 1 + 1), 1, none⟩ = some (.int .i64 0) := Hr9.out.cell 1
          have z2 : w8.cell? ⟨(w.heap.size + 1 + 1), 2, none⟩ = some (.slice none 0 0) := Hr9.out.cell 2
          have z3 : w8.cell? ⟨(w.heap.size + 1 + 1), 3, none⟩ = some (.slice none 0 0) := Hr9.out.cell 3
          have f0 := Hr9.out.free 0
          have f1 := Hr9.out.free 1
          have f2 := Hr9.out.free 2
          have f3 := Hr9.out.free 3
          go_simp
          clear z0 f0 z1 f1 z2 f2 z3 f3
          have hch := Lib.hid (((((Chg.refl (w.heap.size + 1 + 1) w8).set 0 (.int .i64 d.me)).set 1 (.int .i64 d.far)).set 2 (.slice p9 ys.length c9)).set 3 (.slice po os.length co))
          have Hr10 : Hid (Blk _ (w.heap.size + 1 + 1) #[.int .i64 d.me, .int .i64 d.far, .slice p9 ys.length c9, .slice po os.length co] 34) := Lib.hid ((((Hr9.out.set 0 (.int .i64 d.me)).set 1 (.int .i64 d.far)).set 2 (.slice p9 ys.length c9)).set 3 (.slice po os.length co))
          have HB10 := ksq HB9 hch (by show w.heap.size ≤ (w.heap.size + 1 + 1); have := HGgx.out; omega)
          have HZ10 := kzq HZ9 hch.out.size
          have Hd10 := kcq Hd9 hch (by have := HGgx.out; omega)
          have Hx10 := kcq Hx9 hch (by have := HGgx.out; omega)
          have Sy10 := Lib.hid (Sy9.out.stay (fun b hb => hch.out.2 b (Sy9.out.lt b hb) (by have h1 := Sy9.out.block_ge b hb; have := HGgx.out; omega)))
          have Sz10 := Lib.hid (Sz9.out.stay (fun b hb => hch.out.2 b (Sz9.out.lt b hb) (by have h1 := Sz9.out.block_ge b hb; have := HGgx.out; omega)))
          clear hch hS0 Hd9 Hx9 Hr9 Sy9 Sz9 HB9 HZ9
          generalize ((((w8.setCell ⟨w.heap.size + 1 + 1, 0, none⟩ (.int .i64 d.me)).setCell ⟨w.heap.size + 1 + 1, 1, none⟩ (.int .i64 d.far)).setCell ⟨w.heap.size + 1 + 1, 2, none⟩ (.slice p9 ys.length c9)).setCell ⟨w.heap.size + 1 + 1, 3, none⟩ (.slice po os.length co)) = W9 at *
          refine hK.out _ _ ⟨Hd10.out.cell 0, Hd10.out.cell 1, Hd10.out.cell 2, Hd10.out.cell 3, Hx10.out.cell 0, Hx10.out.cell 1, Hx10.out.cell 2, Hx10.out.cell 3, Hx10.out.cell 4, Hx10.out.cell 5, Hx10.out.cell 6, Hx10.out.cell 7⟩ (fun hS0 => ?_)
          clear hK K
          try simp only [Act.put, List.getElem_toArray, List.getElem_cons_succ, List.getElem_cons_zero, List.setIfInBounds_toArray, List.set_cons_zero, List.set_cons_succ]
          refine tkq 8 ?_
          refine tkq 9 ?_
          refine wpAnyH_done (by kernel_rfl) ?_ _
          clear hS0
          go_wp2_with fail
          have hfr := Hr10.out
          refine bodyPost_ret (v := .tuple #[.agg #[.int .i64 d.me, .int .i64 d.far, .slice p9 ys.length c9, .slice po os.length co], vs9, .int .i64 0]) (by simp [results, Try.results40, go_sem, hfr.cell 0, hfr.cell 1, hfr.cell 2, hfr.cell 3]) rfl ⟨_, _, _, _, _, _, _, rfl, ⟨Sy10.out.row, (HD.out.kept HB10.out).rowo, Sy10.out.at_P (fun b h => .inr (by omega)), HD.out.ao.imp (fun b h => .inl h.1), HP9.out, HD.out.po⟩, ?_, HB10.out⟩
          exact Sz10.out.less (by omega)
       ·skip
        have hc1 : (q.c != m.c) = true := by simpa using hc
        have HC1 := Lib.hid hc
        clear hc
        have hbd := (Below.refl w3.heap.size w3).drew
        have Hd4 := kbq Hd3 hbd
        have Hm4 := kbq Hm3 hbd
        have Hr4 := kbq Hr3 hbd
        have Hx4 := kbq Hx3 hbd
        have HB4 := ktq HB3 hbd
        have HZ4 := kzq HZ3 hbd.size
        clear Hd3 Hm3 Hr3 Hx3 HB3 HZ3
        refine wp_region_held_drew (S := fun w' => w'.cell? ⟨w.heap.size, 0, none⟩ = some (.int .i64 d.me) ∧ w'.cell? ⟨w.heap.size, 1, none⟩ = some (.int .i64 d.far) ∧ w'.cell? ⟨w.heap.size, 2, none⟩ = some (.slice (some ⟨b, o, none⟩) xs.length c) ∧ w'.cell? ⟨w.heap.size, 3, none⟩ = some (.slice po os.length co) ∧ w'.cell? ⟨gx, 0, none⟩ = some (.int .i64 m.s) ∧ w'.cell? ⟨gx, 1, none⟩ = some (.int .i64 m.n) ∧ w'.cell? ⟨gx, 2, none⟩ = some (.int .i64 m.b) ∧ w'.cell? ⟨gx, 3, none⟩ = some (.int .i64 m.c) ∧ w'.cell? ⟨gx, 4, none⟩ = some (.int .i64 m.a) ∧ w'.cell? ⟨gx, 5, none⟩ = some (.int .i64 m.r) ∧ w'.cell? ⟨gx, 6, none⟩ = some (.int .i64 1) ∧ w'.cell? ⟨gx, 7, none⟩ = some (.int .i64 0) ∧ w'.cell? ⟨b, o + k * 8 + 6, none⟩ = some (.int .i64 q.t) ∧ w'.cell? ⟨b, o + k * 8 + 5, none⟩ = some (.int .i64 q.r) ∧ w'.cell? ⟨b, o + k * 8 + 3, none⟩ = some (.int .i64 q.c)) (by kernel_rfl) ⟨Hd4.out.cell 0, Hd4.out.cell 1, Hd4.out.cell 2, Hd4.out.cell 3, Hx4.out.cell 0, Hx4.out.cell 1, Hx4.out.cell 2, Hx4.out.cell 3, Hx4.out.cell 4, Hx4.out.cell 5, Hx4.out.cell 6, Hx4.out.cell 7, trow_cell (HD.out.kept HB4.out).row k HKL.out HQ.out 6 (by decide), trow_cell (HD.out.kept HB4.out).row k HKL.out HQ.out 5 (by decide), trow_cell (HD.out.kept HB4.out).row k HKL.out HQ.out 3 (by decide)⟩ (fun hS0 => ?_)
        generalize w3.drew = WF at *
        clear hbd
        refine tkq 0 ?_
        refine tkq 1 ?_
        refine tkq 2 ?_
        refine tkq 3 ?_
        refine tkq 4 ?_
        refine tkq 5 ?_
        refine tkq 6 ?_
        refine tkq 7 ?_
        refine tkq 8 ?_
        refine tkq 9 ?_
        refine tkq 10 ?_
        refine tkq 11 ?_
        refine tkq 12 ?_
        refine tkq 13 ?_
        refine tkq 14 ?_
        refine tkq 15 ?_
        refine tkq 16 ?_
        refine tkq 17 ?_
        refine tkq 18 ?_
        refine tkq 19 ?_
        refine tkq 20 ?_
        refine tkq 21 ?_
        refine tkq 22 ?_
        refine tkq 23 ?_
        refine tkq 24 ?_
        refine tkq 25 ?_
        refine tkq 26 ?_
        refine tkq 27 ?_
        refine tkq 28 ?_
        refine tkq 29 ?_
        refine tkq 30 ?_
        refine tkq 31 ?_
        refine tkq 32 ?_
        refine tkq 33 ?_
        refine wpAnyH_done (by kernel_rfl) ?_ _
        clear hS0
        clear ht1 hr1 hc1 hqr hkI
        go_upto_region 11 with fail
        obtain rfl : R = (d, [], 90) := by
         rw [← HA.out]
         have h2 : followsB d (itemM m) = false := by
          unfold followsB
          rw [show findX d.xs (itemM m).s (itemM m).n = some q from HFX.out]
          show ((q.t == 2) && ((q.r + 1 == m.r) && (q.c == m.c))) = false; rw [show (q.c == m.c) = false by simpa using HC1.out]; simp
         rw [HPI.out _ h2, if_pos rfl]
         exact beh_err (show (90 : Int) ≠ 0 by decide)
        have a0 : WF.cell? ⟨w.heap.size, 0, none⟩ = some (.int .i64 d.me) := Hd4.out.cell 0
        have a1 : WF.cell? ⟨w.heap.size, 1, none⟩ = some (.int .i64 d.far) := Hd4.out.cell 1
        have a2 : WF.cell? ⟨w.heap.size, 2, none⟩ = some (.slice (some ⟨b, o, none⟩) xs.length c) := Hd4.out.cell 2
        have a3 : WF.cell? ⟨w.heap.size, 3, none⟩ = some (.slice po os.length co) := Hd4.out.cell 3
        go_wp2_with (with_reducible refine stop_storeT 34 (.tmp 6) (.tmp 90) rfl ?_)
        clear a0 a1 a2 a3
        have HTH : Hid (WF.there (w.heap.size + 1 + 1) 0 4) := Hr4.out.thereAt
        have hch : Hid (Chg (w.heap.size + 1 + 1) WF (WF.setCells (w.heap.size + 1 + 1) 0 (#[.int .i64 d.me, .int .i64 d.far, .slice (some ⟨b, o, none⟩) xs.length c, .slice po os.length co] : Array Value).toList)) := Lib.hid (chg_putL _ _ _ _ _ (Chg.refl _ WF))
        have Hr5 : Hid (Blk (WF.setCells (w.heap.size + 1 + 1) 0 (#[.int .i64 d.me, .int .i64 d.far, .slice (some ⟨b, o, none⟩) xs.length c, .slice po os.length co] : Array Value).toList) (w.heap.size + 1 + 1) #[.int .i64 d.me, .int .i64 d.far, .slice (some ⟨b, o, none⟩) xs.length c, .slice po os.length co] 34) := Lib.hid (blk_put_all Hr4.out _ rfl)
        have HB5 : Hid (Below w.heap.size w (WF.setCells (w.heap.size + 1 + 1) 0 (#[.int .i64 d.me, .int .i64 d.far, .slice (some ⟨b, o, none⟩) xs.length c, .slice po os.length co] : Array Value).toList)) := Lib.hid (below_put (by have := HGgx.out; omega) _ _ _ _ HB4.out)
        have HZ5 := kzq HZ4 hch.out.size
        have Hd5 := kcq Hd4 hch (by have := HGgx.out; omega)
        have Hm5 := kcq Hm4 hch (by have := HGgx.out; omega)
        have Hx5 := kcq Hx4 hch (by have := HGgx.out; omega)
        clear hch Hd4 Hm4 Hr4 Hx4 HB4 HZ4
        refine wpList_store_mid rfl 34 (.tmp 6) (.tmp 90) rfl (w.heap.size + 1 + 1) 0 #[.int .i64 d.me, .int .i64 d.far, .slice (some ⟨b, o, none⟩) xs.length c, .slice po os.length co] rfl rfl HTH.out (infoDC rfl) (all_oneCell_toArray (by intro u hu; simp at hu; rcases hu with rfl | rfl | rfl | rfl <;> rfl)) ?_
        generalize (WF.setCells (w.heap.size + 1 + 1) 0 (#[.int .i64 d.me, .int .i64 d.far, .slice (some ⟨b, o, none⟩) xs.length c, .slice po os.length co] : Array Value).toList) = WR at *
        clear HTH
        go_wp2_with fail
        have hfr := Hr5.out
        refine bodyPost_ret (v := .tuple #[.agg #[.int .i64 d.me, .int .i64 d.far, .slice (some ⟨b, o, none⟩) xs.length c, .slice po os.length co], .slice none 0 0, .int .i64 90]) (by simp [results, Try.results40, go_sem, hfr.cell 0, hfr.cell 1, hfr.cell 2, hfr.cell 3]) rfl ⟨_, _, _, _, _, _, _, rfl, (HD.out.kept HB5.out).imp (fun b h => .inl h.1), OwnT.nil_ _ _ _ _, HB5.out⟩
      ·skip
       have hr1 : (q.r + 1 != m.r) = true := by simpa using hr
       have HR1 := Lib.hid hr
       clear hr
       have hbd := (Below.refl w3.heap.size w3).drew
       have Hd4 := kbq Hd3 hbd
       have Hm4 := kbq Hm3 hbd
       have Hr4 := kbq Hr3 hbd
       have Hx4 := kbq Hx3 hbd
       have HB4 := ktq HB3 hbd
       have HZ4 := kzq HZ3 hbd.size
       clear Hd3 Hm3 Hr3 Hx3 HB3 HZ3
       refine wp_region_held_drew (S := fun w' => w'.cell? ⟨w.heap.size, 0, none⟩ = some (.int .i64 d.me) ∧ w'.cell? ⟨w.heap.size, 1, none⟩ = some (.int .i64 d.far) ∧ w'.cell? ⟨w.heap.size, 2, none⟩ = some (.slice (some ⟨b, o, none⟩) xs.length c) ∧ w'.cell? ⟨w.heap.size, 3, none⟩ = some (.slice po os.length co) ∧ w'.cell? ⟨gx, 0, none⟩ = some (.int .i64 m.s) ∧ w'.cell? ⟨gx, 1, none⟩ = some (.int .i64 m.n) ∧ w'.cell? ⟨gx, 2, none⟩ = some (.int .i64 m.b) ∧ w'.cell? ⟨gx, 3, none⟩ = some (.int .i64 m.c) ∧ w'.cell? ⟨gx, 4, none⟩ = some (.int .i64 m.a) ∧ w'.cell? ⟨gx, 5, none⟩ = some (.int .i64 m.r) ∧ w'.cell? ⟨gx, 6, none⟩ = some (.int .i64 1) ∧ w'.cell? ⟨gx, 7, none⟩ = some (.int .i64 0) ∧ w'.cell? ⟨b, o + k * 8 + 6, none⟩ = some (.int .i64 q.t) ∧ w'.cell? ⟨b, o + k * 8 + 5, none⟩ = some (.int .i64 q.r) ∧ w'.cell? ⟨b, o + k * 8 + 3, none⟩ = some (.int .i64 q.c)) (by kernel_rfl) ⟨Hd4.out.cell 0, Hd4.out.cell 1, Hd4.out.cell 2, Hd4.out.cell 3, Hx4.out.cell 0, Hx4.out.cell 1, Hx4.out.cell 2, Hx4.out.cell 3, Hx4.out.cell 4, Hx4.out.cell 5, Hx4.out.cell 6, Hx4.out.cell 7, trow_cell (HD.out.kept HB4.out).row k HKL.out HQ.out 6 (by decide), trow_cell (HD.out.kept HB4.out).row k HKL.out HQ.out 5 (by decide), trow_cell (HD.out.kept HB4.out).row k HKL.out HQ.out 3 (by decide)⟩ (fun hS0 => ?_)
       generalize w3.drew = WF at *
       clear hbd
       refine tkq 0 ?_
       refine tkq 1 ?_
       refine tkq 2 ?_
       refine tkq 3 ?_
       refine tkq 4 ?_
       refine tkq 5 ?_
       refine tkq 6 ?_
       refine tkq 7 ?_
       refine tkq 8 ?_
       refine tkq 9 ?_
       refine tkq 10 ?_
       refine tkq 11 ?_
       refine tkq 12 ?_
       refine tkq 13 ?_
       refine tkq 14 ?_
       refine tkq 15 ?_
       refine tkq 16 ?_
       refine tkq 17 ?_
       refine tkq 18 ?_
       refine tkq 19 ?_
       refine tkq 20 ?_
       refine tkq 21 ?_
       refine tkq 22 ?_
       refine tnq 23 ?_
       refine tnq 24 ?_
       refine tnq 25 ?_
       refine tnq 26 ?_
       refine tnq 27 ?_
       refine tnq 28 ?_
       refine tnq 29 ?_
       refine tnq 30 ?_
       refine tnq 31 ?_
       refine tkq 32 ?_
       refine tkq 33 ?_
       refine wpAnyH_done (by kernel_rfl) ?_ _
       clear hS0
       clear ht1 hr1 hqr hkI
       go_upto_region 11 with fail
       obtain rfl : R = (d, [], 90) := by
        rw [← HA.out]
        have h2 : followsB d (itemM m) = false := by
         unfold followsB
         rw [show findX d.xs (itemM m).s (itemM m).n = some q from HFX.out]
         show ((q.t == 2) && ((q.r + 1 == m.r) && (q.c == m.c))) = false; rw [show (q.r + 1 == m.r) = false by simpa using HR1.out]; simp
        rw [HPI.out _ h2, if_pos rfl]
        exact beh_err (show (90 : Int) ≠ 0 by decide)
       have a0 : WF.cell? ⟨w.heap.size, 0, none⟩ = some (.int .i64 d.me) := Hd4.out.cell 0
       have a1 : WF.cell? ⟨w.heap.size, 1, none⟩ = some (.int .i64 d.far) := Hd4.out.cell 1
       have a2 : WF.cell? ⟨w.heap.size, 2, none⟩ = some (.slice (some ⟨b, o, none⟩) xs.length c) := Hd4.out.cell 2
       have a3 : WF.cell? ⟨w.heap.size, 3, none⟩ = some (.slice po os.length co) := Hd4.out.cell 3
       go_wp2_with (with_reducible refine stop_storeT 34 (.tmp 6) (.tmp 90) rfl ?_)
       clear a0 a1 a2 a3
       have HTH : Hid (WF.there (w.heap.size + 1 + 1) 0 4) := Hr4.out.thereAt
       have hch : Hid (Chg (w.heap.size + 1 + 1) WF (WF.setCells (w.heap.size + 1 + 1) 0 (#[.int .i64 d.me, .int .i64 d.far, .slice (some ⟨b, o, none⟩) xs.length c, .slice po os.length co] : Array Value).toList)) := Lib.hid (chg_putL _ _ _ _ _ (Chg.refl _ WF))
       have Hr5 : Hid (Blk (WF.setCells (w.heap.size + 1 + 1) 0 (#[.int .i64 d.me, .int .i64 d.far, .slice (some ⟨b, o, none⟩) xs.length c, .slice po os.length co] : Array Value).toList) (w.heap.size + 1 + 1) #[.int .i64 d.me, .int .i64 d.far, .slice (some ⟨b, o, none⟩) xs.length c, .slice po os.length co] 34) := Lib.hid (blk_put_all Hr4.out _ rfl)
       have HB5 : Hid (Below w.heap.size w (WF.setCells (w.heap.size + 1 + 1) 0 (#[.int .i64 d.me, .int .i64 d.far, .slice (some ⟨b, o, none⟩) xs.length c, .slice po os.length co] : Array Value).toList)) := Lib.hid (below_put (by have := HGgx.out; omega) _ _ _ _ HB4.out)
       have HZ5 := kzq HZ4 hch.out.size
       have Hd5 := kcq Hd4 hch (by have := HGgx.out; omega)
       have Hm5 := kcq Hm4 hch (by have := HGgx.out; omega)
       have Hx5 := kcq Hx4 hch (by have := HGgx.out; omega)
       clear hch Hd4 Hm4 Hr4 Hx4 HB4 HZ4
       refine wpList_store_mid rfl 34 (.tmp 6) (.tmp 90) rfl (w.heap.size + 1 + 1) 0 #[.int .i64 d.me, .int .i64 d.far, .slice (some ⟨b, o, none⟩) xs.length c, .slice po os.length co] rfl rfl HTH.out (infoDC rfl) (all_oneCell_toArray (by intro u hu; simp at hu; rcases hu with rfl | rfl | rfl | rfl <;> rfl)) ?_
       generalize (WF.setCells (w.heap.size + 1 + 1) 0 (#[.int .i64 d.me, .int .i64 d.far, .slice (some ⟨b, o, none⟩) xs.length c, .slice po os.length co] : Array Value).toList) = WR at *
       clear HTH
       go_wp2_with fail
       have hfr := Hr5.out
       refine bodyPost_ret (v := .tuple #[.agg #[.int .i64 d.me, .int .i64 d.far, .slice (some ⟨b, o, none⟩) xs.length c, .slice po os.length co], .slice none 0 0, .int .i64 90]) (by simp [results, Try.results40, go_sem, hfr.cell 0, hfr.cell 1, hfr.cell 2, hfr.cell 3]) rfl ⟨_, _, _, _, _, _, _, rfl, (HD.out.kept HB5.out).imp (fun b h => .inl h.1), OwnT.nil_ _ _ _ _, HB5.out⟩
     ·skip
      have ht1 : (q.t != 2) = true := by simpa using ht
      have HT1 := Lib.hid ht
      clear ht
      have hbd := (Below.refl w3.heap.size w3).drew
      have Hd4 := kbq Hd3 hbd
      have Hm4 := kbq Hm3 hbd
      have Hr4 := kbq Hr3 hbd
      have Hx4 := kbq Hx3 hbd
      have HB4 := ktq HB3 hbd
      have HZ4 := kzq HZ3 hbd.size
      clear Hd3 Hm3 Hr3 Hx3 HB3 HZ3
      refine wp_region_held_drew (S := fun w' => w'.cell? ⟨w.heap.size, 0, none⟩ = some (.int .i64 d.me) ∧ w'.cell? ⟨w.heap.size, 1, none⟩ = some (.int .i64 d.far) ∧ w'.cell? ⟨w.heap.size, 2, none⟩ = some (.slice (some ⟨b, o, none⟩) xs.length c) ∧ w'.cell? ⟨w.heap.size, 3, none⟩ = some (.slice po os.length co) ∧ w'.cell? ⟨gx, 0, none⟩ = some (.int .i64 m.s) ∧ w'.cell? ⟨gx, 1, none⟩ = some (.int .i64 m.n) ∧ w'.cell? ⟨gx, 2, none⟩ = some (.int .i64 m.b) ∧ w'.cell? ⟨gx, 3, none⟩ = some (.int .i64 m.c) ∧ w'.cell? ⟨gx, 4, none⟩ = some (.int .i64 m.a) ∧ w'.cell? ⟨gx, 5, none⟩ = some (.int .i64 m.r) ∧ w'.cell? ⟨gx, 6, none⟩ = some (.int .i64 1) ∧ w'.cell? ⟨gx, 7, none⟩ = some (.int .i64 0) ∧ w'.cell? ⟨b, o + k * 8 + 6, none⟩ = some (.int .i64 q.t) ∧ w'.cell? ⟨b, o + k * 8 + 5, none⟩ = some (.int .i64 q.r) ∧ w'.cell? ⟨b, o + k * 8 + 3, none⟩ = some (.int .i64 q.c)) (by kernel_rfl) ⟨Hd4.out.cell 0, Hd4.out.cell 1, Hd4.out.cell 2, Hd4.out.cell 3, Hx4.out.cell 0, Hx4.out.cell 1, Hx4.out.cell 2, Hx4.out.cell 3, Hx4.out.cell 4, Hx4.out.cell 5, Hx4.out.cell 6, Hx4.out.cell 7, trow_cell (HD.out.kept HB4.out).row k HKL.out HQ.out 6 (by decide), trow_cell (HD.out.kept HB4.out).row k HKL.out HQ.out 5 (by decide), trow_cell (HD.out.kept HB4.out).row k HKL.out HQ.out 3 (by decide)⟩ (fun hS0 => ?_)
      generalize w3.drew = WF at *
      clear hbd
      refine tkq 0 ?_
      refine tkq 1 ?_
      refine tkq 2 ?_
      refine tkq 3 ?_
      refine tkq 4 ?_
      refine tkq 5 ?_
      refine tkq 6 ?_
      refine tkq 7 ?_
      refine tkq 8 ?_
      refine tkq 9 ?_
      refine tkq 10 ?_
      refine tnq 11 ?_
      refine tnq 12 ?_
      refine tnq 13 ?_
      refine tnq 14 ?_
      refine tnq 15 ?_
      refine tnq 16 ?_
      refine tnq 17 ?_
      refine tnq 18 ?_
      refine tnq 19 ?_
      refine tnq 20 ?_
      refine tkq 21 ?_
      refine tkq 22 ?_
      refine tnq 23 ?_
      refine tnq 24 ?_
      refine tnq 25 ?_
      refine tnq 26 ?_
      refine tnq 27 ?_
      refine tnq 28 ?_
      refine tnq 29 ?_
      refine tnq 30 ?_
      refine tnq 31 ?_
      refine tkq 32 ?_
      refine tkq 33 ?_
      refine wpAnyH_done (by kernel_rfl) ?_ _
      clear hS0
      clear ht1 hqr hkI
      go_upto_region 11 with fail
      obtain rfl : R = (d, [], 90) := by
       rw [← HA.out]
       have h2 : followsB d (itemM m) = false := by
        unfold followsB
        rw [show findX d.xs (itemM m).s (itemM m).n = some q from HFX.out]
        show ((q.t == 2) && ((q.r + 1 == m.r) && (q.c == m.c))) = false; rw [show (q.t == 2) = false by simpa using HT1.out]; rfl
       rw [HPI.out _ h2, if_pos rfl]
       exact beh_err (show (90 : Int) ≠ 0 by decide)
      have a0 : WF.cell? ⟨w.heap.size, 0, none⟩ = some (.int .i64 d.me) := Hd4.out.cell 0
      have a1 : WF.cell? ⟨w.heap.size, 1, none⟩ = some (.int .i64 d.far) := Hd4.out.cell 1
      have a2 : WF.cell? ⟨w.heap.size, 2, none⟩ = some (.slice (some ⟨b, o, none⟩) xs.length c) := Hd4.out.cell 2
      have a3 : WF.cell? ⟨w.heap.size, 3, none⟩ = some (.slice po os.length co) := Hd4.out.cell 3
      go_wp2_with (with_reducible refine stop_storeT 34 (.tmp 6) (.tmp 90) rfl ?_)
      clear a0 a1 a2 a3
      have HTH : Hid (WF.there (w.heap.size + 1 + 1) 0 4) := Hr4.out.thereAt
      have hch : Hid (Chg (w.heap.size + 1 + 1) WF (WF.setCells (w.heap.size + 1 + 1) 0 (#[.int .i64 d.me, .int .i64 d.far, .slice (some ⟨b, o, none⟩) xs.length c, .slice po os.length co] : Array Value).toList)) := Lib.hid (chg_putL _ _ _ _ _ (Chg.refl _ WF))
      have Hr5 : Hid (Blk (WF.setCells (w.heap.size + 1 + 1) 0 (#[.int .i64 d.me, .int .i64 d.far, .slice (some ⟨b, o, none⟩) xs.length c, .slice po os.length co] : Array Value).toList) (w.heap.size + 1 + 1) #[.int .i64 d.me, .int .i64 d.far, .slice (some ⟨b, o, none⟩) xs.length c, .slice po os.length co] 34) := Lib.hid (blk_put_all Hr4.out _ rfl)
      have HB5 : Hid (Below w.heap.size w (WF.setCells (w.heap.size + 1 + 1) 0 (#[.int .i64 d.me, .int .i64 d.far, .slice (some ⟨b, o, none⟩) xs.length c, .slice po os.length co] : Array Value).toList)) := Lib.hid (below_put (by have := HGgx.out; omega) _ _ _ _ HB4.out)
      have HZ5 := kzq HZ4 hch.out.size
      have Hd5 := kcq Hd4 hch (by have := HGgx.out; omega)
      have Hm5 := kcq Hm4 hch (by have := HGgx.out; omega)
      have Hx5 := kcq Hx4 hch (by have := HGgx.out; omega)
      clear hch Hd4 Hm4 Hr4 Hx4 HB4 HZ4
      refine wpList_store_mid rfl 34 (.tmp 6) (.tmp 90) rfl (w.heap.size + 1 + 1) 0 #[.int .i64 d.me, .int .i64 d.far, .slice (some ⟨b, o, none⟩) xs.length c, .slice po os.length co] rfl rfl HTH.out (infoDC rfl) (all_oneCell_toArray (by intro u hu; simp at hu; rcases hu with rfl | rfl | rfl | rfl <;> rfl)) ?_
      generalize (WF.setCells (w.heap.size + 1 + 1) 0 (#[.int .i64 d.me, .int .i64 d.far, .slice (some ⟨b, o, none⟩) xs.length c, .slice po os.length co] : Array Value).toList) = WR at *
      clear HTH
      go_wp2_with fail
      have hfr := Hr5.out
      refine bodyPost_ret (v := .tuple #[.agg #[.int .i64 d.me, .int .i64 d.far, .slice (some ⟨b, o, none⟩) xs.length c, .slice po os.length co], .slice none 0 0, .int .i64 90]) (by simp [results, Try.results40, go_sem, hfr.cell 0, hfr.cell 1, hfr.cell 2, hfr.cell 3]) rfl ⟨_, _, _, _, _, _, _, rfl, (HD.out.kept HB5.out).imp (fun b h => .inl h.1), OwnT.nil_ _ _ _ _, HB5.out⟩
   ·skip
    have hf4 : (m.b != d.me) = true := by simpa using hf3
    have HF3 := Lib.hid hf3
    go_upto_region 6 with fail
    clear hf1 hf2 hf3 hf4 x0 x2 a0
    obtain rfl : R = (d, [], 140) := by
     rw [← HA.out]
     have h1 : proI d m fro = (itm0, 140) := by unfold proI; rw [if_neg (fun h => h HE.out), if_pos (Or.inr HF3.out)]
     rw [h1]
     exact beh_err (show (140 : Int) ≠ 0 by decide)
    have a0 : w2.cell? ⟨w.heap.size, 0, none⟩ = some (.int .i64 d.me) := Hd2.out.cell 0
    have a1 : w2.cell? ⟨w.heap.size, 1, none⟩ = some (.int .i64 d.far) := Hd2.out.cell 1
    have a2 : w2.cell? ⟨w.heap.size, 2, none⟩ = some (.slice p xs.length c) := Hd2.out.cell 2
    have a3 : w2.cell? ⟨w.heap.size, 3, none⟩ = some (.slice po os.length co) := Hd2.out.cell 3
    go_wp2_with (with_reducible refine stop_storeT 34 (.tmp 6) (.tmp 43) rfl ?_)
    clear a0 a1 a2 a3
    have HTH : Hid (w2.there (w.heap.size + 1 + 1) 0 4) := Hr2.out.thereAt
    have hch : Hid (Chg (w.heap.size + 1 + 1) w2 (w2.setCells (w.heap.size + 1 + 1) 0 (#[.int .i64 d.me, .int .i64 d.far, .slice p xs.length c, .slice po os.length co] : Array Value).toList)) := Lib.hid (chg_putL _ _ _ _ _ (Chg.refl _ w2))
    have Hr3 : Hid (Blk (w2.setCells (w.heap.size + 1 + 1) 0 (#[.int .i64 d.me, .int .i64 d.far, .slice p xs.length c, .slice po os.length co] : Array Value).toList) (w.heap.size + 1 + 1) #[.int .i64 d.me, .int .i64 d.far, .slice p xs.length c, .slice po os.length co] 34) := Lib.hid (blk_put_all Hr2.out _ rfl)
    have HB3 : Hid (Below w.heap.size w (w2.setCells (w.heap.size + 1 + 1) 0 (#[.int .i64 d.me, .int .i64 d.far, .slice p xs.length c, .slice po os.length co] : Array Value).toList)) := Lib.hid (below_put (by have := HGgx.out; omega) _ _ _ _ HB2.out)
    have HZ3 := kzq HZ2 hch.out.size
    have Hd3 := kcq Hd2 hch (by have := HGgx.out; omega)
    have Hm3 := kcq Hm2 hch (by have := HGgx.out; omega)
    have Hx3 := kcq Hx2 hch (by have := HGgx.out; omega)
    clear hch Hd2 Hm2 Hr2 Hx2 HB2 HZ2
    refine wpList_store_mid rfl 34 (.tmp 6) (.tmp 43) rfl (w.heap.size + 1 + 1) 0 #[.int .i64 d.me, .int .i64 d.far, .slice p xs.length c, .slice po os.length co] rfl rfl HTH.out (infoDC rfl) (all_oneCell_toArray (by intro u hu; simp at hu; rcases hu with rfl | rfl | rfl | rfl <;> rfl)) ?_
    generalize (w2.setCells (w.heap.size + 1 + 1) 0 (#[.int .i64 d.me, .int .i64 d.far, .slice p xs.length c, .slice po os.length co] : Array Value).toList) = WR at *
    clear HTH
    go_wp2_with fail
    have hfr := Hr3.out
    refine bodyPost_ret (v := .tuple #[.agg #[.int .i64 d.me, .int .i64 d.far, .slice p xs.length c, .slice po os.length co], .slice none 0 0, .int .i64 140]) (by simp [results, Try.results40, go_sem, hfr.cell 0, hfr.cell 1, hfr.cell 2, hfr.cell 3]) rfl ⟨_, _, _, _, _, _, _, rfl, (HD.out.kept HB3.out).imp (fun b h => .inl h.1), OwnT.nil_ _ _ _ _, HB3.out⟩
  ·skip
   have hf2 : (fro != m.s) = true := by simpa using hf1
   have HF1 := Lib.hid hf1
   go_upto_region 6 with fail
   clear hf1 hf2 x0 x2 a0
   obtain rfl : R = (d, [], 140) := by
    rw [← HA.out]
    have h1 : proI d m fro = (itm0, 140) := by unfold proI; rw [if_neg (fun h => h HE.out), if_pos (Or.inl (fun h => HF1.out h.symm))]
    rw [h1]
    exact beh_err (show (140 : Int) ≠ 0 by decide)
   have a0 : w2.cell? ⟨w.heap.size, 0, none⟩ = some (.int .i64 d.me) := Hd2.out.cell 0
   have a1 : w2.cell? ⟨w.heap.size, 1, none⟩ = some (.int .i64 d.far) := Hd2.out.cell 1
   have a2 : w2.cell? ⟨w.heap.size, 2, none⟩ = some (.slice p xs.length c) := Hd2.out.cell 2
   have a3 : w2.cell? ⟨w.heap.size, 3, none⟩ = some (.slice po os.length co) := Hd2.out.cell 3
   go_wp2_with (with_reducible refine stop_storeT 34 (.tmp 6) (.tmp 43) rfl ?_)
   clear a0 a1 a2 a3
   have HTH : Hid (w2.there (w.heap.size + 1 + 1) 0 4) := Hr2.out.thereAt
   have hch : Hid (Chg (w.heap.size + 1 + 1) w2 (w2.setCells (w.heap.size + 1 + 1) 0 (#[.int .i64 d.me, .int .i64 d.far, .slice p xs.length c, .slice po os.length co] : Array Value).toList)) := Lib.hid (chg_putL _ _ _ _ _ (Chg.refl _ w2))
   have Hr3 : Hid (Blk (w2.setCells (w.heap.size + 1 + 1) 0 (#[.int .i64 d.me, .int .i64 d.far, .slice p xs.length c, .slice po os.length co] : Array Value).toList) (w.heap.size + 1 + 1) #[.int .i64 d.me, .int .i64 d.far, .slice p xs.length c, .slice po os.length co] 34) := Lib.hid (blk_put_all Hr2.out _ rfl)
   have HB3 : Hid (Below w.heap.size w (w2.setCells (w.heap.size + 1 + 1) 0 (#[.int .i64 d.me, .int .i64 d.far, .slice p xs.length c, .slice po os.length co] : Array Value).toList)) := Lib.hid (below_put (by have := HGgx.out; omega) _ _ _ _ HB2.out)
   have HZ3 := kzq HZ2 hch.out.size
   have Hd3 := kcq Hd2 hch (by have := HGgx.out; omega)
   have Hm3 := kcq Hm2 hch (by have := HGgx.out; omega)
   have Hx3 := kcq Hx2 hch (by have := HGgx.out; omega)
   clear hch Hd2 Hm2 Hr2 Hx2 HB2 HZ2
   refine wpList_store_mid rfl 34 (.tmp 6) (.tmp 43) rfl (w.heap.size + 1 + 1) 0 #[.int .i64 d.me, .int .i64 d.far, .slice p xs.length c, .slice po os.length co] rfl rfl HTH.out (infoDC rfl) (all_oneCell_toArray (by intro u hu; simp at hu; rcases hu with rfl | rfl | rfl | rfl <;> rfl)) ?_
   generalize (w2.setCells (w.heap.size + 1 + 1) 0 (#[.int .i64 d.me, .int .i64 d.far, .slice p xs.length c, .slice po os.length co] : Array Value).toList) = WR at *
   clear HTH
   go_wp2_with fail
   have hfr := Hr3.out
   refine bodyPost_ret (v := .tuple #[.agg #[.int .i64 d.me, .int .i64 d.far, .slice p xs.length c, .slice po os.length co], .slice none 0 0, .int .i64 140]) (by simp [results, Try.results40, go_sem, hfr.cell 0, hfr.cell 1, hfr.cell 2, hfr.cell 3]) rfl ⟨_, _, _, _, _, _, _, rfl, (HD.out.kept HB3.out).imp (fun b h => .inl h.1), OwnT.nil_ _ _ _ _, HB3.out⟩
 ·skip
  have hE1 : (E != 0) = true := by simpa using hE0
  go_upto_region 4 with fail
  obtain rfl : R = (d, [], E) := by
   rw [← HA.out]
   have h1 : proI d m fro = (itm0, E) := by unfold proI; rw [if_pos (by rw [HE.out]; exact hE0), HE.out]
   rw [h1]
   exact beh_err hE0
  have a0 : w2.cell? ⟨w.heap.size, 0, none⟩ = some (.int .i64 d.me) := Hd2.out.cell 0
  have a1 : w2.cell? ⟨w.heap.size, 1, none⟩ = some (.int .i64 d.far) := Hd2.out.cell 1
  have a2 : w2.cell? ⟨w.heap.size, 2, none⟩ = some (.slice p xs.length c) := Hd2.out.cell 2
  have a3 : w2.cell? ⟨w.heap.size, 3, none⟩ = some (.slice po os.length co) := Hd2.out.cell 3
  go_wp2_with (with_reducible refine stop_storeT 34 (.tmp 6) (.tmp 29) rfl ?_)
  clear a0 a1 a2 a3
  have HTH : Hid (w2.there (w.heap.size + 1 + 1) 0 4) := Hr2.out.thereAt
  have hch : Hid (Chg (w.heap.size + 1 + 1) w2 (w2.setCells (w.heap.size + 1 + 1) 0 (#[.int .i64 d.me, .int .i64 d.far, .slice p xs.length c, .slice po os.length co] : Array Value).toList)) := Lib.hid (chg_putL _ _ _ _ _ (Chg.refl _ w2))
  have Hr3 : Hid (Blk (w2.setCells (w.heap.size + 1 + 1) 0 (#[.int .i64 d.me, .int .i64 d.far, .slice p xs.length c, .slice po os.length co] : Array Value).toList) (w.heap.size + 1 + 1) #[.int .i64 d.me, .int .i64 d.far, .slice p xs.length c, .slice po os.length co] 34) := Lib.hid (blk_put_all Hr2.out _ rfl)
  have HB3 : Hid (Below w.heap.size w (w2.setCells (w.heap.size + 1 + 1) 0 (#[.int .i64 d.me, .int .i64 d.far, .slice p xs.length c, .slice po os.length co] : Array Value).toList)) := Lib.hid (below_put (by have := HGgx.out; omega) _ _ _ _ HB2.out)
  have HZ3 := kzq HZ2 hch.out.size
  have Hd3 := kcq Hd2 hch (by have := HGgx.out; omega)
  have Hm3 := kcq Hm2 hch (by have := HGgx.out; omega)
  have Hx3 := kcq Hx2 hch (by have := HGgx.out; omega)
  clear hch Hd2 Hm2 Hr2 Hx2 HB2 HZ2
  refine wpList_store_mid rfl 34 (.tmp 6) (.tmp 29) rfl (w.heap.size + 1 + 1) 0 #[.int .i64 d.me, .int .i64 d.far, .slice p xs.length c, .slice po os.length co] rfl rfl HTH.out (infoDC rfl) (all_oneCell_toArray (by intro u hu; simp at hu; rcases hu with rfl | rfl | rfl | rfl <;> rfl)) ?_
  generalize (w2.setCells (w.heap.size + 1 + 1) 0 (#[.int .i64 d.me, .int .i64 d.far, .slice p xs.length c, .slice po os.length co] : Array Value).toList) = WR at *
  clear HTH
  go_wp2_with fail
  have hfr := Hr3.out
  refine bodyPost_ret (v := .tuple #[.agg #[.int .i64 d.me, .int .i64 d.far, .slice p xs.length c, .slice po os.length co], .slice none 0 0, .int .i64 E]) (by simp [results, Try.results40, go_sem, hfr.cell 0, hfr.cell 1, hfr.cell 2, hfr.cell 3]) rfl ⟨_, _, _, _, _, _, _, rfl, (HD.out.kept HB3.out).imp (fun b h => .inl h.1), OwnT.nil_ _ _ _ _, HB3.out⟩
end Go.Proofs.Ytbpfbebebppleaa
namespace Go.Proofs.Ytbpfbebebppleaa
open Go.RowKit
set_option linter.unusedSimpArgs false
def zeroVO14 : Value := .agg #[.int .i64 0, .int .i64 0, .int .i64 0]
theorem eltO14 : EltT encO Try.prog 32 78 zeroVO14 24 := eltT_mk Try.underlying32 (by kernel_rfl)
theorem beh_ok0 {d : Dsk} {x : Itm} {k : Int} {t : Int} (ht : toI d.me x = t) : d.beh (x, 0) [k] = (d.put x, [(t, aboutM k x)], 0) := by
 subst ht
 rfl
set_option linter.unusedSimpArgs false in
set_option maxHeartbeats 4000000 in
set_option maxRecDepth 100000 in
theorem rclient_any (w : World) (P : Nat → Prop) (p po : Option Addr) (c co : Nat) (xs : List Itm) (os : List Ord) (d : Dsk) (m : Msg) (vl vn : Value) (h : DdX P w p c po co xs os d) (hs : SortX d.xs) (ho : SortO d.os) (hok : d.Ok) (hoo : OrdOk d.os) (hn : d.xs.length ≤ 1024) (hno : d.os.length ≤ 1024) (hk : m.k = 1 ∨ m.k = 2 ∨ m.k = 3 ∨ m.k = 4 ∨ m.k = 16) :
  Calls Try.prog 21 #[.agg #[.int .i64 d.me, .int .i64 d.far, .slice p xs.length c, .slice po os.length co], m.v vl vn] w (DPm w P (clientM d m)) := by
 have HKK := Lib.hid hk
 clear hk
 have HD := Lib.hid h.lt
 have HSX := Lib.hid hs
 have HSO := Lib.hid ho
 have HOK := Lib.hid hok
 have HOO := Lib.hid hoo
 have HLN : Hid (xs.length ≤ 1024 ∧ os.length ≤ 1024) := Lib.hid ⟨by rw [h.px.length_eq]; exact hn, by rw [h.po.length_eq]; exact hno⟩
 clear h hs ho hok hoo hn hno
 obtain ⟨R, hR⟩ : ∃ R, clientM d m = R := ⟨_, rfl⟩
 rw [hR]
 have HA := Lib.hid hR
 clear hR
 unfold Msg.v
 have HB0 : Hid (Below w.heap.size w (((w.alloc (.cells #[.int .i64 d.me, .int .i64 d.far, .slice p xs.length c, .slice po os.length co] 34)).alloc (.cells #[.int .i64 m.k, .int .i64 m.s, .int .i64 m.n, .int .i64 m.b, .int .i64 m.c, .int .i64 m.r, .int .i64 m.y, .int .i64 m.a, .bool m.t, vl, vn] 40)).alloc (.cells #[.int .i64 0, .int .i64 0, .slice none 0 0, .slice none 0 0] 34))) := Lib.hid ((((oneB w _).alloc (by simp <;> omega) _).alloc (by simp <;> omega) _))
 have Hd0 : Hid (Blk (((w.alloc (.cells #[.int .i64 d.me, .int .i64 d.far, .slice p xs.length c, .slice po os.length co] 34)).alloc (.cells #[.int .i64 m.k, .int .i64 m.s, .int .i64 m.n, .int .i64 m.b, .int .i64 m.c, .int .i64 m.r, .int .i64 m.y, .int .i64 m.a, .bool m.t, vl, vn] 40)).alloc (.cells #[.int .i64 0, .int .i64 0, .slice none 0 0, .slice none 0 0] 34)) w.heap.size #[.int .i64 d.me, .int .i64 d.far, .slice p xs.length c, .slice po os.length co] 34) := Lib.hid (((Blk.new w #[.int .i64 d.me, .int .i64 d.far, .slice p xs.length c, .slice po os.length co] 34).alloc _).alloc _)
 have Hm0 : Hid (Blk (((w.alloc (.cells #[.int .i64 d.me, .int .i64 d.far, .slice p xs.length c, .slice po os.length co] 34)).alloc (.cells #[.int .i64 m.k, .int .i64 m.s, .int .i64 m.n, .int .i64 m.b, .int .i64 m.c, .int .i64 m.r, .int .i64 m.y, .int .i64 m.a, .bool m.t, vl, vn] 40)).alloc (.cells #[.int .i64 0, .int .i64 0, .slice none 0 0, .slice none 0 0] 34)) (w.heap.size + 1) #[.int .i64 m.k, .int .i64 m.s, .int .i64 m.n, .int .i64 m.b, .int .i64 m.c, .int .i64 m.r, .int .i64 m.y, .int .i64 m.a, .bool m.t, vl, vn] 40) := Lib.hid ((Blk.new' (w.alloc (.cells #[.int .i64 d.me, .int .i64 d.far, .slice p xs.length c, .slice po os.length co] 34)) #[.int .i64 m.k, .int .i64 m.s, .int .i64 m.n, .int .i64 m.b, .int .i64 m.c, .int .i64 m.r, .int .i64 m.y, .int .i64 m.a, .bool m.t, vl, vn] 40 (by simp)).alloc _)
 have Hr0 : Hid (Blk (((w.alloc (.cells #[.int .i64 d.me, .int .i64 d.far, .slice p xs.length c, .slice po os.length co] 34)).alloc (.cells #[.int .i64 m.k, .int .i64 m.s, .int .i64 m.n, .int .i64 m.b, .int .i64 m.c, .int .i64 m.r, .int .i64 m.y, .int .i64 m.a, .bool m.t, vl, vn] 40)).alloc (.cells #[.int .i64 0, .int .i64 0, .slice none 0 0, .slice none 0 0] 34)) (w.heap.size + 1 + 1) #[.int .i64 0, .int .i64 0, .slice none 0 0, .slice none 0 0] 34) := Lib.hid (Blk.new' ((w.alloc (.cells #[.int .i64 d.me, .int .i64 d.far, .slice p xs.length c, .slice po os.length co] 34)).alloc (.cells #[.int .i64 m.k, .int .i64 m.s, .int .i64 m.n, .int .i64 m.b, .int .i64 m.c, .int .i64 m.r, .int .i64 m.y, .int .i64 m.a, .bool m.t, vl, vn] 40)) #[.int .i64 0, .int .i64 0, .slice none 0 0, .slice none 0 0] 34 (by simp))
 have HZ0 : Hid (w.heap.size ≤ (((w.alloc (.cells #[.int .i64 d.me, .int .i64 d.far, .slice p xs.length c, .slice po os.length co] 34)).alloc (.cells #[.int .i64 m.k, .int .i64 m.s, .int .i64 m.n, .int .i64 m.b, .int .i64 m.c, .int .i64 m.r, .int .i64 m.y, .int .i64 m.a, .bool m.t, vl, vn] 40)).alloc (.cells #[.int .i64 0, .int .i64 0, .slice none 0 0, .slice none 0 0] 34)).heap.size) := Lib.hid HB0.out.size
 go_enter Try.func21, Try.ntmps21
 go_upto_region 1 with fail
 generalize (((w.alloc (.cells #[.int .i64 d.me, .int .i64 d.far, .slice p xs.length c, .slice po os.length co] 34)).alloc (.cells #[.int .i64 m.k, .int .i64 m.s, .int .i64 m.n, .int .i64 m.b, .int .i64 m.c, .int .i64 m.r, .int .i64 m.y, .int .i64 m.a, .bool m.t, vl, vn] 40)).alloc (.cells #[.int .i64 0, .int .i64 0, .slice none 0 0, .slice none 0 0] 34)) = W at *
 have HWL : Hid (w.heap.size + 1 + 1 < W.heap.size) := Lib.hid Hr0.out.lt
 have m0 : W.cell? ⟨(w.heap.size + 1), 0, none⟩ = some (.int .i64 m.k) := Hm0.out.cell 0
 by_cases hk2 : m.k = 2
 ·skip
  have hk3 : (m.k == 2) = true := by simpa using hk2
  have HK2 := Lib.hid hk2
  clear hk2
  go_upto_region 2 with fail
  clear hk3 m0
  have m1 : W.cell? ⟨(w.heap.size + 1), 1, none⟩ = some (.int .i64 m.s) := Hm0.out.cell 1
  have m2 : W.cell? ⟨(w.heap.size + 1), 2, none⟩ = some (.int .i64 m.n) := Hm0.out.cell 2
  have m7 : W.cell? ⟨(w.heap.size + 1), 7, none⟩ = some (.int .i64 m.a) := Hm0.out.cell 7
  have a0 : W.cell? ⟨w.heap.size, 0, none⟩ = some (.int .i64 d.me) := Hd0.out.cell 0
  by_cases hc0 : m.s < 0
  ·skip
   have HB9 : Hid (m.s < 0) := Lib.hid hc0
   go_upto_region 3 with fail
   clear hc0 m1 m2 m7 a0
   obtain rfl : R = (d, [], 1) := by
    rw [← HA.out]
    have h9 : expO d.me d.os m.s m.n m.a = (d.os, 1) := by unfold expO; rw [if_neg (by rintro ⟨⟨h1, h2, _, h3, h4⟩, h5, h6⟩; have := HB9.out; omega)]
    unfold clientM
    rw [if_neg (by rw [HK2.out]; decide), if_pos HK2.out, h9]
    unfold Dsk.exp
    rw [h9]
   have a0 : W.cell? ⟨w.heap.size, 0, none⟩ = some (.int .i64 d.me) := Hd0.out.cell 0
   have a1 : W.cell? ⟨w.heap.size, 1, none⟩ = some (.int .i64 d.far) := Hd0.out.cell 1
   have a2 : W.cell? ⟨w.heap.size, 2, none⟩ = some (.slice p xs.length c) := Hd0.out.cell 2
   have a3 : W.cell? ⟨w.heap.size, 3, none⟩ = some (.slice po os.length co) := Hd0.out.cell 3
   go_wp2_with (with_reducible refine stop_storeT 34 (.tmp 4) (.tmp 60) rfl ?_)
   clear a0 a1 a2 a3
   have HTH : Hid (W.there (w.heap.size + 1 + 1) 0 4) := Hr0.out.thereAt
   have hch : Hid (Chg (w.heap.size + 1 + 1) W (W.setCells (w.heap.size + 1 + 1) 0 (#[.int .i64 d.me, .int .i64 d.far, .slice p xs.length c, .slice po os.length co] : Array Value).toList)) := Lib.hid (chg_putL _ _ _ _ _ (Chg.refl _ W))
   have Hr1 : Hid (Blk (W.setCells (w.heap.size + 1 + 1) 0 (#[.int .i64 d.me, .int .i64 d.far, .slice p xs.length c, .slice po os.length co] : Array Value).toList) (w.heap.size + 1 + 1) #[.int .i64 d.me, .int .i64 d.far, .slice p xs.length c, .slice po os.length co] 34) := Lib.hid (blk_put_all Hr0.out _ rfl)
   have HB1 : Hid (Below w.heap.size w (W.setCells (w.heap.size + 1 + 1) 0 (#[.int .i64 d.me, .int .i64 d.far, .slice p xs.length c, .slice po os.length co] : Array Value).toList)) := Lib.hid (below_put (by omega) _ _ _ _ HB0.out)
   have HZ1 := kzq HZ0 hch.out.size
   have Hd1 := kcq Hd0 hch (by omega)
   have Hm1 := kcq Hm0 hch (by omega)
   clear hch Hd0 Hm0 Hr0 HB0 HZ0
   refine wpList_store_mid rfl 34 (.tmp 4) (.tmp 60) rfl (w.heap.size + 1 + 1) 0 #[.int .i64 d.me, .int .i64 d.far, .slice p xs.length c, .slice po os.length co] rfl rfl HTH.out (infoDC rfl) (all_oneCell_toArray (by intro u hu; simp at hu; rcases hu with rfl | rfl | rfl | rfl <;> rfl)) ?_
   generalize (W.setCells (w.heap.size + 1 + 1) 0 (#[.int .i64 d.me, .int .i64 d.far, .slice p xs.length c, .slice po os.length co] : Array Value).toList) = WR at *
   clear HTH
   go_wp2_with fail
   have hfr := Hr1.out
   refine bodyPost_ret (v := .tuple #[.agg #[.int .i64 d.me, .int .i64 d.far, .slice p xs.length c, .slice po os.length co], .slice none 0 0, .int .i64 1]) (by simp [results, Try.results21, go_sem, hfr.cell 0, hfr.cell 1, hfr.cell 2, hfr.cell 3]) rfl ⟨_, _, _, _, _, _, _, rfl, (HD.out.kept HB1.out).imp (fun b h => .inl h.1), OwnT.nil_ _ _ _ _, HB1.out⟩
  ·skip
   by_cases hc1 : (7 : Int) < m.s
   ·skip
    have HB9 : Hid ((7 : Int) < m.s) := Lib.hid hc1
    go_upto_region 3 with fail
    clear hc0 hc1 m1 m2 m7 a0
    obtain rfl : R = (d, [], 1) := by
     rw [← HA.out]
     have h9 : expO d.me d.os m.s m.n m.a = (d.os, 1) := by unfold expO; rw [if_neg (by rintro ⟨⟨h1, h2, _, h3, h4⟩, h5, h6⟩; have := HB9.out; omega)]
     unfold clientM
     rw [if_neg (by rw [HK2.out]; decide), if_pos HK2.out, h9]
     unfold Dsk.exp
     rw [h9]
    have a0 : W.cell? ⟨w.heap.size, 0, none⟩ = some (.int .i64 d.me) := Hd0.out.cell 0
    have a1 : W.cell? ⟨w.heap.size, 1, none⟩ = some (.int .i64 d.far) := Hd0.out.cell 1
    have a2 : W.cell? ⟨w.heap.size, 2, none⟩ = some (.slice p xs.length c) := Hd0.out.cell 2
    have a3 : W.cell? ⟨w.heap.size, 3, none⟩ = some (.slice po os.length co) := Hd0.out.cell 3
    go_wp2_with (with_reducible refine stop_storeT 34 (.tmp 4) (.tmp 60) rfl ?_)
    clear a0 a1 a2 a3
    have HTH : Hid (W.there (w.heap.size + 1 + 1) 0 4) := Hr0.out.thereAt
    have hch : Hid (Chg (w.heap.size + 1 + 1) W (W.setCells (w.heap.size + 1 + 1) 0 (#[.int .i64 d.me, .int .i64 d.far, .slice p xs.length c, .slice po os.length co] : Array Value).toList)) := Lib.hid (chg_putL _ _ _ _ _ (Chg.refl _ W))
    have Hr1 : Hid (Blk (W.setCells (w.heap.size + 1 + 1) 0 (#[.int .i64 d.me, .int .i64 d.far, .slice p xs.length c, .slice po os.length co] : Array Value).toList) (w.heap.size + 1 + 1) #[.int .i64 d.me, .int .i64 d.far, .slice p xs.length c, .slice po os.length co] 34) := Lib.hid (blk_put_all Hr0.out _ rfl)
    have HB1 : Hid (Below w.heap.size w (W.setCells (w.heap.size + 1 + 1) 0 (#[.int .i64 d.me, .int .i64 d.far, .slice p xs.length c, .slice po os.length co] : Array Value).toList)) := Lib.hid (below_put (by omega) _ _ _ _ HB0.out)
    have HZ1 := kzq HZ0 hch.out.size
    have Hd1 := kcq Hd0 hch (by omega)
    have Hm1 := kcq Hm0 hch (by omega)
    clear hch Hd0 Hm0 Hr0 HB0 HZ0
    refine wpList_store_mid rfl 34 (.tmp 4) (.tmp 60) rfl (w.heap.size + 1 + 1) 0 #[.int .i64 d.me, .int .i64 d.far, .slice p xs.length c, .slice po os.length co] rfl rfl HTH.out (infoDC rfl) (all_oneCell_toArray (by intro u hu; simp at hu; rcases hu with rfl | rfl | rfl | rfl <;> rfl)) ?_
    generalize (W.setCells (w.heap.size + 1 + 1) 0 (#[.int .i64 d.me, .int .i64 d.far, .slice p xs.length c, .slice po os.length co] : Array Value).toList) = WR at *
    clear HTH
    go_wp2_with fail
    have hfr := Hr1.out
    refine bodyPost_ret (v := .tuple #[.agg #[.int .i64 d.me, .int .i64 d.far, .slice p xs.length c, .slice po os.length co], .slice none 0 0, .int .i64 1]) (by simp [results, Try.results21, go_sem, hfr.cell 0, hfr.cell 1, hfr.cell 2, hfr.cell 3]) rfl ⟨_, _, _, _, _, _, _, rfl, (HD.out.kept HB1.out).imp (fun b h => .inl h.1), OwnT.nil_ _ _ _ _, HB1.out⟩
   ·skip
    by_cases hc2 : m.s = d.me
    ·skip
     have hc2q : (m.s == d.me) = true := by simpa using hc2
     have HB9 : Hid (m.s = d.me) := Lib.hid hc2
     go_upto_region 3 with fail
     clear hc0 hc1 hc2 hc2q m1 m2 m7 a0
     obtain rfl : R = (d, [], 1) := by
      rw [← HA.out]
      have h9 : expO d.me d.os m.s m.n m.a = (d.os, 1) := by unfold expO; rw [if_neg (by rintro ⟨⟨_, _, h3, _⟩, _⟩; exact h3 HB9.out)]
      unfold clientM
      rw [if_neg (by rw [HK2.out]; decide), if_pos HK2.out, h9]
      unfold Dsk.exp
      rw [h9]
     have a0 : W.cell? ⟨w.heap.size, 0, none⟩ = some (.int .i64 d.me) := Hd0.out.cell 0
     have a1 : W.cell? ⟨w.heap.size, 1, none⟩ = some (.int .i64 d.far) := Hd0.out.cell 1
     have a2 : W.cell? ⟨w.heap.size, 2, none⟩ = some (.slice p xs.length c) := Hd0.out.cell 2
     have a3 : W.cell? ⟨w.heap.size, 3, none⟩ = some (.slice po os.length co) := Hd0.out.cell 3
     go_wp2_with (with_reducible refine stop_storeT 34 (.tmp 4) (.tmp 60) rfl ?_)
     clear a0 a1 a2 a3
     have HTH : Hid (W.there (w.heap.size + 1 + 1) 0 4) := Hr0.out.thereAt
     have hch : Hid (Chg (w.heap.size + 1 + 1) W (W.setCells (w.heap.size + 1 + 1) 0 (#[.int .i64 d.me, .int .i64 d.far, .slice p xs.length c, .slice po os.length co] : Array Value).toList)) := Lib.hid (chg_putL _ _ _ _ _ (Chg.refl _ W))
     have Hr1 : Hid (Blk (W.setCells (w.heap.size + 1 + 1) 0 (#[.int .i64 d.me, .int .i64 d.far, .slice p xs.length c, .slice po os.length co] : Array Value).toList) (w.heap.size + 1 + 1) #[.int .i64 d.me, .int .i64 d.far, .slice p xs.length c, .slice po os.length co] 34) := Lib.hid (blk_put_all Hr0.out _ rfl)
     have HB1 : Hid (Below w.heap.size w (W.setCells (w.heap.size + 1 + 1) 0 (#[.int .i64 d.me, .int .i64 d.far, .slice p xs.length c, .slice po os.length co] : Array Value).toList)) := Lib.hid (below_put (by omega) _ _ _ _ HB0.out)
     have HZ1 := kzq HZ0 hch.out.size
     have Hd1 := kcq Hd0 hch (by omega)
     have Hm1 := kcq Hm0 hch (by omega)
     clear hch Hd0 Hm0 Hr0 HB0 HZ0
     refine wpList_store_mid rfl 34 (.tmp 4) (.tmp 60) rfl (w.heap.size + 1 + 1) 0 #[.int .i64 d.me, .int .i64 d.far, .slice p xs.length c, .slice po os.length co] rfl rfl HTH.out (infoDC rfl) (all_oneCell_toArray (by intro u hu; simp at hu; rcases hu with rfl | rfl | rfl | rfl <;> rfl)) ?_
     generalize (W.setCells (w.heap.size + 1 + 1) 0 (#[.int .i64 d.me, .int .i64 d.far, .slice p xs.length c, .slice po os.length co] : Array Value).toList) = WR at *
     clear HTH
     go_wp2_with fail
     have hfr := Hr1.out
     refine bodyPost_ret (v := .tuple #[.agg #[.int .i64 d.me, .int .i64 d.far, .slice p xs.length c, .slice po os.length co], .slice none 0 0, .int .i64 1]) (by simp [results, Try.results21, go_sem, hfr.cell 0, hfr.cell 1, hfr.cell 2, hfr.cell 3]) rfl ⟨_, _, _, _, _, _, _, rfl, (HD.out.kept HB1.out).imp (fun b h => .inl h.1), OwnT.nil_ _ _ _ _, HB1.out⟩
    ·skip
     have hc2q : (m.s == d.me) = false := by simpa using hc2
     by_cases hc3 : m.n < 1
     ·skip
      have HB9 : Hid (m.n < 1) := Lib.hid hc3
      go_upto_region 3 with fail
      clear hc0 hc1 hc2 hc2q hc3 m1 m2 m7 a0
      obtain rfl : R = (d, [], 1) := by
       rw [← HA.out]
       have h9 : expO d.me d.os m.s m.n m.a = (d.os, 1) := by unfold expO; rw [if_neg (by rintro ⟨⟨h1, h2, _, h3, h4⟩, h5, h6⟩; have := HB9.out; omega)]
       unfold clientM
       rw [if_neg (by rw [HK2.out]; decide), if_pos HK2.out, h9]
       unfold Dsk.exp
       rw [h9]
      have a0 : W.cell? ⟨w.heap.size, 0, none⟩ = some (.int .i64 d.me) := Hd0.out.cell 0
      have a1 : W.cell? ⟨w.heap.size, 1, none⟩ = some (.int .i64 d.far) := Hd0.out.cell 1
      have a2 : W.cell? ⟨w.heap.size, 2, none⟩ = some (.slice p xs.length c) := Hd0.out.cell 2
      have a3 : W.cell? ⟨w.heap.size, 3, none⟩ = some (.slice po os.length co) := Hd0.out.cell 3
      go_wp2_with (with_reducible refine stop_storeT 34 (.tmp 4) (.tmp 60) rfl ?_)
      clear a0 a1 a2 a3
      have HTH : Hid (W.there (w.heap.size + 1 + 1) 0 4) := Hr0.out.thereAt
      have hch : Hid (Chg (w.heap.size + 1 + 1) W (W.setCells (w.heap.size + 1 + 1) 0 (#[.int .i64 d.me, .int .i64 d.far, .slice p xs.length c, .slice po os.length co] : Array Value).toList)) := Lib.hid (chg_putL _ _ _ _ _ (Chg.refl _ W))
      have Hr1 : Hid (Blk (W.setCells (w.heap.size + 1 + 1) 0 (#[.int .i64 d.me, .int .i64 d.far, .slice p xs.length c, .slice po os.length co] : Array Value).toList) (w.heap.size + 1 + 1) #[.int .i64 d.me, .int .i64 d.far, .slice p xs.length c, .slice po os.length co] 34) := Lib.hid (blk_put_all Hr0.out _ rfl)
      have HB1 : Hid (Below w.heap.size w (W.setCells (w.heap.size + 1 + 1) 0 (#[.int .i64 d.me, .int .i64 d.far, .slice p xs.length c, .slice po os.length co] : Array Value).toList)) := Lib.hid (below_put (by omega) _ _ _ _ HB0.out)
      have HZ1 := kzq HZ0 hch.out.size
      have Hd1 := kcq Hd0 hch (by omega)
      have Hm1 := kcq Hm0 hch (by omega)
      clear hch Hd0 Hm0 Hr0 HB0 HZ0
      refine wpList_store_mid rfl 34 (.tmp 4) (.tmp 60) rfl (w.heap.size + 1 + 1) 0 #[.int .i64 d.me, .int .i64 d.far, .slice p xs.length c, .slice po os.length co] rfl rfl HTH.out (infoDC rfl) (all_oneCell_toArray (by intro u hu; simp at hu; rcases hu with rfl | rfl | rfl | rfl <;> rfl)) ?_
      generalize (W.setCells (w.heap.size + 1 + 1) 0 (#[.int .i64 d.me, .int .i64 d.far, .slice p xs.length c, .slice po os.length co] : Array Value).toList) = WR at *
      clear HTH
      go_wp2_with fail
      have hfr := Hr1.out
      refine bodyPost_ret (v := .tuple #[.agg #[.int .i64 d.me, .int .i64 d.far, .slice p xs.length c, .slice po os.length co], .slice none 0 0, .int .i64 1]) (by simp [results, Try.results21, go_sem, hfr.cell 0, hfr.cell 1, hfr.cell 2, hfr.cell 3]) rfl ⟨_, _, _, _, _, _, _, rfl, (HD.out.kept HB1.out).imp (fun b h => .inl h.1), OwnT.nil_ _ _ _ _, HB1.out⟩
     ·skip
      by_cases hc4 : (1048576 : Int) < m.n
      ·skip
       have HB9 : Hid ((1048576 : Int) < m.n) := Lib.hid hc4
       go_upto_region 3 with fail
       clear hc0 hc1 hc2 hc2q hc3 hc4 m1 m2 m7 a0
       obtain rfl : R = (d, [], 1) := by
        rw [← HA.out]
        have h9 : expO d.me d.os m.s m.n m.a = (d.os, 1) := by unfold expO; rw [if_neg (by rintro ⟨⟨h1, h2, _, h3, h4⟩, h5, h6⟩; have := HB9.out; omega)]
        unfold clientM
        rw [if_neg (by rw [HK2.out]; decide), if_pos HK2.out, h9]
        unfold Dsk.exp
        rw [h9]
       have a0 : W.cell? ⟨w.heap.size, 0, none⟩ = some (.int .i64 d.me) := Hd0.out.cell 0
       have a1 : W.cell? ⟨w.heap.size, 1, none⟩ = some (.int .i64 d.far) := Hd0.out.cell 1
       have a2 : W.cell? ⟨w.heap.size, 2, none⟩ = some (.slice p xs.length c) := Hd0.out.cell 2
       have a3 : W.cell? ⟨w.heap.size, 3, none⟩ = some (.slice po os.length co) := Hd0.out.cell 3
       go_wp2_with (with_reducible refine stop_storeT 34 (.tmp 4) (.tmp 60) rfl ?_)
       clear a0 a1 a2 a3
       have HTH : Hid (W.there (w.heap.size + 1 + 1) 0 4) := Hr0.out.thereAt
       have hch : Hid (Chg (w.heap.size + 1 + 1) W (W.setCells (w.heap.size + 1 + 1) 0 (#[.int .i64 d.me, .int .i64 d.far, .slice p xs.length c, .slice po os.length co] : Array Value).toList)) := Lib.hid (chg_putL _ _ _ _ _ (Chg.refl _ W))
       have Hr1 : Hid (Blk (W.setCells (w.heap.size + 1 + 1) 0 (#[.int .i64 d.me, .int .i64 d.far, .slice p xs.length c, .slice po os.length co] : Array Value).toList) (w.heap.size + 1 + 1) #[.int .i64 d.me, .int .i64 d.far, .slice p xs.length c, .slice po os.length co] 34) := Lib.hid (blk_put_all Hr0.out _ rfl)
       have HB1 : Hid (Below w.heap.size w (W.setCells (w.heap.size + 1 + 1) 0 (#[.int .i64 d.me, .int .i64 d.far, .slice p xs.length c, .slice po os.length co] : Array Value).toList)) := Lib.hid (below_put (by omega) _ _ _ _ HB0.out)
       have HZ1 := kzq HZ0 hch.out.size
       have Hd1 := kcq Hd0 hch (by omega)
       have Hm1 := kcq Hm0 hch (by omega)
       clear hch Hd0 Hm0 Hr0 HB0 HZ0
       refine wpList_store_mid rfl 34 (.tmp 4) (.tmp 60) rfl (w.heap.size + 1 + 1) 0 #[.int .i64 d.me, .int .i64 d.far, .slice p xs.length c, .slice po os.length co] rfl rfl HTH.out (infoDC rfl) (all_oneCell_toArray (by intro u hu; simp at hu; rcases hu with rfl | rfl | rfl | rfl <;> rfl)) ?_
       generalize (W.setCells (w.heap.size + 1 + 1) 0 (#[.int .i64 d.me, .int .i64 d.far, .slice p xs.length c, .slice po os.length co] : Array Value).toList) = WR at *
       clear HTH
       go_wp2_with fail
       have hfr := Hr1.out
       refine bodyPost_ret (v := .tuple #[.agg #[.int .i64 d.me, .int .i64 d.far, .slice p xs.length c, .slice po os.length co], .slice none 0 0, .int .i64 1]) (by simp [results, Try.results21, go_sem, hfr.cell 0, hfr.cell 1, hfr.cell 2, hfr.cell 3]) rfl ⟨_, _, _, _, _, _, _, rfl, (HD.out.kept HB1.out).imp (fun b h => .inl h.1), OwnT.nil_ _ _ _ _, HB1.out⟩
      ·skip
       by_cases hc5 : m.a < 1
       ·skip
        have HB9 : Hid (m.a < 1) := Lib.hid hc5
        go_upto_region 3 with fail
        clear hc0 hc1 hc2 hc2q hc3 hc4 hc5 m1 m2 m7 a0
        obtain rfl : R = (d, [], 1) := by
         rw [← HA.out]
         have h9 : expO d.me d.os m.s m.n m.a = (d.os, 1) := by unfold expO; rw [if_neg (by rintro ⟨⟨h1, h2, _, h3, h4⟩, h5, h6⟩; have := HB9.out; omega)]
         unfold clientM
         rw [if_neg (by rw [HK2.out]; decide), if_pos HK2.out, h9]
         unfold Dsk.exp
         rw [h9]
        have a0 : W.cell? ⟨w.heap.size, 0, none⟩ = some (.int .i64 d.me) := Hd0.out.cell 0
        have a1 : W.cell? ⟨w.heap.size, 1, none⟩ = some (.int .i64 d.far) := Hd0.out.cell 1
        have a2 : W.cell? ⟨w.heap.size, 2, none⟩ = some (.slice p xs.length c) := Hd0.out.cell 2
        have a3 : W.cell? ⟨w.heap.size, 3, none⟩ = some (.slice po os.length co) := Hd0.out.cell 3
        go_wp2_with (with_reducible refine stop_storeT 34 (.tmp 4) (.tmp 60) rfl ?_)
        clear a0 a1 a2 a3
        have HTH : Hid (W.there (w.heap.size + 1 + 1) 0 4) := Hr0.out.thereAt
        have hch : Hid (Chg (w.heap.size + 1 + 1) W (W.setCells (w.heap.size + 1 + 1) 0 (#[.int .i64 d.me, .int .i64 d.far, .slice p xs.length c, .slice po os.length co] : Array Value).toList)) := Lib.hid (chg_putL _ _ _ _ _ (Chg.refl _ W))
        have Hr1 : Hid (Blk (W.setCells (w.heap.size + 1 + 1) 0 (#[.int .i64 d.me, .int .i64 d.far, .slice p xs.length c, .slice po os.length co] : Array Value).toList) (w.heap.size + 1 + 1) #[.int .i64 d.me, .int .i64 d.far, .slice p xs.length c, .slice po os.length co] 34) := Lib.hid (blk_put_all Hr0.out _ rfl)
        have HB1 : Hid (Below w.heap.size w (W.setCells (w.heap.size + 1 + 1) 0 (#[.int .i64 d.me, .int .i64 d.far, .slice p xs.length c, .slice po os.length co] : Array Value).toList)) := Lib.hid (below_put (by omega) _ _ _ _ HB0.out)
        have HZ1 := kzq HZ0 hch.out.size
        have Hd1 := kcq Hd0 hch (by omega)
        have Hm1 := kcq Hm0 hch (by omega)
        clear hch Hd0 Hm0 Hr0 HB0 HZ0
        refine wpList_store_mid rfl 34 (.tmp 4) (.tmp 60) rfl (w.heap.size + 1 + 1) 0 #[.int .i64 d.me, .int .i64 d.far, .slice p xs.length c, .slice po os.length co] rfl rfl HTH.out (infoDC rfl) (all_oneCell_toArray (by intro u hu; simp at hu; rcases hu with rfl | rfl | rfl | rfl <;> rfl)) ?_
        generalize (W.setCells (w.heap.size + 1 + 1) 0 (#[.int .i64 d.me, .int .i64 d.far, .slice p xs.length c, .slice po os.length co] : Array Value).toList) = WR at *
        clear HTH
        go_wp2_with fail
        have hfr := Hr1.out
        refine bodyPost_ret (v := .tuple #[.agg #[.int .i64 d.me, .int .i64 d.far, .slice p xs.length c, .slice po os.length co], .slice none 0 0, .int .i64 1]) (by simp [results, Try.results21, go_sem, hfr.cell 0, hfr.cell 1, hfr.cell 2, hfr.cell 3]) rfl ⟨_, _, _, _, _, _, _, rfl, (HD.out.kept HB1.out).imp (fun b h => .inl h.1), OwnT.nil_ _ _ _ _, HB1.out⟩
       ·skip
        by_cases hc6 : (1125899906842624 : Int) < m.a
        ·skip
         have HB9 : Hid ((1125899906842624 : Int) < m.a) := Lib.hid hc6
         go_upto_region 3 with fail
         clear hc0 hc1 hc2 hc2q hc3 hc4 hc5 hc6 m1 m2 m7 a0
         obtain rfl : R = (d, [], 1) := by
          rw [← HA.out]
          have h9 : expO d.me d.os m.s m.n m.a = (d.os, 1) := by unfold expO; rw [if_neg (by rintro ⟨⟨h1, h2, _, h3, h4⟩, h5, h6⟩; have := HB9.out; omega)]
          unfold clientM
          rw [if_neg (by rw [HK2.out]; decide), if_pos HK2.out, h9]
          unfold Dsk.exp
          rw [h9]
         have a0 : W.cell? ⟨w.heap.size, 0, none⟩ = some (.int .i64 d.me) := Hd0.out.cell 0
         have a1 : W.cell? ⟨w.heap.size, 1, none⟩ = some (.int .i64 d.far) := Hd0.out.cell 1
         have a2 : W.cell? ⟨w.heap.size, 2, none⟩ = some (.slice p xs.length c) := Hd0.out.cell 2
         have a3 : W.cell? ⟨w.heap.size, 3, none⟩ = some (.slice po os.length co) := Hd0.out.cell 3
         go_wp2_with (with_reducible refine stop_storeT 34 (.tmp 4) (.tmp 60) rfl ?_)
         clear a0 a1 a2 a3
         have HTH : Hid (W.there (w.heap.size + 1 + 1) 0 4) := Hr0.out.thereAt
         have hch : Hid (Chg (w.heap.size + 1 + 1) W (W.setCells (w.heap.size + 1 + 1) 0 (#[.int .i64 d.me, .int .i64 d.far, .slice p xs.length c, .slice po os.length co] : Array Value).toList)) := Lib.hid (chg_putL _ _ _ _ _ (Chg.refl _ W))
         have Hr1 : Hid (Blk (W.setCells (w.heap.size + 1 + 1) 0 (#[.int .i64 d.me, .int .i64 d.far, .slice p xs.length c, .slice po os.length co] : Array Value).toList) (w.heap.size + 1 + 1) #[.int .i64 d.me, .int .i64 d.far, .slice p xs.length c, .slice po os.length co] 34) := Lib.hid (blk_put_all Hr0.out _ rfl)
         have HB1 : Hid (Below w.heap.size w (W.setCells (w.heap.size + 1 + 1) 0 (#[.int .i64 d.me, .int .i64 d.far, .slice p xs.length c, .slice po os.length co] : Array Value).toList)) := Lib.hid (below_put (by omega) _ _ _ _ HB0.out)
         have HZ1 := kzq HZ0 hch.out.size
         have Hd1 := kcq Hd0 hch (by omega)
         have Hm1 := kcq Hm0 hch (by omega)
         clear hch Hd0 Hm0 Hr0 HB0 HZ0
         refine wpList_store_mid rfl 34 (.tmp 4) (.tmp 60) rfl (w.heap.size + 1 + 1) 0 #[.int .i64 d.me, .int .i64 d.far, .slice p xs.length c, .slice po os.length co] rfl rfl HTH.out (infoDC rfl) (all_oneCell_toArray (by intro u hu; simp at hu; rcases hu with rfl | rfl | rfl | rfl <;> rfl)) ?_
         generalize (W.setCells (w.heap.size + 1 + 1) 0 (#[.int .i64 d.me, .int .i64 d.far, .slice p xs.length c, .slice po os.length co] : Array Value).toList) = WR at *
         clear HTH
         go_wp2_with fail
         have hfr := Hr1.out
         refine bodyPost_ret (v := .tuple #[.agg #[.int .i64 d.me, .int .i64 d.far, .slice p xs.length c, .slice po os.length co], .slice none 0 0, .int .i64 1]) (by simp [results, Try.results21, go_sem, hfr.cell 0, hfr.cell 1, hfr.cell 2, hfr.cell 3]) rfl ⟨_, _, _, _, _, _, _, rfl, (HD.out.kept HB1.out).imp (fun b h => .inl h.1), OwnT.nil_ _ _ _ _, HB1.out⟩
        ·skip
         have HBY : Hid (buysOk d.me m.s m.n ∧ 1 ≤ m.a ∧ m.a ≤ 1125899906842624) := Lib.hid ⟨⟨by omega, by omega, by omega, by omega, by omega⟩, by omega, by omega⟩
         go_upto_region 4 with fail
         clear hc0 hc1 hc2 hc2q hc3 hc4 hc5 hc6 m1 m2 m7 a0
         have HREL : Hid (OwnT encO W W.heap.size 78 (.slice none 0 0) ((os.take 0).filter (fun z => decide (¬ (z.s = m.s ∧ z.n = m.n)))) ∧ Below W.heap.size W W) := Lib.hid ⟨OwnT.nil_ _ _ _ _, Below.refl _ _⟩
         go_wp2_with fail
         go_loopw [7, 8] (fun v i wr => ∃ k : Nat, k ≤ os.length ∧ i = .int .i64 k ∧ Hid (OwnT encO wr W.heap.size 78 v ((os.take k).filter (fun z => decide (¬ (z.s = m.s ∧ z.n = m.n)))) ∧ Below W.heap.size W wr)) (fun _ i _ => os.length - (intOf i).toNat)
         case atStart => exact ⟨0, by omega, rfl, HREL⟩
         case round =>
          clear HREL
          obtain ⟨k7, hk, rfl, HK⟩ := hrel
          have hk9 : k7 + 1 ≤ 1025 := by have := HLN.out; omega
          obtain ⟨pz, cz, hvz⟩ := HK.out.1.form
          obtain ⟨nz, hnz⟩ : ∃ nz, ((os.take k7).filter (fun z => decide (¬ (z.s = m.s ∧ z.n = m.n)))).length = nz := ⟨_, rfl⟩
          rw [hnz] at hvz
          subst hvz
          have HNZ : Hid (((os.take k7).filter (fun z => decide (¬ (z.s = m.s ∧ z.n = m.n)))).length = nz ∧ nz ≤ k7) := Lib.hid ⟨hnz, by rw [← hnz]; exact Nat.le_trans (List.length_filter_le ..) (by rw [List.length_take]; omega)⟩
          clear hnz
          have hbk := HK.out.2
          have Hd1 := kbq Hd0 hbk
          have Hm1 := kbq Hm0 hbk
          have Hr1 := kbq Hr0 hbk
          have HB1 := ktq HB0 hbk
          have HZ1 := kzq HZ0 hbk.size
          clear Hd0 Hm0 Hr0 HB0 HZ0
          clear hbk
          have a3 : wr.cell? ⟨w.heap.size, 3, none⟩ = some (.slice po os.length co) := Hd1.out.cell 3
          by_cases hlt : k7 < os.length
          ·skip
           have hltI : (k7 : Int) < (os.length : Int) := by omega
           obtain ⟨b2, o2, hpe, hbl, hcs⟩ := (HD.out.kept HB1.out).rowo.at_ k7 hlt
           subst hpe
           obtain ⟨od, hod⟩ : ∃ od, os[k7] = od := ⟨_, rfl⟩
           have HOD := Lib.hid hod
           have HLT := Lib.hid hlt
           have HTK : Hid (((os.take (k7 + 1)).filter (fun z => decide (¬ (z.s = m.s ∧ z.n = m.n)))) = ((os.take k7).filter (fun z => decide (¬ (z.s = m.s ∧ z.n = m.n)))) ++ (if od.s = m.s ∧ od.n = m.n then [] else [od])) := Lib.hid (by
            rw [List.take_succ_eq_append_getElem hlt, List.filter_append, hod]
            by_cases h : od.s = m.s ∧ od.n = m.n
            ·rw [if_pos h, List.filter_cons_of_neg (by simp [h])]; rfl
            ·rw [if_neg h, List.filter_cons_of_pos (p := fun z : Ord => decide (¬ (z.s = m.s ∧ z.n = m.n))) (decide_eq_true h)]; rfl)
           clear hbl hcs hod
           have keq := fun (w : World) => cid_eq od.s od.n m.s m.n w
           go_upto_region 8 with fail
           clear a3
           cases hb : (od.s == m.s && od.n == m.n)
           ·skip
            rw [hb] at keq
            have HNE : Hid (¬ (od.s = m.s ∧ od.n = m.n)) := Lib.hid (by simpa using hb)
            clear hb
            have hbd := (Below.refl wr.heap.size wr).drew
            have Hd2 := kbq Hd1 hbd
            have Hm2 := kbq Hm1 hbd
            have Hr2 := kbq Hr1 hbd
            have HB2 := ktq HB1 hbd
            have HZ2 := kzq HZ1 hbd.size
            clear Hd1 Hm1 Hr1 HB1 HZ1
            refine wp_region_held_drew (S := fun w' => w'.cell? ⟨w.heap.size, 0, none⟩ = some (.int .i64 d.me) ∧ w'.cell? ⟨w.heap.size, 1, none⟩ = some (.int .i64 d.far) ∧ w'.cell? ⟨w.heap.size, 2, none⟩ = some (.slice p xs.length c) ∧ w'.cell? ⟨w.heap.size, 3, none⟩ = some (.slice (some ⟨b2, o2, none⟩) os.length co) ∧ w'.cell? ⟨w.heap.size + 1, 0, none⟩ = some (.int .i64 m.k) ∧ w'.cell? ⟨w.heap.size + 1, 1, none⟩ = some (.int .i64 m.s) ∧ w'.cell? ⟨w.heap.size + 1, 2, none⟩ = some (.int .i64 m.n) ∧ w'.cell? ⟨w.heap.size + 1, 3, none⟩ = some (.int .i64 m.b) ∧ w'.cell? ⟨w.heap.size + 1, 4, none⟩ = some (.int .i64 m.c) ∧ w'.cell? ⟨w.heap.size + 1, 5, none⟩ = some (.int .i64 m.r) ∧ w'.cell? ⟨w.heap.size + 1, 6, none⟩ = some (.int .i64 m.y) ∧ w'.cell? ⟨w.heap.size + 1, 7, none⟩ = some (.int .i64 m.a) ∧ w'.cell? ⟨w.heap.size + 1, 8, none⟩ = some (.bool m.t) ∧ w'.cell? ⟨w.heap.size + 1, 9, none⟩ = some (vl) ∧ w'.cell? ⟨w.heap.size + 1, 10, none⟩ = some (vn) ∧ w'.cell? ⟨b2, o2 + k7 * 3, none⟩ = some (.int .i64 od.s) ∧ w'.cell? ⟨b2, o2 + k7 * 3 + 1, none⟩ = some (.int .i64 od.n)) (by kernel_rfl) ⟨Hd2.out.cell 0, Hd2.out.cell 1, Hd2.out.cell 2, Hd2.out.cell 3, Hm2.out.cell 0, Hm2.out.cell 1, Hm2.out.cell 2, Hm2.out.cell 3, Hm2.out.cell 4, Hm2.out.cell 5, Hm2.out.cell 6, Hm2.out.cell 7, Hm2.out.cell 8, Hm2.out.cell 9, Hm2.out.cell 10, trow_cell (HD.out.kept HB2.out).rowo k7 HLT.out HOD.out 0 (by decide), trow_cell (HD.out.kept HB2.out).rowo k7 HLT.out HOD.out 1 (by decide)⟩ (fun hS0 => ?_)
            have HK0 := Lib.hid (And.intro (HK.out.1.later hbd) (HK.out.2.trans (hbd.mono HK.out.2.size)))
            generalize wr.drew = WG at *
            clear hbd
            refine tkq 0 ?_
            refine tkq 1 ?_
            refine tkq 2 ?_
            refine tkq 3 ?_
            refine tkq 4 ?_
            refine tkq 5 ?_
            refine tkq 6 ?_
            refine tkq 7 ?_
            refine tkq 8 ?_
            refine wpAnyH_done (by kernel_rfl) ?_ _
            clear hS0
            clear keq HK
            have a3 : WG.cell? ⟨w.heap.size, 3, none⟩ = some (.slice (some ⟨b2, o2, none⟩) os.length co) := Hd2.out.cell 3
            have c0 : WG.cell? ⟨b2, o2 + k7 * 3, none⟩ = some (.int .i64 od.s) := trow_cell (HD.out.kept HB2.out).rowo k7 HLT.out HOD.out 0 (by decide)
            have c1 : WG.cell? ⟨b2, o2 + k7 * 3 + 1, none⟩ = some (.int .i64 od.n) := trow_cell (HD.out.kept HB2.out).rowo k7 HLT.out HOD.out 1 (by decide)
            have c2 : WG.cell? ⟨b2, o2 + k7 * 3 + 2, none⟩ = some (.int .i64 od.a) := trow_cell (HD.out.kept HB2.out).rowo k7 HLT.out HOD.out 2 (by decide)
            have HBO := Lib.hid (oneB WG (.cells #[.int .i64 od.s, .int .i64 od.n, .int .i64 od.a] 78))
            go_wp2_with (at_builtin; with_reducible refine stop_appendT (.tmp 77) (.tmp 83) 32 rfl ?_)
            clear a3 c0 c1 c2 hltI
            refine wpList_append_t rfl (.tmp 77) (.tmp 83) 32 rfl 78 zeroVO14 24 W.heap.size eltO14 rfl (by decide) (.slice pz nz cz) (.slice (some ⟨WG.heap.size, 0, none⟩) 1 1) ((os.take k7).filter (fun z => decide (¬ (z.s = m.s ∧ z.n = m.n)))) [od] rfl rfl (HK0.out.1.later HBO.out) (TRow.one_ encO od (Blk.new WG #[.int .i64 od.s, .int .i64 od.n, .int .i64 od.a] 78) rfl (Nat.le_refl 1)) (by have := HNZ.out; have := HLN.out; simp only [List.length_singleton]; omega) (by have h1 := HK0.out.2.size; have h2 := HBO.out.size; omega) ((os.take (k7 + 1)).filter (fun z => decide (¬ (z.s = m.s ∧ z.n = m.n)))) (nz + 1) (by rw [HTK.out, if_neg HNE.out]) (by rw [HTK.out, if_neg HNE.out, List.length_append, HNZ.out.1]; rfl) ?_
            intro p8 c8 w8 ho _ hb8
            have HNX : Hid (OwnT encO w8 W.heap.size 78 (.slice p8 (nz + 1) c8) ((os.take (k7 + 1)).filter (fun z => decide (¬ (z.s = m.s ∧ z.n = m.n)))) ∧ Below W.heap.size W w8) := Lib.hid ⟨ho, (HK0.out.2.trans (HBO.out.mono HK0.out.2.size)).trans hb8⟩
            clear ho hb8 HBO HK0 Hd2 Hm2 Hr2 HB2 HZ2
            go_wp2_with fail
            go_roundw
            case rel => exact ⟨k7 + 1, by have := HLT.out; omega, by go_num, HNX⟩
            case measure => have := HLT.out; simp [intOf]; omega
           ·skip
            rw [hb] at keq
            have HNE : Hid (od.s = m.s ∧ od.n = m.n) := Lib.hid (by simpa using hb)
            clear hb
            have hbd := (Below.refl wr.heap.size wr).drew
            have Hd2 := kbq Hd1 hbd
            have Hm2 := kbq Hm1 hbd
            have Hr2 := kbq Hr1 hbd
            have HB2 := ktq HB1 hbd
            have HZ2 := kzq HZ1 hbd.size
            clear Hd1 Hm1 Hr1 HB1 HZ1
            refine wp_region_held_drew (S := fun w' => w'.cell? ⟨w.heap.size, 0, none⟩ = some (.int .i64 d.me) ∧ w'.cell? ⟨w.heap.size, 1, none⟩ = some (.int .i64 d.far) ∧ w'.cell? ⟨w.heap.size, 2, none⟩ = some (.slice p xs.length c) ∧ w'.cell? ⟨w.heap.size, 3, none⟩ = some (.slice (some ⟨b2, o2, none⟩) os.length co) ∧ w'.cell? ⟨w.heap.size + 1, 0, none⟩ = some (.int .i64 m.k) ∧ w'.cell? ⟨w.heap.size + 1, 1, none⟩ = some (.int .i64 m.s) ∧ w'.cell? ⟨w.heap.size + 1, 2, none⟩ = some (.int .i64 m.n) ∧ w'.cell? ⟨w.heap.size + 1, 3, none⟩ = some (.int .i64 m.b) ∧ w'.cell? ⟨w.heap.size + 1, 4, none⟩ = some (.int .i64 m.c) ∧ w'.cell? ⟨w.heap.size + 1, 5, none⟩ = some (.int .i64 m.r) ∧ w'.cell? ⟨w.heap.size + 1, 6, none⟩ = some (.int .i64 m.y) ∧ w'.cell? ⟨w.heap.size + 1, 7, none⟩ = some (.int .i64 m.a) ∧ w'.cell? ⟨w.heap.size + 1, 8, none⟩ = some (.bool m.t) ∧ w'.cell? ⟨w.heap.size + 1, 9, none⟩ = some (vl) ∧ w'.cell? ⟨w.heap.size + 1, 10, none⟩ = some (vn) ∧ w'.cell? ⟨b2, o2 + k7 * 3, none⟩ = some (.int .i64 od.s) ∧ w'.cell? ⟨b2, o2 + k7 * 3 + 1, none⟩ = some (.int .i64 od.n)) (by kernel_rfl) ⟨Hd2.out.cell 0, Hd2.out.cell 1, Hd2.out.cell 2, Hd2.out.cell 3, Hm2.out.cell 0, Hm2.out.cell 1, Hm2.out.cell 2, Hm2.out.cell 3, Hm2.out.cell 4, Hm2.out.cell 5, Hm2.out.cell 6, Hm2.out.cell 7, Hm2.out.cell 8, Hm2.out.cell 9, Hm2.out.cell 10, trow_cell (HD.out.kept HB2.out).rowo k7 HLT.out HOD.out 0 (by decide), trow_cell (HD.out.kept HB2.out).rowo k7 HLT.out HOD.out 1 (by decide)⟩ (fun hS0 => ?_)
            have HK0 := Lib.hid (And.intro (HK.out.1.later hbd) (HK.out.2.trans (hbd.mono HK.out.2.size)))
            generalize wr.drew = WG at *
            clear hbd
            refine tkq 0 ?_
            refine tkq 1 ?_
            refine tkq 2 ?_
            refine tkq 3 ?_
            refine tkq 4 ?_
            refine tkq 5 ?_
            refine tkq 6 ?_
            refine tkq 7 ?_
            refine tkq 8 ?_
            refine wpAnyH_done (by kernel_rfl) ?_ _
            clear hS0
            clear keq HK hltI
            have HNX : Hid (OwnT encO WG W.heap.size 78 (.slice pz nz cz) ((os.take (k7 + 1)).filter (fun z => decide (¬ (z.s = m.s ∧ z.n = m.n)))) ∧ Below W.heap.size W WG) := Lib.hid (by rw [HTK.out, if_pos HNE.out, List.append_nil]; exact HK0.out)
            clear HK0 Hd2 Hm2 Hr2 HB2 HZ2
            go_wp2_with fail
            go_roundw
            case rel => exact ⟨k7 + 1, by have := HLT.out; omega, by go_num, HNX⟩
            case measure => have := HLT.out; simp [intOf]; omega
          ·skip
           have hltI : ¬ (k7 : Int) < (os.length : Int) := by omega
           have HFL : Hid (((os.take k7).filter (fun z => decide (¬ (z.s = m.s ∧ z.n = m.n)))) ++ [(⟨m.s, m.n, m.a⟩ : Ord)] = docO os (⟨m.s, m.n, m.a⟩ : Ord)) := Lib.hid (by rw [List.take_of_length_le (by omega)]; rfl)
           go_upto_region 10 with fail
           clear hltI a3
           generalize wr = V at *
           have m1 : V.cell? ⟨(w.heap.size + 1), 1, none⟩ = some (.int .i64 m.s) := Hm1.out.cell 1
           have m2 : V.cell? ⟨(w.heap.size + 1), 2, none⟩ = some (.int .i64 m.n) := Hm1.out.cell 2
           have m7 : V.cell? ⟨(w.heap.size + 1), 7, none⟩ = some (.int .i64 m.a) := Hm1.out.cell 7
           have HBO := Lib.hid (oneB V (.cells #[.int .i64 m.s, .int .i64 m.n, .int .i64 m.a] 78))
           go_wp2_with (at_builtin; with_reducible refine stop_appendT (.tmp 85) (.tmp 91) 32 rfl ?_)
           clear m1 m2 m7
           refine wpList_append_t rfl (.tmp 85) (.tmp 91) 32 rfl 78 zeroVO14 24 W.heap.size eltO14 rfl (by decide) (.slice pz nz cz) (.slice (some ⟨V.heap.size, 0, none⟩) 1 1) ((os.take k7).filter (fun z => decide (¬ (z.s = m.s ∧ z.n = m.n)))) [(⟨m.s, m.n, m.a⟩ : Ord)] rfl rfl (HK.out.1.later HBO.out) (TRow.one_ encO (⟨m.s, m.n, m.a⟩ : Ord) (Blk.new V #[.int .i64 m.s, .int .i64 m.n, .int .i64 m.a] 78) rfl (Nat.le_refl 1)) (by have := HNZ.out; have := HLN.out; simp only [List.length_singleton]; omega) (by have h1 := HK.out.2.size; have h2 := HBO.out.size; omega) (docO os (⟨m.s, m.n, m.a⟩ : Ord)) (nz + 1) HFL.out (by rw [← HFL.out, List.length_append, HNZ.out.1]; rfl) ?_
           intro p8 c8 w8 ho _ hb8
           have hb : Below W.heap.size V w8 := (HBO.out.mono HK.out.2.size).trans hb8
           have HLW : Hid (W.heap.size ≤ V.heap.size) := Lib.hid HK.out.2.size
           obtain ⟨ol, hol⟩ : ∃ l, docO os (⟨m.s, m.n, m.a⟩ : Ord) = l := ⟨_, rfl⟩
           have HNL : Hid (nz + 1 = ol.length) := Lib.hid (by rw [← hol, ← HFL.out, List.length_append, HNZ.out.1]; rfl)
           have HPO : Hid (ol.Perm (insO d.os (⟨m.s, m.n, m.a⟩ : Ord))) := Lib.hid (by rw [← hol]; exact docO_perm HD.out.po)
           rw [hol] at ho
           have HO8 := Lib.hid (ho.less (base' := w.heap.size + 1 + 1 + 1) HWL.out)
           have HNW : Hid (w.heap.size + 1 + 1 < V.heap.size) := Lib.hid (Nat.lt_of_lt_of_le HWL.out HK.out.2.size)
           clear ho hb8 HBO hol HK
           have Hd2 := Lib.hid (Hd1.out.below hb (by have := HWL.out; omega))
           have Hr2 := Lib.hid (Hr1.out.below hb (by have := HWL.out; omega))
           have HB2 := Lib.hid (HB1.out.trans (hb.mono (by have := HWL.out; omega)))
           have HZ2 : Hid (w.heap.size ≤ w8.heap.size) := Lib.hid HB2.out.size
           have Sy2 := HO8
           clear HO8 hb Hd1 Hm1 Hr1 HB1 HZ1
           generalize hnn : nz + 1 = nn at *
           clear hnn
           have z3 : w8.cell? ⟨w.heap.size, 3, none⟩ = some (.slice po os.length co) := Hd2.out.cell 3
           have f3 := Hd2.out.free 3
           go_upto_region 11 with fail
           clear z3 f3
           have hch := Lib.hid ((Chg.refl w.heap.size w8).set 3 (.slice p8 nn c8))
           have Hd3 : Hid (Blk _ w.heap.size #[.int .i64 d.me, .int .i64 d.far, .slice p xs.length c, .slice p8 nn c8] 34) := Lib.hid (Hd2.out.set 3 (.slice p8 nn c8))
           have HB3 := ksq HB2 hch (by show w.heap.size ≤ w.heap.size; omega)
           have HZ3 := kzq HZ2 hch.out.size
           have Hr3 := kcq Hr2 hch (by omega)
           have Sy3 := Lib.hid (Sy2.out.stay (fun b hb => hch.out.2 b (Sy2.out.lt b hb) (by have h1 := Sy2.out.block_ge b hb; omega)))
           clear hch Hd2 Hr2 Sy2 HB2 HZ2
           generalize (w8.setCell ⟨w.heap.size, 3, none⟩ (.slice p8 nn c8)) = W5 at *
           obtain rfl : R = (⟨d.me, d.far, d.xs, insO d.os (⟨m.s, m.n, m.a⟩ : Ord)⟩, [], 0) := by
            rw [← HA.out]
            have h9 : expO d.me d.os m.s m.n m.a = (insO d.os (⟨m.s, m.n, m.a⟩ : Ord), 0) := by unfold expO; rw [if_pos HBY.out]
            unfold clientM
            rw [if_neg (by rw [HK2.out]; decide), if_pos HK2.out, h9]
            unfold Dsk.exp
            rw [h9]
           have a0 : W5.cell? ⟨w.heap.size, 0, none⟩ = some (.int .i64 d.me) := Hd3.out.cell 0
           have a1 : W5.cell? ⟨w.heap.size, 1, none⟩ = some (.int .i64 d.far) := Hd3.out.cell 1
           have a2 : W5.cell? ⟨w.heap.size, 2, none⟩ = some (.slice p xs.length c) := Hd3.out.cell 2
           have a3 : W5.cell? ⟨w.heap.size, 3, none⟩ = some (.slice p8 nn c8) := Hd3.out.cell 3
           go_wp2_with (with_reducible refine stop_storeT 34 (.tmp 4) (.tmp 94) rfl ?_)
           clear a0 a1 a2 a3
           have HTH : Hid (W5.there (w.heap.size + 1 + 1) 0 4) := Hr3.out.thereAt
           have hch : Hid (Chg (w.heap.size + 1 + 1) W5 (W5.setCells (w.heap.size + 1 + 1) 0 (#[.int .i64 d.me, .int .i64 d.far, .slice p xs.length c, .slice p8 nn c8] : Array Value).toList)) := Lib.hid (chg_putL _ _ _ _ _ (Chg.refl _ W5))
           have Hr4 : Hid (Blk (W5.setCells (w.heap.size + 1 + 1) 0 (#[.int .i64 d.me, .int .i64 d.far, .slice p xs.length c, .slice p8 nn c8] : Array Value).toList) (w.heap.size + 1 + 1) #[.int .i64 d.me, .int .i64 d.far, .slice p xs.length c, .slice p8 nn c8] 34) := Lib.hid (blk_put_all Hr3.out _ rfl)
           have HB4 : Hid (Below w.heap.size w (W5.setCells (w.heap.size + 1 + 1) 0 (#[.int .i64 d.me, .int .i64 d.far, .slice p xs.length c, .slice p8 nn c8] : Array Value).toList)) := Lib.hid (below_put (by omega) _ _ _ _ HB3.out)
           have HZ4 := kzq HZ3 hch.out.size
           have Hd4 := kcq Hd3 hch (by omega)
           have Sy4 := Lib.hid (Sy3.out.stay (fun b hb => hch.out.2 b (Sy3.out.lt b hb) (by have h1 := Sy3.out.block_ge b hb; omega)))
           clear hch Hd3 Hr3 Sy3 HB3 HZ3
           refine wpList_store_mid rfl 34 (.tmp 4) (.tmp 94) rfl (w.heap.size + 1 + 1) 0 #[.int .i64 d.me, .int .i64 d.far, .slice p xs.length c, .slice p8 nn c8] rfl rfl HTH.out (infoDC rfl) (all_oneCell_toArray (by intro u hu; simp at hu; rcases hu with rfl | rfl | rfl | rfl <;> rfl)) ?_
           generalize (W5.setCells (w.heap.size + 1 + 1) 0 (#[.int .i64 d.me, .int .i64 d.far, .slice p xs.length c, .slice p8 nn c8] : Array Value).toList) = W6 at *
           clear HTH
           have HNL2 := HNL.out
           subst HNL2
           go_wp2_with fail
           have hfr := Hr4.out
           refine bodyPost_ret (v := .tuple #[.agg #[.int .i64 d.me, .int .i64 d.far, .slice p xs.length c, .slice p8 ol.length c8], .slice none 0 0, .int .i64 0]) (by simp [results, Try.results21, go_sem, hfr.cell 0, hfr.cell 1, hfr.cell 2, hfr.cell 3]) rfl ⟨_, _, _, _, _, ol, _, rfl, ⟨(HD.out.kept HB4.out).row, Sy4.out.row, HD.out.ai.imp (fun b h => .inl h.1), Sy4.out.at_P (fun b h => .inr (by omega)), HD.out.px, HPO.out⟩, OwnT.nil_ _ _ _ _, HB4.out⟩
 ·skip
  have hk3 : (m.k == 2) = false := by simpa using hk2
  have HK2 := Lib.hid hk2
  clear hk2
  go_upto_region 12 with fail
  clear hk3 m0
  have HG := Lib.hid (cfind_any W d.me d.far m.s m.n p po xs.length c os.length co xs (HD.out.kept HB0.out).row rfl (by have := HLN.out; omega))
  have a0 : W.cell? ⟨w.heap.size, 0, none⟩ = some (.int .i64 d.me) := Hd0.out.cell 0
  have a1 : W.cell? ⟨w.heap.size, 1, none⟩ = some (.int .i64 d.far) := Hd0.out.cell 1
  have a2 : W.cell? ⟨w.heap.size, 2, none⟩ = some (.slice p xs.length c) := Hd0.out.cell 2
  have a3 : W.cell? ⟨w.heap.size, 3, none⟩ = some (.slice po os.length co) := Hd0.out.cell 3
  have m1 : W.cell? ⟨(w.heap.size + 1), 1, none⟩ = some (.int .i64 m.s) := Hm0.out.cell 1
  have m2 : W.cell? ⟨(w.heap.size + 1), 2, none⟩ = some (.int .i64 m.n) := Hm0.out.cell 2
  go_wp2_with fail
  clear a0 a1 a2 a3 m1 m2
  refine HG.out.mono ?_
  rintro y9 w1 ⟨⟨r1, rfl, hat⟩, hb⟩
  clear HG
  have Hd1 := kbq Hd0 hb
  have Hm1 := kbq Hm0 hb
  have Hr1 := kbq Hr0 hb
  have HB1 := ktq HB0 hb
  have HZ1 := kzq HZ0 hb.size
  clear Hd0 Hm0 Hr0 HB0 HZ0
  clear hb
  have m0 : w1.cell? ⟨(w.heap.size + 1), 0, none⟩ = some (.int .i64 m.k) := Hm1.out.cell 0
  by_cases hk1 : m.k = 1
  ·skip
   have hk3 : (m.k == 1) = true := by simpa using hk1
   have HK1 := Lib.hid hk1
   clear hk1
   go_upto_region 14 with fail
   clear hk3 m0
   have m1 : w1.cell? ⟨(w.heap.size + 1), 1, none⟩ = some (.int .i64 m.s) := Hm1.out.cell 1
   have a0 : w1.cell? ⟨w.heap.size, 0, none⟩ = some (.int .i64 d.me) := Hd1.out.cell 0
   by_cases hs0 : m.s = d.me
   ·skip
    have hs1 : (m.s != d.me) = false := by simpa using hs0
    have HS0 := Lib.hid hs0
    go_upto_region 16 with fail
    clear hs0 hs1 m1 a0
    rcases at_findX hat with ⟨rfl, hfx⟩ | ⟨k, hk, rfl, hfx⟩
    ·skip
     rw [perm_findX HD.out.px HSX.out] at hfx
     have HFX := Lib.hid hfx
     clear hat hfx
     go_upto_region 18 with fail
     have m1 : w1.cell? ⟨(w.heap.size + 1), 1, none⟩ = some (.int .i64 m.s) := Hm1.out.cell 1
     have m2 : w1.cell? ⟨(w.heap.size + 1), 2, none⟩ = some (.int .i64 m.n) := Hm1.out.cell 2
     have m3 : w1.cell? ⟨(w.heap.size + 1), 3, none⟩ = some (.int .i64 m.b) := Hm1.out.cell 3
     have m4 : w1.cell? ⟨(w.heap.size + 1), 4, none⟩ = some (.int .i64 m.c) := Hm1.out.cell 4
     have m7 : w1.cell? ⟨(w.heap.size + 1), 7, none⟩ = some (.int .i64 m.a) := Hm1.out.cell 7
     have hba := oneB w1 (.cells #[.int .i64 m.s, .int .i64 m.n, .int .i64 m.b, .int .i64 m.c, .int .i64 m.a, .int .i64 0, .int .i64 1, .int .i64 0] 64)
     have Hd2 := kbq Hd1 hba
     have Hm2 := kbq Hm1 hba
     have Hr2 := kbq Hr1 hba
     have Hx2 := Lib.hid (Blk.new w1 #[.int .i64 m.s, .int .i64 m.n, .int .i64 m.b, .int .i64 m.c, .int .i64 m.a, .int .i64 0, .int .i64 1, .int .i64 0] 64)
     have HB2 := Lib.hid (HB1.out.alloc HB1.out.size (.cells #[.int .i64 m.s, .int .i64 m.n, .int .i64 m.b, .int .i64 m.c, .int .i64 m.a, .int .i64 0, .int .i64 1, .int .i64 0] 64))
     have HZ2 := kzq HZ1 hba.size
     have HGgx : Hid (w.heap.size + 1 + 1 < w1.heap.size) := Lib.hid Hr1.out.lt
     clear hba Hd1 Hm1 Hr1 HB1 HZ1
     go_upto_region 19 with fail
     clear m1 m2 m3 m4 m7
     generalize (w1.alloc (.cells #[.int .i64 m.s, .int .i64 m.n, .int .i64 m.b, .int .i64 m.c, .int .i64 m.a, .int .i64 0, .int .i64 1, .int .i64 0] 64)) = W3 at *
     generalize hggx : w1.heap.size = gx at *
     clear hggx
     obtain ⟨E, hE⟩ : ∃ E, chkI (⟨m.s, m.n, m.b, m.c, m.a, 0, 1, 0⟩ : Itm) = E := ⟨_, rfl⟩
     have HE := Lib.hid hE
     have HG := Lib.hid (refcheck_any (⟨m.s, m.n, m.b, m.c, m.a, 0, 1, 0⟩ : Itm) W3)
     rw [hE] at HG
     unfold Itm.v at HG
     dsimp only at HG
     clear hE
     have x0 : W3.cell? ⟨gx, 0, none⟩ = some (.int .i64 m.s) := Hx2.out.cell 0
     have x1 : W3.cell? ⟨gx, 1, none⟩ = some (.int .i64 m.n) := Hx2.out.cell 1
     have x2 : W3.cell? ⟨gx, 2, none⟩ = some (.int .i64 m.b) := Hx2.out.cell 2
     have x3 : W3.cell? ⟨gx, 3, none⟩ = some (.int .i64 m.c) := Hx2.out.cell 3
     have x4 : W3.cell? ⟨gx, 4, none⟩ = some (.int .i64 m.a) := Hx2.out.cell 4
     have x5 : W3.cell? ⟨gx, 5, none⟩ = some (.int .i64 0) := Hx2.out.cell 5
     have x6 : W3.cell? ⟨gx, 6, none⟩ = some (.int .i64 1) := Hx2.out.cell 6
     have x7 : W3.cell? ⟨gx, 7, none⟩ = some (.int .i64 0) := Hx2.out.cell 7
     go_wp2_with fail
     clear x0 x1 x2 x3 x4 x5 x6 x7
     refine HG.out.mono ?_
     rintro y9 w4 ⟨rfl, hb⟩
     clear HG
     have Hd3 := kbq Hd2 hb
     have Hm3 := kbq Hm2 hb
     have Hr3 := kbq Hr2 hb
     have Hx3 := kbq Hx2 hb
     have HB3 := ktq HB2 hb
     have HZ3 := kzq HZ2 hb.size
     clear Hd2 Hm2 Hr2 Hx2 HB2 HZ2
     clear hb
     by_cases hE0 : E = 0
     ·skip
      subst hE0
      go_upto_region 22 with fail
      obtain rfl : R = (d.put (⟨m.s, m.n, m.b, m.c, m.a, 0, 1, 0⟩ : Itm), [(m.b, aboutM 6 (⟨m.s, m.n, m.b, m.c, m.a, 0, 1, 0⟩ : Itm))], 0) := by
       rw [← HA.out]
       unfold clientM
       rw [if_pos HK1.out]
       have h1 : issueI d m = newA (⟨m.s, m.n, m.b, m.c, m.a, 0, 1, 0⟩ : Itm) := by unfold issueI; rw [if_neg (fun h => h HS0.out), HFX.out]; rfl
       have h2 : newA (⟨m.s, m.n, m.b, m.c, m.a, 0, 1, 0⟩ : Itm) = ((⟨m.s, m.n, m.b, m.c, m.a, 0, 1, 0⟩ : Itm), 0) := by unfold newA; rw [if_pos HE.out]
       rw [h1, h2]
       refine beh_ok0 ?_
       unfold toI
       rw [if_neg ?_]
       intro h3
       have h4 := (chk_ok HE.out).1.2.2
       exact h4 (HS0.out.trans h3.symm)
      have HWL3 : Hid (w.heap.size + 1 + 1 + 1 ≤ w4.heap.size) := Lib.hid Hr3.out.lt
      have hbd := (Below.refl w4.heap.size w4).drew
      have Hd4 := kbq Hd3 hbd
      have Hm4 := kbq Hm3 hbd
      have Hr4 := kbq Hr3 hbd
      have Hx4 := kbq Hx3 hbd
      have HB4 := ktq HB3 hbd
      have HZ4 := kzq HZ3 hbd.size
      clear Hd3 Hm3 Hr3 Hx3 HB3 HZ3
      refine wp_region_held_drew (S := fun w' => w'.cell? ⟨w.heap.size, 0, none⟩ = some (.int .i64 d.me) ∧ w'.cell? ⟨w.heap.size, 1, none⟩ = some (.int .i64 d.far) ∧ w'.cell? ⟨w.heap.size, 2, none⟩ = some (.slice p xs.length c) ∧ w'.cell? ⟨w.heap.size, 3, none⟩ = some (.slice po os.length co) ∧ w'.cell? ⟨gx, 0, none⟩ = some (.int .i64 m.s) ∧ w'.cell? ⟨gx, 1, none⟩ = some (.int .i64 m.n) ∧ w'.cell? ⟨gx, 2, none⟩ = some (.int .i64 m.b) ∧ w'.cell? ⟨gx, 3, none⟩ = some (.int .i64 m.c) ∧ w'.cell? ⟨gx, 4, none⟩ = some (.int .i64 m.a) ∧ w'.cell? ⟨gx, 5, none⟩ = some (.int .i64 0) ∧ w'.cell? ⟨gx, 6, none⟩ = some (.int .i64 1) ∧ w'.cell? ⟨gx, 7, none⟩ = some (.int .i64 0)) (by kernel_rfl) ⟨Hd4.out.cell 0, Hd4.out.cell 1, Hd4.out.cell 2, Hd4.out.cell 3, Hx4.out.cell 0, Hx4.out.cell 1, Hx4.out.cell 2, Hx4.out.cell 3, Hx4.out.cell 4, Hx4.out.cell 5, Hx4.out.cell 6, Hx4.out.cell 7⟩ (fun hS0 => ?_)
      have HWD3 := Lib.hid (Nat.le_trans HWL3.out hbd.size)
      clear HWL3
      generalize w4.drew = WD at *
      clear hbd
      refine tkq 0 ?_
      refine tkq 1 ?_
      refine tkq 3 ?_
      refine tkq 4 ?_
      refine tkq 5 ?_
      refine rdq 2 (fun K hK => ?_)
      have HG := Lib.hid (ckeep_any WD d.me d.far p po xs.length c os.length co (⟨m.s, m.n, m.b, m.c, m.a, 0, 1, 0⟩ : Itm) xs (HD.out.kept HB4.out).row rfl (by have := HLN.out; omega))
      unfold Itm.v at HG
      try dsimp only at HG
      go_simp
      go_at_call 37
      refine HG.out.mono ?_
      rintro y9 w7 ⟨r9, p9, n9, c9, ha9, rfl, hown9, hn9, hb⟩
      clear HG
      have HP9 := Lib.hid (cput_perm (x := (⟨m.s, m.n, m.b, m.c, m.a, 0, 1, 0⟩ : Itm)) HD.out.px HSX.out ha9)
      have HO9 := Lib.hid (hown9.less (base' := w.heap.size + 1 + 1 + 1) HWD3.out)
      have HWD4 := Lib.hid (Nat.le_trans HWD3.out hb.size)
      generalize cputL xs (⟨m.s, m.n, m.b, m.c, m.a, 0, 1, 0⟩ : Itm) r9 = ys at *
      subst hn9
      clear ha9 hown9
      have Hd5 := kbq Hd4 hb
      have Hm5 := kbq Hm4 hb
      have Hr5 := kbq Hr4 hb
      have Hx5 := kbq Hx4 hb
      have HB5 := ktq HB4 hb
      have HZ5 := kzq HZ4 hb.size
      clear Hd4 Hm4 Hr4 Hx4 HB4 HZ4
      clear hb hS0
      try go_wp2_with fail
      refine hK.out _ _ ⟨Hd5.out.cell 0, Hd5.out.cell 1, Hd5.out.cell 2, Hd5.out.cell 3, Hx5.out.cell 0, Hx5.out.cell 1, Hx5.out.cell 2, Hx5.out.cell 3, Hx5.out.cell 4, Hx5.out.cell 5, Hx5.out.cell 6, Hx5.out.cell 7⟩ (fun hS0 => ?_)
      clear hK K
      try simp only [Act.put, List.getElem_toArray, List.getElem_cons_succ, List.getElem_cons_zero, List.setIfInBounds_toArray, List.set_cons_zero, List.set_cons_succ]
      have Sy5 := HO9
      clear HO9
      refine rdq 6 (fun K hK => ?_)
      have HG := Lib.hid (rabout_any m.b 6 (⟨m.s, m.n, m.b, m.c, m.a, 0, 1, 0⟩ : Itm) w7)
      unfold Itm.v at HG
      try dsimp only at HG
      go_simp
      go_at_call 38
      refine HG.out.mono ?_
      rintro y9 w8 ⟨vs9, rfl, hso9, hb⟩
      clear HG
      have HS9 := Lib.hid (hso9.less (base' := w.heap.size + 1 + 1 + 1) HWD4.out)
      clear hso9
      have Hd6 := kbq Hd5 hb
      have Hm6 := kbq Hm5 hb
      have Hr6 := kbq Hr5 hb
      have Hx6 := kbq Hx5 hb
      have Sy6 := Lib.hid (Sy5.out.later hb)
      have HB6 := ktq HB5 hb
      have HZ6 := kzq HZ5 hb.size
      clear Hd5 Hm5 Hr5 Hx5 Sy5 HB5 HZ5
      clear hb hS0
      try go_wp2_with fail
      refine hK.out _ _ ⟨Hd6.out.cell 0, Hd6.out.cell 1, Hd6.out.cell 2, Hd6.out.cell 3, Hx6.out.cell 0, Hx6.out.cell 1, Hx6.out.cell 2, Hx6.out.cell 3, Hx6.out.cell 4, Hx6.out.cell 5, Hx6.out.cell 6, Hx6.out.cell 7⟩ (fun hS0 => ?_)
      clear hK K
      try simp only [Act.put, List.getElem_toArray, List.getElem_cons_succ, List.getElem_cons_zero, List.setIfInBounds_toArray, List.set_cons_zero, List.set_cons_succ]
      have Sz6 := HS9
      clear HS9
      refine rdq 7 (fun K hK => ?_)
      have z0 : w8.cell? ⟨(w.heap.size + 1 + 1), 0, none⟩ = some (.int .i64 0) := Hr6.out.cell 0
      have z1 : w8.cell? ⟨(w.heap.size + 1 + 1), 1, none⟩ = some (.int .i64 0) := Hr6.out.cell 1
      have z2 : w8.cell? ⟨(w.heap.size + 1 + 1), 2, none⟩ = some (.slice none 0 0) := Hr6.out.cell 2
      have z3 : w8.cell? ⟨(w.heap.size + 1 + 1), 3, none⟩ = some (.slice none 0 0) := Hr6.out.cell 3
      have f0 := Hr6.out.free 0
      have f1 := Hr6.out.free 1
      have f2 := Hr6.out.free 2
      have f3 := Hr6.out.free 3
      go_simp
      clear z0 f0 z1 f1 z2 f2 z3 f3
      have hch := Lib.hid (((((Chg.refl (w.heap.size + 1 + 1) w8).set 0 (.int .i64 d.me)).set 1 (.int .i64 d.far)).set 2 (.slice p9 ys.length c9)).set 3 (.slice po os.length co))
      have Hr7 : Hid (Blk _ (w.heap.size + 1 + 1) #[.int .i64 d.me, .int .i64 d.far, .slice p9 ys.length c9, .slice po os.length co] 34) := Lib.hid ((((Hr6.out.set 0 (.int .i64 d.me)).set 1 (.int .i64 d.far)).set 2 (.slice p9 ys.length c9)).set 3 (.slice po os.length co))
      have HB7 := ksq HB6 hch (by show w.heap.size ≤ (w.heap.size + 1 + 1); have := HGgx.out; omega)
      have HZ7 := kzq HZ6 hch.out.size
      have Hd7 := kcq Hd6 hch (by have := HGgx.out; omega)
      have Hm7 := kcq Hm6 hch (by have := HGgx.out; omega)
      have Hx7 := kcq Hx6 hch (by have := HGgx.out; omega)
      have Sy7 := Lib.hid (Sy6.out.stay (fun b hb => hch.out.2 b (Sy6.out.lt b hb) (by have h1 := Sy6.out.block_ge b hb; have := HGgx.out; omega)))
      have Sz7 := Lib.hid (Sz6.out.stay (fun b hb => hch.out.2 b (Sz6.out.lt b hb) (by have h1 := Sz6.out.block_ge b hb; have := HGgx.out; omega)))
      clear hch hS0 Hd6 Hm6 Hr6 Hx6 Sy6 Sz6 HB6 HZ6
      generalize ((((w8.setCell ⟨w.heap.size + 1 + 1, 0, none⟩ (.int .i64 d.me)).setCell ⟨w.heap.size + 1 + 1, 1, none⟩ (.int .i64 d.far)).setCell ⟨w.heap.size + 1 + 1, 2, none⟩ (.slice p9 ys.length c9)).setCell ⟨w.heap.size + 1 + 1, 3, none⟩ (.slice po os.length co)) = W9 at *
      refine hK.out _ _ ⟨Hd7.out.cell 0, Hd7.out.cell 1, Hd7.out.cell 2, Hd7.out.cell 3, Hx7.out.cell 0, Hx7.out.cell 1, Hx7.out.cell 2, Hx7.out.cell 3, Hx7.out.cell 4, Hx7.out.cell 5, Hx7.out.cell 6, Hx7.out.cell 7⟩ (fun hS0 => ?_)
      clear hK K
      try simp only [Act.put, List.getElem_toArray, List.getElem_cons_succ, List.getElem_cons_zero, List.setIfInBounds_toArray, List.set_cons_zero, List.set_cons_succ]
      refine tkq 8 ?_
      refine tkq 9 ?_
      refine wpAnyH_done (by kernel_rfl) ?_ _
      clear hS0
      go_wp2_with fail
      have hfr := Hr7.out
      refine bodyPost_ret (v := .tuple #[.agg #[.int .i64 d.me, .int .i64 d.far, .slice p9 ys.length c9, .slice po os.length co], vs9, .int .i64 0]) (by simp [results, Try.results21, go_sem, hfr.cell 0, hfr.cell 1, hfr.cell 2, hfr.cell 3]) rfl ⟨_, _, _, _, _, _, _, rfl, ⟨Sy7.out.row, (HD.out.kept HB7.out).rowo, Sy7.out.at_P (fun b h => .inr (by omega)), HD.out.ao.imp (fun b h => .inl h.1), HP9.out, HD.out.po⟩, ?_, HB7.out⟩
      exact Sz7.out.less (by omega)
     ·skip
      have hE1 : (E != 0) = true := by simpa using hE0
      go_upto_region 21 with fail
      clear hE1
      obtain rfl : R = (d, [], E) := by
       rw [← HA.out]
       unfold clientM
       rw [if_pos HK1.out]
       have h1 : issueI d m = newA (⟨m.s, m.n, m.b, m.c, m.a, 0, 1, 0⟩ : Itm) := by unfold issueI; rw [if_neg (fun h => h HS0.out), HFX.out]; rfl
       have h2 : newA (⟨m.s, m.n, m.b, m.c, m.a, 0, 1, 0⟩ : Itm) = (zeroI, E) := by unfold newA; rw [if_neg (by rw [HE.out]; exact hE0), HE.out]
       rw [h1, h2]
       exact beh_err hE0
      have a0 : w4.cell? ⟨w.heap.size, 0, none⟩ = some (.int .i64 d.me) := Hd3.out.cell 0
      have a1 : w4.cell? ⟨w.heap.size, 1, none⟩ = some (.int .i64 d.far) := Hd3.out.cell 1
      have a2 : w4.cell? ⟨w.heap.size, 2, none⟩ = some (.slice p xs.length c) := Hd3.out.cell 2
      have a3 : w4.cell? ⟨w.heap.size, 3, none⟩ = some (.slice po os.length co) := Hd3.out.cell 3
      go_wp2_with (with_reducible refine stop_storeT 34 (.tmp 4) (.tmp 125) rfl ?_)
      clear a0 a1 a2 a3
      have HTH : Hid (w4.there (w.heap.size + 1 + 1) 0 4) := Hr3.out.thereAt
      have hch : Hid (Chg (w.heap.size + 1 + 1) w4 (w4.setCells (w.heap.size + 1 + 1) 0 (#[.int .i64 d.me, .int .i64 d.far, .slice p xs.length c, .slice po os.length co] : Array Value).toList)) := Lib.hid (chg_putL _ _ _ _ _ (Chg.refl _ w4))
      have Hr4 : Hid (Blk (w4.setCells (w.heap.size + 1 + 1) 0 (#[.int .i64 d.me, .int .i64 d.far, .slice p xs.length c, .slice po os.length co] : Array Value).toList) (w.heap.size + 1 + 1) #[.int .i64 d.me, .int .i64 d.far, .slice p xs.length c, .slice po os.length co] 34) := Lib.hid (blk_put_all Hr3.out _ rfl)
      have HB4 : Hid (Below w.heap.size w (w4.setCells (w.heap.size + 1 + 1) 0 (#[.int .i64 d.me, .int .i64 d.far, .slice p xs.length c, .slice po os.length co] : Array Value).toList)) := Lib.hid (below_put (by have := HGgx.out; omega) _ _ _ _ HB3.out)
      have HZ4 := kzq HZ3 hch.out.size
      have Hd4 := kcq Hd3 hch (by have := HGgx.out; omega)
      have Hm4 := kcq Hm3 hch (by have := HGgx.out; omega)
      have Hx4 := kcq Hx3 hch (by have := HGgx.out; omega)
      clear hch Hd3 Hm3 Hr3 Hx3 HB3 HZ3
      refine wpList_store_mid rfl 34 (.tmp 4) (.tmp 125) rfl (w.heap.size + 1 + 1) 0 #[.int .i64 d.me, .int .i64 d.far, .slice p xs.length c, .slice po os.length co] rfl rfl HTH.out (infoDC rfl) (all_oneCell_toArray (by intro u hu; simp at hu; rcases hu with rfl | rfl | rfl | rfl <;> rfl)) ?_
      generalize (w4.setCells (w.heap.size + 1 + 1) 0 (#[.int .i64 d.me, .int .i64 d.far, .slice p xs.length c, .slice po os.length co] : Array Value).toList) = WR at *
      clear HTH
      go_wp2_with fail
      have hfr := Hr4.out
      refine bodyPost_ret (v := .tuple #[.agg #[.int .i64 d.me, .int .i64 d.far, .slice p xs.length c, .slice po os.length co], .slice none 0 0, .int .i64 E]) (by simp [results, Try.results21, go_sem, hfr.cell 0, hfr.cell 1, hfr.cell 2, hfr.cell 3]) rfl ⟨_, _, _, _, _, _, _, rfl, (HD.out.kept HB4.out).imp (fun b h => .inl h.1), OwnT.nil_ _ _ _ _, HB4.out⟩
    ·skip
     rw [perm_findX HD.out.px HSX.out] at hfx
     have HFX := Lib.hid hfx
     have hk0 : (0 : Int) ≤ (k : Int) := by omega
     clear hat hfx
     go_upto_region 17 with fail
     clear hk0
     obtain rfl : R = (d, [], 5) := by
      rw [← HA.out]
      unfold clientM
      rw [if_pos HK1.out]
      have h1 : issueI d m = (itm0, 5) := by unfold issueI; rw [if_neg (fun h => h HS0.out), HFX.out]; rfl
      rw [h1]
      exact beh_err (show (5 : Int) ≠ 0 by decide)
     have a0 : w1.cell? ⟨w.heap.size, 0, none⟩ = some (.int .i64 d.me) := Hd1.out.cell 0
     have a1 : w1.cell? ⟨w.heap.size, 1, none⟩ = some (.int .i64 d.far) := Hd1.out.cell 1
     have a2 : w1.cell? ⟨w.heap.size, 2, none⟩ = some (.slice p xs.length c) := Hd1.out.cell 2
     have a3 : w1.cell? ⟨w.heap.size, 3, none⟩ = some (.slice po os.length co) := Hd1.out.cell 3
     go_wp2_with (with_reducible refine stop_storeT 34 (.tmp 4) (.tmp 111) rfl ?_)
     clear a0 a1 a2 a3
     have HTH : Hid (w1.there (w.heap.size + 1 + 1) 0 4) := Hr1.out.thereAt
     have hch : Hid (Chg (w.heap.size + 1 + 1) w1 (w1.setCells (w.heap.size + 1 + 1) 0 (#[.int .i64 d.me, .int .i64 d.far, .slice p xs.length c, .slice po os.length co] : Array Value).toList)) := Lib.hid (chg_putL _ _ _ _ _ (Chg.refl _ w1))
     have Hr2 : Hid (Blk (w1.setCells (w.heap.size + 1 + 1) 0 (#[.int .i64 d.me, .int .i64 d.far, .slice p xs.length c, .slice po os.length co] : Array Value).toList) (w.heap.size + 1 + 1) #[.int .i64 d.me, .int .i64 d.far, .slice p xs.length c, .slice po os.length co] 34) := Lib.hid (blk_put_all Hr1.out _ rfl)
     have HB2 : Hid (Below w.heap.size w (w1.setCells (w.heap.size + 1 + 1) 0 (#[.int .i64 d.me, .int .i64 d.far, .slice p xs.length c, .slice po os.length co] : Array Value).toList)) := Lib.hid (below_put (by omega) _ _ _ _ HB1.out)
     have HZ2 := kzq HZ1 hch.out.size
     have Hd2 := kcq Hd1 hch (by omega)
     have Hm2 := kcq Hm1 hch (by omega)
     clear hch Hd1 Hm1 Hr1 HB1 HZ1
     refine wpList_store_mid rfl 34 (.tmp 4) (.tmp 111) rfl (w.heap.size + 1 + 1) 0 #[.int .i64 d.me, .int .i64 d.far, .slice p xs.length c, .slice po os.length co] rfl rfl HTH.out (infoDC rfl) (all_oneCell_toArray (by intro u hu; simp at hu; rcases hu with rfl | rfl | rfl | rfl <;> rfl)) ?_
     generalize (w1.setCells (w.heap.size + 1 + 1) 0 (#[.int .i64 d.me, .int .i64 d.far, .slice p xs.length c, .slice po os.length co] : Array Value).toList) = WR at *
     clear HTH
     go_wp2_with fail
     have hfr := Hr2.out
     refine bodyPost_ret (v := .tuple #[.agg #[.int .i64 d.me, .int .i64 d.far, .slice p xs.length c, .slice po os.length co], .slice none 0 0, .int .i64 5]) (by simp [results, Try.results21, go_sem, hfr.cell 0, hfr.cell 1, hfr.cell 2, hfr.cell 3]) rfl ⟨_, _, _, _, _, _, _, rfl, (HD.out.kept HB2.out).imp (fun b h => .inl h.1), OwnT.nil_ _ _ _ _, HB2.out⟩
   ·skip
    have hs1 : (m.s != d.me) = true := by simpa using hs0
    have HS0 := Lib.hid hs0
    go_upto_region 15 with fail
    clear hs0 hs1 m1 a0 hat
    obtain rfl : R = (d, [], 140) := by
     rw [← HA.out]
     unfold clientM
     rw [if_pos HK1.out]
     have h1 : issueI d m = (itm0, 140) := by unfold issueI; rw [if_pos HS0.out]
     rw [h1]
     exact beh_err (show (140 : Int) ≠ 0 by decide)
    have a0 : w1.cell? ⟨w.heap.size, 0, none⟩ = some (.int .i64 d.me) := Hd1.out.cell 0
    have a1 : w1.cell? ⟨w.heap.size, 1, none⟩ = some (.int .i64 d.far) := Hd1.out.cell 1
    have a2 : w1.cell? ⟨w.heap.size, 2, none⟩ = some (.slice p xs.length c) := Hd1.out.cell 2
    have a3 : w1.cell? ⟨w.heap.size, 3, none⟩ = some (.slice po os.length co) := Hd1.out.cell 3
    go_wp2_with (with_reducible refine stop_storeT 34 (.tmp 4) (.tmp 108) rfl ?_)
    clear a0 a1 a2 a3
    have HTH : Hid (w1.there (w.heap.size + 1 + 1) 0 4) := Hr1.out.thereAt
    have hch : Hid (Chg (w.heap.size + 1 + 1) w1 (w1.setCells (w.heap.size + 1 + 1) 0 (#[.int .i64 d.me, .int .i64 d.far, .slice p xs.length c, .slice po os.length co] : Array Value).toList)) := Lib.hid (chg_putL _ _ _ _ _ (Chg.refl _ w1))
    have Hr2 : Hid (Blk (w1.setCells (w.heap.size + 1 + 1) 0 (#[.int .i64 d.me, .int .i64 d.far, .slice p xs.length c, .slice po os.length co] : Array Value).toList) (w.heap.size + 1 + 1) #[.int .i64 d.me, .int .i64 d.far, .slice p xs.length c, .slice po os.length co] 34) := Lib.hid (blk_put_all Hr1.out _ rfl)
    have HB2 : Hid (Below w.heap.size w (w1.setCells (w.heap.size + 1 + 1) 0 (#[.int .i64 d.me, .int .i64 d.far, .slice p xs.length c, .slice po os.length co] : Array Value).toList)) := Lib.hid (below_put (by omega) _ _ _ _ HB1.out)
    have HZ2 := kzq HZ1 hch.out.size
    have Hd2 := kcq Hd1 hch (by omega)
    have Hm2 := kcq Hm1 hch (by omega)
    clear hch Hd1 Hm1 Hr1 HB1 HZ1
    refine wpList_store_mid rfl 34 (.tmp 4) (.tmp 108) rfl (w.heap.size + 1 + 1) 0 #[.int .i64 d.me, .int .i64 d.far, .slice p xs.length c, .slice po os.length co] rfl rfl HTH.out (infoDC rfl) (all_oneCell_toArray (by intro u hu; simp at hu; rcases hu with rfl | rfl | rfl | rfl <;> rfl)) ?_
    generalize (w1.setCells (w.heap.size + 1 + 1) 0 (#[.int .i64 d.me, .int .i64 d.far, .slice p xs.length c, .slice po os.length co] : Array Value).toList) = WR at *
    clear HTH
    go_wp2_with fail
    have hfr := Hr2.out
    refine bodyPost_ret (v := .tuple #[.agg #[.int .i64 d.me, .int .i64 d.far, .slice p xs.length c, .slice po os.length co], .slice none 0 0, .int .i64 140]) (by simp [results, Try.results21, go_sem, hfr.cell 0, hfr.cell 1, hfr.cell 2, hfr.cell 3]) rfl ⟨_, _, _, _, _, _, _, rfl, (HD.out.kept HB2.out).imp (fun b h => .inl h.1), OwnT.nil_ _ _ _ _, HB2.out⟩
  ·skip
   have hk3 : (m.k == 1) = false := by simpa using hk1
   have HK1 := Lib.hid hk1
   clear hk1
   go_upto_region 23 with fail
   clear hk3 m0
   have HR3 : Hid (m.k = 3 ∨ m.k = 4 ∨ m.k = 16) := Lib.hid (by
    have h1 := HKK.out
    have h2 := HK1.out
    have h3 := HK2.out
    omega)
   rcases at_findX hat with ⟨rfl, hfx⟩ | ⟨k, hk, rfl, hfx⟩
   ·skip
    rw [perm_findX HD.out.px HSX.out] at hfx
    have HFX := Lib.hid hfx
    clear hat hfx
    go_upto_region 24 with fail
    obtain rfl : R = (d, [], 4) := by
     rw [← HA.out]
     have h1 : soldA d m.s m.n = (itm0, 4) := by unfold soldA; rw [HFX.out]
     have h2 : ∀ f, thenA (itm0, 4) f = (itm0, 4) := fun f => rfl
     have h3 : dueI d m = (itm0, 4) := by unfold dueI; rw [h1, if_neg (by rintro ⟨h, _⟩; cases h)]; rfl
     unfold clientM
     rw [if_neg HK1.out, if_neg HK2.out]
     rw [h1, h2, h2, h3, beh_err (show (4 : Int) ≠ 0 by decide), beh_err (show (4 : Int) ≠ 0 by decide)]
     rcases HR3.out with h | h | h
     ·rw [if_pos h]
     ·rw [if_neg (by omega), if_pos h]
     ·rw [if_neg (by omega), if_neg (by omega), if_pos h]
    have a0 : w1.cell? ⟨w.heap.size, 0, none⟩ = some (.int .i64 d.me) := Hd1.out.cell 0
    have a1 : w1.cell? ⟨w.heap.size, 1, none⟩ = some (.int .i64 d.far) := Hd1.out.cell 1
    have a2 : w1.cell? ⟨w.heap.size, 2, none⟩ = some (.slice p xs.length c) := Hd1.out.cell 2
    have a3 : w1.cell? ⟨w.heap.size, 3, none⟩ = some (.slice po os.length co) := Hd1.out.cell 3
    go_wp2_with (with_reducible refine stop_storeT 34 (.tmp 4) (.tmp 136) rfl ?_)
    clear a0 a1 a2 a3
    have HTH : Hid (w1.there (w.heap.size + 1 + 1) 0 4) := Hr1.out.thereAt
    have hch : Hid (Chg (w.heap.size + 1 + 1) w1 (w1.setCells (w.heap.size + 1 + 1) 0 (#[.int .i64 d.me, .int .i64 d.far, .slice p xs.length c, .slice po os.length co] : Array Value).toList)) := Lib.hid (chg_putL _ _ _ _ _ (Chg.refl _ w1))
    have Hr2 : Hid (Blk (w1.setCells (w.heap.size + 1 + 1) 0 (#[.int .i64 d.me, .int .i64 d.far, .slice p xs.length c, .slice po os.length co] : Array Value).toList) (w.heap.size + 1 + 1) #[.int .i64 d.me, .int .i64 d.far, .slice p xs.length c, .slice po os.length co] 34) := Lib.hid (blk_put_all Hr1.out _ rfl)
    have HB2 : Hid (Below w.heap.size w (w1.setCells (w.heap.size + 1 + 1) 0 (#[.int .i64 d.me, .int .i64 d.far, .slice p xs.length c, .slice po os.length co] : Array Value).toList)) := Lib.hid (below_put (by omega) _ _ _ _ HB1.out)
    have HZ2 := kzq HZ1 hch.out.size
    have Hd2 := kcq Hd1 hch (by omega)
    have Hm2 := kcq Hm1 hch (by omega)
    clear hch Hd1 Hm1 Hr1 HB1 HZ1
    refine wpList_store_mid rfl 34 (.tmp 4) (.tmp 136) rfl (w.heap.size + 1 + 1) 0 #[.int .i64 d.me, .int .i64 d.far, .slice p xs.length c, .slice po os.length co] rfl rfl HTH.out (infoDC rfl) (all_oneCell_toArray (by intro u hu; simp at hu; rcases hu with rfl | rfl | rfl | rfl <;> rfl)) ?_
    generalize (w1.setCells (w.heap.size + 1 + 1) 0 (#[.int .i64 d.me, .int .i64 d.far, .slice p xs.length c, .slice po os.length co] : Array Value).toList) = WR at *
    clear HTH
    go_wp2_with fail
    have hfr := Hr2.out
    refine bodyPost_ret (v := .tuple #[.agg #[.int .i64 d.me, .int .i64 d.far, .slice p xs.length c, .slice po os.length co], .slice none 0 0, .int .i64 4]) (by simp [results, Try.results21, go_sem, hfr.cell 0, hfr.cell 1, hfr.cell 2, hfr.cell 3]) rfl ⟨_, _, _, _, _, _, _, rfl, (HD.out.kept HB2.out).imp (fun b h => .inl h.1), OwnT.nil_ _ _ _ _, HB2.out⟩
   ·skip
    rw [perm_findX HD.out.px HSX.out] at hfx
    obtain ⟨q, hq⟩ : ∃ q, xs[k] = q := ⟨_, rfl⟩
    rw [hq] at hfx
    have HFX := Lib.hid hfx
    have HQ := Lib.hid hq
    have HKL := Lib.hid hk
    have HQC : Hid (chkI q = 0 ∧ (q.s = d.me ∨ q.b = d.me)) := Lib.hid (HOK.out.its q (findX_mem hfx).1)
    have HQN : Hid (q.s = m.s ∧ q.n = m.n) := Lib.hid (findX_mem hfx).2
    have HQR : Hid (F64 (q.r + 1)) := Lib.hid (by have h1 := (chk_ok HQC.out.1).2.1.2.2.2.1; unfold F64; omega)
    have hkI : (k : Int) < (xs.length : Int) := by omega
    have hk0 : ¬ (k : Int) < 0 := by omega
    obtain ⟨b, o, hpe, hbl, hcs⟩ := (HD.out.kept HB1.out).row.at_ k hk
    subst hpe
    clear hat hfx hq hbl hcs
    go_upto_region 25 with fail
    have a2 : w1.cell? ⟨w.heap.size, 2, none⟩ = some (.slice (some ⟨b, o, none⟩) xs.length c) := Hd1.out.cell 2
    have c0 : w1.cell? ⟨b, o + k * 8, none⟩ = some (.int .i64 q.s) := trow_cell (HD.out.kept HB1.out).row k HKL.out HQ.out 0 (by decide)
    have c1 : w1.cell? ⟨b, o + k * 8 + 1, none⟩ = some (.int .i64 q.n) := trow_cell (HD.out.kept HB1.out).row k HKL.out HQ.out 1 (by decide)
    have c2 : w1.cell? ⟨b, o + k * 8 + 2, none⟩ = some (.int .i64 q.b) := trow_cell (HD.out.kept HB1.out).row k HKL.out HQ.out 2 (by decide)
    have c3 : w1.cell? ⟨b, o + k * 8 + 3, none⟩ = some (.int .i64 q.c) := trow_cell (HD.out.kept HB1.out).row k HKL.out HQ.out 3 (by decide)
    have c4 : w1.cell? ⟨b, o + k * 8 + 4, none⟩ = some (.int .i64 q.a) := trow_cell (HD.out.kept HB1.out).row k HKL.out HQ.out 4 (by decide)
    have c5 : w1.cell? ⟨b, o + k * 8 + 5, none⟩ = some (.int .i64 q.r) := trow_cell (HD.out.kept HB1.out).row k HKL.out HQ.out 5 (by decide)
    have c6 : w1.cell? ⟨b, o + k * 8 + 6, none⟩ = some (.int .i64 q.t) := trow_cell (HD.out.kept HB1.out).row k HKL.out HQ.out 6 (by decide)
    have c7 : w1.cell? ⟨b, o + k * 8 + 7, none⟩ = some (.int .i64 q.y) := trow_cell (HD.out.kept HB1.out).row k HKL.out HQ.out 7 (by decide)
    have hba := oneB w1 (.cells #[.int .i64 q.s, .int .i64 q.n, .int .i64 q.b, .int .i64 q.c, .int .i64 q.a, .int .i64 q.r, .int .i64 q.t, .int .i64 q.y] 64)
    have Hd2 := kbq Hd1 hba
    have Hm2 := kbq Hm1 hba
    have Hr2 := kbq Hr1 hba
    have Hx2 := Lib.hid (Blk.new w1 #[.int .i64 q.s, .int .i64 q.n, .int .i64 q.b, .int .i64 q.c, .int .i64 q.a, .int .i64 q.r, .int .i64 q.t, .int .i64 q.y] 64)
    have HB2 := Lib.hid (HB1.out.alloc HB1.out.size (.cells #[.int .i64 q.s, .int .i64 q.n, .int .i64 q.b, .int .i64 q.c, .int .i64 q.a, .int .i64 q.r, .int .i64 q.t, .int .i64 q.y] 64))
    have HZ2 := kzq HZ1 hba.size
    have HGgx : Hid (w.heap.size + 1 + 1 < w1.heap.size) := Lib.hid Hr1.out.lt
    clear hba Hd1 Hm1 Hr1 HB1 HZ1
    go_upto_region 26 with fail
    clear a2 c0 c1 c2 c3 c4 c5 c6 c7 hk0 hkI
    generalize (w1.alloc (.cells #[.int .i64 q.s, .int .i64 q.n, .int .i64 q.b, .int .i64 q.c, .int .i64 q.a, .int .i64 q.r, .int .i64 q.t, .int .i64 q.y] 64)) = W3 at *
    generalize hggx : w1.heap.size = gx at *
    clear hggx
    have x0 : W3.cell? ⟨gx, 0, none⟩ = some (.int .i64 q.s) := Hx2.out.cell 0
    have a0 : W3.cell? ⟨w.heap.size, 0, none⟩ = some (.int .i64 d.me) := Hd2.out.cell 0
    by_cases hs0 : q.s = d.me
    ·skip
     have hs1 : (q.s != d.me) = false := by simpa using hs0
     have HS0 := Lib.hid hs0
     have HSA : Hid (soldA d m.s m.n = (q, 0)) := Lib.hid (by unfold soldA; rw [HFX.out]; dsimp only; rw [if_pos hs0])
     have HQB : Hid (q.b ≠ d.me) := Lib.hid (fun h => (chk_ok HQC.out.1).1.2.2 (hs0.trans h.symm))
     go_upto_region 28 with fail
     clear hs0 hs1 x0 a0
     have m0 : W3.cell? ⟨(w.heap.size + 1), 0, none⟩ = some (.int .i64 m.k) := Hm2.out.cell 0
     by_cases hk3 : m.k = 3
     ·skip
      have hk4 : (m.k == 3) = true := by simpa using hk3
      have HK3 := Lib.hid hk3
      clear hk3
      go_upto_region 29 with fail
      clear hk4 m0
      have HG := Lib.hid (refact_any q 4 (m.a) W3 HQR.out)
      obtain ⟨pa, hpa⟩ : ∃ pa, actI q 4 (m.a) = pa := ⟨_, rfl⟩
      rw [hpa] at HG
      have HPA := Lib.hid hpa
      clear hpa
      obtain ⟨y, e⟩ := pa
      unfold ansI Itm.v at HG
      have x0 : W3.cell? ⟨gx, 0, none⟩ = some (.int .i64 q.s) := Hx2.out.cell 0
      have x1 : W3.cell? ⟨gx, 1, none⟩ = some (.int .i64 q.n) := Hx2.out.cell 1
      have x2 : W3.cell? ⟨gx, 2, none⟩ = some (.int .i64 q.b) := Hx2.out.cell 2
      have x3 : W3.cell? ⟨gx, 3, none⟩ = some (.int .i64 q.c) := Hx2.out.cell 3
      have x4 : W3.cell? ⟨gx, 4, none⟩ = some (.int .i64 q.a) := Hx2.out.cell 4
      have x5 : W3.cell? ⟨gx, 5, none⟩ = some (.int .i64 q.r) := Hx2.out.cell 5
      have x6 : W3.cell? ⟨gx, 6, none⟩ = some (.int .i64 q.t) := Hx2.out.cell 6
      have x7 : W3.cell? ⟨gx, 7, none⟩ = some (.int .i64 q.y) := Hx2.out.cell 7
      have m7 : W3.cell? ⟨(w.heap.size + 1), 7, none⟩ = some (.int .i64 m.a) := Hm2.out.cell 7
      go_wp2_with fail
      clear x0 x1 x2 x3 x4 x5 x6 x7 m7
      refine HG.out.mono ?_
      rintro y9 W5a ⟨rfl, hb⟩
      clear HG
      have Hd3 := kbq Hd2 hb
      have Hm3 := kbq Hm2 hb
      have Hr3 := kbq Hr2 hb
      have Hx3 := kbq Hx2 hb
      have HB3 := ktq HB2 hb
      have HZ3 := kzq HZ2 hb.size
      clear Hd2 Hm2 Hr2 Hx2 HB2 HZ2
      clear hb
      have hba := oneB W5a (.cells #[.int .i64 y.s, .int .i64 y.n, .int .i64 y.b, .int .i64 y.c, .int .i64 y.a, .int .i64 y.r, .int .i64 y.t, .int .i64 y.y] 64)
      have Hd4 := kbq Hd3 hba
      have Hm4 := kbq Hm3 hba
      have Hr4 := kbq Hr3 hba
      have Hx4 := kbq Hx3 hba
      have Hy4 := Lib.hid (Blk.new W5a #[.int .i64 y.s, .int .i64 y.n, .int .i64 y.b, .int .i64 y.c, .int .i64 y.a, .int .i64 y.r, .int .i64 y.t, .int .i64 y.y] 64)
      have HB4 := Lib.hid (HB3.out.alloc HB3.out.size (.cells #[.int .i64 y.s, .int .i64 y.n, .int .i64 y.b, .int .i64 y.c, .int .i64 y.a, .int .i64 y.r, .int .i64 y.t, .int .i64 y.y] 64))
      have HZ4 := kzq HZ3 hba.size
      have HGgy : Hid (w.heap.size + 1 + 1 < W5a.heap.size) := Lib.hid Hr3.out.lt
      clear hba Hd3 Hm3 Hr3 Hx3 HB3 HZ3
      go_upto_region 30 with fail
      generalize (W5a.alloc (.cells #[.int .i64 y.s, .int .i64 y.n, .int .i64 y.b, .int .i64 y.c, .int .i64 y.a, .int .i64 y.r, .int .i64 y.t, .int .i64 y.y] 64)) = W5 at *
      generalize hggy : W5a.heap.size = gy at *
      clear hggy
      have HYC : Hid (chkI y = 0 ∧ y.s = q.s ∧ y.b = q.b) := Lib.hid (by
       have h1 := adj_chk (x := q) (n := m.a) HQC.out.1
       have h2 : adjI q m.a = (y, e) := HPA.out
       rw [h2] at h1
       exact h1)
      by_cases he0 : e = 0
      ·skip
       subst he0
       go_upto_region 32 with fail
       have Hx4q := Hy4
       clear Hx4 Hy4
       have Hx4 := Hx4q
       clear Hx4q
       obtain rfl : R = (d.put y, [(y.b, aboutM 6 y)], 0) := by
        rw [← HA.out]
        unfold clientM
        rw [if_neg HK1.out, if_neg HK2.out]
        rw [if_pos HK3.out, HSA.out]
        have h1 : thenA (q, 0) (fun x => adjI x m.a) = (y, 0) := by rw [← HPA.out]; unfold thenA; rw [if_pos rfl]; rfl
        rw [h1]
        refine beh_ok0 ?_
        unfold toI
        rw [if_neg (by rw [HYC.out.2.2]; exact HQB.out)]
       have HWL3 : Hid (w.heap.size + 1 + 1 + 1 ≤ W5.heap.size) := Lib.hid Hr4.out.lt
       have hbd := (Below.refl W5.heap.size W5).drew
       have Hd5 := kbq Hd4 hbd
       have Hm5 := kbq Hm4 hbd
       have Hr5 := kbq Hr4 hbd
       have Hx5 := kbq Hx4 hbd
       have HB5 := ktq HB4 hbd
       have HZ5 := kzq HZ4 hbd.size
       clear Hd4 Hm4 Hr4 Hx4 HB4 HZ4
       refine wp_region_held_drew (S := fun w' => w'.cell? ⟨w.heap.size, 0, none⟩ = some (.int .i64 d.me) ∧ w'.cell? ⟨w.heap.size, 1, none⟩ = some (.int .i64 d.far) ∧ w'.cell? ⟨w.heap.size, 2, none⟩ = some (.slice (some ⟨b, o, none⟩) xs.length c) ∧ w'.cell? ⟨w.heap.size, 3, none⟩ = some (.slice po os.length co) ∧ w'.cell? ⟨gy, 0, none⟩ = some (.int .i64 y.s) ∧ w'.cell? ⟨gy, 1, none⟩ = some (.int .i64 y.n) ∧ w'.cell? ⟨gy, 2, none⟩ = some (.int .i64 y.b) ∧ w'.cell? ⟨gy, 3, none⟩ = some (.int .i64 y.c) ∧ w'.cell? ⟨gy, 4, none⟩ = some (.int .i64 y.a) ∧ w'.cell? ⟨gy, 5, none⟩ = some (.int .i64 y.r) ∧ w'.cell? ⟨gy, 6, none⟩ = some (.int .i64 y.t) ∧ w'.cell? ⟨gy, 7, none⟩ = some (.int .i64 y.y)) (by kernel_rfl) ⟨Hd5.out.cell 0, Hd5.out.cell 1, Hd5.out.cell 2, Hd5.out.cell 3, Hx5.out.cell 0, Hx5.out.cell 1, Hx5.out.cell 2, Hx5.out.cell 3, Hx5.out.cell 4, Hx5.out.cell 5, Hx5.out.cell 6, Hx5.out.cell 7⟩ (fun hS0 => ?_)
       have HWD3 := Lib.hid (Nat.le_trans HWL3.out hbd.size)
       clear HWL3
       generalize W5.drew = WD at *
       clear hbd
       refine tkq 0 ?_
       refine tkq 1 ?_
       refine tkq 3 ?_
       refine tkq 4 ?_
       refine tkq 5 ?_
       refine rdq 2 (fun K hK => ?_)
       have HG := Lib.hid (ckeep_any WD d.me d.far (some ⟨b, o, none⟩) po xs.length c os.length co y xs (HD.out.kept HB5.out).row rfl (by have := HLN.out; omega))
       unfold Itm.v at HG
       try dsimp only at HG
       go_simp
       go_at_call 37
       refine HG.out.mono ?_
       rintro y9 w7 ⟨r9, p9, n9, c9, ha9, rfl, hown9, hn9, hb⟩
       clear HG
       have HP9 := Lib.hid (cput_perm (x := y) HD.out.px HSX.out ha9)
       have HO9 := Lib.hid (hown9.less (base' := w.heap.size + 1 + 1 + 1) HWD3.out)
       have HWD4 := Lib.hid (Nat.le_trans HWD3.out hb.size)
       generalize cputL xs y r9 = ys at *
       subst hn9
       clear ha9 hown9
       have Hd6 := kbq Hd5 hb
       have Hm6 := kbq Hm5 hb
       have Hr6 := kbq Hr5 hb
       have Hx6 := kbq Hx5 hb
       have HB6 := ktq HB5 hb
       have HZ6 := kzq HZ5 hb.size
       clear Hd5 Hm5 Hr5 Hx5 HB5 HZ5
       clear hb hS0
       try go_wp2_with fail
       refine hK.out _ _ ⟨Hd6.out.cell 0, Hd6.out.cell 1, Hd6.out.cell 2, Hd6.out.cell 3, Hx6.out.cell 0, Hx6.out.cell 1, Hx6.out.cell 2, Hx6.out.cell 3, Hx6.out.cell 4, Hx6.out.cell 5, Hx6.out.cell 6, Hx6.out.cell 7⟩ (fun hS0 => ?_)
       clear hK K
       try simp only [Act.put, List.getElem_toArray, List.getElem_cons_succ, List.getElem_cons_zero, List.setIfInBounds_toArray, List.set_cons_zero, List.set_cons_succ]
       have Sy6 := HO9
       clear HO9
       refine rdq 6 (fun K hK => ?_)
       have HG := Lib.hid (rabout_any y.b 6 y w7)
       unfold Itm.v at HG
       try dsimp only at HG
       go_simp
       go_at_call 38
       refine HG.out.mono ?_
       rintro y9 w8 ⟨vs9, rfl, hso9, hb⟩
       clear HG
       have HS9 := Lib.hid (hso9.less (base' := w.heap.size + 1 + 1 + 1) HWD4.out)
       clear hso9
       have Hd7 := kbq Hd6 hb
       have Hm7 := kbq Hm6 hb
       have Hr7 := kbq Hr6 hb
       have Hx7 := kbq Hx6 hb
       have Sy7 := Lib.hid (Sy6.out.later hb)
       have HB7 := ktq HB6 hb
       have HZ7 := kzq HZ6 hb.size
       clear Hd6 Hm6 Hr6 Hx6 Sy6 HB6 HZ6
       clear hb hS0
       try go_wp2_with fail
       refine hK.out _ _ ⟨Hd7.out.cell 0, Hd7.out.cell 1, Hd7.out.cell 2, Hd7.out.cell 3, Hx7.out.cell 0, Hx7.out.cell 1, Hx7.out.cell 2, Hx7.out.cell 3, Hx7.out.cell 4, Hx7.out.cell 5, Hx7.out.cell 6, Hx7.out.cell 7⟩ (fun hS0 => ?_)
       clear hK K
       try simp only [Act.put, List.getElem_toArray, List.getElem_cons_succ, List.getElem_cons_zero, List.setIfInBounds_toArray, List.set_cons_zero, List.set_cons_succ]
       have Sz7 := HS9
       clear HS9
       refine rdq 7 (fun K hK => ?_)
       have z0 : w8.cell? ⟨(w.heap.size + 1 + 1), 0, none⟩ = some (.int .i64 0) := Hr7.out.cell 0
       have z1 : w8.cell? ⟨(w.heap.size + 1 + 1), 1, none⟩ = some (.int .i64 0) := Hr7.out.cell 1
       have z2 : w8.cell? ⟨(w.heap.size + 1 + 1), 2, none⟩ = some (.slice none 0 0) := Hr7.out.cell 2
       have z3 : w8.cell? ⟨(w.heap.size + 1 + 1), 3, none⟩ = some (.slice none 0 0) := Hr7.out.cell 3
       have f0 := Hr7.out.free 0
       have f1 := Hr7.out.free 1
       have f2 := Hr7.out.free 2
       have f3 := Hr7.out.free 3
       go_simp
       clear z0 f0 z1 f1 z2 f2 z3 f3
       have hch := Lib.hid (((((Chg.refl (w.heap.size + 1 + 1) w8).set 0 (.int .i64 d.me)).set 1 (.int .i64 d.far)).set 2 (.slice p9 ys.length c9)).set 3 (.slice po os.length co))
       have Hr8 : Hid (Blk _ (w.heap.size + 1 + 1) #[.int .i64 d.me, .int .i64 d.far, .slice p9 ys.length c9, .slice po os.length co] 34) := Lib.hid ((((Hr7.out.set 0 (.int .i64 d.me)).set 1 (.int .i64 d.far)).set 2 (.slice p9 ys.length c9)).set 3 (.slice po os.length co))
       have HB8 := ksq HB7 hch (by show w.heap.size ≤ (w.heap.size + 1 + 1); have := HGgx.out; have := HGgy.out; omega)
       have HZ8 := kzq HZ7 hch.out.size
       have Hd8 := kcq Hd7 hch (by have := HGgx.out; have := HGgy.out; omega)
       have Hm8 := kcq Hm7 hch (by have := HGgx.out; have := HGgy.out; omega)
       have Hx8 := kcq Hx7 hch (by have := HGgx.out; have := HGgy.out; omega)
       have Sy8 := Lib.hid (Sy7.out.stay (fun b hb => hch.out.2 b (Sy7.out.lt b hb) (by have h1 := Sy7.out.block_ge b hb; have := HGgx.out; have := HGgy.out; omega)))
       have Sz8 := Lib.hid (Sz7.out.stay (fun b hb => hch.out.2 b (Sz7.out.lt b hb) (by have h1 := Sz7.out.block_ge b hb; have := HGgx.out; have := HGgy.out; omega)))
       clear hch hS0 Hd7 Hm7 Hr7 Hx7 Sy7 Sz7 HB7 HZ7
       generalize ((((w8.setCell ⟨w.heap.size + 1 + 1, 0, none⟩ (.int .i64 d.me)).setCell ⟨w.heap.size + 1 + 1, 1, none⟩ (.int .i64 d.far)).setCell ⟨w.heap.size + 1 + 1, 2, none⟩ (.slice p9 ys.length c9)).setCell ⟨w.heap.size + 1 + 1, 3, none⟩ (.slice po os.length co)) = W9 at *
       refine hK.out _ _ ⟨Hd8.out.cell 0, Hd8.out.cell 1, Hd8.out.cell 2, Hd8.out.cell 3, Hx8.out.cell 0, Hx8.out.cell 1, Hx8.out.cell 2, Hx8.out.cell 3, Hx8.out.cell 4, Hx8.out.cell 5, Hx8.out.cell 6, Hx8.out.cell 7⟩ (fun hS0 => ?_)
       clear hK K
       try simp only [Act.put, List.getElem_toArray, List.getElem_cons_succ, List.getElem_cons_zero, List.setIfInBounds_toArray, List.set_cons_zero, List.set_cons_succ]
       refine tkq 8 ?_
       refine tkq 9 ?_
       refine wpAnyH_done (by kernel_rfl) ?_ _
       clear hS0
       go_wp2_with fail
       have hfr := Hr8.out
       refine bodyPost_ret (v := .tuple #[.agg #[.int .i64 d.me, .int .i64 d.far, .slice p9 ys.length c9, .slice po os.length co], vs9, .int .i64 0]) (by simp [results, Try.results21, go_sem, hfr.cell 0, hfr.cell 1, hfr.cell 2, hfr.cell 3]) rfl ⟨_, _, _, _, _, _, _, rfl, ⟨Sy8.out.row, (HD.out.kept HB8.out).rowo, Sy8.out.at_P (fun b h => .inr (by omega)), HD.out.ao.imp (fun b h => .inl h.1), HP9.out, HD.out.po⟩, ?_, HB8.out⟩
       exact Sz8.out.less (by omega)
      ·skip
       have he1 : (e != 0) = true := by simpa using he0
       go_upto_region 31 with fail
       clear he1
       obtain rfl : R = (d, [], e) := by
        rw [← HA.out]
        unfold clientM
        rw [if_neg HK1.out, if_neg HK2.out]
        rw [if_pos HK3.out, HSA.out]
        have h1 : thenA (q, 0) (fun x => adjI x m.a) = (y, e) := by rw [← HPA.out]; unfold thenA; rw [if_pos rfl]; rfl
        rw [h1]
        exact beh_err he0
       have a0 : W5.cell? ⟨w.heap.size, 0, none⟩ = some (.int .i64 d.me) := Hd4.out.cell 0
       have a1 : W5.cell? ⟨w.heap.size, 1, none⟩ = some (.int .i64 d.far) := Hd4.out.cell 1
       have a2 : W5.cell? ⟨w.heap.size, 2, none⟩ = some (.slice (some ⟨b, o, none⟩) xs.length c) := Hd4.out.cell 2
       have a3 : W5.cell? ⟨w.heap.size, 3, none⟩ = some (.slice po os.length co) := Hd4.out.cell 3
       go_wp2_with (with_reducible refine stop_storeT 34 (.tmp 4) (.tmp 161) rfl ?_)
       clear a0 a1 a2 a3
       have HTH : Hid (W5.there (w.heap.size + 1 + 1) 0 4) := Hr4.out.thereAt
       have hch : Hid (Chg (w.heap.size + 1 + 1) W5 (W5.setCells (w.heap.size + 1 + 1) 0 (#[.int .i64 d.me, .int .i64 d.far, .slice (some ⟨b, o, none⟩) xs.length c, .slice po os.length co] : Array Value).toList)) := Lib.hid (chg_putL _ _ _ _ _ (Chg.refl _ W5))
       have Hr5 : Hid (Blk (W5.setCells (w.heap.size + 1 + 1) 0 (#[.int .i64 d.me, .int .i64 d.far, .slice (some ⟨b, o, none⟩) xs.length c, .slice po os.length co] : Array Value).toList) (w.heap.size + 1 + 1) #[.int .i64 d.me, .int .i64 d.far, .slice (some ⟨b, o, none⟩) xs.length c, .slice po os.length co] 34) := Lib.hid (blk_put_all Hr4.out _ rfl)
       have HB5 : Hid (Below w.heap.size w (W5.setCells (w.heap.size + 1 + 1) 0 (#[.int .i64 d.me, .int .i64 d.far, .slice (some ⟨b, o, none⟩) xs.length c, .slice po os.length co] : Array Value).toList)) := Lib.hid (below_put (by have := HGgx.out; have := HGgy.out; omega) _ _ _ _ HB4.out)
       have HZ5 := kzq HZ4 hch.out.size
       have Hd5 := kcq Hd4 hch (by have := HGgx.out; have := HGgy.out; omega)
       have Hm5 := kcq Hm4 hch (by have := HGgx.out; have := HGgy.out; omega)
       have Hx5 := kcq Hx4 hch (by have := HGgx.out; have := HGgy.out; omega)
       have Hy5 := kcq Hy4 hch (by have := HGgx.out; have := HGgy.out; omega)
       clear hch Hd4 Hm4 Hr4 Hx4 Hy4 HB4 HZ4
       refine wpList_store_mid rfl 34 (.tmp 4) (.tmp 161) rfl (w.heap.size + 1 + 1) 0 #[.int .i64 d.me, .int .i64 d.far, .slice (some ⟨b, o, none⟩) xs.length c, .slice po os.length co] rfl rfl HTH.out (infoDC rfl) (all_oneCell_toArray (by intro u hu; simp at hu; rcases hu with rfl | rfl | rfl | rfl <;> rfl)) ?_
       generalize (W5.setCells (w.heap.size + 1 + 1) 0 (#[.int .i64 d.me, .int .i64 d.far, .slice (some ⟨b, o, none⟩) xs.length c, .slice po os.length co] : Array Value).toList) = WR at *
       clear HTH
       go_wp2_with fail
       have hfr := Hr5.out
       refine bodyPost_ret (v := .tuple #[.agg #[.int .i64 d.me, .int .i64 d.far, .slice (some ⟨b, o, none⟩) xs.length c, .slice po os.length co], .slice none 0 0, .int .i64 e]) (by simp [results, Try.results21, go_sem, hfr.cell 0, hfr.cell 1, hfr.cell 2, hfr.cell 3]) rfl ⟨_, _, _, _, _, _, _, rfl, (HD.out.kept HB5.out).imp (fun b h => .inl h.1), OwnT.nil_ _ _ _ _, HB5.out⟩
     ·skip
      have hk4 : (m.k == 3) = false := by simpa using hk3
      have HK3 := Lib.hid hk3
      clear hk3
      by_cases hk6 : m.k = 16
      ·skip
       have hk7 : (m.k == 16) = true := by simpa using hk6
       have HK6 := Lib.hid hk6
       clear hk6
       go_upto_region 33 with fail
       have x5 : W3.cell? ⟨gx, 5, none⟩ = some (.int .i64 q.r) := Hx2.out.cell 5
       have n5 : W3.cell? ⟨(w.heap.size + 1), 5, none⟩ = some (.int .i64 m.r) := Hm2.out.cell 5
       by_cases hr0 : q.r = m.r
       ·skip
        have hr1 : (q.r != m.r) = false := by simpa using hr0
        have HR0 := Lib.hid hr0
        go_upto_region 35 with fail
        clear hr0 hr1 hk4 hk7 m0 x5 n5
        have HG := Lib.hid (refact_any q 3 (0) W3 HQR.out)
        obtain ⟨pa, hpa⟩ : ∃ pa, actI q 3 (0) = pa := ⟨_, rfl⟩
        rw [hpa] at HG
        have HPA := Lib.hid hpa
        clear hpa
        obtain ⟨y, e⟩ := pa
        unfold ansI Itm.v at HG
        have x0 : W3.cell? ⟨gx, 0, none⟩ = some (.int .i64 q.s) := Hx2.out.cell 0
        have x1 : W3.cell? ⟨gx, 1, none⟩ = some (.int .i64 q.n) := Hx2.out.cell 1
        have x2 : W3.cell? ⟨gx, 2, none⟩ = some (.int .i64 q.b) := Hx2.out.cell 2
        have x3 : W3.cell? ⟨gx, 3, none⟩ = some (.int .i64 q.c) := Hx2.out.cell 3
        have x4 : W3.cell? ⟨gx, 4, none⟩ = some (.int .i64 q.a) := Hx2.out.cell 4
        have x5 : W3.cell? ⟨gx, 5, none⟩ = some (.int .i64 q.r) := Hx2.out.cell 5
        have x6 : W3.cell? ⟨gx, 6, none⟩ = some (.int .i64 q.t) := Hx2.out.cell 6
        have x7 : W3.cell? ⟨gx, 7, none⟩ = some (.int .i64 q.y) := Hx2.out.cell 7
        go_wp2_with fail
        clear x0 x1 x2 x3 x4 x5 x6 x7 
        refine HG.out.mono ?_
        rintro y9 W5a ⟨rfl, hb⟩
        clear HG
        have Hd3 := kbq Hd2 hb
        have Hm3 := kbq Hm2 hb
        have Hr3 := kbq Hr2 hb
        have Hx3 := kbq Hx2 hb
        have HB3 := ktq HB2 hb
        have HZ3 := kzq HZ2 hb.size
        clear Hd2 Hm2 Hr2 Hx2 HB2 HZ2
        clear hb
        have hba := oneB W5a (.cells #[.int .i64 y.s, .int .i64 y.n, .int .i64 y.b, .int .i64 y.c, .int .i64 y.a, .int .i64 y.r, .int .i64 y.t, .int .i64 y.y] 64)
        have Hd4 := kbq Hd3 hba
        have Hm4 := kbq Hm3 hba
        have Hr4 := kbq Hr3 hba
        have Hx4 := kbq Hx3 hba
        have Hy4 := Lib.hid (Blk.new W5a #[.int .i64 y.s, .int .i64 y.n, .int .i64 y.b, .int .i64 y.c, .int .i64 y.a, .int .i64 y.r, .int .i64 y.t, .int .i64 y.y] 64)
        have HB4 := Lib.hid (HB3.out.alloc HB3.out.size (.cells #[.int .i64 y.s, .int .i64 y.n, .int .i64 y.b, .int .i64 y.c, .int .i64 y.a, .int .i64 y.r, .int .i64 y.t, .int .i64 y.y] 64))
        have HZ4 := kzq HZ3 hba.size
        have HGgy : Hid (w.heap.size + 1 + 1 < W5a.heap.size) := Lib.hid Hr3.out.lt
        clear hba Hd3 Hm3 Hr3 Hx3 HB3 HZ3
        go_upto_region 36 with fail
        generalize (W5a.alloc (.cells #[.int .i64 y.s, .int .i64 y.n, .int .i64 y.b, .int .i64 y.c, .int .i64 y.a, .int .i64 y.r, .int .i64 y.t, .int .i64 y.y] 64)) = W5 at *
        generalize hggy : W5a.heap.size = gy at *
        clear hggy
        have HYC : Hid (chkI y = 0 ∧ y.s = q.s ∧ y.b = q.b) := Lib.hid (by
         have h1 := turn_chk (x := q) (f := 2) (t := 4) (.inr (.inr ⟨rfl, rfl⟩)) HQC.out.1
         have h2 : turnI q 2 4 = (y, e) := HPA.out
         rw [h2] at h1
         exact h1)
        by_cases he0 : e = 0
        ·skip
         subst he0
         go_upto_region 38 with fail
         have Hx4q := Hy4
         clear Hx4 Hy4
         have Hx4 := Hx4q
         clear Hx4q
         obtain rfl : R = (d.put y, [(y.b, aboutM 9 y)], 0) := by
          rw [← HA.out]
          unfold clientM
          rw [if_neg HK1.out, if_neg HK2.out]
          rw [if_neg HK3.out, if_neg (by rw [HK6.out]; decide), if_pos HK6.out]
          have h1 : dueI d m = (y, 0) := by
           unfold dueI
           rw [HSA.out, if_neg (by rintro ⟨_, h⟩; exact h HR0.out), ← HPA.out]
           unfold thenA
           rw [if_pos rfl]
           rfl
          rw [h1]
          refine beh_ok0 ?_
          unfold toI
          rw [if_neg (by rw [HYC.out.2.2]; exact HQB.out)]
         have HWL3 : Hid (w.heap.size + 1 + 1 + 1 ≤ W5.heap.size) := Lib.hid Hr4.out.lt
         have hbd := (Below.refl W5.heap.size W5).drew
         have Hd5 := kbq Hd4 hbd
         have Hm5 := kbq Hm4 hbd
         have Hr5 := kbq Hr4 hbd
         have Hx5 := kbq Hx4 hbd
         have HB5 := ktq HB4 hbd
         have HZ5 := kzq HZ4 hbd.size
         clear Hd4 Hm4 Hr4 Hx4 HB4 HZ4
         refine wp_region_held_drew (S := fun w' => w'.cell? ⟨w.heap.size, 0, none⟩ = some (.int .i64 d.me) ∧ w'.cell? ⟨w.heap.size, 1, none⟩ = some (.int .i64 d.far) ∧ w'.cell? ⟨w.heap.size, 2, none⟩ = some (.slice (some ⟨b, o, none⟩) xs.length c) ∧ w'.cell? ⟨w.heap.size, 3, none⟩ = some (.slice po os.length co) ∧ w'.cell? ⟨gy, 0, none⟩ = some (.int .i64 y.s) ∧ w'.cell? ⟨gy, 1, none⟩ = some (.int .i64 y.n) ∧ w'.cell? ⟨gy, 2, none⟩ = some (.int .i64 y.b) ∧ w'.cell? ⟨gy, 3, none⟩ = some (.int .i64 y.c) ∧ w'.cell? ⟨gy, 4, none⟩ = some (.int .i64 y.a) ∧ w'.cell? ⟨gy, 5, none⟩ = some (.int .i64 y.r) ∧ w'.cell? ⟨gy, 6, none⟩ = some (.int .i64 y.t) ∧ w'.cell? ⟨gy, 7, none⟩ = some (.int .i64 y.y)) (by kernel_rfl) ⟨Hd5.out.cell 0, Hd5.out.cell 1, Hd5.out.cell 2, Hd5.out.cell 3, Hx5.out.cell 0, Hx5.out.cell 1, Hx5.out.cell 2, Hx5.out.cell 3, Hx5.out.cell 4, Hx5.out.cell 5, Hx5.out.cell 6, Hx5.out.cell 7⟩ (fun hS0 => ?_)
         have HWD3 := Lib.hid (Nat.le_trans HWL3.out hbd.size)
         clear HWL3
         generalize W5.drew = WD at *
         clear hbd
         refine tkq 0 ?_
         refine tkq 1 ?_
         refine tkq 3 ?_
         refine tkq 4 ?_
         refine tkq 5 ?_
         refine rdq 2 (fun K hK => ?_)
         have HG := Lib.hid (ckeep_any WD d.me d.far (some ⟨b, o, none⟩) po xs.length c os.length co y xs (HD.out.kept HB5.out).row rfl (by have := HLN.out; omega))
         unfold Itm.v at HG
         try dsimp only at HG
         go_simp
         go_at_call 37
         refine HG.out.mono ?_
         rintro y9 w7 ⟨r9, p9, n9, c9, ha9, rfl, hown9, hn9, hb⟩
         clear HG
         have HP9 := Lib.hid (cput_perm (x := y) HD.out.px HSX.out ha9)
         have HO9 := Lib.hid (hown9.less (base' := w.heap.size + 1 + 1 + 1) HWD3.out)
         have HWD4 := Lib.hid (Nat.le_trans HWD3.out hb.size)
         generalize cputL xs y r9 = ys at *
         subst hn9
         clear ha9 hown9
         have Hd6 := kbq Hd5 hb
         have Hm6 := kbq Hm5 hb
         have Hr6 := kbq Hr5 hb
         have Hx6 := kbq Hx5 hb
         have HB6 := ktq HB5 hb
         have HZ6 := kzq HZ5 hb.size
         clear Hd5 Hm5 Hr5 Hx5 HB5 HZ5
         clear hb hS0
         try go_wp2_with fail
         refine hK.out _ _ ⟨Hd6.out.cell 0, Hd6.out.cell 1, Hd6.out.cell 2, Hd6.out.cell 3, Hx6.out.cell 0, Hx6.out.cell 1, Hx6.out.cell 2, Hx6.out.cell 3, Hx6.out.cell 4, Hx6.out.cell 5, Hx6.out.cell 6, Hx6.out.cell 7⟩ (fun hS0 => ?_)
         clear hK K
         try simp only [Act.put, List.getElem_toArray, List.getElem_cons_succ, List.getElem_cons_zero, List.setIfInBounds_toArray, List.set_cons_zero, List.set_cons_succ]
         have Sy6 := HO9
         clear HO9
         refine rdq 6 (fun K hK => ?_)
         have HG := Lib.hid (rabout_any y.b 9 y w7)
         unfold Itm.v at HG
         try dsimp only at HG
         go_simp
         go_at_call 38
         refine HG.out.mono ?_
         rintro y9 w8 ⟨vs9, rfl, hso9, hb⟩
         clear HG
         have HS9 := Lib.hid (hso9.less (base' := w.heap.size + 1 + 1 + 1) HWD4.out)
         clear hso9
         have Hd7 := kbq Hd6 hb
         have Hm7 := kbq Hm6 hb
         have Hr7 := kbq Hr6 hb
         have Hx7 := kbq Hx6 hb
         have Sy7 := Lib.hid (Sy6.out.later hb)
         have HB7 := ktq HB6 hb
         have HZ7 := kzq HZ6 hb.size
         clear Hd6 Hm6 Hr6 Hx6 Sy6 HB6 HZ6
         clear hb hS0
         try go_wp2_with fail
         refine hK.out _ _ ⟨Hd7.out.cell 0, Hd7.out.cell 1, Hd7.out.cell 2, Hd7.out.cell 3, Hx7.out.cell 0, Hx7.out.cell 1, Hx7.out.cell 2, Hx7.out.cell 3, Hx7.out.cell 4, Hx7.out.cell 5, Hx7.out.cell 6, Hx7.out.cell 7⟩ (fun hS0 => ?_)
         clear hK K
         try simp only [Act.put, List.getElem_toArray, List.getElem_cons_succ, List.getElem_cons_zero, List.setIfInBounds_toArray, List.set_cons_zero, List.set_cons_succ]
         have Sz7 := HS9
         clear HS9
         refine rdq 7 (fun K hK => ?_)
         have z0 : w8.cell? ⟨(w.heap.size + 1 + 1), 0, none⟩ = some (.int .i64 0) := Hr7.out.cell 0
         have z1 : w8.cell? ⟨(w.heap.size + 1 + 1), 1, none⟩ = some (.int .i64 0) := Hr7.out.cell 1
         have z2 : w8.cell? ⟨(w.heap.size + 1 + 1), 2, none⟩ = some (.slice none 0 0) := Hr7.out.cell 2
         have z3 : w8.cell? ⟨(w.heap.size + 1 + 1), 3, none⟩ = some (.slice none 0 0) := Hr7.out.cell 3
         have f0 := Hr7.out.free 0
         have f1 := Hr7.out.free 1
         have f2 := Hr7.out.free 2
         have f3 := Hr7.out.free 3
         go_simp
         clear z0 f0 z1 f1 z2 f2 z3 f3
         have hch := Lib.hid (((((Chg.refl (w.heap.size + 1 + 1) w8).set 0 (.int .i64 d.me)).set 1 (.int .i64 d.far)).set 2 (.slice p9 ys.length c9)).set 3 (.slice po os.length co))
         have Hr8 : Hid (Blk _ (w.heap.size + 1 + 1) #[.int .i64 d.me, .int .i64 d.far, .slice p9 ys.length c9, .slice po os.length co] 34) := Lib.hid ((((Hr7.out.set 0 (.int .i64 d.me)).set 1 (.int .i64 d.far)).set 2 (.slice p9 ys.length c9)).set 3 (.slice po os.length co))
         have HB8 := ksq HB7 hch (by show w.heap.size ≤ (w.heap.size + 1 + 1); have := HGgx.out; have := HGgy.out; omega)
         have HZ8 := kzq HZ7 hch.out.size
         have Hd8 := kcq Hd7 hch (by have := HGgx.out; have := HGgy.out; omega)
         have Hm8 := kcq Hm7 hch (by have := HGgx.out; have := HGgy.out; omega)
         have Hx8 := kcq Hx7 hch (by have := HGgx.out; have := HGgy.out; omega)
         have Sy8 := Lib.hid (Sy7.out.stay (fun b hb => hch.out.2 b (Sy7.out.lt b hb) (by have h1 := Sy7.out.block_ge b hb; have := HGgx.out; have := HGgy.out; omega)))
         have Sz8 := Lib.hid (Sz7.out.stay (fun b hb => hch.out.2 b (Sz7.out.lt b hb) (by have h1 := Sz7.out.block_ge b hb; have := HGgx.out; have := HGgy.out; omega)))
         clear hch hS0 Hd7 Hm7 Hr7 Hx7 Sy7 Sz7 HB7 HZ7
         generalize ((((w8.setCell ⟨w.heap.size + 1 + 1, 0, none⟩ (.int .i64 d.me)).setCell ⟨w.heap.size + 1 + 1, 1, none⟩ (.int .i64 d.far)).setCell ⟨w.heap.size + 1 + 1, 2, none⟩ (.slice p9 ys.length c9)).setCell ⟨w.heap.size + 1 + 1, 3, none⟩ (.slice po os.length co)) = W9 at *
         refine hK.out _ _ ⟨Hd8.out.cell 0, Hd8.out.cell 1, Hd8.out.cell 2, Hd8.out.cell 3, Hx8.out.cell 0, Hx8.out.cell 1, Hx8.out.cell 2, Hx8.out.cell 3, Hx8.out.cell 4, Hx8.out.cell 5, Hx8.out.cell 6, Hx8.out.cell 7⟩ (fun hS0 => ?_)
         clear hK K
         try simp only [Act.put, List.getElem_toArray, List.getElem_cons_succ, List.getElem_cons_zero, List.setIfInBounds_toArray, List.set_cons_zero, List.set_cons_succ]
         refine tkq 8 ?_
         refine tkq 9 ?_
         refine wpAnyH_done (by kernel_rfl) ?_ _
         clear hS0
         go_wp2_with fail
         have hfr := Hr8.out
         refine bodyPost_ret (v := .tuple #[.agg #[.int .i64 d.me, .int .i64 d.far, .slice p9 ys.length c9, .slice po os.length co], vs9, .int .i64 0]) (by simp [results, Try.results21, go_sem, hfr.cell 0, hfr.cell 1, hfr.cell 2, hfr.cell 3]) rfl ⟨_, _, _, _, _, _, _, rfl, ⟨Sy8.out.row, (HD.out.kept HB8.out).rowo, Sy8.out.at_P (fun b h => .inr (by omega)), HD.out.ao.imp (fun b h => .inl h.1), HP9.out, HD.out.po⟩, ?_, HB8.out⟩
         exact Sz8.out.less (by omega)
        ·skip
         have he1 : (e != 0) = true := by simpa using he0
         go_upto_region 37 with fail
         clear he1
         obtain rfl : R = (d, [], e) := by
          rw [← HA.out]
          unfold clientM
          rw [if_neg HK1.out, if_neg HK2.out]
          rw [if_neg HK3.out, if_neg (by rw [HK6.out]; decide), if_pos HK6.out]
          have h1 : dueI d m = (y, e) := by
           unfold dueI
           rw [HSA.out, if_neg (by rintro ⟨_, h⟩; exact h HR0.out), ← HPA.out]
           unfold thenA
           rw [if_pos rfl]
           rfl
          rw [h1]
          exact beh_err he0
         have a0 : W5.cell? ⟨w.heap.size, 0, none⟩ = some (.int .i64 d.me) := Hd4.out.cell 0
         have a1 : W5.cell? ⟨w.heap.size, 1, none⟩ = some (.int .i64 d.far) := Hd4.out.cell 1
         have a2 : W5.cell? ⟨w.heap.size, 2, none⟩ = some (.slice (some ⟨b, o, none⟩) xs.length c) := Hd4.out.cell 2
         have a3 : W5.cell? ⟨w.heap.size, 3, none⟩ = some (.slice po os.length co) := Hd4.out.cell 3
         go_wp2_with (with_reducible refine stop_storeT 34 (.tmp 4) (.tmp 188) rfl ?_)
         clear a0 a1 a2 a3
         have HTH : Hid (W5.there (w.heap.size + 1 + 1) 0 4) := Hr4.out.thereAt
         have hch : Hid (Chg (w.heap.size + 1 + 1) W5 (W5.setCells (w.heap.size + 1 + 1) 0 (#[.int .i64 d.me, .int .i64 d.far, .slice (some ⟨b, o, none⟩) xs.length c, .slice po os.length co] : Array Value).toList)) := Lib.hid (chg_putL _ _ _ _ _ (Chg.refl _ W5))
         have Hr5 : Hid (Blk (W5.setCells (w.heap.size + 1 + 1) 0 (#[.int .i64 d.me, .int .i64 d.far, .slice (some ⟨b, o, none⟩) xs.length c, .slice po os.length co] : Array Value).toList) (w.heap.size + 1 + 1) #[.int .i64 d.me, .int .i64 d.far, .slice (some ⟨b, o, none⟩) xs.length c, .slice po os.length co] 34) := Lib.hid (blk_put_all Hr4.out _ rfl)
         have HB5 : Hid (Below w.heap.size w (W5.setCells (w.heap.size + 1 + 1) 0 (#[.int .i64 d.me, .int .i64 d.far, .slice (some ⟨b, o, none⟩) xs.length c, .slice po os.length co] : Array Value).toList)) := Lib.hid (below_put (by have := HGgx.out; have := HGgy.out; omega) _ _ _ _ HB4.out)
         have HZ5 := kzq HZ4 hch.out.size
         have Hd5 := kcq Hd4 hch (by have := HGgx.out; have := HGgy.out; omega)
         have Hm5 := kcq Hm4 hch (by have := HGgx.out; have := HGgy.out; omega)
         have Hx5 := kcq Hx4 hch (by have := HGgx.out; have := HGgy.out; omega)
         have Hy5 := kcq Hy4 hch (by have := HGgx.out; have := HGgy.out; omega)
         clear hch Hd4 Hm4 Hr4 Hx4 Hy4 HB4 HZ4
         refine wpList_store_mid rfl 34 (.tmp 4) (.tmp 188) rfl (w.heap.size + 1 + 1) 0 #[.int .i64 d.me, .int .i64 d.far, .slice (some ⟨b, o, none⟩) xs.length c, .slice po os.length co] rfl rfl HTH.out (infoDC rfl) (all_oneCell_toArray (by intro u hu; simp at hu; rcases hu with rfl | rfl | rfl | rfl <;> rfl)) ?_
         generalize (W5.setCells (w.heap.size + 1 + 1) 0 (#[.int .i64 d.me, .int .i64 d.far, .slice (some ⟨b, o, none⟩) xs.length c, .slice po os.length co] : Array Value).toList) = WR at *
         clear HTH
         go_wp2_with fail
         have hfr := Hr5.out
         refine bodyPost_ret (v := .tuple #[.agg #[.int .i64 d.me, .int .i64 d.far, .slice (some ⟨b, o, none⟩) xs.length c, .slice po os.length co], .slice none 0 0, .int .i64 e]) (by simp [results, Try.results21, go_sem, hfr.cell 0, hfr.cell 1, hfr.cell 2, hfr.cell 3]) rfl ⟨_, _, _, _, _, _, _, rfl, (HD.out.kept HB5.out).imp (fun b h => .inl h.1), OwnT.nil_ _ _ _ _, HB5.out⟩
       ·skip
        have hr1 : (q.r != m.r) = true := by simpa using hr0
        have HR0 := Lib.hid hr0
        go_upto_region 34 with fail
        clear hr0 hr1 hk4 hk7 m0 x5 n5
        obtain rfl : R = (d, [], 90) := by
         rw [← HA.out]
         unfold clientM
         rw [if_neg HK1.out, if_neg HK2.out]
         rw [if_neg HK3.out, if_neg (by rw [HK6.out]; decide), if_pos HK6.out]
         have h1 : dueI d m = (itm0, 90) := by unfold dueI; rw [HSA.out, if_pos ⟨rfl, HR0.out⟩]
         rw [h1]
         exact beh_err (show (90 : Int) ≠ 0 by decide)
        have a0 : W3.cell? ⟨w.heap.size, 0, none⟩ = some (.int .i64 d.me) := Hd2.out.cell 0
        have a1 : W3.cell? ⟨w.heap.size, 1, none⟩ = some (.int .i64 d.far) := Hd2.out.cell 1
        have a2 : W3.cell? ⟨w.heap.size, 2, none⟩ = some (.slice (some ⟨b, o, none⟩) xs.length c) := Hd2.out.cell 2
        have a3 : W3.cell? ⟨w.heap.size, 3, none⟩ = some (.slice po os.length co) := Hd2.out.cell 3
        go_wp2_with (with_reducible refine stop_storeT 34 (.tmp 4) (.tmp 180) rfl ?_)
        clear a0 a1 a2 a3
        have HTH : Hid (W3.there (w.heap.size + 1 + 1) 0 4) := Hr2.out.thereAt
        have hch : Hid (Chg (w.heap.size + 1 + 1) W3 (W3.setCells (w.heap.size + 1 + 1) 0 (#[.int .i64 d.me, .int .i64 d.far, .slice (some ⟨b, o, none⟩) xs.length c, .slice po os.length co] : Array Value).toList)) := Lib.hid (chg_putL _ _ _ _ _ (Chg.refl _ W3))
        have Hr3 : Hid (Blk (W3.setCells (w.heap.size + 1 + 1) 0 (#[.int .i64 d.me, .int .i64 d.far, .slice (some ⟨b, o, none⟩) xs.length c, .slice po os.length co] : Array Value).toList) (w.heap.size + 1 + 1) #[.int .i64 d.me, .int .i64 d.far, .slice (some ⟨b, o, none⟩) xs.length c, .slice po os.length co] 34) := Lib.hid (blk_put_all Hr2.out _ rfl)
        have HB3 : Hid (Below w.heap.size w (W3.setCells (w.heap.size + 1 + 1) 0 (#[.int .i64 d.me, .int .i64 d.far, .slice (some ⟨b, o, none⟩) xs.length c, .slice po os.length co] : Array Value).toList)) := Lib.hid (below_put (by have := HGgx.out; omega) _ _ _ _ HB2.out)
        have HZ3 := kzq HZ2 hch.out.size
        have Hd3 := kcq Hd2 hch (by have := HGgx.out; omega)
        have Hm3 := kcq Hm2 hch (by have := HGgx.out; omega)
        have Hx3 := kcq Hx2 hch (by have := HGgx.out; omega)
        clear hch Hd2 Hm2 Hr2 Hx2 HB2 HZ2
        refine wpList_store_mid rfl 34 (.tmp 4) (.tmp 180) rfl (w.heap.size + 1 + 1) 0 #[.int .i64 d.me, .int .i64 d.far, .slice (some ⟨b, o, none⟩) xs.length c, .slice po os.length co] rfl rfl HTH.out (infoDC rfl) (all_oneCell_toArray (by intro u hu; simp at hu; rcases hu with rfl | rfl | rfl | rfl <;> rfl)) ?_
        generalize (W3.setCells (w.heap.size + 1 + 1) 0 (#[.int .i64 d.me, .int .i64 d.far, .slice (some ⟨b, o, none⟩) xs.length c, .slice po os.length co] : Array Value).toList) = WR at *
        clear HTH
        go_wp2_with fail
        have hfr := Hr3.out
        refine bodyPost_ret (v := .tuple #[.agg #[.int .i64 d.me, .int .i64 d.far, .slice (some ⟨b, o, none⟩) xs.length c, .slice po os.length co], .slice none 0 0, .int .i64 90]) (by simp [results, Try.results21, go_sem, hfr.cell 0, hfr.cell 1, hfr.cell 2, hfr.cell 3]) rfl ⟨_, _, _, _, _, _, _, rfl, (HD.out.kept HB3.out).imp (fun b h => .inl h.1), OwnT.nil_ _ _ _ _, HB3.out⟩
      ·skip
       have hk7 : (m.k == 16) = false := by simpa using hk6
       have HK6 := Lib.hid hk6
       clear hk6
       go_upto_region 35 with fail
       clear hk4 hk7 m0
       have HK4 : Hid (m.k = 4) := Lib.hid (by have h1 := HR3.out; have h2 := HK3.out; have h3 := HK6.out; omega)
       have HG := Lib.hid (refact_any q 3 (0) W3 HQR.out)
       obtain ⟨pa, hpa⟩ : ∃ pa, actI q 3 (0) = pa := ⟨_, rfl⟩
       rw [hpa] at HG
       have HPA := Lib.hid hpa
       clear hpa
       obtain ⟨y, e⟩ := pa
       unfold ansI Itm.v at HG
       have x0 : W3.cell? ⟨gx, 0, none⟩ = some (.int .i64 q.s) := Hx2.out.cell 0
       have x1 : W3.cell? ⟨gx, 1, none⟩ = some (.int .i64 q.n) := Hx2.out.cell 1
       have x2 : W3.cell? ⟨gx, 2, none⟩ = some (.int .i64 q.b) := Hx2.out.cell 2
       have x3 : W3.cell? ⟨gx, 3, none⟩ = some (.int .i64 q.c) := Hx2.out.cell 3
       have x4 : W3.cell? ⟨gx, 4, none⟩ = some (.int .i64 q.a) := Hx2.out.cell 4
       have x5 : W3.cell? ⟨gx, 5, none⟩ = some (.int .i64 q.r) := Hx2.out.cell 5
       have x6 : W3.cell? ⟨gx, 6, none⟩ = some (.int .i64 q.t) := Hx2.out.cell 6
       have x7 : W3.cell? ⟨gx, 7, none⟩ = some (.int .i64 q.y) := Hx2.out.cell 7
       go_wp2_with fail
       clear x0 x1 x2 x3 x4 x5 x6 x7 
       refine HG.out.mono ?_
       rintro y9 W5a ⟨rfl, hb⟩
       clear HG
       have Hd3 := kbq Hd2 hb
       have Hm3 := kbq Hm2 hb
       have Hr3 := kbq Hr2 hb
       have Hx3 := kbq Hx2 hb
       have HB3 := ktq HB2 hb
       have HZ3 := kzq HZ2 hb.size
       clear Hd2 Hm2 Hr2 Hx2 HB2 HZ2
       clear hb
       have hba := oneB W5a (.cells #[.int .i64 y.s, .int .i64 y.n, .int .i64 y.b, .int .i64 y.c, .int .i64 y.a, .int .i64 y.r, .int .i64 y.t, .int .i64 y.y] 64)
       have Hd4 := kbq Hd3 hba
       have Hm4 := kbq Hm3 hba
       have Hr4 := kbq Hr3 hba
       have Hx4 := kbq Hx3 hba
       have Hy4 := Lib.hid (Blk.new W5a #[.int .i64 y.s, .int .i64 y.n, .int .i64 y.b, .int .i64 y.c, .int .i64 y.a, .int .i64 y.r, .int .i64 y.t, .int .i64 y.y] 64)
       have HB4 := Lib.hid (HB3.out.alloc HB3.out.size (.cells #[.int .i64 y.s, .int .i64 y.n, .int .i64 y.b, .int .i64 y.c, .int .i64 y.a, .int .i64 y.r, .int .i64 y.t, .int .i64 y.y] 64))
       have HZ4 := kzq HZ3 hba.size
       have HGgy : Hid (w.heap.size + 1 + 1 < W5a.heap.size) := Lib.hid Hr3.out.lt
       clear hba Hd3 Hm3 Hr3 Hx3 HB3 HZ3
       go_upto_region 36 with fail
       generalize (W5a.alloc (.cells #[.int .i64 y.s, .int .i64 y.n, .int .i64 y.b, .int .i64 y.c, .int .i64 y.a, .int .i64 y.r, .int .i64 y.t, .int .i64 y.y] 64)) = W5 at *
       generalize hggy : W5a.heap.size = gy at *
       clear hggy
       have HYC : Hid (chkI y = 0 ∧ y.s = q.s ∧ y.b = q.b) := Lib.hid (by
        have h1 := turn_chk (x := q) (f := 2) (t := 4) (.inr (.inr ⟨rfl, rfl⟩)) HQC.out.1
        have h2 : turnI q 2 4 = (y, e) := HPA.out
        rw [h2] at h1
        exact h1)
       by_cases he0 : e = 0
       ·skip
        subst he0
        go_upto_region 38 with fail
        have Hx4q := Hy4
        clear Hx4 Hy4
        have Hx4 := Hx4q
        clear Hx4q
        obtain rfl : R = (d.put y, [(y.b, aboutM 9 y)], 0) := by
         rw [← HA.out]
         unfold clientM
         rw [if_neg HK1.out, if_neg HK2.out]
         rw [if_neg HK3.out, if_pos HK4.out, HSA.out]
         have h1 : thenA (q, 0) (fun x => turnI x 2 4) = (y, 0) := by rw [← HPA.out]; unfold thenA; rw [if_pos rfl]; rfl
         rw [h1]
         refine beh_ok0 ?_
         unfold toI
         rw [if_neg (by rw [HYC.out.2.2]; exact HQB.out)]
        have HWL3 : Hid (w.heap.size + 1 + 1 + 1 ≤ W5.heap.size) := Lib.hid Hr4.out.lt
        have hbd := (Below.refl W5.heap.size W5).drew
        have Hd5 := kbq Hd4 hbd
        have Hm5 := kbq Hm4 hbd
        have Hr5 := kbq Hr4 hbd
        have Hx5 := kbq Hx4 hbd
        have HB5 := ktq HB4 hbd
        have HZ5 := kzq HZ4 hbd.size
        clear Hd4 Hm4 Hr4 Hx4 HB4 HZ4
        refine wp_region_held_drew (S := fun w' => w'.cell? ⟨w.heap.size, 0, none⟩ = some (.int .i64 d.me) ∧ w'.cell? ⟨w.heap.size, 1, none⟩ = some (.int .i64 d.far) ∧ w'.cell? ⟨w.heap.size, 2, none⟩ = some (.slice (some ⟨b, o, none⟩) xs.length c) ∧ w'.cell? ⟨w.heap.size, 3, none⟩ = some (.slice po os.length co) ∧ w'.cell? ⟨gy, 0, none⟩ = some (.int .i64 y.s) ∧ w'.cell? ⟨gy, 1, none⟩ = some (.int .i64 y.n) ∧ w'.cell? ⟨gy, 2, none⟩ = some (.int .i64 y.b) ∧ w'.cell? ⟨gy, 3, none⟩ = some (.int .i64 y.c) ∧ w'.cell? ⟨gy, 4, none⟩ = some (.int .i64 y.a) ∧ w'.cell? ⟨gy, 5, none⟩ = some (.int .i64 y.r) ∧ w'.cell? ⟨gy, 6, none⟩ = some (.int .i64 y.t) ∧ w'.cell? ⟨gy, 7, none⟩ = some (.int .i64 y.y)) (by kernel_rfl) ⟨Hd5.out.cell 0, Hd5.out.cell 1, Hd5.out.cell 2, Hd5.out.cell 3, Hx5.out.cell 0, Hx5.out.cell 1, Hx5.out.cell 2, Hx5.out.cell 3, Hx5.out.cell 4, Hx5.out.cell 5, Hx5.out.cell 6, Hx5.out.cell 7⟩ (fun hS0 => ?_)
        have HWD3 := Lib.hid (Nat.le_trans HWL3.out hbd.size)
        clear HWL3
        generalize W5.drew = WD at *
        clear hbd
        refine tkq 0 ?_
        refine tkq 1 ?_
        refine tkq 3 ?_
        refine tkq 4 ?_
        refine tkq 5 ?_
        refine rdq 2 (fun K hK => ?_)
        have HG := Lib.hid (ckeep_any WD d.me d.far (some ⟨b, o, none⟩) po xs.length c os.length co y xs (HD.out.kept HB5.out).row rfl (by have := HLN.out; omega))
        unfold Itm.v at HG
        try dsimp only at HG
        go_simp
        go_at_call 37
        refine HG.out.mono ?_
        rintro y9 w7 ⟨r9, p9, n9, c9, ha9, rfl, hown9, hn9, hb⟩
        clear HG
        have HP9 := Lib.hid (cput_perm (x := y) HD.out.px HSX.out ha9)
        have HO9 := Lib.hid (hown9.less (base' := w.heap.size + 1 + 1 + 1) HWD3.out)
        have HWD4 := Lib.hid (Nat.le_trans HWD3.out hb.size)
        generalize cputL xs y r9 = ys at *
        subst hn9
        clear ha9 hown9
        have Hd6 := kbq Hd5 hb
        have Hm6 := kbq Hm5 hb
        have Hr6 := kbq Hr5 hb
        have Hx6 := kbq Hx5 hb
        have HB6 := ktq HB5 hb
        have HZ6 := kzq HZ5 hb.size
        clear Hd5 Hm5 Hr5 Hx5 HB5 HZ5
        clear hb hS0
        try go_wp2_with fail
        refine hK.out _ _ ⟨Hd6.out.cell 0, Hd6.out.cell 1, Hd6.out.cell 2, Hd6.out.cell 3, Hx6.out.cell 0, Hx6.out.cell 1, Hx6.out.cell 2, Hx6.out.cell 3, Hx6.out.cell 4, Hx6.out.cell 5, Hx6.out.cell 6, Hx6.out.cell 7⟩ (fun hS0 => ?_)
        clear hK K
        try simp only [Act.put, List.getElem_toArray, List.getElem_cons_succ, List.getElem_cons_zero, List.setIfInBounds_toArray, List.set_cons_zero, List.set_cons_succ]
        have Sy6 := HO9
        clear HO9
        refine rdq 6 (fun K hK => ?_)
        have HG := Lib.hid (rabout_any y.b 9 y w7)
        unfold Itm.v at HG
        try dsimp only at HG
        go_simp
        go_at_call 38
        refine HG.out.mono ?_
        rintro y9 w8 ⟨vs9, rfl, hso9, hb⟩
        clear HG
        have HS9 := Lib.hid (hso9.less (base' := w.heap.size + 1 + 1 + 1) HWD4.out)
        clear hso9
        have Hd7 := kbq Hd6 hb
        have Hm7 := kbq Hm6 hb
        have Hr7 := kbq Hr6 hb
        have Hx7 := kbq Hx6 hb
        have Sy7 := Lib.hid (Sy6.out.later hb)
        have HB7 := ktq HB6 hb
        have HZ7 := kzq HZ6 hb.size
        clear Hd6 Hm6 Hr6 Hx6 Sy6 HB6 HZ6
        clear hb hS0
        try go_wp2_with fail
        refine hK.out _ _ ⟨Hd7.out.cell 0, Hd7.out.cell 1, Hd7.out.cell 2, Hd7.out.cell 3, Hx7.out.cell 0, Hx7.out.cell 1, Hx7.out.cell 2, Hx7.out.cell 3, Hx7.out.cell 4, Hx7.out.cell 5, Hx7.out.cell 6, Hx7.out.cell 7⟩ (fun hS0 => ?_)
        clear hK K
        try simp only [Act.put, List.getElem_toArray, List.getElem_cons_succ, List.getElem_cons_zero, List.setIfInBounds_toArray, List.set_cons_zero, List.set_cons_succ]
        have Sz7 := HS9
        clear HS9
        refine rdq 7 (fun K hK => ?_)
        have z0 : w8.cell? ⟨(w.heap.size + 1 + 1), 0, none⟩ = some (.int .i64 0) := Hr7.out.cell 0
        have z1 : w8.cell? ⟨(w.heap.size + 1 + 1), 1, none⟩ = some (.int .i64 0) := Hr7.out.cell 1
        have z2 : w8.cell? ⟨(w.heap.size + 1 + 1), 2, none⟩ = some (.slice none 0 0) := Hr7.out.cell 2
        have z3 : w8.cell? ⟨(w.heap.size + 1 + 1), 3, none⟩ = some (.slice none 0 0) := Hr7.out.cell 3
        have f0 := Hr7.out.free 0
        have f1 := Hr7.out.free 1
        have f2 := Hr7.out.free 2
        have f3 := Hr7.out.free 3
        go_simp
        clear z0 f0 z1 f1 z2 f2 z3 f3
        have hch := Lib.hid (((((Chg.refl (w.heap.size + 1 + 1) w8).set 0 (.int .i64 d.me)).set 1 (.int .i64 d.far)).set 2 (.slice p9 ys.length c9)).set 3 (.slice po os.length co))
        have Hr8 : Hid (Blk _ (w.heap.size + 1 + 1) #[.int .i64 d.me, .int .i64 d.far, .slice p9 ys.length c9, .slice po os.length co] 34) := Lib.hid ((((Hr7.out.set 0 (.int .i64 d.me)).set 1 (.int .i64 d.far)).set 2 (.slice p9 ys.length c9)).set 3 (.slice po os.length co))
        have HB8 := ksq HB7 hch (by show w.heap.size ≤ (w.heap.size + 1 + 1); have := HGgx.out; have := HGgy.out; omega)
        have HZ8 := kzq HZ7 hch.out.size
        have Hd8 := kcq Hd7 hch (by have := HGgx.out; have := HGgy.out; omega)
        have Hm8 := kcq Hm7 hch (by have := HGgx.out; have := HGgy.out; omega)
        have Hx8 := kcq Hx7 hch (by have := HGgx.out; have := HGgy.out; omega)
        have Sy8 := Lib.hid (Sy7.out.stay (fun b hb => hch.out.2 b (Sy7.out.lt b hb) (by have h1 := Sy7.out.block_ge b hb; have := HGgx.out; have := HGgy.out; omega)))
        have Sz8 := Lib.hid (Sz7.out.stay (fun b hb => hch.out.2 b (Sz7.out.lt b hb) (by have h1 := Sz7.out.block_ge b hb; have := HGgx.out; have := HGgy.out; omega)))
        clear hch hS0 Hd7 Hm7 Hr7 Hx7 Sy7 Sz7 HB7 HZ7
        generalize ((((w8.setCell ⟨w.heap.size + 1 + 1, 0, none⟩ (.int .i64 d.me)).setCell ⟨w.heap.size + 1 + 1, 1, none⟩ (.int .i64 d.far)).setCell ⟨w.heap.size + 1 + 1, 2, none⟩ (.slice p9 ys.length c9)).setCell ⟨w.heap.size + 1 + 1, 3, none⟩ (.slice po os.length co)) = W9 at *
        refine hK.out _ _ ⟨Hd8.out.cell 0, Hd8.out.cell 1, Hd8.out.cell 2, Hd8.out.cell 3, Hx8.out.cell 0, Hx8.out.cell 1, Hx8.out.cell 2, Hx8.out.cell 3, Hx8.out.cell 4, Hx8.out.cell 5, Hx8.out.cell 6, Hx8.out.cell 7⟩ (fun hS0 => ?_)
        clear hK K
        try simp only [Act.put, List.getElem_toArray, List.getElem_cons_succ, List.getElem_cons_zero, List.setIfInBounds_toArray, List.set_cons_zero, List.set_cons_succ]
        refine tkq 8 ?_
        refine tkq 9 ?_
        refine wpAnyH_done (by kernel_rfl) ?_ _
        clear hS0
        go_wp2_with fail
        have hfr := Hr8.out
        refine bodyPost_ret (v := .tuple #[.agg #[.int .i64 d.me, .int .i64 d.far, .slice p9 ys.length c9, .slice po os.length co], vs9, .int .i64 0]) (by simp [results, Try.results21, go_sem, hfr.cell 0, hfr.cell 1, hfr.cell 2, hfr.cell 3]) rfl ⟨_, _, _, _, _, _, _, rfl, ⟨Sy8.out.row, (HD.out.kept HB8.out).rowo, Sy8.out.at_P (fun b h => .inr (by omega)), HD.out.ao.imp (fun b h => .inl h.1), HP9.out, HD.out.po⟩, ?_, HB8.out⟩
        exact Sz8.out.less (by omega)
       ·skip
        have he1 : (e != 0) = true := by simpa using he0
        go_upto_region 37 with fail
        clear he1
        obtain rfl : R = (d, [], e) := by
         rw [← HA.out]
         unfold clientM
         rw [if_neg HK1.out, if_neg HK2.out]
         rw [if_neg HK3.out, if_pos HK4.out, HSA.out]
         have h1 : thenA (q, 0) (fun x => turnI x 2 4) = (y, e) := by rw [← HPA.out]; unfold thenA; rw [if_pos rfl]; rfl
         rw [h1]
         exact beh_err he0
        have a0 : W5.cell? ⟨w.heap.size, 0, none⟩ = some (.int .i64 d.me) := Hd4.out.cell 0
        have a1 : W5.cell? ⟨w.heap.size, 1, none⟩ = some (.int .i64 d.far) := Hd4.out.cell 1
        have a2 : W5.cell? ⟨w.heap.size, 2, none⟩ = some (.slice (some ⟨b, o, none⟩) xs.length c) := Hd4.out.cell 2
        have a3 : W5.cell? ⟨w.heap.size, 3, none⟩ = some (.slice po os.length co) := Hd4.out.cell 3
        go_wp2_with (with_reducible refine stop_storeT 34 (.tmp 4) (.tmp 188) rfl ?_)
        clear a0 a1 a2 a3
        have HTH : Hid (W5.there (w.heap.size + 1 + 1) 0 4) := Hr4.out.thereAt
        have hch : Hid (Chg (w.heap.size + 1 + 1) W5 (W5.setCells (w.heap.size + 1 + 1) 0 (#[.int .i64 d.me, .int .i64 d.far, .slice (some ⟨b, o, none⟩) xs.length c, .slice po os.length co] : Array Value).toList)) := Lib.hid (chg_putL _ _ _ _ _ (Chg.refl _ W5))
        have Hr5 : Hid (Blk (W5.setCells (w.heap.size + 1 + 1) 0 (#[.int .i64 d.me, .int .i64 d.far, .slice (some ⟨b, o, none⟩) xs.length c, .slice po os.length co] : Array Value).toList) (w.heap.size + 1 + 1) #[.int .i64 d.me, .int .i64 d.far, .slice (some ⟨b, o, none⟩) xs.length c, .slice po os.length co] 34) := Lib.hid (blk_put_all Hr4.out _ rfl)
        have HB5 : Hid (Below w.heap.size w (W5.setCells (w.heap.size + 1 + 1) 0 (#[.int .i64 d.me, .int .i64 d.far, .slice (some ⟨b, o, none⟩) xs.length c, .slice po os.length co] : Array Value).toList)) := Lib.hid (below_put (by have := HGgx.out; have := HGgy.out; omega) _ _ _ _ HB4.out)
        have HZ5 := kzq HZ4 hch.out.size
        have Hd5 := kcq Hd4 hch (by have := HGgx.out; have := HGgy.out; omega)
        have Hm5 := kcq Hm4 hch (by have := HGgx.out; have := HGgy.out; omega)
        have Hx5 := kcq Hx4 hch (by have := HGgx.out; have := HGgy.out; omega)
        have Hy5 := kcq Hy4 hch (by have := HGgx.out; have := HGgy.out; omega)
        clear hch Hd4 Hm4 Hr4 Hx4 Hy4 HB4 HZ4
        refine wpList_store_mid rfl 34 (.tmp 4) (.tmp 188) rfl (w.heap.size + 1 + 1) 0 #[.int .i64 d.me, .int .i64 d.far, .slice (some ⟨b, o, none⟩) xs.length c, .slice po os.length co] rfl rfl HTH.out (infoDC rfl) (all_oneCell_toArray (by intro u hu; simp at hu; rcases hu with rfl | rfl | rfl | rfl <;> rfl)) ?_
        generalize (W5.setCells (w.heap.size + 1 + 1) 0 (#[.int .i64 d.me, .int .i64 d.far, .slice (some ⟨b, o, none⟩) xs.length c, .slice po os.length co] : Array Value).toList) = WR at *
        clear HTH
        go_wp2_with fail
        have hfr := Hr5.out
        refine bodyPost_ret (v := .tuple #[.agg #[.int .i64 d.me, .int .i64 d.far, .slice (some ⟨b, o, none⟩) xs.length c, .slice po os.length co], .slice none 0 0, .int .i64 e]) (by simp [results, Try.results21, go_sem, hfr.cell 0, hfr.cell 1, hfr.cell 2, hfr.cell 3]) rfl ⟨_, _, _, _, _, _, _, rfl, (HD.out.kept HB5.out).imp (fun b h => .inl h.1), OwnT.nil_ _ _ _ _, HB5.out⟩
    ·skip
     have hs1 : (q.s != d.me) = true := by simpa using hs0
     have HS0 := Lib.hid hs0
     go_upto_region 27 with fail
     clear hs0 hs1 x0 a0
     obtain rfl : R = (d, [], 140) := by
      rw [← HA.out]
      have h1 : soldA d m.s m.n = (q, 140) := by unfold soldA; rw [HFX.out]; dsimp only; rw [if_neg HS0.out]
      have h2 : ∀ f, thenA (q, 140) f = (q, 140) := fun f => rfl
      have h3 : dueI d m = (q, 140) := by unfold dueI; rw [h1, if_neg (by rintro ⟨h, _⟩; cases h)]; rfl
      unfold clientM
      rw [if_neg HK1.out, if_neg HK2.out]
      rw [h1, h2, h2, h3, beh_err (show (140 : Int) ≠ 0 by decide), beh_err (show (140 : Int) ≠ 0 by decide)]
      rcases HR3.out with h | h | h
      ·rw [if_pos h]
      ·rw [if_neg (by omega), if_pos h]
      ·rw [if_neg (by omega), if_neg (by omega), if_pos h]
     have a0 : W3.cell? ⟨w.heap.size, 0, none⟩ = some (.int .i64 d.me) := Hd2.out.cell 0
     have a1 : W3.cell? ⟨w.heap.size, 1, none⟩ = some (.int .i64 d.far) := Hd2.out.cell 1
     have a2 : W3.cell? ⟨w.heap.size, 2, none⟩ = some (.slice (some ⟨b, o, none⟩) xs.length c) := Hd2.out.cell 2
     have a3 : W3.cell? ⟨w.heap.size, 3, none⟩ = some (.slice po os.length co) := Hd2.out.cell 3
     go_wp2_with (with_reducible refine stop_storeT 34 (.tmp 4) (.tmp 148) rfl ?_)
     clear a0 a1 a2 a3
     have HTH : Hid (W3.there (w.heap.size + 1 + 1) 0 4) := Hr2.out.thereAt
     have hch : Hid (Chg (w.heap.size + 1 + 1) W3 (W3.setCells (w.heap.size + 1 + 1) 0 (#[.int .i64 d.me, .int .i64 d.far, .slice (some ⟨b, o, none⟩) xs.length c, .slice po os.length co] : Array Value).toList)) := Lib.hid (chg_putL _ _ _ _ _ (Chg.refl _ W3))
     have Hr3 : Hid (Blk (W3.setCells (w.heap.size + 1 + 1) 0 (#[.int .i64 d.me, .int .i64 d.far, .slice (some ⟨b, o, none⟩) xs.length c, .slice po os.length co] : Array Value).toList) (w.heap.size + 1 + 1) #[.int .i64 d.me, .int .i64 d.far, .slice (some ⟨b, o, none⟩) xs.length c, .slice po os.length co] 34) := Lib.hid (blk_put_all Hr2.out _ rfl)
     have HB3 : Hid (Below w.heap.size w (W3.setCells (w.heap.size + 1 + 1) 0 (#[.int .i64 d.me, .int .i64 d.far, .slice (some ⟨b, o, none⟩) xs.length c, .slice po os.length co] : Array Value).toList)) := Lib.hid (below_put (by have := HGgx.out; omega) _ _ _ _ HB2.out)
     have HZ3 := kzq HZ2 hch.out.size
     have Hd3 := kcq Hd2 hch (by have := HGgx.out; omega)
     have Hm3 := kcq Hm2 hch (by have := HGgx.out; omega)
     have Hx3 := kcq Hx2 hch (by have := HGgx.out; omega)
     clear hch Hd2 Hm2 Hr2 Hx2 HB2 HZ2
     refine wpList_store_mid rfl 34 (.tmp 4) (.tmp 148) rfl (w.heap.size + 1 + 1) 0 #[.int .i64 d.me, .int .i64 d.far, .slice (some ⟨b, o, none⟩) xs.length c, .slice po os.length co] rfl rfl HTH.out (infoDC rfl) (all_oneCell_toArray (by intro u hu; simp at hu; rcases hu with rfl | rfl | rfl | rfl <;> rfl)) ?_
     generalize (W3.setCells (w.heap.size + 1 + 1) 0 (#[.int .i64 d.me, .int .i64 d.far, .slice (some ⟨b, o, none⟩) xs.length c, .slice po os.length co] : Array Value).toList) = WR at *
     clear HTH
     go_wp2_with fail
     have hfr := Hr3.out
     refine bodyPost_ret (v := .tuple #[.agg #[.int .i64 d.me, .int .i64 d.far, .slice (some ⟨b, o, none⟩) xs.length c, .slice po os.length co], .slice none 0 0, .int .i64 140]) (by simp [results, Try.results21, go_sem, hfr.cell 0, hfr.cell 1, hfr.cell 2, hfr.cell 3]) rfl ⟨_, _, _, _, _, _, _, rfl, (HD.out.kept HB3.out).imp (fun b h => .inl h.1), OwnT.nil_ _ _ _ _, HB3.out⟩
end Go.Proofs.Ytbpfbebebppleaa
