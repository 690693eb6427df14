/- ChiefOne: its walk. A word of a law, read, with what its lists hold. -/
import Derived.Test.YteogdfpkcoodlaaR5
import Derived.Test.YteogdfpkcoodlaaR1
namespace Go.Proofs.Yteogdfpkcoodlaa
open Go.RowKit Go.Maps
set_option linter.unusedSimpArgs false
set_option linter.unusedSimpArgs false in
set_option maxHeartbeats 4000000 in
set_option maxRecDepth 100000 in
theorem one_walk (v : Value) (ws : List SdX) (w : World) (hw : TRow encS w v ws) (hin : ∀ z ∈ ws, z.x.In w) :
  Calls Try.prog 4 #[v] w fun e w' => e = .returned (.bool true) ∧ Below w.heap.size w w' := by
 obtain ⟨wp, wc, hv⟩ := hw.shape
 generalize hwn : ws.length = wn at hv
 subst hv
 have HWR := Lib.hid hw
 have HWI := Lib.hid hin
 have HWN : Hid (ws.length = wn) := Lib.hid hwn
 clear hw hin hwn
 have HL := Lib.hid (fun W => leads_any W)
 go_enter Try.func4, Try.ntmps4
 go_wp2_with fail
 refine (HL.out w).mono ?_
 rintro y9 W ⟨rfl, hb⟩
 clear HL
 have HB0 := Lib.hid hb
 have HG := Lib.hid (cfits_any W (.slice wp wn wc) ws (HWR.out.kept hb))
 clear hb
 obtain ⟨bf, hbf⟩ : ∃ bf, fitsC ws = bf := ⟨_, rfl⟩
 rw [hbf] at HG
 have HBF := Lib.hid hbf
 clear hbf
 go_wp2_with fail
 refine HG.out.mono ?_
 rintro y9 W1 ⟨rfl, hb⟩
 clear HG
 have HB1 := ktq HB0 hb
 clear hb HB0
 cases bf
 ·go_wp2_with fail
  go_ret
  exact ⟨rfl, HB1.out⟩
 have HFT := Lib.hid (fitsC_ok HBF.out)
 have HN60 : Hid (wn ≤ 60) := Lib.hid (by have := HFT.out.1; have := HWN.out; omega)
 clear HBF
 go_upto_region 5 with fail
 have HZ1 : Hid (w.heap.size ≤ W1.heap.size) := Lib.hid HB1.out.size
 have hba := oneB W1 (.cells #[.int .i64 3, .slice none 0 0] 27)
 have Hc2 := Lib.hid (Blk.new W1 #[.int .i64 3, .slice none 0 0] 27)
 have HB2 := Lib.hid (HB1.out.alloc HB1.out.size (.cells #[.int .i64 3, .slice none 0 0] 27))
 have HZ2 := kzq HZ1 hba.size
 have HGgc : Hid (w.heap.size ≤ W1.heap.size) := Lib.hid HB1.out.size
 clear hba HB1 HZ1
 go_upto_region 6 with fail
 generalize (W1.alloc (.cells #[.int .i64 3, .slice none 0 0] 27)) = W2 at *
 generalize hggc : W1.heap.size = gc at *
 clear hggc
 have hmm := @run_makeMap Try.prog
 have HGM : Hid (gc < W2.heap.size) := Lib.hid Hc2.out.lt
 go_upto_region 7 with fail
 clear hmm
 have hba := oneB W2 (.map #[] 0)
 have Qm3 := Lib.hid (MpO.made (fun b => b = W2.heap.size) W2 rfl)
 have Hc3 := kbq Hc2 hba
 have HB3 := ktq HB2 hba
 have HZ3 : Hid (w.heap.size ≤ (W2.alloc (.map #[] 0)).heap.size) := Lib.hid HB3.out.size
 clear hba Hc2 HB2 HZ2
 generalize (W2.alloc (.map #[] 0)) = W3 at *
 generalize hggm : W2.heap.size = gm at *
 clear hggm
 have hmm := @run_makeMap Try.prog
 have HGY : Hid (gm < W3.heap.size) := Lib.hid Qm3.out.lt
 go_upto_region 8 with fail
 clear hmm
 have hba := oneB W3 (.map #[] 0)
 have Qy4 := Lib.hid (MpA.made (fun b => b = W3.heap.size) W3 rfl)
 have Hc4 := kbq Hc3 hba
 have Qm4 := Lib.hid (Qm3.out.kept hba)
 have HB4 := ktq HB3 hba
 have HZ4 : Hid (w.heap.size ≤ (W3.alloc (.map #[] 0)).heap.size) := Lib.hid HB4.out.size
 clear hba Hc3 Qm3 HB3 HZ3
 generalize (W3.alloc (.map #[] 0)) = W4 at *
 generalize hggy : W3.heap.size = gy at *
 clear hggy
 have HREL : Hid (∃ (rs : List Rn) (p : Option Addr) (m c : Nat) (d : Int → Option Bool) (y : Int → Nat → Bool), Blk W4 gc #[.int .i64 3, .slice p m c] 27 ∧ Ct (NotIn [gc, gm, gy]) W4 3 p m c rs ∧ MpO (fun b => b = gm) gm (3 * 0) d W4 ∧ MpA (fun b => b = gy) gy 0 y W4 ∧ OneInv rs d y ∧ NsB rs ∧ rs.length ≤ 0 ∧ Below w.heap.size w W4) := Lib.hid ⟨[], none, 0, 0, _, _, Hc4.out, Ct.nil_ _ _ _, Qm4.out, Qy4.out, ⟨fun _ h => absurd h (Nat.not_lt_zero _), fun _ h => by simp at h⟩, (fun _ h => nomatch h), Nat.le_refl _, HB4.out⟩
 clear Hc4 Qm4 Qy4 HB4 HZ4
 go_wp2_with fail
 go_loopw [35] (fun i wr => ∃ k : Nat, k ≤ wn ∧ i = .int .i64 k ∧ Hid (∃ (rs : List Rn) (p : Option Addr) (m c : Nat) (d : Int → Option Bool) (y : Int → Nat → Bool), Blk wr gc #[.int .i64 3, .slice p m c] 27 ∧ Ct (NotIn [gc, gm, gy]) wr 3 p m c rs ∧ MpO (fun b => b = gm) gm (3 * k) d wr ∧ MpA (fun b => b = gy) gy k y wr ∧ OneInv rs d y ∧ NsB rs ∧ rs.length ≤ k ∧ Below w.heap.size w wr)) (fun i _ => wn - (intOf i).toNat)
 case atStart => exact ⟨0, by omega, rfl, HREL⟩
 case round =>
  clear HREL
  obtain ⟨k, hk, rfl, HK⟩ := hrel
  have hk9 : k + 1 ≤ 61 := by have := HN60.out; omega
  by_cases hlt : k < wn
  ·skip
   have hltI : (k : Int) < (wn : Int) := by omega
   have HLT : Hid (k < wn) := Lib.hid hlt
   obtain ⟨rs, p0, m0, q0, d, y, hk1, hk2, hk3, hk4, hk5, hk6, hk7, hk8⟩ := HK.out
   have Hc20 := Lib.hid hk1
   have Qc20 := Lib.hid hk2
   have Qm20 := Lib.hid hk3
   have Qy20 := Lib.hid hk4
   have HOI := Lib.hid hk5
   have HNS := Lib.hid hk6
   have HRL := Lib.hid hk7
   have HB20 := Lib.hid hk8
   have HOK := Lib.hid hk2.ok
   have HZ20 : Hid (w.heap.size ≤ wr.heap.size) := Lib.hid hk8.size
   clear HK hk1 hk2 hk3 hk4 hk5 hk6 hk7 hk8
   have hkl : k < ws.length := by have := HWN.out; omega
   obtain ⟨zb, zo, hzp, hzl, hzc⟩ := (HWR.out.kept HB20.out).at_ k hkl
   subst hzp
   have HZI : Hid (ws[k].x.In w) := Lib.hid (HWI.out _ (List.getElem_mem hkl))
   have HZF := Lib.hid (HFT.out.2 _ (List.getElem_mem hkl))
   generalize ws[k] = z at *
   clear hkl hlt hk hzl
   have c0 : wr.cell? ⟨zb, zo + k * 12, none⟩ = some (.int .i64 z.tw) := hzc 0 (by decide)
   have c1 : wr.cell? ⟨zb, zo + k * 12 + 1, none⟩ = some (.int .i64 z.x.m.k) := hzc 1 (by decide)
   have c2 : wr.cell? ⟨zb, zo + k * 12 + 2, none⟩ = some (.int .i64 z.x.m.s) := hzc 2 (by decide)
   have c3 : wr.cell? ⟨zb, zo + k * 12 + 3, none⟩ = some (.int .i64 z.x.m.n) := hzc 3 (by decide)
   have c4 : wr.cell? ⟨zb, zo + k * 12 + 4, none⟩ = some (.int .i64 z.x.m.b) := hzc 4 (by decide)
   have c5 : wr.cell? ⟨zb, zo + k * 12 + 5, none⟩ = some (.int .i64 z.x.m.c) := hzc 5 (by decide)
   have c6 : wr.cell? ⟨zb, zo + k * 12 + 6, none⟩ = some (.int .i64 z.x.m.r) := hzc 6 (by decide)
   have c7 : wr.cell? ⟨zb, zo + k * 12 + 7, none⟩ = some (.int .i64 z.x.m.y) := hzc 7 (by decide)
   have c8 : wr.cell? ⟨zb, zo + k * 12 + 8, none⟩ = some (.int .i64 z.x.m.a) := hzc 8 (by decide)
   have c9 : wr.cell? ⟨zb, zo + k * 12 + 9, none⟩ = some (.bool z.x.m.t) := hzc 9 (by decide)
   have c10 : wr.cell? ⟨zb, zo + k * 12 + 10, none⟩ = some (.slice z.x.pl z.x.m.ls.length z.x.cl) := hzc 10 (by decide)
   have c11 : wr.cell? ⟨zb, zo + k * 12 + 11, none⟩ = some (.slice z.x.pn z.x.m.ns.length z.x.cn) := hzc 11 (by decide)
   clear hzc
   have HGZ : Hid (gy < wr.heap.size) := Lib.hid Qy20.out.lt
   have hba := oneB wr (.cells #[.int .i64 z.tw, .int .i64 z.x.m.k, .int .i64 z.x.m.s, .int .i64 z.x.m.n, .int .i64 z.x.m.b, .int .i64 z.x.m.c, .int .i64 z.x.m.r, .int .i64 z.x.m.y, .int .i64 z.x.m.a, .bool z.x.m.t, .slice z.x.pl z.x.m.ls.length z.x.cl, .slice z.x.pn z.x.m.ns.length z.x.cn] 38)
   have Hc21 := kbq Hc20 hba
   have Qc21 := Lib.hid (Qc20.out.kept hba)
   have Qm21 := Lib.hid (Qm20.out.kept hba)
   have Qy21 := Lib.hid (Qy20.out.kept hba)
   have Hz21 := Lib.hid (Blk.new wr #[.int .i64 z.tw, .int .i64 z.x.m.k, .int .i64 z.x.m.s, .int .i64 z.x.m.n, .int .i64 z.x.m.b, .int .i64 z.x.m.c, .int .i64 z.x.m.r, .int .i64 z.x.m.y, .int .i64 z.x.m.a, .bool z.x.m.t, .slice z.x.pl z.x.m.ls.length z.x.cl, .slice z.x.pn z.x.m.ns.length z.x.cn] 38)
   have HB21 := Lib.hid (HB20.out.alloc HB20.out.size (.cells #[.int .i64 z.tw, .int .i64 z.x.m.k, .int .i64 z.x.m.s, .int .i64 z.x.m.n, .int .i64 z.x.m.b, .int .i64 z.x.m.c, .int .i64 z.x.m.r, .int .i64 z.x.m.y, .int .i64 z.x.m.a, .bool z.x.m.t, .slice z.x.pl z.x.m.ls.length z.x.cl, .slice z.x.pn z.x.m.ns.length z.x.cn] 38))
   have HZ21 := kzq HZ20 hba.size
   have HGgz : Hid (w.heap.size ≤ wr.heap.size) := Lib.hid HB20.out.size
   clear hba Hc20 Qc20 Qm20 Qy20 HB20 HZ20
   go_upto_region 11 with fail
   clear hltI c0 c1 c2 c3 c4 c5 c6 c7 c8 c9 c10 c11
   generalize (wr.alloc (.cells #[.int .i64 z.tw, .int .i64 z.x.m.k, .int .i64 z.x.m.s, .int .i64 z.x.m.n, .int .i64 z.x.m.b, .int .i64 z.x.m.c, .int .i64 z.x.m.r, .int .i64 z.x.m.y, .int .i64 z.x.m.a, .bool z.x.m.t, .slice z.x.pl z.x.m.ls.length z.x.cl, .slice z.x.pn z.x.m.ns.length z.x.cn] 38)) = W5 at *
   generalize hggz : wr.heap.size = gz at *
   clear hggz
   obtain ⟨bh, hbh⟩ : ∃ bh, hasB rs z.x.m.y = bh := ⟨_, rfl⟩
   have HBH := Lib.hid hbh
   clear hbh
   have HG := Lib.hid (cget_q W5 (NotIn [gc, gm, gy]) 3 3 rfl z.x.m.y p0 m0 q0 rs Qc21.out (by rw [Qc21.out.n]; have := HRL.out; have := HN60.out; have := HLT.out; omega) (by decide) (by decide) bh HBH.out)
   have a0 : W5.cell? ⟨gc, 0, none⟩ = some (.int .i64 3) := Hc21.out.cell 0
   have a1 : W5.cell? ⟨gc, 1, none⟩ = some (.slice p0 m0 q0) := Hc21.out.cell 1
   have z7 : W5.cell? ⟨gz, 7, none⟩ = some (.int .i64 z.x.m.y) := Hz21.out.cell 7
   go_wp2_with fail
   clear a0 a1 z7
   refine HG.out.mono ?_
   rintro y9 w6 ⟨hb, x, rfl, hg⟩
   clear HG
   have HXS : Hid (bh = true → x.r.st = (rnAt rs z.x.m.y).st) := Lib.hid (fun h => by rw [(hg.1 h).1])
   clear hg
   unfold RunX.v
   have Hc22 := kbq Hc21 hb
   have Hz22 := kbq Hz21 hb
   have Qc22 := Lib.hid (Qc21.out.kept hb)
   have Qm22 := Lib.hid (Qm21.out.kept hb)
   have Qy22 := Lib.hid (Qy21.out.kept hb)
   have HB22 := ktq HB21 hb
   have HZ22 := kzq HZ21 hb.size
   clear Hc21 Hz21 Qc21 Qm21 Qy21 HB21 HZ21
   clear hb
   have HGX : Hid (gz < w6.heap.size) := Lib.hid Hz22.out.lt
   have hba := oneB w6 (.cells #[.int .i64 x.r.cu, .int .i64 x.r.st, .slice x.pf x.r.hs.length x.cf, .slice x.pl x.r.ls.length x.cl, .slice x.pn x.r.ns.length x.cn] 56)
   have Hc23 := kbq Hc22 hba
   have Hz23 := kbq Hz22 hba
   have Qc23 := Lib.hid (Qc22.out.kept hba)
   have Qm23 := Lib.hid (Qm22.out.kept hba)
   have Qy23 := Lib.hid (Qy22.out.kept hba)
   have Hx23 := Lib.hid (Blk.new w6 #[.int .i64 x.r.cu, .int .i64 x.r.st, .slice x.pf x.r.hs.length x.cf, .slice x.pl x.r.ls.length x.cl, .slice x.pn x.r.ns.length x.cn] 56)
   have HB23 := Lib.hid (HB22.out.alloc HB22.out.size (.cells #[.int .i64 x.r.cu, .int .i64 x.r.st, .slice x.pf x.r.hs.length x.cf, .slice x.pl x.r.ls.length x.cl, .slice x.pn x.r.ns.length x.cn] 56))
   have HZ23 := kzq HZ22 hba.size
   have HGgx : Hid (w.heap.size ≤ w6.heap.size) := Lib.hid HB22.out.size
   clear hba Hc22 Hz22 Qc22 Qm22 Qy22 HB22 HZ22
   go_upto_region 12 with fail
   generalize (w6.alloc (.cells #[.int .i64 x.r.cu, .int .i64 x.r.st, .slice x.pf x.r.hs.length x.cf, .slice x.pl x.r.ls.length x.cl, .slice x.pn x.r.ns.length x.cn] 56)) = W7 at *
   generalize hggx : w6.heap.size = gx at *
   clear hggx
   obtain ⟨⟨rs2, out2, e2⟩, hA⟩ : ∃ A, doC 3 rs z.x.m z.tw = A := ⟨_, rfl⟩
   have HA := Lib.hid hA
   have HRL2 : Hid (rs2.length ≤ k + 1) := Lib.hid (by have h := (do_ok HOK.out (by decide) z.x.m HZF.out.1 z.tw).2.2; rw [hA] at h; have h : rs2.length ≤ rs.length + 1 := h; have := HRL.out; omega)
   have HNS2 : Hid (NsB rs2) := Lib.hid (by have h := ns_step HNS.out HOK.out z.x.m z.tw HZF.out.1; rw [hA] at h; exact h)
   have HOL : Hid (out2.length ≤ 3) := Lib.hid (by have h := do_out rs z.x.m z.tw; rw [hA] at h; exact h)
   clear hA
   have HG := Lib.hid (cdo_q W7 (NotIn [gc, gm, gy]) 3 3 rfl p0 m0 q0 rs z.x z.tw Qc23.out (fun b hb hm => by have h7 := Qy23.out.lt; have h8 := Qm23.out.lt; have h0 := Hc23.out.lt; simp only [List.mem_cons, List.not_mem_nil, or_false] at hm; omega) (by rw [Qc23.out.n]; have := HRL.out; have := HN60.out; have := HLT.out; omega) (by decide) (by decide) (fun _ => True) ⟨(HZI.out.ls.kept HB23.out), (HZI.out.ns.kept HB23.out), fun _ _ _ _ _ _ => trivial, fun _ _ _ _ _ _ => trivial, ⟨by have := HZF.out.1; omega, by have := HZF.out.2; omega⟩⟩ HZF.out.1 rs2 out2 e2 HA.out)
   simp only [Msg.v] at HG
   have a0 : W7.cell? ⟨gc, 0, none⟩ = some (.int .i64 3) := Hc23.out.cell 0
   have a1 : W7.cell? ⟨gc, 1, none⟩ = some (.slice p0 m0 q0) := Hc23.out.cell 1
   have z0 : W7.cell? ⟨gz, 0, none⟩ = some (.int .i64 z.tw) := Hz23.out.cell 0
   have z1 : W7.cell? ⟨gz, 1, none⟩ = some (.int .i64 z.x.m.k) := Hz23.out.cell 1
   have z2 : W7.cell? ⟨gz, 2, none⟩ = some (.int .i64 z.x.m.s) := Hz23.out.cell 2
   have z3 : W7.cell? ⟨gz, 3, none⟩ = some (.int .i64 z.x.m.n) := Hz23.out.cell 3
   have z4 : W7.cell? ⟨gz, 4, none⟩ = some (.int .i64 z.x.m.b) := Hz23.out.cell 4
   have z5 : W7.cell? ⟨gz, 5, none⟩ = some (.int .i64 z.x.m.c) := Hz23.out.cell 5
   have z6 : W7.cell? ⟨gz, 6, none⟩ = some (.int .i64 z.x.m.r) := Hz23.out.cell 6
   have z7 : W7.cell? ⟨gz, 7, none⟩ = some (.int .i64 z.x.m.y) := Hz23.out.cell 7
   have z8 : W7.cell? ⟨gz, 8, none⟩ = some (.int .i64 z.x.m.a) := Hz23.out.cell 8
   have z9 : W7.cell? ⟨gz, 9, none⟩ = some (.bool z.x.m.t) := Hz23.out.cell 9
   have z10 : W7.cell? ⟨gz, 10, none⟩ = some (.slice z.x.pl z.x.m.ls.length z.x.cl) := Hz23.out.cell 10
   have z11 : W7.cell? ⟨gz, 11, none⟩ = some (.slice z.x.pn z.x.m.ns.length z.x.cn) := Hz23.out.cell 11
   go_wp2_with fail
   clear a0 a1 z0 z1 z2 z3 z4 z5 z6 z7 z8 z9 z10 z11
   refine HG.out.mono ?_
   rintro y9 w4 ⟨hb, p4, n4, c4, pv4, nv4, cv4, rfl, hc, hnv, hsd⟩
   clear HG Qc23
   have Hc24 := kbq Hc23 hb
   have Hz24 := kbq Hz23 hb
   have Hx24 := kbq Hx23 hb
   have Qm24 := Lib.hid (Qm23.out.kept hb)
   have Qy24 := Lib.hid (Qy23.out.kept hb)
   have HB24 := ktq HB23 hb
   have HZ24 := kzq HZ23 hb.size
   clear Hc23 Hz23 Hx23 Qm23 Qy23 HB23 HZ23
   clear hb
   have Qc24 := Lib.hid hc
   have Qs24 := Lib.hid hsd
   clear hc hsd
   have HNV4 := Lib.hid hnv
   clear hnv
   have HGN : Hid (gx < w4.heap.size) := Lib.hid Hx24.out.lt
   have hba := oneB w4 (.cells #[.int .i64 3, .slice p4 n4 c4] 27)
   have Hc25 := kbq Hc24 hba
   have Hz25 := kbq Hz24 hba
   have Hx25 := kbq Hx24 hba
   have Qm25 := Lib.hid (Qm24.out.kept hba)
   have Qy25 := Lib.hid (Qy24.out.kept hba)
   have Qc25 := Lib.hid (Qc24.out.kept hba)
   have Qs25 := Lib.hid (Qs24.out.kept hba)
   have Hn25 := Lib.hid (Blk.new w4 #[.int .i64 3, .slice p4 n4 c4] 27)
   have HB25 := Lib.hid (HB24.out.alloc HB24.out.size (.cells #[.int .i64 3, .slice p4 n4 c4] 27))
   have HZ25 := kzq HZ24 hba.size
   have HGgn : Hid (w.heap.size ≤ w4.heap.size) := Lib.hid HB24.out.size
   clear hba Hc24 Hz24 Hx24 Qm24 Qy24 Qc24 Qs24 HB24 HZ24
   go_upto_region 13 with fail
   generalize (w4.alloc (.cells #[.int .i64 3, .slice p4 n4 c4] 27)) = W8 at *
   generalize hggn : w4.heap.size = gn at *
   clear hggn
   have n0 : W8.cell? ⟨gn, 0, none⟩ = some (.int .i64 3) := Hn25.out.cell 0
   have n1 : W8.cell? ⟨gn, 1, none⟩ = some (.slice p4 n4 c4) := Hn25.out.cell 1
   go_wp2_with (with_reducible refine stop_storeT 27 (.tmp 3) (.tmp 57) rfl ?_)
   clear n0 n1
   have HTH : Hid (W8.there gc 0 2) := Hc25.out.thereAt
   have hch : Hid (Chg gc W8 (W8.setCells gc 0 (#[.int .i64 3, .slice p4 n4 c4] : Array Value).toList)) := Lib.hid (chg_putL _ _ _ _ _ (Chg.refl _ W8))
   have Hc26 : Hid (Blk (W8.setCells gc 0 (#[.int .i64 3, .slice p4 n4 c4] : Array Value).toList) gc #[.int .i64 3, .slice p4 n4 c4] 27) := Lib.hid (blk_put_all Hc25.out _ rfl)
   have HB26 : Hid (Below w.heap.size w (W8.setCells gc 0 (#[.int .i64 3, .slice p4 n4 c4] : Array Value).toList)) := Lib.hid (below_put (by have := HGgc.out; have := HGM.out; have := HGY.out; have := HGZ.out; have := HGX.out; have := HGN.out; omega) _ _ _ _ HB25.out)
   have HZ26 := kzq HZ25 hch.out.size
   have Hz26 := kcq Hz25 hch (by have := HGgc.out; have := HGM.out; have := HGY.out; have := HGZ.out; have := HGX.out; have := HGN.out; omega)
   have Hx26 := kcq Hx25 hch (by have := HGgc.out; have := HGM.out; have := HGY.out; have := HGZ.out; have := HGX.out; have := HGN.out; omega)
   have Hn26 := kcq Hn25 hch (by have := HGgc.out; have := HGM.out; have := HGY.out; have := HGZ.out; have := HGX.out; have := HGN.out; omega)
   have Qm26 := Lib.hid (Qm25.out.chg hch.out (by first | exact notIn_self (by simp) | (intro e; have h0 := HGgc.out; have h1 := HGM.out; have h2 := HGY.out; (try dsimp only at e); omega)))
   have Qy26 := Lib.hid (Qy25.out.chg hch.out (by first | exact notIn_self (by simp) | (intro e; have h0 := HGgc.out; have h1 := HGM.out; have h2 := HGY.out; (try dsimp only at e); omega)))
   have Qc26 := Lib.hid (Qc25.out.chg hch.out (by first | exact notIn_self (by simp) | (intro e; have h0 := HGgc.out; have h1 := HGM.out; have h2 := HGY.out; (try dsimp only at e); omega)))
   have Qs26 := Lib.hid (Qs25.out.chg hch.out (by first | exact notIn_self (by simp) | (intro e; have h0 := HGgc.out; have h1 := HGM.out; have h2 := HGY.out; (try dsimp only at e); omega)))
   clear hch Hc25 Hz25 Hx25 Hn25 Qm25 Qy25 Qc25 Qs25 HB25 HZ25
   refine wpList_store_mid rfl 27 (.tmp 3) (.tmp 57) rfl gc 0 #[.int .i64 3, .slice p4 n4 c4] rfl rfl HTH.out (infoC2 rfl) (all_oneCell_toArray (by intro u hu; simp at hu; rcases hu with rfl | rfl <;> rfl)) ?_
   generalize (W8.setCells gc 0 (#[.int .i64 3, .slice p4 n4 c4] : Array Value).toList) = W9 at *
   clear HTH
   clear Hn26
   obtain ⟨cond, hcond⟩ : ∃ c, (e2 == 0 && z.x.m.k == 13 && z.x.m.t && bh && x.r.st == 2) = c := ⟨_, rfl⟩
   have HCD := Lib.hid hcond
   clear hcond
   go_upto_region 14 with fail
   try go_frame
   go_cut [9, 35, 78] from 35 to 179 (fun vb i c wx => vb = .bool bh ∧ i = .int .i64 k ∧ c = .bool cond ∧ wx = W9)
   case first =>
    have z1 : W9.cell? ⟨gz, 1, none⟩ = some (.int .i64 z.x.m.k) := Hz26.out.cell 1
    have z9 : W9.cell? ⟨gz, 9, none⟩ = some (.bool z.x.m.t) := Hz26.out.cell 9
    have x1 : W9.cell? ⟨gx, 1, none⟩ = some (.int .i64 x.r.st) := Hx26.out.cell 1
    cases h0 : (e2 == 0)
    ·skip
     have HF : Hid (_ = cond) := Lib.hid HCD.out
     rw [h0] at HF
     go_wp2_with fail
     go_meet
     case rel => exact ⟨(by first | rfl | rw [h3]), rfl, by rw [← HF.out]; rfl, rfl⟩
    ·skip
     cases h1 : (z.x.m.k == 13)
     ·skip
      have HF : Hid (_ = cond) := Lib.hid HCD.out
      rw [h0, h1] at HF
      go_wp2_with fail
      go_meet
      case rel => exact ⟨(by first | rfl | rw [h3]), rfl, by rw [← HF.out]; rfl, rfl⟩
     ·skip
      cases h2 : (z.x.m.t)
      ·skip
       have HF : Hid (_ = cond) := Lib.hid HCD.out
       rw [h0, h1, h2] at HF
       go_wp2_with fail
       go_meet
       case rel => exact ⟨(by first | rfl | rw [h3]), rfl, by rw [← HF.out]; rfl, rfl⟩
      ·skip
       cases h3 : (bh)
       ·skip
        have HF : Hid (_ = cond) := Lib.hid HCD.out
        rw [h0, h1, h2, h3] at HF
        go_wp2_with fail
        go_meet
        case rel => exact ⟨(by first | rfl | rw [h3]), rfl, by rw [← HF.out]; rfl, rfl⟩
       ·skip
        cases h4 : (x.r.st == 2)
        ·skip
         have HF : Hid (_ = cond) := Lib.hid HCD.out
         rw [h0, h1, h2, h3, h4] at HF
         go_wp2_with fail
         go_meet
         case rel => exact ⟨(by first | rfl | rw [h3]), rfl, by rw [← HF.out]; rfl, rfl⟩
        ·skip
         have HF : Hid (_ = cond) := Lib.hid HCD.out
         rw [h0, h1, h2, h3, h4] at HF
         go_wp2_with fail
         go_meet
         case rel => exact ⟨(by first | rfl | rw [h3]), rfl, by rw [← HF.out]; rfl, rfl⟩
   case rest =>
    obtain ⟨rfl, rfl, rfl, hwc⟩ := hcut
    replace hwc := hwc.symm
    subst hwc
    go_upto_if 78 with fail
    go_cut [35] from 35 to 179 (fun i wx => i = .int .i64 k ∧ Hid (∃ y2 : Int → Nat → Bool, Blk wx gc #[.int .i64 3, .slice p4 n4 c4] 27 ∧ Ct (NotIn [gc, gm, gy]) wx 3 p4 n4 c4 rs2 ∧ MpO (fun b => b = gm) gm (3 * k) d wx ∧ MpA (fun b => b = gy) gy (k + 1) y2 wx ∧ SdR (NotIn [gc, gm, gy]) wx (.slice pv4 nv4 cv4) out2 ∧ Below w.heap.size w wx ∧ (∀ a j, y a j = true → y2 a j = true) ∧ (cond = true → y2 z.x.m.y z.tw.toNat = true)))
    case first =>
     cases cond
     ·go_wp2_with fail
      go_meet
      case rel => exact ⟨rfl, Lib.hid ⟨y, Hc26.out, Qc26.out, Qm26.out, Qy26.out.mono (Nat.le_succ _), Qs26.out, HB26.out, fun _ _ h => h, fun h => nomatch h⟩⟩
     have hcd := HCD.out
     simp only [Bool.and_eq_true, beq_iff_eq] at hcd
     obtain ⟨⟨⟨⟨h1, h2⟩, h3⟩, h4⟩, h5⟩ := hcd
     have HFR : Hid (0 ≤ z.tw ∧ z.tw < 3) := Lib.hid (vote_from (by rw [HA.out]; exact h1) h2)
     have HYB : Hid (1 ≤ z.x.m.y ∧ z.x.m.y ≤ 61) := Lib.hid (by
      have h := HBH.out
      rw [h4] at h
      have h := of_decide_eq_true h
      have := HRL.out; have := HN60.out; have := HLT.out
      omega)
     clear h1 h2 h3 h4 h5
     obtain ⟨tw, htw⟩ : ∃ t, z.tw = t := ⟨_, rfl⟩
     have HTW := Lib.hid htw
     have htw3 : tw = 0 ∨ tw = 1 ∨ tw = 2 := by have := HFR.out; omega
     clear htw
     rcases htw3 with rfl | rfl | rfl
     ·skip
      have z7 : W9.cell? ⟨gz, 7, none⟩ = some (.int .i64 z.x.m.y) := Hz26.out.cell 7
      have hlook := Qy26.out.look z.x.m.y (by have := HYB.out; omega)
      unfold v3 at hlook
      have HGB : Hid (gx < W9.heap.size) := Lib.hid Hx26.out.lt
      have QCB : Hid (Ct (fun b => (NotIn [gc, gm, gy]) b ∧ b < W9.heap.size) (W9.alloc (.cells #[.bool (y z.x.m.y 0), .bool (y z.x.m.y 1), .bool (y z.x.m.y 2)] 59)) 3 p4 n4 c4 rs2) := Lib.hid (Ct.kept ⟨Qc26.out.rs.lt, Qc26.out.n, Qc26.out.ok⟩ (oneB W9 _))
      have QSB : Hid (SdR (fun b => (NotIn [gc, gm, gy]) b ∧ b < W9.heap.size) (W9.alloc (.cells #[.bool (y z.x.m.y 0), .bool (y z.x.m.y 1), .bool (y z.x.m.y 2)] 59)) (.slice pv4 nv4 cv4) out2) := Lib.hid ((Qs26.out.lt).kept (oneB W9 _))
      have hba := oneB W9 (.cells #[.bool (y z.x.m.y 0), .bool (y z.x.m.y 1), .bool (y z.x.m.y 2)] 59)
      have Hc27 := kbq Hc26 hba
      have Hz27 := kbq Hz26 hba
      have Hx27 := kbq Hx26 hba
      have Qm27 := Lib.hid (Qm26.out.kept hba)
      have Qy27 := Lib.hid (Qy26.out.kept hba)
      have Qc27 := Lib.hid (Qc26.out.kept hba)
      have Qs27 := Lib.hid (Qs26.out.kept hba)
      have Hb27 := Lib.hid (Blk.new W9 #[.bool (y z.x.m.y 0), .bool (y z.x.m.y 1), .bool (y z.x.m.y 2)] 59)
      have HB27 := Lib.hid (HB26.out.alloc HB26.out.size (.cells #[.bool (y z.x.m.y 0), .bool (y z.x.m.y 1), .bool (y z.x.m.y 2)] 59))
      have HZ27 := kzq HZ26 hba.size
      have HGgb : Hid (w.heap.size ≤ W9.heap.size) := Lib.hid HB26.out.size
      clear hba Hc26 Hz26 Hx26 Qm26 Qy26 Qc26 Qs26 HB26 HZ26
      go_upto_region 16 with fail
      clear z7 hlook
      generalize (W9.alloc (.cells #[.bool (y z.x.m.y 0), .bool (y z.x.m.y 1), .bool (y z.x.m.y 2)] 59)) = W10 at *
      generalize hggb : W9.heap.size = gb at *
      clear hggb
      have e0 : W10.cell? ⟨gz, 0, none⟩ = some (.int .i64 0) := by have h := Hz27.out.cell 0; rw [h]; show some (Value.int .i64 z.tw) = _; rw [HTW.out]
      have Qc27 : Hid (Ct (fun b => (NotIn [gc, gm, gy]) b ∧ b < gb) W10 3 p4 n4 c4 rs2) := Lib.hid QCB.out
      have Qs27 : Hid (SdR (fun b => (NotIn [gc, gm, gy]) b ∧ b < gb) W10 (.slice pv4 nv4 cv4) out2) := Lib.hid QSB.out
      clear QCB QSB
      have z0 : W10.cell? ⟨gb, 0, none⟩ = some (.bool (y z.x.m.y 0)) := Hb27.out.cell 0
      have f0 := Hb27.out.free 0
      go_upto_region 17 with fail
      clear e0
      clear z0 f0
      have hch := Lib.hid ((Chg.refl gb W10).set 0 (.bool true))
      have Hb28 : Hid (Blk _ gb #[.bool true, .bool (y z.x.m.y 1), .bool (y z.x.m.y 2)] 59) := Lib.hid (Hb27.out.set 0 (.bool true))
      have HB28 := ksq HB27 hch (by show w.heap.size ≤ gb; have := HGgc.out; have := HGM.out; have := HGY.out; have := HGZ.out; have := HGX.out; have := HGB.out; omega)
      have HZ28 := kzq HZ27 hch.out.size
      have Hc28 := kcq Hc27 hch (by have := HGgc.out; have := HGM.out; have := HGY.out; have := HGZ.out; have := HGX.out; have := HGB.out; omega)
      have Hz28 := kcq Hz27 hch (by have := HGgc.out; have := HGM.out; have := HGY.out; have := HGZ.out; have := HGX.out; have := HGB.out; omega)
      have Hx28 := kcq Hx27 hch (by have := HGgc.out; have := HGM.out; have := HGY.out; have := HGZ.out; have := HGX.out; have := HGB.out; omega)
      have Qm28 := Lib.hid (Qm27.out.chg hch.out (by intro h; (try dsimp only at h); have h0 := HGM.out; have h1 := HGY.out; have h2 := HGZ.out; have h3 := HGX.out; have h4 := HGB.out; first | omega | (have h5 := h.2; omega)))
      have Qy28 := Lib.hid (Qy27.out.chg hch.out (by intro h; (try dsimp only at h); have h0 := HGM.out; have h1 := HGY.out; have h2 := HGZ.out; have h3 := HGX.out; have h4 := HGB.out; first | omega | (have h5 := h.2; omega)))
      have Qc28 := Lib.hid (Qc27.out.chg hch.out (by intro h; (try dsimp only at h); have h0 := HGM.out; have h1 := HGY.out; have h2 := HGZ.out; have h3 := HGX.out; have h4 := HGB.out; first | omega | (have h5 := h.2; omega)))
      have Qs28 := Lib.hid (Qs27.out.chg hch.out (by intro h; (try dsimp only at h); have h0 := HGM.out; have h1 := HGY.out; have h2 := HGZ.out; have h3 := HGX.out; have h4 := HGB.out; first | omega | (have h5 := h.2; omega)))
      clear hch Hc27 Hz27 Hx27 Hb27 Qm27 Qy27 Qc27 Qs27 HB27 HZ27
      generalize (W10.setCell ⟨gb, 0, none⟩ (.bool true)) = W11 at *
      have z7 : W11.cell? ⟨gz, 7, none⟩ = some (.int .i64 z.x.m.y) := Hz28.out.cell 7
      have b0 : W11.cell? ⟨gb, 0, none⟩ = some (.bool true) := Hb28.out.cell 0
      have b1 : W11.cell? ⟨gb, 1, none⟩ = some (.bool (y z.x.m.y 1)) := Hb28.out.cell 1
      have b2 : W11.cell? ⟨gb, 2, none⟩ = some (.bool (y z.x.m.y 2)) := Hb28.out.cell 2
      obtain ⟨hmq, D, hmo, hmh⟩ := Qy28.out
      have HKEY : Hid (keyOf Try.prog 3 (.int .i64 z.x.m.y) = some (.int .i64 z.x.m.y)) := Lib.hid (keyI (by have := HYB.out; omega))
      have HMH := Lib.hid hmh
      have HMO := Lib.hid hmo
      have HMQ := Lib.hid hmq
      clear hmh hmo hmq
      have HRD : Hid (rd3 (.agg #[.bool true, .bool (y z.x.m.y 1), .bool (y z.x.m.y 2)]) = some (.lit (.int .i64 (n3 (fun i : Nat => if i = 0 then true else y z.x.m.y i))), [])) := Lib.hid (rd3_v (fun i : Nat => if i = 0 then true else y z.x.m.y i))
      go_wp2_with (at_mapUpdate; refine wpList_mapUpdate_own _ rfl _ _ _ 53 rfl 3 59 lawInt Try.underlying53 rd3 gy k _ rfl HMO.out (by have := HN60.out; have := HLT.out; unfold maxLen; omega) _ _ _ rfl rfl HKEY.out _ [] HRD.out ?_)
      clear HRD
      clear z7 b0 b1 b2
      intro W12 hown8 hgrow8
      have hch : Hid (Chg gy W11 W12) := Lib.hid ⟨Below.grown (Below.refl _ _) hgrow8 (Nat.zero_le _) (fun _ _ => Nat.zero_le _), fun b hb hne => hgrow8.block b hb (by intro e; cases e; exact hne rfl)⟩
      have HNX : Hid (∃ y2 : Int → Nat → Bool, Blk W12 gc #[.int .i64 3, .slice p4 n4 c4] 27 ∧ Ct (NotIn [gc, gm, gy]) W12 3 p4 n4 c4 rs2 ∧ MpO (fun b => b = gm) gm (3 * k) d W12 ∧ MpA (fun b => b = gy) gy (k + 1) y2 W12 ∧ SdR (NotIn [gc, gm, gy]) W12 (.slice pv4 nv4 cv4) out2 ∧ Below w.heap.size w W12 ∧ (∀ a j, y a j = true → y2 a j = true) ∧ (true = true → y2 z.x.m.y z.tw.toNat = true)) := Lib.hid ⟨putY y z.x.m.y 0, Hc28.out.chg hch.out (by have := HGM.out; have := HGY.out; omega), Ct.chg (Ct.wk Qc28.out) hch.out (notIn_self (by simp)), Qm28.out.chg hch.out (by intro e; have h2 := HGY.out; (try dsimp only at e); omega), MpA.put rfl HMH.out HMO.out.isMap hown8, SdR.chg (SdR.wk Qs28.out) hch.out (notIn_self (by simp)), HB28.out.trans (hch.out.below (by have := HGgc.out; have := HGM.out; have := HGY.out; omega) HB28.out.size), putY_mono y z.x.m.y 0, fun _ => by rw [HTW.out]; exact putY_at y z.x.m.y 0⟩
      clear hch hown8 hgrow8 HMH HMO HMQ HKEY Hc28 Hz28 Hx28 Hb28 Qm28 Qy28 Qc28 Qs28 HB28 HZ28
      go_wp2_with fail
      go_meet
      case rel => exact ⟨rfl, HNX⟩
     ·skip
      have z7 : W9.cell? ⟨gz, 7, none⟩ = some (.int .i64 z.x.m.y) := Hz26.out.cell 7
      have hlook := Qy26.out.look z.x.m.y (by have := HYB.out; omega)
      unfold v3 at hlook
      have HGB : Hid (gx < W9.heap.size) := Lib.hid Hx26.out.lt
      have QCB : Hid (Ct (fun b => (NotIn [gc, gm, gy]) b ∧ b < W9.heap.size) (W9.alloc (.cells #[.bool (y z.x.m.y 0), .bool (y z.x.m.y 1), .bool (y z.x.m.y 2)] 59)) 3 p4 n4 c4 rs2) := Lib.hid (Ct.kept ⟨Qc26.out.rs.lt, Qc26.out.n, Qc26.out.ok⟩ (oneB W9 _))
      have QSB : Hid (SdR (fun b => (NotIn [gc, gm, gy]) b ∧ b < W9.heap.size) (W9.alloc (.cells #[.bool (y z.x.m.y 0), .bool (y z.x.m.y 1), .bool (y z.x.m.y 2)] 59)) (.slice pv4 nv4 cv4) out2) := Lib.hid ((Qs26.out.lt).kept (oneB W9 _))
      have hba := oneB W9 (.cells #[.bool (y z.x.m.y 0), .bool (y z.x.m.y 1), .bool (y z.x.m.y 2)] 59)
      have Hc27 := kbq Hc26 hba
      have Hz27 := kbq Hz26 hba
      have Hx27 := kbq Hx26 hba
      have Qm27 := Lib.hid (Qm26.out.kept hba)
      have Qy27 := Lib.hid (Qy26.out.kept hba)
      have Qc27 := Lib.hid (Qc26.out.kept hba)
      have Qs27 := Lib.hid (Qs26.out.kept hba)
      have Hb27 := Lib.hid (Blk.new W9 #[.bool (y z.x.m.y 0), .bool (y z.x.m.y 1), .bool (y z.x.m.y 2)] 59)
      have HB27 := Lib.hid (HB26.out.alloc HB26.out.size (.cells #[.bool (y z.x.m.y 0), .bool (y z.x.m.y 1), .bool (y z.x.m.y 2)] 59))
      have HZ27 := kzq HZ26 hba.size
      have HGgb : Hid (w.heap.size ≤ W9.heap.size) := Lib.hid HB26.out.size
      clear hba Hc26 Hz26 Hx26 Qm26 Qy26 Qc26 Qs26 HB26 HZ26
      go_upto_region 16 with fail
      clear z7 hlook
      generalize (W9.alloc (.cells #[.bool (y z.x.m.y 0), .bool (y z.x.m.y 1), .bool (y z.x.m.y 2)] 59)) = W10 at *
      generalize hggb : W9.heap.size = gb at *
      clear hggb
      have e0 : W10.cell? ⟨gz, 0, none⟩ = some (.int .i64 1) := by have h := Hz27.out.cell 0; rw [h]; show some (Value.int .i64 z.tw) = _; rw [HTW.out]
      have Qc27 : Hid (Ct (fun b => (NotIn [gc, gm, gy]) b ∧ b < gb) W10 3 p4 n4 c4 rs2) := Lib.hid QCB.out
      have Qs27 : Hid (SdR (fun b => (NotIn [gc, gm, gy]) b ∧ b < gb) W10 (.slice pv4 nv4 cv4) out2) := Lib.hid QSB.out
      clear QCB QSB
      have z1 : W10.cell? ⟨gb, 1, none⟩ = some (.bool (y z.x.m.y 1)) := Hb27.out.cell 1
      have f1 := Hb27.out.free 1
      go_upto_region 17 with fail
      clear e0
      clear z1 f1
      have hch := Lib.hid ((Chg.refl gb W10).set 1 (.bool true))
      have Hb28 : Hid (Blk _ gb #[.bool (y z.x.m.y 0), .bool true, .bool (y z.x.m.y 2)] 59) := Lib.hid (Hb27.out.set 1 (.bool true))
      have HB28 := ksq HB27 hch (by show w.heap.size ≤ gb; have := HGgc.out; have := HGM.out; have := HGY.out; have := HGZ.out; have := HGX.out; have := HGB.out; omega)
      have HZ28 := kzq HZ27 hch.out.size
      have Hc28 := kcq Hc27 hch (by have := HGgc.out; have := HGM.out; have := HGY.out; have := HGZ.out; have := HGX.out; have := HGB.out; omega)
      have Hz28 := kcq Hz27 hch (by have := HGgc.out; have := HGM.out; have := HGY.out; have := HGZ.out; have := HGX.out; have := HGB.out; omega)
      have Hx28 := kcq Hx27 hch (by have := HGgc.out; have := HGM.out; have := HGY.out; have := HGZ.out; have := HGX.out; have := HGB.out; omega)
      have Qm28 := Lib.hid (Qm27.out.chg hch.out (by intro h; (try dsimp only at h); have h0 := HGM.out; have h1 := HGY.out; have h2 := HGZ.out; have h3 := HGX.out; have h4 := HGB.out; first | omega | (have h5 := h.2; omega)))
      have Qy28 := Lib.hid (Qy27.out.chg hch.out (by intro h; (try dsimp only at h); have h0 := HGM.out; have h1 := HGY.out; have h2 := HGZ.out; have h3 := HGX.out; have h4 := HGB.out; first | omega | (have h5 := h.2; omega)))
      have Qc28 := Lib.hid (Qc27.out.chg hch.out (by intro h; (try dsimp only at h); have h0 := HGM.out; have h1 := HGY.out; have h2 := HGZ.out; have h3 := HGX.out; have h4 := HGB.out; first | omega | (have h5 := h.2; omega)))
      have Qs28 := Lib.hid (Qs27.out.chg hch.out (by intro h; (try dsimp only at h); have h0 := HGM.out; have h1 := HGY.out; have h2 := HGZ.out; have h3 := HGX.out; have h4 := HGB.out; first | omega | (have h5 := h.2; omega)))
      clear hch Hc27 Hz27 Hx27 Hb27 Qm27 Qy27 Qc27 Qs27 HB27 HZ27
      generalize (W10.setCell ⟨gb, 1, none⟩ (.bool true)) = W11 at *
      have z7 : W11.cell? ⟨gz, 7, none⟩ = some (.int .i64 z.x.m.y) := Hz28.out.cell 7
      have b0 : W11.cell? ⟨gb, 0, none⟩ = some (.bool (y z.x.m.y 0)) := Hb28.out.cell 0
      have b1 : W11.cell? ⟨gb, 1, none⟩ = some (.bool true) := Hb28.out.cell 1
      have b2 : W11.cell? ⟨gb, 2, none⟩ = some (.bool (y z.x.m.y 2)) := Hb28.out.cell 2
      obtain ⟨hmq, D, hmo, hmh⟩ := Qy28.out
      have HKEY : Hid (keyOf Try.prog 3 (.int .i64 z.x.m.y) = some (.int .i64 z.x.m.y)) := Lib.hid (keyI (by have := HYB.out; omega))
      have HMH := Lib.hid hmh
      have HMO := Lib.hid hmo
      have HMQ := Lib.hid hmq
      clear hmh hmo hmq
      have HRD : Hid (rd3 (.agg #[.bool (y z.x.m.y 0), .bool true, .bool (y z.x.m.y 2)]) = some (.lit (.int .i64 (n3 (fun i : Nat => if i = 1 then true else y z.x.m.y i))), [])) := Lib.hid (rd3_v (fun i : Nat => if i = 1 then true else y z.x.m.y i))
      go_wp2_with (at_mapUpdate; refine wpList_mapUpdate_own _ rfl _ _ _ 53 rfl 3 59 lawInt Try.underlying53 rd3 gy k _ rfl HMO.out (by have := HN60.out; have := HLT.out; unfold maxLen; omega) _ _ _ rfl rfl HKEY.out _ [] HRD.out ?_)
      clear HRD
      clear z7 b0 b1 b2
      intro W12 hown8 hgrow8
      have hch : Hid (Chg gy W11 W12) := Lib.hid ⟨Below.grown (Below.refl _ _) hgrow8 (Nat.zero_le _) (fun _ _ => Nat.zero_le _), fun b hb hne => hgrow8.block b hb (by intro e; cases e; exact hne rfl)⟩
      have HNX : Hid (∃ y2 : Int → Nat → Bool, Blk W12 gc #[.int .i64 3, .slice p4 n4 c4] 27 ∧ Ct (NotIn [gc, gm, gy]) W12 3 p4 n4 c4 rs2 ∧ MpO (fun b => b = gm) gm (3 * k) d W12 ∧ MpA (fun b => b = gy) gy (k + 1) y2 W12 ∧ SdR (NotIn [gc, gm, gy]) W12 (.slice pv4 nv4 cv4) out2 ∧ Below w.heap.size w W12 ∧ (∀ a j, y a j = true → y2 a j = true) ∧ (true = true → y2 z.x.m.y z.tw.toNat = true)) := Lib.hid ⟨putY y z.x.m.y 1, Hc28.out.chg hch.out (by have := HGM.out; have := HGY.out; omega), Ct.chg (Ct.wk Qc28.out) hch.out (notIn_self (by simp)), Qm28.out.chg hch.out (by intro e; have h2 := HGY.out; (try dsimp only at e); omega), MpA.put rfl HMH.out HMO.out.isMap hown8, SdR.chg (SdR.wk Qs28.out) hch.out (notIn_self (by simp)), HB28.out.trans (hch.out.below (by have := HGgc.out; have := HGM.out; have := HGY.out; omega) HB28.out.size), putY_mono y z.x.m.y 1, fun _ => by rw [HTW.out]; exact putY_at y z.x.m.y 1⟩
      clear hch hown8 hgrow8 HMH HMO HMQ HKEY Hc28 Hz28 Hx28 Hb28 Qm28 Qy28 Qc28 Qs28 HB28 HZ28
      go_wp2_with fail
      go_meet
      case rel => exact ⟨rfl, HNX⟩
     ·skip
      have z7 : W9.cell? ⟨gz, 7, none⟩ = some (.int .i64 z.x.m.y) := Hz26.out.cell 7
      have hlook := Qy26.out.look z.x.m.y (by have := HYB.out; omega)
      unfold v3 at hlook
      have HGB : Hid (gx < W9.heap.size) := Lib.hid Hx26.out.lt
      have QCB : Hid (Ct (fun b => (NotIn [gc, gm, gy]) b ∧ b < W9.heap.size) (W9.alloc (.cells #[.bool (y z.x.m.y 0), .bool (y z.x.m.y 1), .bool (y z.x.m.y 2)] 59)) 3 p4 n4 c4 rs2) := Lib.hid (Ct.kept ⟨Qc26.out.rs.lt, Qc26.out.n, Qc26.out.ok⟩ (oneB W9 _))
      have QSB : Hid (SdR (fun b => (NotIn [gc, gm, gy]) b ∧ b < W9.heap.size) (W9.alloc (.cells #[.bool (y z.x.m.y 0), .bool (y z.x.m.y 1), .bool (y z.x.m.y 2)] 59)) (.slice pv4 nv4 cv4) out2) := Lib.hid ((Qs26.out.lt).kept (oneB W9 _))
      have hba := oneB W9 (.cells #[.bool (y z.x.m.y 0), .bool (y z.x.m.y 1), .bool (y z.x.m.y 2)] 59)
      have Hc27 := kbq Hc26 hba
      have Hz27 := kbq Hz26 hba
      have Hx27 := kbq Hx26 hba
      have Qm27 := Lib.hid (Qm26.out.kept hba)
      have Qy27 := Lib.hid (Qy26.out.kept hba)
      have Qc27 := Lib.hid (Qc26.out.kept hba)
      have Qs27 := Lib.hid (Qs26.out.kept hba)
      have Hb27 := Lib.hid (Blk.new W9 #[.bool (y z.x.m.y 0), .bool (y z.x.m.y 1), .bool (y z.x.m.y 2)] 59)
      have HB27 := Lib.hid (HB26.out.alloc HB26.out.size (.cells #[.bool (y z.x.m.y 0), .bool (y z.x.m.y 1), .bool (y z.x.m.y 2)] 59))
      have HZ27 := kzq HZ26 hba.size
      have HGgb : Hid (w.heap.size ≤ W9.heap.size) := Lib.hid HB26.out.size
      clear hba Hc26 Hz26 Hx26 Qm26 Qy26 Qc26 Qs26 HB26 HZ26
      go_upto_region 16 with fail
      clear z7 hlook
      generalize (W9.alloc (.cells #[.bool (y z.x.m.y 0), .bool (y z.x.m.y 1), .bool (y z.x.m.y 2)] 59)) = W10 at *
      generalize hggb : W9.heap.size = gb at *
      clear hggb
      have e0 : W10.cell? ⟨gz, 0, none⟩ = some (.int .i64 2) := by have h := Hz27.out.cell 0; rw [h]; show some (Value.int .i64 z.tw) = _; rw [HTW.out]
      have Qc27 : Hid (Ct (fun b => (NotIn [gc, gm, gy]) b ∧ b < gb) W10 3 p4 n4 c4 rs2) := Lib.hid QCB.out
      have Qs27 : Hid (SdR (fun b => (NotIn [gc, gm, gy]) b ∧ b < gb) W10 (.slice pv4 nv4 cv4) out2) := Lib.hid QSB.out
      clear QCB QSB
      have z2 : W10.cell? ⟨gb, 2, none⟩ = some (.bool (y z.x.m.y 2)) := Hb27.out.cell 2
      have f2 := Hb27.out.free 2
      go_upto_region 17 with fail
      clear e0
      clear z2 f2
      have hch := Lib.hid ((Chg.refl gb W10).set 2 (.bool true))
      have Hb28 : Hid (Blk _ gb #[.bool (y z.x.m.y 0), .bool (y z.x.m.y 1), .bool true] 59) := Lib.hid (Hb27.out.set 2 (.bool true))
      have HB28 := ksq HB27 hch (by show w.heap.size ≤ gb; have := HGgc.out; have := HGM.out; have := HGY.out; have := HGZ.out; have := HGX.out; have := HGB.out; omega)
      have HZ28 := kzq HZ27 hch.out.size
      have Hc28 := kcq Hc27 hch (by have := HGgc.out; have := HGM.out; have := HGY.out; have := HGZ.out; have := HGX.out; have := HGB.out; omega)
      have Hz28 := kcq Hz27 hch (by have := HGgc.out; have := HGM.out; have := HGY.out; have := HGZ.out; have := HGX.out; have := HGB.out; omega)
      have Hx28 := kcq Hx27 hch (by have := HGgc.out; have := HGM.out; have := HGY.out; have := HGZ.out; have := HGX.out; have := HGB.out; omega)
      have Qm28 := Lib.hid (Qm27.out.chg hch.out (by intro h; (try dsimp only at h); have h0 := HGM.out; have h1 := HGY.out; have h2 := HGZ.out; have h3 := HGX.out; have h4 := HGB.out; first | omega | (have h5 := h.2; omega)))
      have Qy28 := Lib.hid (Qy27.out.chg hch.out (by intro h; (try dsimp only at h); have h0 := HGM.out; have h1 := HGY.out; have h2 := HGZ.out; have h3 := HGX.out; have h4 := HGB.out; first | omega | (have h5 := h.2; omega)))
      have Qc28 := Lib.hid (Qc27.out.chg hch.out (by intro h; (try dsimp only at h); have h0 := HGM.out; have h1 := HGY.out; have h2 := HGZ.out; have h3 := HGX.out; have h4 := HGB.out; first | omega | (have h5 := h.2; omega)))
      have Qs28 := Lib.hid (Qs27.out.chg hch.out (by intro h; (try dsimp only at h); have h0 := HGM.out; have h1 := HGY.out; have h2 := HGZ.out; have h3 := HGX.out; have h4 := HGB.out; first | omega | (have h5 := h.2; omega)))
      clear hch Hc27 Hz27 Hx27 Hb27 Qm27 Qy27 Qc27 Qs27 HB27 HZ27
      generalize (W10.setCell ⟨gb, 2, none⟩ (.bool true)) = W11 at *
      have z7 : W11.cell? ⟨gz, 7, none⟩ = some (.int .i64 z.x.m.y) := Hz28.out.cell 7
      have b0 : W11.cell? ⟨gb, 0, none⟩ = some (.bool (y z.x.m.y 0)) := Hb28.out.cell 0
      have b1 : W11.cell? ⟨gb, 1, none⟩ = some (.bool (y z.x.m.y 1)) := Hb28.out.cell 1
      have b2 : W11.cell? ⟨gb, 2, none⟩ = some (.bool true) := Hb28.out.cell 2
      obtain ⟨hmq, D, hmo, hmh⟩ := Qy28.out
      have HKEY : Hid (keyOf Try.prog 3 (.int .i64 z.x.m.y) = some (.int .i64 z.x.m.y)) := Lib.hid (keyI (by have := HYB.out; omega))
      have HMH := Lib.hid hmh
      have HMO := Lib.hid hmo
      have HMQ := Lib.hid hmq
      clear hmh hmo hmq
      have HRD : Hid (rd3 (.agg #[.bool (y z.x.m.y 0), .bool (y z.x.m.y 1), .bool true]) = some (.lit (.int .i64 (n3 (fun i : Nat => if i = 2 then true else y z.x.m.y i))), [])) := Lib.hid (rd3_v (fun i : Nat => if i = 2 then true else y z.x.m.y i))
      go_wp2_with (at_mapUpdate; refine wpList_mapUpdate_own _ rfl _ _ _ 53 rfl 3 59 lawInt Try.underlying53 rd3 gy k _ rfl HMO.out (by have := HN60.out; have := HLT.out; unfold maxLen; omega) _ _ _ rfl rfl HKEY.out _ [] HRD.out ?_)
      clear HRD
      clear z7 b0 b1 b2
      intro W12 hown8 hgrow8
      have hch : Hid (Chg gy W11 W12) := Lib.hid ⟨Below.grown (Below.refl _ _) hgrow8 (Nat.zero_le _) (fun _ _ => Nat.zero_le _), fun b hb hne => hgrow8.block b hb (by intro e; cases e; exact hne rfl)⟩
      have HNX : Hid (∃ y2 : Int → Nat → Bool, Blk W12 gc #[.int .i64 3, .slice p4 n4 c4] 27 ∧ Ct (NotIn [gc, gm, gy]) W12 3 p4 n4 c4 rs2 ∧ MpO (fun b => b = gm) gm (3 * k) d W12 ∧ MpA (fun b => b = gy) gy (k + 1) y2 W12 ∧ SdR (NotIn [gc, gm, gy]) W12 (.slice pv4 nv4 cv4) out2 ∧ Below w.heap.size w W12 ∧ (∀ a j, y a j = true → y2 a j = true) ∧ (true = true → y2 z.x.m.y z.tw.toNat = true)) := Lib.hid ⟨putY y z.x.m.y 2, Hc28.out.chg hch.out (by have := HGM.out; have := HGY.out; omega), Ct.chg (Ct.wk Qc28.out) hch.out (notIn_self (by simp)), Qm28.out.chg hch.out (by intro e; have h2 := HGY.out; (try dsimp only at e); omega), MpA.put rfl HMH.out HMO.out.isMap hown8, SdR.chg (SdR.wk Qs28.out) hch.out (notIn_self (by simp)), HB28.out.trans (hch.out.below (by have := HGgc.out; have := HGM.out; have := HGY.out; omega) HB28.out.size), putY_mono y z.x.m.y 2, fun _ => by rw [HTW.out]; exact putY_at y z.x.m.y 2⟩
      clear hch hown8 hgrow8 HMH HMO HMQ HKEY Hc28 Hz28 Hx28 Hb28 Qm28 Qy28 Qc28 Qs28 HB28 HZ28
      go_wp2_with fail
      go_meet
      case rel => exact ⟨rfl, HNX⟩
    case rest =>
     obtain ⟨rfl, HC⟩ := hcut
     obtain ⟨y2, hc1, hc2, hc3, hc4, hc5, hc6, hc7, hc8⟩ := HC.out
     have hst := one_step HOI.out HOK.out z.x.m z.tw hc7 (fun h1 h2 h3 h4 h5 => hc8 (by
      rw [HA.out] at h1
      have h1 : e2 = 0 := h1
      have h6 := HBH.out
      rw [h4] at h6
      have h7 := HXS.out h6.symm
      rw [h5] at h7
      rw [← HCD.out, h1, h2, h3, ← h6, h7]
      rfl))
     rw [HA.out] at hst
     obtain ⟨o, ho1, ho2, ho3⟩ := hst
     have HO1 := Lib.hid ho1
     have HO3 := Lib.hid ho3
     have HREL : Hid (∃ d2 : Int → Option Bool, Blk wc gc #[.int .i64 3, .slice p4 n4 c4] 27 ∧ Ct (NotIn [gc, gm, gy]) wc 3 p4 n4 c4 rs2 ∧ MpO (fun b => b = gm) gm (3 * k + 0) d2 wc ∧ MpA (fun b => b = gy) gy (k + 1) y2 wc ∧ SdR (NotIn [gc, gm, gy]) wc (.slice pv4 nv4 cv4) out2 ∧ OneInv rs2 d2 y2 ∧ Below w.heap.size w wc) := Lib.hid ⟨d, hc1, hc2, hc3, hc4, hc5, ho2, hc6⟩
     clear HC hc1 hc2 hc3 hc4 hc5 hc6 hc7 hc8 ho1 ho2 ho3 Hc26 Hz26 Hx26 Qm26 Qy26 Qc26 Qs26 HB26 HZ26 HCD HXS HBH HNS HOK HOI HZI HZF HRL HGX HGN
     have HN3 : Hid (nv4 ≤ 3 ∧ nv4 = out2.length) := Lib.hid ⟨by have := HOL.out; have := HNV4.out; omega, HNV4.out⟩
     clear HNV4 HOL
     go_wp2_with fail
     go_loopw [94] (fun i wr => ∃ t : Nat, t ≤ nv4 ∧ i = .int .i64 t ∧ Hid (∃ d2 : Int → Option Bool, Blk wr gc #[.int .i64 3, .slice p4 n4 c4] 27 ∧ Ct (NotIn [gc, gm, gy]) wr 3 p4 n4 c4 rs2 ∧ MpO (fun b => b = gm) gm (3 * k + t) d2 wr ∧ MpA (fun b => b = gy) gy (k + 1) y2 wr ∧ SdR (NotIn [gc, gm, gy]) wr (.slice pv4 nv4 cv4) out2 ∧ OneInv rs2 d2 y2 ∧ Below w.heap.size w wr)) (fun i _ => nv4 - (intOf i).toNat)
     case atStart => exact ⟨0, by omega, rfl, HREL⟩
     case round =>
      clear HREL
      obtain ⟨t, ht, rfl, HT⟩ := hrel
      have ht9 : t + 1 ≤ 4 := by have := HN3.out.1; omega
      obtain ⟨d2, ht1, ht2, ht3, ht4, ht5, ht6, ht7⟩ := HT.out
      have Hc40 := Lib.hid ht1
      have Qc40 := Lib.hid ht2
      have Qm40 := Lib.hid ht3
      have Qy40 := Lib.hid ht4
      have Qs40 := Lib.hid ht5
      have HOI2 := Lib.hid ht6
      have HB40 := Lib.hid ht7
      have HZ40 : Hid (w.heap.size ≤ wr.heap.size) := Lib.hid HB40.out.size
      clear HT ht1 ht2 ht3 ht4 ht5 ht6 ht7
      by_cases htl : t < nv4
      ·skip
       have htI : (t : Int) < (nv4 : Int) := by omega
       have HTN : Hid (t < nv4) := Lib.hid htl
       have HTL : Hid (t < out2.length) := Lib.hid (by have := HN3.out.2; omega)
       obtain ⟨sb, so, hsp, hsa⟩ := Qs40.out.at_ (by have := HTL.out; omega)
       subst hsp
       obtain ⟨sz, hs1, hs2, hs3⟩ := hsa t HTL.out
       obtain ⟨bt, hbt⟩ : ∃ b, sz.x.m.t = b := ⟨_, rfl⟩
       have hsc := hs3.1.2.2
       have HDE : Hid (sz.x.m.k = 14 → o = some bt ∧ sz.x.m.y = z.x.m.y) := Lib.hid (fun h => by
        have h1 := HO1.out _ (List.getElem_mem HTL.out)
        rw [← hs2] at h1
        have h2 := h1 h
        rw [hbt] at h2
        exact h2)
       have c0 : wr.cell? ⟨sb, so + t * 12, none⟩ = some (.int .i64 sz.tw) := hsc 0 (by decide)
       have c1 : wr.cell? ⟨sb, so + t * 12 + 1, none⟩ = some (.int .i64 sz.x.m.k) := hsc 1 (by decide)
       have c2 : wr.cell? ⟨sb, so + t * 12 + 2, none⟩ = some (.int .i64 sz.x.m.s) := hsc 2 (by decide)
       have c3 : wr.cell? ⟨sb, so + t * 12 + 3, none⟩ = some (.int .i64 sz.x.m.n) := hsc 3 (by decide)
       have c4 : wr.cell? ⟨sb, so + t * 12 + 4, none⟩ = some (.int .i64 sz.x.m.b) := hsc 4 (by decide)
       have c5 : wr.cell? ⟨sb, so + t * 12 + 5, none⟩ = some (.int .i64 sz.x.m.c) := hsc 5 (by decide)
       have c6 : wr.cell? ⟨sb, so + t * 12 + 6, none⟩ = some (.int .i64 sz.x.m.r) := hsc 6 (by decide)
       have c7 : wr.cell? ⟨sb, so + t * 12 + 7, none⟩ = some (.int .i64 sz.x.m.y) := hsc 7 (by decide)
       have c8 : wr.cell? ⟨sb, so + t * 12 + 8, none⟩ = some (.int .i64 sz.x.m.a) := hsc 8 (by decide)
       have c9 : wr.cell? ⟨sb, so + t * 12 + 9, none⟩ = some (.bool bt) := by rw [← hbt]; exact hsc 9 (by decide)
       have c10 : wr.cell? ⟨sb, so + t * 12 + 10, none⟩ = some (.slice sz.x.pl sz.x.m.ls.length sz.x.cl) := hsc 10 (by decide)
       have c11 : wr.cell? ⟨sb, so + t * 12 + 11, none⟩ = some (.slice sz.x.pn sz.x.m.ns.length sz.x.cn) := hsc 11 (by decide)
       clear hsc hs1 hs2 hs3 hsa hbt htl ht
       have HGS : Hid (gy < wr.heap.size) := Lib.hid Qy40.out.lt
       have hba := oneB wr (.cells #[.int .i64 sz.tw, .int .i64 sz.x.m.k, .int .i64 sz.x.m.s, .int .i64 sz.x.m.n, .int .i64 sz.x.m.b, .int .i64 sz.x.m.c, .int .i64 sz.x.m.r, .int .i64 sz.x.m.y, .int .i64 sz.x.m.a, .bool bt, .slice sz.x.pl sz.x.m.ls.length sz.x.cl, .slice sz.x.pn sz.x.m.ns.length sz.x.cn] 47)
       have Hc41 := kbq Hc40 hba
       have Qc41 := Lib.hid (Qc40.out.kept hba)
       have Qm41 := Lib.hid (Qm40.out.kept hba)
       have Qy41 := Lib.hid (Qy40.out.kept hba)
       have Qs41 := Lib.hid (Qs40.out.kept hba)
       have Hs41 := Lib.hid (Blk.new wr #[.int .i64 sz.tw, .int .i64 sz.x.m.k, .int .i64 sz.x.m.s, .int .i64 sz.x.m.n, .int .i64 sz.x.m.b, .int .i64 sz.x.m.c, .int .i64 sz.x.m.r, .int .i64 sz.x.m.y, .int .i64 sz.x.m.a, .bool bt, .slice sz.x.pl sz.x.m.ls.length sz.x.cl, .slice sz.x.pn sz.x.m.ns.length sz.x.cn] 47)
       have HB41 := Lib.hid (HB40.out.alloc HB40.out.size (.cells #[.int .i64 sz.tw, .int .i64 sz.x.m.k, .int .i64 sz.x.m.s, .int .i64 sz.x.m.n, .int .i64 sz.x.m.b, .int .i64 sz.x.m.c, .int .i64 sz.x.m.r, .int .i64 sz.x.m.y, .int .i64 sz.x.m.a, .bool bt, .slice sz.x.pl sz.x.m.ls.length sz.x.cl, .slice sz.x.pn sz.x.m.ns.length sz.x.cn] 47))
       have HZ41 := kzq HZ40 hba.size
       have HGgs : Hid (w.heap.size ≤ wr.heap.size) := Lib.hid HB40.out.size
       clear hba Hc40 Qc40 Qm40 Qy40 Qs40 HB40 HZ40
       go_upto_region 21 with fail
       clear htI c0 c1 c2 c3 c4 c5 c6 c7 c8 c9 c10 c11
       generalize (wr.alloc (.cells #[.int .i64 sz.tw, .int .i64 sz.x.m.k, .int .i64 sz.x.m.s, .int .i64 sz.x.m.n, .int .i64 sz.x.m.b, .int .i64 sz.x.m.c, .int .i64 sz.x.m.r, .int .i64 sz.x.m.y, .int .i64 sz.x.m.a, .bool bt, .slice sz.x.pl sz.x.m.ls.length sz.x.cl, .slice sz.x.pn sz.x.m.ns.length sz.x.cn] 47)) = W10 at *
       generalize hggs : wr.heap.size = gs at *
       clear hggs
       have s1 : W10.cell? ⟨gs, 1, none⟩ = some (.int .i64 sz.x.m.k) := Hs41.out.cell 1
       by_cases hk : sz.x.m.k = 14
       ·skip
        have hk1 : (sz.x.m.k == 14) = true := by simpa using hk
        have hk2 : (sz.x.m.k != 14) = false := by simpa using hk
        have HDB : Hid (o = some bt ∧ sz.x.m.y = z.x.m.y) := Lib.hid (HDE.out hk)
        have HHB : Hid (hasB rs2 sz.x.m.y = true ∧ (rnAt rs2 sz.x.m.y).st = if bt then 3 else 4) := Lib.hid (by rw [HDB.out.2]; exact HO3.out bt HDB.out.1)
        have HNB : Hid (1 ≤ sz.x.m.y ∧ sz.x.m.y ≤ 61) := Lib.hid (by
         have h := of_decide_eq_true HHB.out.1
         have := HRL2.out; have := HN60.out; have := HLT.out
         omega)
        clear HDE hk
        go_upto_region 22 with fail
        clear hk1 hk2 s1
        have s7 : W10.cell? ⟨gs, 7, none⟩ = some (.int .i64 sz.x.m.y) := Hs41.out.cell 7
        go_upto_region 23 with fail
        clear s7
        have hlook := Qm41.out.look sz.x.m.y (by have := HNB.out; omega)
        obtain ⟨g1, hg1⟩ : ∃ g, (d2 sz.x.m.y).getD false = g := ⟨_, rfl⟩
        obtain ⟨g2, hg2⟩ : ∃ g, (d2 sz.x.m.y).isSome = g := ⟨_, rfl⟩
        have HG12 : Hid (g2 = true → g1 = bt) := Lib.hid (fun h => by
         rw [← hg2] at h
         obtain ⟨v, hv⟩ := Option.isSome_iff_exists.1 h
         have h1 := (one_there HOI2.out hv).2.1
         rw [HHB.out.2] at h1
         rw [← hg1, hv]
         show v = bt
         cases v <;> cases bt <;> first | rfl | (exfalso; revert h1; decide))
        rw [hg1, hg2] at hlook
        clear hg1 hg2
        go_upto_region 24 with fail
        clear hlook
        go_cut [94, 118] from 94 to 134 (fun i c wx => i = .int .i64 t ∧ c = .bool false ∧ wx = W10)
        case first =>
         cases g2
         ·go_wp2_with fail
          go_meet
          case rel => exact ⟨rfl, rfl, rfl⟩
         ·have hge := HG12.out rfl
          subst hge
          have s9 : W10.cell? ⟨gs, 9, none⟩ = some (.bool g1) := Hs41.out.cell 9
          have hbb : (g1 != g1) = false := by simp
          go_wp2_with fail
          go_meet
          case rel => exact ⟨rfl, rfl, rfl⟩
        case rest =>
         obtain ⟨rfl, rfl, hwc⟩ := hcut
         replace hwc := hwc.symm
         subst hwc
         clear HG12
         have s9 : W10.cell? ⟨gs, 9, none⟩ = some (.bool bt) := Hs41.out.cell 9
         obtain ⟨hmq, D, hmo, hmh⟩ := Qm41.out
         have HKEY : Hid (keyOf Try.prog 3 (.int .i64 sz.x.m.y) = some (.int .i64 sz.x.m.y)) := Lib.hid (keyI (by have := HNB.out; omega))
         have HMH := Lib.hid hmh
         have HMO := Lib.hid hmo
         have HMQ := Lib.hid hmq
         clear hmh hmo hmq
         go_upto_region 26 with fail
         go_wp2_with (at_mapUpdate; refine wpList_mapUpdate_own _ rfl _ _ _ 52 rfl 3 4 lawInt Try.underlying52 _ gm (3 * k + t) _ rfl HMO.out (by have := HN60.out; have := HLT.out; have := HTN.out; have := HN3.out.1; unfold maxLen; omega) _ _ _ rfl rfl HKEY.out _ [] (plainElem_bool Try.underlying4 bt) ?_)
         clear s9
         intro W12 hown8 hgrow8
         have hch : Hid (Chg gm W10 W12) := Lib.hid ⟨Below.grown (Below.refl _ _) hgrow8 (Nat.zero_le _) (fun _ _ => Nat.zero_le _), fun b hb hne => hgrow8.block b hb (by intro e; cases e; exact hne rfl)⟩
         have s9 : W12.cell? ⟨gs, 9, none⟩ = some (.bool bt) := (Hs41.out.chg hch.out (by have := HGS.out; have := HGY.out; omega)).cell 9
         have QY12 : Hid (MpA (fun b => b = gy) gy (k + 1) y2 W12) := Lib.hid (Qy41.out.chg hch.out (by intro e; have h2 := HGY.out; (try dsimp only at e); omega))
         have HOI3 : Hid (OneInv rs2 (updD d2 sz.x.m.y bt) y2) := Lib.hid (HOI2.out.told HHB.out.1 bt HHB.out.2)
         have HNX : Hid (∃ d2 : Int → Option Bool, Blk W12 gc #[.int .i64 3, .slice p4 n4 c4] 27 ∧ Ct (NotIn [gc, gm, gy]) W12 3 p4 n4 c4 rs2 ∧ MpO (fun b => b = gm) gm (3 * k + (t + 1)) d2 W12 ∧ MpA (fun b => b = gy) gy (k + 1) y2 W12 ∧ SdR (NotIn [gc, gm, gy]) W12 (.slice (some ⟨sb, so, none⟩) nv4 cv4) out2 ∧ OneInv rs2 d2 y2 ∧ Below w.heap.size w W12) := Lib.hid ⟨updD d2 sz.x.m.y bt, Hc41.out.chg hch.out (by have := HGM.out; omega), Qc41.out.chg hch.out (notIn_self (by simp)), MpO.put rfl HMH.out HMO.out.isMap hown8, QY12.out, Qs41.out.chg hch.out (notIn_self (by simp)), HOI3.out, HB41.out.trans (hch.out.below (by have := HGgc.out; have := HGM.out; omega) HB41.out.size)⟩
         clear hch hown8 hgrow8 HMH HMO HMQ HKEY Hc41 Hs41 Qc41 Qm41 Qy41 Qs41 HB41 HZ41
         go_upto_region 27 with fail
         cases bt
         ·go_upto_region 29 with fail
          clear s9
          go_wp2_with fail
          go_roundw
          case rel => exact ⟨t + 1, by have := HTN.out; omega, by go_num, HNX⟩
          case measure => have := HTN.out; simp [intOf]; omega
         ·have hlook := QY12.out.look sz.x.m.y (by have := HNB.out; omega)
          rw [yes3 ((HOI3.out.at_ HHB.out.1).v3 HHB.out.2)] at hlook
          have heq := yes3_eq W12
          go_upto_region 29 with fail
          clear s9 hlook heq
          go_wp2_with fail
          go_roundw
          case rel => exact ⟨t + 1, by have := HTN.out; omega, by go_num, HNX⟩
          case measure => have := HTN.out; simp [intOf]; omega
       ·skip
        have hk1 : (sz.x.m.k == 14) = false := by simpa using hk
        have hk2 : (sz.x.m.k != 14) = true := by simpa using hk
        have HNX : Hid (∃ d2 : Int → Option Bool, Blk W10 gc #[.int .i64 3, .slice p4 n4 c4] 27 ∧ Ct (NotIn [gc, gm, gy]) W10 3 p4 n4 c4 rs2 ∧ MpO (fun b => b = gm) gm (3 * k + (t + 1)) d2 W10 ∧ MpA (fun b => b = gy) gy (k + 1) y2 W10 ∧ SdR (NotIn [gc, gm, gy]) W10 (.slice (some ⟨sb, so, none⟩) nv4 cv4) out2 ∧ OneInv rs2 d2 y2 ∧ Below w.heap.size w W10) := Lib.hid ⟨d2, Hc41.out, Qc41.out, Qm41.out.mono (by omega), Qy41.out, Qs41.out, HOI2.out, HB41.out⟩
        clear Hc41 Hs41 Qc41 Qm41 Qy41 Qs41 HB41 HZ41 HDE HOI2 hk
        go_upto_region 29 with fail
        clear hk1 hk2 s1
        go_wp2_with fail
        go_roundw
        case rel => exact ⟨t + 1, by have := HTN.out; omega, by go_num, HNX⟩
        case measure => have := HTN.out; simp [intOf]; omega
      ·skip
       have htI : ¬ (t : Int) < (nv4 : Int) := by omega
       have HT3 : Hid (t ≤ 3) := Lib.hid (by have := HN3.out.1; omega)
       clear htl ht Qs40 HO1 HO3
       go_upto_region 30 with fail
       clear htI
       obtain ⟨hmq, D, hmo, hmh⟩ := Qm40.out
       have HMH := Lib.hid hmh
       have HMO := Lib.hid hmo
       clear hmh hmo hmq
       go_wp2_with (at_range; refine wpList_range_own _ rfl _ 52 rfl 3 4 lawInt Try.underlying52 _ gm _ D rfl HMO.out ?_; intro w0 hrg0 hg0 hs0)
       go_frame
       have HGR : Hid (gy < wr.heap.size) := Lib.hid Qy40.out.lt
       have hb0 : Below wr.heap.size wr w0 := Below.grown (Below.refl _ _) hg0 (Nat.le_refl _) (fun _ h => nomatch h)
       have HRG : Hid (Rg gm wr.heap.size (3 * k + t) D (Maps.has D) (Maps.size D) w0) := Lib.hid hrg0
       have Hc41 := kbq Hc40 hb0
       have Qc41 : Hid (Ct (fun b => (NotIn [gc, gm, gy]) b ∧ b < wr.heap.size) w0 3 p4 n4 c4 rs2) := Lib.hid (Ct.kept ⟨Qc40.out.rs.lt, Qc40.out.n, Qc40.out.ok⟩ hb0)
       have Qy41 := Lib.hid (Qy40.out.kept hb0)
       have HB41 := ktq HB40 hb0
       clear hb0 hrg0 hg0 hs0 HMO Hc40 Qc40 Qm40 Qy40 HB40 HZ40
       generalize wr.heap.size = gr at *
       have HREL : Hid ((∀ kl, Maps.has D kl = true → Maps.has D kl = true) ∧ Rg gm gr (3 * k + t) D (Maps.has D) (Maps.size D) w0 ∧ Blk w0 gc #[.int .i64 3, .slice p4 n4 c4] 27 ∧ Ct (fun b => (NotIn [gc, gm, gy]) b ∧ b < gr) w0 3 p4 n4 c4 rs2 ∧ MpA (fun b => b = gy) gy (k + 1) y2 w0 ∧ Below w.heap.size w w0) := Lib.hid ⟨fun _ h => h, HRG.out, Hc41.out, Qc41.out, Qy41.out, HB41.out⟩
       clear HRG Hc41 Qc41 Qy41 HB41
       go_loopw [19] (fun _ wr => ∃ (left : Lit → Bool) (cnt : Nat), Hid ((∀ kl, left kl = true → Maps.has D kl = true) ∧ Rg gm gr (3 * k + t) D left cnt wr ∧ Blk wr gc #[.int .i64 3, .slice p4 n4 c4] 27 ∧ Ct (fun b => (NotIn [gc, gm, gy]) b ∧ b < gr) wr 3 p4 n4 c4 rs2 ∧ MpA (fun b => b = gy) gy (k + 1) y2 wr ∧ Below w.heap.size w wr)) (fun _ wr => wr.rangeLeft gm gr)
       case atStart => exact ⟨_, _, HREL⟩
       case round =>
        clear HREL
        obtain ⟨left, cnt, HJ⟩ := hrel
        have hrg : wr.ranges Try.prog 3 (plainElem Try.prog 4) gm gr (3 * k + t) D left cnt := HJ.out.2.1
        go_wp2_with (at_next; refine wpList_next_ranges _ rfl _ rfl 3 lawInt (plainElem Try.prog 4) (Value.int .i64) (fun n : Int => Value.bool (n == 1)) invK1 invV1 gm gr _ D _ _ rfl hrg ?_ ?_)
        ·skip
         intro hc0 hl0
         clear hc0 hl0 hrg
         have HNX : Hid (∃ (rs : List Rn) (p : Option Addr) (m c : Nat) (d : Int → Option Bool) (y : Int → Nat → Bool), Blk wr gc #[.int .i64 3, .slice p m c] 27 ∧ Ct (NotIn [gc, gm, gy]) wr 3 p m c rs ∧ MpO (fun b => b = gm) gm (3 * (k + 1)) d wr ∧ MpA (fun b => b = gy) gy (k + 1) y wr ∧ OneInv rs d y ∧ NsB rs ∧ rs.length ≤ (k + 1) ∧ Below w.heap.size w wr) := Lib.hid ⟨rs2, p4, n4, c4, d2, y2, HJ.out.2.2.1, ⟨HJ.out.2.2.2.1.rs.imp (fun _ h => h.1), HJ.out.2.2.2.1.n, HJ.out.2.2.2.1.ok⟩, MpO.mono ⟨rfl, D, HJ.out.2.1.owns, HMH.out⟩ (by have := HT3.out; omega), HJ.out.2.2.2.2.1, HOI2.out, HNS2.out, HRL2.out, HJ.out.2.2.2.2.2⟩
         clear HJ
         go_wp2_with fail
         go_roundw
         case rel => exact ⟨k + 1, by have := HLT.out; omega, by go_num, HNX⟩
         case measure => have := HLT.out; simp [intOf]; omega
        ·skip
         intro kx kn kl ya yb w1 cnt1 hkey hlx hR hat hrg1 hlt1 hg1 hs1 hen
         generalize (kn == 1) = kc at *
         obtain rfl := entry_kl hkey
         have HDK : Hid (d2 kx = some kc) := Lib.hid (by
          have h1 := HMH.out kx
          rw [HJ.out.1 _ hlx] at h1
          have h2 := hat (.lit (.bool false))
          have h9 : ya = _ := entry_y hR
          rw [h9, h1.2] at h2
          cases hd : d2 kx with
          | none => rw [hd] at h1; exact absurd h1.1 (by simp)
          | some v =>
           rw [hd] at h2
           have h3 : (Option.some v).getD false = kc := by simpa using h2
           rw [← h3]
           rfl)
         have HTH := Lib.hid (one_there HOI2.out HDK.out)
         have hch : Hid (Chg gr wr w1) := Lib.hid ⟨Below.grown (Below.refl _ _) hg1 (Nat.zero_le _) (fun _ _ => Nat.zero_le _), fun b hb hne => hg1.block b hb (by intro e; cases e; exact hne rfl)⟩
         have Hc60 := Lib.hid (HJ.out.2.2.1.chg hch.out (by have := HGM.out; have := HGY.out; have := HGR.out; omega))
         have Qc60 := Lib.hid (HJ.out.2.2.2.1.chg hch.out (fun h => Nat.lt_irrefl _ h.2))
         have Qy60 := Lib.hid (HJ.out.2.2.2.2.1.chg hch.out (by intro e; have h2 := HGR.out; (try dsimp only at e); omega))
         have Qr60 : Hid (Rg gm gr (3 * k + t) D (fun z => left z && !z.sameKey (.int .i64 kx)) cnt1 w1) := Lib.hid hrg1
         have HB60 := Lib.hid (HJ.out.2.2.2.2.2.trans (hch.out.below (by have := HGgc.out; have := HGM.out; have := HGY.out; have := HGR.out; omega) HJ.out.2.2.2.2.2.size))
         have HZ60 : Hid (w.heap.size ≤ w1.heap.size) := Lib.hid HB60.out.size
         have HLF : Hid (∀ kl, (left kl && !kl.sameKey (.int .i64 kx)) = true → Maps.has D kl = true) := Lib.hid (fun kl h => HJ.out.1 kl (by rw [Bool.and_eq_true] at h; exact h.1))
         have HRG0 := Lib.hid hrg
         have HLT1 := Lib.hid hlt1
         clear hch HJ hkey hlx hR hat hrg1 hlt1 hg1 hs1 hrg HDK
         have HG := Lib.hid (cget_q w1 (fun b => (NotIn [gc, gm, gy]) b ∧ b < gr) 3 3 rfl kx p4 n4 c4 rs2 Qc60.out (by rw [Qc60.out.n]; have := HRL2.out; have := HN60.out; have := HLT.out; omega) (by decide) (by decide) true HTH.out.1)
         have a0 : w1.cell? ⟨gc, 0, none⟩ = some (.int .i64 3) := Hc60.out.cell 0
         have a1 : w1.cell? ⟨gc, 1, none⟩ = some (.slice p4 n4 c4) := Hc60.out.cell 1
         go_wp2_with fail
         clear a0 a1 hen
         refine HG.out.mono ?_
         rintro y9 w2 ⟨hb, x, rfl, hg⟩
         clear HG
         have HXR : Hid (x.r = rnAt rs2 kx) := Lib.hid (hg.1 rfl).1
         have HXN := Lib.hid (hg.1 rfl).2.1.ns
         clear hg
         unfold RunX.v
         have Hc61 := kbq Hc60 hb
         have Qc61 := Lib.hid (Qc60.out.kept hb)
         have Qy61 := Lib.hid (Qy60.out.kept hb)
         have Qr61 := Lib.hid (Qr60.out.kept hb)
         have HB61 := ktq HB60 hb
         have HZ61 := kzq HZ60 hb.size
         clear Hc60 Qc60 Qy60 Qr60 HB60 HZ60
         clear hb
         have HX64 : Hid (All64 x.r.ns ∧ x.r.ns.length ≤ 1000) := Lib.hid (by
          rw [HXR.out]
          have h1 := rnAt_mem HTH.out.1
          exact ⟨HNS2.out _ h1, by have := (Qc61.out.ok.2 _ h1).2; omega⟩)
         have HXN2 : Hid (Row .i64 (w2.alloc (.cells #[.int .i64 x.r.cu, .int .i64 x.r.st, .slice x.pf x.r.hs.length x.cf, .slice x.pl x.r.ls.length x.cl, .slice x.pn x.r.ns.length x.cn] 56)) (.slice x.pn x.r.ns.length x.cn) x.r.ns) := Lib.hid (HXN.out.kept (oneB w2 _))
         clear HXN
         have hba := oneB w2 (.cells #[.int .i64 x.r.cu, .int .i64 x.r.st, .slice x.pf x.r.hs.length x.cf, .slice x.pl x.r.ls.length x.cl, .slice x.pn x.r.ns.length x.cn] 56)
         have Hc62 := kbq Hc61 hba
         have Qc62 := Lib.hid (Qc61.out.kept hba)
         have Qy62 := Lib.hid (Qy61.out.kept hba)
         have Qr62 := Lib.hid (Qr61.out.kept hba)
         have Hx62 := Lib.hid (Blk.new w2 #[.int .i64 x.r.cu, .int .i64 x.r.st, .slice x.pf x.r.hs.length x.cf, .slice x.pl x.r.ls.length x.cl, .slice x.pn x.r.ns.length x.cn] 56)
         have HB62 := Lib.hid (HB61.out.alloc HB61.out.size (.cells #[.int .i64 x.r.cu, .int .i64 x.r.st, .slice x.pf x.r.hs.length x.cf, .slice x.pl x.r.ls.length x.cl, .slice x.pn x.r.ns.length x.cn] 56))
         have HZ62 := kzq HZ61 hba.size
         have HGgx : Hid (w.heap.size ≤ w2.heap.size) := Lib.hid HB61.out.size
         clear hba Hc61 Qc61 Qy61 Qr61 HB61 HZ61
         go_upto_region 34 with fail
         generalize (w2.alloc (.cells #[.int .i64 x.r.cu, .int .i64 x.r.st, .slice x.pf x.r.hs.length x.cf, .slice x.pl x.r.ls.length x.cl, .slice x.pn x.r.ns.length x.cn] 56)) = W3 at *
         generalize hggx : w2.heap.size = gx at *
         clear hggx
         obtain ⟨st, hst⟩ : ∃ st, x.r.st = st := ⟨_, rfl⟩
         have HST := Lib.hid hst
         have HS3 : Hid (st = if kc then 3 else 4) := Lib.hid (by rw [← hst, HXR.out]; exact HTH.out.2.1)
         clear hst
         have x1 : W3.cell? ⟨gx, 1, none⟩ = some (.int .i64 st) := by have h := Hx62.out.cell 1; rw [h, ← HST.out]; rfl
         have x4 : W3.cell? ⟨gx, 4, none⟩ = some (.slice x.pn x.r.ns.length x.cn) := Hx62.out.cell 4
         have HG := Lib.hid (refsum_any (.slice x.pn x.r.ns.length x.cn) x.r.ns W3 HX64.out.2 HX64.out.1 HXN2.out)
         clear HXN2
         cases kc
         ·skip
          have hs3 : st = 4 := HS3.out
          clear HS3
          subst hs3
          go_wp2_with fail
          clear x1 x4
          refine HG.out.mono ?_
          rintro y9 w4 ⟨rfl, hb⟩
          clear HG
          have Hc63 := kbq Hc62 hb
          have Hx63 := kbq Hx62 hb
          have Qc63 := Lib.hid (Qc62.out.kept hb)
          have Qy63 := Lib.hid (Qy62.out.kept hb)
          have Qr63 := Lib.hid (Qr62.out.kept hb)
          have HB63 := ktq HB62 hb
          have HZ63 := kzq HZ62 hb.size
          clear Hc62 Hx62 Qc62 Qy62 Qr62 HB62 HZ62
          clear hb
          have HNX : Hid ((∀ kl, (left kl && !kl.sameKey (.int .i64 kx)) = true → Maps.has D kl = true) ∧ Rg gm gr (3 * k + t) D (fun z => left z && !z.sameKey (.int .i64 kx)) cnt1 w4 ∧ Blk w4 gc #[.int .i64 3, .slice p4 n4 c4] 27 ∧ Ct (fun b => (NotIn [gc, gm, gy]) b ∧ b < gr) w4 3 p4 n4 c4 rs2 ∧ MpA (fun b => b = gy) gy (k + 1) y2 w4 ∧ Below w.heap.size w w4) := Lib.hid ⟨HLF.out, Qr63.out, Hc63.out, Qc63.out, Qy63.out, HB63.out⟩
          clear Hc63 Hx63 Qc63 Qy63 HB63 HZ63 HLF HX64 HXR HTH HST
          go_wp2_with fail
          go_roundw
          case rel => exact ⟨_, cnt1, HNX⟩
          case measure => rw [World.ranges.left_eq Qr63.out, World.ranges.left_eq HRG0.out]; exact HLT1.out
         ·skip
          have hs3 : st = 3 := HS3.out
          clear HS3
          subst hs3
          have hsm : x.r.ns.sum = 0 := by rw [HXR.out]; exact HTH.out.2.2 rfl
          rw [hsm, show sumN 0 = 0 from sumN_yes (by unfold Fits; omega), show sumE 0 = 0 from sumE_yes (by unfold Fits; omega)] at HG
          clear hsm
          go_wp2_with fail
          clear x1 x4
          refine HG.out.mono ?_
          rintro y9 w4 ⟨rfl, hb⟩
          clear HG
          have Hc63 := kbq Hc62 hb
          have Hx63 := kbq Hx62 hb
          have Qc63 := Lib.hid (Qc62.out.kept hb)
          have Qy63 := Lib.hid (Qy62.out.kept hb)
          have Qr63 := Lib.hid (Qr62.out.kept hb)
          have HB63 := ktq HB62 hb
          have HZ63 := kzq HZ62 hb.size
          clear Hc62 Hx62 Qc62 Qy62 Qr62 HB62 HZ62
          clear hb
          have HNX : Hid ((∀ kl, (left kl && !kl.sameKey (.int .i64 kx)) = true → Maps.has D kl = true) ∧ Rg gm gr (3 * k + t) D (fun z => left z && !z.sameKey (.int .i64 kx)) cnt1 w4 ∧ Blk w4 gc #[.int .i64 3, .slice p4 n4 c4] 27 ∧ Ct (fun b => (NotIn [gc, gm, gy]) b ∧ b < gr) w4 3 p4 n4 c4 rs2 ∧ MpA (fun b => b = gy) gy (k + 1) y2 w4 ∧ Below w.heap.size w w4) := Lib.hid ⟨HLF.out, Qr63.out, Hc63.out, Qc63.out, Qy63.out, HB63.out⟩
          clear Hc63 Hx63 Qc63 Qy63 HB63 HZ63 HLF HX64 HXR HTH HST
          go_wp2_with fail
          go_roundw
          case rel => exact ⟨_, cnt1, HNX⟩
          case measure => rw [World.ranges.left_eq Qr63.out, World.ranges.left_eq HRG0.out]; exact HLT1.out
  ·have hltI : ¬ (k : Int) < (wn : Int) := by omega
   obtain ⟨rs, p0, m0, q0, d, y, hk1, hk2, hk3, hk4, hk5, hk6, hk7, hk8⟩ := HK.out
   have HBE := Lib.hid hk8
   clear hk1 hk2 hk3 hk4 hk5 hk6 hk7 hk8 HK
   go_wp2_with fail
   go_ret
   exact ⟨rfl, HBE.out⟩
end Go.Proofs.Yteogdfpkcoodlaa
namespace Go.Proofs.Yteogdfpkcoodlaa
open Go.ChangeShapes Go.WideShapes Go.ChangeAt Go.RowKit
section
variable {H : Type} {enc : TypeId × Value → H} {P : Program} {w : World} {base : Nat} {held : Bool}
theorem wd_readI {t tm : TypeId} {f0 fm : Field} (ht : P.underlying t = some (.struct #[f0, fm])) (o0 : f0.offset = 0) (om : fm.offset = 1)
  (u0 : P.underlying f0.type = some (.int .i64)) (tm' : fm.type = tm) (cc : P.cellsOf f0.type = 1 ∧ P.cellsOf tm = 11)
  (rd : ∀ (fuel : Nat) (cs : List Value) (y : DataW H × List MemPlace), cs.length = 11 → DataW.trod enc P w base (fun _ => true) held fuel tm cs = some y → ∃ x : MsgX, cs = x.cells ∧ x.In w)
  (fuel : Nat) (cs : List Value) (y : DataW H × List MemPlace) (hl : cs.length = 12) (hf : DataW.trod enc P w base (fun _ => true) held fuel t cs = some y) : ∃ x : SdX, cs = x.cells ∧ x.x.In w := by
 obtain ⟨c0, cm⟩ := cc
 match cs, hl with
 | v0 :: ms, hl =>
  have hml : ms.length = 11 := by simpa using hl
  obtain ⟨xs, k, hk, hxy, _, hxl, hf⟩ := DataW.trod_struct ht hf
  match xs, hxl with
  | [y0, ym], _ =>
   have g0 := hf 0 f0 rfl
   have gm := hf 1 fm rfl
   subst tm'
   simp [o0, om, c0, cm] at g0 gm
   rw [List.take_of_length_le (by omega)] at gm
   obtain ⟨z0, q0, _, w0⟩ := DataW.trod_int u0 g0
   simp at q0
   obtain ⟨x, rfl, hin⟩ := rd _ _ _ hml gm
   subst q0
   exact ⟨⟨z0, x⟩, rfl, hin⟩
end
end Go.Proofs.Yteogdfpkcoodlaa
