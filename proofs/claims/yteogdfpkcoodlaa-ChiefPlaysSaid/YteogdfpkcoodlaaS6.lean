/- ChiefPlays: its walk. A word of a law, read, with what its lists hold. -/
import Derived.Test.YteogdfpkcoodlaaS5
import Derived.Test.YteogdfpkcoodlaaS1
namespace Go.Proofs.Yteogdfpkcoodlaa
open Go.RowKit
set_option linter.unusedSimpArgs false
theorem st_step {N : Nat} {rs : List Rn} (h : StOk rs) (m : Msg) (fro : Int) : StOk (doC N rs m fro).1 := by
 have hset : ∀ (i : Nat) (q : Rn), 1 ≤ q.st ∧ q.st ≤ 4 → StOk (rs.set i q) := fun i q hq r hr => by
  rcases List.mem_or_eq_of_mem_set hr with h1 | h1
  ·exact h r h1
  ·subst h1; exact hq
 have hat : ∀ k, hasB rs k = true → 1 ≤ (rnAt rs k).st ∧ (rnAt rs k).st ≤ 4 := fun k hk => h _ (rnAt_mem hk)
 unfold doC
 split
 ·split
  ·unfold startC
   split
   ·exact h
   ·split
    ·exact h
    ·intro r hr
     rcases List.mem_append.1 hr with h1 | h1
     ·exact h r h1
     ·obtain rfl := List.mem_singleton.1 h1
      exact ⟨by show (1 : Int) ≤ 1; decide, by show (1 : Int) ≤ 4; decide⟩
  ·split
   ·split
    ·unfold dueC
     split
     ·exact hset _ _ ⟨by show (1 : Int) ≤ 4; decide, by show (4 : Int) ≤ 4; decide⟩
     ·exact h
    ·exact h
   ·exact h
 ·split
  ·split
   ·exact h
   ·split
    ·exact h
    ·next hh =>
     have hh : hasB rs m.y = true := by simpa using hh
     have hr := hat _ hh
     split
     ·unfold offerC
      split
      ·exact h
      ·split
       ·exact h
       ·split
        ·exact h
        ·split
         ·exact h
         ·split
          ·exact hset _ _ hr
          ·exact hset _ _ ⟨by show (1 : Int) ≤ 2; decide, by show (2 : Int) ≤ 4; decide⟩
     ·split
      ·unfold voteC
       split
       ·exact h
       ·split
        ·exact h
        ·split
         ·exact hset _ _ ⟨by show (1 : Int) ≤ 4; decide, by show (4 : Int) ≤ 4; decide⟩
         ·split
          ·exact hset _ _ hr
          ·exact hset _ _ ⟨by show (1 : Int) ≤ 3; decide, by show (3 : Int) ≤ 4; decide⟩
      ·unfold queryC
       split
       ·exact h
       ·exact h
  ·exact h
theorem do_outN {N : Nat} (h8 : N ≤ 8) (rs : List Rn) (m : Msg) (fro : Int) : (doC N rs m fro).2.1.length ≤ 8 := by
 have h : ∀ (c : Prop) (_ : Decidable c) (a b : CAns), a.2.1.length ≤ 8 → b.2.1.length ≤ 8 → (if c then a else b).2.1.length ≤ 8 := by
  intro c _ a b ha hb
  split <;> assumption
 have hn : ∀ (l : List Rn) (e : Int), ((l, [], e) : CAns).2.1.length ≤ 8 := fun _ _ => by show 0 ≤ 8; decide
 have ha : ∀ (l : List Rn) (q : Msg) (e : Int), ((l, toAllL N q, e) : CAns).2.1.length ≤ 8 := fun _ q _ => by show (toAllL N q).length ≤ 8; rw [toAllL_len]; exact h8
 have h1 : ∀ (l : List Rn) (q : Int × Msg) (e : Int), ((l, [q], e) : CAns).2.1.length ≤ 8 := fun _ _ _ => by show 1 ≤ 8; decide
 unfold doC
 repeat' (first | with_reducible refine h _ _ _ _ ?_ ?_ | exact hn _ _ | (unfold startC) | (unfold dueC) | (unfold offerC) | (unfold voteC) | (unfold queryC) | exact ha _ _ _ | exact h1 _ _ _)
/-- A list that came in lies below what the call makes. -/
theorem MsgX.In.inP {w : World} {x : MsgX} (h : x.In w) (hs : x.m.Sz) : x.InP (fun b => b < w.heap.size) w :=
 ⟨h.ls, h.ns, (At.ltT (P := fun _ => True) h.ls (fun _ _ _ _ _ _ => trivial)).imp (fun _ h => h.2), (At.ltR (P := fun _ => True) h.ns (fun _ _ _ _ _ _ => trivial)).imp (fun _ h => h.2), hs⟩
set_option linter.unusedSimpArgs false in
set_option maxHeartbeats 4000000 in
set_option maxRecDepth 100000 in
theorem plays_walk (nn : Int) (v : Value) (ws : List SdX) (w : World) (_hnn : -9223372036854775808 ≤ nn ∧ nn ≤ 9223372036854775807) (hw : TRow encS w v ws) (hin : ∀ z ∈ ws, z.x.In w) :
  Calls Try.prog 3 #[.int .i64 nn, v] w fun e w' => e = .returned (.bool true) ∧ Below w.heap.size w w' := by
 obtain ⟨wp, wc, hv⟩ := hw.shape
 generalize hwn : ws.length = wn at hv
 subst hv
 have HWR := Lib.hid hw
 have HWI := Lib.hid hin
 have HWN : Hid (ws.length = wn) := Lib.hid hwn
 clear hw hin hwn _hnn
 have HL := Lib.hid (fun W => leads_any W)
 go_enter Try.func3, Try.ntmps3
 go_wp2_with fail
 refine (HL.out w).mono ?_
 rintro y9 W ⟨rfl, hb⟩
 clear HL
 have HB0 := Lib.hid hb
 have HWW := Lib.hid (HWR.out.kept hb)
 clear hb
 by_cases hn1 : nn < 1
 ·go_wp2_with fail
  go_ret
  exact ⟨rfl, HB0.out⟩
 by_cases hn8 : (8 : Int) < nn
 ·go_wp2_with fail
  go_ret
  exact ⟨rfl, HB0.out⟩
 have HG := Lib.hid (cfits_any W (.slice wp wn wc) ws HWW.out)
 obtain ⟨bf, hbf⟩ : ∃ bf, fitsC ws = bf := ⟨_, rfl⟩
 rw [hbf] at HG
 have HBF := Lib.hid hbf
 clear hbf HWW
 go_wp2_with fail
 refine HG.out.mono ?_
 rintro y9 W1 ⟨rfl, hb⟩
 clear HG
 have HB1 := ktq HB0 hb
 clear hb HB0
 cases bf
 ·go_wp2_with fail
  go_ret
  exact ⟨rfl, HB1.out⟩
 have HFT := Lib.hid (fitsC_ok HBF.out)
 have HN60 : Hid (wn ≤ 60) := Lib.hid (by have := HFT.out.1; have := HWN.out; omega)
 clear HBF
 obtain ⟨N, hN⟩ : ∃ N : Nat, nn = (N : Int) := ⟨nn.toNat, by omega⟩
 subst hN
 have HNN : Hid (1 ≤ N ∧ N ≤ 8) := Lib.hid (by omega)
 go_upto_region 5 with fail
 clear hn1 hn8
 have HZ1 : Hid (w.heap.size ≤ W1.heap.size) := Lib.hid HB1.out.size
 have hba := oneB W1 (.cells #[.int .i64 (N : Int), .slice none 0 0] 27)
 have Hc2 := Lib.hid (Blk.new W1 #[.int .i64 (N : Int), .slice none 0 0] 27)
 have HB2 := Lib.hid (HB1.out.alloc HB1.out.size (.cells #[.int .i64 (N : Int), .slice none 0 0] 27))
 have HZ2 := kzq HZ1 hba.size
 have HGgc : Hid (w.heap.size ≤ W1.heap.size) := Lib.hid HB1.out.size
 clear hba HB1 HZ1
 go_upto_region 6 with fail
 generalize (W1.alloc (.cells #[.int .i64 (N : Int), .slice none 0 0] 27)) = W2 at *
 generalize hggc : W1.heap.size = gc at *
 clear hggc
 have HGD : Hid (gc < W2.heap.size) := Lib.hid Hc2.out.lt
 have hba := oneB W2 (.cells #[.int .i64 (N : Int), .slice none 0 0] 30)
 have Hc3 := kbq Hc2 hba
 have Hd3 := Lib.hid (Blk.new W2 #[.int .i64 (N : Int), .slice none 0 0] 30)
 have HB3 := Lib.hid (HB2.out.alloc HB2.out.size (.cells #[.int .i64 (N : Int), .slice none 0 0] 30))
 have HZ3 := kzq HZ2 hba.size
 have HGgd : Hid (w.heap.size ≤ W2.heap.size) := Lib.hid HB2.out.size
 clear hba Hc2 HB2 HZ2
 go_upto_region 7 with fail
 generalize (W2.alloc (.cells #[.int .i64 (N : Int), .slice none 0 0] 30)) = W3 at *
 generalize hggd : W2.heap.size = gd at *
 clear hggd
 have HREL : Hid (∃ (rs : List Rn) (p : Option Addr) (m c : Nat) (p2 : Option Addr) (m2 c2 : Nat), Blk W3 gc #[.int .i64 (N : Int), .slice p m c] 27 ∧ Blk W3 gd #[.int .i64 (N : Int), .slice p2 m2 c2] 30 ∧ Ct (NotIn [gc, gd]) W3 N p m c rs ∧ DsR (NotIn [gc, gd]) N W3 (.slice p2 m2 c2) rs ∧ m2 = rs.length ∧ StOk rs ∧ rs.length ≤ 0 ∧ Below w.heap.size w W3) := Lib.hid ⟨[], none, 0, 0, none, 0, 0, Hc3.out, Hd3.out, Ct.nil_ _ _ _, DsR.nil_ _ _ _, rfl, (fun _ h => nomatch h), Nat.le_refl _, HB3.out⟩
 clear Hc3 Hd3 HB3 HZ3
 go_wp2_with fail
 go_loopw [35] (fun i wr => ∃ k : Nat, k ≤ wn ∧ i = .int .i64 k ∧ Hid (∃ (rs : List Rn) (p : Option Addr) (m c : Nat) (p2 : Option Addr) (m2 c2 : Nat), Blk wr gc #[.int .i64 (N : Int), .slice p m c] 27 ∧ Blk wr gd #[.int .i64 (N : Int), .slice p2 m2 c2] 30 ∧ Ct (NotIn [gc, gd]) wr N p m c rs ∧ DsR (NotIn [gc, gd]) N wr (.slice p2 m2 c2) rs ∧ m2 = rs.length ∧ StOk rs ∧ rs.length ≤ k ∧ Below w.heap.size w wr)) (fun i _ => wn - (intOf i).toNat)
 case atStart => exact ⟨0, by omega, rfl, HREL⟩
 case round =>
  clear HREL
  obtain ⟨k, hk, rfl, HK⟩ := hrel
  have hk9 : k + 1 ≤ 61 := by have := HN60.out; omega
  by_cases hlt : k < wn
  ·skip
   have hltI : (k : Int) < (wn : Int) := by omega
   have HLT : Hid (k < wn) := Lib.hid hlt
   obtain ⟨rs, p0, m0, q0, p1, m1, q1, hk1, hk2, hk3, hk4, hk5, hk6, hk7, hk8⟩ := HK.out
   have Hc20 := Lib.hid hk1
   have Hd20 := Lib.hid hk2
   have Qc20 := Lib.hid hk3
   have Qd20 := Lib.hid hk4
   have HM1 := Lib.hid hk5
   have HSO := Lib.hid hk6
   have HRL := Lib.hid hk7
   have HB20 := Lib.hid hk8
   have HZ20 : Hid (w.heap.size ≤ wr.heap.size) := Lib.hid hk8.size
   clear HK hk1 hk2 hk3 hk4 hk5 hk6 hk7 hk8
   have hkl : k < ws.length := by have := HWN.out; omega
   obtain ⟨zb, zo, hzp, hzl, hzc⟩ := (HWR.out.kept HB20.out).at_ k hkl
   subst hzp
   have HZI : Hid (ws[k].x.In w) := Lib.hid (HWI.out _ (List.getElem_mem hkl))
   have HZF := Lib.hid (HFT.out.2 _ (List.getElem_mem hkl))
   generalize ws[k] = z at *
   have HZP : Hid (z.x.InP (fun b => b < w.heap.size) w) := Lib.hid (HZI.out.inP ⟨by have := HZF.out.1; omega, by have := HZF.out.2; omega⟩)
   clear hkl hlt hk hzl HZI
   have c0 : wr.cell? ⟨zb, zo + k * 12, none⟩ = some (.int .i64 z.tw) := hzc 0 (by decide)
   have c1 : wr.cell? ⟨zb, zo + k * 12 + 1, none⟩ = some (.int .i64 z.x.m.k) := hzc 1 (by decide)
   have c2 : wr.cell? ⟨zb, zo + k * 12 + 2, none⟩ = some (.int .i64 z.x.m.s) := hzc 2 (by decide)
   have c3 : wr.cell? ⟨zb, zo + k * 12 + 3, none⟩ = some (.int .i64 z.x.m.n) := hzc 3 (by decide)
   have c4 : wr.cell? ⟨zb, zo + k * 12 + 4, none⟩ = some (.int .i64 z.x.m.b) := hzc 4 (by decide)
   have c5 : wr.cell? ⟨zb, zo + k * 12 + 5, none⟩ = some (.int .i64 z.x.m.c) := hzc 5 (by decide)
   have c6 : wr.cell? ⟨zb, zo + k * 12 + 6, none⟩ = some (.int .i64 z.x.m.r) := hzc 6 (by decide)
   have c7 : wr.cell? ⟨zb, zo + k * 12 + 7, none⟩ = some (.int .i64 z.x.m.y) := hzc 7 (by decide)
   have c8 : wr.cell? ⟨zb, zo + k * 12 + 8, none⟩ = some (.int .i64 z.x.m.a) := hzc 8 (by decide)
   have c9 : wr.cell? ⟨zb, zo + k * 12 + 9, none⟩ = some (.bool z.x.m.t) := hzc 9 (by decide)
   have c10 : wr.cell? ⟨zb, zo + k * 12 + 10, none⟩ = some (.slice z.x.pl z.x.m.ls.length z.x.cl) := hzc 10 (by decide)
   have c11 : wr.cell? ⟨zb, zo + k * 12 + 11, none⟩ = some (.slice z.x.pn z.x.m.ns.length z.x.cn) := hzc 11 (by decide)
   clear hzc
   have HGZ : Hid (gd < wr.heap.size) := Lib.hid Hd20.out.lt
   have hba := oneB wr (.cells #[.int .i64 z.tw, .int .i64 z.x.m.k, .int .i64 z.x.m.s, .int .i64 z.x.m.n, .int .i64 z.x.m.b, .int .i64 z.x.m.c, .int .i64 z.x.m.r, .int .i64 z.x.m.y, .int .i64 z.x.m.a, .bool z.x.m.t, .slice z.x.pl z.x.m.ls.length z.x.cl, .slice z.x.pn z.x.m.ns.length z.x.cn] 38)
   have Hc21 := kbq Hc20 hba
   have Hd21 := kbq Hd20 hba
   have Qc21 := Lib.hid (Qc20.out.kept hba)
   have Qd21 := Lib.hid (Qd20.out.kept hba)
   have Hz21 := Lib.hid (Blk.new wr #[.int .i64 z.tw, .int .i64 z.x.m.k, .int .i64 z.x.m.s, .int .i64 z.x.m.n, .int .i64 z.x.m.b, .int .i64 z.x.m.c, .int .i64 z.x.m.r, .int .i64 z.x.m.y, .int .i64 z.x.m.a, .bool z.x.m.t, .slice z.x.pl z.x.m.ls.length z.x.cl, .slice z.x.pn z.x.m.ns.length z.x.cn] 38)
   have HB21 := Lib.hid (HB20.out.alloc HB20.out.size (.cells #[.int .i64 z.tw, .int .i64 z.x.m.k, .int .i64 z.x.m.s, .int .i64 z.x.m.n, .int .i64 z.x.m.b, .int .i64 z.x.m.c, .int .i64 z.x.m.r, .int .i64 z.x.m.y, .int .i64 z.x.m.a, .bool z.x.m.t, .slice z.x.pl z.x.m.ls.length z.x.cl, .slice z.x.pn z.x.m.ns.length z.x.cn] 38))
   have HZ21 := kzq HZ20 hba.size
   have HGgz : Hid (w.heap.size ≤ wr.heap.size) := Lib.hid HB20.out.size
   clear hba Hc20 Hd20 Qc20 Qd20 HB20 HZ20
   go_upto_region 10 with fail
   clear hltI c0 c1 c2 c3 c4 c5 c6 c7 c8 c9 c10 c11
   generalize (wr.alloc (.cells #[.int .i64 z.tw, .int .i64 z.x.m.k, .int .i64 z.x.m.s, .int .i64 z.x.m.n, .int .i64 z.x.m.b, .int .i64 z.x.m.c, .int .i64 z.x.m.r, .int .i64 z.x.m.y, .int .i64 z.x.m.a, .bool z.x.m.t, .slice z.x.pl z.x.m.ls.length z.x.cl, .slice z.x.pn z.x.m.ns.length z.x.cn] 38)) = W4 at *
   generalize hggz : wr.heap.size = gz at *
   clear hggz
   obtain ⟨⟨rs2, out2, e2⟩, hA⟩ : ∃ A, doC N rs z.x.m z.tw = A := ⟨_, rfl⟩
   have HA := Lib.hid hA
   have HOK := Lib.hid Qc21.out.ok
   have HRL2 : Hid (rs2.length ≤ k + 1) := Lib.hid (by have h := (do_ok HOK.out HNN.out.2 z.x.m HZF.out.1 z.tw).2.2; rw [hA] at h; have h : rs2.length ≤ rs.length + 1 := h; have := HRL.out; omega)
   have HSO2 : Hid (StOk rs2) := Lib.hid (by have h := st_step (N := N) HSO.out z.x.m z.tw; rw [hA] at h; exact h)
   have HOL : Hid (out2.length ≤ 8) := Lib.hid (by have h := do_outN HNN.out.2 rs z.x.m z.tw; rw [hA] at h; exact h)
   clear hA
   have HG := Lib.hid (cdo_q W4 (NotIn [gc, gd]) N (N : Int) rfl p0 m0 q0 rs z.x z.tw Qc21.out (fun b hb hm => by have h7 := Hd21.out.lt; have h0 := Hc21.out.lt; simp only [List.mem_cons, List.not_mem_nil, or_false] at hm; omega) (by rw [Qc21.out.n]; have := HRL.out; have := HN60.out; have := HLT.out; omega) HNN.out.1 HNN.out.2 (fun b => b < w.heap.size) (HZP.out.kept HB21.out) HZF.out.1 rs2 out2 e2 HA.out)
   simp only [Msg.v] at HG
   have a0 : W4.cell? ⟨gc, 0, none⟩ = some (.int .i64 (N : Int)) := Hc21.out.cell 0
   have a1 : W4.cell? ⟨gc, 1, none⟩ = some (.slice p0 m0 q0) := Hc21.out.cell 1
   have z0 : W4.cell? ⟨gz, 0, none⟩ = some (.int .i64 z.tw) := Hz21.out.cell 0
   have z1 : W4.cell? ⟨gz, 1, none⟩ = some (.int .i64 z.x.m.k) := Hz21.out.cell 1
   have z2 : W4.cell? ⟨gz, 2, none⟩ = some (.int .i64 z.x.m.s) := Hz21.out.cell 2
   have z3 : W4.cell? ⟨gz, 3, none⟩ = some (.int .i64 z.x.m.n) := Hz21.out.cell 3
   have z4 : W4.cell? ⟨gz, 4, none⟩ = some (.int .i64 z.x.m.b) := Hz21.out.cell 4
   have z5 : W4.cell? ⟨gz, 5, none⟩ = some (.int .i64 z.x.m.c) := Hz21.out.cell 5
   have z6 : W4.cell? ⟨gz, 6, none⟩ = some (.int .i64 z.x.m.r) := Hz21.out.cell 6
   have z7 : W4.cell? ⟨gz, 7, none⟩ = some (.int .i64 z.x.m.y) := Hz21.out.cell 7
   have z8 : W4.cell? ⟨gz, 8, none⟩ = some (.int .i64 z.x.m.a) := Hz21.out.cell 8
   have z9 : W4.cell? ⟨gz, 9, none⟩ = some (.bool z.x.m.t) := Hz21.out.cell 9
   have z10 : W4.cell? ⟨gz, 10, none⟩ = some (.slice z.x.pl z.x.m.ls.length z.x.cl) := Hz21.out.cell 10
   have z11 : W4.cell? ⟨gz, 11, none⟩ = some (.slice z.x.pn z.x.m.ns.length z.x.cn) := Hz21.out.cell 11
   go_wp2_with fail
   clear a0 a1 z0 z1 z2 z3 z4 z5 z6 z7 z8 z9 z10 z11
   refine HG.out.mono ?_
   rintro y9 w4 ⟨hb, p4, n4, c4, pv4, nv4, cv4, rfl, hc, hnv, hsd⟩
   clear HG Qc21
   have Hc22 := kbq Hc21 hb
   have Hd22 := kbq Hd21 hb
   have Hz22 := kbq Hz21 hb
   have Qd22 := Lib.hid (Qd21.out.kept hb)
   have HB22 := ktq HB21 hb
   have HZ22 := kzq HZ21 hb.size
   clear Hc21 Hd21 Hz21 Qd21 HB21 HZ21
   clear hb
   have Qc22 := Lib.hid hc
   have Qs22 := Lib.hid hsd
   clear hc hsd
   have HNV4 := Lib.hid hnv
   clear hnv
   have HGN : Hid (gz < w4.heap.size) := Lib.hid Hz22.out.lt
   have hba := oneB w4 (.cells #[.int .i64 (N : Int), .slice p4 n4 c4] 27)
   have Hc23 := kbq Hc22 hba
   have Hd23 := kbq Hd22 hba
   have Hz23 := kbq Hz22 hba
   have Qd23 := Lib.hid (Qd22.out.kept hba)
   have Qc23 := Lib.hid (Qc22.out.kept hba)
   have Qs23 := Lib.hid (Qs22.out.kept hba)
   have Hn23 := Lib.hid (Blk.new w4 #[.int .i64 (N : Int), .slice p4 n4 c4] 27)
   have HB23 := Lib.hid (HB22.out.alloc HB22.out.size (.cells #[.int .i64 (N : Int), .slice p4 n4 c4] 27))
   have HZ23 := kzq HZ22 hba.size
   have HGgn : Hid (w.heap.size ≤ w4.heap.size) := Lib.hid HB22.out.size
   clear hba Hc22 Hd22 Hz22 Qd22 Qc22 Qs22 HB22 HZ22
   go_upto_region 11 with fail
   generalize (w4.alloc (.cells #[.int .i64 (N : Int), .slice p4 n4 c4] 27)) = W5 at *
   generalize hggn : w4.heap.size = gn at *
   clear hggn
   have HG := Lib.hid (ddo_any W5 (NotIn [gc, gd]) N p1 m1 q1 rs z.x z.tw Qd23.out HM1.out (by rw [HM1.out]; have := HRL.out; have := HN60.out; have := HLT.out; omega) HNN.out.2 HNN.out.1 HSO.out HOK.out.1 ((HZP.out.mono (fun b _ hb hm => by have h1 := HGgc.out; have h2 := HGD.out; simp only [List.mem_cons, List.not_mem_nil, or_false] at hm; omega)).kept HB23.out) HZF.out.1)
   unfold DP at HG
   rw [HA.out] at HG
   dsimp only at HG
   unfold Msg.v at HG
   have d0 : W5.cell? ⟨gd, 0, none⟩ = some (.int .i64 (N : Int)) := Hd23.out.cell 0
   have d1 : W5.cell? ⟨gd, 1, none⟩ = some (.slice p1 m1 q1) := Hd23.out.cell 1
   have z0 : W5.cell? ⟨gz, 0, none⟩ = some (.int .i64 z.tw) := Hz23.out.cell 0
   have z1 : W5.cell? ⟨gz, 1, none⟩ = some (.int .i64 z.x.m.k) := Hz23.out.cell 1
   have z2 : W5.cell? ⟨gz, 2, none⟩ = some (.int .i64 z.x.m.s) := Hz23.out.cell 2
   have z3 : W5.cell? ⟨gz, 3, none⟩ = some (.int .i64 z.x.m.n) := Hz23.out.cell 3
   have z4 : W5.cell? ⟨gz, 4, none⟩ = some (.int .i64 z.x.m.b) := Hz23.out.cell 4
   have z5 : W5.cell? ⟨gz, 5, none⟩ = some (.int .i64 z.x.m.c) := Hz23.out.cell 5
   have z6 : W5.cell? ⟨gz, 6, none⟩ = some (.int .i64 z.x.m.r) := Hz23.out.cell 6
   have z7 : W5.cell? ⟨gz, 7, none⟩ = some (.int .i64 z.x.m.y) := Hz23.out.cell 7
   have z8 : W5.cell? ⟨gz, 8, none⟩ = some (.int .i64 z.x.m.a) := Hz23.out.cell 8
   have z9 : W5.cell? ⟨gz, 9, none⟩ = some (.bool z.x.m.t) := Hz23.out.cell 9
   have z10 : W5.cell? ⟨gz, 10, none⟩ = some (.slice z.x.pl z.x.m.ls.length z.x.cl) := Hz23.out.cell 10
   have z11 : W5.cell? ⟨gz, 11, none⟩ = some (.slice z.x.pn z.x.m.ns.length z.x.cn) := Hz23.out.cell 11
   go_wp2_with fail
   clear d0 d1 z0 z1 z2 z3 z4 z5 z6 z7 z8 z9 z10 z11
   refine HG.out.mono ?_
   rintro y9 w6 ⟨p5, n5, c5, pw5, nw5, cw5, rfl, hn5, hnw5, hds, hsw, hb⟩
   clear HG
   have HM5 : Hid (n5 = rs2.length) := Lib.hid hn5
   have HNW : Hid (nw5 = out2.length) := Lib.hid hnw5
   have HW5S : Hid (gd < W5.heap.size ∧ gc < W5.heap.size) := Lib.hid ⟨Hd23.out.lt, Hc23.out.lt⟩
   have Qe24 : Hid (DsR (NotIn [gc, gd]) N w6 (.slice p5 n5 c5) rs2) := Lib.hid (hds.imp (fun b h => h.elim id (fun h hm => by have h1 := HW5S.out; simp only [List.mem_cons, List.not_mem_nil, or_false] at hm; omega)))
   have Qw24 : Hid (SdR (NotIn [gc, gd]) w6 (.slice pw5 nw5 cw5) out2) := Lib.hid (hsw.imp (fun b h => h.elim id (fun h hm => by have h1 := HW5S.out; simp only [List.mem_cons, List.not_mem_nil, or_false] at hm; omega)))
   clear hn5 hnw5 hds hsw
   have Hc24 := kbq Hc23 hb
   have Hd24 := kbq Hd23 hb
   have Hz24 := kbq Hz23 hb
   have Hn24 := kbq Hn23 hb
   have Qd24 := Lib.hid (Qd23.out.kept hb)
   have Qc24 := Lib.hid (Qc23.out.kept hb)
   have Qs24 := Lib.hid (Qs23.out.kept hb)
   have HB24 := ktq HB23 hb
   have HZ24 := kzq HZ23 hb.size
   clear Hc23 Hd23 Hz23 Hn23 Qd23 Qc23 Qs23 HB23 HZ23
   clear hb
   clear Qd24 HM1 HSO HRL HOK HZP HA HZF
   have HGE : Hid (gn < w6.heap.size) := Lib.hid Hn24.out.lt
   have hba := oneB w6 (.cells #[.int .i64 (N : Int), .slice p5 n5 c5] 30)
   have Hc25 := kbq Hc24 hba
   have Hd25 := kbq Hd24 hba
   have Hz25 := kbq Hz24 hba
   have Hn25 := kbq Hn24 hba
   have Qc25 := Lib.hid (Qc24.out.kept hba)
   have Qs25 := Lib.hid (Qs24.out.kept hba)
   have Qe25 := Lib.hid (Qe24.out.kept hba)
   have Qw25 := Lib.hid (Qw24.out.kept hba)
   have He25 := Lib.hid (Blk.new w6 #[.int .i64 (N : Int), .slice p5 n5 c5] 30)
   have HB25 := Lib.hid (HB24.out.alloc HB24.out.size (.cells #[.int .i64 (N : Int), .slice p5 n5 c5] 30))
   have HZ25 := kzq HZ24 hba.size
   have HGge : Hid (w.heap.size ≤ w6.heap.size) := Lib.hid HB24.out.size
   clear hba Hc24 Hd24 Hz24 Hn24 Qc24 Qs24 Qe24 Qw24 HB24 HZ24
   go_upto_region 12 with fail
   generalize (w6.alloc (.cells #[.int .i64 (N : Int), .slice p5 n5 c5] 30)) = W7 at *
   generalize hgge : w6.heap.size = ge at *
   clear hgge
   have HNV : Hid (nv4 = out2.length) := Lib.hid HNV4.out
   have hne : (e2 != e2) = false := by simp
   have hnv : nv4 = nw5 := by rw [HNV.out, HNW.out]
   have hnvI : ((nv4 : Int) != (nw5 : Int)) = false := by rw [hnv]; simp
   clear hnv
   go_upto_region 14 with fail
   clear hne hnvI
   have HNW8 : Hid (nv4 ≤ 8) := Lib.hid (by have := HOL.out; have := HNV.out; omega)
   clear Hz25
   have HREL : Hid (Below W7.heap.size W7 W7) := Lib.hid (Below.refl _ _)
   go_wp2_with fail
   go_loopw [71] (fun i wr => ∃ q : Nat, q ≤ nv4 ∧ i = .int .i64 q ∧ Hid (Below W7.heap.size W7 wr)) (fun i _ => nv4 - (intOf i).toNat)
   case atStart => exact ⟨0, by omega, rfl, HREL⟩
   case round =>
    clear HREL
    obtain ⟨q, hq, rfl, HQK⟩ := hrel
    have hq9 : q + 1 ≤ 9 := by have := HNW8.out; omega
    have hbk := HQK.out
    have Hc26 := kbq Hc25 hbk
    have Hd26 := kbq Hd25 hbk
    have Hn26 := kbq Hn25 hbk
    have He26 := kbq He25 hbk
    have Qc26 := Lib.hid (Qc25.out.kept hbk)
    have Qs26 := Lib.hid (Qs25.out.kept hbk)
    have Qe26 := Lib.hid (Qe25.out.kept hbk)
    have Qw26 := Lib.hid (Qw25.out.kept hbk)
    have HB26 := ktq HB25 hbk
    have HZ26 := kzq HZ25 hbk.size
    clear Hc25 Hd25 Hn25 He25 Qc25 Qs25 Qe25 Qw25 HB25 HZ25
    clear hbk
    by_cases hlq : q < nv4
    ·skip
     have hlqI : (q : Int) < (nv4 : Int) := by omega
     have HLQ : Hid (q < nv4) := Lib.hid hlq
     have HQL : Hid (q < out2.length) := Lib.hid (by have := HNV.out; omega)
     obtain ⟨b1, o1, hp1, hs1⟩ := Qs26.out.at_ (by have := HQL.out; omega)
     obtain ⟨b2, o2, hp2, hs2⟩ := Qw26.out.at_ (by have := HQL.out; omega)
     obtain ⟨⟨t1, m1, pl1, cl1, pn1, cn1⟩, h1t, h1m, h1a⟩ := hs1 q HQL.out
     obtain ⟨⟨t2, m2, pl2, cl2, pn2, cn2⟩, h2t, h2m, h2a⟩ := hs2 q HQL.out
     obtain ⟨T, hT⟩ : ∃ T, out2[q].1 = T := ⟨_, rfl⟩
     obtain ⟨M, hM⟩ : ∃ M, out2[q].2 = M := ⟨_, rfl⟩
     have e1t : t1 = T := h1t.trans hT
     have e1m : m1 = M := h1m.trans hM
     have e2t : t2 = T := h2t.trans hT
     have e2m : m2 = M := h2m.trans hM
     obtain rfl : T = t1 := e1t.symm
     obtain rfl : M = m1 := e1m.symm
     obtain rfl : T = t2 := e2t.symm
     obtain rfl : M = m2 := e2m.symm
     have Qa26 := Lib.hid h1a
     have Qb26 := Lib.hid h2a
     have hqw : q < nw5 := by have := HQL.out; have := HNW.out; omega
     have hqwI : (q : Int) < (nw5 : Int) := by omega
     subst hp1
     subst hp2
     clear hs1 hs2 h1a h2a hT hM hq
     go_upto_region 17 with fail
     have htt : (T != T) = false := by simp
     have hbd := (Below.refl wr.heap.size wr).drew
     have Hc27 := kbq Hc26 hbd
     have Hd27 := kbq Hd26 hbd
     have Hn27 := kbq Hn26 hbd
     have He27 := kbq He26 hbd
     have Qc27 := Lib.hid (Qc26.out.kept hbd)
     have Qs27 := Lib.hid (Qs26.out.kept hbd)
     have Qe27 := Lib.hid (Qe26.out.kept hbd)
     have Qw27 := Lib.hid (Qw26.out.kept hbd)
     have Qa27 := Lib.hid (Qa26.out.kept hbd)
     have Qb27 := Lib.hid (Qb26.out.kept hbd)
     have HB27 := ktq HB26 hbd
     have HZ27 := kzq HZ26 hbd.size
     clear Hc26 Hd26 Hn26 He26 Qc26 Qs26 Qe26 Qw26 Qa26 Qb26 HB26 HZ26
     have hS1 : wr.drew.cell? ⟨b1, o1 + q * 12, none⟩ = some (.int .i64 T) ∧ wr.drew.cell? ⟨b1, o1 + q * 12 + 1, none⟩ = some (.int .i64 M.k) ∧ wr.drew.cell? ⟨b1, o1 + q * 12 + 2, none⟩ = some (.int .i64 M.s) ∧ wr.drew.cell? ⟨b1, o1 + q * 12 + 3, none⟩ = some (.int .i64 M.n) ∧ wr.drew.cell? ⟨b1, o1 + q * 12 + 4, none⟩ = some (.int .i64 M.b) ∧ wr.drew.cell? ⟨b1, o1 + q * 12 + 5, none⟩ = some (.int .i64 M.c) ∧ wr.drew.cell? ⟨b1, o1 + q * 12 + 6, none⟩ = some (.int .i64 M.r) ∧ wr.drew.cell? ⟨b1, o1 + q * 12 + 7, none⟩ = some (.int .i64 M.y) ∧ wr.drew.cell? ⟨b1, o1 + q * 12 + 8, none⟩ = some (.int .i64 M.a) ∧ wr.drew.cell? ⟨b1, o1 + q * 12 + 9, none⟩ = some (.bool M.t) ∧ wr.drew.cell? ⟨b1, o1 + q * 12 + 10, none⟩ = some (.slice pl1 M.ls.length cl1) ∧ wr.drew.cell? ⟨b1, o1 + q * 12 + 11, none⟩ = some (.slice pn1 M.ns.length cn1) ∧ wr.drew.cell? ⟨b2, o2 + q * 12, none⟩ = some (.int .i64 T) ∧ wr.drew.cell? ⟨b2, o2 + q * 12 + 1, none⟩ = some (.int .i64 M.k) ∧ wr.drew.cell? ⟨b2, o2 + q * 12 + 2, none⟩ = some (.int .i64 M.s) ∧ wr.drew.cell? ⟨b2, o2 + q * 12 + 3, none⟩ = some (.int .i64 M.n) ∧ wr.drew.cell? ⟨b2, o2 + q * 12 + 4, none⟩ = some (.int .i64 M.b) ∧ wr.drew.cell? ⟨b2, o2 + q * 12 + 5, none⟩ = some (.int .i64 M.c) ∧ wr.drew.cell? ⟨b2, o2 + q * 12 + 6, none⟩ = some (.int .i64 M.r) ∧ wr.drew.cell? ⟨b2, o2 + q * 12 + 7, none⟩ = some (.int .i64 M.y) ∧ wr.drew.cell? ⟨b2, o2 + q * 12 + 8, none⟩ = some (.int .i64 M.a) ∧ wr.drew.cell? ⟨b2, o2 + q * 12 + 9, none⟩ = some (.bool M.t) ∧ wr.drew.cell? ⟨b2, o2 + q * 12 + 10, none⟩ = some (.slice pl2 M.ls.length cl2) ∧ wr.drew.cell? ⟨b2, o2 + q * 12 + 11, none⟩ = some (.slice pn2 M.ns.length cn2) := ⟨(Qa27.out.1.2.2 0 (by decide)), (Qa27.out.1.2.2 1 (by decide)), (Qa27.out.1.2.2 2 (by decide)), (Qa27.out.1.2.2 3 (by decide)), (Qa27.out.1.2.2 4 (by decide)), (Qa27.out.1.2.2 5 (by decide)), (Qa27.out.1.2.2 6 (by decide)), (Qa27.out.1.2.2 7 (by decide)), (Qa27.out.1.2.2 8 (by decide)), (Qa27.out.1.2.2 9 (by decide)), (Qa27.out.1.2.2 10 (by decide)), (Qa27.out.1.2.2 11 (by decide)), (Qb27.out.1.2.2 0 (by decide)), (Qb27.out.1.2.2 1 (by decide)), (Qb27.out.1.2.2 2 (by decide)), (Qb27.out.1.2.2 3 (by decide)), (Qb27.out.1.2.2 4 (by decide)), (Qb27.out.1.2.2 5 (by decide)), (Qb27.out.1.2.2 6 (by decide)), (Qb27.out.1.2.2 7 (by decide)), (Qb27.out.1.2.2 8 (by decide)), (Qb27.out.1.2.2 9 (by decide)), (Qb27.out.1.2.2 10 (by decide)), (Qb27.out.1.2.2 11 (by decide))⟩
     have HWM : Hid (Below W7.heap.size W7 wr.drew) := Lib.hid (HQK.out.trans (Below.refl _ _).drew)
     refine wp_region_held_drew (S := fun w' => w'.cell? ⟨b1, o1 + q * 12, none⟩ = some (.int .i64 T) ∧ w'.cell? ⟨b1, o1 + q * 12 + 1, none⟩ = some (.int .i64 M.k) ∧ w'.cell? ⟨b1, o1 + q * 12 + 2, none⟩ = some (.int .i64 M.s) ∧ w'.cell? ⟨b1, o1 + q * 12 + 3, none⟩ = some (.int .i64 M.n) ∧ w'.cell? ⟨b1, o1 + q * 12 + 4, none⟩ = some (.int .i64 M.b) ∧ w'.cell? ⟨b1, o1 + q * 12 + 5, none⟩ = some (.int .i64 M.c) ∧ w'.cell? ⟨b1, o1 + q * 12 + 6, none⟩ = some (.int .i64 M.r) ∧ w'.cell? ⟨b1, o1 + q * 12 + 7, none⟩ = some (.int .i64 M.y) ∧ w'.cell? ⟨b1, o1 + q * 12 + 8, none⟩ = some (.int .i64 M.a) ∧ w'.cell? ⟨b1, o1 + q * 12 + 9, none⟩ = some (.bool M.t) ∧ w'.cell? ⟨b1, o1 + q * 12 + 10, none⟩ = some (.slice pl1 M.ls.length cl1) ∧ w'.cell? ⟨b1, o1 + q * 12 + 11, none⟩ = some (.slice pn1 M.ns.length cn1) ∧ w'.cell? ⟨b2, o2 + q * 12, none⟩ = some (.int .i64 T) ∧ w'.cell? ⟨b2, o2 + q * 12 + 1, none⟩ = some (.int .i64 M.k) ∧ w'.cell? ⟨b2, o2 + q * 12 + 2, none⟩ = some (.int .i64 M.s) ∧ w'.cell? ⟨b2, o2 + q * 12 + 3, none⟩ = some (.int .i64 M.n) ∧ w'.cell? ⟨b2, o2 + q * 12 + 4, none⟩ = some (.int .i64 M.b) ∧ w'.cell? ⟨b2, o2 + q * 12 + 5, none⟩ = some (.int .i64 M.c) ∧ w'.cell? ⟨b2, o2 + q * 12 + 6, none⟩ = some (.int .i64 M.r) ∧ w'.cell? ⟨b2, o2 + q * 12 + 7, none⟩ = some (.int .i64 M.y) ∧ w'.cell? ⟨b2, o2 + q * 12 + 8, none⟩ = some (.int .i64 M.a) ∧ w'.cell? ⟨b2, o2 + q * 12 + 9, none⟩ = some (.bool M.t) ∧ w'.cell? ⟨b2, o2 + q * 12 + 10, none⟩ = some (.slice pl2 M.ls.length cl2) ∧ w'.cell? ⟨b2, o2 + q * 12 + 11, none⟩ = some (.slice pn2 M.ns.length cn2)) (by kernel_rfl) hS1 (fun hS0 => ?_)
     clear hS1
     generalize wr.drew = WD at *
     clear hbd
     refine tkq 0 ?_
     refine tkq 1 ?_
     refine tkq 2 ?_
     refine tkq 3 ?_
     refine tkq 4 ?_
     refine tkq 5 ?_
     refine tkq 6 ?_
     refine tkq 7 ?_
     refine tkq 8 ?_
     refine tkq 9 ?_
     refine tkq 10 ?_
     refine tkq 11 ?_
     refine tkq 12 ?_
     refine tkq 13 ?_
     refine tkq 14 ?_
     refine tkq 15 ?_
     refine tkq 16 ?_
     refine tkq 17 ?_
     refine tkq 18 ?_
     refine tkq 19 ?_
     refine tkq 20 ?_
     refine tkq 21 ?_
     refine rdq 22 (fun K hK => ?_)
     have HG := Lib.hid (msame_any M (.slice pl1 M.ls.length cl1) (.slice pn1 M.ns.length cn1) (.slice pl2 M.ls.length cl2) (.slice pn2 M.ns.length cn2) WD Qa27.out.2.ls Qa27.out.2.ns Qb27.out.2.ls Qb27.out.2.ns (by have h : M.Sz := Qa27.out.2.sz; have := h.1; omega) (by have h : M.Sz := Qa27.out.2.sz; have := h.2; omega))
     unfold Msg.v at HG
     go_simp
     go_at_call 9
     refine HG.out.mono ?_
     rintro y9 w9 ⟨rfl, hb⟩
     clear HG
     have HWN : Hid (Below W7.heap.size W7 w9) := ktq HWM hb
     have Hc28 := kbq Hc27 hb
     have Hd28 := kbq Hd27 hb
     have Hn28 := kbq Hn27 hb
     have He28 := kbq He27 hb
     have Qc28 := Lib.hid (Qc27.out.kept hb)
     have Qs28 := Lib.hid (Qs27.out.kept hb)
     have Qe28 := Lib.hid (Qe27.out.kept hb)
     have Qw28 := Lib.hid (Qw27.out.kept hb)
     have Qa28 := Lib.hid (Qa27.out.kept hb)
     have Qb28 := Lib.hid (Qb27.out.kept hb)
     have HB28 := ktq HB27 hb
     have HZ28 := kzq HZ27 hb.size
     clear Hc27 Hd27 Hn27 He27 Qc27 Qs27 Qe27 Qw27 Qa27 Qb27 HB27 HZ27
     clear hb hS0
     try go_wp2_with fail
     refine hK.out _ _ ⟨(Qa28.out.1.2.2 0 (by decide)), (Qa28.out.1.2.2 1 (by decide)), (Qa28.out.1.2.2 2 (by decide)), (Qa28.out.1.2.2 3 (by decide)), (Qa28.out.1.2.2 4 (by decide)), (Qa28.out.1.2.2 5 (by decide)), (Qa28.out.1.2.2 6 (by decide)), (Qa28.out.1.2.2 7 (by decide)), (Qa28.out.1.2.2 8 (by decide)), (Qa28.out.1.2.2 9 (by decide)), (Qa28.out.1.2.2 10 (by decide)), (Qa28.out.1.2.2 11 (by decide)), (Qb28.out.1.2.2 0 (by decide)), (Qb28.out.1.2.2 1 (by decide)), (Qb28.out.1.2.2 2 (by decide)), (Qb28.out.1.2.2 3 (by decide)), (Qb28.out.1.2.2 4 (by decide)), (Qb28.out.1.2.2 5 (by decide)), (Qb28.out.1.2.2 6 (by decide)), (Qb28.out.1.2.2 7 (by decide)), (Qb28.out.1.2.2 8 (by decide)), (Qb28.out.1.2.2 9 (by decide)), (Qb28.out.1.2.2 10 (by decide)), (Qb28.out.1.2.2 11 (by decide))⟩ (fun hS0 => ?_)
     clear hK K
     try simp only [Act.put, List.getElem_toArray, List.getElem_cons_succ, List.getElem_cons_zero, List.setIfInBounds_toArray, List.set_cons_zero, List.set_cons_succ]
     refine tkq 23 ?_
     refine tkq 24 ?_
     refine wpAnyH_done (by kernel_rfl) ?_ _
     clear hS0
     clear Hc28 Hd28 Hn28 He28 Qc28 Qs28 Qe28 Qw28 Qa28 Qb28 HB28 HZ28 htt hqw hqwI HQK hlq
     go_wp2_with fail
     go_roundw
     case rel => exact ⟨q + 1, by have := HLQ.out; omega, by go_num, HWN⟩
     case measure => have := HLQ.out; simp [intOf]; omega
    ·skip
     have hlqI : ¬ (q : Int) < (nv4 : Int) := by omega
     clear hq hlq hq9 HQK Qs26 Qw26
     go_upto_region 20 with fail
     clear hlqI
     generalize wr = V at *
     have hbd := (Below.refl V.heap.size V).drew
     have Hc27 := kbq Hc26 hbd
     have Hd27 := kbq Hd26 hbd
     have Hn27 := kbq Hn26 hbd
     have He27 := kbq He26 hbd
     have Qc27 := Lib.hid (Qc26.out.kept hbd)
     have Qe27 := Lib.hid (Qe26.out.kept hbd)
     have HB27 := ktq HB26 hbd
     have HZ27 := kzq HZ26 hbd.size
     clear Hc26 Hd26 Hn26 He26 Qc26 Qe26 HB26 HZ26
     refine wp_region_held_drew (S := fun w' => w'.cell? ⟨gn, 0, none⟩ = some (.int .i64 (N : Int)) ∧ w'.cell? ⟨gn, 1, none⟩ = some (.slice p4 n4 c4) ∧ w'.cell? ⟨ge, 0, none⟩ = some (.int .i64 (N : Int)) ∧ w'.cell? ⟨ge, 1, none⟩ = some (.slice p5 n5 c5)) (by kernel_rfl) ⟨Hn27.out.cell 0, Hn27.out.cell 1, He27.out.cell 0, He27.out.cell 1⟩ (fun hS0 => ?_)
     generalize V.drew = WD at *
     clear hbd
     refine tkq 0 ?_
     refine tkq 1 ?_
     refine rdq 2 (fun K hK => ?_)
     have z0 : WD.cell? ⟨gc, 0, none⟩ = some (.int .i64 (N : Int)) := Hc27.out.cell 0
     have z1 : WD.cell? ⟨gc, 1, none⟩ = some (.slice p0 m0 q0) := Hc27.out.cell 1
     have f0 := Hc27.out.free 0
     have f1 := Hc27.out.free 1
     go_simp
     clear z0 f0 z1 f1
     have hch := Lib.hid (((Chg.refl gc WD).set 0 (.int .i64 (N : Int))).set 1 (.slice p4 n4 c4))
     have Hc28 : Hid (Blk _ gc #[.int .i64 (N : Int), .slice p4 n4 c4] 27) := Lib.hid ((Hc27.out.set 0 (.int .i64 (N : Int))).set 1 (.slice p4 n4 c4))
     have HB28 := ksq HB27 hch (by show w.heap.size ≤ gc; have := HGgc.out; have := HGD.out; have := HGZ.out; have := HGN.out; have := HGE.out; omega)
     have HZ28 := kzq HZ27 hch.out.size
     have Hd28 := kcq Hd27 hch (by have := HGgc.out; have := HGD.out; have := HGZ.out; have := HGN.out; have := HGE.out; omega)
     have Hn28 := kcq Hn27 hch (by have := HGgc.out; have := HGD.out; have := HGZ.out; have := HGN.out; have := HGE.out; omega)
     have He28 := kcq He27 hch (by have := HGgc.out; have := HGD.out; have := HGZ.out; have := HGN.out; have := HGE.out; omega)
     have Qc28 := Lib.hid (Qc27.out.chg hch.out (notIn_self (by simp)))
     have Qe28 := Lib.hid (Qe27.out.chg hch.out (notIn_self (by simp)))
     clear hch hS0 Hc27 Hd27 Hn27 He27 Qc27 Qe27 HB27 HZ27
     generalize ((WD.setCell ⟨gc, 0, none⟩ (.int .i64 (N : Int))).setCell ⟨gc, 1, none⟩ (.slice p4 n4 c4)) = V1 at *
     refine hK.out _ _ ⟨Hn28.out.cell 0, Hn28.out.cell 1, He28.out.cell 0, He28.out.cell 1⟩ (fun hS0 => ?_)
     clear hK K
     try simp only [Act.put, List.getElem_toArray, List.getElem_cons_succ, List.getElem_cons_zero, List.setIfInBounds_toArray, List.set_cons_zero, List.set_cons_succ]
     refine rdq 3 (fun K hK => ?_)
     have z0 : V1.cell? ⟨gd, 0, none⟩ = some (.int .i64 (N : Int)) := Hd28.out.cell 0
     have z1 : V1.cell? ⟨gd, 1, none⟩ = some (.slice p1 m1 q1) := Hd28.out.cell 1
     have f0 := Hd28.out.free 0
     have f1 := Hd28.out.free 1
     go_simp
     clear z0 f0 z1 f1
     have hch := Lib.hid (((Chg.refl gd V1).set 0 (.int .i64 (N : Int))).set 1 (.slice p5 n5 c5))
     have Hd29 : Hid (Blk _ gd #[.int .i64 (N : Int), .slice p5 n5 c5] 30) := Lib.hid ((Hd28.out.set 0 (.int .i64 (N : Int))).set 1 (.slice p5 n5 c5))
     have HB29 := ksq HB28 hch (by show w.heap.size ≤ gd; have := HGgc.out; have := HGD.out; have := HGZ.out; have := HGN.out; have := HGE.out; omega)
     have HZ29 := kzq HZ28 hch.out.size
     have Hc29 := kcq Hc28 hch (by have := HGgc.out; have := HGD.out; have := HGZ.out; have := HGN.out; have := HGE.out; omega)
     have Hn29 := kcq Hn28 hch (by have := HGgc.out; have := HGD.out; have := HGZ.out; have := HGN.out; have := HGE.out; omega)
     have He29 := kcq He28 hch (by have := HGgc.out; have := HGD.out; have := HGZ.out; have := HGN.out; have := HGE.out; omega)
     have Qc29 := Lib.hid (Qc28.out.chg hch.out (notIn_self (by simp)))
     have Qe29 := Lib.hid (Qe28.out.chg hch.out (notIn_self (by simp)))
     clear hch hS0 Hc28 Hd28 Hn28 He28 Qc28 Qe28 HB28 HZ28
     generalize ((V1.setCell ⟨gd, 0, none⟩ (.int .i64 (N : Int))).setCell ⟨gd, 1, none⟩ (.slice p5 n5 c5)) = V2 at *
     refine hK.out _ _ ⟨Hn29.out.cell 0, Hn29.out.cell 1, He29.out.cell 0, He29.out.cell 1⟩ (fun hS0 => ?_)
     clear hK K
     try simp only [Act.put, List.getElem_toArray, List.getElem_cons_succ, List.getElem_cons_zero, List.setIfInBounds_toArray, List.set_cons_zero, List.set_cons_succ]
     refine wpAnyH_done (by kernel_rfl) ?_ _
     clear hS0
     clear Hn29 He29
     have HG := Lib.hid (dlike_any V2 (NotIn [gc, gd]) (NotIn [gc, gd]) N p4 n4 c4 p5 n5 c5 rs2 Qc29.out Qe29.out HM5.out (by rw [Qc29.out.n]; have := HRL2.out; have := HN60.out; have := HLT.out; omega) HNN.out.1 HNN.out.2 HSO2.out)
     have a0 : V2.cell? ⟨gc, 0, none⟩ = some (.int .i64 (N : Int)) := Hc29.out.cell 0
     have a1 : V2.cell? ⟨gc, 1, none⟩ = some (.slice p4 n4 c4) := Hc29.out.cell 1
     have e0 : V2.cell? ⟨gd, 0, none⟩ = some (.int .i64 (N : Int)) := Hd29.out.cell 0
     have e1 : V2.cell? ⟨gd, 1, none⟩ = some (.slice p5 n5 c5) := Hd29.out.cell 1
     go_wp2_with fail
     clear a0 a1 e0 e1
     refine HG.out.mono ?_
     rintro y9 V3 ⟨rfl, hb⟩
     clear HG
     have Hc30 := kbq Hc29 hb
     have Hd30 := kbq Hd29 hb
     have Qc30 := Lib.hid (Qc29.out.kept hb)
     have Qe30 := Lib.hid (Qe29.out.kept hb)
     have HB30 := ktq HB29 hb
     have HZ30 := kzq HZ29 hb.size
     clear Hc29 Hd29 Qc29 Qe29 HB29 HZ29
     clear hb
     have HNX : Hid (∃ (rs : List Rn) (p : Option Addr) (m c : Nat) (p2 : Option Addr) (m2 c2 : Nat), Blk V3 gc #[.int .i64 (N : Int), .slice p m c] 27 ∧ Blk V3 gd #[.int .i64 (N : Int), .slice p2 m2 c2] 30 ∧ Ct (NotIn [gc, gd]) V3 N p m c rs ∧ DsR (NotIn [gc, gd]) N V3 (.slice p2 m2 c2) rs ∧ m2 = rs.length ∧ StOk rs ∧ rs.length ≤ (k + 1) ∧ Below w.heap.size w V3) := Lib.hid ⟨rs2, p4, n4, c4, p5, n5, c5, Hc30.out, Hd30.out, Qc30.out, Qe30.out, HM5.out, HSO2.out, HRL2.out, HB30.out⟩
     clear Hc30 Hd30 Qc30 Qe30 HB30 HZ30
     go_wp2_with fail
     go_roundw
     case rel => exact ⟨k + 1, by have := HLT.out; omega, by go_num, HNX⟩
     case measure => have := HLT.out; simp [intOf]; omega
  ·have hltI : ¬ (k : Int) < (wn : Int) := by omega
   obtain ⟨rs, p0, m0, q0, p1, m1, q1, hk1, hk2, hk3, hk4, hk5, hk6, hk7, hk8⟩ := HK.out
   have HBE := Lib.hid hk8
   clear hk1 hk2 hk3 hk4 hk5 hk6 hk7 hk8 HK
   go_wp2_with fail
   go_ret
   exact ⟨rfl, HBE.out⟩
end Go.Proofs.Yteogdfpkcoodlaa
namespace Go.Proofs.Yteogdfpkcoodlaa
open Go.ChangeShapes Go.WideShapes Go.ChangeAt Go.RowKit
section
variable {H : Type} {enc : TypeId × Value → H} {P : Program} {w : World} {base : Nat} {held : Bool}
theorem wd_readI {t tm : TypeId} {f0 fm : Field} (ht : P.underlying t = some (.struct #[f0, fm])) (o0 : f0.offset = 0) (om : fm.offset = 1)
  (u0 : P.underlying f0.type = some (.int .i64)) (tm' : fm.type = tm) (cc : P.cellsOf f0.type = 1 ∧ P.cellsOf tm = 11)
  (rd : ∀ (fuel : Nat) (cs : List Value) (y : DataW H × List MemPlace), cs.length = 11 → DataW.trod enc P w base (fun _ => true) held fuel tm cs = some y → ∃ x : MsgX, cs = x.cells ∧ x.In w)
  (fuel : Nat) (cs : List Value) (y : DataW H × List MemPlace) (hl : cs.length = 12) (hf : DataW.trod enc P w base (fun _ => true) held fuel t cs = some y) : ∃ x : SdX, cs = x.cells ∧ x.x.In w := by
 obtain ⟨c0, cm⟩ := cc
 match cs, hl with
 | v0 :: ms, hl =>
  have hml : ms.length = 11 := by simpa using hl
  obtain ⟨xs, k, hk, hxy, _, hxl, hf⟩ := DataW.trod_struct ht hf
  match xs, hxl with
  | [y0, ym], _ =>
   have g0 := hf 0 f0 rfl
   have gm := hf 1 fm rfl
   subst tm'
   simp [o0, om, c0, cm] at g0 gm
   rw [List.take_of_length_le (by omega)] at gm
   obtain ⟨z0, q0, _, w0⟩ := DataW.trod_int u0 g0
   simp at q0
   obtain ⟨x, rfl, hin⟩ := rd _ _ _ hml gm
   subst q0
   exact ⟨⟨z0, x⟩, rfl, hin⟩
end
end Go.Proofs.Yteogdfpkcoodlaa
