/- contraref18.end by contract. contraref18.start by contract. contraref18.vote by contract. Plain numbers: decimal digits, the least one first; no program is named here. Plain numbers: sums, differences and the order of numbers that are written out in digits. contraref01.From: a whole number, written out in digits. contraref01.trim and less: noughts at the end; the order of numbers that are written out. contraref01.plus and minus: digits together, and digits less others. contraref01.minus: digits less others. contraref01.Plus: two numbers together. contraref01.Fits: a number as a whole one of 64 bits. contraref01.Sum: all together, as a number of any size. contraref16.ahead, Fits, Nets by contract. contraref16.Nets by contract. contraref16.has by contract. contraref16.Both by contract. -/
import Derived.Test.YteogdfpkcoodlaaS3
import Derived.RowKit
import Derived.Test.YteogdfpkcoodlaaS1
import Derived.BigQuiet
import Derived.Deep.QuietTactic
import Derived.BigGuard
import Derived.Deep.RegionHeld3
import Derived.Deep.RegionWith
import Derived.Test.YteogdfpkcoodlaaS2
namespace Go.Proofs.Yteogdfpkcoodlaa
open Go.RowKit
set_option linter.unusedSimpArgs false
set_option linter.unusedSimpArgs false in
set_option maxHeartbeats 4000000 in
set_option maxRecDepth 100000 in
theorem dend_any (w : World) (P : Nat → Prop) (N : Nat) (k : Int) (yes : Bool) (p : Option Addr) (n c : Nat) (rs : List Rn) (x : DrX) (hrs : DsR P N w (.slice p n c) rs) (hn : n = rs.length) (hl : n ≤ 2000) (hk1 : 1 ≤ k) (hk2 : k ≤ n) (hx : x.In P w) (h8 : N ≤ 8) :
  Calls Try.prog 21 #[.agg #[.int .i64 (N : Int), .slice p n c], .int .i64 k, x.v, .bool yes] w (DPost w P N (rs.set (k - 1).toNat ((x.rn N).to (if yes then 3 else 4))) (toAllL N (decM k ((x.rn N).to (if yes then 3 else 4)))) 0) := by
 have HRS := Lib.hid hrs.lt
 have HXI := Lib.hid hx.lt
 have HNN : Hid (N ≤ 8) := Lib.hid h8
 have HKK : Hid (n = rs.length ∧ n ≤ 2000 ∧ 1 ≤ k ∧ k ≤ n) := Lib.hid ⟨hn, hl, hk1, hk2⟩
 clear hrs hx h8 hn hl hk1 hk2
 unfold DrX.v
 cases yes
 ·skip
  obtain ⟨RS, hRS⟩ : ∃ l, rs.set (k - 1).toNat ((x.rn N).to 4) = l := ⟨_, rfl⟩
  obtain ⟨OU, hOU⟩ : ∃ l, toAllL N (decM k ((x.rn N).to 4)) = l := ⟨_, rfl⟩
  show Calls _ _ _ _ (DPost w P N (rs.set (k - 1).toNat ((x.rn N).to 4)) (toAllL N (decM k ((x.rn N).to 4))) 0)
  rw [hRS, hOU]
  have HRE := Lib.hid hRS
  have HOU := Lib.hid hOU
  clear hRS hOU
  have HB0 : Hid (Below w.heap.size w (((w.alloc (.cells #[.int .i64 (N : Int), .slice p n c] 30)).alloc (.cells x.arr 76)).alloc (.cells #[.int .i64 0, .slice none 0 0] 30))) := Lib.hid ((((oneB w _).alloc (by simp <;> omega) _).alloc (by simp <;> omega) _))
  have Hc0 : Hid (Blk (((w.alloc (.cells #[.int .i64 (N : Int), .slice p n c] 30)).alloc (.cells x.arr 76)).alloc (.cells #[.int .i64 0, .slice none 0 0] 30)) w.heap.size #[.int .i64 (N : Int), .slice p n c] 30) := Lib.hid (((Blk.new w #[.int .i64 (N : Int), .slice p n c] 30).alloc _).alloc _)
  have Hx0 : Hid (Blk (((w.alloc (.cells #[.int .i64 (N : Int), .slice p n c] 30)).alloc (.cells x.arr 76)).alloc (.cells #[.int .i64 0, .slice none 0 0] 30)) (w.heap.size + 1) x.arr 76) := Lib.hid ((Blk.new' (w.alloc (.cells #[.int .i64 (N : Int), .slice p n c] 30)) x.arr 76 (by simp)).alloc _)
  have Hr0 : Hid (Blk (((w.alloc (.cells #[.int .i64 (N : Int), .slice p n c] 30)).alloc (.cells x.arr 76)).alloc (.cells #[.int .i64 0, .slice none 0 0] 30)) (w.heap.size + 1 + 1) #[.int .i64 0, .slice none 0 0] 30) := Lib.hid (Blk.new' ((w.alloc (.cells #[.int .i64 (N : Int), .slice p n c] 30)).alloc (.cells x.arr 76)) #[.int .i64 0, .slice none 0 0] 30 (by simp))
  have HZ0 : Hid (w.heap.size ≤ (((w.alloc (.cells #[.int .i64 (N : Int), .slice p n c] 30)).alloc (.cells x.arr 76)).alloc (.cells #[.int .i64 0, .slice none 0 0] 30)).heap.size) := Lib.hid HB0.out.size
  go_enter Try.func21, Try.ntmps21
  go_upto_region 1 with fail
  generalize (((w.alloc (.cells #[.int .i64 (N : Int), .slice p n c] 30)).alloc (.cells x.arr 76)).alloc (.cells #[.int .i64 0, .slice none 0 0] 30)) = W at *
  have HWL : Hid (w.heap.size + 1 + 1 < W.heap.size) := Lib.hid Hr0.out.lt
  have z9 : W.cell? ⟨w.heap.size + 1, 1, none⟩ = some (.int .i64 x.st) := Hx0.out.cell 1
  have f9 := Hx0.out.free 1
  go_upto_region 4 with fail
  clear z9 f9 
  have hch := Lib.hid ((Chg.refl (w.heap.size + 1) W).set 1 (.int .i64 4))
  have Hx1 : Hid (Blk (W.setCell ⟨w.heap.size + 1, 1, none⟩ (.int .i64 4)) (w.heap.size + 1) (x.to 4).arr 76) := Lib.hid (by have h := Hx0.out.set 1 (.int .i64 4); rwa [DrX.arr_to] at h)
  have HB1 := ksq HB0 hch (by show w.heap.size ≤ (w.heap.size + 1); omega)
  have HZ1 := kzq HZ0 hch.out.size
  have Hc1 := kcq Hc0 hch (by omega)
  have Hr1 := kcq Hr0 hch (by omega)
  clear hch Hc0 Hx0 Hr0 HB0 HZ0
  generalize (W.setCell ⟨w.heap.size + 1, 1, none⟩ (.int .i64 4)) = W1 at *
  have hbd := (Below.refl W1.heap.size W1).drew
  have Hc2 := kbq Hc1 hbd
  have Hx2 := kbq Hx1 hbd
  have Hr2 := kbq Hr1 hbd
  have HB2 := ktq HB1 hbd
  have HZ2 := kzq HZ1 hbd.size
  clear Hc1 Hx1 Hr1 HB1 HZ1
  refine wp_region_held_drew (S := fun w' => w'.cell? ⟨w.heap.size, 0, none⟩ = some (.int .i64 (N : Int)) ∧ w'.cell? ⟨w.heap.size, 1, none⟩ = some (.slice p n c) ∧ Blk w' (w.heap.size + 1) (x.to 4).arr 76) (by kernel_rfl) ⟨Hc2.out.cell 0, Hc2.out.cell 1, Hx2.out⟩ (fun hS0 => ?_)
  generalize W1.drew = WD at *
  clear hbd
  refine tkq 0 ?_
  refine tkq 1 ?_
  refine wpAnyH_take (i := 2) (v := .agg (x.to 4).arr) rfl (by kernel_rfl) (by kernel_rfl) (by kernel_rfl) (fun _ _ _ h => h) (yieldsIf_loadD (by kernel_rfl) (.tmp 6) rfl (w.heap.size + 1) 0 rfl (x.to 4) (fun w hw => dcell (hw.2.2))) (by first | assumption | trivial) ?_
  try simp only [Act.put, List.getElem_toArray, List.getElem_cons_succ, List.getElem_cons_zero, List.setIfInBounds_toArray, List.set_cons_zero, List.set_cons_succ]
  refine tkq 4 ?_
  refine tkq 5 ?_
  refine tkq 6 ?_
  refine tkq 7 ?_
  refine tkq 8 ?_
  refine rdq 3 (fun K hK => ?_)
  have HG := Lib.hid (dwith_any WD (fun b => P b ∧ b < w.heap.size) N k p n c rs (x.to 4) (HRS.out.kept HB2.out) HKK.out.1 HKK.out.2.1 HKK.out.2.2.1 HKK.out.2.2.2 ((HXI.out.kept HB2.out).to _))
  unfold DrX.v at HG
  go_simp
  go_at_call 36
  refine HG.out.mono ?_
  rintro y9 w3 ⟨p3, c3, rfl, hq, hb⟩
  clear HG
  have HQ := Lib.hid hq.lt
  have HWD : Hid (w.heap.size ≤ WD.heap.size ∧ WD.heap.size ≤ w3.heap.size ∧ w.heap.size + 1 + 1 < WD.heap.size) := Lib.hid ⟨HZ2.out, hb.size, Hr2.out.lt⟩
  clear hq
  have Hc3 := kbq Hc2 hb
  have Hx3 := kbq Hx2 hb
  have Hr3 := kbq Hr2 hb
  have HB3 := ktq HB2 hb
  have HZ3 := kzq HZ2 hb.size
  clear Hc2 Hx2 Hr2 HB2 HZ2
  clear hb hS0
  try go_wp2_with fail
  refine hK.out _ _ ⟨Hc3.out.cell 0, Hc3.out.cell 1, Hx3.out⟩ (fun hS0 => ?_)
  clear hK K
  try simp only [Act.put, List.getElem_toArray, List.getElem_cons_succ, List.getElem_cons_zero, List.setIfInBounds_toArray, List.set_cons_zero, List.set_cons_succ]
  refine rdq 9 (fun K hK => ?_)
  have HG := Lib.hid (dall_any w3 N (⟨⟨14, 0, 0, 0, 0, 0, k, 0, false, [], []⟩, none, 0, none, 0⟩ : MsgX) (fun _ => False) HNN.out ⟨TRow.nil_ _ _, Row.nil_ _ _ 0, At.nil_ _ _, At.nil_ _ _, ⟨by show 0 * 32 ≤ _; decide, by show 0 * 8 ≤ _; decide⟩⟩)
  unfold Msg.v at HG
  dsimp only [List.length_nil] at HG
  go_simp
  go_at_call 34
  refine HG.out.mono ?_
  rintro y9 w5 ⟨p5, c5, rfl, hs, hb⟩
  clear HG
  have HQ3 := Lib.hid (HQ.out.kept hb)
  have HSD := Lib.hid hs
  clear HQ hs
  have Hc4 := kbq Hc3 hb
  have Hx4 := kbq Hx3 hb
  have Hr4 := kbq Hr3 hb
  have HB4 := ktq HB3 hb
  have HZ4 := kzq HZ3 hb.size
  clear Hc3 Hx3 Hr3 HB3 HZ3
  clear hb hS0
  try go_wp2_with fail
  refine hK.out _ _ ⟨Hc4.out.cell 0, Hc4.out.cell 1, Hx4.out⟩ (fun hS0 => ?_)
  clear hK K
  try simp only [Act.put, List.getElem_toArray, List.getElem_cons_succ, List.getElem_cons_zero, List.setIfInBounds_toArray, List.set_cons_zero, List.set_cons_succ]
  refine rdq 10 (fun K hK => ?_)
  have z0 : w5.cell? ⟨(w.heap.size + 1 + 1), 0, none⟩ = some (.int .i64 0) := Hr4.out.cell 0
  have z1 : w5.cell? ⟨(w.heap.size + 1 + 1), 1, none⟩ = some (.slice none 0 0) := Hr4.out.cell 1
  have f0 := Hr4.out.free 0
  have f1 := Hr4.out.free 1
  go_simp
  clear z0 f0 z1 f1
  have hch := Lib.hid (((Chg.refl (w.heap.size + 1 + 1) w5).set 0 (.int .i64 (N : Int))).set 1 (.slice p3 n c3))
  have Hr5 : Hid (Blk _ (w.heap.size + 1 + 1) #[.int .i64 (N : Int), .slice p3 n c3] 30) := Lib.hid ((Hr4.out.set 0 (.int .i64 (N : Int))).set 1 (.slice p3 n c3))
  have HB5 := ksq HB4 hch (by show w.heap.size ≤ (w.heap.size + 1 + 1); omega)
  have HZ5 := kzq HZ4 hch.out.size
  have Hc5 := kcq Hc4 hch (by omega)
  have Hx5 := kcq Hx4 hch (by omega)
  have hrb := HWD.out
  have HSD2 := Lib.hid (HSD.out.chg hch.out (by intro h; (try dsimp only at h); have := HWD.out; rcases h with h | h; exact h; omega))
  have HQ4 := Lib.hid (HQ3.out.chg hch.out (by intro h; (try dsimp only at h); have h1 := HWD.out; have h2 := h.2; rcases h.1 with h3 | h3; (have := h3.2; omega); omega))
  clear HSD HQ3 hrb
  clear hch hS0 Hc4 Hx4 Hr4 HB4 HZ4
  generalize ((w5.setCell ⟨w.heap.size + 1 + 1, 0, none⟩ (.int .i64 (N : Int))).setCell ⟨w.heap.size + 1 + 1, 1, none⟩ (.slice p3 n c3)) = W6 at *
  refine hK.out _ _ ⟨Hc5.out.cell 0, Hc5.out.cell 1, Hx5.out⟩ (fun hS0 => ?_)
  clear hK K
  try simp only [Act.put, List.getElem_toArray, List.getElem_cons_succ, List.getElem_cons_zero, List.setIfInBounds_toArray, List.set_cons_zero, List.set_cons_succ]
  refine tkq 11 ?_
  refine tkq 12 ?_
  refine wpAnyH_done (by kernel_rfl) ?_ _
  clear hS0
  go_wp2_with fail
  have hfr := Hr5.out
  refine bodyPost_ret (v := .tuple #[.agg #[.int .i64 (N : Int), .slice p3 n c3], .slice p5 N c5, .int .i64 0]) (by simp [results, Try.results21, go_sem, hfr.cell 0, hfr.cell 1]) rfl ⟨p3, n, c3, p5, N, c5, rfl, by rw [← HRE.out, List.length_set]; exact HKK.out.1, by rw [← HOU.out]; unfold toAllL; simp, (by rw [← HRE.out]; exact HQ4.out.imp (Q := fun b => P b ∨ w.heap.size ≤ b) (fun b h => by have h1 := HWD.out; rcases h.1 with h2 | h2; exact .inl h2.1; exact .inr (by omega))), (by rw [← HOU.out]; exact HSD2.out.imp (R := fun b => P b ∨ w.heap.size ≤ b) (fun b h => by have h1 := HWD.out; rcases h with h2 | h2; exact h2.elim; exact .inr (by omega))), HB5.out⟩
 ·skip
  obtain ⟨RS, hRS⟩ : ∃ l, rs.set (k - 1).toNat ((x.rn N).to 3) = l := ⟨_, rfl⟩
  obtain ⟨OU, hOU⟩ : ∃ l, toAllL N (decM k ((x.rn N).to 3)) = l := ⟨_, rfl⟩
  show Calls _ _ _ _ (DPost w P N (rs.set (k - 1).toNat ((x.rn N).to 3)) (toAllL N (decM k ((x.rn N).to 3))) 0)
  rw [hRS, hOU]
  have HRE := Lib.hid hRS
  have HOU := Lib.hid hOU
  clear hRS hOU
  have HB0 : Hid (Below w.heap.size w (((w.alloc (.cells #[.int .i64 (N : Int), .slice p n c] 30)).alloc (.cells x.arr 76)).alloc (.cells #[.int .i64 0, .slice none 0 0] 30))) := Lib.hid ((((oneB w _).alloc (by simp <;> omega) _).alloc (by simp <;> omega) _))
  have Hc0 : Hid (Blk (((w.alloc (.cells #[.int .i64 (N : Int), .slice p n c] 30)).alloc (.cells x.arr 76)).alloc (.cells #[.int .i64 0, .slice none 0 0] 30)) w.heap.size #[.int .i64 (N : Int), .slice p n c] 30) := Lib.hid (((Blk.new w #[.int .i64 (N : Int), .slice p n c] 30).alloc _).alloc _)
  have Hx0 : Hid (Blk (((w.alloc (.cells #[.int .i64 (N : Int), .slice p n c] 30)).alloc (.cells x.arr 76)).alloc (.cells #[.int .i64 0, .slice none 0 0] 30)) (w.heap.size + 1) x.arr 76) := Lib.hid ((Blk.new' (w.alloc (.cells #[.int .i64 (N : Int), .slice p n c] 30)) x.arr 76 (by simp)).alloc _)
  have Hr0 : Hid (Blk (((w.alloc (.cells #[.int .i64 (N : Int), .slice p n c] 30)).alloc (.cells x.arr 76)).alloc (.cells #[.int .i64 0, .slice none 0 0] 30)) (w.heap.size + 1 + 1) #[.int .i64 0, .slice none 0 0] 30) := Lib.hid (Blk.new' ((w.alloc (.cells #[.int .i64 (N : Int), .slice p n c] 30)).alloc (.cells x.arr 76)) #[.int .i64 0, .slice none 0 0] 30 (by simp))
  have HZ0 : Hid (w.heap.size ≤ (((w.alloc (.cells #[.int .i64 (N : Int), .slice p n c] 30)).alloc (.cells x.arr 76)).alloc (.cells #[.int .i64 0, .slice none 0 0] 30)).heap.size) := Lib.hid HB0.out.size
  go_enter Try.func21, Try.ntmps21
  go_upto_region 1 with fail
  generalize (((w.alloc (.cells #[.int .i64 (N : Int), .slice p n c] 30)).alloc (.cells x.arr 76)).alloc (.cells #[.int .i64 0, .slice none 0 0] 30)) = W at *
  have HWL : Hid (w.heap.size + 1 + 1 < W.heap.size) := Lib.hid Hr0.out.lt
  have z9 : W.cell? ⟨w.heap.size + 1, 1, none⟩ = some (.int .i64 x.st) := Hx0.out.cell 1
  have f9 := Hx0.out.free 1
  go_upto_region 3 with fail
  clear z9 f9 
  have hch := Lib.hid ((Chg.refl (w.heap.size + 1) W).set 1 (.int .i64 4))
  have Hx1 : Hid (Blk (W.setCell ⟨w.heap.size + 1, 1, none⟩ (.int .i64 4)) (w.heap.size + 1) (x.to 4).arr 76) := Lib.hid (by have h := Hx0.out.set 1 (.int .i64 4); rwa [DrX.arr_to] at h)
  have HB1 := ksq HB0 hch (by show w.heap.size ≤ (w.heap.size + 1); omega)
  have HZ1 := kzq HZ0 hch.out.size
  have Hc1 := kcq Hc0 hch (by omega)
  have Hr1 := kcq Hr0 hch (by omega)
  clear hch Hc0 Hx0 Hr0 HB0 HZ0
  generalize (W.setCell ⟨w.heap.size + 1, 1, none⟩ (.int .i64 4)) = W1 at *
  have z9 : W1.cell? ⟨w.heap.size + 1, 1, none⟩ = some (.int .i64 4) := Hx1.out.cell 1
  have f9 := Hx1.out.free 1
  go_upto_region 4 with fail
  clear z9 f9 
  have hch := Lib.hid ((Chg.refl (w.heap.size + 1) W1).set 1 (.int .i64 3))
  have Hx2 : Hid (Blk (W1.setCell ⟨w.heap.size + 1, 1, none⟩ (.int .i64 3)) (w.heap.size + 1) (x.to 3).arr 76) := Lib.hid (by have h := Hx1.out.set 1 (.int .i64 3); rwa [(show (x.to 4).arr.setIfInBounds 1 (.int .i64 3) = (x.to 3).arr from rfl)] at h)
  have HB2 := ksq HB1 hch (by show w.heap.size ≤ (w.heap.size + 1); omega)
  have HZ2 := kzq HZ1 hch.out.size
  have Hc2 := kcq Hc1 hch (by omega)
  have Hr2 := kcq Hr1 hch (by omega)
  clear hch Hc1 Hx1 Hr1 HB1 HZ1
  generalize (W1.setCell ⟨w.heap.size + 1, 1, none⟩ (.int .i64 3)) = W2 at *
  have hbd := (Below.refl W2.heap.size W2).drew
  have Hc3 := kbq Hc2 hbd
  have Hx3 := kbq Hx2 hbd
  have Hr3 := kbq Hr2 hbd
  have HB3 := ktq HB2 hbd
  have HZ3 := kzq HZ2 hbd.size
  clear Hc2 Hx2 Hr2 HB2 HZ2
  refine wp_region_held_drew (S := fun w' => w'.cell? ⟨w.heap.size, 0, none⟩ = some (.int .i64 (N : Int)) ∧ w'.cell? ⟨w.heap.size, 1, none⟩ = some (.slice p n c) ∧ Blk w' (w.heap.size + 1) (x.to 3).arr 76) (by kernel_rfl) ⟨Hc3.out.cell 0, Hc3.out.cell 1, Hx3.out⟩ (fun hS0 => ?_)
  generalize W2.drew = WD at *
  clear hbd
  refine tkq 0 ?_
  refine tkq 1 ?_
  refine wpAnyH_take (i := 2) (v := .agg (x.to 3).arr) rfl (by kernel_rfl) (by kernel_rfl) (by kernel_rfl) (fun _ _ _ h => h) (yieldsIf_loadD (by kernel_rfl) (.tmp 6) rfl (w.heap.size + 1) 0 rfl (x.to 3) (fun w hw => dcell (hw.2.2))) (by first | assumption | trivial) ?_
  try simp only [Act.put, List.getElem_toArray, List.getElem_cons_succ, List.getElem_cons_zero, List.setIfInBounds_toArray, List.set_cons_zero, List.set_cons_succ]
  refine tkq 4 ?_
  refine tkq 5 ?_
  refine tkq 6 ?_
  refine tkq 7 ?_
  refine tkq 8 ?_
  refine rdq 3 (fun K hK => ?_)
  have HG := Lib.hid (dwith_any WD (fun b => P b ∧ b < w.heap.size) N k p n c rs (x.to 3) (HRS.out.kept HB3.out) HKK.out.1 HKK.out.2.1 HKK.out.2.2.1 HKK.out.2.2.2 ((HXI.out.kept HB3.out).to _))
  unfold DrX.v at HG
  go_simp
  go_at_call 36
  refine HG.out.mono ?_
  rintro y9 w3 ⟨p3, c3, rfl, hq, hb⟩
  clear HG
  have HQ := Lib.hid hq.lt
  have HWD : Hid (w.heap.size ≤ WD.heap.size ∧ WD.heap.size ≤ w3.heap.size ∧ w.heap.size + 1 + 1 < WD.heap.size) := Lib.hid ⟨HZ3.out, hb.size, Hr3.out.lt⟩
  clear hq
  have Hc4 := kbq Hc3 hb
  have Hx4 := kbq Hx3 hb
  have Hr4 := kbq Hr3 hb
  have HB4 := ktq HB3 hb
  have HZ4 := kzq HZ3 hb.size
  clear Hc3 Hx3 Hr3 HB3 HZ3
  clear hb hS0
  try go_wp2_with fail
  refine hK.out _ _ ⟨Hc4.out.cell 0, Hc4.out.cell 1, Hx4.out⟩ (fun hS0 => ?_)
  clear hK K
  try simp only [Act.put, List.getElem_toArray, List.getElem_cons_succ, List.getElem_cons_zero, List.setIfInBounds_toArray, List.set_cons_zero, List.set_cons_succ]
  refine rdq 9 (fun K hK => ?_)
  have HG := Lib.hid (dall_any w3 N (⟨⟨14, 0, 0, 0, 0, 0, k, 0, true, [], []⟩, none, 0, none, 0⟩ : MsgX) (fun _ => False) HNN.out ⟨TRow.nil_ _ _, Row.nil_ _ _ 0, At.nil_ _ _, At.nil_ _ _, ⟨by show 0 * 32 ≤ _; decide, by show 0 * 8 ≤ _; decide⟩⟩)
  unfold Msg.v at HG
  dsimp only [List.length_nil] at HG
  go_simp
  go_at_call 34
  refine HG.out.mono ?_
  rintro y9 w5 ⟨p5, c5, rfl, hs, hb⟩
  clear HG
  have HQ3 := Lib.hid (HQ.out.kept hb)
  have HSD := Lib.hid hs
  clear HQ hs
  have Hc5 := kbq Hc4 hb
  have Hx5 := kbq Hx4 hb
  have Hr5 := kbq Hr4 hb
  have HB5 := ktq HB4 hb
  have HZ5 := kzq HZ4 hb.size
  clear Hc4 Hx4 Hr4 HB4 HZ4
  clear hb hS0
  try go_wp2_with fail
  refine hK.out _ _ ⟨Hc5.out.cell 0, Hc5.out.cell 1, Hx5.out⟩ (fun hS0 => ?_)
  clear hK K
  try simp only [Act.put, List.getElem_toArray, List.getElem_cons_succ, List.getElem_cons_zero, List.setIfInBounds_toArray, List.set_cons_zero, List.set_cons_succ]
  refine rdq 10 (fun K hK => ?_)
  have z0 : w5.cell? ⟨(w.heap.size + 1 + 1), 0, none⟩ = some (.int .i64 0) := Hr5.out.cell 0
  have z1 : w5.cell? ⟨(w.heap.size + 1 + 1), 1, none⟩ = some (.slice none 0 0) := Hr5.out.cell 1
  have f0 := Hr5.out.free 0
  have f1 := Hr5.out.free 1
  go_simp
  clear z0 f0 z1 f1
  have hch := Lib.hid (((Chg.refl (w.heap.size + 1 + 1) w5).set 0 (.int .i64 (N : Int))).set 1 (.slice p3 n c3))
  have Hr6 : Hid (Blk _ (w.heap.size + 1 + 1) #[.int .i64 (N : Int), .slice p3 n c3] 30) := Lib.hid ((Hr5.out.set 0 (.int .i64 (N : Int))).set 1 (.slice p3 n c3))
  have HB6 := ksq HB5 hch (by show w.heap.size ≤ (w.heap.size + 1 + 1); omega)
  have HZ6 := kzq HZ5 hch.out.size
  have Hc6 := kcq Hc5 hch (by omega)
  have Hx6 := kcq Hx5 hch (by omega)
  have hrb := HWD.out
  have HSD2 := Lib.hid (HSD.out.chg hch.out (by intro h; (try dsimp only at h); have := HWD.out; rcases h with h | h; exact h; omega))
  have HQ4 := Lib.hid (HQ3.out.chg hch.out (by intro h; (try dsimp only at h); have h1 := HWD.out; have h2 := h.2; rcases h.1 with h3 | h3; (have := h3.2; omega); omega))
  clear HSD HQ3 hrb
  clear hch hS0 Hc5 Hx5 Hr5 HB5 HZ5
  generalize ((w5.setCell ⟨w.heap.size + 1 + 1, 0, none⟩ (.int .i64 (N : Int))).setCell ⟨w.heap.size + 1 + 1, 1, none⟩ (.slice p3 n c3)) = W6 at *
  refine hK.out _ _ ⟨Hc6.out.cell 0, Hc6.out.cell 1, Hx6.out⟩ (fun hS0 => ?_)
  clear hK K
  try simp only [Act.put, List.getElem_toArray, List.getElem_cons_succ, List.getElem_cons_zero, List.setIfInBounds_toArray, List.set_cons_zero, List.set_cons_succ]
  refine tkq 11 ?_
  refine tkq 12 ?_
  refine wpAnyH_done (by kernel_rfl) ?_ _
  clear hS0
  go_wp2_with fail
  have hfr := Hr6.out
  refine bodyPost_ret (v := .tuple #[.agg #[.int .i64 (N : Int), .slice p3 n c3], .slice p5 N c5, .int .i64 0]) (by simp [results, Try.results21, go_sem, hfr.cell 0, hfr.cell 1]) rfl ⟨p3, n, c3, p5, N, c5, rfl, by rw [← HRE.out, List.length_set]; exact HKK.out.1, by rw [← HOU.out]; unfold toAllL; simp, (by rw [← HRE.out]; exact HQ4.out.imp (Q := fun b => P b ∨ w.heap.size ≤ b) (fun b h => by have h1 := HWD.out; rcases h.1 with h2 | h2; exact .inl h2.1; exact .inr (by omega))), (by rw [← HOU.out]; exact HSD2.out.imp (R := fun b => P b ∨ w.heap.size ≤ b) (fun b h => by have h1 := HWD.out; rcases h with h2 | h2; exact h2.elim; exact .inr (by omega))), HB6.out⟩
end Go.Proofs.Yteogdfpkcoodlaa
namespace Go.Proofs.Yteogdfpkcoodlaa
open Go.RowKit
set_option linter.unusedSimpArgs false
/-- A cycle is in one of four states. -/
def StOk (rs : List Rn) : Prop := ∀ r ∈ rs, 1 ≤ r.st ∧ r.st ≤ 4
theorem openB_lt {r : Rn} (h : 1 ≤ r.st ∧ r.st ≤ 4) : openB r = decide (r.st < 3) := by
 unfold openB
 have h1 : r.st = 1 ∨ r.st = 2 ∨ r.st = 3 ∨ r.st = 4 := by omega
 rcases h1 with h1 | h1 | h1 | h1 <;> rw [h1] <;> rfl
def newX (cu : Int) : DrX := ⟨cu, 1, fun _ => false, fun _ => false, fun _ => [], fun _ => none, fun _ => 0, [], none, 0, [], none, 0⟩
theorem newX_in (P : Nat → Prop) (w : World) (cu : Int) : (newX cu).In P w := ⟨fun _ _ => TRow.nil_ _ _, fun _ _ => At.nil_ _ _, TRow.nil_ _ _, At.nil_ _ _, Row.nil_ _ _ 0, At.nil_ _ _⟩
theorem newX_rn (N : Nat) (cu : Int) : (newX cu).rn N = rn0 N cu := by
 unfold DrX.rn rn0 newX hd0
 simp [List.map_const']
set_option linter.unusedSimpArgs false in
set_option maxHeartbeats 4000000 in
set_option maxRecDepth 100000 in
theorem dstart_any (w : World) (P : Nat → Prop) (N : Nat) (p : Option Addr) (n c : Nat) (rs : List Rn) (y : MsgX) (hrs : DsR P N w (.slice p n c) rs) (hn : n = rs.length) (hl : n ≤ 2000) (h8 : N ≤ 8) (hst : StOk rs) :
  Calls Try.prog 18 #[.agg #[.int .i64 (N : Int), .slice p n c], y.m.v (.slice y.pl y.m.ls.length y.cl) (.slice y.pn y.m.ns.length y.cn)] w (DP w P N (startC N rs y.m)) := by
 have HRS := Lib.hid hrs.lt
 have HNN : Hid (N ≤ 8) := Lib.hid h8
 have HKK : Hid (n = rs.length ∧ n ≤ 2000) := Lib.hid ⟨hn, hl⟩
 have HSO := Lib.hid hst
 clear hrs h8 hn hl hst
 unfold DP
 obtain ⟨⟨RS, OU, ER⟩, hA⟩ : ∃ A, startC N rs y.m = A := ⟨_, rfl⟩
 rw [hA]
 have HA := Lib.hid hA
 clear hA
 dsimp only
 unfold Msg.v
 have HB0 : Hid (Below w.heap.size w (((w.alloc (.cells #[.int .i64 (N : Int), .slice p n c] 30)).alloc (.cells #[.int .i64 y.m.k, .int .i64 y.m.s, .int .i64 y.m.n, .int .i64 y.m.b, .int .i64 y.m.c, .int .i64 y.m.r, .int .i64 y.m.y, .int .i64 y.m.a, .bool y.m.t, .slice y.pl y.m.ls.length y.cl, .slice y.pn y.m.ns.length y.cn] 36)).alloc (.cells #[.int .i64 0, .slice none 0 0] 30))) := Lib.hid ((((oneB w _).alloc (by simp <;> omega) _).alloc (by simp <;> omega) _))
 have Hc0 : Hid (Blk (((w.alloc (.cells #[.int .i64 (N : Int), .slice p n c] 30)).alloc (.cells #[.int .i64 y.m.k, .int .i64 y.m.s, .int .i64 y.m.n, .int .i64 y.m.b, .int .i64 y.m.c, .int .i64 y.m.r, .int .i64 y.m.y, .int .i64 y.m.a, .bool y.m.t, .slice y.pl y.m.ls.length y.cl, .slice y.pn y.m.ns.length y.cn] 36)).alloc (.cells #[.int .i64 0, .slice none 0 0] 30)) w.heap.size #[.int .i64 (N : Int), .slice p n c] 30) := Lib.hid (((Blk.new w #[.int .i64 (N : Int), .slice p n c] 30).alloc _).alloc _)
 have Hm0 : Hid (Blk (((w.alloc (.cells #[.int .i64 (N : Int), .slice p n c] 30)).alloc (.cells #[.int .i64 y.m.k, .int .i64 y.m.s, .int .i64 y.m.n, .int .i64 y.m.b, .int .i64 y.m.c, .int .i64 y.m.r, .int .i64 y.m.y, .int .i64 y.m.a, .bool y.m.t, .slice y.pl y.m.ls.length y.cl, .slice y.pn y.m.ns.length y.cn] 36)).alloc (.cells #[.int .i64 0, .slice none 0 0] 30)) (w.heap.size + 1) #[.int .i64 y.m.k, .int .i64 y.m.s, .int .i64 y.m.n, .int .i64 y.m.b, .int .i64 y.m.c, .int .i64 y.m.r, .int .i64 y.m.y, .int .i64 y.m.a, .bool y.m.t, .slice y.pl y.m.ls.length y.cl, .slice y.pn y.m.ns.length y.cn] 36) := Lib.hid ((Blk.new' (w.alloc (.cells #[.int .i64 (N : Int), .slice p n c] 30)) #[.int .i64 y.m.k, .int .i64 y.m.s, .int .i64 y.m.n, .int .i64 y.m.b, .int .i64 y.m.c, .int .i64 y.m.r, .int .i64 y.m.y, .int .i64 y.m.a, .bool y.m.t, .slice y.pl y.m.ls.length y.cl, .slice y.pn y.m.ns.length y.cn] 36 (by simp)).alloc _)
 have Hr0 : Hid (Blk (((w.alloc (.cells #[.int .i64 (N : Int), .slice p n c] 30)).alloc (.cells #[.int .i64 y.m.k, .int .i64 y.m.s, .int .i64 y.m.n, .int .i64 y.m.b, .int .i64 y.m.c, .int .i64 y.m.r, .int .i64 y.m.y, .int .i64 y.m.a, .bool y.m.t, .slice y.pl y.m.ls.length y.cl, .slice y.pn y.m.ns.length y.cn] 36)).alloc (.cells #[.int .i64 0, .slice none 0 0] 30)) (w.heap.size + 1 + 1) #[.int .i64 0, .slice none 0 0] 30) := Lib.hid (Blk.new' ((w.alloc (.cells #[.int .i64 (N : Int), .slice p n c] 30)).alloc (.cells #[.int .i64 y.m.k, .int .i64 y.m.s, .int .i64 y.m.n, .int .i64 y.m.b, .int .i64 y.m.c, .int .i64 y.m.r, .int .i64 y.m.y, .int .i64 y.m.a, .bool y.m.t, .slice y.pl y.m.ls.length y.cl, .slice y.pn y.m.ns.length y.cn] 36)) #[.int .i64 0, .slice none 0 0] 30 (by simp))
 have HZ0 : Hid (w.heap.size ≤ (((w.alloc (.cells #[.int .i64 (N : Int), .slice p n c] 30)).alloc (.cells #[.int .i64 y.m.k, .int .i64 y.m.s, .int .i64 y.m.n, .int .i64 y.m.b, .int .i64 y.m.c, .int .i64 y.m.r, .int .i64 y.m.y, .int .i64 y.m.a, .bool y.m.t, .slice y.pl y.m.ls.length y.cl, .slice y.pn y.m.ns.length y.cn] 36)).alloc (.cells #[.int .i64 0, .slice none 0 0] 30)).heap.size) := Lib.hid HB0.out.size
 go_enter Try.func18, Try.ntmps18
 go_upto_region 1 with fail
 generalize (((w.alloc (.cells #[.int .i64 (N : Int), .slice p n c] 30)).alloc (.cells #[.int .i64 y.m.k, .int .i64 y.m.s, .int .i64 y.m.n, .int .i64 y.m.b, .int .i64 y.m.c, .int .i64 y.m.r, .int .i64 y.m.y, .int .i64 y.m.a, .bool y.m.t, .slice y.pl y.m.ls.length y.cl, .slice y.pn y.m.ns.length y.cn] 36)).alloc (.cells #[.int .i64 0, .slice none 0 0] 30)) = W at *
 have HWL : Hid (w.heap.size + 1 + 1 < W.heap.size) := Lib.hid Hr0.out.lt
 have m4 : W.cell? ⟨w.heap.size + 1, 4, none⟩ = some (.int .i64 y.m.c) := Hm0.out.cell 4
 by_cases hc0 : y.m.c < 0
 ·skip
  have hA := HA.out
  rw [show startC N rs y.m = (rs, [], 1) from by unfold startC; rw [if_pos (.inl hc0)]] at hA
  cases hA
  go_upto_region 2 with fail
  clear m4
  have a0 : W.cell? ⟨w.heap.size, 0, none⟩ = some (.int .i64 (N : Int)) := Hc0.out.cell 0
  have a1 : W.cell? ⟨w.heap.size, 1, none⟩ = some (.slice p n c) := Hc0.out.cell 1
  go_wp2_with (with_reducible refine stop_storeT 30 (.tmp 4) (.tmp 17) rfl ?_)
  clear a0 a1
  have HTH : Hid (W.there (w.heap.size + 1 + 1) 0 2) := Hr0.out.thereAt
  have hch : Hid (Chg (w.heap.size + 1 + 1) W (W.setCells (w.heap.size + 1 + 1) 0 (#[.int .i64 (N : Int), .slice p n c] : Array Value).toList)) := Lib.hid (chg_putL _ _ _ _ _ (Chg.refl _ W))
  have Hr1 : Hid (Blk (W.setCells (w.heap.size + 1 + 1) 0 (#[.int .i64 (N : Int), .slice p n c] : Array Value).toList) (w.heap.size + 1 + 1) #[.int .i64 (N : Int), .slice p n c] 30) := Lib.hid (blk_put_all Hr0.out _ rfl)
  have HB1 : Hid (Below w.heap.size w (W.setCells (w.heap.size + 1 + 1) 0 (#[.int .i64 (N : Int), .slice p n c] : Array Value).toList)) := Lib.hid (below_put (by omega) _ _ _ _ HB0.out)
  have HZ1 := kzq HZ0 hch.out.size
  have Hc1 := kcq Hc0 hch (by omega)
  have Hm1 := kcq Hm0 hch (by omega)
  clear hch Hc0 Hm0 Hr0 HB0 HZ0
  refine wpList_store_mid rfl 30 (.tmp 4) (.tmp 17) rfl (w.heap.size + 1 + 1) 0 #[.int .i64 (N : Int), .slice p n c] rfl rfl HTH.out (infoDC rfl) (all_oneCell_toArray (by intro u hu; simp at hu; rcases hu with rfl | rfl <;> rfl)) ?_
  generalize (W.setCells (w.heap.size + 1 + 1) 0 (#[.int .i64 (N : Int), .slice p n c] : Array Value).toList) = W2 at *
  clear HTH
  go_wp2_with fail
  have hfr := Hr1.out
  refine bodyPost_ret (v := .tuple #[.agg #[.int .i64 (N : Int), .slice p n c], .slice none 0 0, .int .i64 1]) (by simp [results, Try.results18, go_sem, hfr.cell 0, hfr.cell 1]) rfl ⟨_, _, _, none, 0, 0, rfl, HKK.out.1, rfl, ((HRS.out.kept HB1.out).imp (fun b h => .inl h.1)), SdR.nil_ _ _, HB1.out⟩
 by_cases hc7 : (7 : Int) < y.m.c
 ·skip
  have hA := HA.out
  rw [show startC N rs y.m = (rs, [], 1) from by unfold startC; rw [if_pos (.inr (by omega))]] at hA
  cases hA
  go_upto_region 2 with fail
  clear m4
  have a0 : W.cell? ⟨w.heap.size, 0, none⟩ = some (.int .i64 (N : Int)) := Hc0.out.cell 0
  have a1 : W.cell? ⟨w.heap.size, 1, none⟩ = some (.slice p n c) := Hc0.out.cell 1
  go_wp2_with (with_reducible refine stop_storeT 30 (.tmp 4) (.tmp 17) rfl ?_)
  clear a0 a1
  have HTH : Hid (W.there (w.heap.size + 1 + 1) 0 2) := Hr0.out.thereAt
  have hch : Hid (Chg (w.heap.size + 1 + 1) W (W.setCells (w.heap.size + 1 + 1) 0 (#[.int .i64 (N : Int), .slice p n c] : Array Value).toList)) := Lib.hid (chg_putL _ _ _ _ _ (Chg.refl _ W))
  have Hr1 : Hid (Blk (W.setCells (w.heap.size + 1 + 1) 0 (#[.int .i64 (N : Int), .slice p n c] : Array Value).toList) (w.heap.size + 1 + 1) #[.int .i64 (N : Int), .slice p n c] 30) := Lib.hid (blk_put_all Hr0.out _ rfl)
  have HB1 : Hid (Below w.heap.size w (W.setCells (w.heap.size + 1 + 1) 0 (#[.int .i64 (N : Int), .slice p n c] : Array Value).toList)) := Lib.hid (below_put (by omega) _ _ _ _ HB0.out)
  have HZ1 := kzq HZ0 hch.out.size
  have Hc1 := kcq Hc0 hch (by omega)
  have Hm1 := kcq Hm0 hch (by omega)
  clear hch Hc0 Hm0 Hr0 HB0 HZ0
  refine wpList_store_mid rfl 30 (.tmp 4) (.tmp 17) rfl (w.heap.size + 1 + 1) 0 #[.int .i64 (N : Int), .slice p n c] rfl rfl HTH.out (infoDC rfl) (all_oneCell_toArray (by intro u hu; simp at hu; rcases hu with rfl | rfl <;> rfl)) ?_
  generalize (W.setCells (w.heap.size + 1 + 1) 0 (#[.int .i64 (N : Int), .slice p n c] : Array Value).toList) = W2 at *
  clear HTH
  go_wp2_with fail
  have hfr := Hr1.out
  refine bodyPost_ret (v := .tuple #[.agg #[.int .i64 (N : Int), .slice p n c], .slice none 0 0, .int .i64 1]) (by simp [results, Try.results18, go_sem, hfr.cell 0, hfr.cell 1]) rfl ⟨_, _, _, none, 0, 0, rfl, HKK.out.1, rfl, ((HRS.out.kept HB1.out).imp (fun b h => .inl h.1)), SdR.nil_ _ _, HB1.out⟩
 have HCR : Hid (0 ≤ y.m.c ∧ y.m.c < 8) := Lib.hid (by omega)
 go_upto_region 3 with fail
 clear m4 hc0 hc7
 obtain ⟨xs, hr, hat, hin, hm⟩ := HRS.out
 have HNX : Hid (xs.length = n) := Lib.hid (by rw [HKK.out.1, ← hm, List.length_map])
 have HR := Lib.hid hr
 have HM := Lib.hid hm
 have HAT := Lib.hid hat
 have HIN := Lib.hid hin
 clear hr hm hat hin
 have HREL : Hid (Below W.heap.size W W ∧ (rs.take 0).any (fun r => r.cu == y.m.c && openB r) = false) := Lib.hid ⟨Below.refl _ _, rfl⟩
 go_wp2_with fail
 go_loopw [7] (fun i wr => ∃ k : Nat, k ≤ n ∧ i = .int .i64 k ∧ Hid (Below W.heap.size W wr ∧ (rs.take k).any (fun r => r.cu == y.m.c && openB r) = false)) (fun i _ => n - (intOf i).toNat)
 case atStart => exact ⟨0, by omega, rfl, HREL⟩
 case round =>
  clear HREL
  obtain ⟨k, hk, rfl, HK⟩ := hrel
  have hk9 : k + 1 ≤ 2001 := by have := HKK.out.2; omega
  have hbk := HK.out.1
  have Hc1 := kbq Hc0 hbk
  have Hm1 := kbq Hm0 hbk
  have Hr1 := kbq Hr0 hbk
  have HB1 := ktq HB0 hbk
  have HZ1 := kzq HZ0 hbk.size
  clear Hc0 Hm0 Hr0 HB0 HZ0
  clear hbk
  by_cases hlt : k < n
  ·skip
   have hltI : (k : Int) < (n : Int) := by omega
   have HLT : Hid (k < n) := Lib.hid hlt
   have hkl : k < xs.length := by have := HNX.out; omega
   obtain ⟨b, o, hp, hbl, hcs⟩ := (HR.out.kept HB1.out).at_ k hkl
   obtain ⟨X, hX⟩ : ∃ X, xs[k] = X := ⟨_, rfl⟩
   rw [hX] at hcs
   subst hp
   have e0 : wr.cell? ⟨b, o + k * 28, none⟩ = some (.int .i64 X.cu) := hcs 0 (by decide)
   have e1 : wr.cell? ⟨b, o + k * 28 + 1, none⟩ = some (.int .i64 X.st) := hcs 1 (by decide)
   have HRK : Hid (rs[k]? = some (X.rn N)) := Lib.hid (by rw [← HM.out, List.getElem?_map, List.getElem?_eq_getElem hkl, hX]; rfl)
   have HOP : Hid (openB (X.rn N) = decide (X.st < 3)) := Lib.hid (openB_lt (HSO.out _ (List.mem_of_getElem? HRK.out)))
   clear hcs hX hkl hbl hlt hk
   have a1 : wr.cell? ⟨w.heap.size, 1, none⟩ = some (.slice (some ⟨b, o, none⟩) n c) := Hc1.out.cell 1
   go_upto_region 6 with fail
   clear a1 hltI
   have hkn : k < n := HLT.out
   by_cases hst : X.st < 3
   ·skip
    cases hcu : (X.cu == y.m.c)
    ·skip
     have HFA : Hid ((fun r => r.cu == y.m.c && openB r) (X.rn N) = false) := Lib.hid (by show (X.cu == y.m.c && openB (X.rn N)) = false; rw [HOP.out, hcu]; rfl)
     have hbd := (Below.refl wr.heap.size wr).drew
     have Hc2 := kbq Hc1 hbd
     have Hm2 := kbq Hm1 hbd
     have Hr2 := kbq Hr1 hbd
     have HB2 := ktq HB1 hbd
     have HZ2 := kzq HZ1 hbd.size
     clear Hc1 Hm1 Hr1 HB1 HZ1
     have hS1 : wr.drew.cell? ⟨w.heap.size, 0, none⟩ = some (.int .i64 (N : Int)) ∧ wr.drew.cell? ⟨w.heap.size, 1, none⟩ = some (.slice (some ⟨b, o, none⟩) n c) ∧ wr.drew.cell? ⟨b, o + k * 28, none⟩ = some (.int .i64 X.cu) ∧ wr.drew.cell? ⟨b, o + k * 28 + 1, none⟩ = some (.int .i64 X.st) ∧ wr.drew.cell? ⟨w.heap.size + 1, 4, none⟩ = some (.int .i64 y.m.c) := ⟨Hc2.out.cell 0, Hc2.out.cell 1, e0, e1, Hm2.out.cell 4⟩
     have HBW : Hid (Below W.heap.size W wr.drew) := Lib.hid HK.out.1.drew
     refine wp_region_held_drew (S := fun w' => w'.cell? ⟨w.heap.size, 0, none⟩ = some (.int .i64 (N : Int)) ∧ w'.cell? ⟨w.heap.size, 1, none⟩ = some (.slice (some ⟨b, o, none⟩) n c) ∧ w'.cell? ⟨b, o + k * 28, none⟩ = some (.int .i64 X.cu) ∧ w'.cell? ⟨b, o + k * 28 + 1, none⟩ = some (.int .i64 X.st) ∧ w'.cell? ⟨w.heap.size + 1, 4, none⟩ = some (.int .i64 y.m.c)) (by kernel_rfl) hS1 (fun hS0 => ?_)
     clear hS1
     clear e0 e1
     generalize wr.drew = WD at *
     clear hbd
     refine tkq 0 ?_
     refine tkq 1 ?_
     refine tkq 2 ?_
     refine tkq 3 ?_
     refine tkq 4 ?_
     refine tkq 5 ?_
     refine tkq 6 ?_
     refine tkq 7 ?_
     refine tkq 8 ?_
     refine tkq 9 ?_
     refine tkq 10 ?_
     refine tkq 11 ?_
     refine tkq 12 ?_
     refine tkq 13 ?_
     refine tkq 14 ?_
     refine tkq 15 ?_
     refine tkq 16 ?_
     refine tkq 17 ?_
     refine wpAnyH_done (by kernel_rfl) ?_ _
     clear hS0
     have HNX2 : Hid (Below W.heap.size W WD ∧ (rs.take (k + 1)).any (fun r => r.cu == y.m.c && openB r) = false) := Lib.hid ⟨HBW.out, by
      have hk : k < rs.length := by have := HLT.out; have := HKK.out.1; omega
      have h1 : rs[k] = X.rn N := by have h := HRK.out; rw [List.getElem?_eq_getElem hk] at h; exact Option.some.inj h
      rw [List.take_succ_eq_append_getElem hk, List.any_append, HK.out.2, h1]
      simp only [List.any_cons, List.any_nil, Bool.or_false, Bool.false_or]
      exact HFA.out⟩
     clear Hc2 Hm2 Hr2 HB2 HZ2 hst hcu hkn
     go_upto_region 5 with fail
     go_wp2_with fail
     go_roundw
     case rel => exact ⟨k + 1, by have := HLT.out; omega, by go_num, HNX2⟩
     case measure => have := HLT.out; simp [intOf]; omega
    ·skip
     have HTR : Hid ((fun r => r.cu == y.m.c && openB r) (X.rn N) = true) := Lib.hid (by show (X.cu == y.m.c && openB (X.rn N)) = true; rw [HOP.out, hcu]; exact decide_eq_true hst)
     have hbd := (Below.refl wr.heap.size wr).drew
     have Hc2 := kbq Hc1 hbd
     have Hm2 := kbq Hm1 hbd
     have Hr2 := kbq Hr1 hbd
     have HB2 := ktq HB1 hbd
     have HZ2 := kzq HZ1 hbd.size
     clear Hc1 Hm1 Hr1 HB1 HZ1
     refine wp_region_held_drew (S := fun w' => w'.cell? ⟨w.heap.size, 0, none⟩ = some (.int .i64 (N : Int)) ∧ w'.cell? ⟨w.heap.size, 1, none⟩ = some (.slice (some ⟨b, o, none⟩) n c) ∧ w'.cell? ⟨b, o + k * 28, none⟩ = some (.int .i64 X.cu) ∧ w'.cell? ⟨b, o + k * 28 + 1, none⟩ = some (.int .i64 X.st) ∧ w'.cell? ⟨w.heap.size + 1, 4, none⟩ = some (.int .i64 y.m.c)) (by kernel_rfl) ⟨Hc2.out.cell 0, Hc2.out.cell 1, e0, e1, Hm2.out.cell 4⟩ (fun hS0 => ?_)
     clear e0 e1
     generalize wr.drew = WD at *
     clear hbd
     refine tkq 0 ?_
     refine tkq 1 ?_
     refine tkq 2 ?_
     refine tkq 3 ?_
     refine tkq 4 ?_
     refine tkq 5 ?_
     refine tkq 6 ?_
     refine tkq 7 ?_
     refine tkq 8 ?_
     refine tkq 9 ?_
     refine tkq 10 ?_
     refine tkq 11 ?_
     refine tkq 12 ?_
     refine tkq 13 ?_
     refine tkq 14 ?_
     refine tkq 15 ?_
     refine tkq 16 ?_
     refine tkq 17 ?_
     refine wpAnyH_done (by kernel_rfl) ?_ _
     clear hS0
     clear hst hcu hkn
     have hA := HA.out
     rw [show startC N rs y.m = (rs, [], 90) from by unfold startC; rw [if_neg (by have := HCR.out; omega), if_pos (List.any_eq_true.2 ⟨_, List.mem_of_getElem? HRK.out, HTR.out⟩)]] at hA
     cases hA
     go_upto_region 7 with fail
     have a0 : WD.cell? ⟨w.heap.size, 0, none⟩ = some (.int .i64 (N : Int)) := Hc2.out.cell 0
     have a1 : WD.cell? ⟨w.heap.size, 1, none⟩ = some (.slice (some ⟨b, o, none⟩) n c) := Hc2.out.cell 1
     go_wp2_with (with_reducible refine stop_storeT 30 (.tmp 4) (.tmp 43) rfl ?_)
     clear a0 a1
     have HTH : Hid (WD.there (w.heap.size + 1 + 1) 0 2) := Hr2.out.thereAt
     have hch : Hid (Chg (w.heap.size + 1 + 1) WD (WD.setCells (w.heap.size + 1 + 1) 0 (#[.int .i64 (N : Int), .slice (some ⟨b, o, none⟩) n c] : Array Value).toList)) := Lib.hid (chg_putL _ _ _ _ _ (Chg.refl _ WD))
     have Hr3 : Hid (Blk (WD.setCells (w.heap.size + 1 + 1) 0 (#[.int .i64 (N : Int), .slice (some ⟨b, o, none⟩) n c] : Array Value).toList) (w.heap.size + 1 + 1) #[.int .i64 (N : Int), .slice (some ⟨b, o, none⟩) n c] 30) := Lib.hid (blk_put_all Hr2.out _ rfl)
     have HB3 : Hid (Below w.heap.size w (WD.setCells (w.heap.size + 1 + 1) 0 (#[.int .i64 (N : Int), .slice (some ⟨b, o, none⟩) n c] : Array Value).toList)) := Lib.hid (below_put (by omega) _ _ _ _ HB2.out)
     have HZ3 := kzq HZ2 hch.out.size
     have Hc3 := kcq Hc2 hch (by omega)
     have Hm3 := kcq Hm2 hch (by omega)
     clear hch Hc2 Hm2 Hr2 HB2 HZ2
     refine wpList_store_mid rfl 30 (.tmp 4) (.tmp 43) rfl (w.heap.size + 1 + 1) 0 #[.int .i64 (N : Int), .slice (some ⟨b, o, none⟩) n c] rfl rfl HTH.out (infoDC rfl) (all_oneCell_toArray (by intro u hu; simp at hu; rcases hu with rfl | rfl <;> rfl)) ?_
     generalize (WD.setCells (w.heap.size + 1 + 1) 0 (#[.int .i64 (N : Int), .slice (some ⟨b, o, none⟩) n c] : Array Value).toList) = W2 at *
     clear HTH
     go_wp2_with fail
     have hfr := Hr3.out
     refine bodyPost_ret (v := .tuple #[.agg #[.int .i64 (N : Int), .slice (some ⟨b, o, none⟩) n c], .slice none 0 0, .int .i64 90]) (by simp [results, Try.results18, go_sem, hfr.cell 0, hfr.cell 1]) rfl ⟨_, _, _, none, 0, 0, rfl, HKK.out.1, rfl, ((HRS.out.kept HB3.out).imp (fun b h => .inl h.1)), SdR.nil_ _ _, HB3.out⟩
   ·skip
    have HFA : Hid ((fun r => r.cu == y.m.c && openB r) (X.rn N) = false) := Lib.hid (by show (X.cu == y.m.c && openB (X.rn N)) = false; rw [HOP.out, decide_eq_false hst, Bool.and_false])
    have hbd := (Below.refl wr.heap.size wr).drew
    have Hc2 := kbq Hc1 hbd
    have Hm2 := kbq Hm1 hbd
    have Hr2 := kbq Hr1 hbd
    have HB2 := ktq HB1 hbd
    have HZ2 := kzq HZ1 hbd.size
    clear Hc1 Hm1 Hr1 HB1 HZ1
    have hS1 : wr.drew.cell? ⟨w.heap.size, 0, none⟩ = some (.int .i64 (N : Int)) ∧ wr.drew.cell? ⟨w.heap.size, 1, none⟩ = some (.slice (some ⟨b, o, none⟩) n c) ∧ wr.drew.cell? ⟨b, o + k * 28, none⟩ = some (.int .i64 X.cu) ∧ wr.drew.cell? ⟨b, o + k * 28 + 1, none⟩ = some (.int .i64 X.st) ∧ wr.drew.cell? ⟨w.heap.size + 1, 4, none⟩ = some (.int .i64 y.m.c) := ⟨Hc2.out.cell 0, Hc2.out.cell 1, e0, e1, Hm2.out.cell 4⟩
    have HBW : Hid (Below W.heap.size W wr.drew) := Lib.hid HK.out.1.drew
    refine wp_region_held_drew (S := fun w' => w'.cell? ⟨w.heap.size, 0, none⟩ = some (.int .i64 (N : Int)) ∧ w'.cell? ⟨w.heap.size, 1, none⟩ = some (.slice (some ⟨b, o, none⟩) n c) ∧ w'.cell? ⟨b, o + k * 28, none⟩ = some (.int .i64 X.cu) ∧ w'.cell? ⟨b, o + k * 28 + 1, none⟩ = some (.int .i64 X.st) ∧ w'.cell? ⟨w.heap.size + 1, 4, none⟩ = some (.int .i64 y.m.c)) (by kernel_rfl) hS1 (fun hS0 => ?_)
    clear hS1
    clear e0 e1
    generalize wr.drew = WD at *
    clear hbd
    refine tkq 0 ?_
    refine tkq 1 ?_
    refine tkq 2 ?_
    refine tkq 3 ?_
    refine tkq 4 ?_
    refine tkq 5 ?_
    refine tkq 6 ?_
    refine tkq 7 ?_
    refine tnq 8 ?_
    refine tnq 9 ?_
    refine tnq 10 ?_
    refine tnq 11 ?_
    refine tnq 12 ?_
    refine tnq 13 ?_
    refine tnq 14 ?_
    refine tnq 15 ?_
    refine tnq 16 ?_
    refine tkq 17 ?_
    refine wpAnyH_done (by kernel_rfl) ?_ _
    clear hS0
    have HNX2 : Hid (Below W.heap.size W WD ∧ (rs.take (k + 1)).any (fun r => r.cu == y.m.c && openB r) = false) := Lib.hid ⟨HBW.out, by
     have hk : k < rs.length := by have := HLT.out; have := HKK.out.1; omega
     have h1 : rs[k] = X.rn N := by have h := HRK.out; rw [List.getElem?_eq_getElem hk] at h; exact Option.some.inj h
     rw [List.take_succ_eq_append_getElem hk, List.any_append, HK.out.2, h1]
     simp only [List.any_cons, List.any_nil, Bool.or_false, Bool.false_or]
     exact HFA.out⟩
    clear Hc2 Hm2 Hr2 HB2 HZ2 hst hkn
    go_upto_region 5 with fail
    go_wp2_with fail
    go_roundw
    case rel => exact ⟨k + 1, by have := HLT.out; omega, by go_num, HNX2⟩
    case measure => have := HLT.out; simp [intOf]; omega
  ·skip
   have hltI : ¬ (k : Int) < (n : Int) := by omega
   have HNO : Hid (rs.any (fun r => r.cu == y.m.c && openB r) = false) := Lib.hid (by have h := HK.out.2; rw [List.take_of_length_le (by have := HKK.out.1; omega)] at h; exact h)
   clear hk hlt HK hk9
   have hA := HA.out
   rw [show startC N rs y.m = (rs ++ [rn0 N y.m.c], toAllL N (askM ((rs.length + 1 : Nat) : Int) y.m.c), 0) from by unfold startC; rw [if_neg (by have := HCR.out; omega), if_neg (by rw [HNO.out]; decide)]] at hA
   cases hA
   have a1 : wr.cell? ⟨w.heap.size, 1, none⟩ = some (.slice p n c) := Hc1.out.cell 1
   go_upto_region 8 with fail
   clear a1 hltI
   generalize wr = V at *
   have HVL : Hid (w.heap.size + 1 + 1 < V.heap.size) := Lib.hid Hr1.out.lt
   have HOE := Lib.hid (OwnT.madeE encD V V.heap.size 76 (Nat.le_refl _))
   have HBE := Lib.hid (oneB V (.cells #[] 76))
   have HRW := Lib.hid ((HR.out.kept HB1.out).kept HBE.out)
   have a1 : (V.alloc (.cells #[] 76)).cell? ⟨w.heap.size, 1, none⟩ = some (.slice p n c) := (Hc1.out.below HBE.out Hc1.out.lt).cell 1
   go_wp2_with (at_builtin; with_reducible refine stop_appendT (.tmp 44) (.tmp 46) 28 rfl ?_)
   clear a1
   refine wpList_append_t rfl (.tmp 44) (.tmp 46) 28 rfl 76 zeroVD 272 V.heap.size eltD rfl (by decide) (.slice (some ⟨V.heap.size, 0, none⟩) 0 0) (.slice p n c) [] xs rfl rfl HOE.out HRW.out (by have := HNX.out; have := HKK.out.2; simp; omega) HBE.out.size xs n (List.nil_append _) HNX.out ?_
   intro p1 c1 w1 ho _ hbw
   have HO := Lib.hid ho
   have hb : Below V.heap.size V w1 := HBE.out.trans hbw
   clear ho hbw HOE HBE HRW
   have Hc2 := kbq Hc1 hb
   have Hm2 := kbq Hm1 hb
   have Hr2 := kbq Hr1 hb
   have HB2 := ktq HB1 hb
   have HZ2 := kzq HZ1 hb.size
   clear Hc1 Hm1 Hr1 HB1 HZ1
   have HV1 : Hid (V.heap.size ≤ w1.heap.size) := Lib.hid hb.size
   clear hb
   go_upto_region 9 with fail
   have m4 : w1.cell? ⟨w.heap.size + 1, 4, none⟩ = some (.int .i64 y.m.c) := Hm2.out.cell 4
   have HBN := Lib.hid (oneB w1 (.cells #[.int .i64 y.m.c, .int .i64 1, .bool false, .bool false, .bool false, .bool false, .bool false, .bool false, .bool false, .bool false, .bool false, .bool false, .bool false, .bool false, .bool false, .bool false, .bool false, .bool false, .slice none 0 0, .slice none 0 0, .slice none 0 0, .slice none 0 0, .slice none 0 0, .slice none 0 0, .slice none 0 0, .slice none 0 0, .slice none 0 0, .slice none 0 0] 76))
   go_wp2_with (at_builtin; with_reducible refine stop_appendT (.tmp 48) (.tmp 52) 28 rfl ?_)
   clear m4
   refine wpList_append_t rfl (.tmp 48) (.tmp 52) 28 rfl 76 zeroVD 272 V.heap.size eltD rfl (by decide) (.slice p1 n c1) (.slice (some ⟨w1.heap.size, 0, none⟩) 1 1) xs [newX y.m.c] rfl rfl (HO.out.later HBN.out) (TRow.one_ encD (newX y.m.c) (Blk.new w1 #[.int .i64 y.m.c, .int .i64 1, .bool false, .bool false, .bool false, .bool false, .bool false, .bool false, .bool false, .bool false, .bool false, .bool false, .bool false, .bool false, .bool false, .bool false, .bool false, .bool false, .slice none 0 0, .slice none 0 0, .slice none 0 0, .slice none 0 0, .slice none 0 0, .slice none 0 0, .slice none 0 0, .slice none 0 0, .slice none 0 0, .slice none 0 0] 76) rfl (Nat.le_refl 1)) (by have := HNX.out; have := HKK.out.2; simp; omega) (by have := HV1.out; have := HBN.out.size; omega) (xs ++ [newX y.m.c]) (n + 1) rfl (by rw [List.length_append, HNX.out]; rfl) ?_
   intro p2 c2 w2 ho _ hbw
   have HO2 := Lib.hid ho
   have hb : Below V.heap.size w1 w2 := (HBN.out.mono HV1.out).trans hbw
   clear ho hbw HBN HO
   have Hc3 := Lib.hid (Hc2.out.below hb (by have := HVL.out; omega))
   have Hm3 := Lib.hid (Hm2.out.below hb (by have := HVL.out; omega))
   have Hr3 := Lib.hid (Hr2.out.below hb (by have := HVL.out; omega))
   have HB3 : Hid (Below w.heap.size w w2) := Lib.hid (HB2.out.trans (hb.mono (by have := HVL.out; omega)))
   have HZ3 : Hid (w.heap.size ≤ w2.heap.size) := Lib.hid HB3.out.size
   have HV2 : Hid (V.heap.size ≤ w2.heap.size) := Lib.hid (Nat.le_trans HV1.out hb.size)
   clear hb Hc2 Hm2 Hr2 HB2 HZ2
   have z1 : w2.cell? ⟨w.heap.size, 1, none⟩ = some (.slice p n c) := Hc3.out.cell 1
   have f1 := Hc3.out.free 1
   go_upto_region 10 with fail
   clear z1 f1
   have hch := Lib.hid ((Chg.refl w.heap.size w2).set 1 (.slice p2 (n + 1) c2))
   have Hc4 : Hid (Blk _ w.heap.size #[.int .i64 (N : Int), .slice p2 (n + 1) c2] 30) := Lib.hid (Hc3.out.set 1 (.slice p2 (n + 1) c2))
   have HB4 := ksq HB3 hch (Nat.le_refl _)
   have HZ4 : Hid (w.heap.size ≤ (w2.setCell ⟨w.heap.size, 1, none⟩ (.slice p2 (n + 1) c2)).heap.size) := Lib.hid HB4.out.size
   have Hm4 := kcq Hm3 hch (by omega)
   have Hr4 := kcq Hr3 hch (by omega)
   have HO3 := Lib.hid (HO2.out.stay (fun g hg => hch.out.2 g (HO2.out.lt g hg) (by have h1 := HO2.out.block_ge g hg; have := HVL.out; omega)))
   have HV3 : Hid (V.heap.size ≤ (w2.setCell ⟨w.heap.size, 1, none⟩ (.slice p2 (n + 1) c2)).heap.size) := Lib.hid (Nat.le_trans HV2.out hch.out.size)
   clear hch HO2 Hc3 Hm3 Hr3 HB3 HZ3
   generalize (w2.setCell ⟨w.heap.size, 1, none⟩ (.slice p2 (n + 1) c2)) = W3 at *
   have hbd := (Below.refl W3.heap.size W3).drew
   have Hc5 := kbq Hc4 hbd
   have Hm5 := kbq Hm4 hbd
   have Hr5 := kbq Hr4 hbd
   have HB5 := ktq HB4 hbd
   have HZ5 := kzq HZ4 hbd.size
   clear Hc4 Hm4 Hr4 HB4 HZ4
   refine wp_region_held_drew (S := fun w' => w'.cell? ⟨w.heap.size, 0, none⟩ = some (.int .i64 (N : Int)) ∧ w'.cell? ⟨w.heap.size, 1, none⟩ = some (.slice p2 (n + 1) c2) ∧ w'.cell? ⟨w.heap.size + 1, 4, none⟩ = some (.int .i64 y.m.c)) (by kernel_rfl) ⟨Hc5.out.cell 0, Hc5.out.cell 1, Hm5.out.cell 4⟩ (fun hS0 => ?_)
   have HO4 := Lib.hid (HO3.out.later hbd)
   clear HO3
   have HVD : Hid (V.heap.size ≤ W3.drew.heap.size) := Lib.hid (Nat.le_trans HV3.out hbd.size)
   generalize W3.drew = WD at *
   clear hbd
   refine tkq 0 ?_
   refine tkq 1 ?_
   refine tkq 2 ?_
   refine tkq 3 ?_
   refine tkq 4 ?_
   refine tkq 5 ?_
   refine tkq 6 ?_
   refine tkq 7 ?_
   refine tkq 8 ?_
   refine rdq 9 (fun K hK => ?_)
   have HG := Lib.hid (dall_any WD N (⟨⟨10, 0, 0, 0, y.m.c, 0, ((n + 1 : Nat) : Int), 0, false, [], []⟩, none, 0, none, 0⟩ : MsgX) (fun _ => False) HNN.out ⟨TRow.nil_ _ _, Row.nil_ _ _ 0, At.nil_ _ _, At.nil_ _ _, ⟨by show 0 * 32 ≤ _; decide, by show 0 * 8 ≤ _; decide⟩⟩)
   unfold Msg.v at HG
   dsimp only [List.length_nil] at HG
   go_simp
   go_at_call 34
   refine HG.out.mono ?_
   rintro y9 w5 ⟨p5, c5, rfl, hs, hb⟩
   clear HG
   have HO5 := Lib.hid (HO4.out.later hb)
   have HSD := Lib.hid hs
   clear HO4 hs
   have Hc6 := kbq Hc5 hb
   have Hm6 := kbq Hm5 hb
   have Hr6 := kbq Hr5 hb
   have HB6 := ktq HB5 hb
   have HZ6 := kzq HZ5 hb.size
   clear Hc5 Hm5 Hr5 HB5 HZ5
   clear hb hS0
   try go_wp2_with fail
   refine hK.out _ _ ⟨Hc6.out.cell 0, Hc6.out.cell 1, Hm6.out.cell 4⟩ (fun hS0 => ?_)
   clear hK K
   try simp only [Act.put, List.getElem_toArray, List.getElem_cons_succ, List.getElem_cons_zero, List.setIfInBounds_toArray, List.set_cons_zero, List.set_cons_succ]
   refine rdq 10 (fun K hK => ?_)
   have z0 : w5.cell? ⟨(w.heap.size + 1 + 1), 0, none⟩ = some (.int .i64 0) := Hr6.out.cell 0
   have z1 : w5.cell? ⟨(w.heap.size + 1 + 1), 1, none⟩ = some (.slice none 0 0) := Hr6.out.cell 1
   have f0 := Hr6.out.free 0
   have f1 := Hr6.out.free 1
   go_simp
   clear z0 f0 z1 f1
   have hch := Lib.hid (((Chg.refl (w.heap.size + 1 + 1) w5).set 0 (.int .i64 (N : Int))).set 1 (.slice p2 (n + 1) c2))
   have Hr7 : Hid (Blk _ (w.heap.size + 1 + 1) #[.int .i64 (N : Int), .slice p2 (n + 1) c2] 30) := Lib.hid ((Hr6.out.set 0 (.int .i64 (N : Int))).set 1 (.slice p2 (n + 1) c2))
   have HB7 := ksq HB6 hch (by show w.heap.size ≤ (w.heap.size + 1 + 1); omega)
   have HZ7 := kzq HZ6 hch.out.size
   have Hc7 := kcq Hc6 hch (by omega)
   have Hm7 := kcq Hm6 hch (by omega)
   have hvl := HVL.out
   have HSD2 := Lib.hid (HSD.out.chg hch.out (by intro h; (try dsimp only at h); have := HVD.out; rcases h with h | h; exact h; omega))
   have HO6 := Lib.hid (HO5.out.stay (fun g hg => hch.out.2 g (HO5.out.lt g hg) (by have h1 := HO5.out.block_ge g hg; omega)))
   clear HSD HO5 hvl
   clear hch hS0 Hc6 Hm6 Hr6 HB6 HZ6
   generalize ((w5.setCell ⟨w.heap.size + 1 + 1, 0, none⟩ (.int .i64 (N : Int))).setCell ⟨w.heap.size + 1 + 1, 1, none⟩ (.slice p2 (n + 1) c2)) = W6 at *
   refine hK.out _ _ ⟨Hc7.out.cell 0, Hc7.out.cell 1, Hm7.out.cell 4⟩ (fun hS0 => ?_)
   clear hK K
   try simp only [Act.put, List.getElem_toArray, List.getElem_cons_succ, List.getElem_cons_zero, List.setIfInBounds_toArray, List.set_cons_zero, List.set_cons_succ]
   refine tkq 11 ?_
   refine tkq 12 ?_
   refine wpAnyH_done (by kernel_rfl) ?_ _
   clear hS0
   go_wp2_with fail
   have hfr := Hr7.out
   refine bodyPost_ret (v := .tuple #[.agg #[.int .i64 (N : Int), .slice p2 (n + 1) c2], .slice p5 N c5, .int .i64 0]) (by simp [results, Try.results18, go_sem, hfr.cell 0, hfr.cell 1]) rfl ⟨p2, n + 1, c2, p5, N, c5, rfl, by rw [List.length_append, ← HKK.out.1]; rfl, by unfold toAllL; simp, ⟨xs ++ [newX y.m.c], HO6.out.row, ?_, ?_, ?_⟩, ?_, HB7.out⟩
   ·refine HO6.out.at_P (fun b hb => .inr ?_)
    have := HVL.out
    omega
   ·intro q hq
    rcases List.mem_append.1 hq with h | h
    ·exact ((HIN.out q h).kept HB7.out).imp (fun b h => .inl h.1)
    ·obtain rfl := List.mem_singleton.1 h
     exact newX_in _ _ _
   ·rw [List.map_append, HM.out]
    show rs ++ [(newX y.m.c).rn N] = _
    rw [newX_rn]
   ·have h1 := HSD2.out
    have h2 : (n + 1 : Nat) = rs.length + 1 := by rw [HKK.out.1]
    rw [h2] at h1
    exact h1.imp (R := fun b => P b ∨ w.heap.size ≤ b) (fun b h => by have h3 := HVD.out; have h4 := HVL.out; rcases h with h | h; exact h.elim; exact .inr (by omega))
end Go.Proofs.Yteogdfpkcoodlaa
namespace Go.Proofs.Yteogdfpkcoodlaa
open Go.RowKit
set_option linter.unusedSimpArgs false
def DrX.setT (x : DrX) (j : Nat) : DrX := { x with t := fun i => if i = j then true else x.t i }
theorem DrX.In.setT {P : Nat → Prop} {w : World} {x : DrX} (h : x.In P w) (j : Nat) : (x.setT j).In P w := ⟨h.of, h.oa, h.ls, h.al, h.ns, h.an⟩
theorem DrX.arr_setT (x : DrX) (j : Nat) (hj : j < 8) : x.arr.setIfInBounds (10 + j) (.bool true) = (x.setT j).arr := by
 match j, hj with
 | 0, _ => rfl
 | 1, _ => rfl
 | 2, _ => rfl
 | 3, _ => rfl
 | 4, _ => rfl
 | 5, _ => rfl
 | 6, _ => rfl
 | 7, _ => rfl
theorem DrX.arr_t (x : DrX) (j : Nat) (hj : j < 8) : x.arr[10 + j]? = some (.bool (x.t j)) := by
 match j, hj with
 | 0, _ => rfl
 | 1, _ => rfl
 | 2, _ => rfl
 | 3, _ => rfl
 | 4, _ => rfl
 | 5, _ => rfl
 | 6, _ => rfl
 | 7, _ => rfl
theorem DrX.arr_o (x : DrX) (j : Nat) (hj : j < 8) : x.arr[2 + j]? = some (.bool (x.o j)) := by
 match j, hj with
 | 0, _ => rfl
 | 1, _ => rfl
 | 2, _ => rfl
 | 3, _ => rfl
 | 4, _ => rfl
 | 5, _ => rfl
 | 6, _ => rfl
 | 7, _ => rfl
theorem DrX.arr_p (x : DrX) (j : Nat) (hj : j < 8) : x.arr[18 + j]? = some (.slice (x.p j) (x.L j).length (x.c j)) := by
 match j, hj with
 | 0, _ => rfl
 | 1, _ => rfl
 | 2, _ => rfl
 | 3, _ => rfl
 | 4, _ => rfl
 | 5, _ => rfl
 | 6, _ => rfl
 | 7, _ => rfl
theorem DrX.rn_setT {N : Nat} {x : DrX} {j : Nat} (hj : j < N) : (x.setT j).rn N = (x.rn N).vote j := by
 unfold Rn.vote
 rw [DrX.hs_at hj]
 unfold DrX.rn DrX.setT
 simp only [Rn.mk.injEq, true_and, and_true]
 refine List.ext_getElem (by simp) (fun i h1 h2 => ?_)
 rw [List.getElem_set]
 simp only [List.getElem_map, List.getElem_range]
 by_cases h : j = i
 ·subst h; simp
 ·simp [h, Ne.symm h]
/-- Has one not voted yet? -/
theorem any_notT {N : Nat} {x : DrX} : (x.rn N).hs.any (fun h => !h.t) = true ↔ ∃ i, i < N ∧ x.t i = false := by
 unfold DrX.rn
 simp only [List.any_eq_true, List.mem_map, List.mem_range]
 constructor
 ·rintro ⟨h, ⟨i, hi, rfl⟩, h2⟩
  exact ⟨i, hi, by simpa using h2⟩
 ·rintro ⟨i, hi, h2⟩
  exact ⟨_, ⟨i, hi, rfl⟩, by simp [h2]⟩
set_option linter.unusedSimpArgs false in
set_option maxHeartbeats 4000000 in
set_option maxRecDepth 100000 in
theorem dvote_any (w : World) (P : Nat → Prop) (N : Nat) (p : Option Addr) (n c : Nat) (rs : List Rn) (x : DrX) (y : MsgX) (j : Nat) (hrs : DsR P N w (.slice p n c) rs) (hn : n = rs.length) (hl : n ≤ 2000) (h8 : N ≤ 8) (hk1 : 1 ≤ y.m.y) (hk2 : y.m.y ≤ n) (hx : x.In P w) (hxr : x.rn N = rnAt rs y.m.y) (hj : j < N) :
  Calls Try.prog 20 #[.agg #[.int .i64 (N : Int), .slice p n c], x.v, y.m.v (.slice y.pl y.m.ls.length y.cl) (.slice y.pn y.m.ns.length y.cn), .int .i64 (j : Int)] w (DP w P N (voteC N rs y.m j)) := by
 have HRS := Lib.hid hrs.lt
 have HXI := Lib.hid hx.lt
 have HXR := Lib.hid hxr
 have HNN : Hid (N ≤ 8) := Lib.hid h8
 have HKK : Hid (n = rs.length ∧ n ≤ 2000) := Lib.hid ⟨hn, hl⟩
 have HYK : Hid (1 ≤ y.m.y ∧ y.m.y ≤ n) := Lib.hid ⟨hk1, hk2⟩
 have HJN : Hid (j < N) := Lib.hid hj
 clear hrs h8 hn hl hx hxr hk1 hk2 hj
 unfold DP
 obtain ⟨⟨RS, OU, ER⟩, hA⟩ : ∃ A, voteC N rs y.m j = A := ⟨_, rfl⟩
 rw [hA]
 have HA := Lib.hid hA
 clear hA
 dsimp only
 unfold Msg.v DrX.v
 have HB0 : Hid (Below w.heap.size w ((((w.alloc (.cells #[.int .i64 (N : Int), .slice p n c] 30)).alloc (.cells x.arr 76)).alloc (.cells #[.int .i64 y.m.k, .int .i64 y.m.s, .int .i64 y.m.n, .int .i64 y.m.b, .int .i64 y.m.c, .int .i64 y.m.r, .int .i64 y.m.y, .int .i64 y.m.a, .bool y.m.t, .slice y.pl y.m.ls.length y.cl, .slice y.pn y.m.ns.length y.cn] 36)).alloc (.cells #[.int .i64 0, .slice none 0 0] 30))) := Lib.hid (((((oneB w _).alloc (by simp <;> omega) _).alloc (by simp <;> omega) _).alloc (by simp <;> omega) _))
 have Hc0 : Hid (Blk ((((w.alloc (.cells #[.int .i64 (N : Int), .slice p n c] 30)).alloc (.cells x.arr 76)).alloc (.cells #[.int .i64 y.m.k, .int .i64 y.m.s, .int .i64 y.m.n, .int .i64 y.m.b, .int .i64 y.m.c, .int .i64 y.m.r, .int .i64 y.m.y, .int .i64 y.m.a, .bool y.m.t, .slice y.pl y.m.ls.length y.cl, .slice y.pn y.m.ns.length y.cn] 36)).alloc (.cells #[.int .i64 0, .slice none 0 0] 30)) w.heap.size #[.int .i64 (N : Int), .slice p n c] 30) := Lib.hid ((((Blk.new w #[.int .i64 (N : Int), .slice p n c] 30).alloc _).alloc _).alloc _)
 have Hx0 : Hid (Blk ((((w.alloc (.cells #[.int .i64 (N : Int), .slice p n c] 30)).alloc (.cells x.arr 76)).alloc (.cells #[.int .i64 y.m.k, .int .i64 y.m.s, .int .i64 y.m.n, .int .i64 y.m.b, .int .i64 y.m.c, .int .i64 y.m.r, .int .i64 y.m.y, .int .i64 y.m.a, .bool y.m.t, .slice y.pl y.m.ls.length y.cl, .slice y.pn y.m.ns.length y.cn] 36)).alloc (.cells #[.int .i64 0, .slice none 0 0] 30)) (w.heap.size + 1) x.arr 76) := Lib.hid (((Blk.new' (w.alloc (.cells #[.int .i64 (N : Int), .slice p n c] 30)) x.arr 76 (by simp)).alloc _).alloc _)
 have Hm0 : Hid (Blk ((((w.alloc (.cells #[.int .i64 (N : Int), .slice p n c] 30)).alloc (.cells x.arr 76)).alloc (.cells #[.int .i64 y.m.k, .int .i64 y.m.s, .int .i64 y.m.n, .int .i64 y.m.b, .int .i64 y.m.c, .int .i64 y.m.r, .int .i64 y.m.y, .int .i64 y.m.a, .bool y.m.t, .slice y.pl y.m.ls.length y.cl, .slice y.pn y.m.ns.length y.cn] 36)).alloc (.cells #[.int .i64 0, .slice none 0 0] 30)) (w.heap.size + 1 + 1) #[.int .i64 y.m.k, .int .i64 y.m.s, .int .i64 y.m.n, .int .i64 y.m.b, .int .i64 y.m.c, .int .i64 y.m.r, .int .i64 y.m.y, .int .i64 y.m.a, .bool y.m.t, .slice y.pl y.m.ls.length y.cl, .slice y.pn y.m.ns.length y.cn] 36) := Lib.hid ((Blk.new' ((w.alloc (.cells #[.int .i64 (N : Int), .slice p n c] 30)).alloc (.cells x.arr 76)) #[.int .i64 y.m.k, .int .i64 y.m.s, .int .i64 y.m.n, .int .i64 y.m.b, .int .i64 y.m.c, .int .i64 y.m.r, .int .i64 y.m.y, .int .i64 y.m.a, .bool y.m.t, .slice y.pl y.m.ls.length y.cl, .slice y.pn y.m.ns.length y.cn] 36 (by simp)).alloc _)
 have Hr0 : Hid (Blk ((((w.alloc (.cells #[.int .i64 (N : Int), .slice p n c] 30)).alloc (.cells x.arr 76)).alloc (.cells #[.int .i64 y.m.k, .int .i64 y.m.s, .int .i64 y.m.n, .int .i64 y.m.b, .int .i64 y.m.c, .int .i64 y.m.r, .int .i64 y.m.y, .int .i64 y.m.a, .bool y.m.t, .slice y.pl y.m.ls.length y.cl, .slice y.pn y.m.ns.length y.cn] 36)).alloc (.cells #[.int .i64 0, .slice none 0 0] 30)) (w.heap.size + 1 + 1 + 1) #[.int .i64 0, .slice none 0 0] 30) := Lib.hid (Blk.new' (((w.alloc (.cells #[.int .i64 (N : Int), .slice p n c] 30)).alloc (.cells x.arr 76)).alloc (.cells #[.int .i64 y.m.k, .int .i64 y.m.s, .int .i64 y.m.n, .int .i64 y.m.b, .int .i64 y.m.c, .int .i64 y.m.r, .int .i64 y.m.y, .int .i64 y.m.a, .bool y.m.t, .slice y.pl y.m.ls.length y.cl, .slice y.pn y.m.ns.length y.cn] 36)) #[.int .i64 0, .slice none 0 0] 30 (by simp))
 have HZ0 : Hid (w.heap.size ≤ ((((w.alloc (.cells #[.int .i64 (N : Int), .slice p n c] 30)).alloc (.cells x.arr 76)).alloc (.cells #[.int .i64 y.m.k, .int .i64 y.m.s, .int .i64 y.m.n, .int .i64 y.m.b, .int .i64 y.m.c, .int .i64 y.m.r, .int .i64 y.m.y, .int .i64 y.m.a, .bool y.m.t, .slice y.pl y.m.ls.length y.cl, .slice y.pn y.m.ns.length y.cn] 36)).alloc (.cells #[.int .i64 0, .slice none 0 0] 30)).heap.size) := Lib.hid HB0.out.size
 go_enter Try.func20, Try.ntmps20
 go_upto_region 1 with fail
 generalize ((((w.alloc (.cells #[.int .i64 (N : Int), .slice p n c] 30)).alloc (.cells x.arr 76)).alloc (.cells #[.int .i64 y.m.k, .int .i64 y.m.s, .int .i64 y.m.n, .int .i64 y.m.b, .int .i64 y.m.c, .int .i64 y.m.r, .int .i64 y.m.y, .int .i64 y.m.a, .bool y.m.t, .slice y.pl y.m.ls.length y.cl, .slice y.pn y.m.ns.length y.cn] 36)).alloc (.cells #[.int .i64 0, .slice none 0 0] 30)) = W at *
 have HWL : Hid (w.heap.size + 1 + 1 + 1 < W.heap.size) := Lib.hid Hr0.out.lt
 have x1 : W.cell? ⟨w.heap.size + 1, 1, none⟩ = some (.int .i64 x.st) := Hx0.out.cell 1
 by_cases hs2 : x.st = 2
 ·skip
  have hs3 : (x.st == 2) = true := by simpa using hs2
  have hs4 : (x.st != 2) = false := by simpa using hs2
  have HS2 : Hid ((rnAt rs y.m.y).st = 2) := Lib.hid (by rw [← HXR.out]; exact hs2)
  clear hs2
  go_upto_region 3 with fail
  clear x1 hs3 hs4
  have hj8 : j < 8 := by have := HJN.out; have := HNN.out; omega
  obtain ⟨tj, htj⟩ : ∃ t, x.t j = t := ⟨_, rfl⟩
  have xt : W.cell? ⟨w.heap.size + 1, 10 + j, none⟩ = some (.bool tj) := by rw [← htj]; exact (Hx0.out.cell (10 + j)).trans (x.arr_t j hj8)
  have HTJ : Hid (((rnAt rs y.m.y).hs.getD j hd0).t = tj) := Lib.hid (by rw [← HXR.out, DrX.hs_at HJN.out]; exact htj)
  clear htj
  cases tj
  ·skip
   go_upto_region 5 with fail
   clear xt
   have z9 : W.cell? ⟨w.heap.size + 1, 10 + j, none⟩ = some (.bool (x.t j)) := (Hx0.out.cell (10 + j)).trans (x.arr_t j hj8)
   have f9 := Hx0.out.free (10 + j)
   go_upto_region 6 with fail
   clear z9 f9 
   have hch := Lib.hid ((Chg.refl (w.heap.size + 1) W).set (10 + j) (.bool true))
   have Hx1 : Hid (Blk (W.setCell ⟨w.heap.size + 1, 10 + j, none⟩ (.bool true)) (w.heap.size + 1) (x.setT j).arr 76) := Lib.hid (by have h := Hx0.out.set (10 + j) (.bool true); rwa [x.arr_setT j (by have := HJN.out; have := HNN.out; omega)] at h)
   have HB1 := ksq HB0 hch (by show w.heap.size ≤ (w.heap.size + 1); omega)
   have HZ1 := kzq HZ0 hch.out.size
   have Hc1 := kcq Hc0 hch (by omega)
   have Hm1 := kcq Hm0 hch (by omega)
   have Hr1 := kcq Hr0 hch (by omega)
   clear hj8 hch Hc0 Hx0 Hm0 Hr0 HB0 HZ0
   generalize (W.setCell ⟨w.heap.size + 1, 10 + j, none⟩ (.bool true)) = W1 at *
   obtain ⟨ty, hty⟩ : ∃ t, y.m.t = t := ⟨_, rfl⟩
   have m8 : W1.cell? ⟨w.heap.size + 1 + 1, 8, none⟩ = some (.bool ty) := by rw [← hty]; exact Hm1.out.cell 8
   have HTY := Lib.hid hty
   clear hty
   have HVR : Hid ((x.setT j).rn N = (rnAt rs y.m.y).vote j) := Lib.hid (by rw [DrX.rn_setT HJN.out, HXR.out])
   cases ty
   ·skip
    go_upto_region 7 with fail
    clear m8
    have hA := HA.out
    rw [show voteC N rs y.m j = (rs.set (y.m.y - 1).toNat ((x.setT j).rn N |>.to 4), toAllL N (decM y.m.y ((x.setT j).rn N |>.to 4)), 0) from by unfold voteC; rw [if_neg (by rw [HS2.out]; decide), if_neg (by rw [HTJ.out]; decide), if_pos HTY.out, HVR.out]] at hA
    cases hA
    have HG := Lib.hid (dend_any W1 (fun b => P b ∧ b < w.heap.size) N y.m.y false p n c rs (x.setT j) (HRS.out.kept HB1.out) HKK.out.1 HKK.out.2 HYK.out.1 HYK.out.2 ((HXI.out.kept HB1.out).setT j) HNN.out)
    have HWC : Hid (w.heap.size ≤ W1.heap.size ∧ w.heap.size + 1 + 1 + 1 < W1.heap.size) := Lib.hid ⟨HZ1.out, Hr1.out.lt⟩
    unfold DrX.v at HG
    have a0 : W1.cell? ⟨w.heap.size, 0, none⟩ = some (.int .i64 (N : Int)) := Hc1.out.cell 0
    have a1 : W1.cell? ⟨w.heap.size, 1, none⟩ = some (.slice p n c) := Hc1.out.cell 1
    have m6 : W1.cell? ⟨(w.heap.size + 1 + 1), 6, none⟩ = some (.int .i64 y.m.y) := Hm1.out.cell 6
    go_wp2_with (with_reducible refine stop_loadT 76 (.tmp 5) rfl ?_)
    refine wpList_loadD rfl (.tmp 5) rfl (w.heap.size + 1) 0 rfl (x.setT j) (dcell Hx1.out) ?_
    go_wp2_with fail
    clear a0 a1 m6 
    refine HG.out.mono ?_
    rintro y9 w3 ⟨p3, n3, c3, p5, n5, c5, rfl, hn3, hn5, hq, hs, hb⟩
    clear HG
    have HQ := Lib.hid hq.lt
    have HSD := Lib.hid hs.ltB
    have HN35 := Lib.hid (And.intro hn3 hn5)
    clear hq hs hn3 hn5
    have Hc2 := kbq Hc1 hb
    have Hx2 := kbq Hx1 hb
    have Hm2 := kbq Hm1 hb
    have Hr2 := kbq Hr1 hb
    have HB2 := ktq HB1 hb
    have HZ2 := kzq HZ1 hb.size
    clear Hc1 Hx1 Hm1 Hr1 HB1 HZ1
    clear hb
    go_wp2_with (with_reducible refine stop_storeT 30 (.tmp 8) (.tmp 32) rfl ?_)
    have HTH : Hid (w3.there (w.heap.size + 1 + 1 + 1) 0 2) := Hr2.out.thereAt
    have hch : Hid (Chg (w.heap.size + 1 + 1 + 1) w3 (w3.setCells (w.heap.size + 1 + 1 + 1) 0 (#[.int .i64 (N : Int), .slice p3 n3 c3] : Array Value).toList)) := Lib.hid (chg_putL _ _ _ _ _ (Chg.refl _ w3))
    have Hr3 : Hid (Blk (w3.setCells (w.heap.size + 1 + 1 + 1) 0 (#[.int .i64 (N : Int), .slice p3 n3 c3] : Array Value).toList) (w.heap.size + 1 + 1 + 1) #[.int .i64 (N : Int), .slice p3 n3 c3] 30) := Lib.hid (blk_put_all Hr2.out _ rfl)
    have HB3 : Hid (Below w.heap.size w (w3.setCells (w.heap.size + 1 + 1 + 1) 0 (#[.int .i64 (N : Int), .slice p3 n3 c3] : Array Value).toList)) := Lib.hid (below_put (by omega) _ _ _ _ HB2.out)
    have HZ3 := kzq HZ2 hch.out.size
    have Hc3 := kcq Hc2 hch (by omega)
    have Hx3 := kcq Hx2 hch (by omega)
    have Hm3 := kcq Hm2 hch (by omega)
    have HSD2 := Lib.hid (HSD.out.chg hch.out (by intro h; (try dsimp only at h); have h1 := HWC.out; rcases h.1 with h3 | h3; (have := h3.2; omega); omega))
    have HQ4 := Lib.hid (HQ.out.chg hch.out (by intro h; (try dsimp only at h); have h1 := HWC.out; rcases h.1 with h3 | h3; (have := h3.2; omega); omega))
    clear HSD HQ
    clear hch Hc2 Hx2 Hm2 Hr2 HB2 HZ2
    refine wpList_store_mid rfl 30 (.tmp 8) (.tmp 32) rfl (w.heap.size + 1 + 1 + 1) 0 #[.int .i64 (N : Int), .slice p3 n3 c3] rfl rfl HTH.out (infoDC rfl) (all_oneCell_toArray (by intro u hu; simp at hu; rcases hu with rfl | rfl <;> rfl)) ?_
    generalize (w3.setCells (w.heap.size + 1 + 1 + 1) 0 (#[.int .i64 (N : Int), .slice p3 n3 c3] : Array Value).toList) = W4 at *
    clear HTH
    go_wp2_with fail
    have hfr := Hr3.out
    refine bodyPost_ret (v := .tuple #[.agg #[.int .i64 (N : Int), .slice p3 n3 c3], .slice p5 n5 c5, .int .i64 0]) (by simp [results, Try.results20, go_sem, hfr.cell 0, hfr.cell 1]) rfl ⟨p3, n3, c3, p5, n5, c5, rfl, HN35.out.1, HN35.out.2, (by exact HQ4.out.imp (Q := fun b => P b ∨ w.heap.size ≤ b) (fun b h => by have h1 := HWC.out; rcases h.1 with h2 | h2; exact .inl h2.1; exact .inr (by omega))), (by exact HSD2.out.imp (R := fun b => P b ∨ w.heap.size ≤ b) (fun b h => by have h1 := HWC.out; rcases h.1 with h2 | h2; exact .inl h2.1; exact .inr (by omega))), HB3.out⟩
   ·skip
    go_upto_region 8 with fail
    clear m8
    have HREL : Hid (Below W1.heap.size W1 W1 ∧ ∀ i, i < 0 → (x.setT j).t i = true) := Lib.hid ⟨Below.refl _ _, fun _ h => absurd h (Nat.not_lt_zero _)⟩
    go_wp2_with fail
    go_loopw [11] (fun i wr => ∃ k : Nat, k ≤ N ∧ i = .int .i64 k ∧ Hid (Below W1.heap.size W1 wr ∧ ∀ i, i < k → (x.setT j).t i = true)) (fun i _ => N - (intOf i).toNat)
    case atStart => exact ⟨0, by omega, rfl, HREL⟩
    case round =>
     clear HREL
     obtain ⟨k, hk, rfl, HK⟩ := hrel
     have hk9 : k + 1 ≤ 9 := by have := HNN.out; omega
     have hbk := HK.out.1
     have Hc2 := kbq Hc1 hbk
     have Hx2 := kbq Hx1 hbk
     have Hm2 := kbq Hm1 hbk
     have Hr2 := kbq Hr1 hbk
     have HB2 := ktq HB1 hbk
     have HZ2 := kzq HZ1 hbk.size
     clear Hc1 Hx1 Hm1 Hr1 HB1 HZ1
     clear hbk
     by_cases hlt : k < N
     ·skip
      have hltI : (k : Int) < (N : Int) := by omega
      have HLT : Hid (k < N) := Lib.hid hlt
      have hk8 : k < 8 := by have := HNN.out; omega
      have a0 : wr.cell? ⟨w.heap.size, 0, none⟩ = some (.int .i64 (N : Int)) := Hc2.out.cell 0
      obtain ⟨tk, htk⟩ : ∃ t, (x.setT j).t k = t := ⟨_, rfl⟩
      have xt : wr.cell? ⟨w.heap.size + 1, 10 + k, none⟩ = some (.bool tk) := by rw [← htk]; exact (Hx2.out.cell (10 + k)).trans ((x.setT j).arr_t k hk8)
      have HTK := Lib.hid htk
      clear htk hk hlt
      cases tk
      ·skip
       go_upto_region 12 with fail
       clear hltI a0 xt hk8
       have hA := HA.out
       rw [show voteC N rs y.m j = (rs.set (y.m.y - 1).toNat ((x.setT j).rn N), [], 0) from by unfold voteC; rw [if_neg (by rw [HS2.out]; decide), if_neg (by rw [HTJ.out]; decide), if_neg (by rw [HTY.out]; decide), ← HVR.out, if_pos (any_notT.2 ⟨k, HLT.out, HTK.out⟩)]] at hA
       cases hA
       have HG := Lib.hid (dwith_any wr (fun b => P b ∧ b < w.heap.size) N y.m.y p n c rs (x.setT j) (HRS.out.kept HB2.out) HKK.out.1 HKK.out.2 HYK.out.1 HYK.out.2 ((HXI.out.kept HB2.out).setT j))
       have HWC : Hid (w.heap.size ≤ wr.heap.size ∧ w.heap.size + 1 + 1 + 1 < wr.heap.size) := Lib.hid ⟨HZ2.out, Hr2.out.lt⟩
       unfold DrX.v at HG
       have a0 : wr.cell? ⟨w.heap.size, 0, none⟩ = some (.int .i64 (N : Int)) := Hc2.out.cell 0
       have a1 : wr.cell? ⟨w.heap.size, 1, none⟩ = some (.slice p n c) := Hc2.out.cell 1
       have m6 : wr.cell? ⟨(w.heap.size + 1 + 1), 6, none⟩ = some (.int .i64 y.m.y) := Hm2.out.cell 6
       go_wp2_with (with_reducible refine stop_loadT 76 (.tmp 5) rfl ?_)
       refine wpList_loadD rfl (.tmp 5) rfl (w.heap.size + 1) 0 rfl (x.setT j) (dcell Hx2.out) ?_
       go_wp2_with fail
       clear a0 a1 m6 
       refine HG.out.mono ?_
       rintro y9 w3 ⟨p3, c3, rfl, hq, hb⟩
       clear HG
       have HQ := Lib.hid hq.lt
       clear hq
       have Hc3 := kbq Hc2 hb
       have Hx3 := kbq Hx2 hb
       have Hm3 := kbq Hm2 hb
       have Hr3 := kbq Hr2 hb
       have HB3 := ktq HB2 hb
       have HZ3 := kzq HZ2 hb.size
       clear Hc2 Hx2 Hm2 Hr2 HB2 HZ2
       clear hb
       go_wp2_with (with_reducible refine stop_storeT 30 (.tmp 8) (.tmp 50) rfl ?_)
       have HTH : Hid (w3.there (w.heap.size + 1 + 1 + 1) 0 2) := Hr3.out.thereAt
       have hch : Hid (Chg (w.heap.size + 1 + 1 + 1) w3 (w3.setCells (w.heap.size + 1 + 1 + 1) 0 (#[.int .i64 (N : Int), .slice p3 n c3] : Array Value).toList)) := Lib.hid (chg_putL _ _ _ _ _ (Chg.refl _ w3))
       have Hr4 : Hid (Blk (w3.setCells (w.heap.size + 1 + 1 + 1) 0 (#[.int .i64 (N : Int), .slice p3 n c3] : Array Value).toList) (w.heap.size + 1 + 1 + 1) #[.int .i64 (N : Int), .slice p3 n c3] 30) := Lib.hid (blk_put_all Hr3.out _ rfl)
       have HB4 : Hid (Below w.heap.size w (w3.setCells (w.heap.size + 1 + 1 + 1) 0 (#[.int .i64 (N : Int), .slice p3 n c3] : Array Value).toList)) := Lib.hid (below_put (by omega) _ _ _ _ HB3.out)
       have HZ4 := kzq HZ3 hch.out.size
       have Hc4 := kcq Hc3 hch (by omega)
       have Hx4 := kcq Hx3 hch (by omega)
       have Hm4 := kcq Hm3 hch (by omega)
       have HQ4 := Lib.hid (HQ.out.chg hch.out (by intro h; (try dsimp only at h); have h1 := HWC.out; rcases h.1 with h3 | h3; (have := h3.2; omega); omega))
       clear HQ
       clear hch Hc3 Hx3 Hm3 Hr3 HB3 HZ3
       refine wpList_store_mid rfl 30 (.tmp 8) (.tmp 50) rfl (w.heap.size + 1 + 1 + 1) 0 #[.int .i64 (N : Int), .slice p3 n c3] rfl rfl HTH.out (infoDC rfl) (all_oneCell_toArray (by intro u hu; simp at hu; rcases hu with rfl | rfl <;> rfl)) ?_
       generalize (w3.setCells (w.heap.size + 1 + 1 + 1) 0 (#[.int .i64 (N : Int), .slice p3 n c3] : Array Value).toList) = W4 at *
       clear HTH
       go_wp2_with fail
       have hfr := Hr4.out
       refine bodyPost_ret (v := .tuple #[.agg #[.int .i64 (N : Int), .slice p3 n c3], .slice none 0 0, .int .i64 0]) (by simp [results, Try.results20, go_sem, hfr.cell 0, hfr.cell 1]) rfl ⟨p3, n, c3, none, 0, 0, rfl, (by rw [List.length_set]; exact HKK.out.1), rfl, (by exact HQ4.out.imp (Q := fun b => P b ∨ w.heap.size ≤ b) (fun b h => by have h1 := HWC.out; rcases h.1 with h2 | h2; exact .inl h2.1; exact .inr (by omega))), SdR.nil_ _ _, HB4.out⟩
      ·skip
       have HNX : Hid (Below W1.heap.size W1 wr ∧ ∀ i, i < (k + 1) → (x.setT j).t i = true) := Lib.hid ⟨HK.out.1, fun i hi => by
        by_cases e : i = k
        ·rw [e]; exact HTK.out
        ·exact HK.out.2 i (by omega)⟩
       clear Hc2 Hx2 Hm2 Hr2 HB2 HZ2 HK HTK
       go_upto_region 10 with fail
       clear hltI a0 xt hk8
       go_wp2_with fail
       go_roundw
       case rel => exact ⟨k + 1, by have := HLT.out; omega, by go_num, HNX⟩
       case measure => have := HLT.out; simp [intOf]; omega
     ·skip
      have hltI : ¬ (k : Int) < (N : Int) := by omega
      have HAL : Hid (¬ (((x.setT j).rn N).hs.any (fun h => !h.t) = true)) := Lib.hid (fun h => by
       obtain ⟨i, hi, h1⟩ := any_notT.1 h
       rw [HK.out.2 i (by omega)] at h1
       cases h1)
      have a0 : wr.cell? ⟨w.heap.size, 0, none⟩ = some (.int .i64 (N : Int)) := Hc2.out.cell 0
      clear HK hk hlt hk9
      go_upto_region 13 with fail
      clear a0 hltI
      have hA := HA.out
      rw [show voteC N rs y.m j = (rs.set (y.m.y - 1).toNat ((x.setT j).rn N |>.to 3), toAllL N (decM y.m.y ((x.setT j).rn N |>.to 3)), 0) from by unfold voteC; rw [if_neg (by rw [HS2.out]; decide), if_neg (by rw [HTJ.out]; decide), if_neg (by rw [HTY.out]; decide), ← HVR.out, if_neg HAL.out]] at hA
      cases hA
      have HG := Lib.hid (dend_any wr (fun b => P b ∧ b < w.heap.size) N y.m.y true p n c rs (x.setT j) (HRS.out.kept HB2.out) HKK.out.1 HKK.out.2 HYK.out.1 HYK.out.2 ((HXI.out.kept HB2.out).setT j) HNN.out)
      have HWC : Hid (w.heap.size ≤ wr.heap.size ∧ w.heap.size + 1 + 1 + 1 < wr.heap.size) := Lib.hid ⟨HZ2.out, Hr2.out.lt⟩
      unfold DrX.v at HG
      have a0 : wr.cell? ⟨w.heap.size, 0, none⟩ = some (.int .i64 (N : Int)) := Hc2.out.cell 0
      have a1 : wr.cell? ⟨w.heap.size, 1, none⟩ = some (.slice p n c) := Hc2.out.cell 1
      have m6 : wr.cell? ⟨(w.heap.size + 1 + 1), 6, none⟩ = some (.int .i64 y.m.y) := Hm2.out.cell 6
      go_wp2_with (with_reducible refine stop_loadT 76 (.tmp 5) rfl ?_)
      refine wpList_loadD rfl (.tmp 5) rfl (w.heap.size + 1) 0 rfl (x.setT j) (dcell Hx2.out) ?_
      go_wp2_with fail
      clear a0 a1 m6 
      refine HG.out.mono ?_
      rintro y9 w3 ⟨p3, n3, c3, p5, n5, c5, rfl, hn3, hn5, hq, hs, hb⟩
      clear HG
      have HQ := Lib.hid hq.lt
      have HSD := Lib.hid hs.ltB
      have HN35 := Lib.hid (And.intro hn3 hn5)
      clear hq hs hn3 hn5
      have Hc3 := kbq Hc2 hb
      have Hx3 := kbq Hx2 hb
      have Hm3 := kbq Hm2 hb
      have Hr3 := kbq Hr2 hb
      have HB3 := ktq HB2 hb
      have HZ3 := kzq HZ2 hb.size
      clear Hc2 Hx2 Hm2 Hr2 HB2 HZ2
      clear hb
      go_wp2_with (with_reducible refine stop_storeT 30 (.tmp 8) (.tmp 56) rfl ?_)
      have HTH : Hid (w3.there (w.heap.size + 1 + 1 + 1) 0 2) := Hr3.out.thereAt
      have hch : Hid (Chg (w.heap.size + 1 + 1 + 1) w3 (w3.setCells (w.heap.size + 1 + 1 + 1) 0 (#[.int .i64 (N : Int), .slice p3 n3 c3] : Array Value).toList)) := Lib.hid (chg_putL _ _ _ _ _ (Chg.refl _ w3))
      have Hr4 : Hid (Blk (w3.setCells (w.heap.size + 1 + 1 + 1) 0 (#[.int .i64 (N : Int), .slice p3 n3 c3] : Array Value).toList) (w.heap.size + 1 + 1 + 1) #[.int .i64 (N : Int), .slice p3 n3 c3] 30) := Lib.hid (blk_put_all Hr3.out _ rfl)
      have HB4 : Hid (Below w.heap.size w (w3.setCells (w.heap.size + 1 + 1 + 1) 0 (#[.int .i64 (N : Int), .slice p3 n3 c3] : Array Value).toList)) := Lib.hid (below_put (by omega) _ _ _ _ HB3.out)
      have HZ4 := kzq HZ3 hch.out.size
      have Hc4 := kcq Hc3 hch (by omega)
      have Hx4 := kcq Hx3 hch (by omega)
      have Hm4 := kcq Hm3 hch (by omega)
      have HSD2 := Lib.hid (HSD.out.chg hch.out (by intro h; (try dsimp only at h); have h1 := HWC.out; rcases h.1 with h3 | h3; (have := h3.2; omega); omega))
      have HQ4 := Lib.hid (HQ.out.chg hch.out (by intro h; (try dsimp only at h); have h1 := HWC.out; rcases h.1 with h3 | h3; (have := h3.2; omega); omega))
      clear HSD HQ
      clear hch Hc3 Hx3 Hm3 Hr3 HB3 HZ3
      refine wpList_store_mid rfl 30 (.tmp 8) (.tmp 56) rfl (w.heap.size + 1 + 1 + 1) 0 #[.int .i64 (N : Int), .slice p3 n3 c3] rfl rfl HTH.out (infoDC rfl) (all_oneCell_toArray (by intro u hu; simp at hu; rcases hu with rfl | rfl <;> rfl)) ?_
      generalize (w3.setCells (w.heap.size + 1 + 1 + 1) 0 (#[.int .i64 (N : Int), .slice p3 n3 c3] : Array Value).toList) = W4 at *
      clear HTH
      go_wp2_with fail
      have hfr := Hr4.out
      refine bodyPost_ret (v := .tuple #[.agg #[.int .i64 (N : Int), .slice p3 n3 c3], .slice p5 n5 c5, .int .i64 0]) (by simp [results, Try.results20, go_sem, hfr.cell 0, hfr.cell 1]) rfl ⟨p3, n3, c3, p5, n5, c5, rfl, HN35.out.1, HN35.out.2, (by exact HQ4.out.imp (Q := fun b => P b ∨ w.heap.size ≤ b) (fun b h => by have h1 := HWC.out; rcases h.1 with h2 | h2; exact .inl h2.1; exact .inr (by omega))), (by exact HSD2.out.imp (R := fun b => P b ∨ w.heap.size ≤ b) (fun b h => by have h1 := HWC.out; rcases h.1 with h2 | h2; exact .inl h2.1; exact .inr (by omega))), HB4.out⟩
  ·skip
   go_upto_region 4 with fail
   clear xt hj8
   have hA := HA.out
   rw [show voteC N rs y.m j = (rs, [], 5) from by unfold voteC; rw [if_neg (by rw [HS2.out]; decide), if_pos HTJ.out]] at hA
   cases hA
   have a0 : W.cell? ⟨w.heap.size, 0, none⟩ = some (.int .i64 (N : Int)) := Hc0.out.cell 0
   have a1 : W.cell? ⟨w.heap.size, 1, none⟩ = some (.slice p n c) := Hc0.out.cell 1
   go_wp2_with (with_reducible refine stop_storeT 30 (.tmp 8) (.tmp 20) rfl ?_)
   clear a0 a1
   have HTH : Hid (W.there (w.heap.size + 1 + 1 + 1) 0 2) := Hr0.out.thereAt
   have hch : Hid (Chg (w.heap.size + 1 + 1 + 1) W (W.setCells (w.heap.size + 1 + 1 + 1) 0 (#[.int .i64 (N : Int), .slice p n c] : Array Value).toList)) := Lib.hid (chg_putL _ _ _ _ _ (Chg.refl _ W))
   have Hr1 : Hid (Blk (W.setCells (w.heap.size + 1 + 1 + 1) 0 (#[.int .i64 (N : Int), .slice p n c] : Array Value).toList) (w.heap.size + 1 + 1 + 1) #[.int .i64 (N : Int), .slice p n c] 30) := Lib.hid (blk_put_all Hr0.out _ rfl)
   have HB1 : Hid (Below w.heap.size w (W.setCells (w.heap.size + 1 + 1 + 1) 0 (#[.int .i64 (N : Int), .slice p n c] : Array Value).toList)) := Lib.hid (below_put (by omega) _ _ _ _ HB0.out)
   have HZ1 := kzq HZ0 hch.out.size
   have Hc1 := kcq Hc0 hch (by omega)
   have Hx1 := kcq Hx0 hch (by omega)
   have Hm1 := kcq Hm0 hch (by omega)
   clear hch Hc0 Hx0 Hm0 Hr0 HB0 HZ0
   refine wpList_store_mid rfl 30 (.tmp 8) (.tmp 20) rfl (w.heap.size + 1 + 1 + 1) 0 #[.int .i64 (N : Int), .slice p n c] rfl rfl HTH.out (infoDC rfl) (all_oneCell_toArray (by intro u hu; simp at hu; rcases hu with rfl | rfl <;> rfl)) ?_
   generalize (W.setCells (w.heap.size + 1 + 1 + 1) 0 (#[.int .i64 (N : Int), .slice p n c] : Array Value).toList) = W2 at *
   clear HTH
   go_wp2_with fail
   have hfr := Hr1.out
   refine bodyPost_ret (v := .tuple #[.agg #[.int .i64 (N : Int), .slice p n c], .slice none 0 0, .int .i64 5]) (by simp [results, Try.results20, go_sem, hfr.cell 0, hfr.cell 1]) rfl ⟨_, _, _, none, 0, 0, rfl, HKK.out.1, rfl, ((HRS.out.kept HB1.out).imp (fun b h => .inl h.1)), SdR.nil_ _ _, HB1.out⟩
 ·skip
  have hs3 : (x.st == 2) = false := by simpa using hs2
  have hs4 : (x.st != 2) = true := by simpa using hs2
  have HS2 : Hid ((rnAt rs y.m.y).st ≠ 2) := Lib.hid (by rw [← HXR.out]; exact hs2)
  clear hs2
  go_upto_region 2 with fail
  clear x1 hs3 hs4
  have hA := HA.out
  rw [show voteC N rs y.m j = (rs, [], 90) from by unfold voteC; rw [if_pos (by simpa using HS2.out)]] at hA
  cases hA
  have a0 : W.cell? ⟨w.heap.size, 0, none⟩ = some (.int .i64 (N : Int)) := Hc0.out.cell 0
  have a1 : W.cell? ⟨w.heap.size, 1, none⟩ = some (.slice p n c) := Hc0.out.cell 1
  go_wp2_with (with_reducible refine stop_storeT 30 (.tmp 8) (.tmp 15) rfl ?_)
  clear a0 a1
  have HTH : Hid (W.there (w.heap.size + 1 + 1 + 1) 0 2) := Hr0.out.thereAt
  have hch : Hid (Chg (w.heap.size + 1 + 1 + 1) W (W.setCells (w.heap.size + 1 + 1 + 1) 0 (#[.int .i64 (N : Int), .slice p n c] : Array Value).toList)) := Lib.hid (chg_putL _ _ _ _ _ (Chg.refl _ W))
  have Hr1 : Hid (Blk (W.setCells (w.heap.size + 1 + 1 + 1) 0 (#[.int .i64 (N : Int), .slice p n c] : Array Value).toList) (w.heap.size + 1 + 1 + 1) #[.int .i64 (N : Int), .slice p n c] 30) := Lib.hid (blk_put_all Hr0.out _ rfl)
  have HB1 : Hid (Below w.heap.size w (W.setCells (w.heap.size + 1 + 1 + 1) 0 (#[.int .i64 (N : Int), .slice p n c] : Array Value).toList)) := Lib.hid (below_put (by omega) _ _ _ _ HB0.out)
  have HZ1 := kzq HZ0 hch.out.size
  have Hc1 := kcq Hc0 hch (by omega)
  have Hx1 := kcq Hx0 hch (by omega)
  have Hm1 := kcq Hm0 hch (by omega)
  clear hch Hc0 Hx0 Hm0 Hr0 HB0 HZ0
  refine wpList_store_mid rfl 30 (.tmp 8) (.tmp 15) rfl (w.heap.size + 1 + 1 + 1) 0 #[.int .i64 (N : Int), .slice p n c] rfl rfl HTH.out (infoDC rfl) (all_oneCell_toArray (by intro u hu; simp at hu; rcases hu with rfl | rfl <;> rfl)) ?_
  generalize (W.setCells (w.heap.size + 1 + 1 + 1) 0 (#[.int .i64 (N : Int), .slice p n c] : Array Value).toList) = W2 at *
  clear HTH
  go_wp2_with fail
  have hfr := Hr1.out
  refine bodyPost_ret (v := .tuple #[.agg #[.int .i64 (N : Int), .slice p n c], .slice none 0 0, .int .i64 90]) (by simp [results, Try.results20, go_sem, hfr.cell 0, hfr.cell 1]) rfl ⟨_, _, _, none, 0, 0, rfl, HKK.out.1, rfl, ((HRS.out.kept HB1.out).imp (fun b h => .inl h.1)), SdR.nil_ _ _, HB1.out⟩
end Go.Proofs.Yteogdfpkcoodlaa
namespace Go.Proofs.Yteogdfpkcoodlaa

/-- The decimal digits of a number, the least one first, no nought at the end. -/
def digs (n : Nat) : List Int := if n = 0 then [] else ((n % 10 : Nat) : Int) :: digs (n / 10)
termination_by n
decreasing_by omega
theorem digs_zero : digs 0 = [] := by rw [digs]; rfl
theorem digs_pos {n : Nat} (h : n ≠ 0) : digs n = ((n % 10 : Nat) : Int) :: digs (n / 10) := by rw [digs, if_neg h]

/-- The number of digits. -/
def val : List Int → Int
 | [] => 0
 | d :: t => d + 10 * val t
/-- Each is a digit. -/
def IsDigs (l : List Int) : Prop := ∀ d ∈ l, 0 ≤ d ∧ d ≤ 9
/-- Digits, and no nought at the end. -/
def Norm (l : List Int) : Prop := IsDigs l ∧ l.getLast? ≠ some 0

theorem IsDigs.cons {d : Int} {t : List Int} (h : IsDigs (d :: t)) : (0 ≤ d ∧ d ≤ 9) ∧ IsDigs t := ⟨h d (by simp), fun x hx => h x (by simp [hx])⟩
theorem val_nonneg {l : List Int} (h : IsDigs l) : 0 ≤ val l := by
 induction l with
 | nil => simp [val]
 | cons d t ih => obtain ⟨h1, h2⟩ := h.cons; have := ih h2; simp only [val]; omega
theorem val_digs (n : Nat) : val (digs n) = n := by
 induction n using Nat.strongRecOn with
 | _ n ih =>
  by_cases h : n = 0
  ·subst h; simp [digs_zero, val]
  ·rw [digs_pos h, val, ih (n / 10) (by omega)]; omega
theorem digs_isDigs (n : Nat) : IsDigs (digs n) := by
 induction n using Nat.strongRecOn with
 | _ n ih =>
  by_cases h : n = 0
  ·subst h; intro d hd; simp [digs_zero] at hd
  ·rw [digs_pos h]
   intro d hd
   rcases List.mem_cons.1 hd with rfl | hd
   ·omega
   ·exact ih (n / 10) (by omega) d hd
theorem digs_nil {n : Nat} : digs n = [] ↔ n = 0 := by
 constructor
 ·intro h
  by_cases e : n = 0
  ·exact e
  ·rw [digs_pos e] at h; cases h
 ·rintro rfl; exact digs_zero
theorem Norm.tail {d : Int} {t : List Int} (h : Norm (d :: t)) : Norm t := by
 refine ⟨h.1.cons.2, fun e => ?_⟩
 have h2 := h.2
 cases t with
 | nil => simp at e
 | cons x s => rw [List.getLast?_cons_cons] at h2; exact h2 e
theorem digs_norm (n : Nat) : Norm (digs n) := by
 refine ⟨digs_isDigs n, ?_⟩
 induction n using Nat.strongRecOn with
 | _ n ih =>
  by_cases h : n = 0
  ·subst h; simp [digs_zero]
  ·rw [digs_pos h]
   by_cases h10 : n / 10 = 0
   ·rw [h10, digs_zero]; simp; omega
   ·have := ih (n / 10) (by omega)
    rw [digs_pos h10] at this ⊢
    rw [List.getLast?_cons_cons]; exact this
/-- There is one way alone to write a number. -/
theorem norm_digs {l : List Int} (h : Norm l) : l = digs (val l).toNat := by
 induction l with
 | nil => simp [val, digs_zero]
 | cons d t ih =>
  have it := ih h.tail
  obtain ⟨⟨h1, h2⟩, h3⟩ := h.1.cons
  have hv := val_nonneg h3
  have hne : (val (d :: t)).toNat ≠ 0 := by
   simp only [val]
   intro e
   have h0 : val t = 0 := by omega
   have hd : d = 0 := by omega
   rw [h0] at it
   simp [digs_zero] at it
   subst it
   exact h.2 (by simp [hd])
  rw [digs_pos hne]
  simp only [val]
  rw [show ((((d + 10 * val t).toNat % 10 : Nat)) : Int) = d by omega, show (d + 10 * val t).toNat / 10 = (val t).toNat by omega, ← it]

theorem val_append (a b : List Int) : val (a ++ b) = val a + 10 ^ a.length * val b := by
 induction a with
 | nil => simp [val]
 | cons d t ih =>
  rw [List.cons_append, val, ih, val, List.length_cons, Int.pow_succ, Int.mul_add, Int.mul_comm (10 ^ t.length) 10, ← Int.mul_assoc, Int.add_assoc]
theorem val_lt {l : List Int} (h : IsDigs l) : val l < 10 ^ l.length := by
 induction l with
 | nil => simp [val]
 | cons d t ih =>
  obtain ⟨h1, h2⟩ := h.cons
  have := ih h2
  rw [val, List.length_cons, Int.pow_succ]; omega
theorem digs_length (n k : Nat) (h : n < 10 ^ k) : (digs n).length ≤ k := by
 induction k generalizing n with
 | zero =>
  have : n = 0 := by simpa using h
  subst this; simp [digs_zero]
 | succ k ih =>
  by_cases e : n = 0
  ·subst e; simp [digs_zero]
  ·rw [digs_pos e, List.length_cons]
   have := ih (n / 10) (by rw [Nat.pow_succ] at h; omega)
   omega

/-- Without noughts at the end. -/
def trimL (l : List Int) : List Int := (l.reverse.dropWhile (· == 0)).reverse
theorem trimL_snoc_zero (l : List Int) : trimL (l ++ [0]) = trimL l := by simp [trimL]
theorem trimL_snoc {d : Int} (l : List Int) (h : d ≠ 0) : trimL (l ++ [d]) = l ++ [d] := by simp [trimL, h]
theorem trimL_nil : trimL [] = [] := rfl
theorem snoc_cases (l : List Int) : l = [] ∨ ∃ t d, l = t ++ [d] := by
 rcases l.eq_nil_or_concat with h | ⟨t, d, h⟩
 ·exact .inl h
 ·exact .inr ⟨t, d, by simpa using h⟩
theorem trimL_spec (n : Nat) : ∀ l : List Int, l.length = n → IsDigs l → Norm (trimL l) ∧ val (trimL l) = val l ∧ (trimL l).length ≤ n := by
 induction n with
 | zero => intro l hl _; rw [List.length_eq_zero_iff] at hl; subst hl; simp [trimL_nil, Norm, IsDigs]
 | succ n ih =>
  intro l hl hd
  rcases snoc_cases l with rfl | ⟨t, d, rfl⟩
  ·simp at hl
  ·have ht : IsDigs t := fun x hx => hd x (by simp [hx])
   by_cases h0 : d = 0
   ·subst h0
    rw [trimL_snoc_zero]
    obtain ⟨a, b, c⟩ := ih t (by simpa using hl) ht
    exact ⟨a, by rw [b, val_append]; simp [val], by omega⟩
   ·rw [trimL_snoc t h0]
    exact ⟨⟨hd, by simpa using h0⟩, rfl, by omega⟩
end Go.Proofs.Yteogdfpkcoodlaa
namespace Go.Proofs.Yteogdfpkcoodlaa

def plusC : List Int → List Int → Int → List Int
 | [], [], c => if c = 0 then [] else [c]
 | x :: a, [], c => ((c + x) % 10) :: plusC a [] ((c + x) / 10)
 | [], y :: b, c => ((c + y) % 10) :: plusC [] b ((c + y) / 10)
 | x :: a, y :: b, c => ((c + x + y) % 10) :: plusC a b ((c + x + y) / 10)

theorem plusC_spec : ∀ (a b : List Int) (c : Int), IsDigs a → IsDigs b → 0 ≤ c → c ≤ 1 →
  IsDigs (plusC a b c) ∧ val (plusC a b c) = val a + val b + c ∧ (plusC a b c).length ≤ a.length + b.length + 1
 | [], [], c, _, _, h0, h1 => by
  unfold plusC
  split
  ·simp [IsDigs, val]; omega
  ·simp [IsDigs, val]; omega
 | x :: a, [], c, ha, hb, h0, h1 => by
  obtain ⟨hx, ha'⟩ := ha.cons
  obtain ⟨r1, r2, r3⟩ := plusC_spec a [] ((c + x) / 10) ha' hb (by omega) (by omega)
  unfold plusC
  refine ⟨fun d hd => ?_, ?_, ?_⟩
  ·rcases List.mem_cons.1 hd with rfl | hd
   ·omega
   ·exact r1 d hd
  ·simp only [val] at r2 ⊢; omega
  ·simp only [List.length_cons, List.length_nil] at r3 ⊢; omega
 | [], y :: b, c, ha, hb, h0, h1 => by
  obtain ⟨hy, hb'⟩ := hb.cons
  obtain ⟨r1, r2, r3⟩ := plusC_spec [] b ((c + y) / 10) ha hb' (by omega) (by omega)
  unfold plusC
  refine ⟨fun d hd => ?_, ?_, ?_⟩
  ·rcases List.mem_cons.1 hd with rfl | hd
   ·omega
   ·exact r1 d hd
  ·simp only [val] at r2 ⊢; omega
  ·simp only [List.length_cons, List.length_nil] at r3 ⊢; omega
 | x :: a, y :: b, c, ha, hb, h0, h1 => by
  obtain ⟨hx, ha'⟩ := ha.cons
  obtain ⟨hy, hb'⟩ := hb.cons
  obtain ⟨r1, r2, r3⟩ := plusC_spec a b ((c + x + y) / 10) ha' hb' (by omega) (by omega)
  unfold plusC
  refine ⟨fun d hd => ?_, ?_, ?_⟩
  ·rcases List.mem_cons.1 hd with rfl | hd
   ·omega
   ·exact r1 d hd
  ·simp only [val] at r2 ⊢; omega
  ·simp only [List.length_cons] at r3 ⊢; omega

theorem drop_cases (a : List Int) (i : Nat) : (i < a.length ∧ a.drop i = a.getD i 0 :: a.drop (i + 1)) ∨ (a.length ≤ i ∧ a.drop i = [] ∧ a.drop (i + 1) = [] ∧ a.getD i 0 = 0) := by
 by_cases h : i < a.length
 ·left
  refine ⟨h, ?_⟩
  rw [List.getD_eq_getElem?_getD, List.getElem?_eq_getElem h]
  exact List.drop_eq_getElem_cons h
 ·right
  refine ⟨by omega, by rw [List.drop_eq_nil_iff]; omega, by rw [List.drop_eq_nil_iff]; omega, ?_⟩
  rw [List.getD_eq_getElem?_getD, List.getElem?_eq_none (by omega)]; rfl

/-- A round of the sum. -/
theorem plusC_step (a b : List Int) (i : Nat) (c : Int) (h0 : 0 ≤ c) (h1 : c ≤ 1) (h : i < a.length ∨ i < b.length ∨ 0 < c) :
  plusC (a.drop i) (b.drop i) c = ((c + a.getD i 0 + b.getD i 0) % 10) :: plusC (a.drop (i + 1)) (b.drop (i + 1)) ((c + a.getD i 0 + b.getD i 0) / 10) := by
 rcases drop_cases a i with ⟨ha, ea⟩ | ⟨ha, ea, ea', ga⟩ <;> rcases drop_cases b i with ⟨hb, eb⟩ | ⟨hb, eb, eb', gb⟩
 ·rw [ea, eb, plusC]
 ·rw [ea, eb, eb', gb, plusC, Int.add_zero]
 ·rw [ea, eb, ea', ga, plusC, Int.add_zero]
 ·obtain rfl : c = 1 := by omega
  rw [ea, eb, ea', eb', ga, gb]; simp [plusC]
theorem plusC_stop (a b : List Int) (i : Nat) (ha : a.length ≤ i) (hb : b.length ≤ i) : plusC (a.drop i) (b.drop i) 0 = [] := by
 rw [List.drop_eq_nil_iff.2 ha, List.drop_eq_nil_iff.2 hb]; simp [plusC]

def minusC : List Int → List Int → Int → List Int
 | [], _, _ => []
 | x :: a, b, c => (if x - c - b.headD 0 < 0 then x - c - b.headD 0 + 10 else x - c - b.headD 0) :: minusC a b.tail (if x - c - b.headD 0 < 0 then 1 else 0)

theorem minusC_length : ∀ (a b : List Int) (c : Int), (minusC a b c).length = a.length
 | [], _, _ => rfl
 | x :: a, b, c => by rw [minusC, List.length_cons, List.length_cons, minusC_length]
theorem headD_tail {b : List Int} (h : IsDigs b) : 0 ≤ b.headD 0 ∧ b.headD 0 ≤ 9 ∧ IsDigs b.tail ∧ val b = b.headD 0 + 10 * val b.tail := by
 cases b with
 | nil => simp [val, IsDigs]
 | cons y t => obtain ⟨h1, h2⟩ := h.cons; exact ⟨h1.1, h1.2, h2, rfl⟩
theorem minusC_spec : ∀ (a b : List Int) (c : Int), IsDigs a → IsDigs b → 0 ≤ c → c ≤ 1 → val b + c ≤ val a →
  IsDigs (minusC a b c) ∧ val (minusC a b c) = val a - val b - c
 | [], b, c, _, hb, h0, h1, h => by
  have := val_nonneg hb
  simp only [minusC, val] at *
  exact ⟨fun _ h => by simp at h, by omega⟩
 | x :: a, b, c, ha, hb, h0, h1, h => by
  obtain ⟨hx, ha'⟩ := ha.cons
  obtain ⟨y0, y1, hb', ev⟩ := headD_tail hb
  rw [ev] at h ⊢
  have hva := val_nonneg ha'
  have hvb := val_nonneg hb'
  simp only [val] at h
  obtain ⟨r1, r2⟩ := minusC_spec a b.tail (if x - c - b.headD 0 < 0 then 1 else 0) ha' hb' (by split <;> omega) (by split <;> omega) (by split <;> omega)
  rw [minusC]
  refine ⟨fun d hd => ?_, ?_⟩
  ·rcases List.mem_cons.1 hd with rfl | hd
   ·split <;> omega
   ·exact r1 d hd
  ·simp only [val]; rw [r2]; split <;> omega
/-- A round of the difference. -/
theorem minusC_step (a b : List Int) (i : Nat) (c : Int) (h : i < a.length) :
  minusC (a.drop i) (b.drop i) c = (if a.getD i 0 - c - b.getD i 0 < 0 then a.getD i 0 - c - b.getD i 0 + 10 else a.getD i 0 - c - b.getD i 0) ::
   minusC (a.drop (i + 1)) (b.drop (i + 1)) (if a.getD i 0 - c - b.getD i 0 < 0 then 1 else 0) := by
 rcases drop_cases a i with ⟨ha, ea⟩ | ⟨ha, _⟩
 ·rw [ea, minusC]
  have e1 : (b.drop i).headD 0 = b.getD i 0 := by
   rcases drop_cases b i with ⟨_, eb⟩ | ⟨_, eb, _, gb⟩
   ·rw [eb]; rfl
   ·rw [eb, gb]; rfl
  rw [e1, List.tail_drop]
 ·omega
theorem minusC_stop (a b : List Int) (i : Nat) (c : Int) (ha : a.length ≤ i) : minusC (a.drop i) (b.drop i) c = [] := by
 rw [List.drop_eq_nil_iff.2 ha]; rfl

theorem norm_ge {l : List Int} (h : Norm l) (hl : l ≠ []) : (10 : Int) ^ (l.length - 1) ≤ val l := by
 rcases snoc_cases l with rfl | ⟨t, d, rfl⟩
 ·exact absurd rfl hl
 ·have hd := h.1 d (by simp)
  have hne : d ≠ 0 := fun e => h.2 (by simp [e])
  have ht : IsDigs t := fun x hx => h.1 x (by simp [hx])
  have := val_nonneg ht
  rw [val_append]
  simp only [val, List.length_append, List.length_cons, List.length_nil, Nat.zero_add, Nat.add_sub_cancel]
  have hp : (0 : Int) ≤ 10 ^ t.length := Int.pow_nonneg (by decide)
  have h2 : (10 : Int) ^ t.length * 1 ≤ 10 ^ t.length * (d + 10 * 0) := Int.mul_le_mul_of_nonneg_left (by omega) hp
  omega
theorem pow10_mono {m n : Nat} (h : m ≤ n) : (10 : Int) ^ m ≤ 10 ^ n := by
 obtain ⟨k, rfl⟩ := Nat.exists_eq_add_of_le h
 rw [Int.pow_add]
 have h1 : (0 : Int) ≤ 10 ^ m := Int.pow_nonneg (by decide)
 have h2 : (1 : Int) ≤ 10 ^ k := by have := Int.pow_pos (n := 10) (m := k) (by decide); omega
 have := Int.mul_le_mul_of_nonneg_left h2 h1
 omega
/-- Shorter is less. -/
theorem less_short {a b : List Int} (ha : Norm a) (hb : Norm b) (h : a.length < b.length) : val a < val b := by
 have h1 := val_lt ha.1
 have h2 := norm_ge hb (by rintro rfl; simp at h)
 have h3 := pow10_mono (m := a.length) (n := b.length - 1) (by omega)
 omega
/-- Alike from i + 1 on, unlike at i: that digit decides. -/
theorem less_at {a b : List Int} (ha : IsDigs a) (hb : IsDigs b) (i : Nat) (h : i < a.length) (hl : a.length = b.length) (ht : a.drop (i + 1) = b.drop (i + 1)) (hne : a.getD i 0 < b.getD i 0) : val a < val b := by
 have ea : a = a.take i ++ (a.getD i 0 :: a.drop (i + 1)) := by
  rcases drop_cases a i with ⟨_, e⟩ | ⟨e, _⟩
  ·rw [← e, List.take_append_drop]
  ·omega
 have eb : b = b.take i ++ (b.getD i 0 :: b.drop (i + 1)) := by
  rcases drop_cases b i with ⟨_, e⟩ | ⟨e, _⟩
  ·rw [← e, List.take_append_drop]
  ·omega
 have la : (a.take i).length = i := by rw [List.length_take]; omega
 have lb : (b.take i).length = i := by rw [List.length_take]; omega
 have da : IsDigs (a.take i) := fun d hd => ha d (List.mem_of_mem_take hd)
 have db : IsDigs (b.take i) := fun d hd => hb d (List.mem_of_mem_take hd)
 have va := val_lt da
 have vb := val_nonneg db
 rw [ea, eb, val_append, val_append, la, lb, ht]
 rw [la] at va
 simp only [val]
 have hp : (0 : Int) ≤ 10 ^ i := Int.pow_nonneg (by decide)
 have h2 : (10 : Int) ^ i * (a.getD i 0 + 10 * val (b.drop (i + 1)) + 1) ≤ 10 ^ i * (b.getD i 0 + 10 * val (b.drop (i + 1))) := Int.mul_le_mul_of_nonneg_left (by omega) hp
 rw [Int.mul_add, Int.mul_one] at h2
 omega
end Go.Proofs.Yteogdfpkcoodlaa
namespace Go.Proofs.Yteogdfpkcoodlaa
open Go.RowKit

theorem info_int : (Try.prog.info? 3).map (fun i => (i.zero, i.size, i.bytes)) = some (some (.int .i64 0), 1, 8) := by kernel_rfl

/-- What the slice owns is read as a row. -/
theorem Row.owned {w : World} {B : Nat} {T : TypeId} {v : Value} {zs : List Int} (h : w.ownsRow B T 1 v zs.length (zs.map (Value.int .i64))) : Row .i64 w v zs := by
 obtain ⟨h1, h2 | ⟨g, cap, cur, rfl, hb, hg, hn, hm, hs, ht⟩⟩ := h
 ·obtain ⟨rfl, h2⟩ := h2
  exact ⟨none, 0, by rw [h2], by omega, .inl (List.length_eq_zero_iff.1 h2)⟩
 ·refine ⟨_, cap, rfl, hn, .inr ⟨g, 0, rfl, fun i hi => ?_⟩⟩
  rw [Nat.mul_one] at ht
  rw [cell_of_row w g (0 + i) cur T (0, 0) hg, Nat.zero_add]
  have := congrArg (fun l => l[i]?) ht
  simp only [List.getElem?_take, List.getElem?_map, if_pos hi] at this
  rw [List.getElem?_eq_getElem hi] at this
  rw [List.getD_eq_getElem?_getD, List.getElem?_eq_getElem hi]
  simpa using this

/-- The number x, written out: whether it is below 0, and its digits. -/
def IsBig (w : World) (v : Value) (x : Int) : Prop := ∃ s, v = .agg #[.bool (decide (x < 0)), s] ∧ Row .i64 w s (digs x.natAbs)

/-- What the loop keeps: the digits so far, what is left, the block of the answer. -/
def FromRel (a : Int) (H : Nat) (w : World) (m : Nat) (s : Value) (xs : List Int) (wr : World) : Prop :=
 digs a.natAbs = xs ++ digs m ∧ Blk wr (H + 1) #[.bool (decide (a < 0)), s] 85 ∧ Blk wr H #[.bool false, .slice none 0 0] 85 ∧
  wr.ownsRow (H + 2) 3 1 s xs.length (xs.map (Value.int .i64)) ∧ Below H w wr

theorem FromRel.step {a : Int} {H : Nat} {w wr w1 : World} {m : Nat} {s s' : Value} {xs : List Int} (h : FromRel a H w m s xs wr) (hm : m ≠ 0) (o : Obj)
  (hown : w1.ownsRow (H + 2) 3 1 s' (xs.length + 1) (xs.map (Value.int .i64) ++ [.int .i64 ((m % 10 : Nat) : Int)])) (hg : (wr.alloc o).grownBy w1 s.ownBlock) :
  FromRel a H w (m / 10) s' (xs ++ [((m % 10 : Nat) : Int)]) (w1.setCell ⟨H + 1, 1, none⟩ s') := by
 obtain ⟨h1, h2, h3, h4, h5⟩ := h
 have g2 := (h2.alloc o).grown hg (ownBlock_ne h4 (by omega))
 have g3 := (h3.alloc o).grown hg (ownBlock_ne h4 (by omega))
 refine ⟨by rw [h1, digs_pos hm]; simp, g2.set 1 s', g3.setOther (by simp) s', ?_, ?_⟩
 ·have := ownsRow_setCell_below hown (a := ⟨H + 1, 1, none⟩) (by simp) s'
  simpa using this
 ·have hH := h3.lt
  have b1 := (h5.alloc (by omega) o).grown hg (by have := hH; simp; omega) (fun k hk => by have := (h4.lt k hk).1; omega)
  exact b1.setCell (by simp) _

theorem digs_len_of {n k : Nat} {xs : List Int} {m : Nat} (h : digs n = xs ++ digs m) (hn : n < 10 ^ k) : xs.length ≤ k := by
 have h1 := digs_length n k hn
 rw [h, List.length_append] at h1
 omega

set_option maxHeartbeats 1000000 in
set_option maxRecDepth 100000 in
theorem from_pos (a : Int) (w : World) (h0 : 0 ≤ a) (h1 : a ≤ 9223372036854775807) :
  Calls Try.prog 26 #[.int .i64 a] w fun e w' => ∃ v, e = .returned v ∧ IsBig w' v a ∧ Below w.heap.size w w' := by
 obtain ⟨i0, hi, hz0, hz1, hz2⟩ := info_parts info_int
 have hneg : decide (a < 0) = false := by simpa using h0
 have hn : Hid (a.natAbs < 10 ^ 19) := by show a.natAbs < 10 ^ 19; omega
 go_enter Try.func26, Try.ntmps26
 go_wp2
 go_loopw [0] (fun va wr => ∃ (m : Nat) (xs : List Int) (s : Value), va = .int .i64 m ∧ (m : Int) ≤ 9223372036854775807 ∧ FromRel a w.heap.size w m s xs wr) (fun va _ => (intOf va).toNat)
 case atStart =>
  refine ⟨a.natAbs, [], .slice none 0 0, ?_, by omega, rfl, ?_, ?_, World.ownsRow_nil _ _ _ _, ?_⟩
  ·congr 1; omega
  ·rw [hneg]; exact Blk.new' _ _ _ (by simp)
  ·exact (Blk.new _ _ _).alloc _
  ·exact ((Below.refl _ _).alloc (Nat.le_refl _) _).alloc (by simp) _
 case round =>
  obtain ⟨m, xs, s, rfl, hm, hR⟩ := hrel
  have hc0 : wr.cell? ⟨w.heap.size + 1, 0, none⟩ = some (.bool false) := by rw [hR.2.1.cell 0, hneg]; rfl
  have hc1 : wr.cell? ⟨w.heap.size + 1, 1, none⟩ = some s := hR.2.1.cell 1
  have hfr := hR.2.1.free 1
  have ha0 : wr.cell? ⟨w.heap.size, 0, none⟩ = some (.bool false) := hR.2.2.1.cell 0
  have ha1 : wr.cell? ⟨w.heap.size, 1, none⟩ = some (.slice none 0 0) := hR.2.2.1.cell 1
  have hf0 := hR.2.2.1.free 0
  have hf1 := hR.2.2.1.free 1
  have hlen := digs_len_of hR.1 hn.out
  have hsz := hR.2.1.lt
  have HR := Lib.hid hR
  clear hR
  obtain ⟨p, c, rfl⟩ := owned_slice HR.out.2.2.2.1
  by_cases hz : m = 0
  ·subst hz
   go_wp2
   have hR := HR.out
   have hf : Blk ((wr.setCell ⟨w.heap.size, 0, none⟩ (.bool false)).setCell ⟨w.heap.size, 1, none⟩ (.slice p xs.length c)) w.heap.size #[.bool false, .slice p xs.length c] 85 := (hR.2.2.1.set 0 _).set 1 _
   refine bodyPost_ret (v := .agg #[.bool false, .slice p xs.length c]) (by simp [results, Try.results26, go_sem, hf.cell 0, hf.cell 1]) rfl ?_
   have hb := ((hR.2.2.2.2.setCell (p := ⟨w.heap.size, 0, none⟩) (by simp) (.bool false)).setCell (p := ⟨w.heap.size, 1, none⟩) (by simp) (.slice p xs.length c))
   refine ⟨_, rfl, ⟨_, by rw [hneg], ?_⟩, hb⟩
   have hd : digs a.natAbs = xs := by rw [hR.1, digs_zero, List.append_nil]
   rw [hd]
   exact Row.owned (ownsRow_setCell_below (ownsRow_setCell_below hR.2.2.2.1 (a := ⟨w.heap.size, 0, none⟩) (by simp) _) (a := ⟨w.heap.size, 1, none⟩) (by simp) _)
  ·have hzb : ((m : Int) != 0) = true := by simpa using hz
   go_wp2_with (at_builtin; refine wpList_append_own _ rfl _ _ 65 rfl (w.heap.size + 2) 3 i0 (.int .i64 0) 1 8 Try.underlying65 hi hz0 hz1 hz2 rfl (by decide) _ _ _ rfl (HR.out.2.2.2.1.alloc _) ⟨wr.heap.size, 0, none⟩ 1 1 [.int .i64 ((m : Int) % 10)] rfl rfl ?c1 ?c2 ?c3 ?c4 ?c5 ?_)
   case c1 => exact one_new _ _ _
   case c2 => exact one_cells _ _
   case c3 => unfold maxLen; omega
   case c4 => omega
   case c5 => simp; omega
   ·intro v' w1 hown hgrow _
    have hst := HR.out.step hz _ hown hgrow
    obtain ⟨p', c', rfl⟩ := owned_slice hown
    have hb1 := (HR.out.2.1.alloc (.cells #[.int .i64 ((m : Int) % 10)] 3)).grown hgrow (ownBlock_ne HR.out.2.2.2.1 (by omega))
    have hcw : w1.cell? ⟨w.heap.size + 1, 1, none⟩ = some (.slice p xs.length c) := hb1.cell 1
    have hfw := hb1.free 1
    have HST := Lib.hid hst
    clear hst hown hgrow hb1
    go_wp2
    go_roundw
    case rel => exact ⟨m / 10, xs ++ [((m % 10 : Nat) : Int)], _, by go_num, by omega, by simpa using HST.out⟩
    case measure => simp [intOf]; omega
set_option maxHeartbeats 1000000 in
set_option maxRecDepth 100000 in
theorem from_neg (a : Int) (w : World) (h0 : a < 0) (h1 : -9223372036854775808 ≤ a) :
  Calls Try.prog 26 #[.int .i64 a] w fun e w' => ∃ v, e = .returned v ∧ IsBig w' v a ∧ Below w.heap.size w w' := by
 obtain ⟨i0, hi, hz0, hz1, hz2⟩ := info_parts info_int
 have hneg : decide (a < 0) = true := by simpa using h0
 have hn : Hid (a.natAbs < 10 ^ 19) := by show a.natAbs < 10 ^ 19; omega
 go_enter Try.func26, Try.ntmps26
 go_wp2
 go_loopw [0] (fun va wr => ∃ (m : Nat) (xs : List Int) (s : Value), va = .int .i64 (-(m : Int)) ∧ (m : Int) ≤ 9223372036854775808 ∧ FromRel a w.heap.size w m s xs wr) (fun va _ => (intOf va).natAbs)
 case atStart =>
  refine ⟨a.natAbs, [], .slice none 0 0, ?_, by omega, rfl, ?_, ?_, World.ownsRow_nil _ _ _ _, ?_⟩
  ·congr 1; omega
  ·rw [hneg]; exact Blk.new' _ _ _ (by simp)
  ·exact (Blk.new _ _ _).alloc _
  ·exact ((Below.refl _ _).alloc (Nat.le_refl _) _).alloc (by simp) _
 case round =>
  obtain ⟨m, xs, s, rfl, hm, hR⟩ := hrel
  have hc0 : wr.cell? ⟨w.heap.size + 1, 0, none⟩ = some (.bool true) := by rw [hR.2.1.cell 0, hneg]; rfl
  have hc1 : wr.cell? ⟨w.heap.size + 1, 1, none⟩ = some s := hR.2.1.cell 1
  have hfr := hR.2.1.free 1
  have ha0 : wr.cell? ⟨w.heap.size, 0, none⟩ = some (.bool false) := hR.2.2.1.cell 0
  have ha1 : wr.cell? ⟨w.heap.size, 1, none⟩ = some (.slice none 0 0) := hR.2.2.1.cell 1
  have hf0 := hR.2.2.1.free 0
  have hf1 := hR.2.2.1.free 1
  have hlen := digs_len_of hR.1 hn.out
  have hsz := hR.2.1.lt
  have HR := Lib.hid hR
  clear hR
  obtain ⟨p, c, rfl⟩ := owned_slice HR.out.2.2.2.1
  by_cases hz : m = 0
  ·subst hz
   go_wp2
   have hR := HR.out
   have hf : Blk ((wr.setCell ⟨w.heap.size, 0, none⟩ (.bool true)).setCell ⟨w.heap.size, 1, none⟩ (.slice p xs.length c)) w.heap.size #[.bool true, .slice p xs.length c] 85 := (hR.2.2.1.set 0 _).set 1 _
   refine bodyPost_ret (v := .agg #[.bool true, .slice p xs.length c]) (by simp [results, Try.results26, go_sem, hf.cell 0, hf.cell 1]) rfl ?_
   have hb := ((hR.2.2.2.2.setCell (p := ⟨w.heap.size, 0, none⟩) (by simp) (.bool true)).setCell (p := ⟨w.heap.size, 1, none⟩) (by simp) (.slice p xs.length c))
   refine ⟨_, rfl, ⟨_, by rw [hneg], ?_⟩, hb⟩
   have hd : digs a.natAbs = xs := by rw [hR.1, digs_zero, List.append_nil]
   rw [hd]
   exact Row.owned (ownsRow_setCell_below (ownsRow_setCell_below hR.2.2.2.1 (a := ⟨w.heap.size, 0, none⟩) (by simp) _) (a := ⟨w.heap.size, 1, none⟩) (by simp) _)
  ·have hzb : (-(m : Int) != 0) = true := by simpa using hz
   have hdiv : (-(m : Int)).tdiv 10 = -((m : Int) / 10) := by rw [Int.neg_tdiv, Int.tdiv_eq_ediv_of_nonneg (by omega)]
   have hmod : (-(m : Int)).tmod 10 = -((m : Int) % 10) := by rw [Int.neg_tmod, Int.tmod_eq_emod_of_nonneg (by omega)]
   by_cases h10 : (m : Int) % 10 = 0
   ·have hmod0 : (-(m : Int)).tmod 10 = 0 := by rw [hmod, h10]; rfl
    clear hmod
    go_wp2_with (at_builtin; refine wpList_append_own _ rfl _ _ 65 rfl (w.heap.size + 2) 3 i0 (.int .i64 0) 1 8 Try.underlying65 hi hz0 hz1 hz2 rfl (by decide) _ _ _ rfl (HR.out.2.2.2.1.alloc _) ⟨wr.heap.size, 0, none⟩ 1 1 [.int .i64 0] rfl rfl ?c1 ?c2 ?c3 ?c4 ?c5 ?_)
    case c1 => exact one_new _ _ _
    case c2 => exact one_cells _ _
    case c3 => unfold maxLen; omega
    case c4 => omega
    case c5 => simp; omega
    intro v' w1 hown hgrow _
    have hst := HR.out.step hz (.cells #[.int .i64 0] 3) (by rw [show ((m % 10 : Nat) : Int) = 0 by omega]; exact hown) hgrow
    obtain ⟨p', c', rfl⟩ := owned_slice hown
    have hb1 := (HR.out.2.1.alloc (.cells #[.int .i64 0] 3)).grown hgrow (ownBlock_ne HR.out.2.2.2.1 (by omega))
    have hcw : w1.cell? ⟨w.heap.size + 1, 1, none⟩ = some (.slice p xs.length c) := hb1.cell 1
    have hfw := hb1.free 1
    have HST := Lib.hid hst
    clear hst hown hgrow hb1
    go_wp2
    go_roundw
    case rel => exact ⟨m / 10, xs ++ [((m % 10 : Nat) : Int)], _, by go_num, by omega, by simpa using HST.out⟩
    case measure => simp [intOf]; omega
   ·have hpos : 0 < (m : Int) % 10 := by omega
    go_wp2_with (at_builtin; refine wpList_append_own _ rfl _ _ 65 rfl (w.heap.size + 2) 3 i0 (.int .i64 0) 1 8 Try.underlying65 hi hz0 hz1 hz2 rfl (by decide) _ _ _ rfl (HR.out.2.2.2.1.alloc _) ⟨wr.heap.size, 0, none⟩ 1 1 [.int .i64 ((m : Int) % 10)] rfl rfl ?c1 ?c2 ?c3 ?c4 ?c5 ?_)
    case c1 => exact one_new _ _ _
    case c2 => exact one_cells _ _
    case c3 => unfold maxLen; omega
    case c4 => omega
    case c5 => simp; omega
    intro v' w1 hown hgrow _
    have hst := HR.out.step hz (.cells #[.int .i64 ((m : Int) % 10)] 3) (by rw [show ((m % 10 : Nat) : Int) = ((m : Int) % 10) by omega]; exact hown) hgrow
    obtain ⟨p', c', rfl⟩ := owned_slice hown
    have hb1 := (HR.out.2.1.alloc (.cells #[.int .i64 ((m : Int) % 10)] 3)).grown hgrow (ownBlock_ne HR.out.2.2.2.1 (by omega))
    have hcw : w1.cell? ⟨w.heap.size + 1, 1, none⟩ = some (.slice p xs.length c) := hb1.cell 1
    have hfw := hb1.free 1
    have HST := Lib.hid hst
    clear hst hown hgrow hb1
    go_wp2
    go_roundw
    case rel => exact ⟨m / 10, xs ++ [((m % 10 : Nat) : Int)], _, by go_num, by omega, by simpa using HST.out⟩
    case measure => simp [intOf]; omega
theorem from_any (a : Int) (w : World) (ha : Fits a) :
  Calls Try.prog 26 #[.int .i64 a] w fun e w' => ∃ v, e = .returned v ∧ IsBig w' v a ∧ Below w.heap.size w w' := by
 by_cases h : 0 ≤ a
 ·exact from_pos a w h ha.2
 ·exact from_neg a w (by omega) ha.1
end Go.Proofs.Yteogdfpkcoodlaa
namespace Go.Proofs.Yteogdfpkcoodlaa
open Go.RowKit

theorem Row.take {k : IntKind} {w : World} {p : Option Addr} {c n : Nat} {zs : List Int} (h : Row k w (.slice p zs.length c) zs) (hn : n ≤ zs.length) : Row k w (.slice p n c) (zs.take n) := by
 obtain ⟨p', c', e, hc, h⟩ := h
 cases e
 have hl : (zs.take n).length = n := by rw [List.length_take]; omega
 refine ⟨p, c, by rw [hl], by omega, ?_⟩
 rcases h with h | ⟨b, o, rfl, h⟩
 ·subst h; simp
 ·by_cases h0 : n = 0
  ·left; subst h0; simp
  ·refine .inr ⟨b, o, rfl, fun i hi => ?_⟩
   rw [hl] at hi
   rw [h i (by omega), List.getD_eq_getElem?_getD, List.getD_eq_getElem?_getD, List.getElem?_take, if_pos hi]

/-- What a row of ints holds at i, where it has such a place. -/
theorem Row.at {k : IntKind} {w : World} {p : Option Addr} {c n : Nat} {zs : List Int} (h : Row k w (.slice p n c) zs) (i : Nat) (hi : i < zs.length) : ∃ b o, p = some ⟨b, o, none⟩ ∧ w.cell? ⟨b, o + i, none⟩ = some (.int k (zs.getD i 0)) := by
 obtain ⟨p', c', e, _, h⟩ := h
 cases e
 rcases h with rfl | ⟨b, o, rfl, h⟩
 ·simp at hi
 ·exact ⟨b, o, rfl, h i hi⟩

theorem trimL_of {l : List Int} (n : Nat) (h : n ≤ l.length) (hz : ∀ j, n ≤ j → j < l.length → l.getD j 0 = 0) : trimL l = trimL (l.take n) := by
 obtain ⟨k, hk⟩ := Nat.exists_eq_add_of_le h
 induction k generalizing n with
 | zero => rw [List.take_of_length_le (by omega)]
 | succ k ih =>
  rw [ih (n + 1) (by omega) (fun j a b => hz j (by omega) b) (by omega)]
  have : l.take (n + 1) = l.take n ++ [0] := by
   rw [List.take_succ_eq_append_getElem (by omega)]
   have := hz n (Nat.le_refl _) (by omega)
   rw [List.getD_eq_getElem?_getD, List.getElem?_eq_getElem (by omega)] at this
   rw [show l[n] = 0 by simpa using this]
  rw [this, trimL_snoc_zero]
theorem trimL_take {l : List Int} (n : Nat) (h : n ≤ l.length) (hn : n = 0 ∨ l.getD (n - 1) 0 ≠ 0) : trimL (l.take n) = l.take n := by
 rcases hn with rfl | hn
 ·simp [trimL_nil]
 ·by_cases h0 : n = 0
  ·subst h0; simp [trimL_nil]
  ·obtain ⟨m, rfl⟩ : ∃ m, n = m + 1 := ⟨n - 1, by omega⟩
   rw [List.take_succ_eq_append_getElem (by omega)]
   apply trimL_snoc
   rw [List.getD_eq_getElem?_getD, Nat.add_sub_cancel, List.getElem?_eq_getElem (by omega)] at hn
   simpa using hn

theorem trim_any (v : Value) (zs : List Int) (w : World) (hm : zs.length ≤ 1000000) (hrow : Row .i64 w v zs) :
  Calls Try.prog 39 #[v] w fun e w' => ∃ v', e = .returned v' ∧ Row .i64 w v' (trimL zs) ∧ w = w' := by
 obtain ⟨p, c, rfl, hcap, _⟩ := id hrow
 have HR := Lib.hid hrow
 clear hrow
 generalize hn : zs.length = n at *
 have HN := Lib.hid hn
 clear hn
 go_enter Try.func39, Try.ntmps39
 go_wp2
 go_loop [3] (fun vn => ∃ k : Nat, k ≤ n ∧ vn = .int .i64 k ∧ Hid (∀ j, k ≤ j → j < n → zs.getD j 0 = 0)) (fun vn => (intOf vn).toNat)
 case atStart => exact ⟨n, Nat.le_refl _, rfl, fun j a b => by omega⟩
 case round =>
  obtain ⟨k, hk, rfl, hz⟩ := hrel
  have fin : (k = 0 ∨ zs.getD (k - 1) 0 ≠ 0) → Row .i64 w (.slice p k c) (trimL zs) := fun h => by
   have hn := HN.out
   rw [trimL_of k (by omega) (fun j a b => hz.out j a (by omega)), trimL_take k (by omega) h]
   exact Row.take (by rw [hn]; exact HR.out) (by omega)
  have FIN := Lib.hid fin
  clear fin
  by_cases h0 : k = 0
  ·subst h0
   go_wp2
   go_ret
   exact ⟨_, rfl, FIN.out (by simp), rfl⟩
  ·obtain ⟨b, o, rfl, hc⟩ := HR.out.at (k - 1) (by rw [HN.out]; omega)
   by_cases hd : zs.getD (k - 1) 0 = 0
   ·have HD := Lib.hid hd
    rw [hd] at hc
    clear hd
    go_wp2
    go_round
    case rel => exact ⟨k - 1, by omega, by go_num, fun j a b => by
     by_cases e : j = k - 1
     ·rw [e]; exact HD.out
     ·exact hz.out j (by omega) b⟩
    case measure => simp [intOf]; omega
   ·have HD := Lib.hid hd
    have hb : (zs.getD (k - 1) 0 == 0) = false := by simpa using hd
    generalize zs.getD (k - 1) 0 = d at *
    clear hd
    go_wp2
    go_ret
    exact ⟨_, rfl, FIN.out (.inr HD.out), rfl⟩

theorem drop_eq {a b : List Int} {i : Nat} (ha : i < a.length) (hl : a.length = b.length) (ht : a.drop (i + 1) = b.drop (i + 1)) (he : a.getD i 0 = b.getD i 0) : a.drop i = b.drop i := by
 rcases drop_cases a i with ⟨_, ea⟩ | ⟨h, _⟩
 ·rcases drop_cases b i with ⟨_, eb⟩ | ⟨h, _⟩
  ·rw [ea, eb, ht, he]
  ·omega
 ·omega

/-- The order of two numbers that are written out. -/
def lessB (x y : Int) : Bool := decide (x < y)
def LessRel (a b : List Int) (k : Nat) : Prop := a.drop k = b.drop k

set_option maxHeartbeats 1000000 in
theorem less_any (u v : Value) (a b : List Int) (w : World) (ha : Norm a) (hb : Norm b) (hm : a.length ≤ 1000000) (_hm' : b.length ≤ 1000000) (hu : Row .i64 w u a) (hv : Row .i64 w v b) :
  Calls Try.prog 41 #[u, v] w fun e w' => e = .returned (.bool (lessB (val a) (val b))) ∧ Below w.heap.size w w' := by
 obtain ⟨p, c, rfl, _, _⟩ := id hu
 obtain ⟨q, d, rfl, _, _⟩ := id hv
 have HU := Lib.hid hu
 have HV := Lib.hid hv
 clear hu hv
 by_cases hlen : a.length = b.length
 ·generalize hn : a.length = n at *
  have hnb : ((n : Int) != (n : Int)) = false := by simp
  have HN := Lib.hid hn
  have HB := Lib.hid hlen
  clear hn
  rw [← hlen]
  clear hlen
  go_enter Try.func41, Try.ntmps41
  go_wp2
  go_loopw [5] (fun vi wr => ∃ (j : Int) (nd : Nat), -1 ≤ j ∧ j < n ∧ vi = .int .i64 j ∧ Hid (a.drop (j + 1).toNat = b.drop (j + 1).toNat) ∧ wr = w.drewN nd) (fun vi _ => (intOf vi + 1).toNat)
  case atStart =>
   refine ⟨(n : Int) - 1, 0, by omega, by omega, rfl, ?_, rfl⟩
   show _ = _
   rw [show ((n : Int) - 1 + 1).toNat = n by omega]
   rw [List.drop_eq_nil_iff.2 (by rw [HN.out]; exact Nat.le_refl _), List.drop_eq_nil_iff.2 (by rw [← HB.out]; exact Nat.le_refl _)]
  case round =>
   obtain ⟨j, nd, hj0, hj1, rfl, hd, rfl⟩ := hrel
   by_cases h0 : j < 0
   ·obtain rfl : j = -1 := by omega
    have hfin : Hid (lessB (val a) (val b) = false) := by
     have := hd.out
     simp at this
     show _ = _
     rw [this]; simp [lessB]
    go_wp2
    go_ret
    exact ⟨by rw [hfin.out]; rfl, drewN_below _ _ _⟩
   ·obtain ⟨m, rfl⟩ : ∃ m : Nat, j = m := ⟨j.toNat, by omega⟩
    have hd' : Hid (a.drop (m + 1) = b.drop (m + 1)) := by
     have := hd.out
     rw [show ((m : Int) + 1).toNat = m + 1 by omega] at this
     exact this
    clear hd
    obtain ⟨x, o, rfl, hc⟩ := HU.out.at m (by rw [HN.out]; omega)
    obtain ⟨x', o', rfl, hc'⟩ := HV.out.at m (by rw [← HB.out]; omega)
    by_cases he : a.getD m 0 = b.getD m 0
    ·have HE : Hid (a.drop m = b.drop m) := drop_eq (by rw [HN.out]; omega) (HN.out.trans HB.out) hd'.out he
     have hbb : (a.getD m 0 != b.getD m 0) = false := by simpa using he
     generalize a.getD m 0 = aa at *
     generalize b.getD m 0 = bb at *
     clear he
     go_wp2_with fail
     go_quiet (fail)
     go_wp2
     go_roundw
     case rel => exact ⟨(m : Int) - 1, _, by omega, by omega, rfl, by
      show _ = _
      rw [show ((m : Int) - 1 + 1).toNat = m by omega]
      exact HE.out, rfl⟩
     case measure => simp [intOf]
    ·have hfin : Hid (lessB (val a) (val b) = decide (a.getD m 0 < b.getD m 0)) := by
      show _ = _
      unfold lessB
      rw [decide_eq_decide]
      constructor
      ·intro h
       by_cases e : b.getD m 0 < a.getD m 0
       ·have := less_at hb.1 ha.1 m (by rw [← HB.out]; omega) (HB.out.symm.trans HN.out.symm) hd'.out.symm e; omega
       ·omega
      ·exact less_at ha.1 hb.1 m (by rw [HN.out]; omega) (HN.out.trans HB.out) hd'.out
     have hbb : (a.getD m 0 != b.getD m 0) = true := by simpa using he
     generalize a.getD m 0 = aa at *
     generalize b.getD m 0 = bb at *
     clear he
     go_wp2_with fail
     go_quiet (fail)
     go_wp2_with fail
     go_quiet (fail)
     go_wp2
     go_ret
     exact ⟨by rw [hfin.out]; rfl, below_drewN (below_drewN (drewN_below _ _ _) _) _⟩
 ·have hnb : ((a.length : Int) != (b.length : Int)) = true := by simp; omega
  go_enter Try.func41, Try.ntmps41
  go_wp2
  have hfin : Hid (lessB (val a) (val b) = decide (a.length < b.length)) := by
   show _ = _
   unfold lessB
   rw [decide_eq_decide]
   constructor
   ·intro h
    by_cases e : b.length < a.length
    ·have := less_short hb ha e; omega
    ·omega
   ·exact less_short ha hb
  go_ret
  exact ⟨by rw [hfin.out]; rfl, Below.refl _ _⟩
end Go.Proofs.Yteogdfpkcoodlaa
namespace Go.Proofs.Yteogdfpkcoodlaa
open Go.RowKit

/-- What the loop of the sum keeps. -/
def PlusRel (a b : List Int) (w : World) (i : Nat) (c : Int) (xs : List Int) (v : Value) (wr : World) : Prop :=
 plusC a b 0 = xs ++ plusC (a.drop i) (b.drop i) c ∧ xs.length = i ∧ wr.ownsRow w.heap.size 3 1 v xs.length (xs.map (Value.int .i64)) ∧ Below w.heap.size w wr
theorem PlusRel.start (a b : List Int) (w : World) : PlusRel a b w 0 0 [] (.slice none 0 0) w := ⟨by simp, rfl, World.ownsRow_nil _ _ _ _, Below.refl _ _⟩
theorem PlusRel.step {a b : List Int} {w wr w1 : World} {i : Nat} {c : Int} {xs : List Int} {v v' : Value} (h : PlusRel a b w i c xs v wr) (s : Int) (hs : s = c + a.getD i 0 + b.getD i 0)
  (h0 : 0 ≤ c) (h1 : c ≤ 1) (hin : i < a.length ∨ i < b.length ∨ 0 < c) (o : Obj)
  (hown : w1.ownsRow w.heap.size 3 1 v' (xs.length + 1) (xs.map (Value.int .i64) ++ [.int .i64 (s % 10)])) (hg : (wr.alloc o).grownBy w1 v.ownBlock) :
  PlusRel a b w (i + 1) (s / 10) (xs ++ [s % 10]) v' w1 := by
 obtain ⟨e1, e2, e3, e4⟩ := h
 have hb := e4.size
 refine ⟨?_, by simp [e2], by simpa using hown, (e4.alloc hb o).grown hg (by simp; omega) (fun k hk => (e3.lt k hk).1)⟩
 rw [e1, plusC_step a b i c h0 h1 hin, ← hs, List.append_assoc]; rfl
theorem PlusRel.len {a b : List Int} {w wr : World} {i : Nat} {c : Int} {xs : List Int} {v : Value} (h : PlusRel a b w i c xs v wr) (ha : IsDigs a) (hb : IsDigs b) : i ≤ a.length + b.length + 1 := by
 have h1 := (plusC_spec a b 0 ha hb (by decide) (by decide)).2.2
 rw [h.1, List.length_append, h.2.1] at h1
 omega
theorem digs_getD {a : List Int} (ha : IsDigs a) (i : Nat) : 0 ≤ a.getD i 0 ∧ a.getD i 0 ≤ 9 := by
 rw [List.getD_eq_getElem?_getD]
 by_cases hi : i < a.length
 ·rw [List.getElem?_eq_getElem hi]; exact ha _ (List.getElem_mem hi)
 ·rw [List.getElem?_eq_none (by omega)]; simp
theorem getD_out {a : List Int} {i : Nat} (h : a.length ≤ i) : a.getD i 0 = 0 := by rw [List.getD_eq_getElem?_getD, List.getElem?_eq_none h]; rfl

set_option maxHeartbeats 2000000 in
set_option maxRecDepth 100000 in
theorem plus_any (u v : Value) (a b : List Int) (w : World) (ha : IsDigs a) (hb : IsDigs b) (hma : a.length ≤ 1000000) (hmb : b.length ≤ 1000000) (hu : Row .i64 w u a) (hv : Row .i64 w v b) :
  Calls Try.prog 40 #[u, v] w fun e w' => ∃ v', e = .returned v' ∧ Row .i64 w' v' (plusC a b 0) ∧ Below w.heap.size w w' := by
 obtain ⟨i0, hi, hz0, hz1, hz2⟩ := info_parts info_int
 obtain ⟨p, ca, rfl, _, hp⟩ := id hu
 obtain ⟨q, cb, rfl, _, hq⟩ := id hv
 have HU := Lib.hid hu
 have HV := Lib.hid hv
 clear hu hv hp hq
 generalize hla : a.length = la at *
 generalize hlb : b.length = lb at *
 have HLA := Lib.hid hla
 have HLB := Lib.hid hlb
 clear hla hlb
 go_enter Try.func40, Try.ntmps40
 go_wp2
 go_loopw [5, 6, 7] (fun vo vc vi wr => ∃ (i : Nat) (c : Int) (xs : List Int) (po : Option Addr) (co : Nat), vi = .int .i64 i ∧ vc = .int .i64 c ∧ vo = .slice po xs.length co ∧ 0 ≤ c ∧ c ≤ 1 ∧ Hid (PlusRel a b w i c xs (.slice po xs.length co) wr)) (fun _ _ vi _ => la + lb + 2 - (intOf vi).toNat)
 case atStart => exact ⟨0, 0, [], none, 0, rfl, rfl, rfl, by decide, by decide, PlusRel.start a b w⟩
 case round =>
  obtain ⟨i, c, xs, po, co, rfl, rfl, rfl, h0, h1, HR⟩ := hrel
  have hil := HR.out.len ha hb
  rw [HLA.out, HLB.out] at hil
  have hxl : Hid (xs.length = i) := HR.out.2.1
  have C3 : Hid (xs.length + 1 ≤ maxLen) := by have := hxl.out; show _ ≤ _; unfold maxLen; omega
  have C4 : Hid ((xs.length + 1) * 8 ≤ 140737488355328) := by have := hxl.out; show _ ≤ _; omega
  have C5 : Hid (∀ o : Obj, w.heap.size ≤ (wr.alloc o).heap.size) := fun o => by have := HR.out.2.2.2.size; simp; omega
  have hbel := HR.out.2.2.2
  have hx := digs_getD ha i
  have hy := digs_getD hb i
  have hsz := hbel.size
  have HX0 : la ≤ i → a.getD i 0 = 0 := fun h => getD_out (by rw [HLA.out]; exact h)
  have HY0 : lb ≤ i → b.getD i 0 = 0 := fun h => getD_out (by rw [HLB.out]; exact h)
  have cx : i < la → ∃ x o, p = some ⟨x, o, none⟩ ∧ wr.cell? ⟨x, o + i, none⟩ = some (.int .i64 (a.getD i 0)) := fun h => by
   obtain ⟨x, o, e, hc⟩ := HU.out.at i (by rw [HLA.out]; exact h)
   exact ⟨x, o, e, by rw [hbel.cell (p := ⟨x, o + i, none⟩) (World.block_lt_of_cell? w _ hc)]; exact hc⟩
  have cy : i < lb → ∃ x o, q = some ⟨x, o, none⟩ ∧ wr.cell? ⟨x, o + i, none⟩ = some (.int .i64 (b.getD i 0)) := fun h => by
   obtain ⟨x, o, e, hc⟩ := HV.out.at i (by rw [HLB.out]; exact h)
   exact ⟨x, o, e, by rw [hbel.cell (p := ⟨x, o + i, none⟩) (World.block_lt_of_cell? w _ hc)]; exact hc⟩
  have step : ∀ (s : Int) (w1 : World) (v' : Value) (hs : s = c + a.getD i 0 + b.getD i 0) (hin : i < la ∨ i < lb ∨ 0 < c) (o : Obj)
    (hown : w1.ownsRow w.heap.size 3 1 v' (xs.length + 1) (xs.map (Value.int .i64) ++ [.int .i64 (s % 10)])) (hg : (wr.alloc o).grownBy w1 (Value.slice po xs.length co).ownBlock),
    PlusRel a b w (i + 1) (s / 10) (xs ++ [s % 10]) v' w1 := fun s w1 v' hs hin o hown hg => HR.out.step s hs h0 h1 (by rw [HLA.out, HLB.out]; exact hin) o hown hg
  have STEP := Lib.hid step
  have HX := Lib.hid HX0
  have HY := Lib.hid HY0
  have CX := Lib.hid cx
  have CY := Lib.hid cy
  have HBEL := Lib.hid hbel
  clear step HX0 HY0 cx cy hbel
  generalize a.getD i 0 = x at *
  generalize b.getD i 0 = y at *
  by_cases hia : i < la
  ·obtain ⟨bx, ox, rfl, hcx⟩ := CX.out hia
   by_cases hib : i < lb
   ·obtain ⟨by', oy, rfl, hcy⟩ := CY.out hib
    clear CX CY
    go_wp2_with (at_builtin; refine wpList_append_own _ rfl _ _ 65 rfl w.heap.size 3 i0 (.int .i64 0) 1 8 Try.underlying65 hi hz0 hz1 hz2 rfl (by decide) _ _ _ rfl (HR.out.2.2.1.alloc _) ⟨wr.heap.size, 0, none⟩ 1 1 [.int .i64 ((c + x + y) % 10)] rfl rfl (one_new _ _ _) (one_cells _ _) C3.out C4.out (C5.out _) ?_)
    intro v' w1 hown hgrow _
    have hst := STEP.out (c + x + y) w1 v' rfl (.inl hia) _ hown hgrow
    obtain ⟨p', c', rfl⟩ := owned_slice hown
    have HST := Lib.hid hst
    clear hst hown hgrow
    go_wp2
    go_roundw
    case rel => exact ⟨i + 1, (c + x + y) / 10, xs ++ [(c + x + y) % 10], p', c', by go_num, rfl, by simp, by omega, by omega, by show PlusRel _ _ _ _ _ _ _ _; rw [List.length_append]; exact HST.out⟩
    case measure => simp [intOf]; omega
   ·have hy0 := HY.out (by omega)
    subst hy0
    clear CX CY HY
    go_wp2_with (at_builtin; refine wpList_append_own _ rfl _ _ 65 rfl w.heap.size 3 i0 (.int .i64 0) 1 8 Try.underlying65 hi hz0 hz1 hz2 rfl (by decide) _ _ _ rfl (HR.out.2.2.1.alloc _) ⟨wr.heap.size, 0, none⟩ 1 1 [.int .i64 ((c + x) % 10)] rfl rfl (one_new _ _ _) (one_cells _ _) C3.out C4.out (C5.out _) ?_)
    intro v' w1 hown hgrow _
    have hst := STEP.out (c + x) w1 v' (by omega) (.inl hia) _ hown hgrow
    obtain ⟨p', c', rfl⟩ := owned_slice hown
    have HST := Lib.hid hst
    clear hst hown hgrow
    go_wp2
    go_roundw
    case rel => exact ⟨i + 1, (c + x) / 10, xs ++ [(c + x) % 10], p', c', by go_num, rfl, by simp, by omega, by omega, by show PlusRel _ _ _ _ _ _ _ _; rw [List.length_append]; exact HST.out⟩
    case measure => simp [intOf]; omega
  ·have hx0 := HX.out (by omega)
   subst hx0
   by_cases hib : i < lb
   ·obtain ⟨by', oy, rfl, hcy⟩ := CY.out hib
    clear CX CY HX
    go_wp2_with (at_builtin; refine wpList_append_own _ rfl _ _ 65 rfl w.heap.size 3 i0 (.int .i64 0) 1 8 Try.underlying65 hi hz0 hz1 hz2 rfl (by decide) _ _ _ rfl (HR.out.2.2.1.alloc _) ⟨wr.heap.size, 0, none⟩ 1 1 [.int .i64 ((c + y) % 10)] rfl rfl (one_new _ _ _) (one_cells _ _) C3.out C4.out (C5.out _) ?_)
    intro v' w1 hown hgrow _
    have hst := STEP.out (c + y) w1 v' (by omega) (.inr (.inl hib)) _ hown hgrow
    obtain ⟨p', c', rfl⟩ := owned_slice hown
    have HST := Lib.hid hst
    clear hst hown hgrow
    go_wp2
    go_roundw
    case rel => exact ⟨i + 1, (c + y) / 10, xs ++ [(c + y) % 10], p', c', by go_num, rfl, by simp, by omega, by omega, by show PlusRel _ _ _ _ _ _ _ _; rw [List.length_append]; exact HST.out⟩
    case measure => simp [intOf]; omega
   ·have hy0 := HY.out (by omega)
    subst hy0
    by_cases hc : 0 < c
    ·clear CX CY HX HY
     go_wp2_with (at_builtin; refine wpList_append_own _ rfl _ _ 65 rfl w.heap.size 3 i0 (.int .i64 0) 1 8 Try.underlying65 hi hz0 hz1 hz2 rfl (by decide) _ _ _ rfl (HR.out.2.2.1.alloc _) ⟨wr.heap.size, 0, none⟩ 1 1 [.int .i64 ((c) % 10)] rfl rfl (one_new _ _ _) (one_cells _ _) C3.out C4.out (C5.out _) ?_)
     intro v' w1 hown hgrow _
     have hst := STEP.out (c) w1 v' (by omega) (.inr (.inr hc)) _ hown hgrow
     obtain ⟨p', c', rfl⟩ := owned_slice hown
     have HST := Lib.hid hst
     clear hst hown hgrow
     go_wp2
     go_roundw
     case rel => exact ⟨i + 1, (c) / 10, xs ++ [(c) % 10], p', c', by go_num, rfl, by simp, by omega, by omega, by show PlusRel _ _ _ _ _ _ _ _; rw [List.length_append]; exact HST.out⟩
     case measure => simp [intOf]; omega
    ·obtain rfl : c = 0 := by omega
     go_wp2
     go_ret
     have hR := HR.out
     have e : plusC a b 0 = xs := by rw [hR.1, plusC_stop a b i (by rw [HLA.out]; omega) (by rw [HLB.out]; omega), List.append_nil]
     exact ⟨_, rfl, by rw [e]; exact Row.owned hR.2.2.1, hR.2.2.2⟩
end Go.Proofs.Yteogdfpkcoodlaa
namespace Go.Proofs.Yteogdfpkcoodlaa
open Go.RowKit

/-- What the loop of the difference keeps. -/
def MinusRel (a b : List Int) (w : World) (i : Nat) (c : Int) (xs : List Int) (v : Value) (wr : World) : Prop :=
 minusC a b 0 = xs ++ minusC (a.drop i) (b.drop i) c ∧ xs.length = i ∧ wr.ownsRow w.heap.size 3 1 v xs.length (xs.map (Value.int .i64)) ∧ Below w.heap.size w wr
theorem MinusRel.start (a b : List Int) (w : World) : MinusRel a b w 0 0 [] (.slice none 0 0) w := ⟨by simp, rfl, World.ownsRow_nil _ _ _ _, Below.refl _ _⟩
theorem MinusRel.step {a b : List Int} {w wr w1 : World} {i : Nat} {c : Int} {xs : List Int} {v v' : Value} (h : MinusRel a b w i c xs v wr) (s r c' : Int) (hs : s = a.getD i 0 - c - b.getD i 0)
  (hr : r = if s < 0 then s + 10 else s) (hc : c' = if s < 0 then 1 else 0) (hin : i < a.length) (o : Obj)
  (hown : w1.ownsRow w.heap.size 3 1 v' (xs.length + 1) (xs.map (Value.int .i64) ++ [.int .i64 r])) (hg : (wr.alloc o).grownBy w1 v.ownBlock) :
  MinusRel a b w (i + 1) c' (xs ++ [r]) v' w1 := by
 obtain ⟨e1, e2, e3, e4⟩ := h
 have hb := e4.size
 refine ⟨?_, by simp [e2], by simpa using hown, (e4.alloc hb o).grown hg (by simp; omega) (fun k hk => (e3.lt k hk).1)⟩
 rw [e1, minusC_step a b i c hin, ← hs, ← hr, ← hc, List.append_assoc]; rfl

set_option maxHeartbeats 2000000 in
set_option maxRecDepth 100000 in
theorem minus_any (u v : Value) (a b : List Int) (w : World) (ha : IsDigs a) (hb : IsDigs b) (hma : a.length ≤ 1000000) (_hmb : b.length ≤ 1000000) (hu : Row .i64 w u a) (hv : Row .i64 w v b) :
  Calls Try.prog 42 #[u, v] w fun e w' => ∃ v', e = .returned v' ∧ Row .i64 w' v' (trimL (minusC a b 0)) ∧ Below w.heap.size w w' := by
 obtain ⟨i0, hi, hz0, hz1, hz2⟩ := info_parts info_int
 obtain ⟨p, ca, rfl, _, hp⟩ := id hu
 obtain ⟨q, cb, rfl, _, hq⟩ := id hv
 have HU := Lib.hid hu
 have HV := Lib.hid hv
 clear hu hv hp hq
 generalize hla : a.length = la at *
 generalize hlb : b.length = lb at *
 have HLA := Lib.hid hla
 have HLB := Lib.hid hlb
 clear hla hlb
 go_enter Try.func42, Try.ntmps42
 go_wp2
 go_loopw [5, 6, 7] (fun vo vc vi wr => ∃ (i : Nat) (c : Int) (xs : List Int) (po : Option Addr) (co : Nat), i ≤ la ∧ vi = .int .i64 i ∧ vc = .int .i64 c ∧ vo = .slice po xs.length co ∧ 0 ≤ c ∧ c ≤ 1 ∧ Hid (MinusRel a b w i c xs (.slice po xs.length co) wr)) (fun _ _ vi _ => la - (intOf vi).toNat)
 case atStart => exact ⟨0, 0, [], none, 0, Nat.zero_le _, rfl, rfl, rfl, by decide, by decide, MinusRel.start a b w⟩
 case round =>
  obtain ⟨i, c, xs, po, co, hil, rfl, rfl, rfl, h0, h1, HR⟩ := hrel
  have hxl : Hid (xs.length = i) := HR.out.2.1
  have C3 : Hid (xs.length + 1 ≤ maxLen) := by have := hxl.out; show _ ≤ _; unfold maxLen; omega
  have C4 : Hid ((xs.length + 1) * 8 ≤ 140737488355328) := by have := hxl.out; show _ ≤ _; omega
  have C5 : Hid (∀ o : Obj, w.heap.size ≤ (wr.alloc o).heap.size) := fun o => by have := HR.out.2.2.2.size; simp; omega
  have hbel := HR.out.2.2.2
  have hx := digs_getD ha i
  have hy := digs_getD hb i
  have hsz := hbel.size
  have HY0 : lb ≤ i → b.getD i 0 = 0 := fun h => getD_out (by rw [HLB.out]; exact h)
  have cx : i < la → ∃ x o, p = some ⟨x, o, none⟩ ∧ wr.cell? ⟨x, o + i, none⟩ = some (.int .i64 (a.getD i 0)) := fun h => by
   obtain ⟨x, o, e, hc⟩ := HU.out.at i (by rw [HLA.out]; exact h)
   exact ⟨x, o, e, by rw [hbel.cell (p := ⟨x, o + i, none⟩) (World.block_lt_of_cell? w _ hc)]; exact hc⟩
  have cy : i < lb → ∃ x o, q = some ⟨x, o, none⟩ ∧ wr.cell? ⟨x, o + i, none⟩ = some (.int .i64 (b.getD i 0)) := fun h => by
   obtain ⟨x, o, e, hc⟩ := HV.out.at i (by rw [HLB.out]; exact h)
   exact ⟨x, o, e, by rw [hbel.cell (p := ⟨x, o + i, none⟩) (World.block_lt_of_cell? w _ hc)]; exact hc⟩
  have step : ∀ (s r c' : Int) (w1 : World) (v' : Value) (hs : s = a.getD i 0 - c - b.getD i 0) (hr : r = if s < 0 then s + 10 else s) (hc : c' = if s < 0 then 1 else 0) (hin : i < la) (o : Obj)
    (hown : w1.ownsRow w.heap.size 3 1 v' (xs.length + 1) (xs.map (Value.int .i64) ++ [.int .i64 r])) (hg : (wr.alloc o).grownBy w1 (Value.slice po xs.length co).ownBlock),
    MinusRel a b w (i + 1) c' (xs ++ [r]) v' w1 := fun s r c' w1 v' hs hr hc hin o hown hg => HR.out.step s r c' hs hr hc (by rw [HLA.out]; exact hin) o hown hg
  have STEP := Lib.hid step
  have HY := Lib.hid HY0
  have CX := Lib.hid cx
  have CY := Lib.hid cy
  have HBEL := Lib.hid hbel
  clear step HY0 cx cy hbel
  generalize a.getD i 0 = x at *
  generalize b.getD i 0 = y at *
  by_cases hia : i < la
  ·obtain ⟨bx, ox, rfl, hcx⟩ := CX.out hia
   by_cases hib : i < lb
   ·obtain ⟨by', oy, rfl, hcy⟩ := CY.out hib
    clear CX CY HY
    by_cases hs : x - c - y < 0
    ·go_wp2_with (at_builtin; refine wpList_append_own _ rfl _ _ 65 rfl w.heap.size 3 i0 (.int .i64 0) 1 8 Try.underlying65 hi hz0 hz1 hz2 rfl (by decide) _ _ _ rfl (HR.out.2.2.1.alloc _) ⟨wr.heap.size, 0, none⟩ 1 1 [.int .i64 (x - c - y + 10)] rfl rfl (one_new _ _ _) (one_cells _ _) C3.out C4.out (C5.out _) ?_)
     intro v' w1 hown hgrow _
     have hst := STEP.out (x - c - y) (x - c - y + 10) 1 w1 v' rfl (by rw [if_pos hs]) (by rw [if_pos hs]) hia _ hown hgrow
     obtain ⟨p', c', rfl⟩ := owned_slice hown
     have HST := Lib.hid hst
     clear hst hown hgrow
     go_wp2
     go_roundw
     case rel => exact ⟨i + 1, 1, xs ++ [x - c - y + 10], p', c', by omega, by go_num, rfl, by simp, by omega, by omega, by show MinusRel _ _ _ _ _ _ _ _; rw [List.length_append]; exact HST.out⟩
     case measure => simp [intOf]; omega
    ·go_wp2_with (at_builtin; refine wpList_append_own _ rfl _ _ 65 rfl w.heap.size 3 i0 (.int .i64 0) 1 8 Try.underlying65 hi hz0 hz1 hz2 rfl (by decide) _ _ _ rfl (HR.out.2.2.1.alloc _) ⟨wr.heap.size, 0, none⟩ 1 1 [.int .i64 (x - c - y)] rfl rfl (one_new _ _ _) (one_cells _ _) C3.out C4.out (C5.out _) ?_)
     intro v' w1 hown hgrow _
     have hst := STEP.out (x - c - y) (x - c - y) 0 w1 v' rfl (by rw [if_neg (by omega)]) (by rw [if_neg (by omega)]) hia _ hown hgrow
     obtain ⟨p', c', rfl⟩ := owned_slice hown
     have HST := Lib.hid hst
     clear hst hown hgrow
     go_wp2
     go_roundw
     case rel => exact ⟨i + 1, 0, xs ++ [x - c - y], p', c', by omega, by go_num, rfl, by simp, by omega, by omega, by show MinusRel _ _ _ _ _ _ _ _; rw [List.length_append]; exact HST.out⟩
     case measure => simp [intOf]; omega
   ·have hy0 := HY.out (by omega)
    subst hy0
    clear CX CY HY
    by_cases hs : x - c < 0
    ·go_wp2_with (at_builtin; refine wpList_append_own _ rfl _ _ 65 rfl w.heap.size 3 i0 (.int .i64 0) 1 8 Try.underlying65 hi hz0 hz1 hz2 rfl (by decide) _ _ _ rfl (HR.out.2.2.1.alloc _) ⟨wr.heap.size, 0, none⟩ 1 1 [.int .i64 (x - c + 10)] rfl rfl (one_new _ _ _) (one_cells _ _) C3.out C4.out (C5.out _) ?_)
     intro v' w1 hown hgrow _
     have hst := STEP.out (x - c) (x - c + 10) 1 w1 v' (by omega) (by rw [if_pos hs]) (by rw [if_pos hs]) hia _ hown hgrow
     obtain ⟨p', c', rfl⟩ := owned_slice hown
     have HST := Lib.hid hst
     clear hst hown hgrow
     go_wp2
     go_roundw
     case rel => exact ⟨i + 1, 1, xs ++ [x - c + 10], p', c', by omega, by go_num, rfl, by simp, by omega, by omega, by show MinusRel _ _ _ _ _ _ _ _; rw [List.length_append]; exact HST.out⟩
     case measure => simp [intOf]; omega
    ·go_wp2_with (at_builtin; refine wpList_append_own _ rfl _ _ 65 rfl w.heap.size 3 i0 (.int .i64 0) 1 8 Try.underlying65 hi hz0 hz1 hz2 rfl (by decide) _ _ _ rfl (HR.out.2.2.1.alloc _) ⟨wr.heap.size, 0, none⟩ 1 1 [.int .i64 (x - c)] rfl rfl (one_new _ _ _) (one_cells _ _) C3.out C4.out (C5.out _) ?_)
     intro v' w1 hown hgrow _
     have hst := STEP.out (x - c) (x - c) 0 w1 v' (by omega) (by rw [if_neg (by omega)]) (by rw [if_neg (by omega)]) hia _ hown hgrow
     obtain ⟨p', c', rfl⟩ := owned_slice hown
     have HST := Lib.hid hst
     clear hst hown hgrow
     go_wp2
     go_roundw
     case rel => exact ⟨i + 1, 0, xs ++ [x - c], p', c', by omega, by go_num, rfl, by simp, by omega, by omega, by show MinusRel _ _ _ _ _ _ _ _; rw [List.length_append]; exact HST.out⟩
     case measure => simp [intOf]; omega
  ·have hR := HR.out
   have e : minusC a b 0 = xs := by rw [hR.1, minusC_stop a b i c (by rw [HLA.out]; omega), List.append_nil]
   have hrow : Row .i64 wr (.slice po xs.length co) (minusC a b 0) := by rw [e]; exact Row.owned hR.2.2.1
   have hbel := hR.2.2.2
   have hlen : xs.length ≤ 1000000 := by have := hxl.out; omega
   have hlm : (minusC a b 0).length ≤ 1000000 := by rw [e]; exact hlen
   have HBL := Lib.hid hbel
   have HE := Lib.hid e
   clear CX CY HY hR STEP e hbel HR
   go_wp2_with (go_at_call 39; refine (trim_any _ _ _ hlm hrow).mono ?_; rintro e w' ⟨v', rfl, hrow', rfl⟩)
   go_ret
   exact ⟨_, rfl, hrow', HBL.out⟩
end Go.Proofs.Yteogdfpkcoodlaa
namespace Go.Proofs.Yteogdfpkcoodlaa
open Go.RowKit

theorem Row.below {k : IntKind} {w w' : World} {v : Value} {zs : List Int} {B : Nat} (h : Row k w v zs) (hb : Below B w w') (hB : w.heap.size ≤ B) : Row k w' v zs := h.kept (hb.mono hB)

theorem Row.form {k : IntKind} {w : World} {v : Value} {zs : List Int} (h : Row k w v zs) : ∃ p c, v = .slice p zs.length c := by obtain ⟨p, c, e, _⟩ := h; exact ⟨p, c, e⟩

/-- What a cell holds, whatever that is. -/
def peek (w : World) (a : Addr) : Value := (w.cell? a).getD undef
theorem peek_ok {w : World} {a : Addr} {v : Value} (h : w.cell? a = some v) : w.cell? a = some (peek w a) := by unfold peek; rw [h]; rfl
theorem set2_cell {w : World} {b : Nat} {x y : Value} {a : Addr} (h : a.block ≠ b) : ((w.setCell ⟨b, 0, none⟩ x).setCell ⟨b, 1, none⟩ y).cell? a = w.cell? a := by
 rw [World.cell?_of_block (w := w.setCell ⟨b, 0, none⟩ x) (Below.heap_setCell _ _ _ _ h), World.cell?_of_block (w := w) (Below.heap_setCell _ _ _ _ h)]
theorem set2_peek {w : World} {b : Nat} {x y u v : Value} (h0 : w.cell? ⟨b, 0, none⟩ = some u) (h1 : w.cell? ⟨b, 1, none⟩ = some v) :
  ((w.setCell ⟨b, 0, none⟩ x).setCell ⟨b, 1, none⟩ y).cell? ⟨b, 0, none⟩ = some (peek ((w.setCell ⟨b, 0, none⟩ x).setCell ⟨b, 1, none⟩ y) ⟨b, 0, none⟩) ∧
  ((w.setCell ⟨b, 0, none⟩ x).setCell ⟨b, 1, none⟩ y).cell? ⟨b, 1, none⟩ = some (peek ((w.setCell ⟨b, 0, none⟩ x).setCell ⟨b, 1, none⟩ y) ⟨b, 1, none⟩) := by
 constructor
 ·refine peek_ok (v := x) ?_
  rw [World.cell?_setCell_other _ _ _ _ (by simp)]
  exact World.cell?_setCell_same _ _ _ h0
 ·have h2 : (w.setCell ⟨b, 0, none⟩ x).cell? ⟨b, 1, none⟩ = some v := by rw [World.cell?_setCell_other _ _ _ _ (by simp)]; exact h1
  exact peek_ok (World.cell?_setCell_same _ _ _ h2)

/-- A row stays when a cell is written that holds no number of its kind. -/
theorem Row.set {k : IntKind} {w : World} {v : Value} {zs : List Int} (h : Row k w v zs) {a : Addr} {x : Value} (hx : w.cell? a = some x) (hne : ∀ n, x ≠ .int k n) (u : Value) : Row k (w.setCell a u) v zs := by
 obtain ⟨p, c, rfl, hc, h⟩ := h
 refine ⟨p, c, rfl, hc, ?_⟩
 rcases h with h | ⟨b, o, rfl, h⟩
 ·exact .inl h
 ·refine .inr ⟨b, o, rfl, fun i hi => ?_⟩
  have h1 := h i hi
  rw [World.cell?_setCell_other _ _ _ _ (fun e => by
   rw [e, h1] at hx
   exact hne _ (Option.some.inj hx).symm)]
  exact h1

/-- What a region holds while it calls: the two numbers' cells, and a place for the answer. -/
abbrev Held (h : Nat) (m s n t : Value) (w : World) : Prop :=
 w.cell? ⟨h, 0, none⟩ = some m ∧ w.cell? ⟨h, 1, none⟩ = some s ∧ w.cell? ⟨h + 1, 0, none⟩ = some n ∧ w.cell? ⟨h + 1, 1, none⟩ = some t ∧
 w.cell? ⟨h + 1 + 1, 0, none⟩ = some (peek w ⟨h + 1 + 1, 0, none⟩) ∧ w.cell? ⟨h + 1 + 1, 1, none⟩ = some (peek w ⟨h + 1 + 1, 1, none⟩) ∧
 w.frozen? ⟨h + 1 + 1, 0, none⟩ = false ∧ w.frozen? ⟨h + 1 + 1, 1, none⟩ = false
theorem held_call {h : Nat} {m s n t : Value} {w w' : World} (H : Held h m s n t w) (hb : Below w.heap.size w w') : Held h m s n t w' := by
 obtain ⟨h1, h2, h0, h3, h4, h5, h6, h7⟩ := H
 have l := World.block_lt_of_cell? w _ h4
 simp only at l
 refine ⟨?_, ?_, ?_, ?_, ?_, ?_, ?_, ?_⟩
 ·rw [hb.cell (p := ⟨h, 0, none⟩) (by simp; omega)]; exact h1
 ·rw [hb.cell (p := ⟨h, 1, none⟩) (by simp; omega)]; exact h2
 ·rw [hb.cell (p := ⟨h + 1, 0, none⟩) (by simp; omega)]; exact h0
 ·rw [hb.cell (p := ⟨h + 1, 1, none⟩) (by simp; omega)]; exact h3
 ·refine peek_ok (v := peek w ⟨h + 1 + 1, 0, none⟩) ?_; rw [hb.cell (p := ⟨h + 1 + 1, 0, none⟩) (by simp; omega)]; exact h4
 ·refine peek_ok (v := peek w ⟨h + 1 + 1, 1, none⟩) ?_; rw [hb.cell (p := ⟨h + 1 + 1, 1, none⟩) (by simp; omega)]; exact h5
 ·rw [hb.frozen (p := ⟨h + 1 + 1, 0, none⟩) (by simp; omega)]; exact h6
 ·rw [hb.frozen (p := ⟨h + 1 + 1, 1, none⟩) (by simp; omega)]; exact h7
theorem held_set {h : Nat} {m s n t : Value} {w : World} (H : Held h m s n t w) (x y : Value) : Held h m s n t ((w.setCell ⟨h + 1 + 1, 0, none⟩ x).setCell ⟨h + 1 + 1, 1, none⟩ y) := by
 obtain ⟨h1, h2, h0, h3, h4, h5, h6, h7⟩ := H
 exact ⟨by rw [set2_cell (by simp; omega)]; exact h1, by rw [set2_cell (by simp; omega)]; exact h2, by rw [set2_cell (by simp)]; exact h0, by rw [set2_cell (by simp)]; exact h3, (set2_peek h4 h5).1, (set2_peek h4 h5).2, by simpa using h6, by simpa using h7⟩
theorem held_drew {h : Nat} {m s n t : Value} {w : World} (H : Held h m s n t w) : Held h m s n t w.drew := H

set_option maxHeartbeats 2000000 in
theorem bigplus_same (s t : Value) (m n : Bool) (da db : List Int) (w : World) (ha : Norm da) (hb : Norm db) (hla : da.length ≤ 1000) (hlb : db.length ≤ 1000) (hs : Row .i64 w s da) (ht : Row .i64 w t db) (hmm : (m == n) = true) :
  Calls Try.prog 25 #[.agg #[.bool m, s], .agg #[.bool n, t]] w fun e w' => ∃ v, e = .returned (.agg #[.bool m, v]) ∧ Row .i64 w' v (trimL (plusC da db 0)) ∧ Below w.heap.size w w' := by
 have hl : (plusC da db 0).length ≤ 1000000 := by have := (plusC_spec da db 0 ha.1 hb.1 (by decide) (by decide)).2.2; omega
 obtain ⟨p, ca, rfl⟩ := hs.form
 obtain ⟨q, cb, rfl⟩ := ht.form
 have HS := Lib.hid hs
 have HT := Lib.hid ht
 clear hs ht
 go_enter Try.func25, Try.ntmps25
 go_wp2_with fail
 have b0 : Blk (((w.alloc (.cells #[.bool m, .slice p da.length ca] 85)).alloc (.cells #[.bool n, .slice q db.length cb] 85)).alloc (.cells #[.bool false, .slice none 0 0] 85)) w.heap.size _ _ := ((Blk.new w _ _).alloc _).alloc _
 have b1 : Blk (((w.alloc (.cells #[.bool m, .slice p da.length ca] 85)).alloc (.cells #[.bool n, .slice q db.length cb] 85)).alloc (.cells #[.bool false, .slice none 0 0] 85)) (w.heap.size + 1) _ _ := (Blk.new' _ _ _ (by simp)).alloc _
 have b2 : Blk (((w.alloc (.cells #[.bool m, .slice p da.length ca] 85)).alloc (.cells #[.bool n, .slice q db.length cb] 85)).alloc (.cells #[.bool false, .slice none 0 0] 85)) (w.heap.size + 1 + 1) _ _ := Blk.new' _ _ _ (by simp)
 have hbw : Below w.heap.size w (((w.alloc (.cells #[.bool m, .slice p da.length ca] 85)).alloc (.cells #[.bool n, .slice q db.length cb] 85)).alloc (.cells #[.bool false, .slice none 0 0] 85)) := (((Below.refl _ _).alloc (Nat.le_refl _) _).alloc (by simp) _).alloc (by simp; omega) _
 generalize (((w.alloc (.cells #[.bool m, .slice p da.length ca] 85)).alloc (.cells #[.bool n, .slice q db.length cb] 85)).alloc (.cells #[.bool false, .slice none 0 0] 85)) = W at *
 have hsW := b2.lt
 have c00 : W.cell? ⟨w.heap.size, 0, none⟩ = some (.bool m) := b0.cell 0
 have c01 : W.cell? ⟨w.heap.size, 1, none⟩ = some (.slice p da.length ca) := b0.cell 1
 have c10 : W.cell? ⟨w.heap.size + 1, 0, none⟩ = some (.bool n) := b1.cell 0
 have c11 : W.cell? ⟨w.heap.size + 1, 1, none⟩ = some (.slice q db.length cb) := b1.cell 1
 have c20 := peek_ok (show W.cell? ⟨w.heap.size + 1 + 1, 0, none⟩ = some (.bool false) from b2.cell 0)
 have c21 := peek_ok (show W.cell? ⟨w.heap.size + 1 + 1, 1, none⟩ = some (.slice none 0 0) from b2.cell 1)
 have f20 := b2.free 0
 have f21 := b2.free 1
 have RA := Lib.hid (fun (W' : World) (h : Below w.heap.size W W') => HS.out.below (hbw.trans h) (Nat.le_refl _))
 have RB := Lib.hid (fun (W' : World) (h : Below w.heap.size W W') => HT.out.below (hbw.trans h) (Nat.le_refl _))
 have HBW := Lib.hid hbw
 have B2 := Lib.hid b2
 clear b0 b1 b2 hbw HS HT
 go_region_held3 (fun w' => w'.cell? ⟨w.heap.size, 0, none⟩ = some (.bool m) ∧ w'.cell? ⟨w.heap.size, 1, none⟩ = some (.slice p da.length ca) ∧ w'.cell? ⟨w.heap.size + 1, 0, none⟩ = some (.bool n) ∧ w'.cell? ⟨w.heap.size + 1, 1, none⟩ = some (.slice q db.length cb) ∧ w'.cell? ⟨w.heap.size + 1 + 1, 0, none⟩ = some (peek w' ⟨w.heap.size + 1 + 1, 0, none⟩) ∧ w'.cell? ⟨w.heap.size + 1 + 1, 1, none⟩ = some (peek w' ⟨w.heap.size + 1 + 1, 1, none⟩) ∧ w'.frozen? ⟨w.heap.size + 1 + 1, 0, none⟩ = false ∧ w'.frozen? ⟨w.heap.size + 1 + 1, 1, none⟩ = false)
  (first | (refine held_set ?_ _ _; assumption) | (refine held_call ?_ hb1; assumption) | assumption | (refine held_drew ⟨?_, ?_, ?_, ?_, ?_, ?_, ?_, ?_⟩ <;> assumption))
  (first
   | (go_at_call 40; refine (plus_any _ _ da db _ ha.1 hb.1 (by omega) (by omega) (RA.out _ ?_) (RB.out _ ?_)).mono ?_; (exact Below.drew (Below.refl _ _)); (exact Below.drew (Below.refl _ _)); rintro e w1 ⟨v1, rfl, hrow1, hb1⟩; obtain ⟨p1, c1, rfl⟩ := hrow1.form)
   | (go_at_call 39; refine (trim_any _ _ _ hl (hrow1.kept ?_)).mono ?_; (first | exact Below.refl _ _ | exact Below.drew (Below.refl _ _)); rintro e w2 ⟨v2, rfl, hrow2, rfl⟩; obtain ⟨p2, c2, rfl⟩ := hrow2.form))
 go_wp2
 have e3 := B2.out.drew.below hb1 hsW
 have hf := (e3.set 0 (.bool m)).set 1 (.slice p2 (trimL (plusC da db 0)).length c2)
 refine bodyPost_ret (v := .agg #[.bool m, .slice p2 (trimL (plusC da db 0)).length c2]) (by simp [results, Try.results25, go_sem, hf.cell 0, hf.cell 1]) rfl ?_
 have r1 := hrow2.set (e3.cell 0) (by intro n; simp) (.bool m)
 have r2 := r1.set ((e3.set 0 (.bool m)).cell 1) (by intro n; simp) (.slice p2 (trimL (plusC da db 0)).length c2)
 exact ⟨_, rfl, r2, (((HBW.out.drew.trans (hb1.mono (by simp; omega))).setCell (p := ⟨w.heap.size + 1 + 1, 0, none⟩) (by simp; omega) _).setCell (p := ⟨w.heap.size + 1 + 1, 1, none⟩) (by simp; omega) _)⟩

set_option maxHeartbeats 2000000 in
theorem bigplus_less (s t : Value) (m n : Bool) (da db : List Int) (w : World) (ha : Norm da) (hb : Norm db) (hla : da.length ≤ 1000) (hlb : db.length ≤ 1000) (hs : Row .i64 w s da) (ht : Row .i64 w t db) (hmm : (m == n) = false) (hless : lessB (val da) (val db) = true) :
  Calls Try.prog 25 #[.agg #[.bool m, s], .agg #[.bool n, t]] w fun e w' => ∃ v, e = .returned (.agg #[.bool n, v]) ∧ Row .i64 w' v (trimL (minusC db da 0)) ∧ Below w.heap.size w w' := by
 obtain ⟨p, ca, rfl⟩ := hs.form
 obtain ⟨q, cb, rfl⟩ := ht.form
 have HS := Lib.hid hs
 have HT := Lib.hid ht
 clear hs ht
 go_enter Try.func25, Try.ntmps25
 go_wp2_with fail
 have b0 : Blk (((w.alloc (.cells #[.bool m, .slice p da.length ca] 85)).alloc (.cells #[.bool n, .slice q db.length cb] 85)).alloc (.cells #[.bool false, .slice none 0 0] 85)) w.heap.size _ _ := ((Blk.new w _ _).alloc _).alloc _
 have b1 : Blk (((w.alloc (.cells #[.bool m, .slice p da.length ca] 85)).alloc (.cells #[.bool n, .slice q db.length cb] 85)).alloc (.cells #[.bool false, .slice none 0 0] 85)) (w.heap.size + 1) _ _ := (Blk.new' _ _ _ (by simp)).alloc _
 have b2 : Blk (((w.alloc (.cells #[.bool m, .slice p da.length ca] 85)).alloc (.cells #[.bool n, .slice q db.length cb] 85)).alloc (.cells #[.bool false, .slice none 0 0] 85)) (w.heap.size + 1 + 1) _ _ := Blk.new' _ _ _ (by simp)
 have hbw : Below w.heap.size w (((w.alloc (.cells #[.bool m, .slice p da.length ca] 85)).alloc (.cells #[.bool n, .slice q db.length cb] 85)).alloc (.cells #[.bool false, .slice none 0 0] 85)) := (((Below.refl _ _).alloc (Nat.le_refl _) _).alloc (by simp) _).alloc (by simp; omega) _
 generalize (((w.alloc (.cells #[.bool m, .slice p da.length ca] 85)).alloc (.cells #[.bool n, .slice q db.length cb] 85)).alloc (.cells #[.bool false, .slice none 0 0] 85)) = W at *
 have hsW := b2.lt
 have c00 : W.cell? ⟨w.heap.size, 0, none⟩ = some (.bool m) := b0.cell 0
 have c01 : W.cell? ⟨w.heap.size, 1, none⟩ = some (.slice p da.length ca) := b0.cell 1
 have c10 : W.cell? ⟨w.heap.size + 1, 0, none⟩ = some (.bool n) := b1.cell 0
 have c11 : W.cell? ⟨w.heap.size + 1, 1, none⟩ = some (.slice q db.length cb) := b1.cell 1
 have c20 := peek_ok (show W.cell? ⟨w.heap.size + 1 + 1, 0, none⟩ = some (.bool false) from b2.cell 0)
 have c21 := peek_ok (show W.cell? ⟨w.heap.size + 1 + 1, 1, none⟩ = some (.slice none 0 0) from b2.cell 1)
 have f20 := b2.free 0
 have f21 := b2.free 1
 have RA := Lib.hid (fun (W' : World) (h : Below w.heap.size W W') => HS.out.below (hbw.trans h) (Nat.le_refl _))
 have RB := Lib.hid (fun (W' : World) (h : Below w.heap.size W W') => HT.out.below (hbw.trans h) (Nat.le_refl _))
 have HBW := Lib.hid hbw
 have B2 := Lib.hid b2
 clear b0 b1 b2 hbw HS HT
 go_wp2_with (go_at_call 41; refine (less_any _ _ da db _ ha hb (by omega) (by omega) (RA.out _ (Below.refl _ _)) (RB.out _ (Below.refl _ _))).mono ?_; rintro e w0 ⟨rfl, hb0⟩; rw [hless])
 obtain ⟨d00, d01, d10, d11, d20, d21, g20, g21⟩ := held_call ⟨c00, c01, c10, c11, c20, c21, f20, f21⟩ hb0
 have hs0 := hb0.size
 clear c00 c01 c10 c11 c20 c21 f20 f21
 go_region_held3 (fun w' => w'.cell? ⟨w.heap.size, 0, none⟩ = some (.bool m) ∧ w'.cell? ⟨w.heap.size, 1, none⟩ = some (.slice p da.length ca) ∧ w'.cell? ⟨w.heap.size + 1, 0, none⟩ = some (.bool n) ∧ w'.cell? ⟨w.heap.size + 1, 1, none⟩ = some (.slice q db.length cb) ∧ w'.cell? ⟨w.heap.size + 1 + 1, 0, none⟩ = some (peek w' ⟨w.heap.size + 1 + 1, 0, none⟩) ∧ w'.cell? ⟨w.heap.size + 1 + 1, 1, none⟩ = some (peek w' ⟨w.heap.size + 1 + 1, 1, none⟩) ∧ w'.frozen? ⟨w.heap.size + 1 + 1, 0, none⟩ = false ∧ w'.frozen? ⟨w.heap.size + 1 + 1, 1, none⟩ = false)
  (first | (refine held_set ?_ _ _; assumption) | (refine held_call ?_ hb1; assumption) | assumption | (refine held_drew ⟨?_, ?_, ?_, ?_, ?_, ?_, ?_, ?_⟩ <;> assumption))
  (first
   | (go_at_call 42; refine (minus_any _ _ db da _ hb.1 ha.1 (by omega) (by omega) (RB.out _ ?_) (RA.out _ ?_)).mono ?_; (exact (hb0.mono (by omega)).drew); (exact (hb0.mono (by omega)).drew); rintro e w1 ⟨v2, rfl, hrow2, hb1⟩; obtain ⟨p2, c2, rfl⟩ := hrow2.form))
 go_wp2
 have e3 := (B2.out.below hb0 hsW).drew.below hb1 (by simp; omega)
 have hf := (e3.set 0 (.bool n)).set 1 (.slice p2 (trimL (minusC db da 0)).length c2)
 refine bodyPost_ret (v := .agg #[.bool n, .slice p2 (trimL (minusC db da 0)).length c2]) (by simp [results, Try.results25, go_sem, hf.cell 0, hf.cell 1]) rfl ?_
 have r1 := hrow2.set (e3.cell 0) (by intro n; simp) (.bool n)
 have r2 := r1.set ((e3.set 0 (.bool n)).cell 1) (by intro n; simp) (.slice p2 (trimL (minusC db da 0)).length c2)
 exact ⟨_, rfl, r2, ((((HBW.out.trans (hb0.mono (by omega))).drew.trans (hb1.mono (by simp; omega))).setCell (p := ⟨w.heap.size + 1 + 1, 0, none⟩) (by simp; omega) _).setCell (p := ⟨w.heap.size + 1 + 1, 1, none⟩) (by simp; omega) _)⟩

set_option maxHeartbeats 2000000 in
theorem bigplus_more_no (s t : Value) (n : Bool) (da db : List Int) (w : World) (ha : Norm da) (hb : Norm db) (hla : da.length ≤ 1000) (hlb : db.length ≤ 1000) (hs : Row .i64 w s da) (ht : Row .i64 w t db) (hmm : (false == n) = false) (hless : lessB (val da) (val db) = false) :
  Calls Try.prog 25 #[.agg #[.bool false, s], .agg #[.bool n, t]] w fun e w' => ∃ v, e = .returned (.agg #[.bool false, v]) ∧ Row .i64 w' v (trimL (minusC da db 0)) ∧ Below w.heap.size w w' := by
 obtain ⟨p, ca, rfl⟩ := hs.form
 obtain ⟨q, cb, rfl⟩ := ht.form
 have HS := Lib.hid hs
 have HT := Lib.hid ht
 clear hs ht
 go_enter Try.func25, Try.ntmps25
 go_wp2_with fail
 have b0 : Blk (((w.alloc (.cells #[.bool false, .slice p da.length ca] 85)).alloc (.cells #[.bool n, .slice q db.length cb] 85)).alloc (.cells #[.bool false, .slice none 0 0] 85)) w.heap.size _ _ := ((Blk.new w _ _).alloc _).alloc _
 have b1 : Blk (((w.alloc (.cells #[.bool false, .slice p da.length ca] 85)).alloc (.cells #[.bool n, .slice q db.length cb] 85)).alloc (.cells #[.bool false, .slice none 0 0] 85)) (w.heap.size + 1) _ _ := (Blk.new' _ _ _ (by simp)).alloc _
 have b2 : Blk (((w.alloc (.cells #[.bool false, .slice p da.length ca] 85)).alloc (.cells #[.bool n, .slice q db.length cb] 85)).alloc (.cells #[.bool false, .slice none 0 0] 85)) (w.heap.size + 1 + 1) _ _ := Blk.new' _ _ _ (by simp)
 have hbw : Below w.heap.size w (((w.alloc (.cells #[.bool false, .slice p da.length ca] 85)).alloc (.cells #[.bool n, .slice q db.length cb] 85)).alloc (.cells #[.bool false, .slice none 0 0] 85)) := (((Below.refl _ _).alloc (Nat.le_refl _) _).alloc (by simp) _).alloc (by simp; omega) _
 generalize (((w.alloc (.cells #[.bool false, .slice p da.length ca] 85)).alloc (.cells #[.bool n, .slice q db.length cb] 85)).alloc (.cells #[.bool false, .slice none 0 0] 85)) = W at *
 have hsW := b2.lt
 have c00 : W.cell? ⟨w.heap.size, 0, none⟩ = some (.bool false) := b0.cell 0
 have c01 : W.cell? ⟨w.heap.size, 1, none⟩ = some (.slice p da.length ca) := b0.cell 1
 have c10 : W.cell? ⟨w.heap.size + 1, 0, none⟩ = some (.bool n) := b1.cell 0
 have c11 : W.cell? ⟨w.heap.size + 1, 1, none⟩ = some (.slice q db.length cb) := b1.cell 1
 have c20 := peek_ok (show W.cell? ⟨w.heap.size + 1 + 1, 0, none⟩ = some (.bool false) from b2.cell 0)
 have c21 := peek_ok (show W.cell? ⟨w.heap.size + 1 + 1, 1, none⟩ = some (.slice none 0 0) from b2.cell 1)
 have f20 := b2.free 0
 have f21 := b2.free 1
 have RA := Lib.hid (fun (W' : World) (h : Below w.heap.size W W') => HS.out.below (hbw.trans h) (Nat.le_refl _))
 have RB := Lib.hid (fun (W' : World) (h : Below w.heap.size W W') => HT.out.below (hbw.trans h) (Nat.le_refl _))
 have HBW := Lib.hid hbw
 have B2 := Lib.hid b2
 clear b0 b1 b2 hbw HS HT
 clear hmm
 go_wp2_with (first
  | (go_at_call 41; refine (less_any _ _ da db _ ha hb (by omega) (by omega) (RA.out _ (Below.refl _ _)) (RB.out _ (Below.refl _ _))).mono ?_; rintro e w0 ⟨rfl, hb0⟩; rw [hless]; obtain ⟨d00, d01, d10, d11, d20, d21, g20, g21⟩ := held_call ⟨c00, c01, c10, c11, c20, c21, f20, f21⟩ hb0; have hs0 := hb0.size; clear c00 c01 c10 c11 c20 c21 f20 f21)
  | (go_at_call 42; refine (minus_any _ _ da db _ ha.1 hb.1 (by omega) (by omega) (RA.out _ (hb0.mono (by omega))) (RB.out _ (hb0.mono (by omega)))).mono ?_; rintro e w1 ⟨v2, rfl, hrow2, hb1⟩; obtain ⟨p2, c2, rfl⟩ := hrow2.form; obtain ⟨e00, e01, e10, e11, e20, e21, h20, h21⟩ := held_call ⟨d00, d01, d10, d11, d20, d21, g20, g21⟩ hb1; clear d00 d01 d10 d11 d20 d21 g20 g21))
 have e3 := (B2.out.below hb0 hsW).below hb1 (by omega)
 have hf := (e3.set 0 (.bool false)).set 1 (.slice p2 (trimL (minusC da db 0)).length c2)
 refine bodyPost_ret (v := .agg #[.bool false, .slice p2 (trimL (minusC da db 0)).length c2]) (by simp [results, Try.results25, go_sem, hf.cell 0, hf.cell 1]) rfl ?_
 have r1 := hrow2.set (e3.cell 0) (by intro n; simp) (.bool false)
 have r2 := r1.set ((e3.set 0 (.bool false)).cell 1) (by intro n; simp) (.slice p2 (trimL (minusC da db 0)).length c2)
 exact ⟨_, rfl, r2, ((((HBW.out.trans (hb0.mono (by omega))).trans (hb1.mono (by omega))).setCell (p := ⟨w.heap.size + 1 + 1, 0, none⟩) (by simp; omega) _).setCell (p := ⟨w.heap.size + 1 + 1, 1, none⟩) (by simp; omega) _)⟩

set_option maxHeartbeats 2000000 in
theorem bigplus_more_yes (s t : Value) (n : Bool) (da db : List Int) (w : World) (ha : Norm da) (hb : Norm db) (hla : da.length ≤ 1000) (hlb : db.length ≤ 1000) (hs : Row .i64 w s da) (ht : Row .i64 w t db) (hmm : (true == n) = false) (hless : lessB (val da) (val db) = false) (h0 : 0 < (trimL (minusC da db 0)).length) :
  Calls Try.prog 25 #[.agg #[.bool true, s], .agg #[.bool n, t]] w fun e w' => ∃ v, e = .returned (.agg #[.bool true, v]) ∧ Row .i64 w' v (trimL (minusC da db 0)) ∧ Below w.heap.size w w' := by
 obtain ⟨p, ca, rfl⟩ := hs.form
 obtain ⟨q, cb, rfl⟩ := ht.form
 have HS := Lib.hid hs
 have HT := Lib.hid ht
 clear hs ht
 go_enter Try.func25, Try.ntmps25
 go_wp2_with fail
 have b0 : Blk (((w.alloc (.cells #[.bool true, .slice p da.length ca] 85)).alloc (.cells #[.bool n, .slice q db.length cb] 85)).alloc (.cells #[.bool false, .slice none 0 0] 85)) w.heap.size _ _ := ((Blk.new w _ _).alloc _).alloc _
 have b1 : Blk (((w.alloc (.cells #[.bool true, .slice p da.length ca] 85)).alloc (.cells #[.bool n, .slice q db.length cb] 85)).alloc (.cells #[.bool false, .slice none 0 0] 85)) (w.heap.size + 1) _ _ := (Blk.new' _ _ _ (by simp)).alloc _
 have b2 : Blk (((w.alloc (.cells #[.bool true, .slice p da.length ca] 85)).alloc (.cells #[.bool n, .slice q db.length cb] 85)).alloc (.cells #[.bool false, .slice none 0 0] 85)) (w.heap.size + 1 + 1) _ _ := Blk.new' _ _ _ (by simp)
 have hbw : Below w.heap.size w (((w.alloc (.cells #[.bool true, .slice p da.length ca] 85)).alloc (.cells #[.bool n, .slice q db.length cb] 85)).alloc (.cells #[.bool false, .slice none 0 0] 85)) := (((Below.refl _ _).alloc (Nat.le_refl _) _).alloc (by simp) _).alloc (by simp; omega) _
 generalize (((w.alloc (.cells #[.bool true, .slice p da.length ca] 85)).alloc (.cells #[.bool n, .slice q db.length cb] 85)).alloc (.cells #[.bool false, .slice none 0 0] 85)) = W at *
 have hsW := b2.lt
 have c00 : W.cell? ⟨w.heap.size, 0, none⟩ = some (.bool true) := b0.cell 0
 have c01 : W.cell? ⟨w.heap.size, 1, none⟩ = some (.slice p da.length ca) := b0.cell 1
 have c10 : W.cell? ⟨w.heap.size + 1, 0, none⟩ = some (.bool n) := b1.cell 0
 have c11 : W.cell? ⟨w.heap.size + 1, 1, none⟩ = some (.slice q db.length cb) := b1.cell 1
 have c20 := peek_ok (show W.cell? ⟨w.heap.size + 1 + 1, 0, none⟩ = some (.bool false) from b2.cell 0)
 have c21 := peek_ok (show W.cell? ⟨w.heap.size + 1 + 1, 1, none⟩ = some (.slice none 0 0) from b2.cell 1)
 have f20 := b2.free 0
 have f21 := b2.free 1
 have RA := Lib.hid (fun (W' : World) (h : Below w.heap.size W W') => HS.out.below (hbw.trans h) (Nat.le_refl _))
 have RB := Lib.hid (fun (W' : World) (h : Below w.heap.size W W') => HT.out.below (hbw.trans h) (Nat.le_refl _))
 have HBW := Lib.hid hbw
 have B2 := Lib.hid b2
 clear b0 b1 b2 hbw HS HT
 clear hmm
 go_wp2_with (first
  | (go_at_call 41; refine (less_any _ _ da db _ ha hb (by omega) (by omega) (RA.out _ (Below.refl _ _)) (RB.out _ (Below.refl _ _))).mono ?_; rintro e w0 ⟨rfl, hb0⟩; rw [hless]; obtain ⟨d00, d01, d10, d11, d20, d21, g20, g21⟩ := held_call ⟨c00, c01, c10, c11, c20, c21, f20, f21⟩ hb0; have hs0 := hb0.size; clear c00 c01 c10 c11 c20 c21 f20 f21)
  | (go_at_call 42; refine (minus_any _ _ da db _ ha.1 hb.1 (by omega) (by omega) (RA.out _ (hb0.mono (by omega))) (RB.out _ (hb0.mono (by omega)))).mono ?_; rintro e w1 ⟨v2, rfl, hrow2, hb1⟩; obtain ⟨p2, c2, rfl⟩ := hrow2.form; obtain ⟨e00, e01, e10, e11, e20, e21, h20, h21⟩ := held_call ⟨d00, d01, d10, d11, d20, d21, g20, g21⟩ hb1; clear d00 d01 d10 d11 d20 d21 g20 g21))
 have e3 := (B2.out.below hb0 hsW).below hb1 (by omega)
 have hf := (e3.set 0 (.bool true)).set 1 (.slice p2 (trimL (minusC da db 0)).length c2)
 refine bodyPost_ret (v := .agg #[.bool true, .slice p2 (trimL (minusC da db 0)).length c2]) (by simp [results, Try.results25, go_sem, hf.cell 0, hf.cell 1]) rfl ?_
 have r1 := hrow2.set (e3.cell 0) (by intro n; simp) (.bool true)
 have r2 := r1.set ((e3.set 0 (.bool true)).cell 1) (by intro n; simp) (.slice p2 (trimL (minusC da db 0)).length c2)
 exact ⟨_, rfl, r2, ((((HBW.out.trans (hb0.mono (by omega))).trans (hb1.mono (by omega))).setCell (p := ⟨w.heap.size + 1 + 1, 0, none⟩) (by simp; omega) _).setCell (p := ⟨w.heap.size + 1 + 1, 1, none⟩) (by simp; omega) _)⟩

set_option maxHeartbeats 2000000 in
theorem bigplus_more_nil (s t : Value) (n : Bool) (da db : List Int) (w : World) (ha : Norm da) (hb : Norm db) (hla : da.length ≤ 1000) (hlb : db.length ≤ 1000) (hs : Row .i64 w s da) (ht : Row .i64 w t db) (hmm : (true == n) = false) (hless : lessB (val da) (val db) = false) (h0 : decide (0 < (trimL (minusC da db 0)).length) = false) :
  Calls Try.prog 25 #[.agg #[.bool true, s], .agg #[.bool n, t]] w fun e w' => ∃ v, e = .returned (.agg #[.bool false, v]) ∧ Row .i64 w' v (trimL (minusC da db 0)) ∧ Below w.heap.size w w' := by
 obtain ⟨p, ca, rfl⟩ := hs.form
 obtain ⟨q, cb, rfl⟩ := ht.form
 have HS := Lib.hid hs
 have HT := Lib.hid ht
 clear hs ht
 go_enter Try.func25, Try.ntmps25
 go_wp2_with fail
 have b0 : Blk (((w.alloc (.cells #[.bool true, .slice p da.length ca] 85)).alloc (.cells #[.bool n, .slice q db.length cb] 85)).alloc (.cells #[.bool false, .slice none 0 0] 85)) w.heap.size _ _ := ((Blk.new w _ _).alloc _).alloc _
 have b1 : Blk (((w.alloc (.cells #[.bool true, .slice p da.length ca] 85)).alloc (.cells #[.bool n, .slice q db.length cb] 85)).alloc (.cells #[.bool false, .slice none 0 0] 85)) (w.heap.size + 1) _ _ := (Blk.new' _ _ _ (by simp)).alloc _
 have b2 : Blk (((w.alloc (.cells #[.bool true, .slice p da.length ca] 85)).alloc (.cells #[.bool n, .slice q db.length cb] 85)).alloc (.cells #[.bool false, .slice none 0 0] 85)) (w.heap.size + 1 + 1) _ _ := Blk.new' _ _ _ (by simp)
 have hbw : Below w.heap.size w (((w.alloc (.cells #[.bool true, .slice p da.length ca] 85)).alloc (.cells #[.bool n, .slice q db.length cb] 85)).alloc (.cells #[.bool false, .slice none 0 0] 85)) := (((Below.refl _ _).alloc (Nat.le_refl _) _).alloc (by simp) _).alloc (by simp; omega) _
 generalize (((w.alloc (.cells #[.bool true, .slice p da.length ca] 85)).alloc (.cells #[.bool n, .slice q db.length cb] 85)).alloc (.cells #[.bool false, .slice none 0 0] 85)) = W at *
 have hsW := b2.lt
 have c00 : W.cell? ⟨w.heap.size, 0, none⟩ = some (.bool true) := b0.cell 0
 have c01 : W.cell? ⟨w.heap.size, 1, none⟩ = some (.slice p da.length ca) := b0.cell 1
 have c10 : W.cell? ⟨w.heap.size + 1, 0, none⟩ = some (.bool n) := b1.cell 0
 have c11 : W.cell? ⟨w.heap.size + 1, 1, none⟩ = some (.slice q db.length cb) := b1.cell 1
 have c20 := peek_ok (show W.cell? ⟨w.heap.size + 1 + 1, 0, none⟩ = some (.bool false) from b2.cell 0)
 have c21 := peek_ok (show W.cell? ⟨w.heap.size + 1 + 1, 1, none⟩ = some (.slice none 0 0) from b2.cell 1)
 have f20 := b2.free 0
 have f21 := b2.free 1
 have RA := Lib.hid (fun (W' : World) (h : Below w.heap.size W W') => HS.out.below (hbw.trans h) (Nat.le_refl _))
 have RB := Lib.hid (fun (W' : World) (h : Below w.heap.size W W') => HT.out.below (hbw.trans h) (Nat.le_refl _))
 have HBW := Lib.hid hbw
 have B2 := Lib.hid b2
 clear b0 b1 b2 hbw HS HT
 clear hmm
 go_wp2_with (first
  | (go_at_call 41; refine (less_any _ _ da db _ ha hb (by omega) (by omega) (RA.out _ (Below.refl _ _)) (RB.out _ (Below.refl _ _))).mono ?_; rintro e w0 ⟨rfl, hb0⟩; rw [hless]; obtain ⟨d00, d01, d10, d11, d20, d21, g20, g21⟩ := held_call ⟨c00, c01, c10, c11, c20, c21, f20, f21⟩ hb0; have hs0 := hb0.size; clear c00 c01 c10 c11 c20 c21 f20 f21)
  | (go_at_call 42; refine (minus_any _ _ da db _ ha.1 hb.1 (by omega) (by omega) (RA.out _ (hb0.mono (by omega))) (RB.out _ (hb0.mono (by omega)))).mono ?_; rintro e w1 ⟨v2, rfl, hrow2, hb1⟩; obtain ⟨p2, c2, rfl⟩ := hrow2.form; obtain ⟨e00, e01, e10, e11, e20, e21, h20, h21⟩ := held_call ⟨d00, d01, d10, d11, d20, d21, g20, g21⟩ hb1; clear d00 d01 d10 d11 d20 d21 g20 g21))
 have e3 := (B2.out.below hb0 hsW).below hb1 (by omega)
 have hf := (e3.set 0 (.bool false)).set 1 (.slice p2 (trimL (minusC da db 0)).length c2)
 refine bodyPost_ret (v := .agg #[.bool false, .slice p2 (trimL (minusC da db 0)).length c2]) (by simp [results, Try.results25, go_sem, hf.cell 0, hf.cell 1]) rfl ?_
 have r1 := hrow2.set (e3.cell 0) (by intro n; simp) (.bool false)
 have r2 := r1.set ((e3.set 0 (.bool false)).cell 1) (by intro n; simp) (.slice p2 (trimL (minusC da db 0)).length c2)
 exact ⟨_, rfl, r2, ((((HBW.out.trans (hb0.mono (by omega))).trans (hb1.mono (by omega))).setCell (p := ⟨w.heap.size + 1 + 1, 0, none⟩) (by simp; omega) _).setCell (p := ⟨w.heap.size + 1 + 1, 1, none⟩) (by simp; omega) _)⟩

/-- Of at most forty digits. -/
def Small (x : Int) : Prop := x.natAbs < 10 ^ 40
theorem Small.len {x : Int} (h : Small x) : (digs x.natAbs).length ≤ 1000 := Nat.le_trans (digs_length _ 40 h) (by decide)
theorem digs_plus {x y : Int} (h : decide (x < 0) = decide (y < 0)) : trimL (plusC (digs x.natAbs) (digs y.natAbs) 0) = digs (x + y).natAbs ∧ decide (x < 0) = decide (x + y < 0) := by
 obtain ⟨s1, s2, _⟩ := plusC_spec (digs x.natAbs) (digs y.natAbs) 0 (digs_isDigs _) (digs_isDigs _) (by decide) (by decide)
 obtain ⟨t1, t2, _⟩ := trimL_spec _ _ rfl s1
 rw [decide_eq_decide] at h
 refine ⟨?_, by rw [decide_eq_decide]; omega⟩
 rw [norm_digs t1, t2, s2, val_digs, val_digs]
 congr 1; omega
theorem digs_minus {x y : Int} (hle : y.natAbs ≤ x.natAbs) : trimL (minusC (digs x.natAbs) (digs y.natAbs) 0) = digs (x.natAbs - y.natAbs) := by
 obtain ⟨s1, s2⟩ := minusC_spec (digs x.natAbs) (digs y.natAbs) 0 (digs_isDigs _) (digs_isDigs _) (by decide) (by decide) (by rw [val_digs, val_digs]; omega)
 obtain ⟨t1, t2, _⟩ := trimL_spec _ _ rfl s1
 rw [norm_digs t1, t2, s2, val_digs, val_digs]
 congr 1; omega

/-- The contract: two numbers together. -/
theorem bigplus_any (u v : Value) (x y : Int) (w : World) (hx : Small x) (hy : Small y) (hu : IsBig w u x) (hv : IsBig w v y) :
  Calls Try.prog 25 #[u, v] w fun e w' => ∃ r, e = .returned r ∧ IsBig w' r (x + y) ∧ Below w.heap.size w w' := by
 obtain ⟨s, rfl, hs⟩ := hu
 obtain ⟨t, rfl, ht⟩ := hv
 by_cases hsg : decide (x < 0) = decide (y < 0)
 ·refine (bigplus_same s t _ _ _ _ w (digs_norm _) (digs_norm _) hx.len hy.len hs ht (by rw [hsg]; simp)).mono ?_
  rintro e w' ⟨r, rfl, hr, hb⟩
  obtain ⟨e1, e2⟩ := digs_plus hsg
  exact ⟨_, rfl, ⟨r, by rw [e2], by rw [← e1]; exact hr⟩, hb⟩
 ·have hmn : (decide (x < 0) == decide (y < 0)) = false := by rw [beq_eq_false_iff_ne]; exact hsg
  have hne : ¬ (x < 0 ↔ y < 0) := fun h => hsg (by rw [decide_eq_decide]; exact h)
  by_cases hl : x.natAbs < y.natAbs
  ·have hless : lessB (val (digs x.natAbs)) (val (digs y.natAbs)) = true := by unfold lessB; rw [val_digs, val_digs, decide_eq_true_eq]; omega
   refine (bigplus_less s t _ _ _ _ w (digs_norm _) (digs_norm _) hx.len hy.len hs ht hmn hless).mono ?_
   rintro e w' ⟨r, rfl, hr, hb⟩
   rw [digs_minus (by omega)] at hr
   refine ⟨_, rfl, ⟨r, ?_, ?_⟩, hb⟩
   ·rw [show decide (y < 0) = decide (x + y < 0) by rw [decide_eq_decide]; omega]
   ·rw [show (x + y).natAbs = y.natAbs - x.natAbs by omega]; exact hr
  ·have hless : lessB (val (digs x.natAbs)) (val (digs y.natAbs)) = false := by unfold lessB; rw [val_digs, val_digs, decide_eq_false_iff_not]; omega
   have hd := digs_minus (x := x) (y := y) (by omega)
   have ea : (x + y).natAbs = x.natAbs - y.natAbs := by omega
   by_cases hx0 : x < 0
   ·have hmn' : (true == decide (y < 0)) = false := by rw [← hmn]; simp [hx0]
    by_cases h0 : 0 < (trimL (minusC (digs x.natAbs) (digs y.natAbs) 0)).length
    ·have hpos : x.natAbs - y.natAbs ≠ 0 := fun e => by rw [hd, e, digs_zero] at h0; simp at h0
     rw [show decide (x < 0) = true by simpa using hx0]
     refine (bigplus_more_yes s t _ _ _ w (digs_norm _) (digs_norm _) hx.len hy.len hs ht hmn' hless h0).mono ?_
     rintro e w' ⟨r, rfl, hr, hb⟩
     rw [hd] at hr
     refine ⟨_, rfl, ⟨r, ?_, by rw [ea]; exact hr⟩, hb⟩
     rw [show decide (x + y < 0) = true by rw [decide_eq_true_eq]; omega]
    ·have hz : x.natAbs - y.natAbs = 0 := by
      rw [hd] at h0
      exact digs_nil.1 (List.length_eq_zero_iff.1 (by omega))
     rw [show decide (x < 0) = true by simpa using hx0]
     refine (bigplus_more_nil s t _ _ _ w (digs_norm _) (digs_norm _) hx.len hy.len hs ht hmn' hless (by simpa using h0)).mono ?_
     rintro e w' ⟨r, rfl, hr, hb⟩
     rw [hd] at hr
     refine ⟨_, rfl, ⟨r, ?_, by rw [ea]; exact hr⟩, hb⟩
     rw [show decide (x + y < 0) = false by rw [decide_eq_false_iff_not]; omega]
   ·have hmn' : (false == decide (y < 0)) = false := by simp [show y < 0 by omega]
    rw [show decide (x < 0) = false by simpa using hx0]
    refine (bigplus_more_no s t _ _ _ w (digs_norm _) (digs_norm _) hx.len hy.len hs ht hmn' hless).mono ?_
    rintro e w' ⟨r, rfl, hr, hb⟩
    rw [hd] at hr
    refine ⟨_, rfl, ⟨r, ?_, by rw [ea]; exact hr⟩, hb⟩
    rw [show decide (x + y < 0) = false by rw [decide_eq_false_iff_not]; omega]
end Go.Proofs.Yteogdfpkcoodlaa
namespace Go.Proofs.Yteogdfpkcoodlaa
open Go.RowKit

def mostP : List Int := [7, 0, 8, 5, 7, 7, 4, 5, 8, 6, 3, 0, 2, 7, 3, 3, 2, 2, 9]
def mostM : List Int := [8, 0, 8, 5, 7, 7, 4, 5, 8, 6, 3, 0, 2, 7, 3, 3, 2, 2, 9]
theorem mostP_norm : Norm mostP := by unfold Norm IsDigs mostP; decide
theorem mostM_norm : Norm mostM := by unfold Norm IsDigs mostM; decide
theorem mostP_val : val mostP = 9223372036854775807 := by decide
theorem mostM_val : val mostM = 9223372036854775808 := by decide

/-- A row of its own, all cells known. -/
theorem Row.lit (w : World) (T : TypeId) (zs : List Int) (n : Nat) (hn : n = zs.length) {b : Nat} (hb : b = w.heap.size) (cs : Array Value) (hcs : cs = (zs.map (Value.int .i64)).toArray) :
  Row .i64 (w.alloc (.cells cs T)) (.slice (some ⟨b, 0, none⟩) n n) zs := by
 subst hn hb hcs
 refine ⟨_, _, rfl, Nat.le_refl _, .inr ⟨_, _, rfl, fun i hi => ?_⟩⟩
 rw [World.cell?_alloc_at _ _ _ _ rfl, List.getD_eq_getElem?_getD, List.getElem?_eq_getElem hi]
 simp [hi]

theorem val_drop {l : List Int} (h : IsDigs l) (k : Nat) : 0 ≤ val (l.drop k) ∧ val (l.drop k) ≤ val l := by
 induction k generalizing l with
 | zero => exact ⟨val_nonneg h, Int.le_refl _⟩
 | succ k ih =>
  cases l with
  | nil => simp [val]
  | cons d t =>
   obtain ⟨h1, h2⟩ := h.cons
   obtain ⟨a, b⟩ := ih h2
   have := val_nonneg h2
   rw [List.drop_succ_cons]
   simp only [val]; omega
theorem val_drop_step {l : List Int} (m : Nat) (h : m < l.length) : val (l.drop m) = l.getD m 0 + 10 * val (l.drop (m + 1)) := by
 rcases drop_cases l m with ⟨_, e⟩ | ⟨e, _⟩
 ·rw [e, val]
 ·omega
theorem ret_two {a b : Int} {c d : Bool} (h : a = b) (h' : c = d) : Ending.returned (.tuple #[.int .i64 a, .bool c]) = .returned (.tuple #[.int .i64 b, .bool d]) := by rw [h, h']
/-- Do they fit, as a number, with this sign? -/
def fitsB (x : Int) : Bool := decide (Fits x)

set_option maxHeartbeats 2000000 in
set_option maxRecDepth 100000 in
theorem fits_pos (s : Value) (da : List Int) (w : World) (ha : Norm da) (hla : da.length ≤ 1000) (hs : Row .i64 w s da) :
  Calls Try.prog 27 #[.agg #[.bool false, s]] w fun e w' => e = .returned (.tuple #[.int .i64 (sumN (val da)), .bool (fitsB (val da))]) ∧ Below w.heap.size w w' := by
 obtain ⟨p, ca, rfl⟩ := hs.form
 have hv0 := val_nonneg ha.1
 go_enter Try.func27, Try.ntmps27
 go_wp2_with fail
 have b0 : Blk ((w.alloc (.cells #[.bool false, .slice p da.length ca] 85)).alloc (.cells #[.int .i64 7, .int .i64 0, .int .i64 8, .int .i64 5, .int .i64 7, .int .i64 7, .int .i64 4, .int .i64 5, .int .i64 8, .int .i64 6, .int .i64 3, .int .i64 0, .int .i64 2, .int .i64 7, .int .i64 3, .int .i64 3, .int .i64 2, .int .i64 2, .int .i64 9] 3)) w.heap.size _ _ := (Blk.new w _ _).alloc _
 have hbw : Below w.heap.size w ((w.alloc (.cells #[.bool false, .slice p da.length ca] 85)).alloc (.cells #[.int .i64 7, .int .i64 0, .int .i64 8, .int .i64 5, .int .i64 7, .int .i64 7, .int .i64 4, .int .i64 5, .int .i64 8, .int .i64 6, .int .i64 3, .int .i64 0, .int .i64 2, .int .i64 7, .int .i64 3, .int .i64 3, .int .i64 2, .int .i64 2, .int .i64 9] 3)) := ((Below.refl _ _).alloc (Nat.le_refl _) _).alloc (by simp) _
 have hrm : Row .i64 ((w.alloc (.cells #[.bool false, .slice p da.length ca] 85)).alloc (.cells #[.int .i64 7, .int .i64 0, .int .i64 8, .int .i64 5, .int .i64 7, .int .i64 7, .int .i64 4, .int .i64 5, .int .i64 8, .int .i64 6, .int .i64 3, .int .i64 0, .int .i64 2, .int .i64 7, .int .i64 3, .int .i64 3, .int .i64 2, .int .i64 2, .int .i64 9] 3)) (.slice (some ⟨w.heap.size + 1, 0, none⟩) 19 19) mostP := Row.lit _ _ mostP 19 rfl (by simp) _ rfl
 generalize ((w.alloc (.cells #[.bool false, .slice p da.length ca] 85)).alloc (.cells #[.int .i64 7, .int .i64 0, .int .i64 8, .int .i64 5, .int .i64 7, .int .i64 7, .int .i64 4, .int .i64 5, .int .i64 8, .int .i64 6, .int .i64 3, .int .i64 0, .int .i64 2, .int .i64 7, .int .i64 3, .int .i64 3, .int .i64 2, .int .i64 2, .int .i64 9] 3)) = W at *
 have HR := Lib.hid (fun (W' : World) (h : Below w.heap.size W W') => hs.below (hbw.trans h) (Nat.le_refl _))
 have hless := less_any _ _ mostP da W mostP_norm ha (by decide) (by omega) hrm (HR.out W (Below.refl _ _))
 rw [mostP_val] at hless
 have HBW := Lib.hid hbw
 have B0 := Lib.hid b0
 have hsz := b0.lt
 clear hs hbw b0 hrm
 by_cases hf : val da ≤ 9223372036854775807
 ·have hl : lessB 9223372036854775807 (val da) = false := by unfold lessB; rw [decide_eq_false_iff_not]; omega
  have hfit : Fits (val da) := by unfold Fits; omega
  have h1 : Hid (sumN (val da) = val da) := sumN_yes hfit
  have h2 : Hid (fitsB (val da) = true) := by show _ = _; unfold fitsB; simpa using hfit
  rw [hl] at hless
  clear hfit hl
  refine hless.mono ?_
  rintro e w1 ⟨rfl, hb1⟩
  have B1 := B0.out.below hb1 hsz
  have c0 : w1.cell? ⟨w.heap.size, 0, none⟩ = some (.bool false) := B1.cell 0
  have c1 : w1.cell? ⟨w.heap.size, 1, none⟩ = some (.slice p da.length ca) := B1.cell 1
  have R1 := Lib.hid (HR.out w1 (hb1.mono (by omega)))
  have HB := Lib.hid (HBW.out.trans (hb1.mono (by omega)))
  clear hless B1 hb1 HR HBW B0
  go_wp2
  go_loop [5, 6] (fun vn vi => ∃ j V : Int, -1 ≤ j ∧ j < (da.length : Int) ∧ vi = .int .i64 j ∧ vn = .int .i64 (V) ∧ Hid (V = val (da.drop (j + 1).toNat))) (fun _ vi => (intOf vi + 1).toNat)
  case atStart =>
   refine ⟨(da.length : Int) - 1, 0, by omega, by omega, rfl, rfl, ?_⟩
   show _ = _
   rw [List.drop_eq_nil_iff.2 (by omega)]; rfl
  case round =>
   obtain ⟨j, V, hj0, hj1, rfl, rfl, hV⟩ := hrel
   by_cases h0 : j < 0
   ·obtain rfl : j = -1 := by omega
    have hV' : Hid (V = val da) := by have := hV.out; simp at this; exact this
    clear hV
    go_wp2
    go_ret2
    exact ⟨ret_two (by rw [h1.out, hV'.out]) (by rw [h2.out]), HB.out⟩
   ·obtain ⟨k, rfl⟩ : ∃ k : Nat, j = k := ⟨j.toNat, by omega⟩
    have hV' : V = val (da.drop (k + 1)) := by have := hV.out; rw [show ((k : Int) + 1).toNat = k + 1 by omega] at this; exact this
    clear hV
    obtain ⟨b, o, rfl, hc⟩ := R1.out.at k (by omega)
    have hst := val_drop_step (l := da) k (by omega)
    rw [← hV'] at hst
    have hbd := val_drop ha.1 k
    have hbv := (val_drop ha.1 (k + 1)).1
    rw [← hV'] at hbv
    rw [hst] at hbd
    have hdg := digs_getD ha.1 k
    have HST := Lib.hid hst
    generalize da.getD k 0 = d at *
    have hm0 : 0 ≤ d + 10 * V := hbd.1
    have hm1 : d + 10 * V ≤ 9223372036854775807 := Int.le_trans hbd.2 hf
    clear hst hbd hV'
    go_wp2
    go_round
    case rel => exact ⟨(k : Int) - 1, d + 10 * V, by omega, by omega, rfl, by first | rfl | (congr 1; omega), by show _ = _; rw [show ((k : Int) - 1 + 1).toNat = k by omega]; exact HST.out.symm⟩
    case measure => simp [intOf]
 ·have hl : lessB 9223372036854775807 (val da) = true := by unfold lessB; rw [decide_eq_true_eq]; omega
  have hfit : ¬ Fits (val da) := by unfold Fits; omega
  have h1 : Hid (sumN (val da) = 0) := sumN_no hfit
  have h2 : Hid (fitsB (val da) = false) := by show _ = _; unfold fitsB; simpa using hfit
  rw [hl] at hless
  clear hfit hl hf
  refine hless.mono ?_
  rintro e w1 ⟨rfl, hb1⟩
  have HB := Lib.hid (HBW.out.trans (hb1.mono (by omega)))
  clear hless hb1
  go_wp2
  go_ret2
  exact ⟨ret_two (by rw [h1.out]) (by rw [h2.out]), HB.out⟩

set_option maxHeartbeats 2000000 in
set_option maxRecDepth 100000 in
theorem fits_neg (s : Value) (da : List Int) (w : World) (ha : Norm da) (hla : da.length ≤ 1000) (hs : Row .i64 w s da) :
  Calls Try.prog 27 #[.agg #[.bool true, s]] w fun e w' => e = .returned (.tuple #[.int .i64 (sumN (-val da)), .bool (fitsB (-val da))]) ∧ Below w.heap.size w w' := by
 obtain ⟨p, ca, rfl⟩ := hs.form
 have hv0 := val_nonneg ha.1
 go_enter Try.func27, Try.ntmps27
 go_wp2_with fail
 have b0 : Blk (((w.alloc (.cells #[.bool true, .slice p da.length ca] 85)).alloc (.cells #[.int .i64 7, .int .i64 0, .int .i64 8, .int .i64 5, .int .i64 7, .int .i64 7, .int .i64 4, .int .i64 5, .int .i64 8, .int .i64 6, .int .i64 3, .int .i64 0, .int .i64 2, .int .i64 7, .int .i64 3, .int .i64 3, .int .i64 2, .int .i64 2, .int .i64 9] 3)).alloc (.cells #[.int .i64 8, .int .i64 0, .int .i64 8, .int .i64 5, .int .i64 7, .int .i64 7, .int .i64 4, .int .i64 5, .int .i64 8, .int .i64 6, .int .i64 3, .int .i64 0, .int .i64 2, .int .i64 7, .int .i64 3, .int .i64 3, .int .i64 2, .int .i64 2, .int .i64 9] 3)) w.heap.size _ _ := ((Blk.new w _ _).alloc _).alloc _
 have hbw : Below w.heap.size w (((w.alloc (.cells #[.bool true, .slice p da.length ca] 85)).alloc (.cells #[.int .i64 7, .int .i64 0, .int .i64 8, .int .i64 5, .int .i64 7, .int .i64 7, .int .i64 4, .int .i64 5, .int .i64 8, .int .i64 6, .int .i64 3, .int .i64 0, .int .i64 2, .int .i64 7, .int .i64 3, .int .i64 3, .int .i64 2, .int .i64 2, .int .i64 9] 3)).alloc (.cells #[.int .i64 8, .int .i64 0, .int .i64 8, .int .i64 5, .int .i64 7, .int .i64 7, .int .i64 4, .int .i64 5, .int .i64 8, .int .i64 6, .int .i64 3, .int .i64 0, .int .i64 2, .int .i64 7, .int .i64 3, .int .i64 3, .int .i64 2, .int .i64 2, .int .i64 9] 3)) := (((Below.refl _ _).alloc (Nat.le_refl _) _).alloc (by simp) _).alloc (by simp; omega) _
 have hrm : Row .i64 (((w.alloc (.cells #[.bool true, .slice p da.length ca] 85)).alloc (.cells #[.int .i64 7, .int .i64 0, .int .i64 8, .int .i64 5, .int .i64 7, .int .i64 7, .int .i64 4, .int .i64 5, .int .i64 8, .int .i64 6, .int .i64 3, .int .i64 0, .int .i64 2, .int .i64 7, .int .i64 3, .int .i64 3, .int .i64 2, .int .i64 2, .int .i64 9] 3)).alloc (.cells #[.int .i64 8, .int .i64 0, .int .i64 8, .int .i64 5, .int .i64 7, .int .i64 7, .int .i64 4, .int .i64 5, .int .i64 8, .int .i64 6, .int .i64 3, .int .i64 0, .int .i64 2, .int .i64 7, .int .i64 3, .int .i64 3, .int .i64 2, .int .i64 2, .int .i64 9] 3)) (.slice (some ⟨w.heap.size + 1 + 1, 0, none⟩) 19 19) mostM := Row.lit _ _ mostM 19 rfl (by simp) _ rfl
 generalize (((w.alloc (.cells #[.bool true, .slice p da.length ca] 85)).alloc (.cells #[.int .i64 7, .int .i64 0, .int .i64 8, .int .i64 5, .int .i64 7, .int .i64 7, .int .i64 4, .int .i64 5, .int .i64 8, .int .i64 6, .int .i64 3, .int .i64 0, .int .i64 2, .int .i64 7, .int .i64 3, .int .i64 3, .int .i64 2, .int .i64 2, .int .i64 9] 3)).alloc (.cells #[.int .i64 8, .int .i64 0, .int .i64 8, .int .i64 5, .int .i64 7, .int .i64 7, .int .i64 4, .int .i64 5, .int .i64 8, .int .i64 6, .int .i64 3, .int .i64 0, .int .i64 2, .int .i64 7, .int .i64 3, .int .i64 3, .int .i64 2, .int .i64 2, .int .i64 9] 3)) = W at *
 have HR := Lib.hid (fun (W' : World) (h : Below w.heap.size W W') => hs.below (hbw.trans h) (Nat.le_refl _))
 have hless := less_any _ _ mostM da W mostM_norm ha (by decide) (by omega) hrm (HR.out W (Below.refl _ _))
 rw [mostM_val] at hless
 have HBW := Lib.hid hbw
 have B0 := Lib.hid b0
 have hsz := b0.lt
 clear hs hbw b0 hrm
 by_cases hf : val da ≤ 9223372036854775808
 ·have hl : lessB 9223372036854775808 (val da) = false := by unfold lessB; rw [decide_eq_false_iff_not]; omega
  have hfit : Fits (-val da) := by unfold Fits; omega
  have h1 : Hid (sumN (-val da) = -val da) := sumN_yes hfit
  have h2 : Hid (fitsB (-val da) = true) := by show _ = _; unfold fitsB; simpa using hfit
  rw [hl] at hless
  clear hfit hl
  refine hless.mono ?_
  rintro e w1 ⟨rfl, hb1⟩
  have B1 := B0.out.below hb1 hsz
  have c0 : w1.cell? ⟨w.heap.size, 0, none⟩ = some (.bool true) := B1.cell 0
  have c1 : w1.cell? ⟨w.heap.size, 1, none⟩ = some (.slice p da.length ca) := B1.cell 1
  have R1 := Lib.hid (HR.out w1 (hb1.mono (by omega)))
  have HB := Lib.hid (HBW.out.trans (hb1.mono (by omega)))
  clear hless B1 hb1 HR HBW B0
  go_wp2
  go_loop [5, 6] (fun vn vi => ∃ j V : Int, -1 ≤ j ∧ j < (da.length : Int) ∧ vi = .int .i64 j ∧ vn = .int .i64 (-V) ∧ Hid (V = val (da.drop (j + 1).toNat))) (fun _ vi => (intOf vi + 1).toNat)
  case atStart =>
   refine ⟨(da.length : Int) - 1, 0, by omega, by omega, rfl, by simp, ?_⟩
   show _ = _
   rw [List.drop_eq_nil_iff.2 (by omega)]; rfl
  case round =>
   obtain ⟨j, V, hj0, hj1, rfl, rfl, hV⟩ := hrel
   by_cases h0 : j < 0
   ·obtain rfl : j = -1 := by omega
    have hV' : Hid (V = val da) := by have := hV.out; simp at this; exact this
    clear hV
    go_wp2
    go_ret2
    exact ⟨ret_two (by rw [h1.out, hV'.out]) (by rw [h2.out]), HB.out⟩
   ·obtain ⟨k, rfl⟩ : ∃ k : Nat, j = k := ⟨j.toNat, by omega⟩
    have hV' : V = val (da.drop (k + 1)) := by have := hV.out; rw [show ((k : Int) + 1).toNat = k + 1 by omega] at this; exact this
    clear hV
    obtain ⟨b, o, rfl, hc⟩ := R1.out.at k (by omega)
    have hst := val_drop_step (l := da) k (by omega)
    rw [← hV'] at hst
    have hbd := val_drop ha.1 k
    have hbv := (val_drop ha.1 (k + 1)).1
    rw [← hV'] at hbv
    rw [hst] at hbd
    have hdg := digs_getD ha.1 k
    have HST := Lib.hid hst
    generalize da.getD k 0 = d at *
    have hm0 : 0 ≤ d + 10 * V := hbd.1
    have hm1 : d + 10 * V ≤ 9223372036854775808 := Int.le_trans hbd.2 hf
    clear hst hbd hV'
    go_wp2
    go_round
    case rel => exact ⟨(k : Int) - 1, d + 10 * V, by omega, by omega, rfl, by first | rfl | (congr 1; omega), by show _ = _; rw [show ((k : Int) - 1 + 1).toNat = k by omega]; exact HST.out.symm⟩
    case measure => simp [intOf]
 ·have hl : lessB 9223372036854775808 (val da) = true := by unfold lessB; rw [decide_eq_true_eq]; omega
  have hfit : ¬ Fits (-val da) := by unfold Fits; omega
  have h1 : Hid (sumN (-val da) = 0) := sumN_no hfit
  have h2 : Hid (fitsB (-val da) = false) := by show _ = _; unfold fitsB; simpa using hfit
  rw [hl] at hless
  clear hfit hl hf
  refine hless.mono ?_
  rintro e w1 ⟨rfl, hb1⟩
  have HB := Lib.hid (HBW.out.trans (hb1.mono (by omega)))
  clear hless hb1
  go_wp2
  go_ret2
  exact ⟨ret_two (by rw [h1.out]) (by rw [h2.out]), HB.out⟩

theorem fits_any (v : Value) (x : Int) (w : World) (hx : Small x) (hv : IsBig w v x) :
  Calls Try.prog 27 #[v] w fun e w' => e = .returned (.tuple #[.int .i64 (sumN x), .bool (fitsB x)]) ∧ Below w.heap.size w w' := by
 obtain ⟨s, rfl, hs⟩ := hv
 by_cases h : x < 0
 ·rw [show decide (x < 0) = true by simpa using h]
  have := fits_neg s _ w (digs_norm _) hx.len hs
  rw [val_digs, show -((x.natAbs : Nat) : Int) = x by omega] at this
  exact this
 ·rw [show decide (x < 0) = false by simpa using h]
  have := fits_pos s _ w (digs_norm _) hx.len hs
  rw [val_digs, show ((x.natAbs : Nat) : Int) = x by omega] at this
  exact this
end Go.Proofs.Yteogdfpkcoodlaa
namespace Go.Proofs.Yteogdfpkcoodlaa
open Go.RowKit

theorem IsBig.kept {w w' : World} {v : Value} {x : Int} (h : IsBig w v x) (hb : Below w.heap.size w w') : IsBig w' v x := by
 obtain ⟨s, e, hr⟩ := h
 exact ⟨s, e, hr.kept hb⟩
theorem IsBig.form {w : World} {v : Value} {x : Int} (h : IsBig w v x) : ∃ p n c, v = .agg #[.bool (decide (x < 0)), .slice p n c] := by
 obtain ⟨s, e, hr⟩ := h
 obtain ⟨p, c, rfl⟩ := hr.form
 exact ⟨p, _, c, e⟩
theorem IsBig.set {w : World} {v : Value} {x : Int} (h : IsBig w v x) {a : Addr} {y : Value} (hx : w.cell? a = some y) (hne : ∀ n, y ≠ .int .i64 n) (u : Value) : IsBig (w.setCell a u) v x := by
 obtain ⟨s, e, hr⟩ := h
 exact ⟨s, e, hr.set hx hne u⟩
theorem small_sum {zs : List Int} (h : All64 zs) (hl : zs.length ≤ 1000) (k : Nat) : Small (zs.take k).sum := by
 have h1 := sum_bound (zs.take k) (fun a ha => h a (List.mem_of_mem_take ha))
 have h2 : (zs.take k).length ≤ 1000 := by rw [List.length_take]; omega
 unfold Small
 omega
theorem small_one {a : Int} (h : Fits a) : Small a := by unfold Fits at h; unfold Small; omega

/-- What the loop keeps. -/
def SumRel (zs : List Int) (w : World) (k : Nat) (p : Option Addr) (n c : Nat) (wr : World) : Prop :=
 Blk wr w.heap.size #[.bool (decide ((zs.take k).sum < 0)), .slice p n c] 85 ∧ IsBig wr (.agg #[.bool (decide ((zs.take k).sum < 0)), .slice p n c]) (zs.take k).sum ∧ Below w.heap.size w wr

theorem SumRel.step {zs : List Int} {w w2 : World} {k : Nat} {p p' : Option Addr} {n n' c c' : Nat} {mm : Bool} {y : Int} (hB : Blk w2 w.heap.size #[.bool mm, .slice p n c] 85)
  (hy : (zs.take (k + 1)).sum = y) (hbr : IsBig w2 (.agg #[.bool (decide (y < 0)), .slice p' n' c']) y) (hb : Below w.heap.size w w2) :
  SumRel zs w (k + 1) p' n' c' ((w2.setCell ⟨w.heap.size, 0, none⟩ (.bool (decide (y < 0)))).setCell ⟨w.heap.size, 1, none⟩ (.slice p' n' c')) := by
 subst hy
 refine ⟨(hB.set 0 _).set 1 _, ?_, (hb.setCell (by simp) _).setCell (by simp) _⟩
 exact (hbr.set (hB.cell 0) (by intro n; simp) _).set ((hB.set 0 _).cell 1) (by intro n; simp) _

set_option maxHeartbeats 2000000 in
theorem refsum_any (v : Value) (zs : List Int) (w : World) (hm : zs.length ≤ 1000) (h64 : All64 zs) (hrow : Row .i64 w v zs) :
  Calls Try.prog 12 #[v] w fun e w' => e = .returned (.tuple #[.int .i64 (sumN zs.sum), .int .i64 (sumE zs.sum)]) ∧ Below w.heap.size w w' := by
 obtain ⟨p0, c0, rfl⟩ := hrow.form
 have HR := Lib.hid hrow
 have HS : Hid (zs.sum = (zs.take zs.length).sum) := by show _ = _; rw [List.take_length]
 clear hrow
 generalize hn : zs.length = n0 at *
 have HN := Lib.hid hn
 clear hn
 go_enter Try.func12, Try.ntmps12
 go_wp2
 go_loopw [5] (fun vi wr => ∃ (k : Nat) (p : Option Addr) (n c : Nat), k ≤ n0 ∧ vi = .int .i64 k ∧ Hid (SumRel zs w k p n c wr)) (fun vi _ => n0 - (intOf vi).toNat)
 case atStart =>
  refine ⟨0, none, 0, 0, Nat.zero_le _, rfl, ?_, ?_, ?_⟩
  ·simpa using Blk.new w _ _
  ·refine ⟨.slice none 0 0, rfl, none, 0, ?_, ?_, .inl ?_⟩ <;> simp [digs_zero]
  ·exact (Below.refl _ _).alloc (Nat.le_refl _) _
 case round =>
  obtain ⟨k, p, n, c, hk, rfl, HREL⟩ := hrel
  by_cases hlt : k < n0
  ·obtain ⟨b, o, rfl, hc⟩ := HR.out.at k (by rw [HN.out]; exact hlt)
   have hB := HREL.out.1
   have HBIG := Lib.hid HREL.out.2.1
   have hbel := HREL.out.2.2
   have hcl : wr.cell? ⟨b, o + k, none⟩ = some (.int .i64 (zs.getD k 0)) := (hbel.cell (p := ⟨b, o + k, none⟩) (World.block_lt_of_cell? w _ hc)).trans hc
   have ha : Fits (zs.getD k 0) := h64.getD k
   have hsx := small_sum h64 (by rw [HN.out]; exact hm) k
   have hts : Hid ((zs.take (k + 1)).sum = (zs.take k).sum + zs.getD k 0) := take_succ_sum zs k (by rw [HN.out]; exact hlt)
   have c0 : wr.cell? ⟨w.heap.size, 0, none⟩ = some (.bool (decide ((zs.take k).sum < 0))) := hB.cell 0
   have c1 : wr.cell? ⟨w.heap.size, 1, none⟩ = some (.slice p n c) := hB.cell 1
   have hsz := hB.lt
   have HBB := Lib.hid hB
   have HBEL := Lib.hid hbel
   clear hB hbel hc
   generalize (zs.take k).sum = x at *
   generalize zs.getD k 0 = a at *
   have hsa := small_one ha
   generalize hmm : decide (x < 0) = mm at *
   clear hmm
   go_wp2_with fail
   go_region_with (first
    | (go_at_call 26; refine (from_any a _ ha).mono ?_; rintro e w1 ⟨vf, rfl, hbf, hb1⟩; have HB1 : Hid (Below wr.heap.size wr w1) := (by first | exact hb1 | exact (Below.refl _ _).drew.trans hb1); have k0 : w1.cell? ⟨w.heap.size, 0, none⟩ = some (.bool mm) := (HB1.out.cell (p := ⟨w.heap.size, 0, none⟩) hsz).trans c0; have k1 : w1.cell? ⟨w.heap.size, 1, none⟩ = some (.slice p n c) := (HB1.out.cell (p := ⟨w.heap.size, 1, none⟩) hsz).trans c1)
    | (go_at_call 25; refine (bigplus_any _ _ x a _ hsx hsa (HBIG.out.kept ?_) (hbf.kept ?_)).mono ?_; (first | exact HB1.out | exact HB1.out.drew); (first | exact Below.refl _ _ | exact (Below.refl _ _).drew); rintro e w2 ⟨r, rfl, hbr, hb2⟩; have HB2 : Hid (Below wr.heap.size wr w2) := (by first | exact HB1.out.trans (hb2.mono HB1.out.size) | exact HB1.out.drew.trans (hb2.mono HB1.out.size)); have B2 := HBB.out.below HB2.out hsz; have m0 : w2.cell? ⟨w.heap.size, 0, none⟩ = some (.bool mm) := B2.cell 0; have m1 : w2.cell? ⟨w.heap.size, 1, none⟩ = some (.slice p n c) := B2.cell 1; have f0 := B2.free 0; have f1 := B2.free 1; obtain ⟨pr, nr, cr, rfl⟩ := hbr.form))
   all_goals
    go_wp2
    have hst := SumRel.step B2 hts.out hbr (HBEL.out.trans (HB2.out.mono (by omega)))
    go_roundw
    case rel => exact ⟨k + 1, pr, nr, cr, by omega, by go_num, hst⟩
    case measure => simp [intOf]; omega
  ·obtain rfl : k = n0 := by omega
   have hB := HREL.out.1
   have hbig := HREL.out.2.1
   have HBEL := Lib.hid HREL.out.2.2
   have hsx := small_sum h64 (by rw [HN.out]; exact hm) k
   rw [← HS.out] at hB hbig hsx
   have c0 : wr.cell? ⟨w.heap.size, 0, none⟩ = some (.bool (decide (zs.sum < 0))) := hB.cell 0
   have c1 : wr.cell? ⟨w.heap.size, 1, none⟩ = some (.slice p n c) := hB.cell 1
   have hfit := fits_any _ zs.sum wr hsx hbig
   obtain ⟨x, hx⟩ : ∃ x, x = zs.sum := ⟨_, rfl⟩
   rw [← hx] at c0 hfit
   have HX := Lib.hid hx
   clear hx
   generalize decide (x < 0) = mm at *
   have HF : Hid ((fitsB x = true → sumE x = 0) ∧ (fitsB x = false → sumE x = 10 ∧ sumN x = 0)) := by
    constructor
    ·intro h; exact sumE_yes (by simpa [fitsB] using h)
    ·intro h; have h' : ¬ Fits x := by simpa [fitsB] using h
     exact ⟨sumE_no h', sumN_no h'⟩
   have hsz := hB.lt
   clear hB hbig hsx HREL HS
   have HFT := Lib.hid hfit
   clear hfit
   cases hfb : fitsB x with
   | true =>
    have e1 : Hid (sumE x = 0) := HF.out.1 hfb
    go_wp2_with (go_at_call 27; refine HFT.out.mono ?_; rintro e w1 ⟨rfl, hb1⟩; rw [hfb])
    go_ret2
    exact ⟨by rw [← HX.out, e1.out]; rfl, HBEL.out.trans (hb1.mono (by omega))⟩
   | false =>
    have e1 : Hid (sumE x = 10) := (HF.out.2 hfb).1
    have e2 : Hid (sumN x = 0) := (HF.out.2 hfb).2
    go_wp2_with (go_at_call 27; refine HFT.out.mono ?_; rintro e w1 ⟨rfl, hb1⟩; rw [hfb])
    go_ret2
    exact ⟨by rw [← HX.out, e1.out, e2.out]; rfl, HBEL.out.trans (hb1.mono (by omega))⟩
end Go.Proofs.Yteogdfpkcoodlaa
namespace Go.Proofs.Yteogdfpkcoodlaa
open Go.RowKit
set_option linter.unusedSimpArgs false in
set_option maxHeartbeats 4000000 in
set_option maxRecDepth 100000 in
theorem rahead_any (x y : Lin) (w : World) : Calls Try.prog 57 #[x.v, y.v] w fun e w' => e = .returned (.bool (aheadB x y)) ∧ Below w.heap.size w w' := by
 have HB := Lib.hid ((oneB w (.cells #[.int .i64 x.s, .int .i64 x.n, .int .i64 x.b, .int .i64 x.a] 64)).alloc (by simp) (.cells #[.int .i64 y.s, .int .i64 y.n, .int .i64 y.b, .int .i64 y.a] 64))
 unfold Lin.v
 by_cases h1 : x.s < y.s
 ·have HE : Hid (aheadB x y = true) := decide_eq_true (.inl h1)
  go_enter Try.func57, Try.ntmps57
  go_wp2_with fail
  go_ret
  exact ⟨by rw [HE.out]; rfl, HB.out⟩
 ·have h1' : y.s ≤ x.s := by omega
  by_cases h2 : x.s = y.s
  ·have e1 : (x.s == y.s) = true := by simpa using h2
   have HE : Hid (aheadB x y = decide (x.n < y.n)) := by
    show _ = _
    unfold aheadB
    rw [Bool.eq_iff_iff]
    simp only [decide_eq_true_eq]
    omega
   clear h1 h2
   go_enter Try.func57, Try.ntmps57
   go_wp2_with fail
   go_ret
   exact ⟨retBl (by rw [HE.out]; simp [e1]; omega), HB.out⟩
  ·have e1 : (x.s == y.s) = false := by simpa using h2
   have HE : Hid (aheadB x y = false) := by
    show _ = _
    unfold aheadB
    apply decide_eq_false
    omega
   clear h1 h2
   go_enter Try.func57, Try.ntmps57
   go_wp2_with fail
   go_ret
   exact ⟨retBl (by rw [HE.out]; simp [e1]; omega), HB.out⟩
set_option linter.unusedSimpArgs false in
set_option maxHeartbeats 4000000 in
set_option maxRecDepth 100000 in
theorem rfits_any (w : World) (N : Int) (v : Value) (xs : List Lin) (hr : TRow encN w v xs) (hn : xs.length ≤ 100000) :
  Calls Try.prog 35 #[.int .i64 N, v] w fun e w' => e = .returned (.int .i64 (fitE N xs)) ∧ Below w.heap.size w w' := by
 obtain ⟨p, c, rfl⟩ := hr.shape
 have HR := Lib.hid hr
 clear hr
 generalize hl : xs.length = n at *
 have HL := Lib.hid hl
 clear hl
 go_enter Try.func35, Try.ntmps35
 go_wp2_with fail
 go_loopw [5] (fun i wr => ∃ k : Nat, k ≤ n ∧ i = .int .i64 k ∧ Hid (Below w.heap.size w wr ∧ ∀ j, j < k → stepE N xs j = 0)) (fun i _ => n - (intOf i).toNat)
 case atStart => exact ⟨0, by omega, rfl, ⟨Below.refl _ _, fun j hj => by omega⟩⟩
 case round =>
  obtain ⟨k, hk, rfl, HB⟩ := hrel
  by_cases hlt : k < n
  ·have hkl : k < xs.length := by rw [HL.out]; exact hlt
   have hltI : (k : Int) < (n : Int) := by omega
   obtain ⟨b, o, rfl, hbl, hcs⟩ := (HR.out.kept HB.out.1).at_ k hkl
   obtain ⟨x, hx⟩ : ∃ x, xs[k] = x := ⟨_, rfl⟩
   rw [hx] at hcs
   have HX : Hid (xs.getD k lin0 = x) := by show _ = _; rw [List.getD_eq_getElem?_getD, List.getElem?_eq_getElem hkl, Option.getD_some, hx]
   clear hx
   have c0 : wr.cell? ⟨b, o + k * 4, none⟩ = some (.int .i64 x.s) := hcs 0 (by decide)
   have c1 : wr.cell? ⟨b, o + k * 4 + 1, none⟩ = some (.int .i64 x.n) := hcs 1 (by decide)
   have c2 : wr.cell? ⟨b, o + k * 4 + 2, none⟩ = some (.int .i64 x.b) := hcs 2 (by decide)
   have c3 : wr.cell? ⟨b, o + k * 4 + 3, none⟩ = some (.int .i64 x.a) := hcs 3 (by decide)
   have HX1 := Lib.hid (Blk.new wr #[.int .i64 x.s, .int .i64 x.n, .int .i64 x.b, .int .i64 x.a] 64)
   have HB1 := Lib.hid (HB.out.1.trans ((oneB wr (.cells #[.int .i64 x.s, .int .i64 x.n, .int .i64 x.b, .int .i64 x.a] 64)).mono HB.out.1.size))
   clear hcs
   cases hw : withinB N x
   ·have HE : Hid (fitE N xs = 1) := by
     have h1 : stepE N xs k = 1 := by unfold stepE; rw [HX.out, hw, if_pos rfl]
     exact (fitE_at hkl HB.out.2 (by rw [h1]; decide)).trans h1
    have HWF : Hid (¬ (0 ≤ x.s ∧ x.s < N ∧ 0 ≤ x.b ∧ x.b < N ∧ x.s ≠ x.b ∧ 1 ≤ x.n ∧ x.n ≤ 1048576 ∧ 1 ≤ x.a ∧ x.a ≤ 1125899906842624)) := by show ¬ _; unfold withinB at hw; exact of_decide_eq_false hw
    clear hw HX HX1
    by_cases hsb : x.s = x.b
    ·obtain ⟨xs_, xn, xb, xa⟩ := x
     dsimp only at *
     subst hsb
     go_wp2_with fail
     all_goals
      go_ret
      exact ⟨by rw [HE.out]; rfl, HB1.out⟩
    ·have e1 : (x.s == x.b) = false := by simpa using hsb
     go_wp2_with fail
     all_goals first
      | (go_ret; exact ⟨by rw [HE.out]; rfl, HB1.out⟩)
      | (exfalso; have := HWF.out; omega)
   ·have hwt : 0 ≤ x.s ∧ x.s < N ∧ 0 ≤ x.b ∧ x.b < N ∧ x.s ≠ x.b ∧ 1 ≤ x.n ∧ x.n ≤ 1048576 ∧ 1 ≤ x.a ∧ x.a ≤ 1125899906842624 := by unfold withinB at hw; exact of_decide_eq_true hw
    obtain ⟨q0, q1, q2, q3, q4, q5, q6, q7, q8⟩ := hwt
    have e1 : (x.s == x.b) = false := by simpa using q4
    have HWT := Lib.hid hw
    clear hw q4
    go_wp2_with fail
    generalize wr.alloc (.cells #[.int .i64 x.s, .int .i64 x.n, .int .i64 x.b, .int .i64 x.a] 64) = w1 at *
    generalize wr.heap.size = gx at *
    clear c0 c1 c2 c3
    rcases Nat.eq_zero_or_pos k with rfl | hpos
    ·have HN : Hid (Below w.heap.size w w1 ∧ ∀ j, j < 0 + 1 → stepE N xs j = 0) := ⟨HB1.out, fun j hj => by
      obtain rfl : j = 0 := by omega
      unfold stepE
      rw [HX.out, HWT.out, if_neg (by simp), if_neg (by simp)]⟩
     clear hbl
     refine wp_region_held_drew (S := fun w' => True) (by kernel_rfl) trivial (fun hS0 => ?_)
     refine tkq 0 ?_
     refine tkq 1 ?_
     refine tkq 2 ?_
     refine tnq 3 ?_
     refine tnq 4 ?_
     refine tnq 5 ?_
     refine tnq 6 ?_
     refine tnq 7 ?_
     refine tnq 8 ?_
     refine tnq 9 ?_
     refine tnq 10 ?_
     refine tkq 11 ?_
     refine wpAnyH_done (by kernel_rfl) ?_ _
     go_wp2_with fail
     go_roundw
     case rel => exact ⟨0 + 1, by omega, by go_num, ⟨HN.out.1.drew, HN.out.2⟩⟩
     case measure => simp [intOf]; omega
    ·obtain ⟨m, rfl⟩ : ∃ m, k = m + 1 := ⟨k - 1, by omega⟩
     have hml : m < xs.length := by omega
     obtain ⟨q, hq⟩ : ∃ q, xs[m] = q := ⟨_, rfl⟩
     have HQ : Hid (xs.getD m lin0 = q) := by show _ = _; rw [List.getD_eq_getElem?_getD, List.getElem?_eq_getElem hml, Option.getD_some, hq]
     have HCS : Hid (∀ W, Below w.heap.size w W → b < W.heap.size ∧ ∀ t, t < 4 → W.cell? ⟨b, o + m * 4 + t, none⟩ = (Lin.cells q)[t]?) := fun W hW => by
      obtain ⟨b', o', e1, h2, h3⟩ := (HR.out.kept hW).at_ m hml
      cases e1
      rw [hq] at h3
      exact ⟨h2, h3⟩
     clear hq hml
     have HC := Lib.hid (fun W => rahead_any q x W)
     unfold Lin.v at HC
     have HSE : Hid (stepE N xs (m + 1) = if aheadB q x = false then 41 else 0) := by
      show _ = _
      unfold stepE
      rw [Nat.add_sub_cancel, HX.out, HWT.out, HQ.out, if_neg (by simp)]
      simp
     have hm1 : ((m + 1 : Nat) : Int) - 1 = (m : Int) := by omega
     have hmn : m < n := by omega
     have hwm : IntKind.i64.wrap (m : Int) = (m : Int) := IntWalk.i64_in _ (by omega)
     have hp0 : (0 : Int) < ((m + 1 : Nat) : Int) := by omega
     clear hpos hbl
     have x0 : w1.cell? ⟨gx, 0, none⟩ = some (.int .i64 x.s) := HX1.out.cell 0
     have x1 : w1.cell? ⟨gx, 1, none⟩ = some (.int .i64 x.n) := HX1.out.cell 1
     have x2 : w1.cell? ⟨gx, 2, none⟩ = some (.int .i64 x.b) := HX1.out.cell 2
     have x3 : w1.cell? ⟨gx, 3, none⟩ = some (.int .i64 x.a) := HX1.out.cell 3
     have hgl := HX1.out.lt
     obtain ⟨hbl2, hcs⟩ := HCS.out w1 HB1.out
     have c0 : w1.cell? ⟨b, o + m * 4, none⟩ = some (.int .i64 q.s) := hcs 0 (by decide)
     have c1 : w1.cell? ⟨b, o + m * 4 + 1, none⟩ = some (.int .i64 q.n) := hcs 1 (by decide)
     have c2 : w1.cell? ⟨b, o + m * 4 + 2, none⟩ = some (.int .i64 q.b) := hcs 2 (by decide)
     have c3 : w1.cell? ⟨b, o + m * 4 + 3, none⟩ = some (.int .i64 q.a) := hcs 3 (by decide)
     have hS1 : w1.drew.cell? ⟨gx, 0, none⟩ = some (.int .i64 x.s) ∧ w1.drew.cell? ⟨gx, 1, none⟩ = some (.int .i64 x.n) ∧ w1.drew.cell? ⟨gx, 2, none⟩ = some (.int .i64 x.b) ∧ w1.drew.cell? ⟨gx, 3, none⟩ = some (.int .i64 x.a) ∧ w1.drew.cell? ⟨b, o + m * 4, none⟩ = some (.int .i64 q.s) ∧ w1.drew.cell? ⟨b, o + m * 4 + 1, none⟩ = some (.int .i64 q.n) ∧ w1.drew.cell? ⟨b, o + m * 4 + 2, none⟩ = some (.int .i64 q.b) ∧ w1.drew.cell? ⟨b, o + m * 4 + 3, none⟩ = some (.int .i64 q.a) := ⟨x0, x1, x2, x3, c0, c1, c2, c3⟩
     have HS : Hid (∀ w', Below w1.heap.size w1 w' → w'.cell? ⟨gx, 0, none⟩ = some (.int .i64 x.s) ∧ w'.cell? ⟨gx, 1, none⟩ = some (.int .i64 x.n) ∧ w'.cell? ⟨gx, 2, none⟩ = some (.int .i64 x.b) ∧ w'.cell? ⟨gx, 3, none⟩ = some (.int .i64 x.a) ∧ w'.cell? ⟨b, o + m * 4, none⟩ = some (.int .i64 q.s) ∧ w'.cell? ⟨b, o + m * 4 + 1, none⟩ = some (.int .i64 q.n) ∧ w'.cell? ⟨b, o + m * 4 + 2, none⟩ = some (.int .i64 q.b) ∧ w'.cell? ⟨b, o + m * 4 + 3, none⟩ = some (.int .i64 q.a)) := fun w' h => ⟨(h.cell (p := ⟨gx, 0, none⟩) hgl).trans x0, (h.cell (p := ⟨gx, 1, none⟩) hgl).trans x1, (h.cell (p := ⟨gx, 2, none⟩) hgl).trans x2, (h.cell (p := ⟨gx, 3, none⟩) hgl).trans x3, (h.cell (p := ⟨b, _, none⟩) hbl2).trans c0, (h.cell (p := ⟨b, _, none⟩) hbl2).trans c1, (h.cell (p := ⟨b, _, none⟩) hbl2).trans c2, (h.cell (p := ⟨b, _, none⟩) hbl2).trans c3⟩
     clear hcs
     refine wp_region_held_drew (S := fun w' => w'.cell? ⟨gx, 0, none⟩ = some (.int .i64 x.s) ∧ w'.cell? ⟨gx, 1, none⟩ = some (.int .i64 x.n) ∧ w'.cell? ⟨gx, 2, none⟩ = some (.int .i64 x.b) ∧ w'.cell? ⟨gx, 3, none⟩ = some (.int .i64 x.a) ∧ w'.cell? ⟨b, o + m * 4, none⟩ = some (.int .i64 q.s) ∧ w'.cell? ⟨b, o + m * 4 + 1, none⟩ = some (.int .i64 q.n) ∧ w'.cell? ⟨b, o + m * 4 + 2, none⟩ = some (.int .i64 q.b) ∧ w'.cell? ⟨b, o + m * 4 + 3, none⟩ = some (.int .i64 q.a)) (by kernel_rfl) hS1 (fun hS0 => ?_)
     refine tkq 0 ?_
     refine tkq 1 ?_
     refine tkq 2 ?_
     refine tkq 3 ?_
     refine tkq 4 ?_
     refine tkq 5 ?_
     refine tkq 6 ?_
     refine tkq 7 ?_
     refine tkq 8 ?_
     refine rdq 9 (fun K hK => ?_)
     go_simp
     go_at_call 57
     refine (HC.out w1.drew).mono ?_
     rintro y w2 ⟨rfl, hb2⟩
     have HB3 := Lib.hid ((Below.refl w1.heap.size w1).drew.trans (hb2.mono (Nat.le_refl _)))
     clear hb2
     try go_wp2_with fail
     refine hK.out _ _ (HS.out w2 HB3.out) (fun hS => ?_)
     clear hK K
     try simp only [Act.put, List.getElem_toArray, List.getElem_cons_succ, List.getElem_cons_zero, List.setIfInBounds_toArray, List.set_cons_zero, List.set_cons_succ]
     refine tkq 10 ?_
     refine tkq 11 ?_
     refine wpAnyH_done (by kernel_rfl) ?_ _
     cases ha : aheadB q x
     ·have HE : Hid (fitE N xs = 41) := by
       have h1 : stepE N xs (m + 1) = 41 := by rw [HSE.out, ha, if_pos rfl]
       exact (fitE_at hkl HB.out.2 (by rw [h1]; decide)).trans h1
      have HB4 := Lib.hid (HB1.out.trans (HB3.out.mono HB1.out.size))
      clear ha
      go_wp2_with fail
      go_ret
      exact ⟨by rw [HE.out]; rfl, HB4.out⟩
     ·have HN : Hid (Below w.heap.size w w2 ∧ ∀ j, j < m + 1 + 1 → stepE N xs j = 0) := ⟨HB1.out.trans (HB3.out.mono HB1.out.size), fun j hj => by
       by_cases e : j = m + 1
       ·subst e; rw [HSE.out, ha, if_neg (by simp)]
       ·exact HB.out.2 j (by omega)⟩
      clear ha
      go_wp2_with fail
      go_roundw
      case rel => exact ⟨m + 1 + 1, by omega, by go_num, HN⟩
      case measure => simp [intOf]; omega
  ·have hle : (n : Int) ≤ (k : Int) := by omega
   have HE : Hid (fitE N xs = 0) := fitE_all fun j hj => HB.out.2 j (by have := HL.out; omega)
   go_wp2_with fail
   go_ret
   exact ⟨by rw [HE.out]; rfl, HB.out.1⟩
end Go.Proofs.Yteogdfpkcoodlaa
namespace Go.Proofs.Yteogdfpkcoodlaa
open Go.RowKit
/-- What is listed of the first k lines for an entity. -/
def MRel (W2 : World) (me : Int) (xs : List Lin) (k : Nat) (v : Value) (wr : World) : Prop := Own .i64 wr W2.heap.size 2 v (netL me (xs.take k)) ∧ Below W2.heap.size W2 wr
theorem netL_take {me : Int} {xs : List Lin} {k : Nat} (hk : k < xs.length) : netL me (xs.take (k + 1)) = netL me (xs.take k) ++ (if mineB me xs[k] then [gives me xs[k]] else []) := by
 unfold netL mineL
 rw [List.take_succ_eq_append_getElem hk, List.filter_append, List.map_append]
 congr 1
 cases h : mineB me xs[k] <;> simp [h]
theorem within_sb {n : Int} {x : Lin} (h : withinB n x = true) : x.s ≠ x.b := by
 unfold withinB at h
 have := of_decide_eq_true h
 omega
set_option linter.unusedSimpArgs false in
set_option maxHeartbeats 4000000 in
set_option maxRecDepth 100000 in
theorem rnets_any (w : World) (N : Int) (v : Value) (xs : List Lin) (hr : TRow encN w v xs) (hn : xs.length ≤ 1000) :
  Calls Try.prog 38 #[.int .i64 N, v] w fun e w' => ∃ v', e = .returned (.tuple #[v', .int .i64 (netsE N xs)]) ∧ Own .i64 w' w.heap.size 2 v' (netsV N xs) ∧ Below w.heap.size w w' := by
 have HF := Lib.hid (fun W (h : Below w.heap.size w W) => rfits_any W N v xs (hr.kept h) (by omega))
 obtain ⟨pv, cv, hv⟩ := hr.shape
 have HR := Lib.hid hr
 have HN := Lib.hid hn
 generalize hnx : xs.length = nx at hv
 have HNX0 := Lib.hid hnx
 clear hnx
 subst hv
 clear hr
 by_cases h0 : N < 0
 ·have HE : Hid (netsE N xs = 1) := if_pos (.inl h0)
  have HV : Hid (netsV N xs = []) := by show _ = _; unfold netsV; rw [HE.out, if_neg (by decide)]
  go_enter Try.func38, Try.ntmps38
  go_wp2_with fail
  go_ret2
  exact ⟨_, by rw [HE.out]; rfl, by rw [HV.out]; exact Own.nil_ _ _ _ _, Below.refl _ _⟩
 by_cases h8 : 8 < N
 ·have HE : Hid (netsE N xs = 1) := if_pos (.inr h8)
  have HV : Hid (netsV N xs = []) := by show _ = _; unfold netsV; rw [HE.out, if_neg (by decide)]
  go_enter Try.func38, Try.ntmps38
  go_wp2_with fail
  go_ret2
  exact ⟨_, by rw [HE.out]; rfl, by rw [HV.out]; exact Own.nil_ _ _ _ _, Below.refl _ _⟩
 have HE : Hid (netsE N xs = fitE N xs) := if_neg (by omega)
 have h0' : 0 ≤ N := by omega
 have h8' : N ≤ 8 := by omega
 by_cases hf : fitE N xs = 0
 ·have HV : Hid (netsV N xs = netsL N.toNat xs) := by show _ = _; unfold netsV; rw [HE.out, hf, if_pos rfl]
  have HFZ := Lib.hid hf
  have HW9 : Hid (∀ x ∈ xs, withinB N x = true) := fit_within hf
  have HFT : Hid (∀ k : Nat, Fits (netS (k : Int) xs)) := fun k => net_fits HW9.out (by omega)
  have H64 : Hid (∀ k : Nat, All64 (netL (k : Int) xs)) := fun k z hz => by
   have := netL_64 (me := (k : Int)) HW9.out z hz
   omega
  have HLL : Hid (∀ k : Nat, (netL (k : Int) xs).length ≤ 1000) := fun k => Nat.le_trans (netL_len _ _) hn
  have HSUM := Lib.hid (fun (k : Nat) (W : World) (v : Value) (h : Row .i64 W v (netL (k : Int) xs)) => refsum_any v (netL (k : Int) xs) W (HLL.out k) (H64.out k) h)
  obtain ⟨n, rfl⟩ : ∃ n : Nat, N = (n : Int) := ⟨N.toNat, by omega⟩
  have hn8 : n ≤ 8 := by omega
  have hnx : nx ≤ 1000 := by have := HNX0.out; omega
  have HNT : Hid (((n : Nat) : Int).toNat = n) := by show _ = _; omega
  clear hf h0 h8 h0' h8' hn
  go_enter Try.func38, Try.ntmps38
  go_wp2_with fail
  refine (HF.out w (Below.refl _ _)).mono ?_
  rintro y w1 ⟨rfl, hb1⟩
  rw [HFZ.out]
  have HB1 := Lib.hid hb1
  have HREL : Hid (NsRel w xs 0 (.slice none 0 0) w1) := ⟨Own.nil_ _ _ _ _, hb1⟩
  clear hb1
  go_wp2_with fail
  go_loopw [7, 8] (fun v i wr => ∃ k : Nat, k ≤ n ∧ i = .int .i64 k ∧ Hid (NsRel w xs k v wr)) (fun _ i _ => n - (intOf i).toNat)
  case atStart => exact ⟨0, by omega, rfl, HREL⟩
  case round =>
   obtain ⟨me, hk, rfl, HK⟩ := hrel
   clear HREL
   by_cases hlt : me < n
   ·have hltI : (me : Int) < (n : Int) := by omega
    obtain ⟨ho1, hw1⟩ := HK.out
    obtain ⟨p2, c2, hv2⟩ := ho1.form
    rw [netsL_len] at hv2
    subst hv2
    have HO := Lib.hid ho1
    have HW := Lib.hid hw1
    clear ho1 hw1 HK
    generalize wr = W2 at *
    have HREL2 : Hid (MRel W2 (me : Int) xs 0 (.slice none 0 0) W2) := ⟨Own.nil_ _ _ _ _, Below.refl _ _⟩
    go_wp2_with fail
    go_loopw [9, 10] (fun v i wr => ∃ k : Nat, k ≤ nx ∧ i = .int .i64 k ∧ Hid (MRel W2 (me : Int) xs k v wr)) (fun _ i _ => nx - (intOf i).toNat)
    case atStart => exact ⟨0, by omega, rfl, HREL2⟩
    case round =>
     obtain ⟨k, hk2, rfl, HK⟩ := hrel
     clear HREL2
     by_cases hlt2 : k < nx
     ·have hkl : k < xs.length := by rw [HNX0.out]; exact hlt2
      have hltI2 : (k : Int) < (nx : Int) := by omega
      have HSC := Lib.hid (netL_take (me := (me : Int)) hkl)
      have hw9 := within_sb (HW9.out _ (List.getElem_mem hkl))
      obtain ⟨b, o, rfl, hbl, hcs⟩ := ((HR.out.kept HW.out).kept HK.out.2).at_ k hkl
      have hax := within_a (HW9.out _ (List.getElem_mem hkl))
      obtain ⟨x, hx⟩ : ∃ x, xs[k] = x := ⟨_, rfl⟩
      have HX := Lib.hid hx
      rw [hx] at HSC hw9 hcs hax
      clear hx
      have c0 : wr.cell? ⟨b, o + k * 4, none⟩ = some (.int .i64 x.s) := hcs 0 (by decide)
      have c1 : wr.cell? ⟨b, o + k * 4 + 1, none⟩ = some (.int .i64 x.n) := hcs 1 (by decide)
      have c2 : wr.cell? ⟨b, o + k * 4 + 2, none⟩ = some (.int .i64 x.b) := hcs 2 (by decide)
      have c3 : wr.cell? ⟨b, o + k * 4 + 3, none⟩ = some (.int .i64 x.a) := hcs 3 (by decide)
      have HZL : Hid ((netL (me : Int) (xs.take k)).length ≤ 1000) := by
       show _ ≤ _
       have := netL_len (me : Int) (xs.take k)
       rw [List.length_take] at this
       omega
      obtain ⟨ho1, hw1⟩ := HK.out
      obtain ⟨p4, c4, hv2⟩ := ho1.form
      generalize hz : netL (me : Int) (xs.take k) = zs at *
      generalize hm : zs.length = m at *
      subst hv2
      have hm2 : m ≤ 1000 := HZL.out
      have HMZ := Lib.hid hm
      have HO1 := Lib.hid ho1
      have HBR := Lib.hid hw1
      have HSZ : Hid (W2.heap.size ≤ wr.heap.size) := hw1.size
      clear ho1 hw1 HK hz hm hcs
      by_cases hs : x.s = (me : Int)
      ·have e1 : (x.s == (me : Int)) = true := by simpa using hs
       have e2 : (x.b == (me : Int)) = false := by
        have : ¬ x.b = (me : Int) := fun h => hw9 (by rw [hs, h])
        simpa using this
       have HSUC : Hid (netL (me : Int) (xs.take (k + 1)) = zs ++ [x.a]) := by
        show _ = _
        rw [HSC.out, show mineB (me : Int) x = true from decide_eq_true (.inl hs), if_pos rfl, show gives (me : Int) x = x.a from if_pos hs]
       clear hs hw9 HSC
       go_wp2_with (at_builtin; with_reducible refine stop_appendIN (.tmp 44) (.tmp 50) 34 rfl ?_)
       refine wpList_append_row rfl (.tmp 44) (.tmp 50) 34 rfl 2 .i64 8 W2.heap.size eltAc (.slice p4 m c4) (.slice (some ⟨wr.heap.size, 0, none⟩) 1 1) zs [x.a] rfl rfl (HO1.out.alloc (.cells #[.int .i64 (x.a)] 2)) ⟨some ⟨wr.heap.size, 0, none⟩, 1, rfl, Nat.le_refl _, .inr ⟨wr.heap.size, 0, rfl, fun i hi => ?_⟩⟩ (by have := HMZ.out; simp; omega) (by have := HMZ.out; simp; omega) (by have := HSZ.out; simp at this ⊢; omega) (zs ++ [x.a]) (m + 1) rfl (by rw [List.length_append, HMZ.out]; rfl) ?_
       ·obtain rfl : i = 0 := by simp at hi; omega
        exact (Blk.new' wr #[.int .i64 (x.a)] 2 (b := wr.heap.size) rfl).cell 0
       intro p3 c3 w3 ho3 hb3
       have HNX : Hid (MRel W2 (me : Int) xs (k + 1) (.slice p3 (m + 1) c3) w3) := ⟨by rw [HSUC.out]; exact ho3, HBR.out.trans (((Below.refl _ wr).alloc HSZ.out _).trans hb3)⟩
       clear ho3 hb3
       obtain ⟨b9, o9, e9, _, hcs⟩ := ((HR.out.kept HW.out).kept HNX.out.2).at_ k hkl
       cases e9
       rw [HX.out] at hcs
       have d2 : w3.cell? ⟨b, o + k * 4 + 2, none⟩ = some (.int .i64 x.b) := hcs 2 (by decide)
       clear hcs
       go_wp2_with fail
       go_roundw
       case rel => exact ⟨k + 1, by omega, by go_num, HNX⟩
       case measure => simp [intOf]; omega
      ·have e1 : (x.s == (me : Int)) = false := by simpa using hs
       by_cases hb : x.b = (me : Int)
       ·have e2 : (x.b == (me : Int)) = true := by simpa using hb
        have HSUC : Hid (netL (me : Int) (xs.take (k + 1)) = zs ++ [-x.a]) := by
         show _ = _
         rw [HSC.out, show mineB (me : Int) x = true from decide_eq_true (.inr hb), if_pos rfl, show gives (me : Int) x = -x.a from if_neg hs]
        clear hs hb hw9 HSC
        go_wp2_with (at_builtin; with_reducible refine stop_appendIN (.tmp 59) (.tmp 66) 34 rfl ?_)
        refine wpList_append_row rfl (.tmp 59) (.tmp 66) 34 rfl 2 .i64 8 W2.heap.size eltAc (.slice p4 m c4) (.slice (some ⟨wr.heap.size, 0, none⟩) 1 1) zs [-x.a] rfl rfl (HO1.out.alloc (.cells #[.int .i64 (-x.a)] 2)) ⟨some ⟨wr.heap.size, 0, none⟩, 1, rfl, Nat.le_refl _, .inr ⟨wr.heap.size, 0, rfl, fun i hi => ?_⟩⟩ (by have := HMZ.out; simp; omega) (by have := HMZ.out; simp; omega) (by have := HSZ.out; simp at this ⊢; omega) (zs ++ [-x.a]) (m + 1) rfl (by rw [List.length_append, HMZ.out]; rfl) ?_
        ·obtain rfl : i = 0 := by simp at hi; omega
         exact (Blk.new' wr #[.int .i64 (-x.a)] 2 (b := wr.heap.size) rfl).cell 0
        intro p3 c3 w3 ho3 hb3
        have HNX : Hid (MRel W2 (me : Int) xs (k + 1) (.slice p3 (m + 1) c3) w3) := ⟨by rw [HSUC.out]; exact ho3, HBR.out.trans (((Below.refl _ wr).alloc HSZ.out _).trans hb3)⟩
        clear ho3 hb3
        go_wp2_with fail
        go_roundw
        case rel => exact ⟨k + 1, by omega, by go_num, HNX⟩
        case measure => simp [intOf]; omega
       ·have e2 : (x.b == (me : Int)) = false := by simpa using hb
        have HNX : Hid (MRel W2 (me : Int) xs (k + 1) (.slice p4 m c4) wr) := ⟨by
         rw [HSC.out, show mineB (me : Int) x = false from decide_eq_false (by omega), if_neg (by decide), List.append_nil]; exact HO1.out, HBR.out⟩
        clear hs hb hw9 HSC
        go_wp2_with fail
        go_roundw
        case rel => exact ⟨k + 1, by omega, by go_num, HNX⟩
        case measure => simp [intOf]; omega
     ·have hle2 : (nx : Int) ≤ (k : Int) := by omega
      have hkn : k = xs.length := by rw [HNX0.out]; omega
      have hK := HK.out
      rw [hkn] at hK
      unfold MRel at hK
      rw [List.take_length] at hK
      have HSM := Lib.hid (HSUM.out me wr _ hK.1.row)
      have HWQ := Lib.hid (HW.out.trans (hK.2.mono HW.out.size))
      have HOQ := Lib.hid (HO.out.later hK.2)
      obtain ⟨p4, c4, hv2⟩ := hK.1.form
      have HFM : Hid (Fits (netL (me : Int) xs).sum) := HFT.out me
      have HSL : Hid ((netL (me : Int) xs).sum = netS (me : Int) xs) := rfl
      have HSU := Lib.hid (netsL_succ me xs)
      have HKL := Lib.hid (netsL_len me xs)
      generalize (netL (me : Int) xs).length = ml at hv2
      subst hv2
      clear HK hK hkn HO HW
      go_wp2_with fail
      refine HSM.out.mono ?_
      rintro y w2 ⟨rfl, hb2⟩
      rw [sumN_yes HFM.out, sumE_yes HFM.out, HSL.out]
      have HO2 := Lib.hid (HOQ.out.later hb2)
      have HW2 := ktq HWQ hb2
      generalize netS (me : Int) xs = z at *
      generalize netsL me xs = zs at *
      clear hb2 HOQ HWQ HSM
      go_wp2_with (at_builtin; with_reducible refine stop_appendIN (.tmp 76) (.tmp 78) 34 rfl ?_)
      refine wpList_append_row rfl (.tmp 76) (.tmp 78) 34 rfl 2 .i64 8 w.heap.size eltAc (.slice p2 me c2) (.slice (some ⟨w2.heap.size, 0, none⟩) 1 1) zs [z] rfl rfl (HO2.out.alloc (.cells #[.int .i64 z] 2)) ⟨some ⟨w2.heap.size, 0, none⟩, 1, rfl, Nat.le_refl _, .inr ⟨w2.heap.size, 0, rfl, fun i hi => ?_⟩⟩ (by have := HKL.out; simp; omega) (by have := HKL.out; simp; omega) (by have := HW2.out.size; simp at this ⊢; omega) (zs ++ [z]) (me + 1) rfl (by rw [List.length_append, HKL.out]; rfl) ?_
      ·obtain rfl : i = 0 := by simp at hi; omega
       exact (Blk.new' w2 #[.int .i64 z] 2 rfl).cell 0
      intro p3 c3 w3 ho3 hb3
      have HNX : Hid (NsRel w xs (me + 1) (.slice p3 (me + 1) c3) w3) := ⟨by rw [HSU.out]; exact ho3, HW2.out.trans (((Below.refl _ w2).alloc HW2.out.size _).trans hb3)⟩
      clear ho3 hb3
      go_wp2_with fail
      go_roundw
      case rel => exact ⟨me + 1, by omega, by go_num, HNX⟩
      case measure => simp [intOf]; omega
   ·have hle : (n : Int) ≤ (me : Int) := by omega
    obtain rfl : me = n := by omega
    obtain ⟨ho1, hw1⟩ := HK.out
    obtain ⟨p2, c2, hv2⟩ := ho1.form
    rw [netsL_len] at hv2
    subst hv2
    have HO := Lib.hid ho1
    have HW := Lib.hid hw1
    clear ho1 hw1 HK
    go_wp2_with fail
    go_ret2
    exact ⟨_, by rw [HE.out, HFZ.out]; rfl, by rw [HV.out, HNT.out]; exact HO.out, HW.out⟩
 ·have HV : Hid (netsV N xs = []) := by show _ = _; unfold netsV; rw [HE.out, if_neg hf]
  obtain ⟨E, hE⟩ : ∃ E, fitE N xs = E := ⟨_, rfl⟩
  have HEE := Lib.hid hE
  rw [hE] at hf HE
  have e1 : (E != 0) = true := by simpa using hf
  clear hf h0 h8 hE
  go_enter Try.func38, Try.ntmps38
  go_wp2_with fail
  refine (HF.out w (Below.refl _ _)).mono ?_
  rintro y w1 ⟨rfl, hb1⟩
  rw [HEE.out]
  have HB1 := Lib.hid hb1
  clear hb1
  go_wp2_with fail
  go_ret2
  exact ⟨_, by rw [HE.out]; rfl, by rw [HV.out]; exact Own.nil_ _ _ _ _, HB1.out⟩
end Go.Proofs.Yteogdfpkcoodlaa
namespace Go.Proofs.Yteogdfpkcoodlaa
open Go.RowKit
set_option linter.unusedSimpArgs false in
set_option maxHeartbeats 4000000 in
set_option maxRecDepth 100000 in
theorem has_any (w : World) (v : Value) (xs : List Lin) (x : Lin) (hr : TRow encN w v xs) (hn : xs.length ≤ 100000) :
  Calls Try.prog 58 #[v, x.v] w fun e w' => e = .returned (.bool (decide (x ∈ xs))) ∧ Below w.heap.size w w' := by
 obtain ⟨p, c, rfl⟩ := hr.shape
 have HR := Lib.hid hr
 have HB := Lib.hid (oneB w (.cells #[.int .i64 x.s, .int .i64 x.n, .int .i64 x.b, .int .i64 x.a] 64))
 have HX := Lib.hid (Blk.new w #[.int .i64 x.s, .int .i64 x.n, .int .i64 x.b, .int .i64 x.a] 64)
 clear hr
 generalize hl : xs.length = n at *
 have HL := Lib.hid hl
 clear hl
 unfold Lin.v
 go_enter Try.func58, Try.ntmps58
 go_wp2_with fail
 generalize w.alloc (.cells #[.int .i64 x.s, .int .i64 x.n, .int .i64 x.b, .int .i64 x.a] 64) = W1 at *
 generalize hgx : w.heap.size = gx at *
 have HGX := Lib.hid hgx
 clear hgx
 go_loopw [5] (fun i wr => ∃ k : Nat, k ≤ n ∧ i = .int .i64 k ∧ Hid (Below gx w wr ∧ Blk wr gx #[.int .i64 x.s, .int .i64 x.n, .int .i64 x.b, .int .i64 x.a] 64 ∧ ∀ j (hj : j < xs.length), j < k → xs[j] ≠ x)) (fun i _ => n - (intOf i).toNat)
 case atStart => exact ⟨0, by omega, rfl, ⟨HB.out, HX.out, fun j hj h => by omega⟩⟩
 case round =>
  obtain ⟨k, hk, rfl, HK⟩ := hrel
  by_cases hlt : k < n
  ·have hkl : k < xs.length := by rw [HL.out]; exact hlt
   have hltI : (k : Int) < (n : Int) := by omega
   obtain ⟨b, o, rfl, hbl, hcs⟩ := (HR.out.kept (by first | exact HK.out.1 | (rw [HGX.out]; exact HK.out.1))).at_ k hkl
   obtain ⟨q, hq⟩ : ∃ q, xs[k] = q := ⟨_, rfl⟩
   rw [hq] at hcs
   have HQ := Lib.hid hq
   clear hq
   have c0 : wr.cell? ⟨b, o + k * 4, none⟩ = some (.int .i64 q.s) := hcs 0 (by decide)
   have c1 : wr.cell? ⟨b, o + k * 4 + 1, none⟩ = some (.int .i64 q.n) := hcs 1 (by decide)
   have c2 : wr.cell? ⟨b, o + k * 4 + 2, none⟩ = some (.int .i64 q.b) := hcs 2 (by decide)
   have c3 : wr.cell? ⟨b, o + k * 4 + 3, none⟩ = some (.int .i64 q.a) := hcs 3 (by decide)
   have x0 : wr.cell? ⟨gx, 0, none⟩ = some (.int .i64 x.s) := HK.out.2.1.cell 0
   have x1 : wr.cell? ⟨gx, 1, none⟩ = some (.int .i64 x.n) := HK.out.2.1.cell 1
   have x2 : wr.cell? ⟨gx, 2, none⟩ = some (.int .i64 x.b) := HK.out.2.1.cell 2
   have x3 : wr.cell? ⟨gx, 3, none⟩ = some (.int .i64 x.a) := HK.out.2.1.cell 3
   have hS1 : wr.drew.cell? ⟨b, o + k * 4, none⟩ = some (.int .i64 q.s) ∧ wr.drew.cell? ⟨b, o + k * 4 + 1, none⟩ = some (.int .i64 q.n) ∧ wr.drew.cell? ⟨b, o + k * 4 + 2, none⟩ = some (.int .i64 q.b) ∧ wr.drew.cell? ⟨b, o + k * 4 + 3, none⟩ = some (.int .i64 q.a) ∧ wr.drew.cell? ⟨gx, 0, none⟩ = some (.int .i64 x.s) ∧ wr.drew.cell? ⟨gx, 1, none⟩ = some (.int .i64 x.n) ∧ wr.drew.cell? ⟨gx, 2, none⟩ = some (.int .i64 x.b) ∧ wr.drew.cell? ⟨gx, 3, none⟩ = some (.int .i64 x.a) := ⟨c0, c1, c2, c3, x0, x1, x2, x3⟩
   have keq := fun (w : World) => line_eq q x w
   clear hcs c0 c1 c2 c3 x0 x1 x2 x3
   go_wp2_with fail
   refine wp_region_held_drew (S := fun w' => w'.cell? ⟨b, o + k * 4, none⟩ = some (.int .i64 q.s) ∧ w'.cell? ⟨b, o + k * 4 + 1, none⟩ = some (.int .i64 q.n) ∧ w'.cell? ⟨b, o + k * 4 + 2, none⟩ = some (.int .i64 q.b) ∧ w'.cell? ⟨b, o + k * 4 + 3, none⟩ = some (.int .i64 q.a) ∧ w'.cell? ⟨gx, 0, none⟩ = some (.int .i64 x.s) ∧ w'.cell? ⟨gx, 1, none⟩ = some (.int .i64 x.n) ∧ w'.cell? ⟨gx, 2, none⟩ = some (.int .i64 x.b) ∧ w'.cell? ⟨gx, 3, none⟩ = some (.int .i64 x.a)) (by kernel_rfl) hS1 (fun hS0 => ?_)
   refine tkq 0 ?_
   refine tkq 1 ?_
   refine tkq 2 ?_
   refine tkq 3 ?_
   refine tkq 4 ?_
   refine tkq 5 ?_
   refine wpAnyH_done (by kernel_rfl) ?_ _
   clear keq
   cases hqx : linEq q x
   ·have HN : Hid (Below gx w wr.drew ∧ Blk wr.drew gx #[.int .i64 x.s, .int .i64 x.n, .int .i64 x.b, .int .i64 x.a] 64 ∧ ∀ j (hj : j < xs.length), j < k + 1 → xs[j] ≠ x) := ⟨HK.out.1.drew, HK.out.2.1, fun j hj h => by
     by_cases e : j = k
     ·subst e
      intro e2
      rw [HQ.out] at e2
      rw [linEq_iff.2 e2] at hqx
      cases hqx
     ·exact HK.out.2.2 j hj (by omega)⟩
    clear hqx
    go_wp2_with fail
    go_roundw
    case rel => exact ⟨k + 1, by omega, by go_num, HN⟩
    case measure => simp [intOf]; omega
   ·have HE : Hid (decide (x ∈ xs) = true) := decide_eq_true (by rw [← linEq_iff.1 hqx, ← HQ.out]; exact List.getElem_mem hkl)
    have HBW : Hid (Below gx w wr.drew) := HK.out.1.drew
    clear hqx
    go_wp2_with fail
    go_ret
    exact ⟨by rw [HE.out]; rfl, by rw [HGX.out]; exact HBW.out⟩
  ·have hle : (n : Int) ≤ (k : Int) := by omega
   have HE : Hid (decide (x ∈ xs) = false) := by
    show _ = _
    apply decide_eq_false
    intro hx
    obtain ⟨j, hj, e⟩ := List.mem_iff_getElem.1 hx
    exact HK.out.2.2 j hj (by have := HL.out; omega) e
   go_wp2_with fail
   go_ret
   exact ⟨by rw [HE.out]; rfl, by rw [HGX.out]; exact HK.out.1⟩
end Go.Proofs.Yteogdfpkcoodlaa
namespace Go.Proofs.Yteogdfpkcoodlaa
open Go.RowKit
theorem within_all {n : Int} {x : Lin} (h : withinB n x = true) : 0 ≤ x.b ∧ x.b < n ∧ x.s ≠ x.b := by
 unfold withinB at h
 have := of_decide_eq_true h
 omega
set_option linter.unusedSimpArgs false in
set_option maxHeartbeats 4000000 in
set_option maxRecDepth 100000 in
theorem rboth_any (w : World) (v : Value) (xss : List (List Lin)) (hr : LL w v xss) (hn : xss.length ≤ 1000) (hs : ∀ o ∈ xss, fitE xss.length o = 0 ∧ o.length ≤ 60) :
  Calls Try.prog 37 #[v] w fun e w' => ∃ v', e = .returned v' ∧ OwnT encN w' w.heap.size 64 v' (bothL xss xss.length) ∧ Below w.heap.size w w' := by
 obtain ⟨p, c, rfl⟩ := hr.shape
 have HR := Lib.hid hr
 have HS := Lib.hid hs
 clear hr hs
 have HBL := Lib.hid (bothL_len xss (fun o ho => (HS.out o ho).2))
 generalize hl : xss.length = n at *
 have HL := Lib.hid hl
 clear hl
 have HREL : Hid (OwnT encN w w.heap.size 64 (.slice none 0 0) (bothL xss 0) ∧ Below w.heap.size w w) := ⟨OwnT.nil_ _ _ _ _, Below.refl _ _⟩
 go_enter Try.func37, Try.ntmps37
 go_wp2_with fail
 go_loopw [3, 4] (fun v i wr => ∃ k : Nat, k ≤ n ∧ i = .int .i64 k ∧ Hid (OwnT encN wr w.heap.size 64 v (bothL xss k) ∧ Below w.heap.size w wr)) (fun _ i _ => n - (intOf i).toNat)
 case atStart => exact ⟨0, by omega, rfl, HREL⟩
 case round =>
  clear HREL
  obtain ⟨k, hk, rfl, HK⟩ := hrel
  by_cases hlt : k < n
  ·have hkl : k < xss.length := by rw [HL.out]; exact hlt
   have hltI : (k : Int) < (n : Int) := by omega
   obtain ⟨b, o, u, rfl, hbl, hcu0, hru⟩ := HR.out.at_ k hkl
   have hcu := (HK.out.2.cell (p := ⟨b, o + k, none⟩) hbl).trans hcu0
   have hys := HS.out _ (List.getElem_mem hkl)
   have HPK : Hid (partL xss k = xss[k].filter (bothF xss k)) := by show _ = _; unfold partL; rw [List.getD_eq_getElem?_getD, List.getElem?_eq_getElem hkl, Option.getD_some]
   have HCU := Lib.hid (fun (W : World) (h : Below w.heap.size w W) => (h.cell (p := ⟨b, o + k, none⟩) hbl).trans hcu0)
   generalize xss[k] = ys at *
   obtain ⟨pu, cu, rfl⟩ := hru.shape
   have HRU := Lib.hid hru
   have HYS := Lib.hid hys
   have hyl := hys.2
   have HK60 := Lib.hid (HBL.out k)
   obtain ⟨ho1, hw1⟩ := HK.out
   obtain ⟨pa, ca, hva⟩ := ho1.form
   generalize (bothL xss k).length = na at hva
   subst hva
   generalize wr = W2 at *
   have HREL2 : Hid (OwnT encN W2 w.heap.size 64 (.slice pa na ca) (bothL xss k ++ (ys.take 0).filter (bothF xss k)) ∧ Below w.heap.size w W2) := ⟨by simpa using ho1, hw1⟩
   clear hcu0 hru hys ho1 hw1 HK
   generalize hly : ys.length = ny at *
   have HLY := Lib.hid hly
   clear hly
   go_wp2_with fail
   go_loopw [3, 5] (fun v i wr => ∃ j : Nat, j ≤ ny ∧ i = .int .i64 j ∧ Hid (OwnT encN wr w.heap.size 64 v (bothL xss k ++ (ys.take j).filter (bothF xss k)) ∧ Below w.heap.size w wr)) (fun _ i _ => ny - (intOf i).toNat)
   case atStart => exact ⟨0, by omega, rfl, HREL2⟩
   case round =>
    obtain ⟨j, hj, rfl, HJ⟩ := hrel
    clear HREL2 hcu
    have hcu := HCU.out wr HJ.out.2
    by_cases hltj : j < ny
    ·have hjl : j < ys.length := by rw [HLY.out]; exact hltj
     have hltJ : (j : Int) < (ny : Int) := by omega
     have HFS := Lib.hid (filt_succ (p := bothF xss k) hjl)
     obtain ⟨b2, o2, rfl, hb2l, hcs⟩ := (HRU.out.kept HJ.out.2).at_ j hjl
     have hwx := within_all (fit_within HYS.out.1 _ (List.getElem_mem hjl))
     generalize ys[j] = x at *
     have c0 : wr.cell? ⟨b2, o2 + j * 4, none⟩ = some (.int .i64 x.s) := hcs 0 (by decide)
     have c1 : wr.cell? ⟨b2, o2 + j * 4 + 1, none⟩ = some (.int .i64 x.n) := hcs 1 (by decide)
     have c2 : wr.cell? ⟨b2, o2 + j * 4 + 2, none⟩ = some (.int .i64 x.b) := hcs 2 (by decide)
     have c3 : wr.cell? ⟨b2, o2 + j * 4 + 3, none⟩ = some (.int .i64 x.a) := hcs 3 (by decide)
     obtain ⟨ho1, hw1⟩ := HJ.out
     obtain ⟨pz, cz, hvz⟩ := ho1.form
     have HZL : Hid ((bothL xss k ++ (ys.take j).filter (bothF xss k)).length ≤ 70000) := by
      show _ ≤ _
      have h1 := HK60.out
      have h2 := List.length_filter_le (bothF xss k) (ys.take j)
      rw [List.length_take] at h2
      rw [List.length_append]
      omega
     generalize hz : bothL xss k ++ (ys.take j).filter (bothF xss k) = zs at *
     generalize hm : zs.length = m at *
     subst hvz
     have HMZ := Lib.hid hm
     have HO := Lib.hid (ho1.later (oneB wr (.cells #[.int .i64 x.s, .int .i64 x.n, .int .i64 x.b, .int .i64 x.a] 64)))
     have HX := Lib.hid (Blk.new wr #[.int .i64 x.s, .int .i64 x.n, .int .i64 x.b, .int .i64 x.a] 64)
     have HW := Lib.hid (hw1.trans ((oneB wr (.cells #[.int .i64 x.s, .int .i64 x.n, .int .i64 x.b, .int .i64 x.a] 64)).mono hw1.size))
     have HZZ := Lib.hid hz
     have hm7 : m ≤ 70000 := HZL.out
     clear ho1 hw1 HJ hcs hz hm
     go_wp2_with fail
     generalize wr.alloc (.cells #[.int .i64 x.s, .int .i64 x.n, .int .i64 x.b, .int .i64 x.a] 64) = W3 at *
     generalize wr.heap.size = gx at *
     have x0 : W3.cell? ⟨gx, 0, none⟩ = some (.int .i64 x.s) := HX.out.cell 0
     have x1 : W3.cell? ⟨gx, 1, none⟩ = some (.int .i64 x.n) := HX.out.cell 1
     have x2 : W3.cell? ⟨gx, 2, none⟩ = some (.int .i64 x.b) := HX.out.cell 2
     have x3 : W3.cell? ⟨gx, 3, none⟩ = some (.int .i64 x.a) := HX.out.cell 3
     have hgl := HX.out.lt
     clear c0 c1 c2 c3 hcu
     by_cases hsk : x.s = (k : Int)
     ·have e1 : (x.s != (k : Int)) = false := by simpa using hsk
      have hxb0 : 0 ≤ x.b := hwx.1
      have hxbn : x.b < (n : Int) := hwx.2.1
      have e2 : (x.b == (k : Int)) = false := by
       have : ¬ x.b = (k : Int) := fun h => hwx.2.2 (by rw [hsk, h])
       simpa using this
      have hnb : ¬ x.b < 0 := by omega
      have hnn : ¬ (n : Int) ≤ x.b := by omega
      have hwb : IntKind.i64.wrap x.b = x.b := IntWalk.i64_in _ (by omega)
      have hxl : x.b.toNat < xss.length := by rw [HL.out]; omega
      obtain ⟨b9, o9, uo, e9, hbo, hco, hro⟩ := (HR.out.kept HW.out).at_ x.b.toNat hxl
      cases e9
      have hlo := (HS.out _ (List.getElem_mem hxl)).2
      have HBF : Hid (bothF xss k x = decide (x ∈ xss[x.b.toNat])) := by
       have hxbn' : x.b < (xss.length : Int) := by rw [HL.out]; exact hxbn
       show _ = _
       unfold bothF offB
       rw [decide_eq_true hsk, Bool.true_and, List.getD_eq_getElem?_getD, List.getElem?_eq_getElem hxl, Option.getD_some]
       simp only [hxb0, hxbn', true_and]
      generalize xss[x.b.toNat] = zo at *
      have HHAS := Lib.hid (fun (W : World) (h : Below W3.heap.size W3 W) => has_any W uo zo x (hro.kept h) (by omega))
      unfold Lin.v at HHAS
      obtain ⟨fb, hfb⟩ : ∃ fb, decide (x ∈ zo) = fb := ⟨_, rfl⟩
      rw [hfb] at HHAS HBF
      clear hfb
      have hS1 : W3.drew.cell? ⟨gx, 0, none⟩ = some (.int .i64 x.s) ∧ W3.drew.cell? ⟨gx, 1, none⟩ = some (.int .i64 x.n) ∧ W3.drew.cell? ⟨gx, 2, none⟩ = some (.int .i64 x.b) ∧ W3.drew.cell? ⟨gx, 3, none⟩ = some (.int .i64 x.a) ∧ W3.drew.cell? ⟨b, o + x.b.toNat, none⟩ = some uo := ⟨x0, x1, x2, x3, hco⟩
      have HSS : Hid (∀ w', Below W3.heap.size W3 w' → w'.cell? ⟨gx, 0, none⟩ = some (.int .i64 x.s) ∧ w'.cell? ⟨gx, 1, none⟩ = some (.int .i64 x.n) ∧ w'.cell? ⟨gx, 2, none⟩ = some (.int .i64 x.b) ∧ w'.cell? ⟨gx, 3, none⟩ = some (.int .i64 x.a) ∧ w'.cell? ⟨b, o + x.b.toNat, none⟩ = some uo) := fun w' h => ⟨(h.cell (p := ⟨gx, 0, none⟩) hgl).trans x0, (h.cell (p := ⟨gx, 1, none⟩) hgl).trans x1, (h.cell (p := ⟨gx, 2, none⟩) hgl).trans x2, (h.cell (p := ⟨gx, 3, none⟩) hgl).trans x3, (h.cell (p := ⟨b, _, none⟩) hbo).trans hco⟩
      clear hwx hsk hro x0 x1 x2 x3 hco
      refine wp_region_held_drew (S := fun w' => w'.cell? ⟨gx, 0, none⟩ = some (.int .i64 x.s) ∧ w'.cell? ⟨gx, 1, none⟩ = some (.int .i64 x.n) ∧ w'.cell? ⟨gx, 2, none⟩ = some (.int .i64 x.b) ∧ w'.cell? ⟨gx, 3, none⟩ = some (.int .i64 x.a) ∧ w'.cell? ⟨b, o + x.b.toNat, none⟩ = some uo) (by kernel_rfl) hS1 (fun hS0 => ?_)
      refine tkq 0 ?_
      refine tkq 1 ?_
      refine tkq 2 ?_
      refine tkq 3 ?_
      refine tkq 4 ?_
      refine tkq 5 ?_
      refine tkq 6 ?_
      refine tkq 7 ?_
      refine tkq 8 ?_
      refine tkq 9 ?_
      refine tkq 10 ?_
      refine tkq 11 ?_
      refine tkq 12 ?_
      refine tkq 13 ?_
      refine tkq 14 ?_
      refine tkq 15 ?_
      refine tkq 16 ?_
      refine tkq 17 ?_
      refine tkq 18 ?_
      refine tkq 19 ?_
      refine tkq 20 ?_
      refine tkq 21 ?_
      refine tkq 22 ?_
      refine tkq 23 ?_
      refine tkq 24 ?_
      refine tkq 25 ?_
      refine tkq 26 ?_
      refine tkq 27 ?_
      refine tkq 28 ?_
      refine tkq 29 ?_
      refine rdq 30 (fun K hK => ?_)
      go_simp
      go_at_call 58
      refine (HHAS.out W3.drew (Below.refl W3.heap.size W3).drew).mono ?_
      rintro y w2 ⟨rfl, hb2⟩
      have HB2 := Lib.hid ((Below.refl W3.heap.size W3).drew.trans (hb2.mono (Nat.le_refl _)))
      clear hb2
      try go_wp2_with fail
      refine hK.out _ _ (HSS.out w2 HB2.out) (fun hS => ?_)
      clear hK K
      try simp only [Act.put, List.getElem_toArray, List.getElem_cons_succ, List.getElem_cons_zero, List.setIfInBounds_toArray, List.set_cons_zero, List.set_cons_succ]
      refine tkq 31 ?_
      refine tkq 32 ?_
      refine wpAnyH_done (by kernel_rfl) ?_ _
      have HO2 := Lib.hid (HO.out.later HB2.out)
      have HX2 := Lib.hid (HX.out.below HB2.out HX.out.lt)
      have HW2 := Lib.hid (HW.out.trans (HB2.out.mono HW.out.size))
      clear HO HX HW HSS HHAS
      cases fb
      ·skip
       have HNX : Hid (OwnT encN w2 w.heap.size 64 (.slice pz m cz) (bothL xss k ++ (ys.take (j + 1)).filter (bothF xss k)) ∧ Below w.heap.size w w2) := ⟨by rw [HFS.out, HBF.out, if_neg (by decide), List.append_nil, HZZ.out]; exact HO2.out, HW2.out⟩
       clear HFS HBF
       go_wp2_with fail
       go_roundw
       case rel => exact ⟨j + 1, by omega, by go_num, HNX⟩
       case measure => simp [intOf]; omega
      ·skip
       have HFY : Hid (bothL xss k ++ (ys.take (j + 1)).filter (bothF xss k) = zs ++ [x]) := by show _ = _; rw [HFS.out, HBF.out, if_pos rfl, ← List.append_assoc, HZZ.out]
       have x0 : w2.cell? ⟨gx, 0, none⟩ = some (.int .i64 x.s) := HX2.out.cell 0
       have x1 : w2.cell? ⟨gx, 1, none⟩ = some (.int .i64 x.n) := HX2.out.cell 1
       have x2 : w2.cell? ⟨gx, 2, none⟩ = some (.int .i64 x.b) := HX2.out.cell 2
       have x3 : w2.cell? ⟨gx, 3, none⟩ = some (.int .i64 x.a) := HX2.out.cell 3
       clear HFS HBF
       go_wp2_with (at_builtin; with_reducible refine stop_appendIN (.tmp 62) (.tmp 64) 33 rfl ?_)
       refine wpList_append_t rfl (.tmp 62) (.tmp 64) 33 rfl 64 zeroVNc 32 w.heap.size eltNc rfl (by decide) (.slice pz m cz) (.slice (some ⟨w2.heap.size, 0, none⟩) 1 1) zs [x] rfl rfl (HO2.out.later (oneB w2 (.cells #[.int .i64 x.s, .int .i64 x.n, .int .i64 x.b, .int .i64 x.a] 64))) (TRow.one_ encN x (Blk.new w2 #[.int .i64 x.s, .int .i64 x.n, .int .i64 x.b, .int .i64 x.a] 64) rfl (Nat.le_refl _)) (by have := HMZ.out; simp; omega) (by have := HW2.out.size; simp at this ⊢; omega) (zs ++ [x]) (m + 1) rfl (by rw [List.length_append, HMZ.out]; rfl) ?_
       intro p9 c9 w3 ho3 _ hb3
       have HNX : Hid (OwnT encN w3 w.heap.size 64 (.slice p9 (m + 1) c9) (bothL xss k ++ (ys.take (j + 1)).filter (bothF xss k)) ∧ Below w.heap.size w w3) := ⟨by rw [HFY.out]; exact ho3, HW2.out.trans (((Below.refl _ w2).alloc HW2.out.size _).trans hb3)⟩
       clear ho3 hb3
       go_wp2_with fail
       go_roundw
       case rel => exact ⟨j + 1, by omega, by go_num, HNX⟩
       case measure => simp [intOf]; omega
     ·have e1 : (x.s != (k : Int)) = true := by simpa using hsk
      have HNX : Hid (OwnT encN W3.drew w.heap.size 64 (.slice pz m cz) (bothL xss k ++ (ys.take (j + 1)).filter (bothF xss k)) ∧ Below w.heap.size w W3.drew) := ⟨by rw [HFS.out, show bothF xss k x = false by unfold bothF; rw [decide_eq_false hsk]; rfl, if_neg (by decide), List.append_nil, HZZ.out]; exact HO.out, HW.out.drew⟩
      have hS1 : W3.drew.cell? ⟨gx, 0, none⟩ = some (.int .i64 x.s) ∧ W3.drew.cell? ⟨gx, 1, none⟩ = some (.int .i64 x.n) ∧ W3.drew.cell? ⟨gx, 2, none⟩ = some (.int .i64 x.b) ∧ W3.drew.cell? ⟨gx, 3, none⟩ = some (.int .i64 x.a) := ⟨x0, x1, x2, x3⟩
      clear hsk HFS hwx x0 x1 x2 x3
      refine wp_region_held_drew (S := fun w' => w'.cell? ⟨gx, 0, none⟩ = some (.int .i64 x.s) ∧ w'.cell? ⟨gx, 1, none⟩ = some (.int .i64 x.n) ∧ w'.cell? ⟨gx, 2, none⟩ = some (.int .i64 x.b) ∧ w'.cell? ⟨gx, 3, none⟩ = some (.int .i64 x.a)) (by kernel_rfl) hS1 (fun hS0 => ?_)
      refine tkq 0 ?_
      refine tkq 1 ?_
      refine tkq 2 ?_
      refine tkq 3 ?_
      refine tkq 4 ?_
      refine tkq 5 ?_
      refine tnq 6 ?_
      refine tnq 7 ?_
      refine tnq 8 ?_
      refine tkq 9 ?_
      refine tkq 10 ?_
      refine tnq 11 ?_
      refine tnq 12 ?_
      refine tnq 13 ?_
      refine tnq 14 ?_
      refine tnq 15 ?_
      refine tkq 16 ?_
      refine tkq 17 ?_
      refine tnq 18 ?_
      refine tnq 19 ?_
      refine tnq 20 ?_
      refine tnq 21 ?_
      refine tkq 22 ?_
      refine tkq 23 ?_
      refine tnq 24 ?_
      refine tnq 25 ?_
      refine tnq 26 ?_
      refine tnq 27 ?_
      refine tnq 28 ?_
      refine tnq 29 ?_
      refine tnq 30 ?_
      refine tnq 31 ?_
      refine tkq 32 ?_
      refine wpAnyH_done (by kernel_rfl) ?_ _
      go_wp2_with fail
      go_roundw
      case rel => exact ⟨j + 1, by omega, by go_num, HNX⟩
      case measure => simp [intOf]; omega
    ·have hle : (ny : Int) ≤ (j : Int) := by omega
     have hjn : j = ys.length := by rw [HLY.out]; omega
     have HK2 := HJ.out
     rw [hjn, List.take_length, ← HPK.out, ← bothL_succ] at HK2
     have HNK : Hid (OwnT encN wr w.heap.size 64 _ (bothL xss (k + 1)) ∧ Below w.heap.size w wr) := ⟨HK2.1, HK2.2⟩
     clear hjn HK2 HJ
     go_wp2_with fail
     go_roundw
     case rel => exact ⟨k + 1, by omega, by go_num, HNK⟩
     case measure => simp [intOf]; omega
  ·have hle : (n : Int) ≤ (k : Int) := by omega
   obtain rfl : k = n := by omega
   have HF := Lib.hid HK.out
   obtain ⟨pa, ca, hva⟩ := HF.out.1.form
   generalize (bothL xss k).length = na at hva
   subst hva
   clear HK
   go_wp2_with fail
   go_ret
   exact ⟨_, rfl, HF.out.1, HF.out.2⟩
end Go.Proofs.Yteogdfpkcoodlaa
