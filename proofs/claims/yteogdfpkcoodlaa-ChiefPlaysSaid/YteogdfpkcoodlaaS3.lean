/- (Chief).start by contract. (Chief).Do by contract. (Chief).Get by contract: a cycle in memory of its own. (Chief).Waits by contract. Rows that lie in no block of a list. chief's Do, Get, Waits in a law: the cycles in blocks of Q; what is said. The document's coordinator (contraref18), as it lies; all, with by contract. -/
import Derived.Test.YteogdfpkcoodlaaS2
import Derived.Test.YteogdfpkcoodlaaS1
namespace Go.Proofs.Yteogdfpkcoodlaa
open Go.RowKit
set_option linter.unusedSimpArgs false
/-- A cycle that begins. -/
def rn0 (N : Nat) (cu : Int) : Rn := ⟨cu, 1, List.replicate N hd0, [], []⟩
def askM (k cu : Int) : Msg := ⟨10, 0, 0, 0, cu, 0, k, 0, false, [], []⟩
/-- What a client's start does. -/
def startC (N : Nat) (rs : List Rn) (m : Msg) : CAns :=
 if m.c < 0 ∨ 8 ≤ m.c then (rs, [], 1) else if rs.any (fun r => r.cu == m.c && openB r) = true then (rs, [], 90) else
 (rs ++ [rn0 N m.c], toAllL N (askM ((rs.length + 1 : Nat) : Int) m.c), 0)
theorem made_getH (z : Array Value) (k n i t : Nat) (hz : z.size = k) (hi : i < n) (ht : t < k) : (madeCells z (n * k))[i * k + t]? = z[t]? := by
 have hlt : i * k + t < n * k := mul_lt_of hi ht
 have hm : (i * k + t) % k = t := by rw [Nat.mul_comm, Nat.mul_add_mod]; exact Nat.mod_eq_of_lt ht
 unfold madeCells
 simp only [Array.getElem?_map, Array.getElem?_range, if_pos hlt, Option.map_some, hz, hm]
 simp [hz, ht]
theorem HsR.made {P : Nat → Prop} {w : World} {g N : Nat} (hB : Blk w g (madeCells #[.bool false, .bool false, .slice none 0 0] (N * encH.k)) 80) (hg : P g) : HsR P w (.slice (some ⟨g, 0, none⟩) N N) (List.replicate N hd0) := by
 refine ⟨List.replicate N ⟨hd0, none, 0⟩, ⟨_, _, by rw [List.length_replicate], by simp, .inr ⟨g, 0, rfl, hB.lt, fun i hi t ht => ?_⟩⟩, fun b o n c e _ => by cases e; exact hg, fun x hx => ?_, by rw [List.map_replicate]⟩
 ·rw [List.length_replicate] at hi
  rw [List.getElem_replicate, Nat.zero_add]
  refine (hB.cell _).trans ((made_getH _ 3 N i t rfl hi ht).trans ?_)
  match t, ht with
  | 0, _ => rfl
  | 1, _ => rfl
  | 2, _ => rfl
 ·obtain ⟨_, rfl⟩ := List.mem_replicate.1 hx
  exact ⟨TRow.nil_ _ _, At.nil_ _ _⟩
set_option linter.unusedSimpArgs false in
set_option maxHeartbeats 4000000 in
set_option maxRecDepth 100000 in
theorem cstart_any (w : World) (P : Nat → Prop) (N : Nat) (p : Option Addr) (n c : Nat) (rs : List Rn) (y : MsgX) (fro : Int) (hrs : RsR P w (.slice p n c) rs) (hpw : ∀ b, P b → b < w.heap.size) (hn : n = rs.length) (hl : n ≤ 1000) (hN1 : 1 ≤ N) (hN8 : N ≤ 8) :
  Calls Try.prog 32 #[.agg #[.int .i64 (N : Int), .slice p n c], y.m.v (.slice y.pl y.m.ls.length y.cl) (.slice y.pn y.m.ns.length y.cn), .int .i64 fro] w (CP w P N (startC N rs y.m)) := by
 unfold CP
 have hmf : ∀ (fn : Fn) (first cap : Array Value) (w : World), (Instr.makeFunc fn first cap).run Try.prog w = .ok (.func fn first cap) w := fun _ _ _ _ => rfl
 have HRS := Lib.hid hrs
 have HPW := Lib.hid hpw
 have HNN : Hid (1 ≤ N ∧ N ≤ 8) := Lib.hid ⟨hN1, hN8⟩
 have HKK : Hid (n = rs.length ∧ n ≤ 1000) := Lib.hid ⟨hn, hl⟩
 clear hrs hpw hN1 hN8 hn hl
 unfold Msg.v
 have HB0 : Hid (Below w.heap.size w (((w.alloc (.cells #[.int .i64 (N : Int), .slice p n c] 27)).alloc (.cells #[.int .i64 y.m.k, .int .i64 y.m.s, .int .i64 y.m.n, .int .i64 y.m.b, .int .i64 y.m.c, .int .i64 y.m.r, .int .i64 y.m.y, .int .i64 y.m.a, .bool y.m.t, .slice y.pl y.m.ls.length y.cl, .slice y.pn y.m.ns.length y.cn] 36)).alloc (.cells #[.int .i64 0, .slice none 0 0] 27))) := Lib.hid ((((oneB w _).alloc (by simp <;> omega) _).alloc (by simp <;> omega) _))
 have Hc0 : Hid (Blk (((w.alloc (.cells #[.int .i64 (N : Int), .slice p n c] 27)).alloc (.cells #[.int .i64 y.m.k, .int .i64 y.m.s, .int .i64 y.m.n, .int .i64 y.m.b, .int .i64 y.m.c, .int .i64 y.m.r, .int .i64 y.m.y, .int .i64 y.m.a, .bool y.m.t, .slice y.pl y.m.ls.length y.cl, .slice y.pn y.m.ns.length y.cn] 36)).alloc (.cells #[.int .i64 0, .slice none 0 0] 27)) w.heap.size #[.int .i64 (N : Int), .slice p n c] 27) := Lib.hid (((Blk.new w #[.int .i64 (N : Int), .slice p n c] 27).alloc _).alloc _)
 have Hm0 : Hid (Blk (((w.alloc (.cells #[.int .i64 (N : Int), .slice p n c] 27)).alloc (.cells #[.int .i64 y.m.k, .int .i64 y.m.s, .int .i64 y.m.n, .int .i64 y.m.b, .int .i64 y.m.c, .int .i64 y.m.r, .int .i64 y.m.y, .int .i64 y.m.a, .bool y.m.t, .slice y.pl y.m.ls.length y.cl, .slice y.pn y.m.ns.length y.cn] 36)).alloc (.cells #[.int .i64 0, .slice none 0 0] 27)) (w.heap.size + 1) #[.int .i64 y.m.k, .int .i64 y.m.s, .int .i64 y.m.n, .int .i64 y.m.b, .int .i64 y.m.c, .int .i64 y.m.r, .int .i64 y.m.y, .int .i64 y.m.a, .bool y.m.t, .slice y.pl y.m.ls.length y.cl, .slice y.pn y.m.ns.length y.cn] 36) := Lib.hid ((Blk.new' (w.alloc (.cells #[.int .i64 (N : Int), .slice p n c] 27)) #[.int .i64 y.m.k, .int .i64 y.m.s, .int .i64 y.m.n, .int .i64 y.m.b, .int .i64 y.m.c, .int .i64 y.m.r, .int .i64 y.m.y, .int .i64 y.m.a, .bool y.m.t, .slice y.pl y.m.ls.length y.cl, .slice y.pn y.m.ns.length y.cn] 36 (by simp)).alloc _)
 have Hr0 : Hid (Blk (((w.alloc (.cells #[.int .i64 (N : Int), .slice p n c] 27)).alloc (.cells #[.int .i64 y.m.k, .int .i64 y.m.s, .int .i64 y.m.n, .int .i64 y.m.b, .int .i64 y.m.c, .int .i64 y.m.r, .int .i64 y.m.y, .int .i64 y.m.a, .bool y.m.t, .slice y.pl y.m.ls.length y.cl, .slice y.pn y.m.ns.length y.cn] 36)).alloc (.cells #[.int .i64 0, .slice none 0 0] 27)) (w.heap.size + 1 + 1) #[.int .i64 0, .slice none 0 0] 27) := Lib.hid (Blk.new' ((w.alloc (.cells #[.int .i64 (N : Int), .slice p n c] 27)).alloc (.cells #[.int .i64 y.m.k, .int .i64 y.m.s, .int .i64 y.m.n, .int .i64 y.m.b, .int .i64 y.m.c, .int .i64 y.m.r, .int .i64 y.m.y, .int .i64 y.m.a, .bool y.m.t, .slice y.pl y.m.ls.length y.cl, .slice y.pn y.m.ns.length y.cn] 36)) #[.int .i64 0, .slice none 0 0] 27 (by simp))
 have HZ0 : Hid (w.heap.size ≤ (((w.alloc (.cells #[.int .i64 (N : Int), .slice p n c] 27)).alloc (.cells #[.int .i64 y.m.k, .int .i64 y.m.s, .int .i64 y.m.n, .int .i64 y.m.b, .int .i64 y.m.c, .int .i64 y.m.r, .int .i64 y.m.y, .int .i64 y.m.a, .bool y.m.t, .slice y.pl y.m.ls.length y.cl, .slice y.pn y.m.ns.length y.cn] 36)).alloc (.cells #[.int .i64 0, .slice none 0 0] 27)).heap.size) := Lib.hid HB0.out.size
 go_enter Try.func32, Try.ntmps32
 go_upto_region 2 with fail
 generalize (((w.alloc (.cells #[.int .i64 (N : Int), .slice p n c] 27)).alloc (.cells #[.int .i64 y.m.k, .int .i64 y.m.s, .int .i64 y.m.n, .int .i64 y.m.b, .int .i64 y.m.c, .int .i64 y.m.r, .int .i64 y.m.y, .int .i64 y.m.a, .bool y.m.t, .slice y.pl y.m.ls.length y.cl, .slice y.pn y.m.ns.length y.cn] 36)).alloc (.cells #[.int .i64 0, .slice none 0 0] 27)) = W at *
 have HWL : Hid (w.heap.size + 1 + 1 < W.heap.size) := Lib.hid Hr0.out.lt
 by_cases h1 : y.m.c < 0
 ·skip
  have m4 : W.cell? ⟨(w.heap.size + 1), 4, none⟩ = some (.int .i64 y.m.c) := Hm0.out.cell 4
  have HE : Hid (startC N rs y.m = (rs, [], 1)) := by show _ = _; unfold startC; rw [if_pos (.inl h1)]
  go_upto_region 3 with fail
  clear m4 h1
  have a0 : W.cell? ⟨w.heap.size, 0, none⟩ = some (.int .i64 (N : Int)) := Hc0.out.cell 0
  have a1 : W.cell? ⟨w.heap.size, 1, none⟩ = some (.slice p n c) := Hc0.out.cell 1
  go_wp2_with (with_reducible refine stop_storeT 27 (.tmp 6) (.tmp 21) rfl ?_)
  clear a0 a1
  have HTH : Hid (W.there (w.heap.size + 1 + 1) 0 2) := Hr0.out.thereAt
  have hch : Hid (Chg (w.heap.size + 1 + 1) W (W.setCells (w.heap.size + 1 + 1) 0 (#[.int .i64 (N : Int), .slice p n c] : Array Value).toList)) := Lib.hid (chg_putL _ _ _ _ _ (Chg.refl _ W))
  have Hr1 : Hid (Blk (W.setCells (w.heap.size + 1 + 1) 0 (#[.int .i64 (N : Int), .slice p n c] : Array Value).toList) (w.heap.size + 1 + 1) #[.int .i64 (N : Int), .slice p n c] 27) := Lib.hid (blk_put_all Hr0.out _ rfl)
  have HB1 : Hid (Below w.heap.size w (W.setCells (w.heap.size + 1 + 1) 0 (#[.int .i64 (N : Int), .slice p n c] : Array Value).toList)) := Lib.hid (below_put (by omega) _ _ _ _ HB0.out)
  have HZ1 := kzq HZ0 hch.out.size
  have Hc1 := kcq Hc0 hch (by omega)
  have Hm1 := kcq Hm0 hch (by omega)
  clear hch Hc0 Hm0 Hr0 HB0 HZ0
  refine wpList_store_mid rfl 27 (.tmp 6) (.tmp 21) rfl (w.heap.size + 1 + 1) 0 #[.int .i64 (N : Int), .slice p n c] rfl rfl HTH.out (infoC2 rfl) (all_oneCell_toArray (by intro u hu; simp at hu; rcases hu with rfl | rfl <;> rfl)) ?_
  generalize (W.setCells (w.heap.size + 1 + 1) 0 (#[.int .i64 (N : Int), .slice p n c] : Array Value).toList) = W9a at *
  clear HTH
  go_wp2_with fail
  have hfr := Hr1.out
  refine bodyPost_ret (v := .tuple #[.agg #[.int .i64 (N : Int), .slice p n c], .slice none 0 0, .int .i64 1]) (by simp [results, Try.results32, go_sem, hfr.cell 0, hfr.cell 1]) rfl (by rw [HE.out]; exact ⟨p, n, c, none, 0, 0, W9a.heap.size, rfl, HKK.out.1, rfl, HZ1.out, (HRS.out.kept HB1.out).imp (fun b h => .inl h), SaidL.nil_ _ _, HB1.out⟩)
 by_cases h2 : 8 ≤ y.m.c
 ·skip
  have m4 : W.cell? ⟨(w.heap.size + 1), 4, none⟩ = some (.int .i64 y.m.c) := Hm0.out.cell 4
  have HE : Hid (startC N rs y.m = (rs, [], 1)) := by show _ = _; unfold startC; rw [if_pos (.inr h2)]
  go_upto_region 3 with fail
  clear m4 h1 h2
  have a0 : W.cell? ⟨w.heap.size, 0, none⟩ = some (.int .i64 (N : Int)) := Hc0.out.cell 0
  have a1 : W.cell? ⟨w.heap.size, 1, none⟩ = some (.slice p n c) := Hc0.out.cell 1
  go_wp2_with (with_reducible refine stop_storeT 27 (.tmp 6) (.tmp 21) rfl ?_)
  clear a0 a1
  have HTH : Hid (W.there (w.heap.size + 1 + 1) 0 2) := Hr0.out.thereAt
  have hch : Hid (Chg (w.heap.size + 1 + 1) W (W.setCells (w.heap.size + 1 + 1) 0 (#[.int .i64 (N : Int), .slice p n c] : Array Value).toList)) := Lib.hid (chg_putL _ _ _ _ _ (Chg.refl _ W))
  have Hr1 : Hid (Blk (W.setCells (w.heap.size + 1 + 1) 0 (#[.int .i64 (N : Int), .slice p n c] : Array Value).toList) (w.heap.size + 1 + 1) #[.int .i64 (N : Int), .slice p n c] 27) := Lib.hid (blk_put_all Hr0.out _ rfl)
  have HB1 : Hid (Below w.heap.size w (W.setCells (w.heap.size + 1 + 1) 0 (#[.int .i64 (N : Int), .slice p n c] : Array Value).toList)) := Lib.hid (below_put (by omega) _ _ _ _ HB0.out)
  have HZ1 := kzq HZ0 hch.out.size
  have Hc1 := kcq Hc0 hch (by omega)
  have Hm1 := kcq Hm0 hch (by omega)
  clear hch Hc0 Hm0 Hr0 HB0 HZ0
  refine wpList_store_mid rfl 27 (.tmp 6) (.tmp 21) rfl (w.heap.size + 1 + 1) 0 #[.int .i64 (N : Int), .slice p n c] rfl rfl HTH.out (infoC2 rfl) (all_oneCell_toArray (by intro u hu; simp at hu; rcases hu with rfl | rfl <;> rfl)) ?_
  generalize (W.setCells (w.heap.size + 1 + 1) 0 (#[.int .i64 (N : Int), .slice p n c] : Array Value).toList) = W9b at *
  clear HTH
  go_wp2_with fail
  have hfr := Hr1.out
  refine bodyPost_ret (v := .tuple #[.agg #[.int .i64 (N : Int), .slice p n c], .slice none 0 0, .int .i64 1]) (by simp [results, Try.results32, go_sem, hfr.cell 0, hfr.cell 1]) rfl (by rw [HE.out]; exact ⟨p, n, c, none, 0, 0, W9b.heap.size, rfl, HKK.out.1, rfl, HZ1.out, (HRS.out.kept HB1.out).imp (fun b h => .inl h), SaidL.nil_ _ _, HB1.out⟩)
 have HNR : Hid (¬ (y.m.c < 0 ∨ 8 ≤ y.m.c)) := Lib.hid (by omega)
 have m4 : W.cell? ⟨(w.heap.size + 1), 4, none⟩ = some (.int .i64 y.m.c) := Hm0.out.cell 4
 go_upto_region 4 with fail
 clear m4 h1 h2
 obtain ⟨xs, hr, hat, hin, hm⟩ := HRS.out
 have HXR := Lib.hid hr
 have HXA := Lib.hid hat
 have HXI := Lib.hid hin
 have HXM := Lib.hid hm
 have HXL : Hid (xs.length = n) := Lib.hid (by rw [HKK.out.1, ← HXM.out, List.length_map])
 clear hr hat hin hm
 have HG := Lib.hid (has_start W (.slice p n c) xs (fun x => x.r.cu == y.m.c && openB x.r) W.heap.size (w.heap.size + 1) (HXR.out.kept HB0.out) (fun x hx => ⟨P, (HXI.out x hx).kept HB0.out⟩) (fun W0 hW0 x0 hx0 => another_any W0 x0 y.m.c (w.heap.size + 1) ((hW0.cell (p := ⟨w.heap.size + 1, 4, none⟩) Hm0.out.lt).trans (Hm0.out.cell 4))) (Nat.le_refl _) (by have := HXL.out; have := HKK.out; omega))
 rw [show xs.any (fun x => x.r.cu == y.m.c && openB x.r) = rs.any (fun r => r.cu == y.m.c && openB r) by rw [← HXM.out, List.any_map]; rfl] at HG
 obtain ⟨ba, hba⟩ : ∃ ba, rs.any (fun r => r.cu == y.m.c && openB r) = ba := ⟨_, rfl⟩
 rw [hba] at HG
 have HBA := Lib.hid hba
 clear hba
 have a1 : W.cell? ⟨w.heap.size, 1, none⟩ = some (.slice p n c) := Hc0.out.cell 1
 go_wp2_with fail
 clear a1
 refine HG.out.mono ?_
 rintro y9 w1 ⟨rfl, hb⟩
 clear HG
 have Hc1 := kbq Hc0 hb
 have Hm1 := kbq Hm0 hb
 have Hr1 := kbq Hr0 hb
 have HB1 := ktq HB0 hb
 have HZ1 := kzq HZ0 hb.size
 clear Hc0 Hm0 Hr0 HB0 HZ0
 clear hb
 cases ba
 ·skip
  have HE : Hid (startC N rs y.m = (rs ++ [rn0 N y.m.c], toAllL N (askM ((rs.length + 1 : Nat) : Int) y.m.c), 0)) := by show _ = _; unfold startC; rw [if_neg HNR.out, if_neg (by rw [HBA.out]; decide)]
  have hlm : decide ((1048576 : Int) ≤ (n : Int)) = false := decide_eq_false (by have := HKK.out; omega)
  have a1 : w1.cell? ⟨w.heap.size, 1, none⟩ = some (.slice p n c) := Hc1.out.cell 1
  go_upto_region 8 with fail
  clear a1 hlm
  have HW8 : Hid (w.heap.size + 1 + 1 < w1.drew.heap.size) := Lib.hid Hr1.out.lt
  have hbd := (Below.refl w1.heap.size w1).drew
  have Hc2 := kbq Hc1 hbd
  have Hm2 := kbq Hm1 hbd
  have Hr2 := kbq Hr1 hbd
  have HB2 := ktq HB1 hbd
  have HZ2 := kzq HZ1 hbd.size
  clear Hc1 Hm1 Hr1 HB1 HZ1
  refine wp_region_held_drew (S := fun w' => w'.cell? ⟨w.heap.size, 0, none⟩ = some (.int .i64 (N : Int)) ∧ w'.cell? ⟨w.heap.size, 1, none⟩ = some (.slice p n c) ∧ w'.cell? ⟨w.heap.size + 1, 0, none⟩ = some (.int .i64 y.m.k) ∧ w'.cell? ⟨w.heap.size + 1, 1, none⟩ = some (.int .i64 y.m.s) ∧ w'.cell? ⟨w.heap.size + 1, 2, none⟩ = some (.int .i64 y.m.n) ∧ w'.cell? ⟨w.heap.size + 1, 3, none⟩ = some (.int .i64 y.m.b) ∧ w'.cell? ⟨w.heap.size + 1, 4, none⟩ = some (.int .i64 y.m.c) ∧ w'.cell? ⟨w.heap.size + 1, 5, none⟩ = some (.int .i64 y.m.r) ∧ w'.cell? ⟨w.heap.size + 1, 6, none⟩ = some (.int .i64 y.m.y) ∧ w'.cell? ⟨w.heap.size + 1, 7, none⟩ = some (.int .i64 y.m.a) ∧ w'.cell? ⟨w.heap.size + 1, 8, none⟩ = some (.bool y.m.t) ∧ w'.cell? ⟨w.heap.size + 1, 9, none⟩ = some (.slice y.pl y.m.ls.length y.cl) ∧ w'.cell? ⟨w.heap.size + 1, 10, none⟩ = some (.slice y.pn y.m.ns.length y.cn)) (by kernel_rfl) ⟨Hc2.out.cell 0, Hc2.out.cell 1, Hm2.out.cell 0, Hm2.out.cell 1, Hm2.out.cell 2, Hm2.out.cell 3, Hm2.out.cell 4, Hm2.out.cell 5, Hm2.out.cell 6, Hm2.out.cell 7, Hm2.out.cell 8, Hm2.out.cell 9, Hm2.out.cell 10⟩ (fun hS0 => ?_)
  generalize w1.drew = WD at *
  clear hbd
  refine tkq 0 ?_
  refine tkq 1 ?_
  refine tkq 2 ?_
  refine wpAnyH_ready (rs := [3, 6]) (by kernel_rfl) (by simp) ?_
  refine AllReadyH.cons rfl (fun K hK => ?_) (AllReadyH.cons rfl (fun K hK => ?_) AllReadyH.nil)
  ·skip
   have HG := Lib.hid (entities_any WD (N : Int) p n c (by omega) (by have := HNN.out; omega))
   go_simp
   go_at_call 16
   refine HG.out.mono ?_
   rintro y9 w3 ⟨rfl, hb⟩
   clear HG
   have Hc3 := kbq Hc2 hb
   have Hm3 := kbq Hm2 hb
   have Hr3 := kbq Hr2 hb
   have HB3 := ktq HB2 hb
   have HZ3 := kzq HZ2 hb.size
   clear Hc2 Hm2 Hr2 HB2 HZ2
   clear hb hS0
   try go_wp2_with fail
   refine hK.out _ _ ⟨Hc3.out.cell 0, Hc3.out.cell 1, Hm3.out.cell 0, Hm3.out.cell 1, Hm3.out.cell 2, Hm3.out.cell 3, Hm3.out.cell 4, Hm3.out.cell 5, Hm3.out.cell 6, Hm3.out.cell 7, Hm3.out.cell 8, Hm3.out.cell 9, Hm3.out.cell 10⟩ (fun hS0 => ?_)
   clear hK K
   try simp only [Act.put, List.getElem_toArray, List.getElem_cons_succ, List.getElem_cons_zero, List.setIfInBounds_toArray, List.set_cons_zero, List.set_cons_succ]
   refine wpAnyH_ready (rs := [4, 6]) (by kernel_rfl) (by simp) ?_
   refine AllReadyH.cons rfl (fun K hK => ?_) (AllReadyH.cons rfl (fun K hK => ?_) AllReadyH.nil)
   ·skip
    obtain ⟨i0, hu, hi, hz, hs, hby⟩ := eltH
    have hmk := run_make (P := Try.prog) w3 54 80 i0 _ hu hi hz .i64 .i64 (N : Int) (N : Int) (by omega) (Int.le_refl _) (by rw [hby]; have := HNN.out; omega) (by have := HNN.out; omega)
    rw [hs] at hmk
    simp only [Int.toNat_natCast, Value.cells, zeroVH] at hmk
    clear hu hi hz hs hby
    have HGM : Hid (w.heap.size + 1 + 1 < w3.heap.size) := Lib.hid Hr3.out.lt
    go_simp
    clear hmk
    have hba := oneB w3 (.cells (madeCells #[.bool false, .bool false, .slice none 0 0] (N * encH.k)) 80)
    have Hc4 := kbq Hc3 hba
    have Hm4 := kbq Hm3 hba
    have Hr4 := kbq Hr3 hba
    have Hk4 := Lib.hid (Blk.new w3 (madeCells #[.bool false, .bool false, .slice none 0 0] (N * encH.k)) 80)
    have HB4 := Lib.hid (HB3.out.alloc HB3.out.size (.cells (madeCells #[.bool false, .bool false, .slice none 0 0] (N * encH.k)) 80))
    have HZ4 := kzq HZ3 hba.size
    clear hba hS0 Hc3 Hm3 Hr3 HB3 HZ3
    generalize (w3.alloc (.cells (madeCells #[.bool false, .bool false, .slice none 0 0] (N * encH.k)) 80)) = W4 at *
    generalize hggm : w3.heap.size = gm at *
    clear hggm
    refine hK.out _ _ ⟨Hc4.out.cell 0, Hc4.out.cell 1, Hm4.out.cell 0, Hm4.out.cell 1, Hm4.out.cell 2, Hm4.out.cell 3, Hm4.out.cell 4, Hm4.out.cell 5, Hm4.out.cell 6, Hm4.out.cell 7, Hm4.out.cell 8, Hm4.out.cell 9, Hm4.out.cell 10⟩ (fun hS0 => ?_)
    clear hK K
    try simp only [Act.put, List.getElem_toArray, List.getElem_cons_succ, List.getElem_cons_zero, List.setIfInBounds_toArray, List.set_cons_zero, List.set_cons_succ]
    refine tkq 5 ?_
    refine rdq 6 (fun K hK => ?_)
    have HGX : Hid (w.heap.size + 1 + 1 < W4.heap.size ∧ gm < W4.heap.size) := Lib.hid ⟨Hr4.out.lt, Hk4.out.lt⟩
    go_simp
    have hba := oneB W4 (.cells #[.int .i64 0, .int .i64 0, .slice none 0 0, .slice none 0 0, .slice none 0 0] 56)
    have Hc5 := kbq Hc4 hba
    have Hm5 := kbq Hm4 hba
    have Hr5 := kbq Hr4 hba
    have Hk5 := kbq Hk4 hba
    have Hx5 := Lib.hid (Blk.new W4 #[.int .i64 0, .int .i64 0, .slice none 0 0, .slice none 0 0, .slice none 0 0] 56)
    have HB5 := Lib.hid (HB4.out.alloc HB4.out.size (.cells #[.int .i64 0, .int .i64 0, .slice none 0 0, .slice none 0 0, .slice none 0 0] 56))
    have HZ5 := kzq HZ4 hba.size
    clear hba hS0 Hc4 Hm4 Hr4 Hk4 HB4 HZ4
    generalize (W4.alloc (.cells #[.int .i64 0, .int .i64 0, .slice none 0 0, .slice none 0 0, .slice none 0 0] 56)) = W6 at *
    generalize hggx : W4.heap.size = gx at *
    clear hggx
    refine hK.out _ _ ⟨Hc5.out.cell 0, Hc5.out.cell 1, Hm5.out.cell 0, Hm5.out.cell 1, Hm5.out.cell 2, Hm5.out.cell 3, Hm5.out.cell 4, Hm5.out.cell 5, Hm5.out.cell 6, Hm5.out.cell 7, Hm5.out.cell 8, Hm5.out.cell 9, Hm5.out.cell 10⟩ (fun hS0 => ?_)
    clear hK K
    try simp only [Act.put, List.getElem_toArray, List.getElem_cons_succ, List.getElem_cons_zero, List.setIfInBounds_toArray, List.set_cons_zero, List.set_cons_succ]
    refine rdq 7 (fun K hK => ?_)
    have z0 : W6.cell? ⟨gx, 0, none⟩ = some (.int .i64 0) := Hx5.out.cell 0
    have z1 : W6.cell? ⟨gx, 1, none⟩ = some (.int .i64 0) := Hx5.out.cell 1
    have z2 : W6.cell? ⟨gx, 2, none⟩ = some (.slice none 0 0) := Hx5.out.cell 2
    have z3 : W6.cell? ⟨gx, 3, none⟩ = some (.slice none 0 0) := Hx5.out.cell 3
    have z4 : W6.cell? ⟨gx, 4, none⟩ = some (.slice none 0 0) := Hx5.out.cell 4
    have f0 := Hx5.out.free 0
    have f1 := Hx5.out.free 1
    have f2 := Hx5.out.free 2
    have f3 := Hx5.out.free 3
    have f4 := Hx5.out.free 4
    go_simp
    clear z0 f0 z1 f1 z2 f2 z3 f3 z4 f4
    have hch := Lib.hid ((((((Chg.refl gx W6).set 0 (.int .i64 y.m.c)).set 1 (.int .i64 1)).set 2 (.slice (some ⟨gm, 0, none⟩) N N)).set 3 (.slice none 0 0)).set 4 (.slice none 0 0))
    have Hx6 : Hid (Blk (((((W6.setCell ⟨gx, 0, none⟩ (.int .i64 y.m.c)).setCell ⟨gx, 1, none⟩ (.int .i64 1)).setCell ⟨gx, 2, none⟩ (.slice (some ⟨gm, 0, none⟩) N N)).setCell ⟨gx, 3, none⟩ (.slice none 0 0)).setCell ⟨gx, 4, none⟩ (.slice none 0 0)) gx #[.int .i64 y.m.c, .int .i64 1, .slice (some ⟨gm, 0, none⟩) N N, .slice none 0 0, .slice none 0 0] 56) := (by have h1 := blk_put_all Hx5.out #[.int .i64 y.m.c, .int .i64 1, .slice (some ⟨gm, 0, none⟩) N N, .slice none 0 0, .slice none 0 0] rfl; exact Lib.hid h1)
    have HB6 := ksq HB5 hch (by show w.heap.size ≤ gx; have := HW8.out; have := HGX.out; have := HGM.out; omega)
    have HZ6 := kzq HZ5 hch.out.size
    have Hc6 := kcq Hc5 hch (by have := HW8.out; have := HGX.out; have := HGM.out; omega)
    have Hm6 := kcq Hm5 hch (by have := HW8.out; have := HGX.out; have := HGM.out; omega)
    have Hr6 := kcq Hr5 hch (by have := HW8.out; have := HGX.out; have := HGM.out; omega)
    have Hk6 := kcq Hk5 hch (by have := HW8.out; have := HGX.out; have := HGM.out; omega)
    clear hch hS0 Hc5 Hm5 Hr5 Hk5 Hx5 HB5 HZ5
    generalize (((((W6.setCell ⟨gx, 0, none⟩ (.int .i64 y.m.c)).setCell ⟨gx, 1, none⟩ (.int .i64 1)).setCell ⟨gx, 2, none⟩ (.slice (some ⟨gm, 0, none⟩) N N)).setCell ⟨gx, 3, none⟩ (.slice none 0 0)).setCell ⟨gx, 4, none⟩ (.slice none 0 0)) = WSa at *
    refine hK.out _ _ ⟨Hc6.out.cell 0, Hc6.out.cell 1, Hm6.out.cell 0, Hm6.out.cell 1, Hm6.out.cell 2, Hm6.out.cell 3, Hm6.out.cell 4, Hm6.out.cell 5, Hm6.out.cell 6, Hm6.out.cell 7, Hm6.out.cell 8, Hm6.out.cell 9, Hm6.out.cell 10⟩ (fun hS0 => ?_)
    clear hK K
    try simp only [Act.put, List.getElem_toArray, List.getElem_cons_succ, List.getElem_cons_zero, List.setIfInBounds_toArray, List.set_cons_zero, List.set_cons_succ]
    refine wpAnyH_done (by kernel_rfl) ?_ _
    clear hS0
    have HRO := Lib.hid ((TRow.one_ encR (⟨rn0 N y.m.c, some ⟨gm, 0, none⟩, N, none, 0, none, 0⟩ : RunX) (Blk.new WSa #[.int .i64 y.m.c, .int .i64 1, .slice (some ⟨gm, 0, none⟩) N N, .slice none 0 0, .slice none 0 0] 56) (by show _ = [Value.int .i64 y.m.c, .int .i64 1, .slice (some ⟨gm, 0, none⟩) (List.replicate N hd0).length N, .slice none 0 0, .slice none 0 0]; rw [List.length_replicate]) (Nat.le_refl 1)))
    have HXO := Lib.hid ((HXR.out.kept HB6.out).kept (oneB WSa (.cells #[.int .i64 y.m.c, .int .i64 1, .slice (some ⟨gm, 0, none⟩) N N, .slice none 0 0, .slice none 0 0] 56)))
    have hba := oneB WSa (.cells #[.int .i64 y.m.c, .int .i64 1, .slice (some ⟨gm, 0, none⟩) N N, .slice none 0 0, .slice none 0 0] 56)
    have a1 : WSa.cell? ⟨w.heap.size, 1, none⟩ = some (.slice p n c) := Hc6.out.cell 1
    have x0 : WSa.cell? ⟨gx, 0, none⟩ = some (.int .i64 y.m.c) := Hx6.out.cell 0
    have x1 : WSa.cell? ⟨gx, 1, none⟩ = some (.int .i64 1) := Hx6.out.cell 1
    have x2 : WSa.cell? ⟨gx, 2, none⟩ = some (.slice (some ⟨gm, 0, none⟩) N N) := Hx6.out.cell 2
    have x3 : WSa.cell? ⟨gx, 3, none⟩ = some (.slice none 0 0) := Hx6.out.cell 3
    have x4 : WSa.cell? ⟨gx, 4, none⟩ = some (.slice none 0 0) := Hx6.out.cell 4
    have HG := Lib.hid (concatR_any (WSa.heap.size + 1) 0 2 2 [.slice p n c, .slice (some ⟨WSa.heap.size, 0, none⟩) 1 1] [xs, [(⟨rn0 N y.m.c, some ⟨gm, 0, none⟩, N, none, 0, none, 0⟩ : RunX)]] ((WSa.alloc (.cells #[.int .i64 y.m.c, .int .i64 1, .slice (some ⟨gm, 0, none⟩) N N, .slice none 0 0, .slice none 0 0] 56)).alloc (.cells #[.slice p n c, .slice (some ⟨WSa.heap.size, 0, none⟩) 1 1] 25)) (RowsT.two (Blk.new' (WSa.alloc (.cells #[.int .i64 y.m.c, .int .i64 1, .slice (some ⟨gm, 0, none⟩) N N, .slice none 0 0, .slice none 0 0] 56)) #[.slice p n c, .slice (some ⟨WSa.heap.size, 0, none⟩) 1 1] 25 (by simp)) rfl (HXO.out.kept (oneB (WSa.alloc (.cells #[.int .i64 y.m.c, .int .i64 1, .slice (some ⟨gm, 0, none⟩) N N, .slice none 0 0, .slice none 0 0] 56)) _)) (HRO.out.kept (oneB (WSa.alloc (.cells #[.int .i64 y.m.c, .int .i64 1, .slice (some ⟨gm, 0, none⟩) N N, .slice none 0 0, .slice none 0 0] 56)) _))) rfl (by decide) (by have := HXL.out; have := HKK.out; simp; omega))
    clear hba HRO HXO
    rw [show [xs, [(⟨rn0 N y.m.c, some ⟨gm, 0, none⟩, N, none, 0, none, 0⟩ : RunX)]].flatten = xs ++ [(⟨rn0 N y.m.c, some ⟨gm, 0, none⟩, N, none, 0, none, 0⟩ : RunX)] by simp] at HG
    go_wp2_with fail
    clear a1 x0 x1 x2 x3 x4
    refine HG.out.mono ?_
    rintro y9 w9 ⟨v9, rfl, ho, hb9⟩
    clear HG
    have hb := (oneB WSa (.cells #[.int .i64 y.m.c, .int .i64 1, .slice (some ⟨gm, 0, none⟩) N N, .slice none 0 0, .slice none 0 0] 56)).trans (((oneB (WSa.alloc (.cells #[.int .i64 y.m.c, .int .i64 1, .slice (some ⟨gm, 0, none⟩) N N, .slice none 0 0, .slice none 0 0] 56)) (.cells #[.slice p n c, .slice (some ⟨WSa.heap.size, 0, none⟩) 1 1] 25)).trans (hb9.mono (by simp))).mono (by simp))
    obtain ⟨p9, c9, hv9⟩ := ho.form
    rw [show (xs ++ [(⟨rn0 N y.m.c, some ⟨gm, 0, none⟩, N, none, 0, none, 0⟩ : RunX)]).length = n + 1 by rw [List.length_append, HXL.out]; rfl] at hv9
    subst hv9
    have HO := Lib.hid (ho.less (base' := WSa.heap.size) (by simp; omega))
    have HW9 : Hid (w.heap.size + 1 + 1 < WSa.heap.size) := Lib.hid Hr6.out.lt
    clear ho hb9
    have Hc7 := kbq Hc6 hb
    have Hm7 := kbq Hm6 hb
    have Hr7 := kbq Hr6 hb
    have Hk7 := kbq Hk6 hb
    have Hx7 := kbq Hx6 hb
    have HB7 := ktq HB6 hb
    have HZ7 := kzq HZ6 hb.size
    clear Hc6 Hm6 Hr6 Hk6 Hx6 HB6 HZ6
    clear hb
    have z1 : w9.cell? ⟨w.heap.size, 1, none⟩ = some (.slice p n c) := Hc7.out.cell 1
    have f1 := Hc7.out.free 1
    go_upto_region 10 with fail
    clear z1 f1
    have hch := Lib.hid ((Chg.refl w.heap.size w9).set 1 (.slice p9 (n + 1) c9))
    have Hc8 : Hid (Blk _ w.heap.size #[.int .i64 (N : Int), .slice p9 (n + 1) c9] 27) := Lib.hid (Hc7.out.set 1 (.slice p9 (n + 1) c9))
    have HB8 := ksq HB7 hch (by show w.heap.size ≤ w.heap.size; have := HW8.out; have := HGX.out; have := HGM.out; omega)
    have HZ8 := kzq HZ7 hch.out.size
    have Hm8 := kcq Hm7 hch (by have := HW8.out; have := HGX.out; have := HGM.out; omega)
    have Hr8 := kcq Hr7 hch (by have := HW8.out; have := HGX.out; have := HGM.out; omega)
    have Hk8 := kcq Hk7 hch (by have := HW8.out; have := HGX.out; have := HGM.out; omega)
    have Hx8 := kcq Hx7 hch (by have := HW8.out; have := HGX.out; have := HGM.out; omega)
    have HO := Lib.hid (HO.out.stay (fun g hg => hch.out.2 g (HO.out.lt g hg) (by have h1 := HO.out.block_ge g hg; have := HW9.out; omega)))
    clear hch Hc7 Hm7 Hr7 Hk7 Hx7 HB7 HZ7
    generalize (w9.setCell ⟨w.heap.size, 1, none⟩ (.slice p9 (n + 1) c9)) = WBa at *
    have hbd := (Below.refl WBa.heap.size WBa).drew
    have Hc9 := kbq Hc8 hbd
    have Hm9 := kbq Hm8 hbd
    have Hr9 := kbq Hr8 hbd
    have Hk9 := kbq Hk8 hbd
    have Hx9 := kbq Hx8 hbd
    have HB9 := ktq HB8 hbd
    have HZ9 := kzq HZ8 hbd.size
    clear Hc8 Hm8 Hr8 Hk8 Hx8 HB8 HZ8
    have hS1 : WBa.drew.cell? ⟨w.heap.size, 0, none⟩ = some (.int .i64 (N : Int)) ∧ WBa.drew.cell? ⟨w.heap.size, 1, none⟩ = some (.slice p9 (n + 1) c9) ∧ WBa.drew.cell? ⟨w.heap.size + 1, 0, none⟩ = some (.int .i64 y.m.k) ∧ WBa.drew.cell? ⟨w.heap.size + 1, 1, none⟩ = some (.int .i64 y.m.s) ∧ WBa.drew.cell? ⟨w.heap.size + 1, 2, none⟩ = some (.int .i64 y.m.n) ∧ WBa.drew.cell? ⟨w.heap.size + 1, 3, none⟩ = some (.int .i64 y.m.b) ∧ WBa.drew.cell? ⟨w.heap.size + 1, 4, none⟩ = some (.int .i64 y.m.c) ∧ WBa.drew.cell? ⟨w.heap.size + 1, 5, none⟩ = some (.int .i64 y.m.r) ∧ WBa.drew.cell? ⟨w.heap.size + 1, 6, none⟩ = some (.int .i64 y.m.y) ∧ WBa.drew.cell? ⟨w.heap.size + 1, 7, none⟩ = some (.int .i64 y.m.a) ∧ WBa.drew.cell? ⟨w.heap.size + 1, 8, none⟩ = some (.bool y.m.t) ∧ WBa.drew.cell? ⟨w.heap.size + 1, 9, none⟩ = some (.slice y.pl y.m.ls.length y.cl) ∧ WBa.drew.cell? ⟨w.heap.size + 1, 10, none⟩ = some (.slice y.pn y.m.ns.length y.cn) := ⟨Hc9.out.cell 0, Hc9.out.cell 1, Hm9.out.cell 0, Hm9.out.cell 1, Hm9.out.cell 2, Hm9.out.cell 3, Hm9.out.cell 4, Hm9.out.cell 5, Hm9.out.cell 6, Hm9.out.cell 7, Hm9.out.cell 8, Hm9.out.cell 9, Hm9.out.cell 10⟩
    have HO := Lib.hid (HO.out.later hbd)
    refine wp_region_held_drew (S := fun w' => w'.cell? ⟨w.heap.size, 0, none⟩ = some (.int .i64 (N : Int)) ∧ w'.cell? ⟨w.heap.size, 1, none⟩ = some (.slice p9 (n + 1) c9) ∧ w'.cell? ⟨w.heap.size + 1, 0, none⟩ = some (.int .i64 y.m.k) ∧ w'.cell? ⟨w.heap.size + 1, 1, none⟩ = some (.int .i64 y.m.s) ∧ w'.cell? ⟨w.heap.size + 1, 2, none⟩ = some (.int .i64 y.m.n) ∧ w'.cell? ⟨w.heap.size + 1, 3, none⟩ = some (.int .i64 y.m.b) ∧ w'.cell? ⟨w.heap.size + 1, 4, none⟩ = some (.int .i64 y.m.c) ∧ w'.cell? ⟨w.heap.size + 1, 5, none⟩ = some (.int .i64 y.m.r) ∧ w'.cell? ⟨w.heap.size + 1, 6, none⟩ = some (.int .i64 y.m.y) ∧ w'.cell? ⟨w.heap.size + 1, 7, none⟩ = some (.int .i64 y.m.a) ∧ w'.cell? ⟨w.heap.size + 1, 8, none⟩ = some (.bool y.m.t) ∧ w'.cell? ⟨w.heap.size + 1, 9, none⟩ = some (.slice y.pl y.m.ls.length y.cl) ∧ w'.cell? ⟨w.heap.size + 1, 10, none⟩ = some (.slice y.pn y.m.ns.length y.cn)) (by kernel_rfl) hS1 (fun hS0 => ?_)
    clear hS1
    generalize WBa.drew = WE at *
    clear hbd
    refine tkq 0 ?_
    refine tkq 1 ?_
    refine tkq 2 ?_
    refine tkq 3 ?_
    refine tkq 4 ?_
    refine tkq 5 ?_
    refine tkq 6 ?_
    refine tkq 7 ?_
    refine rdq 8 (fun K hK => ?_)
    have HOA := Lib.hid HO.out.at_lt
    have HG := Lib.hid (toAll_any WE N p9 (n + 1) c9 (⟨askM ((n + 1 : Nat) : Int) y.m.c, none, 0, none, 0⟩ : MsgX) (fun _ => True) HNN.out.2 ⟨TRow.nil_ _ _, Row.nil_ _ _ 0, At.nil_ _ _, At.nil_ _ _, ⟨by show 0 * 32 ≤ _; decide, by show 0 * 8 ≤ _; decide⟩⟩)
    unfold askM Msg.v at HG
    dsimp only [List.length_nil] at HG
    go_simp
    go_at_call 56
    refine HG.out.mono ?_
    rintro y9 w10 ⟨p5, c5, rfl, hs, hb⟩
    clear HG
    have HO := Lib.hid (HO.out.later hb)
    have HSS := Lib.hid hs
    have HWE : Hid (w.heap.size + 1 + 1 < WE.heap.size ∧ gx < WE.heap.size ∧ gm < WE.heap.size) := Lib.hid ⟨Hr9.out.lt, Hx9.out.lt, Hk9.out.lt⟩
    have HOL : Hid (At (fun b => WSa.heap.size ≤ b ∧ b < WE.heap.size) (.slice p9 (n + 1) c9) (xs ++ [(⟨rn0 N y.m.c, some ⟨gm, 0, none⟩, N, none, 0, none, 0⟩ : RunX)]).length) := Lib.hid HOA.out
    clear hs HOA
    have Hc10 := kbq Hc9 hb
    have Hm10 := kbq Hm9 hb
    have Hr10 := kbq Hr9 hb
    have Hk10 := kbq Hk9 hb
    have Hx10 := kbq Hx9 hb
    have HB10 := ktq HB9 hb
    have HZ10 := kzq HZ9 hb.size
    clear Hc9 Hm9 Hr9 Hk9 Hx9 HB9 HZ9
    clear hb hS0
    try go_wp2_with fail
    refine hK.out _ _ ⟨Hc10.out.cell 0, Hc10.out.cell 1, Hm10.out.cell 0, Hm10.out.cell 1, Hm10.out.cell 2, Hm10.out.cell 3, Hm10.out.cell 4, Hm10.out.cell 5, Hm10.out.cell 6, Hm10.out.cell 7, Hm10.out.cell 8, Hm10.out.cell 9, Hm10.out.cell 10⟩ (fun hS0 => ?_)
    clear hK K
    try simp only [Act.put, List.getElem_toArray, List.getElem_cons_succ, List.getElem_cons_zero, List.setIfInBounds_toArray, List.set_cons_zero, List.set_cons_succ]
    refine rdq 9 (fun K hK => ?_)
    have z0 : w10.cell? ⟨(w.heap.size + 1 + 1), 0, none⟩ = some (.int .i64 0) := Hr10.out.cell 0
    have z1 : w10.cell? ⟨(w.heap.size + 1 + 1), 1, none⟩ = some (.slice none 0 0) := Hr10.out.cell 1
    have f0 := Hr10.out.free 0
    have f1 := Hr10.out.free 1
    go_simp
    clear z0 f0 z1 f1
    have hch := Lib.hid (((Chg.refl (w.heap.size + 1 + 1) w10).set 0 (.int .i64 (N : Int))).set 1 (.slice p9 (n + 1) c9))
    have Hr11 : Hid (Blk _ (w.heap.size + 1 + 1) #[.int .i64 (N : Int), .slice p9 (n + 1) c9] 27) := Lib.hid ((Hr10.out.set 0 (.int .i64 (N : Int))).set 1 (.slice p9 (n + 1) c9))
    have HB11 := ksq HB10 hch (by show w.heap.size ≤ (w.heap.size + 1 + 1); have := HW8.out; have := HGX.out; have := HGM.out; omega)
    have HZ11 := kzq HZ10 hch.out.size
    have Hc11 := kcq Hc10 hch (by have := HW8.out; have := HGX.out; have := HGM.out; omega)
    have Hm11 := kcq Hm10 hch (by have := HW8.out; have := HGX.out; have := HGM.out; omega)
    have Hk11 := kcq Hk10 hch (by have := HW8.out; have := HGX.out; have := HGM.out; omega)
    have Hx11 := kcq Hx10 hch (by have := HW8.out; have := HGX.out; have := HGM.out; omega)
    have HST := Lib.hid (HSS.out.chgS hch.out (by have := HWE.out; omega))
    have HO := Lib.hid (HO.out.stay (fun g hg => hch.out.2 g (HO.out.lt g hg) (by have h1 := HO.out.block_ge g hg; have := HW9.out; omega)))
    clear HSS
    clear hch hS0 Hc10 Hm10 Hr10 Hk10 Hx10 HB10 HZ10
    generalize ((w10.setCell ⟨w.heap.size + 1 + 1, 0, none⟩ (.int .i64 (N : Int))).setCell ⟨w.heap.size + 1 + 1, 1, none⟩ (.slice p9 (n + 1) c9)) = WZ at *
    refine hK.out _ _ ⟨Hc11.out.cell 0, Hc11.out.cell 1, Hm11.out.cell 0, Hm11.out.cell 1, Hm11.out.cell 2, Hm11.out.cell 3, Hm11.out.cell 4, Hm11.out.cell 5, Hm11.out.cell 6, Hm11.out.cell 7, Hm11.out.cell 8, Hm11.out.cell 9, Hm11.out.cell 10⟩ (fun hS0 => ?_)
    clear hK K
    try simp only [Act.put, List.getElem_toArray, List.getElem_cons_succ, List.getElem_cons_zero, List.setIfInBounds_toArray, List.set_cons_zero, List.set_cons_succ]
    refine tkq 10 ?_
    refine tkq 11 ?_
    refine wpAnyH_done (by kernel_rfl) ?_ _
    clear hS0
    have HFIN : Hid (RsR (fun b => P b ∨ (w.heap.size ≤ b ∧ b < WE.heap.size)) WZ (.slice p9 (n + 1) c9) (rs ++ [rn0 N y.m.c])) := Lib.hid (by
     refine ⟨xs ++ [(⟨rn0 N y.m.c, some ⟨gm, 0, none⟩, N, none, 0, none, 0⟩ : RunX)], HO.out.row, HOL.out.imp (fun b h => .inr ⟨by have := HW9.out; omega, h.2⟩), fun x hx => ?_, by rw [List.map_append, HXM.out]; rfl⟩
     rcases List.mem_append.1 hx with h | h
     ·exact ((HXI.out x h).kept HB11.out).imp (fun b h => .inl h)
     ·obtain rfl := List.mem_singleton.1 h
      refine ⟨?_, TRow.nil_ _ _, At.nil_ _ _, Row.nil_ _ _ 0, At.nil_ _ _⟩
      have h1 := HsR.made (P := fun b => P b ∨ (w.heap.size ≤ b ∧ b < WE.heap.size)) Hk11.out (.inr ⟨by have := HGM.out; omega, HWE.out.2.2⟩)
      show HsR _ _ (.slice (some ⟨gm, 0, none⟩) (List.replicate N hd0).length N) (List.replicate N hd0)
      rw [List.length_replicate]
      exact h1)
    go_wp2_with fail
    have hfr := Hr11.out
    refine bodyPost_ret (v := .tuple #[.agg #[.int .i64 (N : Int), .slice p9 (n + 1) c9], .slice p5 N c5, .int .i64 0]) (by simp [results, Try.results32, go_sem, hfr.cell 0, hfr.cell 1]) rfl (by rw [HE.out]; exact ⟨p9, n + 1, c9, p5, N, c5, WE.heap.size, rfl, by rw [List.length_append, ← HKK.out.1]; rfl, by rw [toAllL_len], by have := HWE.out; omega, HFIN.out, by rw [← HKK.out.1]; exact HST.out, HB11.out⟩)
   ·skip
    have HGX : Hid (w.heap.size + 1 + 1 < w3.heap.size) := Lib.hid Hr3.out.lt
    go_simp
    have hba := oneB w3 (.cells #[.int .i64 0, .int .i64 0, .slice none 0 0, .slice none 0 0, .slice none 0 0] 56)
    have Hc4 := kbq Hc3 hba
    have Hm4 := kbq Hm3 hba
    have Hr4 := kbq Hr3 hba
    have Hx4 := Lib.hid (Blk.new w3 #[.int .i64 0, .int .i64 0, .slice none 0 0, .slice none 0 0, .slice none 0 0] 56)
    have HB4 := Lib.hid (HB3.out.alloc HB3.out.size (.cells #[.int .i64 0, .int .i64 0, .slice none 0 0, .slice none 0 0, .slice none 0 0] 56))
    have HZ4 := kzq HZ3 hba.size
    clear hba hS0 Hc3 Hm3 Hr3 HB3 HZ3
    generalize (w3.alloc (.cells #[.int .i64 0, .int .i64 0, .slice none 0 0, .slice none 0 0, .slice none 0 0] 56)) = W6 at *
    generalize hggx : w3.heap.size = gx at *
    clear hggx
    refine hK.out _ _ ⟨Hc4.out.cell 0, Hc4.out.cell 1, Hm4.out.cell 0, Hm4.out.cell 1, Hm4.out.cell 2, Hm4.out.cell 3, Hm4.out.cell 4, Hm4.out.cell 5, Hm4.out.cell 6, Hm4.out.cell 7, Hm4.out.cell 8, Hm4.out.cell 9, Hm4.out.cell 10⟩ (fun hS0 => ?_)
    clear hK K
    try simp only [Act.put, List.getElem_toArray, List.getElem_cons_succ, List.getElem_cons_zero, List.setIfInBounds_toArray, List.set_cons_zero, List.set_cons_succ]
    refine rdq 4 (fun K hK => ?_)
    obtain ⟨i0, hu, hi, hz, hs, hby⟩ := eltH
    have hmk := run_make (P := Try.prog) W6 54 80 i0 _ hu hi hz .i64 .i64 (N : Int) (N : Int) (by omega) (Int.le_refl _) (by rw [hby]; have := HNN.out; omega) (by have := HNN.out; omega)
    rw [hs] at hmk
    simp only [Int.toNat_natCast, Value.cells, zeroVH] at hmk
    clear hu hi hz hs hby
    have HGM : Hid (w.heap.size + 1 + 1 < W6.heap.size ∧ gx < W6.heap.size) := Lib.hid ⟨Hr4.out.lt, Hx4.out.lt⟩
    go_simp
    clear hmk
    have hba := oneB W6 (.cells (madeCells #[.bool false, .bool false, .slice none 0 0] (N * encH.k)) 80)
    have Hc5 := kbq Hc4 hba
    have Hm5 := kbq Hm4 hba
    have Hr5 := kbq Hr4 hba
    have Hx5 := kbq Hx4 hba
    have Hk5 := Lib.hid (Blk.new W6 (madeCells #[.bool false, .bool false, .slice none 0 0] (N * encH.k)) 80)
    have HB5 := Lib.hid (HB4.out.alloc HB4.out.size (.cells (madeCells #[.bool false, .bool false, .slice none 0 0] (N * encH.k)) 80))
    have HZ5 := kzq HZ4 hba.size
    clear hba hS0 Hc4 Hm4 Hr4 Hx4 HB4 HZ4
    generalize (W6.alloc (.cells (madeCells #[.bool false, .bool false, .slice none 0 0] (N * encH.k)) 80)) = W4 at *
    generalize hggm : W6.heap.size = gm at *
    clear hggm
    refine hK.out _ _ ⟨Hc5.out.cell 0, Hc5.out.cell 1, Hm5.out.cell 0, Hm5.out.cell 1, Hm5.out.cell 2, Hm5.out.cell 3, Hm5.out.cell 4, Hm5.out.cell 5, Hm5.out.cell 6, Hm5.out.cell 7, Hm5.out.cell 8, Hm5.out.cell 9, Hm5.out.cell 10⟩ (fun hS0 => ?_)
    clear hK K
    try simp only [Act.put, List.getElem_toArray, List.getElem_cons_succ, List.getElem_cons_zero, List.setIfInBounds_toArray, List.set_cons_zero, List.set_cons_succ]
    refine tkq 5 ?_
    refine rdq 7 (fun K hK => ?_)
    have z0 : W4.cell? ⟨gx, 0, none⟩ = some (.int .i64 0) := Hx5.out.cell 0
    have z1 : W4.cell? ⟨gx, 1, none⟩ = some (.int .i64 0) := Hx5.out.cell 1
    have z2 : W4.cell? ⟨gx, 2, none⟩ = some (.slice none 0 0) := Hx5.out.cell 2
    have z3 : W4.cell? ⟨gx, 3, none⟩ = some (.slice none 0 0) := Hx5.out.cell 3
    have z4 : W4.cell? ⟨gx, 4, none⟩ = some (.slice none 0 0) := Hx5.out.cell 4
    have f0 := Hx5.out.free 0
    have f1 := Hx5.out.free 1
    have f2 := Hx5.out.free 2
    have f3 := Hx5.out.free 3
    have f4 := Hx5.out.free 4
    go_simp
    clear z0 f0 z1 f1 z2 f2 z3 f3 z4 f4
    have hch := Lib.hid ((((((Chg.refl gx W4).set 0 (.int .i64 y.m.c)).set 1 (.int .i64 1)).set 2 (.slice (some ⟨gm, 0, none⟩) N N)).set 3 (.slice none 0 0)).set 4 (.slice none 0 0))
    have Hx6 : Hid (Blk (((((W4.setCell ⟨gx, 0, none⟩ (.int .i64 y.m.c)).setCell ⟨gx, 1, none⟩ (.int .i64 1)).setCell ⟨gx, 2, none⟩ (.slice (some ⟨gm, 0, none⟩) N N)).setCell ⟨gx, 3, none⟩ (.slice none 0 0)).setCell ⟨gx, 4, none⟩ (.slice none 0 0)) gx #[.int .i64 y.m.c, .int .i64 1, .slice (some ⟨gm, 0, none⟩) N N, .slice none 0 0, .slice none 0 0] 56) := (by have h1 := blk_put_all Hx5.out #[.int .i64 y.m.c, .int .i64 1, .slice (some ⟨gm, 0, none⟩) N N, .slice none 0 0, .slice none 0 0] rfl; exact Lib.hid h1)
    have HB6 := ksq HB5 hch (by show w.heap.size ≤ gx; have := HW8.out; have := HGX.out; have := HGM.out; omega)
    have HZ6 := kzq HZ5 hch.out.size
    have Hc6 := kcq Hc5 hch (by have := HW8.out; have := HGX.out; have := HGM.out; omega)
    have Hm6 := kcq Hm5 hch (by have := HW8.out; have := HGX.out; have := HGM.out; omega)
    have Hr6 := kcq Hr5 hch (by have := HW8.out; have := HGX.out; have := HGM.out; omega)
    have Hk6 := kcq Hk5 hch (by have := HW8.out; have := HGX.out; have := HGM.out; omega)
    clear hch hS0 Hc5 Hm5 Hr5 Hx5 Hk5 HB5 HZ5
    generalize (((((W4.setCell ⟨gx, 0, none⟩ (.int .i64 y.m.c)).setCell ⟨gx, 1, none⟩ (.int .i64 1)).setCell ⟨gx, 2, none⟩ (.slice (some ⟨gm, 0, none⟩) N N)).setCell ⟨gx, 3, none⟩ (.slice none 0 0)).setCell ⟨gx, 4, none⟩ (.slice none 0 0)) = WSb at *
    refine hK.out _ _ ⟨Hc6.out.cell 0, Hc6.out.cell 1, Hm6.out.cell 0, Hm6.out.cell 1, Hm6.out.cell 2, Hm6.out.cell 3, Hm6.out.cell 4, Hm6.out.cell 5, Hm6.out.cell 6, Hm6.out.cell 7, Hm6.out.cell 8, Hm6.out.cell 9, Hm6.out.cell 10⟩ (fun hS0 => ?_)
    clear hK K
    try simp only [Act.put, List.getElem_toArray, List.getElem_cons_succ, List.getElem_cons_zero, List.setIfInBounds_toArray, List.set_cons_zero, List.set_cons_succ]
    refine wpAnyH_done (by kernel_rfl) ?_ _
    clear hS0
    have HRO := Lib.hid ((TRow.one_ encR (⟨rn0 N y.m.c, some ⟨gm, 0, none⟩, N, none, 0, none, 0⟩ : RunX) (Blk.new WSb #[.int .i64 y.m.c, .int .i64 1, .slice (some ⟨gm, 0, none⟩) N N, .slice none 0 0, .slice none 0 0] 56) (by show _ = [Value.int .i64 y.m.c, .int .i64 1, .slice (some ⟨gm, 0, none⟩) (List.replicate N hd0).length N, .slice none 0 0, .slice none 0 0]; rw [List.length_replicate]) (Nat.le_refl 1)))
    have HXO := Lib.hid ((HXR.out.kept HB6.out).kept (oneB WSb (.cells #[.int .i64 y.m.c, .int .i64 1, .slice (some ⟨gm, 0, none⟩) N N, .slice none 0 0, .slice none 0 0] 56)))
    have hba := oneB WSb (.cells #[.int .i64 y.m.c, .int .i64 1, .slice (some ⟨gm, 0, none⟩) N N, .slice none 0 0, .slice none 0 0] 56)
    have a1 : WSb.cell? ⟨w.heap.size, 1, none⟩ = some (.slice p n c) := Hc6.out.cell 1
    have x0 : WSb.cell? ⟨gx, 0, none⟩ = some (.int .i64 y.m.c) := Hx6.out.cell 0
    have x1 : WSb.cell? ⟨gx, 1, none⟩ = some (.int .i64 1) := Hx6.out.cell 1
    have x2 : WSb.cell? ⟨gx, 2, none⟩ = some (.slice (some ⟨gm, 0, none⟩) N N) := Hx6.out.cell 2
    have x3 : WSb.cell? ⟨gx, 3, none⟩ = some (.slice none 0 0) := Hx6.out.cell 3
    have x4 : WSb.cell? ⟨gx, 4, none⟩ = some (.slice none 0 0) := Hx6.out.cell 4
    have HG := Lib.hid (concatR_any (WSb.heap.size + 1) 0 2 2 [.slice p n c, .slice (some ⟨WSb.heap.size, 0, none⟩) 1 1] [xs, [(⟨rn0 N y.m.c, some ⟨gm, 0, none⟩, N, none, 0, none, 0⟩ : RunX)]] ((WSb.alloc (.cells #[.int .i64 y.m.c, .int .i64 1, .slice (some ⟨gm, 0, none⟩) N N, .slice none 0 0, .slice none 0 0] 56)).alloc (.cells #[.slice p n c, .slice (some ⟨WSb.heap.size, 0, none⟩) 1 1] 25)) (RowsT.two (Blk.new' (WSb.alloc (.cells #[.int .i64 y.m.c, .int .i64 1, .slice (some ⟨gm, 0, none⟩) N N, .slice none 0 0, .slice none 0 0] 56)) #[.slice p n c, .slice (some ⟨WSb.heap.size, 0, none⟩) 1 1] 25 (by simp)) rfl (HXO.out.kept (oneB (WSb.alloc (.cells #[.int .i64 y.m.c, .int .i64 1, .slice (some ⟨gm, 0, none⟩) N N, .slice none 0 0, .slice none 0 0] 56)) _)) (HRO.out.kept (oneB (WSb.alloc (.cells #[.int .i64 y.m.c, .int .i64 1, .slice (some ⟨gm, 0, none⟩) N N, .slice none 0 0, .slice none 0 0] 56)) _))) rfl (by decide) (by have := HXL.out; have := HKK.out; simp; omega))
    clear hba HRO HXO
    rw [show [xs, [(⟨rn0 N y.m.c, some ⟨gm, 0, none⟩, N, none, 0, none, 0⟩ : RunX)]].flatten = xs ++ [(⟨rn0 N y.m.c, some ⟨gm, 0, none⟩, N, none, 0, none, 0⟩ : RunX)] by simp] at HG
    go_wp2_with fail
    clear a1 x0 x1 x2 x3 x4
    refine HG.out.mono ?_
    rintro y9 w9 ⟨v9, rfl, ho, hb9⟩
    clear HG
    have hb := (oneB WSb (.cells #[.int .i64 y.m.c, .int .i64 1, .slice (some ⟨gm, 0, none⟩) N N, .slice none 0 0, .slice none 0 0] 56)).trans (((oneB (WSb.alloc (.cells #[.int .i64 y.m.c, .int .i64 1, .slice (some ⟨gm, 0, none⟩) N N, .slice none 0 0, .slice none 0 0] 56)) (.cells #[.slice p n c, .slice (some ⟨WSb.heap.size, 0, none⟩) 1 1] 25)).trans (hb9.mono (by simp))).mono (by simp))
    obtain ⟨p9, c9, hv9⟩ := ho.form
    rw [show (xs ++ [(⟨rn0 N y.m.c, some ⟨gm, 0, none⟩, N, none, 0, none, 0⟩ : RunX)]).length = n + 1 by rw [List.length_append, HXL.out]; rfl] at hv9
    subst hv9
    have HO := Lib.hid (ho.less (base' := WSb.heap.size) (by simp; omega))
    have HW9 : Hid (w.heap.size + 1 + 1 < WSb.heap.size) := Lib.hid Hr6.out.lt
    clear ho hb9
    have Hc7 := kbq Hc6 hb
    have Hm7 := kbq Hm6 hb
    have Hr7 := kbq Hr6 hb
    have Hx7 := kbq Hx6 hb
    have Hk7 := kbq Hk6 hb
    have HB7 := ktq HB6 hb
    have HZ7 := kzq HZ6 hb.size
    clear Hc6 Hm6 Hr6 Hx6 Hk6 HB6 HZ6
    clear hb
    have z1 : w9.cell? ⟨w.heap.size, 1, none⟩ = some (.slice p n c) := Hc7.out.cell 1
    have f1 := Hc7.out.free 1
    go_upto_region 10 with fail
    clear z1 f1
    have hch := Lib.hid ((Chg.refl w.heap.size w9).set 1 (.slice p9 (n + 1) c9))
    have Hc8 : Hid (Blk _ w.heap.size #[.int .i64 (N : Int), .slice p9 (n + 1) c9] 27) := Lib.hid (Hc7.out.set 1 (.slice p9 (n + 1) c9))
    have HB8 := ksq HB7 hch (by show w.heap.size ≤ w.heap.size; have := HW8.out; have := HGX.out; have := HGM.out; omega)
    have HZ8 := kzq HZ7 hch.out.size
    have Hm8 := kcq Hm7 hch (by have := HW8.out; have := HGX.out; have := HGM.out; omega)
    have Hr8 := kcq Hr7 hch (by have := HW8.out; have := HGX.out; have := HGM.out; omega)
    have Hx8 := kcq Hx7 hch (by have := HW8.out; have := HGX.out; have := HGM.out; omega)
    have Hk8 := kcq Hk7 hch (by have := HW8.out; have := HGX.out; have := HGM.out; omega)
    have HO := Lib.hid (HO.out.stay (fun g hg => hch.out.2 g (HO.out.lt g hg) (by have h1 := HO.out.block_ge g hg; have := HW9.out; omega)))
    clear hch Hc7 Hm7 Hr7 Hx7 Hk7 HB7 HZ7
    generalize (w9.setCell ⟨w.heap.size, 1, none⟩ (.slice p9 (n + 1) c9)) = WBb at *
    have hbd := (Below.refl WBb.heap.size WBb).drew
    have Hc9 := kbq Hc8 hbd
    have Hm9 := kbq Hm8 hbd
    have Hr9 := kbq Hr8 hbd
    have Hx9 := kbq Hx8 hbd
    have Hk9 := kbq Hk8 hbd
    have HB9 := ktq HB8 hbd
    have HZ9 := kzq HZ8 hbd.size
    clear Hc8 Hm8 Hr8 Hx8 Hk8 HB8 HZ8
    have hS1 : WBb.drew.cell? ⟨w.heap.size, 0, none⟩ = some (.int .i64 (N : Int)) ∧ WBb.drew.cell? ⟨w.heap.size, 1, none⟩ = some (.slice p9 (n + 1) c9) ∧ WBb.drew.cell? ⟨w.heap.size + 1, 0, none⟩ = some (.int .i64 y.m.k) ∧ WBb.drew.cell? ⟨w.heap.size + 1, 1, none⟩ = some (.int .i64 y.m.s) ∧ WBb.drew.cell? ⟨w.heap.size + 1, 2, none⟩ = some (.int .i64 y.m.n) ∧ WBb.drew.cell? ⟨w.heap.size + 1, 3, none⟩ = some (.int .i64 y.m.b) ∧ WBb.drew.cell? ⟨w.heap.size + 1, 4, none⟩ = some (.int .i64 y.m.c) ∧ WBb.drew.cell? ⟨w.heap.size + 1, 5, none⟩ = some (.int .i64 y.m.r) ∧ WBb.drew.cell? ⟨w.heap.size + 1, 6, none⟩ = some (.int .i64 y.m.y) ∧ WBb.drew.cell? ⟨w.heap.size + 1, 7, none⟩ = some (.int .i64 y.m.a) ∧ WBb.drew.cell? ⟨w.heap.size + 1, 8, none⟩ = some (.bool y.m.t) ∧ WBb.drew.cell? ⟨w.heap.size + 1, 9, none⟩ = some (.slice y.pl y.m.ls.length y.cl) ∧ WBb.drew.cell? ⟨w.heap.size + 1, 10, none⟩ = some (.slice y.pn y.m.ns.length y.cn) := ⟨Hc9.out.cell 0, Hc9.out.cell 1, Hm9.out.cell 0, Hm9.out.cell 1, Hm9.out.cell 2, Hm9.out.cell 3, Hm9.out.cell 4, Hm9.out.cell 5, Hm9.out.cell 6, Hm9.out.cell 7, Hm9.out.cell 8, Hm9.out.cell 9, Hm9.out.cell 10⟩
    have HO := Lib.hid (HO.out.later hbd)
    refine wp_region_held_drew (S := fun w' => w'.cell? ⟨w.heap.size, 0, none⟩ = some (.int .i64 (N : Int)) ∧ w'.cell? ⟨w.heap.size, 1, none⟩ = some (.slice p9 (n + 1) c9) ∧ w'.cell? ⟨w.heap.size + 1, 0, none⟩ = some (.int .i64 y.m.k) ∧ w'.cell? ⟨w.heap.size + 1, 1, none⟩ = some (.int .i64 y.m.s) ∧ w'.cell? ⟨w.heap.size + 1, 2, none⟩ = some (.int .i64 y.m.n) ∧ w'.cell? ⟨w.heap.size + 1, 3, none⟩ = some (.int .i64 y.m.b) ∧ w'.cell? ⟨w.heap.size + 1, 4, none⟩ = some (.int .i64 y.m.c) ∧ w'.cell? ⟨w.heap.size + 1, 5, none⟩ = some (.int .i64 y.m.r) ∧ w'.cell? ⟨w.heap.size + 1, 6, none⟩ = some (.int .i64 y.m.y) ∧ w'.cell? ⟨w.heap.size + 1, 7, none⟩ = some (.int .i64 y.m.a) ∧ w'.cell? ⟨w.heap.size + 1, 8, none⟩ = some (.bool y.m.t) ∧ w'.cell? ⟨w.heap.size + 1, 9, none⟩ = some (.slice y.pl y.m.ls.length y.cl) ∧ w'.cell? ⟨w.heap.size + 1, 10, none⟩ = some (.slice y.pn y.m.ns.length y.cn)) (by kernel_rfl) hS1 (fun hS0 => ?_)
    clear hS1
    generalize WBb.drew = WE at *
    clear hbd
    refine tkq 0 ?_
    refine tkq 1 ?_
    refine tkq 2 ?_
    refine tkq 3 ?_
    refine tkq 4 ?_
    refine tkq 5 ?_
    refine tkq 6 ?_
    refine tkq 7 ?_
    refine rdq 8 (fun K hK => ?_)
    have HOA := Lib.hid HO.out.at_lt
    have HG := Lib.hid (toAll_any WE N p9 (n + 1) c9 (⟨askM ((n + 1 : Nat) : Int) y.m.c, none, 0, none, 0⟩ : MsgX) (fun _ => True) HNN.out.2 ⟨TRow.nil_ _ _, Row.nil_ _ _ 0, At.nil_ _ _, At.nil_ _ _, ⟨by show 0 * 32 ≤ _; decide, by show 0 * 8 ≤ _; decide⟩⟩)
    unfold askM Msg.v at HG
    dsimp only [List.length_nil] at HG
    go_simp
    go_at_call 56
    refine HG.out.mono ?_
    rintro y9 w10 ⟨p5, c5, rfl, hs, hb⟩
    clear HG
    have HO := Lib.hid (HO.out.later hb)
    have HSS := Lib.hid hs
    have HWE : Hid (w.heap.size + 1 + 1 < WE.heap.size ∧ gx < WE.heap.size ∧ gm < WE.heap.size) := Lib.hid ⟨Hr9.out.lt, Hx9.out.lt, Hk9.out.lt⟩
    have HOL : Hid (At (fun b => WSb.heap.size ≤ b ∧ b < WE.heap.size) (.slice p9 (n + 1) c9) (xs ++ [(⟨rn0 N y.m.c, some ⟨gm, 0, none⟩, N, none, 0, none, 0⟩ : RunX)]).length) := Lib.hid HOA.out
    clear hs HOA
    have Hc10 := kbq Hc9 hb
    have Hm10 := kbq Hm9 hb
    have Hr10 := kbq Hr9 hb
    have Hx10 := kbq Hx9 hb
    have Hk10 := kbq Hk9 hb
    have HB10 := ktq HB9 hb
    have HZ10 := kzq HZ9 hb.size
    clear Hc9 Hm9 Hr9 Hx9 Hk9 HB9 HZ9
    clear hb hS0
    try go_wp2_with fail
    refine hK.out _ _ ⟨Hc10.out.cell 0, Hc10.out.cell 1, Hm10.out.cell 0, Hm10.out.cell 1, Hm10.out.cell 2, Hm10.out.cell 3, Hm10.out.cell 4, Hm10.out.cell 5, Hm10.out.cell 6, Hm10.out.cell 7, Hm10.out.cell 8, Hm10.out.cell 9, Hm10.out.cell 10⟩ (fun hS0 => ?_)
    clear hK K
    try simp only [Act.put, List.getElem_toArray, List.getElem_cons_succ, List.getElem_cons_zero, List.setIfInBounds_toArray, List.set_cons_zero, List.set_cons_succ]
    refine rdq 9 (fun K hK => ?_)
    have z0 : w10.cell? ⟨(w.heap.size + 1 + 1), 0, none⟩ = some (.int .i64 0) := Hr10.out.cell 0
    have z1 : w10.cell? ⟨(w.heap.size + 1 + 1), 1, none⟩ = some (.slice none 0 0) := Hr10.out.cell 1
    have f0 := Hr10.out.free 0
    have f1 := Hr10.out.free 1
    go_simp
    clear z0 f0 z1 f1
    have hch := Lib.hid (((Chg.refl (w.heap.size + 1 + 1) w10).set 0 (.int .i64 (N : Int))).set 1 (.slice p9 (n + 1) c9))
    have Hr11 : Hid (Blk _ (w.heap.size + 1 + 1) #[.int .i64 (N : Int), .slice p9 (n + 1) c9] 27) := Lib.hid ((Hr10.out.set 0 (.int .i64 (N : Int))).set 1 (.slice p9 (n + 1) c9))
    have HB11 := ksq HB10 hch (by show w.heap.size ≤ (w.heap.size + 1 + 1); have := HW8.out; have := HGX.out; have := HGM.out; omega)
    have HZ11 := kzq HZ10 hch.out.size
    have Hc11 := kcq Hc10 hch (by have := HW8.out; have := HGX.out; have := HGM.out; omega)
    have Hm11 := kcq Hm10 hch (by have := HW8.out; have := HGX.out; have := HGM.out; omega)
    have Hx11 := kcq Hx10 hch (by have := HW8.out; have := HGX.out; have := HGM.out; omega)
    have Hk11 := kcq Hk10 hch (by have := HW8.out; have := HGX.out; have := HGM.out; omega)
    have HST := Lib.hid (HSS.out.chgS hch.out (by have := HWE.out; omega))
    have HO := Lib.hid (HO.out.stay (fun g hg => hch.out.2 g (HO.out.lt g hg) (by have h1 := HO.out.block_ge g hg; have := HW9.out; omega)))
    clear HSS
    clear hch hS0 Hc10 Hm10 Hr10 Hx10 Hk10 HB10 HZ10
    generalize ((w10.setCell ⟨w.heap.size + 1 + 1, 0, none⟩ (.int .i64 (N : Int))).setCell ⟨w.heap.size + 1 + 1, 1, none⟩ (.slice p9 (n + 1) c9)) = WZ at *
    refine hK.out _ _ ⟨Hc11.out.cell 0, Hc11.out.cell 1, Hm11.out.cell 0, Hm11.out.cell 1, Hm11.out.cell 2, Hm11.out.cell 3, Hm11.out.cell 4, Hm11.out.cell 5, Hm11.out.cell 6, Hm11.out.cell 7, Hm11.out.cell 8, Hm11.out.cell 9, Hm11.out.cell 10⟩ (fun hS0 => ?_)
    clear hK K
    try simp only [Act.put, List.getElem_toArray, List.getElem_cons_succ, List.getElem_cons_zero, List.setIfInBounds_toArray, List.set_cons_zero, List.set_cons_succ]
    refine tkq 10 ?_
    refine tkq 11 ?_
    refine wpAnyH_done (by kernel_rfl) ?_ _
    clear hS0
    have HFIN : Hid (RsR (fun b => P b ∨ (w.heap.size ≤ b ∧ b < WE.heap.size)) WZ (.slice p9 (n + 1) c9) (rs ++ [rn0 N y.m.c])) := Lib.hid (by
     refine ⟨xs ++ [(⟨rn0 N y.m.c, some ⟨gm, 0, none⟩, N, none, 0, none, 0⟩ : RunX)], HO.out.row, HOL.out.imp (fun b h => .inr ⟨by have := HW9.out; omega, h.2⟩), fun x hx => ?_, by rw [List.map_append, HXM.out]; rfl⟩
     rcases List.mem_append.1 hx with h | h
     ·exact ((HXI.out x h).kept HB11.out).imp (fun b h => .inl h)
     ·obtain rfl := List.mem_singleton.1 h
      refine ⟨?_, TRow.nil_ _ _, At.nil_ _ _, Row.nil_ _ _ 0, At.nil_ _ _⟩
      have h1 := HsR.made (P := fun b => P b ∨ (w.heap.size ≤ b ∧ b < WE.heap.size)) Hk11.out (.inr ⟨by have := HGM.out; omega, HWE.out.2.2⟩)
      show HsR _ _ (.slice (some ⟨gm, 0, none⟩) (List.replicate N hd0).length N) (List.replicate N hd0)
      rw [List.length_replicate]
      exact h1)
    go_wp2_with fail
    have hfr := Hr11.out
    refine bodyPost_ret (v := .tuple #[.agg #[.int .i64 (N : Int), .slice p9 (n + 1) c9], .slice p5 N c5, .int .i64 0]) (by simp [results, Try.results32, go_sem, hfr.cell 0, hfr.cell 1]) rfl (by rw [HE.out]; exact ⟨p9, n + 1, c9, p5, N, c5, WE.heap.size, rfl, by rw [List.length_append, ← HKK.out.1]; rfl, by rw [toAllL_len], by have := HWE.out; omega, HFIN.out, by rw [← HKK.out.1]; exact HST.out, HB11.out⟩)
  ·skip
   have HGX : Hid (w.heap.size + 1 + 1 < WD.heap.size) := Lib.hid Hr2.out.lt
   go_simp
   have hba := oneB WD (.cells #[.int .i64 0, .int .i64 0, .slice none 0 0, .slice none 0 0, .slice none 0 0] 56)
   have Hc3 := kbq Hc2 hba
   have Hm3 := kbq Hm2 hba
   have Hr3 := kbq Hr2 hba
   have Hx3 := Lib.hid (Blk.new WD #[.int .i64 0, .int .i64 0, .slice none 0 0, .slice none 0 0, .slice none 0 0] 56)
   have HB3 := Lib.hid (HB2.out.alloc HB2.out.size (.cells #[.int .i64 0, .int .i64 0, .slice none 0 0, .slice none 0 0, .slice none 0 0] 56))
   have HZ3 := kzq HZ2 hba.size
   clear hba hS0 Hc2 Hm2 Hr2 HB2 HZ2
   generalize (WD.alloc (.cells #[.int .i64 0, .int .i64 0, .slice none 0 0, .slice none 0 0, .slice none 0 0] 56)) = W6 at *
   generalize hggx : WD.heap.size = gx at *
   clear hggx
   refine hK.out _ _ ⟨Hc3.out.cell 0, Hc3.out.cell 1, Hm3.out.cell 0, Hm3.out.cell 1, Hm3.out.cell 2, Hm3.out.cell 3, Hm3.out.cell 4, Hm3.out.cell 5, Hm3.out.cell 6, Hm3.out.cell 7, Hm3.out.cell 8, Hm3.out.cell 9, Hm3.out.cell 10⟩ (fun hS0 => ?_)
   clear hK K
   try simp only [Act.put, List.getElem_toArray, List.getElem_cons_succ, List.getElem_cons_zero, List.setIfInBounds_toArray, List.set_cons_zero, List.set_cons_succ]
   refine rdq 3 (fun K hK => ?_)
   have HG := Lib.hid (entities_any W6 (N : Int) p n c (by omega) (by have := HNN.out; omega))
   go_simp
   go_at_call 16
   refine HG.out.mono ?_
   rintro y9 w3 ⟨rfl, hb⟩
   clear HG
   have Hc4 := kbq Hc3 hb
   have Hm4 := kbq Hm3 hb
   have Hr4 := kbq Hr3 hb
   have Hx4 := kbq Hx3 hb
   have HB4 := ktq HB3 hb
   have HZ4 := kzq HZ3 hb.size
   clear Hc3 Hm3 Hr3 Hx3 HB3 HZ3
   clear hb hS0
   try go_wp2_with fail
   refine hK.out _ _ ⟨Hc4.out.cell 0, Hc4.out.cell 1, Hm4.out.cell 0, Hm4.out.cell 1, Hm4.out.cell 2, Hm4.out.cell 3, Hm4.out.cell 4, Hm4.out.cell 5, Hm4.out.cell 6, Hm4.out.cell 7, Hm4.out.cell 8, Hm4.out.cell 9, Hm4.out.cell 10⟩ (fun hS0 => ?_)
   clear hK K
   try simp only [Act.put, List.getElem_toArray, List.getElem_cons_succ, List.getElem_cons_zero, List.setIfInBounds_toArray, List.set_cons_zero, List.set_cons_succ]
   refine rdq 4 (fun K hK => ?_)
   obtain ⟨i0, hu, hi, hz, hs, hby⟩ := eltH
   have hmk := run_make (P := Try.prog) w3 54 80 i0 _ hu hi hz .i64 .i64 (N : Int) (N : Int) (by omega) (Int.le_refl _) (by rw [hby]; have := HNN.out; omega) (by have := HNN.out; omega)
   rw [hs] at hmk
   simp only [Int.toNat_natCast, Value.cells, zeroVH] at hmk
   clear hu hi hz hs hby
   have HGM : Hid (w.heap.size + 1 + 1 < w3.heap.size ∧ gx < w3.heap.size) := Lib.hid ⟨Hr4.out.lt, Hx4.out.lt⟩
   go_simp
   clear hmk
   have hba := oneB w3 (.cells (madeCells #[.bool false, .bool false, .slice none 0 0] (N * encH.k)) 80)
   have Hc5 := kbq Hc4 hba
   have Hm5 := kbq Hm4 hba
   have Hr5 := kbq Hr4 hba
   have Hx5 := kbq Hx4 hba
   have Hk5 := Lib.hid (Blk.new w3 (madeCells #[.bool false, .bool false, .slice none 0 0] (N * encH.k)) 80)
   have HB5 := Lib.hid (HB4.out.alloc HB4.out.size (.cells (madeCells #[.bool false, .bool false, .slice none 0 0] (N * encH.k)) 80))
   have HZ5 := kzq HZ4 hba.size
   clear hba hS0 Hc4 Hm4 Hr4 Hx4 HB4 HZ4
   generalize (w3.alloc (.cells (madeCells #[.bool false, .bool false, .slice none 0 0] (N * encH.k)) 80)) = W4 at *
   generalize hggm : w3.heap.size = gm at *
   clear hggm
   refine hK.out _ _ ⟨Hc5.out.cell 0, Hc5.out.cell 1, Hm5.out.cell 0, Hm5.out.cell 1, Hm5.out.cell 2, Hm5.out.cell 3, Hm5.out.cell 4, Hm5.out.cell 5, Hm5.out.cell 6, Hm5.out.cell 7, Hm5.out.cell 8, Hm5.out.cell 9, Hm5.out.cell 10⟩ (fun hS0 => ?_)
   clear hK K
   try simp only [Act.put, List.getElem_toArray, List.getElem_cons_succ, List.getElem_cons_zero, List.setIfInBounds_toArray, List.set_cons_zero, List.set_cons_succ]
   refine tkq 5 ?_
   refine rdq 7 (fun K hK => ?_)
   have z0 : W4.cell? ⟨gx, 0, none⟩ = some (.int .i64 0) := Hx5.out.cell 0
   have z1 : W4.cell? ⟨gx, 1, none⟩ = some (.int .i64 0) := Hx5.out.cell 1
   have z2 : W4.cell? ⟨gx, 2, none⟩ = some (.slice none 0 0) := Hx5.out.cell 2
   have z3 : W4.cell? ⟨gx, 3, none⟩ = some (.slice none 0 0) := Hx5.out.cell 3
   have z4 : W4.cell? ⟨gx, 4, none⟩ = some (.slice none 0 0) := Hx5.out.cell 4
   have f0 := Hx5.out.free 0
   have f1 := Hx5.out.free 1
   have f2 := Hx5.out.free 2
   have f3 := Hx5.out.free 3
   have f4 := Hx5.out.free 4
   go_simp
   clear z0 f0 z1 f1 z2 f2 z3 f3 z4 f4
   have hch := Lib.hid ((((((Chg.refl gx W4).set 0 (.int .i64 y.m.c)).set 1 (.int .i64 1)).set 2 (.slice (some ⟨gm, 0, none⟩) N N)).set 3 (.slice none 0 0)).set 4 (.slice none 0 0))
   have Hx6 : Hid (Blk (((((W4.setCell ⟨gx, 0, none⟩ (.int .i64 y.m.c)).setCell ⟨gx, 1, none⟩ (.int .i64 1)).setCell ⟨gx, 2, none⟩ (.slice (some ⟨gm, 0, none⟩) N N)).setCell ⟨gx, 3, none⟩ (.slice none 0 0)).setCell ⟨gx, 4, none⟩ (.slice none 0 0)) gx #[.int .i64 y.m.c, .int .i64 1, .slice (some ⟨gm, 0, none⟩) N N, .slice none 0 0, .slice none 0 0] 56) := (by have h1 := blk_put_all Hx5.out #[.int .i64 y.m.c, .int .i64 1, .slice (some ⟨gm, 0, none⟩) N N, .slice none 0 0, .slice none 0 0] rfl; exact Lib.hid h1)
   have HB6 := ksq HB5 hch (by show w.heap.size ≤ gx; have := HW8.out; have := HGX.out; have := HGM.out; omega)
   have HZ6 := kzq HZ5 hch.out.size
   have Hc6 := kcq Hc5 hch (by have := HW8.out; have := HGX.out; have := HGM.out; omega)
   have Hm6 := kcq Hm5 hch (by have := HW8.out; have := HGX.out; have := HGM.out; omega)
   have Hr6 := kcq Hr5 hch (by have := HW8.out; have := HGX.out; have := HGM.out; omega)
   have Hk6 := kcq Hk5 hch (by have := HW8.out; have := HGX.out; have := HGM.out; omega)
   clear hch hS0 Hc5 Hm5 Hr5 Hx5 Hk5 HB5 HZ5
   generalize (((((W4.setCell ⟨gx, 0, none⟩ (.int .i64 y.m.c)).setCell ⟨gx, 1, none⟩ (.int .i64 1)).setCell ⟨gx, 2, none⟩ (.slice (some ⟨gm, 0, none⟩) N N)).setCell ⟨gx, 3, none⟩ (.slice none 0 0)).setCell ⟨gx, 4, none⟩ (.slice none 0 0)) = WSc at *
   refine hK.out _ _ ⟨Hc6.out.cell 0, Hc6.out.cell 1, Hm6.out.cell 0, Hm6.out.cell 1, Hm6.out.cell 2, Hm6.out.cell 3, Hm6.out.cell 4, Hm6.out.cell 5, Hm6.out.cell 6, Hm6.out.cell 7, Hm6.out.cell 8, Hm6.out.cell 9, Hm6.out.cell 10⟩ (fun hS0 => ?_)
   clear hK K
   try simp only [Act.put, List.getElem_toArray, List.getElem_cons_succ, List.getElem_cons_zero, List.setIfInBounds_toArray, List.set_cons_zero, List.set_cons_succ]
   refine wpAnyH_done (by kernel_rfl) ?_ _
   clear hS0
   have HRO := Lib.hid ((TRow.one_ encR (⟨rn0 N y.m.c, some ⟨gm, 0, none⟩, N, none, 0, none, 0⟩ : RunX) (Blk.new WSc #[.int .i64 y.m.c, .int .i64 1, .slice (some ⟨gm, 0, none⟩) N N, .slice none 0 0, .slice none 0 0] 56) (by show _ = [Value.int .i64 y.m.c, .int .i64 1, .slice (some ⟨gm, 0, none⟩) (List.replicate N hd0).length N, .slice none 0 0, .slice none 0 0]; rw [List.length_replicate]) (Nat.le_refl 1)))
   have HXO := Lib.hid ((HXR.out.kept HB6.out).kept (oneB WSc (.cells #[.int .i64 y.m.c, .int .i64 1, .slice (some ⟨gm, 0, none⟩) N N, .slice none 0 0, .slice none 0 0] 56)))
   have hba := oneB WSc (.cells #[.int .i64 y.m.c, .int .i64 1, .slice (some ⟨gm, 0, none⟩) N N, .slice none 0 0, .slice none 0 0] 56)
   have a1 : WSc.cell? ⟨w.heap.size, 1, none⟩ = some (.slice p n c) := Hc6.out.cell 1
   have x0 : WSc.cell? ⟨gx, 0, none⟩ = some (.int .i64 y.m.c) := Hx6.out.cell 0
   have x1 : WSc.cell? ⟨gx, 1, none⟩ = some (.int .i64 1) := Hx6.out.cell 1
   have x2 : WSc.cell? ⟨gx, 2, none⟩ = some (.slice (some ⟨gm, 0, none⟩) N N) := Hx6.out.cell 2
   have x3 : WSc.cell? ⟨gx, 3, none⟩ = some (.slice none 0 0) := Hx6.out.cell 3
   have x4 : WSc.cell? ⟨gx, 4, none⟩ = some (.slice none 0 0) := Hx6.out.cell 4
   have HG := Lib.hid (concatR_any (WSc.heap.size + 1) 0 2 2 [.slice p n c, .slice (some ⟨WSc.heap.size, 0, none⟩) 1 1] [xs, [(⟨rn0 N y.m.c, some ⟨gm, 0, none⟩, N, none, 0, none, 0⟩ : RunX)]] ((WSc.alloc (.cells #[.int .i64 y.m.c, .int .i64 1, .slice (some ⟨gm, 0, none⟩) N N, .slice none 0 0, .slice none 0 0] 56)).alloc (.cells #[.slice p n c, .slice (some ⟨WSc.heap.size, 0, none⟩) 1 1] 25)) (RowsT.two (Blk.new' (WSc.alloc (.cells #[.int .i64 y.m.c, .int .i64 1, .slice (some ⟨gm, 0, none⟩) N N, .slice none 0 0, .slice none 0 0] 56)) #[.slice p n c, .slice (some ⟨WSc.heap.size, 0, none⟩) 1 1] 25 (by simp)) rfl (HXO.out.kept (oneB (WSc.alloc (.cells #[.int .i64 y.m.c, .int .i64 1, .slice (some ⟨gm, 0, none⟩) N N, .slice none 0 0, .slice none 0 0] 56)) _)) (HRO.out.kept (oneB (WSc.alloc (.cells #[.int .i64 y.m.c, .int .i64 1, .slice (some ⟨gm, 0, none⟩) N N, .slice none 0 0, .slice none 0 0] 56)) _))) rfl (by decide) (by have := HXL.out; have := HKK.out; simp; omega))
   clear hba HRO HXO
   rw [show [xs, [(⟨rn0 N y.m.c, some ⟨gm, 0, none⟩, N, none, 0, none, 0⟩ : RunX)]].flatten = xs ++ [(⟨rn0 N y.m.c, some ⟨gm, 0, none⟩, N, none, 0, none, 0⟩ : RunX)] by simp] at HG
   go_wp2_with fail
   clear a1 x0 x1 x2 x3 x4
   refine HG.out.mono ?_
   rintro y9 w9 ⟨v9, rfl, ho, hb9⟩
   clear HG
   have hb := (oneB WSc (.cells #[.int .i64 y.m.c, .int .i64 1, .slice (some ⟨gm, 0, none⟩) N N, .slice none 0 0, .slice none 0 0] 56)).trans (((oneB (WSc.alloc (.cells #[.int .i64 y.m.c, .int .i64 1, .slice (some ⟨gm, 0, none⟩) N N, .slice none 0 0, .slice none 0 0] 56)) (.cells #[.slice p n c, .slice (some ⟨WSc.heap.size, 0, none⟩) 1 1] 25)).trans (hb9.mono (by simp))).mono (by simp))
   obtain ⟨p9, c9, hv9⟩ := ho.form
   rw [show (xs ++ [(⟨rn0 N y.m.c, some ⟨gm, 0, none⟩, N, none, 0, none, 0⟩ : RunX)]).length = n + 1 by rw [List.length_append, HXL.out]; rfl] at hv9
   subst hv9
   have HO := Lib.hid (ho.less (base' := WSc.heap.size) (by simp; omega))
   have HW9 : Hid (w.heap.size + 1 + 1 < WSc.heap.size) := Lib.hid Hr6.out.lt
   clear ho hb9
   have Hc7 := kbq Hc6 hb
   have Hm7 := kbq Hm6 hb
   have Hr7 := kbq Hr6 hb
   have Hx7 := kbq Hx6 hb
   have Hk7 := kbq Hk6 hb
   have HB7 := ktq HB6 hb
   have HZ7 := kzq HZ6 hb.size
   clear Hc6 Hm6 Hr6 Hx6 Hk6 HB6 HZ6
   clear hb
   have z1 : w9.cell? ⟨w.heap.size, 1, none⟩ = some (.slice p n c) := Hc7.out.cell 1
   have f1 := Hc7.out.free 1
   go_upto_region 10 with fail
   clear z1 f1
   have hch := Lib.hid ((Chg.refl w.heap.size w9).set 1 (.slice p9 (n + 1) c9))
   have Hc8 : Hid (Blk _ w.heap.size #[.int .i64 (N : Int), .slice p9 (n + 1) c9] 27) := Lib.hid (Hc7.out.set 1 (.slice p9 (n + 1) c9))
   have HB8 := ksq HB7 hch (by show w.heap.size ≤ w.heap.size; have := HW8.out; have := HGX.out; have := HGM.out; omega)
   have HZ8 := kzq HZ7 hch.out.size
   have Hm8 := kcq Hm7 hch (by have := HW8.out; have := HGX.out; have := HGM.out; omega)
   have Hr8 := kcq Hr7 hch (by have := HW8.out; have := HGX.out; have := HGM.out; omega)
   have Hx8 := kcq Hx7 hch (by have := HW8.out; have := HGX.out; have := HGM.out; omega)
   have Hk8 := kcq Hk7 hch (by have := HW8.out; have := HGX.out; have := HGM.out; omega)
   have HO := Lib.hid (HO.out.stay (fun g hg => hch.out.2 g (HO.out.lt g hg) (by have h1 := HO.out.block_ge g hg; have := HW9.out; omega)))
   clear hch Hc7 Hm7 Hr7 Hx7 Hk7 HB7 HZ7
   generalize (w9.setCell ⟨w.heap.size, 1, none⟩ (.slice p9 (n + 1) c9)) = WBc at *
   have hbd := (Below.refl WBc.heap.size WBc).drew
   have Hc9 := kbq Hc8 hbd
   have Hm9 := kbq Hm8 hbd
   have Hr9 := kbq Hr8 hbd
   have Hx9 := kbq Hx8 hbd
   have Hk9 := kbq Hk8 hbd
   have HB9 := ktq HB8 hbd
   have HZ9 := kzq HZ8 hbd.size
   clear Hc8 Hm8 Hr8 Hx8 Hk8 HB8 HZ8
   have hS1 : WBc.drew.cell? ⟨w.heap.size, 0, none⟩ = some (.int .i64 (N : Int)) ∧ WBc.drew.cell? ⟨w.heap.size, 1, none⟩ = some (.slice p9 (n + 1) c9) ∧ WBc.drew.cell? ⟨w.heap.size + 1, 0, none⟩ = some (.int .i64 y.m.k) ∧ WBc.drew.cell? ⟨w.heap.size + 1, 1, none⟩ = some (.int .i64 y.m.s) ∧ WBc.drew.cell? ⟨w.heap.size + 1, 2, none⟩ = some (.int .i64 y.m.n) ∧ WBc.drew.cell? ⟨w.heap.size + 1, 3, none⟩ = some (.int .i64 y.m.b) ∧ WBc.drew.cell? ⟨w.heap.size + 1, 4, none⟩ = some (.int .i64 y.m.c) ∧ WBc.drew.cell? ⟨w.heap.size + 1, 5, none⟩ = some (.int .i64 y.m.r) ∧ WBc.drew.cell? ⟨w.heap.size + 1, 6, none⟩ = some (.int .i64 y.m.y) ∧ WBc.drew.cell? ⟨w.heap.size + 1, 7, none⟩ = some (.int .i64 y.m.a) ∧ WBc.drew.cell? ⟨w.heap.size + 1, 8, none⟩ = some (.bool y.m.t) ∧ WBc.drew.cell? ⟨w.heap.size + 1, 9, none⟩ = some (.slice y.pl y.m.ls.length y.cl) ∧ WBc.drew.cell? ⟨w.heap.size + 1, 10, none⟩ = some (.slice y.pn y.m.ns.length y.cn) := ⟨Hc9.out.cell 0, Hc9.out.cell 1, Hm9.out.cell 0, Hm9.out.cell 1, Hm9.out.cell 2, Hm9.out.cell 3, Hm9.out.cell 4, Hm9.out.cell 5, Hm9.out.cell 6, Hm9.out.cell 7, Hm9.out.cell 8, Hm9.out.cell 9, Hm9.out.cell 10⟩
   have HO := Lib.hid (HO.out.later hbd)
   refine wp_region_held_drew (S := fun w' => w'.cell? ⟨w.heap.size, 0, none⟩ = some (.int .i64 (N : Int)) ∧ w'.cell? ⟨w.heap.size, 1, none⟩ = some (.slice p9 (n + 1) c9) ∧ w'.cell? ⟨w.heap.size + 1, 0, none⟩ = some (.int .i64 y.m.k) ∧ w'.cell? ⟨w.heap.size + 1, 1, none⟩ = some (.int .i64 y.m.s) ∧ w'.cell? ⟨w.heap.size + 1, 2, none⟩ = some (.int .i64 y.m.n) ∧ w'.cell? ⟨w.heap.size + 1, 3, none⟩ = some (.int .i64 y.m.b) ∧ w'.cell? ⟨w.heap.size + 1, 4, none⟩ = some (.int .i64 y.m.c) ∧ w'.cell? ⟨w.heap.size + 1, 5, none⟩ = some (.int .i64 y.m.r) ∧ w'.cell? ⟨w.heap.size + 1, 6, none⟩ = some (.int .i64 y.m.y) ∧ w'.cell? ⟨w.heap.size + 1, 7, none⟩ = some (.int .i64 y.m.a) ∧ w'.cell? ⟨w.heap.size + 1, 8, none⟩ = some (.bool y.m.t) ∧ w'.cell? ⟨w.heap.size + 1, 9, none⟩ = some (.slice y.pl y.m.ls.length y.cl) ∧ w'.cell? ⟨w.heap.size + 1, 10, none⟩ = some (.slice y.pn y.m.ns.length y.cn)) (by kernel_rfl) hS1 (fun hS0 => ?_)
   clear hS1
   generalize WBc.drew = WE at *
   clear hbd
   refine tkq 0 ?_
   refine tkq 1 ?_
   refine tkq 2 ?_
   refine tkq 3 ?_
   refine tkq 4 ?_
   refine tkq 5 ?_
   refine tkq 6 ?_
   refine tkq 7 ?_
   refine rdq 8 (fun K hK => ?_)
   have HOA := Lib.hid HO.out.at_lt
   have HG := Lib.hid (toAll_any WE N p9 (n + 1) c9 (⟨askM ((n + 1 : Nat) : Int) y.m.c, none, 0, none, 0⟩ : MsgX) (fun _ => True) HNN.out.2 ⟨TRow.nil_ _ _, Row.nil_ _ _ 0, At.nil_ _ _, At.nil_ _ _, ⟨by show 0 * 32 ≤ _; decide, by show 0 * 8 ≤ _; decide⟩⟩)
   unfold askM Msg.v at HG
   dsimp only [List.length_nil] at HG
   go_simp
   go_at_call 56
   refine HG.out.mono ?_
   rintro y9 w10 ⟨p5, c5, rfl, hs, hb⟩
   clear HG
   have HO := Lib.hid (HO.out.later hb)
   have HSS := Lib.hid hs
   have HWE : Hid (w.heap.size + 1 + 1 < WE.heap.size ∧ gx < WE.heap.size ∧ gm < WE.heap.size) := Lib.hid ⟨Hr9.out.lt, Hx9.out.lt, Hk9.out.lt⟩
   have HOL : Hid (At (fun b => WSc.heap.size ≤ b ∧ b < WE.heap.size) (.slice p9 (n + 1) c9) (xs ++ [(⟨rn0 N y.m.c, some ⟨gm, 0, none⟩, N, none, 0, none, 0⟩ : RunX)]).length) := Lib.hid HOA.out
   clear hs HOA
   have Hc10 := kbq Hc9 hb
   have Hm10 := kbq Hm9 hb
   have Hr10 := kbq Hr9 hb
   have Hx10 := kbq Hx9 hb
   have Hk10 := kbq Hk9 hb
   have HB10 := ktq HB9 hb
   have HZ10 := kzq HZ9 hb.size
   clear Hc9 Hm9 Hr9 Hx9 Hk9 HB9 HZ9
   clear hb hS0
   try go_wp2_with fail
   refine hK.out _ _ ⟨Hc10.out.cell 0, Hc10.out.cell 1, Hm10.out.cell 0, Hm10.out.cell 1, Hm10.out.cell 2, Hm10.out.cell 3, Hm10.out.cell 4, Hm10.out.cell 5, Hm10.out.cell 6, Hm10.out.cell 7, Hm10.out.cell 8, Hm10.out.cell 9, Hm10.out.cell 10⟩ (fun hS0 => ?_)
   clear hK K
   try simp only [Act.put, List.getElem_toArray, List.getElem_cons_succ, List.getElem_cons_zero, List.setIfInBounds_toArray, List.set_cons_zero, List.set_cons_succ]
   refine rdq 9 (fun K hK => ?_)
   have z0 : w10.cell? ⟨(w.heap.size + 1 + 1), 0, none⟩ = some (.int .i64 0) := Hr10.out.cell 0
   have z1 : w10.cell? ⟨(w.heap.size + 1 + 1), 1, none⟩ = some (.slice none 0 0) := Hr10.out.cell 1
   have f0 := Hr10.out.free 0
   have f1 := Hr10.out.free 1
   go_simp
   clear z0 f0 z1 f1
   have hch := Lib.hid (((Chg.refl (w.heap.size + 1 + 1) w10).set 0 (.int .i64 (N : Int))).set 1 (.slice p9 (n + 1) c9))
   have Hr11 : Hid (Blk _ (w.heap.size + 1 + 1) #[.int .i64 (N : Int), .slice p9 (n + 1) c9] 27) := Lib.hid ((Hr10.out.set 0 (.int .i64 (N : Int))).set 1 (.slice p9 (n + 1) c9))
   have HB11 := ksq HB10 hch (by show w.heap.size ≤ (w.heap.size + 1 + 1); have := HW8.out; have := HGX.out; have := HGM.out; omega)
   have HZ11 := kzq HZ10 hch.out.size
   have Hc11 := kcq Hc10 hch (by have := HW8.out; have := HGX.out; have := HGM.out; omega)
   have Hm11 := kcq Hm10 hch (by have := HW8.out; have := HGX.out; have := HGM.out; omega)
   have Hx11 := kcq Hx10 hch (by have := HW8.out; have := HGX.out; have := HGM.out; omega)
   have Hk11 := kcq Hk10 hch (by have := HW8.out; have := HGX.out; have := HGM.out; omega)
   have HST := Lib.hid (HSS.out.chgS hch.out (by have := HWE.out; omega))
   have HO := Lib.hid (HO.out.stay (fun g hg => hch.out.2 g (HO.out.lt g hg) (by have h1 := HO.out.block_ge g hg; have := HW9.out; omega)))
   clear HSS
   clear hch hS0 Hc10 Hm10 Hr10 Hx10 Hk10 HB10 HZ10
   generalize ((w10.setCell ⟨w.heap.size + 1 + 1, 0, none⟩ (.int .i64 (N : Int))).setCell ⟨w.heap.size + 1 + 1, 1, none⟩ (.slice p9 (n + 1) c9)) = WZ at *
   refine hK.out _ _ ⟨Hc11.out.cell 0, Hc11.out.cell 1, Hm11.out.cell 0, Hm11.out.cell 1, Hm11.out.cell 2, Hm11.out.cell 3, Hm11.out.cell 4, Hm11.out.cell 5, Hm11.out.cell 6, Hm11.out.cell 7, Hm11.out.cell 8, Hm11.out.cell 9, Hm11.out.cell 10⟩ (fun hS0 => ?_)
   clear hK K
   try simp only [Act.put, List.getElem_toArray, List.getElem_cons_succ, List.getElem_cons_zero, List.setIfInBounds_toArray, List.set_cons_zero, List.set_cons_succ]
   refine tkq 10 ?_
   refine tkq 11 ?_
   refine wpAnyH_done (by kernel_rfl) ?_ _
   clear hS0
   have HFIN : Hid (RsR (fun b => P b ∨ (w.heap.size ≤ b ∧ b < WE.heap.size)) WZ (.slice p9 (n + 1) c9) (rs ++ [rn0 N y.m.c])) := Lib.hid (by
    refine ⟨xs ++ [(⟨rn0 N y.m.c, some ⟨gm, 0, none⟩, N, none, 0, none, 0⟩ : RunX)], HO.out.row, HOL.out.imp (fun b h => .inr ⟨by have := HW9.out; omega, h.2⟩), fun x hx => ?_, by rw [List.map_append, HXM.out]; rfl⟩
    rcases List.mem_append.1 hx with h | h
    ·exact ((HXI.out x h).kept HB11.out).imp (fun b h => .inl h)
    ·obtain rfl := List.mem_singleton.1 h
     refine ⟨?_, TRow.nil_ _ _, At.nil_ _ _, Row.nil_ _ _ 0, At.nil_ _ _⟩
     have h1 := HsR.made (P := fun b => P b ∨ (w.heap.size ≤ b ∧ b < WE.heap.size)) Hk11.out (.inr ⟨by have := HGM.out; omega, HWE.out.2.2⟩)
     show HsR _ _ (.slice (some ⟨gm, 0, none⟩) (List.replicate N hd0).length N) (List.replicate N hd0)
     rw [List.length_replicate]
     exact h1)
   go_wp2_with fail
   have hfr := Hr11.out
   refine bodyPost_ret (v := .tuple #[.agg #[.int .i64 (N : Int), .slice p9 (n + 1) c9], .slice p5 N c5, .int .i64 0]) (by simp [results, Try.results32, go_sem, hfr.cell 0, hfr.cell 1]) rfl (by rw [HE.out]; exact ⟨p9, n + 1, c9, p5, N, c5, WE.heap.size, rfl, by rw [List.length_append, ← HKK.out.1]; rfl, by rw [toAllL_len], by have := HWE.out; omega, HFIN.out, by rw [← HKK.out.1]; exact HST.out, HB11.out⟩)
 ·skip
  have HE : Hid (startC N rs y.m = (rs, [], 90)) := by show _ = _; unfold startC; rw [if_neg HNR.out, if_pos HBA.out]
  go_upto_region 5 with fail
  have a0 : w1.cell? ⟨w.heap.size, 0, none⟩ = some (.int .i64 (N : Int)) := Hc1.out.cell 0
  have a1 : w1.cell? ⟨w.heap.size, 1, none⟩ = some (.slice p n c) := Hc1.out.cell 1
  go_wp2_with (with_reducible refine stop_storeT 27 (.tmp 6) (.tmp 27) rfl ?_)
  clear a0 a1
  have HTH : Hid (w1.there (w.heap.size + 1 + 1) 0 2) := Hr1.out.thereAt
  have hch : Hid (Chg (w.heap.size + 1 + 1) w1 (w1.setCells (w.heap.size + 1 + 1) 0 (#[.int .i64 (N : Int), .slice p n c] : Array Value).toList)) := Lib.hid (chg_putL _ _ _ _ _ (Chg.refl _ w1))
  have Hr2 : Hid (Blk (w1.setCells (w.heap.size + 1 + 1) 0 (#[.int .i64 (N : Int), .slice p n c] : Array Value).toList) (w.heap.size + 1 + 1) #[.int .i64 (N : Int), .slice p n c] 27) := Lib.hid (blk_put_all Hr1.out _ rfl)
  have HB2 : Hid (Below w.heap.size w (w1.setCells (w.heap.size + 1 + 1) 0 (#[.int .i64 (N : Int), .slice p n c] : Array Value).toList)) := Lib.hid (below_put (by omega) _ _ _ _ HB1.out)
  have HZ2 := kzq HZ1 hch.out.size
  have Hc2 := kcq Hc1 hch (by omega)
  have Hm2 := kcq Hm1 hch (by omega)
  clear hch Hc1 Hm1 Hr1 HB1 HZ1
  refine wpList_store_mid rfl 27 (.tmp 6) (.tmp 27) rfl (w.heap.size + 1 + 1) 0 #[.int .i64 (N : Int), .slice p n c] rfl rfl HTH.out (infoC2 rfl) (all_oneCell_toArray (by intro u hu; simp at hu; rcases hu with rfl | rfl <;> rfl)) ?_
  generalize (w1.setCells (w.heap.size + 1 + 1) 0 (#[.int .i64 (N : Int), .slice p n c] : Array Value).toList) = W9c at *
  clear HTH
  go_wp2_with fail
  have hfr := Hr2.out
  refine bodyPost_ret (v := .tuple #[.agg #[.int .i64 (N : Int), .slice p n c], .slice none 0 0, .int .i64 90]) (by simp [results, Try.results32, go_sem, hfr.cell 0, hfr.cell 1]) rfl (by rw [HE.out]; exact ⟨p, n, c, none, 0, 0, W9c.heap.size, rfl, HKK.out.1, rfl, HZ2.out, (HRS.out.kept HB2.out).imp (fun b h => .inl h), SaidL.nil_ _ _, HB2.out⟩)
end Go.Proofs.Yteogdfpkcoodlaa
namespace Go.Proofs.Yteogdfpkcoodlaa
open Go.RowKit
set_option linter.unusedSimpArgs false
theorem ceqin_f (w : World) (d : Nat) (F : FuncId) (fs cs : Array Value) : (Op.equalIn (d + 1) 68 (.func (.func F) fs cs) .nilFunc).run Try.prog w = .ok false w := by
 simp [Op.equalIn, run_underlying Try.underlying68]
theorem ceqin_n (w : World) (d : Nat) : (Op.equalIn (d + 1) 68 .nilFunc .nilFunc).run Try.prog w = .ok true w := by
 simp [Op.equalIn, run_underlying Try.underlying68]
theorem ceqf (w : World) (F : FuncId) (fs cs : Array Value) : (binOp .eql 68 (.func (.func F) fs cs) .nilFunc).run Try.prog w = .ok (.bool false) w := by
 simp only [binOp]
 simp [Op.equal, Op.maxDepth, ceqin_f w 9999 F fs cs]
theorem ceqn (w : World) : (binOp .eql 68 .nilFunc .nilFunc).run Try.prog w = .ok (.bool true) w := by
 simp only [binOp]
 simp [Op.equal, Op.maxDepth, ceqin_n w 9999]
/-- Is there a cycle of that number? -/
def hasB (rs : List Rn) (k : Int) : Bool := decide (1 ≤ k ∧ k ≤ (rs.length : Int))
/-- What the coordinator does at a message. -/
def doC (N : Nat) (rs : List Rn) (m : Msg) (fro : Int) : CAns :=
 if fro = -1 then
  if m.k = 5 then startC N rs m else if m.k = 16 then (if hasB rs m.y = true then dueC N rs m else (rs, [], 4)) else (rs, [], 110)
 else if m.k = 11 ∨ m.k = 13 ∨ m.k = 15 then
  if fro < 0 ∨ (N : Int) ≤ fro then (rs, [], 140) else if hasB rs m.y = false then (rs, [], 4) else
  if m.k = 11 then offerC N rs m fro.toNat else if m.k = 13 then voteC N rs m fro.toNat else queryC rs m fro
 else (rs, [], 110)
/-- Each cycle knows of each entity, and offers fit. -/
def COk (N : Nat) (rs : List Rn) : Prop := ∀ r ∈ rs, r.hs.length = N ∧ ∀ h ∈ r.hs, fitE (N : Int) h.ls = 0 ∧ h.ls.length ≤ 60
set_option linter.unusedSimpArgs false in
set_option maxHeartbeats 4000000 in
set_option maxRecDepth 100000 in
theorem byE_11 (w : World) : Calls Try.prog 14 #[.int .i64 11] w fun e w' => e = .returned (.func (.func 29) #[] #[]) ∧ Below w.heap.size w w' := by
 go_enter Try.func14, Try.ntmps14
 go_wp2_with fail
 go_ret
 exact ⟨rfl, Below.refl _ _⟩
set_option linter.unusedSimpArgs false in
set_option maxHeartbeats 4000000 in
set_option maxRecDepth 100000 in
theorem byE_13 (w : World) : Calls Try.prog 14 #[.int .i64 13] w fun e w' => e = .returned (.func (.func 30) #[] #[]) ∧ Below w.heap.size w w' := by
 go_enter Try.func14, Try.ntmps14
 go_wp2_with fail
 go_ret
 exact ⟨rfl, Below.refl _ _⟩
set_option linter.unusedSimpArgs false in
set_option maxHeartbeats 4000000 in
set_option maxRecDepth 100000 in
theorem byE_15 (w : World) : Calls Try.prog 14 #[.int .i64 15] w fun e w' => e = .returned (.func (.func 31) #[] #[]) ∧ Below w.heap.size w w' := by
 go_enter Try.func14, Try.ntmps14
 go_wp2_with fail
 go_ret
 exact ⟨rfl, Below.refl _ _⟩
set_option linter.unusedSimpArgs false in
set_option maxHeartbeats 4000000 in
set_option maxRecDepth 100000 in
theorem byE_none (w : World) (k : Int) (h0 : k ≠ 11) (h1 : k ≠ 13) (h2 : k ≠ 15) : Calls Try.prog 14 #[.int .i64 k] w fun e w' => e = .returned .nilFunc ∧ Below w.heap.size w w' := by
 have e0 : (k == 11) = false := by simpa using h0
 have e1 : (k == 13) = false := by simpa using h1
 have e2 : (k == 15) = false := by simpa using h2
 clear h0 h1 h2
 go_enter Try.func14, Try.ntmps14
 go_wp2_with fail
 go_ret
 exact ⟨rfl, Below.refl _ _⟩
set_option linter.unusedSimpArgs false in
set_option maxHeartbeats 4000000 in
set_option maxRecDepth 100000 in
theorem byC_5 (w : World) : Calls Try.prog 15 #[.int .i64 5] w fun e w' => e = .returned (.func (.func 32) #[] #[]) ∧ Below w.heap.size w w' := by
 go_enter Try.func15, Try.ntmps15
 go_wp2_with fail
 go_ret
 exact ⟨rfl, Below.refl _ _⟩
set_option linter.unusedSimpArgs false in
set_option maxHeartbeats 4000000 in
set_option maxRecDepth 100000 in
theorem byC_16 (w : World) : Calls Try.prog 15 #[.int .i64 16] w fun e w' => e = .returned (.func (.func 33) #[] #[]) ∧ Below w.heap.size w w' := by
 go_enter Try.func15, Try.ntmps15
 go_wp2_with fail
 go_ret
 exact ⟨rfl, Below.refl _ _⟩
set_option linter.unusedSimpArgs false in
set_option maxHeartbeats 4000000 in
set_option maxRecDepth 100000 in
theorem byC_none (w : World) (k : Int) (h0 : k ≠ 5) (h1 : k ≠ 16) : Calls Try.prog 15 #[.int .i64 k] w fun e w' => e = .returned .nilFunc ∧ Below w.heap.size w w' := by
 have e0 : (k == 5) = false := by simpa using h0
 have e1 : (k == 16) = false := by simpa using h1
 clear h0 h1
 go_enter Try.func15, Try.ntmps15
 go_wp2_with fail
 go_ret
 exact ⟨rfl, Below.refl _ _⟩
theorem of_hasB {rs : List Rn} {k : Int} {n : Nat} (h : hasB rs k = true) (hn : n = rs.length) : 1 ≤ k ∧ k ≤ n := by
 unfold hasB at h
 have := of_decide_eq_true h
 exact ⟨this.1, by rw [hn]; exact this.2⟩
set_option linter.unusedSimpArgs false in
set_option maxHeartbeats 4000000 in
set_option maxRecDepth 100000 in
theorem cdo_any (w : World) (P : Nat → Prop) (N : Nat) (p : Option Addr) (n c : Nat) (rs : List Rn) (y : MsgX) (fro : Int) (hrs : RsR P w (.slice p n c) rs) (hpw : ∀ b, P b → b < w.heap.size) (hn : n = rs.length) (hl : n ≤ 1000) (hN1 : 1 ≤ N) (hN8 : N ≤ 8) (hok : COk N rs) (Pm : Nat → Prop) (hy : y.InP Pm w) (hyl : y.m.ls.length ≤ 60) :
  Calls Try.prog 7 #[.agg #[.int .i64 (N : Int), .slice p n c], y.m.v (.slice y.pl y.m.ls.length y.cl) (.slice y.pn y.m.ns.length y.cn), .int .i64 fro] w (CP w P N (doC N rs y.m fro)) := by
 unfold CP
 have qE := ceqf
 have qN := ceqn
 have HRS := Lib.hid hrs
 have HPW := Lib.hid hpw
 have HNN : Hid (1 ≤ N ∧ N ≤ 8) := Lib.hid ⟨hN1, hN8⟩
 have HKK : Hid (n = rs.length ∧ n ≤ 1000) := Lib.hid ⟨hn, hl⟩
 have HOK := Lib.hid hok
 have HY := Lib.hid hy
 have HYL := Lib.hid hyl
 clear hrs hpw hN1 hN8 hn hl hok hy hyl
 unfold Msg.v
 have HB0 : Hid (Below w.heap.size w (((w.alloc (.cells #[.int .i64 (N : Int), .slice p n c] 27)).alloc (.cells #[.int .i64 y.m.k, .int .i64 y.m.s, .int .i64 y.m.n, .int .i64 y.m.b, .int .i64 y.m.c, .int .i64 y.m.r, .int .i64 y.m.y, .int .i64 y.m.a, .bool y.m.t, .slice y.pl y.m.ls.length y.cl, .slice y.pn y.m.ns.length y.cn] 36)).alloc (.cells #[.int .i64 0, .slice none 0 0] 27))) := Lib.hid ((((oneB w _).alloc (by simp <;> omega) _).alloc (by simp <;> omega) _))
 have Hc0 : Hid (Blk (((w.alloc (.cells #[.int .i64 (N : Int), .slice p n c] 27)).alloc (.cells #[.int .i64 y.m.k, .int .i64 y.m.s, .int .i64 y.m.n, .int .i64 y.m.b, .int .i64 y.m.c, .int .i64 y.m.r, .int .i64 y.m.y, .int .i64 y.m.a, .bool y.m.t, .slice y.pl y.m.ls.length y.cl, .slice y.pn y.m.ns.length y.cn] 36)).alloc (.cells #[.int .i64 0, .slice none 0 0] 27)) w.heap.size #[.int .i64 (N : Int), .slice p n c] 27) := Lib.hid (((Blk.new w #[.int .i64 (N : Int), .slice p n c] 27).alloc _).alloc _)
 have Hm0 : Hid (Blk (((w.alloc (.cells #[.int .i64 (N : Int), .slice p n c] 27)).alloc (.cells #[.int .i64 y.m.k, .int .i64 y.m.s, .int .i64 y.m.n, .int .i64 y.m.b, .int .i64 y.m.c, .int .i64 y.m.r, .int .i64 y.m.y, .int .i64 y.m.a, .bool y.m.t, .slice y.pl y.m.ls.length y.cl, .slice y.pn y.m.ns.length y.cn] 36)).alloc (.cells #[.int .i64 0, .slice none 0 0] 27)) (w.heap.size + 1) #[.int .i64 y.m.k, .int .i64 y.m.s, .int .i64 y.m.n, .int .i64 y.m.b, .int .i64 y.m.c, .int .i64 y.m.r, .int .i64 y.m.y, .int .i64 y.m.a, .bool y.m.t, .slice y.pl y.m.ls.length y.cl, .slice y.pn y.m.ns.length y.cn] 36) := Lib.hid ((Blk.new' (w.alloc (.cells #[.int .i64 (N : Int), .slice p n c] 27)) #[.int .i64 y.m.k, .int .i64 y.m.s, .int .i64 y.m.n, .int .i64 y.m.b, .int .i64 y.m.c, .int .i64 y.m.r, .int .i64 y.m.y, .int .i64 y.m.a, .bool y.m.t, .slice y.pl y.m.ls.length y.cl, .slice y.pn y.m.ns.length y.cn] 36 (by simp)).alloc _)
 have Hr0 : Hid (Blk (((w.alloc (.cells #[.int .i64 (N : Int), .slice p n c] 27)).alloc (.cells #[.int .i64 y.m.k, .int .i64 y.m.s, .int .i64 y.m.n, .int .i64 y.m.b, .int .i64 y.m.c, .int .i64 y.m.r, .int .i64 y.m.y, .int .i64 y.m.a, .bool y.m.t, .slice y.pl y.m.ls.length y.cl, .slice y.pn y.m.ns.length y.cn] 36)).alloc (.cells #[.int .i64 0, .slice none 0 0] 27)) (w.heap.size + 1 + 1) #[.int .i64 0, .slice none 0 0] 27) := Lib.hid (Blk.new' ((w.alloc (.cells #[.int .i64 (N : Int), .slice p n c] 27)).alloc (.cells #[.int .i64 y.m.k, .int .i64 y.m.s, .int .i64 y.m.n, .int .i64 y.m.b, .int .i64 y.m.c, .int .i64 y.m.r, .int .i64 y.m.y, .int .i64 y.m.a, .bool y.m.t, .slice y.pl y.m.ls.length y.cl, .slice y.pn y.m.ns.length y.cn] 36)) #[.int .i64 0, .slice none 0 0] 27 (by simp))
 have HZ0 : Hid (w.heap.size ≤ (((w.alloc (.cells #[.int .i64 (N : Int), .slice p n c] 27)).alloc (.cells #[.int .i64 y.m.k, .int .i64 y.m.s, .int .i64 y.m.n, .int .i64 y.m.b, .int .i64 y.m.c, .int .i64 y.m.r, .int .i64 y.m.y, .int .i64 y.m.a, .bool y.m.t, .slice y.pl y.m.ls.length y.cl, .slice y.pn y.m.ns.length y.cn] 36)).alloc (.cells #[.int .i64 0, .slice none 0 0] 27)).heap.size) := Lib.hid HB0.out.size
 go_enter Try.func7, Try.ntmps7
 go_upto_region 1 with fail
 generalize (((w.alloc (.cells #[.int .i64 (N : Int), .slice p n c] 27)).alloc (.cells #[.int .i64 y.m.k, .int .i64 y.m.s, .int .i64 y.m.n, .int .i64 y.m.b, .int .i64 y.m.c, .int .i64 y.m.r, .int .i64 y.m.y, .int .i64 y.m.a, .bool y.m.t, .slice y.pl y.m.ls.length y.cl, .slice y.pn y.m.ns.length y.cn] 36)).alloc (.cells #[.int .i64 0, .slice none 0 0] 27)) = W at *
 have HWL : Hid (w.heap.size + 1 + 1 < W.heap.size) := Lib.hid Hr0.out.lt
 by_cases hf : fro = -1
 ·skip
  have HFR : Hid (fro = -1) := Lib.hid hf
  subst hf
  by_cases hk : y.m.k = 5
  ·skip
   have HKE : Hid (y.m.k = 5) := Lib.hid hk
   clear hk
   have HG := Lib.hid (byE_none W 5 (by decide) (by decide) (by decide))
   have c0 : W.cell? ⟨w.heap.size + 1, 0, none⟩ = some (.int .i64 5) := by have h := Hm0.out.cell 0; rw [← HKE.out]; exact h
   go_wp2_with fail
   refine HG.out.mono ?_
   rintro y9 w1 ⟨rfl, hb⟩
   clear HG c0
   have HW1 : Hid (W.heap.size ≤ w1.heap.size) := Lib.hid hb.size
   have Hc1 := kbq Hc0 hb
   have Hm1 := kbq Hm0 hb
   have Hr1 := kbq Hr0 hb
   have HB1 := ktq HB0 hb
   have HZ1 := kzq HZ0 hb.size
   clear Hc0 Hm0 Hr0 HB0 HZ0
   clear hb
   have HWW : Hid (W.heap.size ≤ w1.heap.size) := Lib.hid HW1.out
   have HG := Lib.hid (byC_5 w1)
   have c0 : w1.cell? ⟨w.heap.size + 1, 0, none⟩ = some (.int .i64 5) := by have h := Hm1.out.cell 0; rw [← HKE.out]; exact h
   go_wp2_with fail
   refine HG.out.mono ?_
   rintro y9 w2 ⟨rfl, hb⟩
   clear HG c0
   have HWW : Hid (W.heap.size ≤ w2.heap.size) := Lib.hid (Nat.le_trans HWW.out hb.size)
   have Hc2 := kbq Hc1 hb
   have Hm2 := kbq Hm1 hb
   have Hr2 := kbq Hr1 hb
   have HB2 := ktq HB1 hb
   have HZ2 := kzq HZ1 hb.size
   clear Hc1 Hm1 Hr1 HB1 HZ1
   clear hb
   have c0 : w2.cell? ⟨w.heap.size + 1, 0, none⟩ = some (.int .i64 5) := by have h := Hm2.out.cell 0; rw [← HKE.out]; exact h
   obtain ⟨A, hA⟩ : ∃ A, startC N rs y.m = A := ⟨_, rfl⟩
   have HE : Hid (doC N rs y.m (-1) = A) := Lib.hid (by show _ = _; unfold doC; rw [if_pos rfl, if_pos HKE.out]; exact hA)
   go_upto_region 10 with fail
   clear c0
   have HGX : Hid (W.heap.size ≤ w2.heap.size) := Lib.hid (by have h1 := HWW.out; exact h1)
   have HG := Lib.hid (cstart_any w2 (fun b => P b ∨ (W.heap.size ≤ b ∧ b < w2.heap.size)) N p n c rs y (-1) ((HRS.out.kept HB2.out).imp (fun b h => .inl h)) (fun b h => h.elim (fun h1 => Nat.lt_of_lt_of_le (HPW.out b h1) HZ2.out) (fun h1 => h1.2)) HKK.out.1 HKK.out.2 HNN.out.1 HNN.out.2)
   unfold CP CPost Msg.v at HG
   rw [hA] at HG
   clear hA
   have a0 : w2.cell? ⟨w.heap.size, 0, none⟩ = some (.int .i64 (N : Int)) := Hc2.out.cell 0
   have a1 : w2.cell? ⟨w.heap.size, 1, none⟩ = some (.slice p n c) := Hc2.out.cell 1
   have m0 : w2.cell? ⟨(w.heap.size + 1), 0, none⟩ = some (.int .i64 y.m.k) := Hm2.out.cell 0
   have m1 : w2.cell? ⟨(w.heap.size + 1), 1, none⟩ = some (.int .i64 y.m.s) := Hm2.out.cell 1
   have m2 : w2.cell? ⟨(w.heap.size + 1), 2, none⟩ = some (.int .i64 y.m.n) := Hm2.out.cell 2
   have m3 : w2.cell? ⟨(w.heap.size + 1), 3, none⟩ = some (.int .i64 y.m.b) := Hm2.out.cell 3
   have m4 : w2.cell? ⟨(w.heap.size + 1), 4, none⟩ = some (.int .i64 y.m.c) := Hm2.out.cell 4
   have m5 : w2.cell? ⟨(w.heap.size + 1), 5, none⟩ = some (.int .i64 y.m.r) := Hm2.out.cell 5
   have m6 : w2.cell? ⟨(w.heap.size + 1), 6, none⟩ = some (.int .i64 y.m.y) := Hm2.out.cell 6
   have m7 : w2.cell? ⟨(w.heap.size + 1), 7, none⟩ = some (.int .i64 y.m.a) := Hm2.out.cell 7
   have m8 : w2.cell? ⟨(w.heap.size + 1), 8, none⟩ = some (.bool y.m.t) := Hm2.out.cell 8
   have m9 : w2.cell? ⟨(w.heap.size + 1), 9, none⟩ = some (.slice y.pl y.m.ls.length y.cl) := Hm2.out.cell 9
   have m10 : w2.cell? ⟨(w.heap.size + 1), 10, none⟩ = some (.slice y.pn y.m.ns.length y.cn) := Hm2.out.cell 10
   go_wp2_with fail
   clear a0 a1 m0 m1 m2 m3 m4 m5 m6 m7 m8 m9 m10
   refine HG.out.mono ?_
   rintro y9 w5 ⟨p3, n3, c3, pv3, nv3, cv3, B3, rfl, hn3, hnv3, hB3, hq3, hs3, hb⟩
   clear HG
   have HN3 := Lib.hid (And.intro hn3 hnv3)
   have HBB : Hid (w2.heap.size ≤ B3) := Lib.hid hB3
   have HQQ := Lib.hid hq3
   have HSS := Lib.hid hs3
   clear hn3 hnv3 hB3 hq3 hs3
   have Hc3 := kbq Hc2 hb
   have Hm3 := kbq Hm2 hb
   have Hr3 := kbq Hr2 hb
   have HB3 := ktq HB2 hb
   have HZ3 := kzq HZ2 hb.size
   clear Hc2 Hm2 Hr2 HB2 HZ2
   clear hb
   obtain ⟨rs3, out3, e3⟩ := A
   go_wp2_with (with_reducible refine stop_storeT 27 (.tmp 6) (.tmp 53) rfl ?_)
   have HTH : Hid (w5.there (w.heap.size + 1 + 1) 0 2) := Hr3.out.thereAt
   have hch : Hid (Chg (w.heap.size + 1 + 1) w5 (w5.setCells (w.heap.size + 1 + 1) 0 (#[.int .i64 (N : Int), .slice p3 n3 c3] : Array Value).toList)) := Lib.hid (chg_putL _ _ _ _ _ (Chg.refl _ w5))
   have Hr4 : Hid (Blk (w5.setCells (w.heap.size + 1 + 1) 0 (#[.int .i64 (N : Int), .slice p3 n3 c3] : Array Value).toList) (w.heap.size + 1 + 1) #[.int .i64 (N : Int), .slice p3 n3 c3] 27) := Lib.hid (blk_put_all Hr3.out _ rfl)
   have HB4 : Hid (Below w.heap.size w (w5.setCells (w.heap.size + 1 + 1) 0 (#[.int .i64 (N : Int), .slice p3 n3 c3] : Array Value).toList)) := Lib.hid (below_put (by have := HWL.out; omega) _ _ _ _ HB3.out)
   have HZ4 := kzq HZ3 hch.out.size
   have Hc4 := kcq Hc3 hch (by have := HWL.out; omega)
   have Hm4 := kcq Hm3 hch (by have := HWL.out; omega)
   have HST := Lib.hid (HSS.out.chgS hch.out (by have := HBB.out; have := HWL.out; have := HGX.out; omega))
   have HQR := Lib.hid ((HQQ.out.imp (Q := fun b => b ≠ w.heap.size + 1 + 1 ∧ (P b ∨ (w.heap.size ≤ b ∧ b < B3))) (fun b h => by
    have h5 := HBB.out
    have h6 := HWL.out
    have h7 := HGX.out
    rcases h with (h1 | h1) | h1
    ·have := HPW.out _ h1
     exact ⟨by omega, .inl h1⟩
    ·exact ⟨by omega, .inr (by omega)⟩
    ·exact ⟨by omega, .inr (by omega)⟩)).keepP (KeepP.of_chg hch.out (by rintro ⟨h, _⟩; exact h rfl)))
   clear HSS HQQ
   clear hch Hc3 Hm3 Hr3 HB3 HZ3
   refine wpList_store_mid rfl 27 (.tmp 6) (.tmp 53) rfl (w.heap.size + 1 + 1) 0 #[.int .i64 (N : Int), .slice p3 n3 c3] rfl rfl HTH.out (infoC2 rfl) (all_oneCell_toArray (by intro u hu; simp at hu; rcases hu with rfl | rfl <;> rfl)) ?_
   generalize (w5.setCells (w.heap.size + 1 + 1) 0 (#[.int .i64 (N : Int), .slice p3 n3 c3] : Array Value).toList) = W9s at *
   clear HTH
   go_wp2_with fail
   have hfr := Hr4.out
   refine bodyPost_ret (v := .tuple #[.agg #[.int .i64 (N : Int), .slice p3 n3 c3], .slice pv3 nv3 cv3, .int .i64 e3]) (by simp [results, Try.results7, go_sem, hfr.cell 0, hfr.cell 1]) rfl (by rw [HE.out]; exact ⟨p3, n3, c3, pv3, nv3, cv3, B3, rfl, HN3.out.1, HN3.out.2, by have := HBB.out; have := HWL.out; have := HGX.out; omega, HQR.out.imp (fun b h => h.2), HST.out, HB4.out⟩)
  have hk5 := hk
  clear hk
  by_cases hk : y.m.k = 16
  ·skip
   have HKE : Hid (y.m.k = 16) := Lib.hid hk
   clear hk
   have HG := Lib.hid (byE_none W 16 (by decide) (by decide) (by decide))
   have c0 : W.cell? ⟨w.heap.size + 1, 0, none⟩ = some (.int .i64 16) := by have h := Hm0.out.cell 0; rw [← HKE.out]; exact h
   go_wp2_with fail
   refine HG.out.mono ?_
   rintro y9 w1 ⟨rfl, hb⟩
   clear HG c0
   have HW1 : Hid (W.heap.size ≤ w1.heap.size) := Lib.hid hb.size
   have Hc1 := kbq Hc0 hb
   have Hm1 := kbq Hm0 hb
   have Hr1 := kbq Hr0 hb
   have HB1 := ktq HB0 hb
   have HZ1 := kzq HZ0 hb.size
   clear Hc0 Hm0 Hr0 HB0 HZ0
   clear hb
   have HWW : Hid (W.heap.size ≤ w1.heap.size) := Lib.hid HW1.out
   have HG := Lib.hid (byC_16 w1)
   have c0 : w1.cell? ⟨w.heap.size + 1, 0, none⟩ = some (.int .i64 16) := by have h := Hm1.out.cell 0; rw [← HKE.out]; exact h
   go_wp2_with fail
   refine HG.out.mono ?_
   rintro y9 w2 ⟨rfl, hb⟩
   clear HG c0
   have HWW : Hid (W.heap.size ≤ w2.heap.size) := Lib.hid (Nat.le_trans HWW.out hb.size)
   have Hc2 := kbq Hc1 hb
   have Hm2 := kbq Hm1 hb
   have Hr2 := kbq Hr1 hb
   have HB2 := ktq HB1 hb
   have HZ2 := kzq HZ1 hb.size
   clear Hc1 Hm1 Hr1 HB1 HZ1
   clear hb
   have c0 : w2.cell? ⟨w.heap.size + 1, 0, none⟩ = some (.int .i64 16) := by have h := Hm2.out.cell 0; rw [← HKE.out]; exact h
   have HG := Lib.hid (chas_any w2 (N : Int) y.m.y p n c)
   rw [show decide (1 ≤ y.m.y ∧ y.m.y ≤ (n : Int)) = hasB rs y.m.y by unfold hasB; rw [← HKK.out.1]] at HG
   obtain ⟨bh, hbh⟩ : ∃ bh, hasB rs y.m.y = bh := ⟨_, rfl⟩
   rw [hbh] at HG
   have HHS := Lib.hid hbh
   clear hbh
   have a0 : w2.cell? ⟨w.heap.size, 0, none⟩ = some (.int .i64 (N : Int)) := Hc2.out.cell 0
   have a1 : w2.cell? ⟨w.heap.size, 1, none⟩ = some (.slice p n c) := Hc2.out.cell 1
   have m6 : w2.cell? ⟨(w.heap.size + 1), 6, none⟩ = some (.int .i64 y.m.y) := Hm2.out.cell 6
   go_wp2_with fail
   clear a0 a1 m6 
   refine HG.out.mono ?_
   rintro y9 w8 ⟨rfl, hb⟩
   clear HG c0
   have HWW : Hid (W.heap.size ≤ w8.heap.size) := Lib.hid (Nat.le_trans HWW.out hb.size)
   have Hc3 := kbq Hc2 hb
   have Hm3 := kbq Hm2 hb
   have Hr3 := kbq Hr2 hb
   have HB3 := ktq HB2 hb
   have HZ3 := kzq HZ2 hb.size
   clear Hc2 Hm2 Hr2 HB2 HZ2
   clear hb
   cases bh
   ·skip
    have HE : Hid (doC N rs y.m (-1) = (rs, [], 4)) := Lib.hid (by unfold doC; rw [if_pos rfl, if_neg (by rw [HKE.out]; decide), if_pos HKE.out, if_neg (by rw [HHS.out]; decide)])
    go_upto_region 9 with fail
    have a0 : w8.cell? ⟨w.heap.size, 0, none⟩ = some (.int .i64 (N : Int)) := Hc3.out.cell 0
    have a1 : w8.cell? ⟨w.heap.size, 1, none⟩ = some (.slice p n c) := Hc3.out.cell 1
    go_wp2_with (with_reducible refine stop_storeT 27 (.tmp 6) (.tmp 47) rfl ?_)
    clear a0 a1
    have HTH : Hid (w8.there (w.heap.size + 1 + 1) 0 2) := Hr3.out.thereAt
    have hch : Hid (Chg (w.heap.size + 1 + 1) w8 (w8.setCells (w.heap.size + 1 + 1) 0 (#[.int .i64 (N : Int), .slice p n c] : Array Value).toList)) := Lib.hid (chg_putL _ _ _ _ _ (Chg.refl _ w8))
    have Hr4 : Hid (Blk (w8.setCells (w.heap.size + 1 + 1) 0 (#[.int .i64 (N : Int), .slice p n c] : Array Value).toList) (w.heap.size + 1 + 1) #[.int .i64 (N : Int), .slice p n c] 27) := Lib.hid (blk_put_all Hr3.out _ rfl)
    have HB4 : Hid (Below w.heap.size w (w8.setCells (w.heap.size + 1 + 1) 0 (#[.int .i64 (N : Int), .slice p n c] : Array Value).toList)) := Lib.hid (below_put (by have := HWL.out; omega) _ _ _ _ HB3.out)
    have HZ4 := kzq HZ3 hch.out.size
    have Hc4 := kcq Hc3 hch (by have := HWL.out; omega)
    have Hm4 := kcq Hm3 hch (by have := HWL.out; omega)
    clear hch Hc3 Hm3 Hr3 HB3 HZ3
    refine wpList_store_mid rfl 27 (.tmp 6) (.tmp 47) rfl (w.heap.size + 1 + 1) 0 #[.int .i64 (N : Int), .slice p n c] rfl rfl HTH.out (infoC2 rfl) (all_oneCell_toArray (by intro u hu; simp at hu; rcases hu with rfl | rfl <;> rfl)) ?_
    generalize (w8.setCells (w.heap.size + 1 + 1) 0 (#[.int .i64 (N : Int), .slice p n c] : Array Value).toList) = W9h at *
    clear HTH
    go_wp2_with fail
    have hfr := Hr4.out
    refine bodyPost_ret (v := .tuple #[.agg #[.int .i64 (N : Int), .slice p n c], .slice none 0 0, .int .i64 4]) (by simp [results, Try.results7, go_sem, hfr.cell 0, hfr.cell 1]) rfl (by rw [HE.out]; exact ⟨p, n, c, none, 0, 0, W9h.heap.size, rfl, HKK.out.1, rfl, HZ4.out, (HRS.out.kept HB4.out).imp (fun b h => .inl h), SaidL.nil_ _ _, HB4.out⟩)
   ·skip
    obtain ⟨A, hA⟩ : ∃ A, dueC N rs y.m = A := ⟨_, rfl⟩
    have HE : Hid (doC N rs y.m (-1) = A) := Lib.hid (by show _ = _; unfold doC; rw [if_pos rfl, if_neg (by rw [HKE.out]; decide), if_pos HKE.out, if_pos HHS.out]; exact hA)
    go_upto_region 10 with fail
    have HGX : Hid (W.heap.size ≤ w8.heap.size) := Lib.hid (by have h1 := HWW.out; exact h1)
    have HG := Lib.hid (cdue_any w8 (fun b => P b ∨ (W.heap.size ≤ b ∧ b < w8.heap.size)) N p n c rs y (-1) ((HRS.out.kept HB3.out).imp (fun b h => .inl h)) (fun b h => h.elim (fun h1 => Nat.lt_of_lt_of_le (HPW.out b h1) HZ3.out) (fun h1 => h1.2)) HKK.out.1 (by have := HKK.out; omega) (of_hasB HHS.out HKK.out.1).1 (of_hasB HHS.out HKK.out.1).2 HNN.out.1 HNN.out.2 (fun r hr => (HOK.out r hr).1))
    unfold CP CPost Msg.v at HG
    rw [hA] at HG
    clear hA
    have a0 : w8.cell? ⟨w.heap.size, 0, none⟩ = some (.int .i64 (N : Int)) := Hc3.out.cell 0
    have a1 : w8.cell? ⟨w.heap.size, 1, none⟩ = some (.slice p n c) := Hc3.out.cell 1
    have m0 : w8.cell? ⟨(w.heap.size + 1), 0, none⟩ = some (.int .i64 y.m.k) := Hm3.out.cell 0
    have m1 : w8.cell? ⟨(w.heap.size + 1), 1, none⟩ = some (.int .i64 y.m.s) := Hm3.out.cell 1
    have m2 : w8.cell? ⟨(w.heap.size + 1), 2, none⟩ = some (.int .i64 y.m.n) := Hm3.out.cell 2
    have m3 : w8.cell? ⟨(w.heap.size + 1), 3, none⟩ = some (.int .i64 y.m.b) := Hm3.out.cell 3
    have m4 : w8.cell? ⟨(w.heap.size + 1), 4, none⟩ = some (.int .i64 y.m.c) := Hm3.out.cell 4
    have m5 : w8.cell? ⟨(w.heap.size + 1), 5, none⟩ = some (.int .i64 y.m.r) := Hm3.out.cell 5
    have m6 : w8.cell? ⟨(w.heap.size + 1), 6, none⟩ = some (.int .i64 y.m.y) := Hm3.out.cell 6
    have m7 : w8.cell? ⟨(w.heap.size + 1), 7, none⟩ = some (.int .i64 y.m.a) := Hm3.out.cell 7
    have m8 : w8.cell? ⟨(w.heap.size + 1), 8, none⟩ = some (.bool y.m.t) := Hm3.out.cell 8
    have m9 : w8.cell? ⟨(w.heap.size + 1), 9, none⟩ = some (.slice y.pl y.m.ls.length y.cl) := Hm3.out.cell 9
    have m10 : w8.cell? ⟨(w.heap.size + 1), 10, none⟩ = some (.slice y.pn y.m.ns.length y.cn) := Hm3.out.cell 10
    go_wp2_with fail
    clear a0 a1 m0 m1 m2 m3 m4 m5 m6 m7 m8 m9 m10
    refine HG.out.mono ?_
    rintro y9 w5 ⟨p3, n3, c3, pv3, nv3, cv3, B3, rfl, hn3, hnv3, hB3, hq3, hs3, hb⟩
    clear HG
    have HN3 := Lib.hid (And.intro hn3 hnv3)
    have HBB : Hid (w8.heap.size ≤ B3) := Lib.hid hB3
    have HQQ := Lib.hid hq3
    have HSS := Lib.hid hs3
    clear hn3 hnv3 hB3 hq3 hs3
    have Hc4 := kbq Hc3 hb
    have Hm4 := kbq Hm3 hb
    have Hr4 := kbq Hr3 hb
    have HB4 := ktq HB3 hb
    have HZ4 := kzq HZ3 hb.size
    clear Hc3 Hm3 Hr3 HB3 HZ3
    clear hb
    obtain ⟨rs3, out3, e3⟩ := A
    go_wp2_with (with_reducible refine stop_storeT 27 (.tmp 6) (.tmp 53) rfl ?_)
    have HTH : Hid (w5.there (w.heap.size + 1 + 1) 0 2) := Hr4.out.thereAt
    have hch : Hid (Chg (w.heap.size + 1 + 1) w5 (w5.setCells (w.heap.size + 1 + 1) 0 (#[.int .i64 (N : Int), .slice p3 n3 c3] : Array Value).toList)) := Lib.hid (chg_putL _ _ _ _ _ (Chg.refl _ w5))
    have Hr5 : Hid (Blk (w5.setCells (w.heap.size + 1 + 1) 0 (#[.int .i64 (N : Int), .slice p3 n3 c3] : Array Value).toList) (w.heap.size + 1 + 1) #[.int .i64 (N : Int), .slice p3 n3 c3] 27) := Lib.hid (blk_put_all Hr4.out _ rfl)
    have HB5 : Hid (Below w.heap.size w (w5.setCells (w.heap.size + 1 + 1) 0 (#[.int .i64 (N : Int), .slice p3 n3 c3] : Array Value).toList)) := Lib.hid (below_put (by have := HWL.out; omega) _ _ _ _ HB4.out)
    have HZ5 := kzq HZ4 hch.out.size
    have Hc5 := kcq Hc4 hch (by have := HWL.out; omega)
    have Hm5 := kcq Hm4 hch (by have := HWL.out; omega)
    have HST := Lib.hid (HSS.out.chgS hch.out (by have := HBB.out; have := HWL.out; have := HGX.out; omega))
    have HQR := Lib.hid ((HQQ.out.imp (Q := fun b => b ≠ w.heap.size + 1 + 1 ∧ (P b ∨ (w.heap.size ≤ b ∧ b < B3))) (fun b h => by
     have h5 := HBB.out
     have h6 := HWL.out
     have h7 := HGX.out
     rcases h with (h1 | h1) | h1
     ·have := HPW.out _ h1
      exact ⟨by omega, .inl h1⟩
     ·exact ⟨by omega, .inr (by omega)⟩
     ·exact ⟨by omega, .inr (by omega)⟩)).keepP (KeepP.of_chg hch.out (by rintro ⟨h, _⟩; exact h rfl)))
    clear HSS HQQ
    clear hch Hc4 Hm4 Hr4 HB4 HZ4
    refine wpList_store_mid rfl 27 (.tmp 6) (.tmp 53) rfl (w.heap.size + 1 + 1) 0 #[.int .i64 (N : Int), .slice p3 n3 c3] rfl rfl HTH.out (infoC2 rfl) (all_oneCell_toArray (by intro u hu; simp at hu; rcases hu with rfl | rfl <;> rfl)) ?_
    generalize (w5.setCells (w.heap.size + 1 + 1) 0 (#[.int .i64 (N : Int), .slice p3 n3 c3] : Array Value).toList) = W9d at *
    clear HTH
    go_wp2_with fail
    have hfr := Hr5.out
    refine bodyPost_ret (v := .tuple #[.agg #[.int .i64 (N : Int), .slice p3 n3 c3], .slice pv3 nv3 cv3, .int .i64 e3]) (by simp [results, Try.results7, go_sem, hfr.cell 0, hfr.cell 1]) rfl (by rw [HE.out]; exact ⟨p3, n3, c3, pv3, nv3, cv3, B3, rfl, HN3.out.1, HN3.out.2, by have := HBB.out; have := HWL.out; have := HGX.out; omega, HQR.out.imp (fun b h => h.2), HST.out, HB5.out⟩)
  have hk16 := hk
  clear hk
  have HN5 := Lib.hid hk5
  have HN16 := Lib.hid hk16
  by_cases hk : y.m.k = 11
  ·skip
   have HKE : Hid (y.m.k = 11) := Lib.hid hk
   clear hk hk5 hk16
   have HG := Lib.hid (byE_11 W)
   have c0 : W.cell? ⟨w.heap.size + 1, 0, none⟩ = some (.int .i64 11) := by have h := Hm0.out.cell 0; rw [← HKE.out]; exact h
   go_wp2_with fail
   refine HG.out.mono ?_
   rintro y9 w1 ⟨rfl, hb⟩
   clear HG c0
   have Hc1 := kbq Hc0 hb
   have Hm1 := kbq Hm0 hb
   have Hr1 := kbq Hr0 hb
   have HB1 := ktq HB0 hb
   have HZ1 := kzq HZ0 hb.size
   clear Hc0 Hm0 Hr0 HB0 HZ0
   clear hb
   have HG := Lib.hid (byC_none w1 y.m.k HN5.out HN16.out)
   have c0 : w1.cell? ⟨(w.heap.size + 1), 0, none⟩ = some (.int .i64 y.m.k) := Hm1.out.cell 0
   go_wp2_with fail
   refine HG.out.mono ?_
   rintro y9 w2 ⟨rfl, hb⟩
   clear HG c0
   have Hc2 := kbq Hc1 hb
   have Hm2 := kbq Hm1 hb
   have Hr2 := kbq Hr1 hb
   have HB2 := ktq HB1 hb
   have HZ2 := kzq HZ1 hb.size
   clear Hc1 Hm1 Hr1 HB1 HZ1
   clear hb
   have HE : Hid (doC N rs y.m (-1) = (rs, [], 110)) := Lib.hid (by unfold doC; rw [if_pos rfl, if_neg HN5.out, if_neg HN16.out])
   go_upto_region 5 with fail
   have a0 : w2.cell? ⟨w.heap.size, 0, none⟩ = some (.int .i64 (N : Int)) := Hc2.out.cell 0
   have a1 : w2.cell? ⟨w.heap.size, 1, none⟩ = some (.slice p n c) := Hc2.out.cell 1
   go_wp2_with (with_reducible refine stop_storeT 27 (.tmp 6) (.tmp 21) rfl ?_)
   clear a0 a1
   have HTH : Hid (w2.there (w.heap.size + 1 + 1) 0 2) := Hr2.out.thereAt
   have hch : Hid (Chg (w.heap.size + 1 + 1) w2 (w2.setCells (w.heap.size + 1 + 1) 0 (#[.int .i64 (N : Int), .slice p n c] : Array Value).toList)) := Lib.hid (chg_putL _ _ _ _ _ (Chg.refl _ w2))
   have Hr3 : Hid (Blk (w2.setCells (w.heap.size + 1 + 1) 0 (#[.int .i64 (N : Int), .slice p n c] : Array Value).toList) (w.heap.size + 1 + 1) #[.int .i64 (N : Int), .slice p n c] 27) := Lib.hid (blk_put_all Hr2.out _ rfl)
   have HB3 : Hid (Below w.heap.size w (w2.setCells (w.heap.size + 1 + 1) 0 (#[.int .i64 (N : Int), .slice p n c] : Array Value).toList)) := Lib.hid (below_put (by have := HWL.out; omega) _ _ _ _ HB2.out)
   have HZ3 := kzq HZ2 hch.out.size
   have Hc3 := kcq Hc2 hch (by have := HWL.out; omega)
   have Hm3 := kcq Hm2 hch (by have := HWL.out; omega)
   clear hch Hc2 Hm2 Hr2 HB2 HZ2
   refine wpList_store_mid rfl 27 (.tmp 6) (.tmp 21) rfl (w.heap.size + 1 + 1) 0 #[.int .i64 (N : Int), .slice p n c] rfl rfl HTH.out (infoC2 rfl) (all_oneCell_toArray (by intro u hu; simp at hu; rcases hu with rfl | rfl <;> rfl)) ?_
   generalize (w2.setCells (w.heap.size + 1 + 1) 0 (#[.int .i64 (N : Int), .slice p n c] : Array Value).toList) = W9n at *
   clear HTH
   go_wp2_with fail
   have hfr := Hr3.out
   refine bodyPost_ret (v := .tuple #[.agg #[.int .i64 (N : Int), .slice p n c], .slice none 0 0, .int .i64 110]) (by simp [results, Try.results7, go_sem, hfr.cell 0, hfr.cell 1]) rfl (by rw [HE.out]; exact ⟨p, n, c, none, 0, 0, W9n.heap.size, rfl, HKK.out.1, rfl, HZ3.out, (HRS.out.kept HB3.out).imp (fun b h => .inl h), SaidL.nil_ _ _, HB3.out⟩)
  have hk11 := hk
  clear hk
  by_cases hk : y.m.k = 13
  ·skip
   have HKE : Hid (y.m.k = 13) := Lib.hid hk
   clear hk hk5 hk16
   have HG := Lib.hid (byE_13 W)
   have c0 : W.cell? ⟨w.heap.size + 1, 0, none⟩ = some (.int .i64 13) := by have h := Hm0.out.cell 0; rw [← HKE.out]; exact h
   go_wp2_with fail
   refine HG.out.mono ?_
   rintro y9 w1 ⟨rfl, hb⟩
   clear HG c0
   have Hc1 := kbq Hc0 hb
   have Hm1 := kbq Hm0 hb
   have Hr1 := kbq Hr0 hb
   have HB1 := ktq HB0 hb
   have HZ1 := kzq HZ0 hb.size
   clear Hc0 Hm0 Hr0 HB0 HZ0
   clear hb
   have HG := Lib.hid (byC_none w1 y.m.k HN5.out HN16.out)
   have c0 : w1.cell? ⟨(w.heap.size + 1), 0, none⟩ = some (.int .i64 y.m.k) := Hm1.out.cell 0
   go_wp2_with fail
   refine HG.out.mono ?_
   rintro y9 w2 ⟨rfl, hb⟩
   clear HG c0
   have Hc2 := kbq Hc1 hb
   have Hm2 := kbq Hm1 hb
   have Hr2 := kbq Hr1 hb
   have HB2 := ktq HB1 hb
   have HZ2 := kzq HZ1 hb.size
   clear Hc1 Hm1 Hr1 HB1 HZ1
   clear hb
   have HE : Hid (doC N rs y.m (-1) = (rs, [], 110)) := Lib.hid (by unfold doC; rw [if_pos rfl, if_neg HN5.out, if_neg HN16.out])
   go_upto_region 5 with fail
   have a0 : w2.cell? ⟨w.heap.size, 0, none⟩ = some (.int .i64 (N : Int)) := Hc2.out.cell 0
   have a1 : w2.cell? ⟨w.heap.size, 1, none⟩ = some (.slice p n c) := Hc2.out.cell 1
   go_wp2_with (with_reducible refine stop_storeT 27 (.tmp 6) (.tmp 21) rfl ?_)
   clear a0 a1
   have HTH : Hid (w2.there (w.heap.size + 1 + 1) 0 2) := Hr2.out.thereAt
   have hch : Hid (Chg (w.heap.size + 1 + 1) w2 (w2.setCells (w.heap.size + 1 + 1) 0 (#[.int .i64 (N : Int), .slice p n c] : Array Value).toList)) := Lib.hid (chg_putL _ _ _ _ _ (Chg.refl _ w2))
   have Hr3 : Hid (Blk (w2.setCells (w.heap.size + 1 + 1) 0 (#[.int .i64 (N : Int), .slice p n c] : Array Value).toList) (w.heap.size + 1 + 1) #[.int .i64 (N : Int), .slice p n c] 27) := Lib.hid (blk_put_all Hr2.out _ rfl)
   have HB3 : Hid (Below w.heap.size w (w2.setCells (w.heap.size + 1 + 1) 0 (#[.int .i64 (N : Int), .slice p n c] : Array Value).toList)) := Lib.hid (below_put (by have := HWL.out; omega) _ _ _ _ HB2.out)
   have HZ3 := kzq HZ2 hch.out.size
   have Hc3 := kcq Hc2 hch (by have := HWL.out; omega)
   have Hm3 := kcq Hm2 hch (by have := HWL.out; omega)
   clear hch Hc2 Hm2 Hr2 HB2 HZ2
   refine wpList_store_mid rfl 27 (.tmp 6) (.tmp 21) rfl (w.heap.size + 1 + 1) 0 #[.int .i64 (N : Int), .slice p n c] rfl rfl HTH.out (infoC2 rfl) (all_oneCell_toArray (by intro u hu; simp at hu; rcases hu with rfl | rfl <;> rfl)) ?_
   generalize (w2.setCells (w.heap.size + 1 + 1) 0 (#[.int .i64 (N : Int), .slice p n c] : Array Value).toList) = W9n at *
   clear HTH
   go_wp2_with fail
   have hfr := Hr3.out
   refine bodyPost_ret (v := .tuple #[.agg #[.int .i64 (N : Int), .slice p n c], .slice none 0 0, .int .i64 110]) (by simp [results, Try.results7, go_sem, hfr.cell 0, hfr.cell 1]) rfl (by rw [HE.out]; exact ⟨p, n, c, none, 0, 0, W9n.heap.size, rfl, HKK.out.1, rfl, HZ3.out, (HRS.out.kept HB3.out).imp (fun b h => .inl h), SaidL.nil_ _ _, HB3.out⟩)
  have hk13 := hk
  clear hk
  by_cases hk : y.m.k = 15
  ·skip
   have HKE : Hid (y.m.k = 15) := Lib.hid hk
   clear hk hk5 hk16
   have HG := Lib.hid (byE_15 W)
   have c0 : W.cell? ⟨w.heap.size + 1, 0, none⟩ = some (.int .i64 15) := by have h := Hm0.out.cell 0; rw [← HKE.out]; exact h
   go_wp2_with fail
   refine HG.out.mono ?_
   rintro y9 w1 ⟨rfl, hb⟩
   clear HG c0
   have Hc1 := kbq Hc0 hb
   have Hm1 := kbq Hm0 hb
   have Hr1 := kbq Hr0 hb
   have HB1 := ktq HB0 hb
   have HZ1 := kzq HZ0 hb.size
   clear Hc0 Hm0 Hr0 HB0 HZ0
   clear hb
   have HG := Lib.hid (byC_none w1 y.m.k HN5.out HN16.out)
   have c0 : w1.cell? ⟨(w.heap.size + 1), 0, none⟩ = some (.int .i64 y.m.k) := Hm1.out.cell 0
   go_wp2_with fail
   refine HG.out.mono ?_
   rintro y9 w2 ⟨rfl, hb⟩
   clear HG c0
   have Hc2 := kbq Hc1 hb
   have Hm2 := kbq Hm1 hb
   have Hr2 := kbq Hr1 hb
   have HB2 := ktq HB1 hb
   have HZ2 := kzq HZ1 hb.size
   clear Hc1 Hm1 Hr1 HB1 HZ1
   clear hb
   have HE : Hid (doC N rs y.m (-1) = (rs, [], 110)) := Lib.hid (by unfold doC; rw [if_pos rfl, if_neg HN5.out, if_neg HN16.out])
   go_upto_region 5 with fail
   have a0 : w2.cell? ⟨w.heap.size, 0, none⟩ = some (.int .i64 (N : Int)) := Hc2.out.cell 0
   have a1 : w2.cell? ⟨w.heap.size, 1, none⟩ = some (.slice p n c) := Hc2.out.cell 1
   go_wp2_with (with_reducible refine stop_storeT 27 (.tmp 6) (.tmp 21) rfl ?_)
   clear a0 a1
   have HTH : Hid (w2.there (w.heap.size + 1 + 1) 0 2) := Hr2.out.thereAt
   have hch : Hid (Chg (w.heap.size + 1 + 1) w2 (w2.setCells (w.heap.size + 1 + 1) 0 (#[.int .i64 (N : Int), .slice p n c] : Array Value).toList)) := Lib.hid (chg_putL _ _ _ _ _ (Chg.refl _ w2))
   have Hr3 : Hid (Blk (w2.setCells (w.heap.size + 1 + 1) 0 (#[.int .i64 (N : Int), .slice p n c] : Array Value).toList) (w.heap.size + 1 + 1) #[.int .i64 (N : Int), .slice p n c] 27) := Lib.hid (blk_put_all Hr2.out _ rfl)
   have HB3 : Hid (Below w.heap.size w (w2.setCells (w.heap.size + 1 + 1) 0 (#[.int .i64 (N : Int), .slice p n c] : Array Value).toList)) := Lib.hid (below_put (by have := HWL.out; omega) _ _ _ _ HB2.out)
   have HZ3 := kzq HZ2 hch.out.size
   have Hc3 := kcq Hc2 hch (by have := HWL.out; omega)
   have Hm3 := kcq Hm2 hch (by have := HWL.out; omega)
   clear hch Hc2 Hm2 Hr2 HB2 HZ2
   refine wpList_store_mid rfl 27 (.tmp 6) (.tmp 21) rfl (w.heap.size + 1 + 1) 0 #[.int .i64 (N : Int), .slice p n c] rfl rfl HTH.out (infoC2 rfl) (all_oneCell_toArray (by intro u hu; simp at hu; rcases hu with rfl | rfl <;> rfl)) ?_
   generalize (w2.setCells (w.heap.size + 1 + 1) 0 (#[.int .i64 (N : Int), .slice p n c] : Array Value).toList) = W9n at *
   clear HTH
   go_wp2_with fail
   have hfr := Hr3.out
   refine bodyPost_ret (v := .tuple #[.agg #[.int .i64 (N : Int), .slice p n c], .slice none 0 0, .int .i64 110]) (by simp [results, Try.results7, go_sem, hfr.cell 0, hfr.cell 1]) rfl (by rw [HE.out]; exact ⟨p, n, c, none, 0, 0, W9n.heap.size, rfl, HKK.out.1, rfl, HZ3.out, (HRS.out.kept HB3.out).imp (fun b h => .inl h), SaidL.nil_ _ _, HB3.out⟩)
  have hk15 := hk
  clear hk
  have HG := Lib.hid (byE_none W y.m.k hk11 hk13 hk15)
  have c0 : W.cell? ⟨(w.heap.size + 1), 0, none⟩ = some (.int .i64 y.m.k) := Hm0.out.cell 0
  go_wp2_with fail
  refine HG.out.mono ?_
  rintro y9 w1 ⟨rfl, hb⟩
  clear HG c0
  have Hc1 := kbq Hc0 hb
  have Hm1 := kbq Hm0 hb
  have Hr1 := kbq Hr0 hb
  have HB1 := ktq HB0 hb
  have HZ1 := kzq HZ0 hb.size
  clear Hc0 Hm0 Hr0 HB0 HZ0
  clear hb
  have HG := Lib.hid (byC_none w1 y.m.k HN5.out HN16.out)
  have c0 : w1.cell? ⟨(w.heap.size + 1), 0, none⟩ = some (.int .i64 y.m.k) := Hm1.out.cell 0
  go_wp2_with fail
  refine HG.out.mono ?_
  rintro y9 w2 ⟨rfl, hb⟩
  clear HG c0
  have Hc2 := kbq Hc1 hb
  have Hm2 := kbq Hm1 hb
  have Hr2 := kbq Hr1 hb
  have HB2 := ktq HB1 hb
  have HZ2 := kzq HZ1 hb.size
  clear Hc1 Hm1 Hr1 HB1 HZ1
  clear hb
  have HE : Hid (doC N rs y.m (-1) = (rs, [], 110)) := Lib.hid (by unfold doC; rw [if_pos rfl, if_neg HN5.out, if_neg HN16.out])
  go_upto_region 5 with fail
  have a0 : w2.cell? ⟨w.heap.size, 0, none⟩ = some (.int .i64 (N : Int)) := Hc2.out.cell 0
  have a1 : w2.cell? ⟨w.heap.size, 1, none⟩ = some (.slice p n c) := Hc2.out.cell 1
  go_wp2_with (with_reducible refine stop_storeT 27 (.tmp 6) (.tmp 21) rfl ?_)
  clear a0 a1
  have HTH : Hid (w2.there (w.heap.size + 1 + 1) 0 2) := Hr2.out.thereAt
  have hch : Hid (Chg (w.heap.size + 1 + 1) w2 (w2.setCells (w.heap.size + 1 + 1) 0 (#[.int .i64 (N : Int), .slice p n c] : Array Value).toList)) := Lib.hid (chg_putL _ _ _ _ _ (Chg.refl _ w2))
  have Hr3 : Hid (Blk (w2.setCells (w.heap.size + 1 + 1) 0 (#[.int .i64 (N : Int), .slice p n c] : Array Value).toList) (w.heap.size + 1 + 1) #[.int .i64 (N : Int), .slice p n c] 27) := Lib.hid (blk_put_all Hr2.out _ rfl)
  have HB3 : Hid (Below w.heap.size w (w2.setCells (w.heap.size + 1 + 1) 0 (#[.int .i64 (N : Int), .slice p n c] : Array Value).toList)) := Lib.hid (below_put (by have := HWL.out; omega) _ _ _ _ HB2.out)
  have HZ3 := kzq HZ2 hch.out.size
  have Hc3 := kcq Hc2 hch (by have := HWL.out; omega)
  have Hm3 := kcq Hm2 hch (by have := HWL.out; omega)
  clear hch Hc2 Hm2 Hr2 HB2 HZ2
  refine wpList_store_mid rfl 27 (.tmp 6) (.tmp 21) rfl (w.heap.size + 1 + 1) 0 #[.int .i64 (N : Int), .slice p n c] rfl rfl HTH.out (infoC2 rfl) (all_oneCell_toArray (by intro u hu; simp at hu; rcases hu with rfl | rfl <;> rfl)) ?_
  generalize (w2.setCells (w.heap.size + 1 + 1) 0 (#[.int .i64 (N : Int), .slice p n c] : Array Value).toList) = W9n at *
  clear HTH
  go_wp2_with fail
  have hfr := Hr3.out
  refine bodyPost_ret (v := .tuple #[.agg #[.int .i64 (N : Int), .slice p n c], .slice none 0 0, .int .i64 110]) (by simp [results, Try.results7, go_sem, hfr.cell 0, hfr.cell 1]) rfl (by rw [HE.out]; exact ⟨p, n, c, none, 0, 0, W9n.heap.size, rfl, HKK.out.1, rfl, HZ3.out, (HRS.out.kept HB3.out).imp (fun b h => .inl h), SaidL.nil_ _ _, HB3.out⟩)
 ·skip
  have HFR : Hid (fro ≠ -1) := Lib.hid hf
  have hfb : (fro == -1) = false := by simpa using hf
  have hfn : (fro != -1) = true := by simpa using hf
  clear hf
  by_cases hk : y.m.k = 11
  ·skip
   have HKE : Hid (y.m.k = 11) := Lib.hid hk
   clear hk
   have HG := Lib.hid (byE_11 W)
   have c0 : W.cell? ⟨w.heap.size + 1, 0, none⟩ = some (.int .i64 11) := by have h := Hm0.out.cell 0; rw [← HKE.out]; exact h
   go_wp2_with fail
   refine HG.out.mono ?_
   rintro y9 w1 ⟨rfl, hb⟩
   clear HG c0
   have HWW : Hid (W.heap.size ≤ w1.heap.size) := Lib.hid hb.size
   have Hc1 := kbq Hc0 hb
   have Hm1 := kbq Hm0 hb
   have Hr1 := kbq Hr0 hb
   have HB1 := ktq HB0 hb
   have HZ1 := kzq HZ0 hb.size
   clear Hc0 Hm0 Hr0 HB0 HZ0
   clear hb
   by_cases hf0 : fro < 0
   ·skip
    have HE : Hid (doC N rs y.m fro = (rs, [], 140)) := Lib.hid (by unfold doC; rw [if_neg HFR.out, if_pos (by rw [HKE.out]; simp), if_pos (.inl hf0)])
    go_upto_region 7 with fail
    clear hf0 hfb hfn
    have a0 : w1.cell? ⟨w.heap.size, 0, none⟩ = some (.int .i64 (N : Int)) := Hc1.out.cell 0
    have a1 : w1.cell? ⟨w.heap.size, 1, none⟩ = some (.slice p n c) := Hc1.out.cell 1
    go_wp2_with (with_reducible refine stop_storeT 27 (.tmp 6) (.tmp 35) rfl ?_)
    clear a0 a1
    have HTH : Hid (w1.there (w.heap.size + 1 + 1) 0 2) := Hr1.out.thereAt
    have hch : Hid (Chg (w.heap.size + 1 + 1) w1 (w1.setCells (w.heap.size + 1 + 1) 0 (#[.int .i64 (N : Int), .slice p n c] : Array Value).toList)) := Lib.hid (chg_putL _ _ _ _ _ (Chg.refl _ w1))
    have Hr2 : Hid (Blk (w1.setCells (w.heap.size + 1 + 1) 0 (#[.int .i64 (N : Int), .slice p n c] : Array Value).toList) (w.heap.size + 1 + 1) #[.int .i64 (N : Int), .slice p n c] 27) := Lib.hid (blk_put_all Hr1.out _ rfl)
    have HB2 : Hid (Below w.heap.size w (w1.setCells (w.heap.size + 1 + 1) 0 (#[.int .i64 (N : Int), .slice p n c] : Array Value).toList)) := Lib.hid (below_put (by have := HWL.out; omega) _ _ _ _ HB1.out)
    have HZ2 := kzq HZ1 hch.out.size
    have Hc2 := kcq Hc1 hch (by have := HWL.out; omega)
    have Hm2 := kcq Hm1 hch (by have := HWL.out; omega)
    clear hch Hc1 Hm1 Hr1 HB1 HZ1
    refine wpList_store_mid rfl 27 (.tmp 6) (.tmp 35) rfl (w.heap.size + 1 + 1) 0 #[.int .i64 (N : Int), .slice p n c] rfl rfl HTH.out (infoC2 rfl) (all_oneCell_toArray (by intro u hu; simp at hu; rcases hu with rfl | rfl <;> rfl)) ?_
    generalize (w1.setCells (w.heap.size + 1 + 1) 0 (#[.int .i64 (N : Int), .slice p n c] : Array Value).toList) = W9f at *
    clear HTH
    go_wp2_with fail
    have hfr := Hr2.out
    refine bodyPost_ret (v := .tuple #[.agg #[.int .i64 (N : Int), .slice p n c], .slice none 0 0, .int .i64 140]) (by simp [results, Try.results7, go_sem, hfr.cell 0, hfr.cell 1]) rfl (by rw [HE.out]; exact ⟨p, n, c, none, 0, 0, W9f.heap.size, rfl, HKK.out.1, rfl, HZ2.out, (HRS.out.kept HB2.out).imp (fun b h => .inl h), SaidL.nil_ _ _, HB2.out⟩)
   obtain ⟨fn, hfq⟩ : ∃ fn : Nat, fro = fn := ⟨fro.toNat, by omega⟩
   subst hfq
   have HG := Lib.hid (entities_any w1 (N : Int) p n c (by omega) (by have := HNN.out; omega))
   have a0 : w1.cell? ⟨w.heap.size, 0, none⟩ = some (.int .i64 (N : Int)) := Hc1.out.cell 0
   have a1 : w1.cell? ⟨w.heap.size, 1, none⟩ = some (.slice p n c) := Hc1.out.cell 1
   go_wp2_with fail
   clear a0 a1 hf0 hfb hfn
   refine HG.out.mono ?_
   rintro y9 w3 ⟨rfl, hb⟩
   clear HG
   have HWW : Hid (W.heap.size ≤ w3.heap.size) := Lib.hid (Nat.le_trans HWW.out hb.size)
   have Hc2 := kbq Hc1 hb
   have Hm2 := kbq Hm1 hb
   have Hr2 := kbq Hr1 hb
   have HB2 := ktq HB1 hb
   have HZ2 := kzq HZ1 hb.size
   clear Hc1 Hm1 Hr1 HB1 HZ1
   clear hb
   by_cases hfN : N ≤ fn
   ·skip
    have hfI : (N : Int) ≤ (fn : Int) := by omega
    have HE : Hid (doC N rs y.m (fn : Int) = (rs, [], 140)) := Lib.hid (by unfold doC; rw [if_neg HFR.out, if_pos (by rw [HKE.out]; simp), if_pos (.inr hfI)])
    go_upto_region 7 with fail
    clear hfN hfI
    have a0 : w3.cell? ⟨w.heap.size, 0, none⟩ = some (.int .i64 (N : Int)) := Hc2.out.cell 0
    have a1 : w3.cell? ⟨w.heap.size, 1, none⟩ = some (.slice p n c) := Hc2.out.cell 1
    go_wp2_with (with_reducible refine stop_storeT 27 (.tmp 6) (.tmp 35) rfl ?_)
    clear a0 a1
    have HTH : Hid (w3.there (w.heap.size + 1 + 1) 0 2) := Hr2.out.thereAt
    have hch : Hid (Chg (w.heap.size + 1 + 1) w3 (w3.setCells (w.heap.size + 1 + 1) 0 (#[.int .i64 (N : Int), .slice p n c] : Array Value).toList)) := Lib.hid (chg_putL _ _ _ _ _ (Chg.refl _ w3))
    have Hr3 : Hid (Blk (w3.setCells (w.heap.size + 1 + 1) 0 (#[.int .i64 (N : Int), .slice p n c] : Array Value).toList) (w.heap.size + 1 + 1) #[.int .i64 (N : Int), .slice p n c] 27) := Lib.hid (blk_put_all Hr2.out _ rfl)
    have HB3 : Hid (Below w.heap.size w (w3.setCells (w.heap.size + 1 + 1) 0 (#[.int .i64 (N : Int), .slice p n c] : Array Value).toList)) := Lib.hid (below_put (by have := HWL.out; omega) _ _ _ _ HB2.out)
    have HZ3 := kzq HZ2 hch.out.size
    have Hc3 := kcq Hc2 hch (by have := HWL.out; omega)
    have Hm3 := kcq Hm2 hch (by have := HWL.out; omega)
    clear hch Hc2 Hm2 Hr2 HB2 HZ2
    refine wpList_store_mid rfl 27 (.tmp 6) (.tmp 35) rfl (w.heap.size + 1 + 1) 0 #[.int .i64 (N : Int), .slice p n c] rfl rfl HTH.out (infoC2 rfl) (all_oneCell_toArray (by intro u hu; simp at hu; rcases hu with rfl | rfl <;> rfl)) ?_
    generalize (w3.setCells (w.heap.size + 1 + 1) 0 (#[.int .i64 (N : Int), .slice p n c] : Array Value).toList) = W9g at *
    clear HTH
    go_wp2_with fail
    have hfr := Hr3.out
    refine bodyPost_ret (v := .tuple #[.agg #[.int .i64 (N : Int), .slice p n c], .slice none 0 0, .int .i64 140]) (by simp [results, Try.results7, go_sem, hfr.cell 0, hfr.cell 1]) rfl (by rw [HE.out]; exact ⟨p, n, c, none, 0, 0, W9g.heap.size, rfl, HKK.out.1, rfl, HZ3.out, (HRS.out.kept HB3.out).imp (fun b h => .inl h), SaidL.nil_ _ _, HB3.out⟩)
   have HFN : Hid (fn < N) := Lib.hid (by omega)
   have hfI : ¬ (N : Int) ≤ (fn : Int) := by omega
   clear hfN
   have c0 : w3.cell? ⟨w.heap.size + 1, 0, none⟩ = some (.int .i64 11) := by have h := Hm2.out.cell 0; rw [← HKE.out]; exact h
   have HG := Lib.hid (chas_any w3 (N : Int) y.m.y p n c)
   rw [show decide (1 ≤ y.m.y ∧ y.m.y ≤ (n : Int)) = hasB rs y.m.y by unfold hasB; rw [← HKK.out.1]] at HG
   obtain ⟨bh, hbh⟩ : ∃ bh, hasB rs y.m.y = bh := ⟨_, rfl⟩
   rw [hbh] at HG
   have HHS := Lib.hid hbh
   clear hbh
   have a0 : w3.cell? ⟨w.heap.size, 0, none⟩ = some (.int .i64 (N : Int)) := Hc2.out.cell 0
   have a1 : w3.cell? ⟨w.heap.size, 1, none⟩ = some (.slice p n c) := Hc2.out.cell 1
   have m6 : w3.cell? ⟨(w.heap.size + 1), 6, none⟩ = some (.int .i64 y.m.y) := Hm2.out.cell 6
   go_wp2_with fail
   clear a0 a1 m6 hfI
   refine HG.out.mono ?_
   rintro y9 w8 ⟨rfl, hb⟩
   clear HG c0
   have HWW : Hid (W.heap.size ≤ w8.heap.size) := Lib.hid (Nat.le_trans HWW.out hb.size)
   have Hc3 := kbq Hc2 hb
   have Hm3 := kbq Hm2 hb
   have Hr3 := kbq Hr2 hb
   have HB3 := ktq HB2 hb
   have HZ3 := kzq HZ2 hb.size
   clear Hc2 Hm2 Hr2 HB2 HZ2
   clear hb
   cases bh
   ·skip
    have HE : Hid (doC N rs y.m (fn : Int) = (rs, [], 4)) := Lib.hid (by unfold doC; rw [if_neg HFR.out, if_pos (by rw [HKE.out]; simp), if_neg (by have := HFN.out; omega), if_pos HHS.out])
    go_upto_region 9 with fail
    have a0 : w8.cell? ⟨w.heap.size, 0, none⟩ = some (.int .i64 (N : Int)) := Hc3.out.cell 0
    have a1 : w8.cell? ⟨w.heap.size, 1, none⟩ = some (.slice p n c) := Hc3.out.cell 1
    go_wp2_with (with_reducible refine stop_storeT 27 (.tmp 6) (.tmp 47) rfl ?_)
    clear a0 a1
    have HTH : Hid (w8.there (w.heap.size + 1 + 1) 0 2) := Hr3.out.thereAt
    have hch : Hid (Chg (w.heap.size + 1 + 1) w8 (w8.setCells (w.heap.size + 1 + 1) 0 (#[.int .i64 (N : Int), .slice p n c] : Array Value).toList)) := Lib.hid (chg_putL _ _ _ _ _ (Chg.refl _ w8))
    have Hr4 : Hid (Blk (w8.setCells (w.heap.size + 1 + 1) 0 (#[.int .i64 (N : Int), .slice p n c] : Array Value).toList) (w.heap.size + 1 + 1) #[.int .i64 (N : Int), .slice p n c] 27) := Lib.hid (blk_put_all Hr3.out _ rfl)
    have HB4 : Hid (Below w.heap.size w (w8.setCells (w.heap.size + 1 + 1) 0 (#[.int .i64 (N : Int), .slice p n c] : Array Value).toList)) := Lib.hid (below_put (by have := HWL.out; omega) _ _ _ _ HB3.out)
    have HZ4 := kzq HZ3 hch.out.size
    have Hc4 := kcq Hc3 hch (by have := HWL.out; omega)
    have Hm4 := kcq Hm3 hch (by have := HWL.out; omega)
    clear hch Hc3 Hm3 Hr3 HB3 HZ3
    refine wpList_store_mid rfl 27 (.tmp 6) (.tmp 47) rfl (w.heap.size + 1 + 1) 0 #[.int .i64 (N : Int), .slice p n c] rfl rfl HTH.out (infoC2 rfl) (all_oneCell_toArray (by intro u hu; simp at hu; rcases hu with rfl | rfl <;> rfl)) ?_
    generalize (w8.setCells (w.heap.size + 1 + 1) 0 (#[.int .i64 (N : Int), .slice p n c] : Array Value).toList) = W9h at *
    clear HTH
    go_wp2_with fail
    have hfr := Hr4.out
    refine bodyPost_ret (v := .tuple #[.agg #[.int .i64 (N : Int), .slice p n c], .slice none 0 0, .int .i64 4]) (by simp [results, Try.results7, go_sem, hfr.cell 0, hfr.cell 1]) rfl (by rw [HE.out]; exact ⟨p, n, c, none, 0, 0, W9h.heap.size, rfl, HKK.out.1, rfl, HZ4.out, (HRS.out.kept HB4.out).imp (fun b h => .inl h), SaidL.nil_ _ _, HB4.out⟩)
   ·skip
    obtain ⟨A, hA⟩ : ∃ A, offerC N rs y.m fn = A := ⟨_, rfl⟩
    have HE : Hid (doC N rs y.m (fn : Int) = A) := Lib.hid (by show _ = _; unfold doC; rw [if_neg HFR.out, if_pos (by rw [HKE.out]; simp), if_neg (by have := HFN.out; omega), if_neg (by rw [HHS.out]; decide), if_pos HKE.out, Int.toNat_natCast]; exact hA)
    go_upto_region 10 with fail
    have HGX : Hid (W.heap.size ≤ w8.heap.size) := Lib.hid (by have h1 := HWW.out; exact h1)
    have HG := Lib.hid (coffer_any w8 (fun b => P b ∨ (W.heap.size ≤ b ∧ b < w8.heap.size)) N p n c rs y fn ((HRS.out.kept HB3.out).imp (fun b h => .inl h)) (fun b h => h.elim (fun h1 => Nat.lt_of_lt_of_le (HPW.out b h1) HZ3.out) (fun h1 => h1.2)) HKK.out.1 (by have := HKK.out; omega) (of_hasB HHS.out HKK.out.1).1 (of_hasB HHS.out HKK.out.1).2 HNN.out.1 HNN.out.2 (fun r hr => (HOK.out r hr).1) HFN.out Pm (HY.out.kept HB3.out) HYL.out (fun r hr => (HOK.out r hr).2))
    unfold CP CPost Msg.v at HG
    rw [hA] at HG
    clear hA
    have a0 : w8.cell? ⟨w.heap.size, 0, none⟩ = some (.int .i64 (N : Int)) := Hc3.out.cell 0
    have a1 : w8.cell? ⟨w.heap.size, 1, none⟩ = some (.slice p n c) := Hc3.out.cell 1
    have m0 : w8.cell? ⟨(w.heap.size + 1), 0, none⟩ = some (.int .i64 y.m.k) := Hm3.out.cell 0
    have m1 : w8.cell? ⟨(w.heap.size + 1), 1, none⟩ = some (.int .i64 y.m.s) := Hm3.out.cell 1
    have m2 : w8.cell? ⟨(w.heap.size + 1), 2, none⟩ = some (.int .i64 y.m.n) := Hm3.out.cell 2
    have m3 : w8.cell? ⟨(w.heap.size + 1), 3, none⟩ = some (.int .i64 y.m.b) := Hm3.out.cell 3
    have m4 : w8.cell? ⟨(w.heap.size + 1), 4, none⟩ = some (.int .i64 y.m.c) := Hm3.out.cell 4
    have m5 : w8.cell? ⟨(w.heap.size + 1), 5, none⟩ = some (.int .i64 y.m.r) := Hm3.out.cell 5
    have m6 : w8.cell? ⟨(w.heap.size + 1), 6, none⟩ = some (.int .i64 y.m.y) := Hm3.out.cell 6
    have m7 : w8.cell? ⟨(w.heap.size + 1), 7, none⟩ = some (.int .i64 y.m.a) := Hm3.out.cell 7
    have m8 : w8.cell? ⟨(w.heap.size + 1), 8, none⟩ = some (.bool y.m.t) := Hm3.out.cell 8
    have m9 : w8.cell? ⟨(w.heap.size + 1), 9, none⟩ = some (.slice y.pl y.m.ls.length y.cl) := Hm3.out.cell 9
    have m10 : w8.cell? ⟨(w.heap.size + 1), 10, none⟩ = some (.slice y.pn y.m.ns.length y.cn) := Hm3.out.cell 10
    go_wp2_with fail
    clear a0 a1 m0 m1 m2 m3 m4 m5 m6 m7 m8 m9 m10
    refine HG.out.mono ?_
    rintro y9 w5 ⟨p3, n3, c3, pv3, nv3, cv3, B3, rfl, hn3, hnv3, hB3, hq3, hs3, hb⟩
    clear HG
    have HN3 := Lib.hid (And.intro hn3 hnv3)
    have HBB : Hid (w8.heap.size ≤ B3) := Lib.hid hB3
    have HQQ := Lib.hid hq3
    have HSS := Lib.hid hs3
    clear hn3 hnv3 hB3 hq3 hs3
    have Hc4 := kbq Hc3 hb
    have Hm4 := kbq Hm3 hb
    have Hr4 := kbq Hr3 hb
    have HB4 := ktq HB3 hb
    have HZ4 := kzq HZ3 hb.size
    clear Hc3 Hm3 Hr3 HB3 HZ3
    clear hb
    obtain ⟨rs3, out3, e3⟩ := A
    go_wp2_with (with_reducible refine stop_storeT 27 (.tmp 6) (.tmp 53) rfl ?_)
    have HTH : Hid (w5.there (w.heap.size + 1 + 1) 0 2) := Hr4.out.thereAt
    have hch : Hid (Chg (w.heap.size + 1 + 1) w5 (w5.setCells (w.heap.size + 1 + 1) 0 (#[.int .i64 (N : Int), .slice p3 n3 c3] : Array Value).toList)) := Lib.hid (chg_putL _ _ _ _ _ (Chg.refl _ w5))
    have Hr5 : Hid (Blk (w5.setCells (w.heap.size + 1 + 1) 0 (#[.int .i64 (N : Int), .slice p3 n3 c3] : Array Value).toList) (w.heap.size + 1 + 1) #[.int .i64 (N : Int), .slice p3 n3 c3] 27) := Lib.hid (blk_put_all Hr4.out _ rfl)
    have HB5 : Hid (Below w.heap.size w (w5.setCells (w.heap.size + 1 + 1) 0 (#[.int .i64 (N : Int), .slice p3 n3 c3] : Array Value).toList)) := Lib.hid (below_put (by have := HWL.out; omega) _ _ _ _ HB4.out)
    have HZ5 := kzq HZ4 hch.out.size
    have Hc5 := kcq Hc4 hch (by have := HWL.out; omega)
    have Hm5 := kcq Hm4 hch (by have := HWL.out; omega)
    have HST := Lib.hid (HSS.out.chgS hch.out (by have := HBB.out; have := HWL.out; have := HGX.out; omega))
    have HQR := Lib.hid ((HQQ.out.imp (Q := fun b => b ≠ w.heap.size + 1 + 1 ∧ (P b ∨ (w.heap.size ≤ b ∧ b < B3))) (fun b h => by
     have h5 := HBB.out
     have h6 := HWL.out
     have h7 := HGX.out
     rcases h with (h1 | h1) | h1
     ·have := HPW.out _ h1
      exact ⟨by omega, .inl h1⟩
     ·exact ⟨by omega, .inr (by omega)⟩
     ·exact ⟨by omega, .inr (by omega)⟩)).keepP (KeepP.of_chg hch.out (by rintro ⟨h, _⟩; exact h rfl)))
    clear HSS HQQ
    clear hch Hc4 Hm4 Hr4 HB4 HZ4
    refine wpList_store_mid rfl 27 (.tmp 6) (.tmp 53) rfl (w.heap.size + 1 + 1) 0 #[.int .i64 (N : Int), .slice p3 n3 c3] rfl rfl HTH.out (infoC2 rfl) (all_oneCell_toArray (by intro u hu; simp at hu; rcases hu with rfl | rfl <;> rfl)) ?_
    generalize (w5.setCells (w.heap.size + 1 + 1) 0 (#[.int .i64 (N : Int), .slice p3 n3 c3] : Array Value).toList) = W9d at *
    clear HTH
    go_wp2_with fail
    have hfr := Hr5.out
    refine bodyPost_ret (v := .tuple #[.agg #[.int .i64 (N : Int), .slice p3 n3 c3], .slice pv3 nv3 cv3, .int .i64 e3]) (by simp [results, Try.results7, go_sem, hfr.cell 0, hfr.cell 1]) rfl (by rw [HE.out]; exact ⟨p3, n3, c3, pv3, nv3, cv3, B3, rfl, HN3.out.1, HN3.out.2, by have := HBB.out; have := HWL.out; have := HGX.out; omega, HQR.out.imp (fun b h => h.2), HST.out, HB5.out⟩)
  have hk11 := hk
  clear hk
  by_cases hk : y.m.k = 13
  ·skip
   have HKE : Hid (y.m.k = 13) := Lib.hid hk
   clear hk
   have HG := Lib.hid (byE_13 W)
   have c0 : W.cell? ⟨w.heap.size + 1, 0, none⟩ = some (.int .i64 13) := by have h := Hm0.out.cell 0; rw [← HKE.out]; exact h
   go_wp2_with fail
   refine HG.out.mono ?_
   rintro y9 w1 ⟨rfl, hb⟩
   clear HG c0
   have HWW : Hid (W.heap.size ≤ w1.heap.size) := Lib.hid hb.size
   have Hc1 := kbq Hc0 hb
   have Hm1 := kbq Hm0 hb
   have Hr1 := kbq Hr0 hb
   have HB1 := ktq HB0 hb
   have HZ1 := kzq HZ0 hb.size
   clear Hc0 Hm0 Hr0 HB0 HZ0
   clear hb
   by_cases hf0 : fro < 0
   ·skip
    have HE : Hid (doC N rs y.m fro = (rs, [], 140)) := Lib.hid (by unfold doC; rw [if_neg HFR.out, if_pos (by rw [HKE.out]; simp), if_pos (.inl hf0)])
    go_upto_region 7 with fail
    clear hf0 hfb hfn
    have a0 : w1.cell? ⟨w.heap.size, 0, none⟩ = some (.int .i64 (N : Int)) := Hc1.out.cell 0
    have a1 : w1.cell? ⟨w.heap.size, 1, none⟩ = some (.slice p n c) := Hc1.out.cell 1
    go_wp2_with (with_reducible refine stop_storeT 27 (.tmp 6) (.tmp 35) rfl ?_)
    clear a0 a1
    have HTH : Hid (w1.there (w.heap.size + 1 + 1) 0 2) := Hr1.out.thereAt
    have hch : Hid (Chg (w.heap.size + 1 + 1) w1 (w1.setCells (w.heap.size + 1 + 1) 0 (#[.int .i64 (N : Int), .slice p n c] : Array Value).toList)) := Lib.hid (chg_putL _ _ _ _ _ (Chg.refl _ w1))
    have Hr2 : Hid (Blk (w1.setCells (w.heap.size + 1 + 1) 0 (#[.int .i64 (N : Int), .slice p n c] : Array Value).toList) (w.heap.size + 1 + 1) #[.int .i64 (N : Int), .slice p n c] 27) := Lib.hid (blk_put_all Hr1.out _ rfl)
    have HB2 : Hid (Below w.heap.size w (w1.setCells (w.heap.size + 1 + 1) 0 (#[.int .i64 (N : Int), .slice p n c] : Array Value).toList)) := Lib.hid (below_put (by have := HWL.out; omega) _ _ _ _ HB1.out)
    have HZ2 := kzq HZ1 hch.out.size
    have Hc2 := kcq Hc1 hch (by have := HWL.out; omega)
    have Hm2 := kcq Hm1 hch (by have := HWL.out; omega)
    clear hch Hc1 Hm1 Hr1 HB1 HZ1
    refine wpList_store_mid rfl 27 (.tmp 6) (.tmp 35) rfl (w.heap.size + 1 + 1) 0 #[.int .i64 (N : Int), .slice p n c] rfl rfl HTH.out (infoC2 rfl) (all_oneCell_toArray (by intro u hu; simp at hu; rcases hu with rfl | rfl <;> rfl)) ?_
    generalize (w1.setCells (w.heap.size + 1 + 1) 0 (#[.int .i64 (N : Int), .slice p n c] : Array Value).toList) = W9f at *
    clear HTH
    go_wp2_with fail
    have hfr := Hr2.out
    refine bodyPost_ret (v := .tuple #[.agg #[.int .i64 (N : Int), .slice p n c], .slice none 0 0, .int .i64 140]) (by simp [results, Try.results7, go_sem, hfr.cell 0, hfr.cell 1]) rfl (by rw [HE.out]; exact ⟨p, n, c, none, 0, 0, W9f.heap.size, rfl, HKK.out.1, rfl, HZ2.out, (HRS.out.kept HB2.out).imp (fun b h => .inl h), SaidL.nil_ _ _, HB2.out⟩)
   obtain ⟨fn, hfq⟩ : ∃ fn : Nat, fro = fn := ⟨fro.toNat, by omega⟩
   subst hfq
   have HG := Lib.hid (entities_any w1 (N : Int) p n c (by omega) (by have := HNN.out; omega))
   have a0 : w1.cell? ⟨w.heap.size, 0, none⟩ = some (.int .i64 (N : Int)) := Hc1.out.cell 0
   have a1 : w1.cell? ⟨w.heap.size, 1, none⟩ = some (.slice p n c) := Hc1.out.cell 1
   go_wp2_with fail
   clear a0 a1 hf0 hfb hfn
   refine HG.out.mono ?_
   rintro y9 w3 ⟨rfl, hb⟩
   clear HG
   have HWW : Hid (W.heap.size ≤ w3.heap.size) := Lib.hid (Nat.le_trans HWW.out hb.size)
   have Hc2 := kbq Hc1 hb
   have Hm2 := kbq Hm1 hb
   have Hr2 := kbq Hr1 hb
   have HB2 := ktq HB1 hb
   have HZ2 := kzq HZ1 hb.size
   clear Hc1 Hm1 Hr1 HB1 HZ1
   clear hb
   by_cases hfN : N ≤ fn
   ·skip
    have hfI : (N : Int) ≤ (fn : Int) := by omega
    have HE : Hid (doC N rs y.m (fn : Int) = (rs, [], 140)) := Lib.hid (by unfold doC; rw [if_neg HFR.out, if_pos (by rw [HKE.out]; simp), if_pos (.inr hfI)])
    go_upto_region 7 with fail
    clear hfN hfI
    have a0 : w3.cell? ⟨w.heap.size, 0, none⟩ = some (.int .i64 (N : Int)) := Hc2.out.cell 0
    have a1 : w3.cell? ⟨w.heap.size, 1, none⟩ = some (.slice p n c) := Hc2.out.cell 1
    go_wp2_with (with_reducible refine stop_storeT 27 (.tmp 6) (.tmp 35) rfl ?_)
    clear a0 a1
    have HTH : Hid (w3.there (w.heap.size + 1 + 1) 0 2) := Hr2.out.thereAt
    have hch : Hid (Chg (w.heap.size + 1 + 1) w3 (w3.setCells (w.heap.size + 1 + 1) 0 (#[.int .i64 (N : Int), .slice p n c] : Array Value).toList)) := Lib.hid (chg_putL _ _ _ _ _ (Chg.refl _ w3))
    have Hr3 : Hid (Blk (w3.setCells (w.heap.size + 1 + 1) 0 (#[.int .i64 (N : Int), .slice p n c] : Array Value).toList) (w.heap.size + 1 + 1) #[.int .i64 (N : Int), .slice p n c] 27) := Lib.hid (blk_put_all Hr2.out _ rfl)
    have HB3 : Hid (Below w.heap.size w (w3.setCells (w.heap.size + 1 + 1) 0 (#[.int .i64 (N : Int), .slice p n c] : Array Value).toList)) := Lib.hid (below_put (by have := HWL.out; omega) _ _ _ _ HB2.out)
    have HZ3 := kzq HZ2 hch.out.size
    have Hc3 := kcq Hc2 hch (by have := HWL.out; omega)
    have Hm3 := kcq Hm2 hch (by have := HWL.out; omega)
    clear hch Hc2 Hm2 Hr2 HB2 HZ2
    refine wpList_store_mid rfl 27 (.tmp 6) (.tmp 35) rfl (w.heap.size + 1 + 1) 0 #[.int .i64 (N : Int), .slice p n c] rfl rfl HTH.out (infoC2 rfl) (all_oneCell_toArray (by intro u hu; simp at hu; rcases hu with rfl | rfl <;> rfl)) ?_
    generalize (w3.setCells (w.heap.size + 1 + 1) 0 (#[.int .i64 (N : Int), .slice p n c] : Array Value).toList) = W9g at *
    clear HTH
    go_wp2_with fail
    have hfr := Hr3.out
    refine bodyPost_ret (v := .tuple #[.agg #[.int .i64 (N : Int), .slice p n c], .slice none 0 0, .int .i64 140]) (by simp [results, Try.results7, go_sem, hfr.cell 0, hfr.cell 1]) rfl (by rw [HE.out]; exact ⟨p, n, c, none, 0, 0, W9g.heap.size, rfl, HKK.out.1, rfl, HZ3.out, (HRS.out.kept HB3.out).imp (fun b h => .inl h), SaidL.nil_ _ _, HB3.out⟩)
   have HFN : Hid (fn < N) := Lib.hid (by omega)
   have hfI : ¬ (N : Int) ≤ (fn : Int) := by omega
   clear hfN
   have c0 : w3.cell? ⟨w.heap.size + 1, 0, none⟩ = some (.int .i64 13) := by have h := Hm2.out.cell 0; rw [← HKE.out]; exact h
   have HG := Lib.hid (chas_any w3 (N : Int) y.m.y p n c)
   rw [show decide (1 ≤ y.m.y ∧ y.m.y ≤ (n : Int)) = hasB rs y.m.y by unfold hasB; rw [← HKK.out.1]] at HG
   obtain ⟨bh, hbh⟩ : ∃ bh, hasB rs y.m.y = bh := ⟨_, rfl⟩
   rw [hbh] at HG
   have HHS := Lib.hid hbh
   clear hbh
   have a0 : w3.cell? ⟨w.heap.size, 0, none⟩ = some (.int .i64 (N : Int)) := Hc2.out.cell 0
   have a1 : w3.cell? ⟨w.heap.size, 1, none⟩ = some (.slice p n c) := Hc2.out.cell 1
   have m6 : w3.cell? ⟨(w.heap.size + 1), 6, none⟩ = some (.int .i64 y.m.y) := Hm2.out.cell 6
   go_wp2_with fail
   clear a0 a1 m6 hfI
   refine HG.out.mono ?_
   rintro y9 w8 ⟨rfl, hb⟩
   clear HG c0
   have HWW : Hid (W.heap.size ≤ w8.heap.size) := Lib.hid (Nat.le_trans HWW.out hb.size)
   have Hc3 := kbq Hc2 hb
   have Hm3 := kbq Hm2 hb
   have Hr3 := kbq Hr2 hb
   have HB3 := ktq HB2 hb
   have HZ3 := kzq HZ2 hb.size
   clear Hc2 Hm2 Hr2 HB2 HZ2
   clear hb
   cases bh
   ·skip
    have HE : Hid (doC N rs y.m (fn : Int) = (rs, [], 4)) := Lib.hid (by unfold doC; rw [if_neg HFR.out, if_pos (by rw [HKE.out]; simp), if_neg (by have := HFN.out; omega), if_pos HHS.out])
    go_upto_region 9 with fail
    have a0 : w8.cell? ⟨w.heap.size, 0, none⟩ = some (.int .i64 (N : Int)) := Hc3.out.cell 0
    have a1 : w8.cell? ⟨w.heap.size, 1, none⟩ = some (.slice p n c) := Hc3.out.cell 1
    go_wp2_with (with_reducible refine stop_storeT 27 (.tmp 6) (.tmp 47) rfl ?_)
    clear a0 a1
    have HTH : Hid (w8.there (w.heap.size + 1 + 1) 0 2) := Hr3.out.thereAt
    have hch : Hid (Chg (w.heap.size + 1 + 1) w8 (w8.setCells (w.heap.size + 1 + 1) 0 (#[.int .i64 (N : Int), .slice p n c] : Array Value).toList)) := Lib.hid (chg_putL _ _ _ _ _ (Chg.refl _ w8))
    have Hr4 : Hid (Blk (w8.setCells (w.heap.size + 1 + 1) 0 (#[.int .i64 (N : Int), .slice p n c] : Array Value).toList) (w.heap.size + 1 + 1) #[.int .i64 (N : Int), .slice p n c] 27) := Lib.hid (blk_put_all Hr3.out _ rfl)
    have HB4 : Hid (Below w.heap.size w (w8.setCells (w.heap.size + 1 + 1) 0 (#[.int .i64 (N : Int), .slice p n c] : Array Value).toList)) := Lib.hid (below_put (by have := HWL.out; omega) _ _ _ _ HB3.out)
    have HZ4 := kzq HZ3 hch.out.size
    have Hc4 := kcq Hc3 hch (by have := HWL.out; omega)
    have Hm4 := kcq Hm3 hch (by have := HWL.out; omega)
    clear hch Hc3 Hm3 Hr3 HB3 HZ3
    refine wpList_store_mid rfl 27 (.tmp 6) (.tmp 47) rfl (w.heap.size + 1 + 1) 0 #[.int .i64 (N : Int), .slice p n c] rfl rfl HTH.out (infoC2 rfl) (all_oneCell_toArray (by intro u hu; simp at hu; rcases hu with rfl | rfl <;> rfl)) ?_
    generalize (w8.setCells (w.heap.size + 1 + 1) 0 (#[.int .i64 (N : Int), .slice p n c] : Array Value).toList) = W9h at *
    clear HTH
    go_wp2_with fail
    have hfr := Hr4.out
    refine bodyPost_ret (v := .tuple #[.agg #[.int .i64 (N : Int), .slice p n c], .slice none 0 0, .int .i64 4]) (by simp [results, Try.results7, go_sem, hfr.cell 0, hfr.cell 1]) rfl (by rw [HE.out]; exact ⟨p, n, c, none, 0, 0, W9h.heap.size, rfl, HKK.out.1, rfl, HZ4.out, (HRS.out.kept HB4.out).imp (fun b h => .inl h), SaidL.nil_ _ _, HB4.out⟩)
   ·skip
    obtain ⟨A, hA⟩ : ∃ A, voteC N rs y.m fn = A := ⟨_, rfl⟩
    have HE : Hid (doC N rs y.m (fn : Int) = A) := Lib.hid (by show _ = _; unfold doC; rw [if_neg HFR.out, if_pos (by rw [HKE.out]; simp), if_neg (by have := HFN.out; omega), if_neg (by rw [HHS.out]; decide), if_neg (by rw [HKE.out]; decide), if_pos HKE.out, Int.toNat_natCast]; exact hA)
    go_upto_region 10 with fail
    have HGX : Hid (W.heap.size ≤ w8.heap.size) := Lib.hid (by have h1 := HWW.out; exact h1)
    have HG := Lib.hid (cvote_any w8 (fun b => P b ∨ (W.heap.size ≤ b ∧ b < w8.heap.size)) N p n c rs y fn ((HRS.out.kept HB3.out).imp (fun b h => .inl h)) (fun b h => h.elim (fun h1 => Nat.lt_of_lt_of_le (HPW.out b h1) HZ3.out) (fun h1 => h1.2)) HKK.out.1 (by have := HKK.out; omega) (of_hasB HHS.out HKK.out.1).1 (of_hasB HHS.out HKK.out.1).2 HNN.out.1 HNN.out.2 (fun r hr => (HOK.out r hr).1) HFN.out)
    unfold CP CPost Msg.v at HG
    rw [hA] at HG
    clear hA
    have a0 : w8.cell? ⟨w.heap.size, 0, none⟩ = some (.int .i64 (N : Int)) := Hc3.out.cell 0
    have a1 : w8.cell? ⟨w.heap.size, 1, none⟩ = some (.slice p n c) := Hc3.out.cell 1
    have m0 : w8.cell? ⟨(w.heap.size + 1), 0, none⟩ = some (.int .i64 y.m.k) := Hm3.out.cell 0
    have m1 : w8.cell? ⟨(w.heap.size + 1), 1, none⟩ = some (.int .i64 y.m.s) := Hm3.out.cell 1
    have m2 : w8.cell? ⟨(w.heap.size + 1), 2, none⟩ = some (.int .i64 y.m.n) := Hm3.out.cell 2
    have m3 : w8.cell? ⟨(w.heap.size + 1), 3, none⟩ = some (.int .i64 y.m.b) := Hm3.out.cell 3
    have m4 : w8.cell? ⟨(w.heap.size + 1), 4, none⟩ = some (.int .i64 y.m.c) := Hm3.out.cell 4
    have m5 : w8.cell? ⟨(w.heap.size + 1), 5, none⟩ = some (.int .i64 y.m.r) := Hm3.out.cell 5
    have m6 : w8.cell? ⟨(w.heap.size + 1), 6, none⟩ = some (.int .i64 y.m.y) := Hm3.out.cell 6
    have m7 : w8.cell? ⟨(w.heap.size + 1), 7, none⟩ = some (.int .i64 y.m.a) := Hm3.out.cell 7
    have m8 : w8.cell? ⟨(w.heap.size + 1), 8, none⟩ = some (.bool y.m.t) := Hm3.out.cell 8
    have m9 : w8.cell? ⟨(w.heap.size + 1), 9, none⟩ = some (.slice y.pl y.m.ls.length y.cl) := Hm3.out.cell 9
    have m10 : w8.cell? ⟨(w.heap.size + 1), 10, none⟩ = some (.slice y.pn y.m.ns.length y.cn) := Hm3.out.cell 10
    go_wp2_with fail
    clear a0 a1 m0 m1 m2 m3 m4 m5 m6 m7 m8 m9 m10
    refine HG.out.mono ?_
    rintro y9 w5 ⟨p3, n3, c3, pv3, nv3, cv3, B3, rfl, hn3, hnv3, hB3, hq3, hs3, hb⟩
    clear HG
    have HN3 := Lib.hid (And.intro hn3 hnv3)
    have HBB : Hid (w8.heap.size ≤ B3) := Lib.hid hB3
    have HQQ := Lib.hid hq3
    have HSS := Lib.hid hs3
    clear hn3 hnv3 hB3 hq3 hs3
    have Hc4 := kbq Hc3 hb
    have Hm4 := kbq Hm3 hb
    have Hr4 := kbq Hr3 hb
    have HB4 := ktq HB3 hb
    have HZ4 := kzq HZ3 hb.size
    clear Hc3 Hm3 Hr3 HB3 HZ3
    clear hb
    obtain ⟨rs3, out3, e3⟩ := A
    go_wp2_with (with_reducible refine stop_storeT 27 (.tmp 6) (.tmp 53) rfl ?_)
    have HTH : Hid (w5.there (w.heap.size + 1 + 1) 0 2) := Hr4.out.thereAt
    have hch : Hid (Chg (w.heap.size + 1 + 1) w5 (w5.setCells (w.heap.size + 1 + 1) 0 (#[.int .i64 (N : Int), .slice p3 n3 c3] : Array Value).toList)) := Lib.hid (chg_putL _ _ _ _ _ (Chg.refl _ w5))
    have Hr5 : Hid (Blk (w5.setCells (w.heap.size + 1 + 1) 0 (#[.int .i64 (N : Int), .slice p3 n3 c3] : Array Value).toList) (w.heap.size + 1 + 1) #[.int .i64 (N : Int), .slice p3 n3 c3] 27) := Lib.hid (blk_put_all Hr4.out _ rfl)
    have HB5 : Hid (Below w.heap.size w (w5.setCells (w.heap.size + 1 + 1) 0 (#[.int .i64 (N : Int), .slice p3 n3 c3] : Array Value).toList)) := Lib.hid (below_put (by have := HWL.out; omega) _ _ _ _ HB4.out)
    have HZ5 := kzq HZ4 hch.out.size
    have Hc5 := kcq Hc4 hch (by have := HWL.out; omega)
    have Hm5 := kcq Hm4 hch (by have := HWL.out; omega)
    have HST := Lib.hid (HSS.out.chgS hch.out (by have := HBB.out; have := HWL.out; have := HGX.out; omega))
    have HQR := Lib.hid ((HQQ.out.imp (Q := fun b => b ≠ w.heap.size + 1 + 1 ∧ (P b ∨ (w.heap.size ≤ b ∧ b < B3))) (fun b h => by
     have h5 := HBB.out
     have h6 := HWL.out
     have h7 := HGX.out
     rcases h with (h1 | h1) | h1
     ·have := HPW.out _ h1
      exact ⟨by omega, .inl h1⟩
     ·exact ⟨by omega, .inr (by omega)⟩
     ·exact ⟨by omega, .inr (by omega)⟩)).keepP (KeepP.of_chg hch.out (by rintro ⟨h, _⟩; exact h rfl)))
    clear HSS HQQ
    clear hch Hc4 Hm4 Hr4 HB4 HZ4
    refine wpList_store_mid rfl 27 (.tmp 6) (.tmp 53) rfl (w.heap.size + 1 + 1) 0 #[.int .i64 (N : Int), .slice p3 n3 c3] rfl rfl HTH.out (infoC2 rfl) (all_oneCell_toArray (by intro u hu; simp at hu; rcases hu with rfl | rfl <;> rfl)) ?_
    generalize (w5.setCells (w.heap.size + 1 + 1) 0 (#[.int .i64 (N : Int), .slice p3 n3 c3] : Array Value).toList) = W9d at *
    clear HTH
    go_wp2_with fail
    have hfr := Hr5.out
    refine bodyPost_ret (v := .tuple #[.agg #[.int .i64 (N : Int), .slice p3 n3 c3], .slice pv3 nv3 cv3, .int .i64 e3]) (by simp [results, Try.results7, go_sem, hfr.cell 0, hfr.cell 1]) rfl (by rw [HE.out]; exact ⟨p3, n3, c3, pv3, nv3, cv3, B3, rfl, HN3.out.1, HN3.out.2, by have := HBB.out; have := HWL.out; have := HGX.out; omega, HQR.out.imp (fun b h => h.2), HST.out, HB5.out⟩)
  have hk13 := hk
  clear hk
  by_cases hk : y.m.k = 15
  ·skip
   have HKE : Hid (y.m.k = 15) := Lib.hid hk
   clear hk
   have HG := Lib.hid (byE_15 W)
   have c0 : W.cell? ⟨w.heap.size + 1, 0, none⟩ = some (.int .i64 15) := by have h := Hm0.out.cell 0; rw [← HKE.out]; exact h
   go_wp2_with fail
   refine HG.out.mono ?_
   rintro y9 w1 ⟨rfl, hb⟩
   clear HG c0
   have HWW : Hid (W.heap.size ≤ w1.heap.size) := Lib.hid hb.size
   have Hc1 := kbq Hc0 hb
   have Hm1 := kbq Hm0 hb
   have Hr1 := kbq Hr0 hb
   have HB1 := ktq HB0 hb
   have HZ1 := kzq HZ0 hb.size
   clear Hc0 Hm0 Hr0 HB0 HZ0
   clear hb
   by_cases hf0 : fro < 0
   ·skip
    have HE : Hid (doC N rs y.m fro = (rs, [], 140)) := Lib.hid (by unfold doC; rw [if_neg HFR.out, if_pos (by rw [HKE.out]; simp), if_pos (.inl hf0)])
    go_upto_region 7 with fail
    clear hf0 hfb hfn
    have a0 : w1.cell? ⟨w.heap.size, 0, none⟩ = some (.int .i64 (N : Int)) := Hc1.out.cell 0
    have a1 : w1.cell? ⟨w.heap.size, 1, none⟩ = some (.slice p n c) := Hc1.out.cell 1
    go_wp2_with (with_reducible refine stop_storeT 27 (.tmp 6) (.tmp 35) rfl ?_)
    clear a0 a1
    have HTH : Hid (w1.there (w.heap.size + 1 + 1) 0 2) := Hr1.out.thereAt
    have hch : Hid (Chg (w.heap.size + 1 + 1) w1 (w1.setCells (w.heap.size + 1 + 1) 0 (#[.int .i64 (N : Int), .slice p n c] : Array Value).toList)) := Lib.hid (chg_putL _ _ _ _ _ (Chg.refl _ w1))
    have Hr2 : Hid (Blk (w1.setCells (w.heap.size + 1 + 1) 0 (#[.int .i64 (N : Int), .slice p n c] : Array Value).toList) (w.heap.size + 1 + 1) #[.int .i64 (N : Int), .slice p n c] 27) := Lib.hid (blk_put_all Hr1.out _ rfl)
    have HB2 : Hid (Below w.heap.size w (w1.setCells (w.heap.size + 1 + 1) 0 (#[.int .i64 (N : Int), .slice p n c] : Array Value).toList)) := Lib.hid (below_put (by have := HWL.out; omega) _ _ _ _ HB1.out)
    have HZ2 := kzq HZ1 hch.out.size
    have Hc2 := kcq Hc1 hch (by have := HWL.out; omega)
    have Hm2 := kcq Hm1 hch (by have := HWL.out; omega)
    clear hch Hc1 Hm1 Hr1 HB1 HZ1
    refine wpList_store_mid rfl 27 (.tmp 6) (.tmp 35) rfl (w.heap.size + 1 + 1) 0 #[.int .i64 (N : Int), .slice p n c] rfl rfl HTH.out (infoC2 rfl) (all_oneCell_toArray (by intro u hu; simp at hu; rcases hu with rfl | rfl <;> rfl)) ?_
    generalize (w1.setCells (w.heap.size + 1 + 1) 0 (#[.int .i64 (N : Int), .slice p n c] : Array Value).toList) = W9f at *
    clear HTH
    go_wp2_with fail
    have hfr := Hr2.out
    refine bodyPost_ret (v := .tuple #[.agg #[.int .i64 (N : Int), .slice p n c], .slice none 0 0, .int .i64 140]) (by simp [results, Try.results7, go_sem, hfr.cell 0, hfr.cell 1]) rfl (by rw [HE.out]; exact ⟨p, n, c, none, 0, 0, W9f.heap.size, rfl, HKK.out.1, rfl, HZ2.out, (HRS.out.kept HB2.out).imp (fun b h => .inl h), SaidL.nil_ _ _, HB2.out⟩)
   obtain ⟨fn, hfq⟩ : ∃ fn : Nat, fro = fn := ⟨fro.toNat, by omega⟩
   subst hfq
   have HG := Lib.hid (entities_any w1 (N : Int) p n c (by omega) (by have := HNN.out; omega))
   have a0 : w1.cell? ⟨w.heap.size, 0, none⟩ = some (.int .i64 (N : Int)) := Hc1.out.cell 0
   have a1 : w1.cell? ⟨w.heap.size, 1, none⟩ = some (.slice p n c) := Hc1.out.cell 1
   go_wp2_with fail
   clear a0 a1 hf0 hfb hfn
   refine HG.out.mono ?_
   rintro y9 w3 ⟨rfl, hb⟩
   clear HG
   have HWW : Hid (W.heap.size ≤ w3.heap.size) := Lib.hid (Nat.le_trans HWW.out hb.size)
   have Hc2 := kbq Hc1 hb
   have Hm2 := kbq Hm1 hb
   have Hr2 := kbq Hr1 hb
   have HB2 := ktq HB1 hb
   have HZ2 := kzq HZ1 hb.size
   clear Hc1 Hm1 Hr1 HB1 HZ1
   clear hb
   by_cases hfN : N ≤ fn
   ·skip
    have hfI : (N : Int) ≤ (fn : Int) := by omega
    have HE : Hid (doC N rs y.m (fn : Int) = (rs, [], 140)) := Lib.hid (by unfold doC; rw [if_neg HFR.out, if_pos (by rw [HKE.out]; simp), if_pos (.inr hfI)])
    go_upto_region 7 with fail
    clear hfN hfI
    have a0 : w3.cell? ⟨w.heap.size, 0, none⟩ = some (.int .i64 (N : Int)) := Hc2.out.cell 0
    have a1 : w3.cell? ⟨w.heap.size, 1, none⟩ = some (.slice p n c) := Hc2.out.cell 1
    go_wp2_with (with_reducible refine stop_storeT 27 (.tmp 6) (.tmp 35) rfl ?_)
    clear a0 a1
    have HTH : Hid (w3.there (w.heap.size + 1 + 1) 0 2) := Hr2.out.thereAt
    have hch : Hid (Chg (w.heap.size + 1 + 1) w3 (w3.setCells (w.heap.size + 1 + 1) 0 (#[.int .i64 (N : Int), .slice p n c] : Array Value).toList)) := Lib.hid (chg_putL _ _ _ _ _ (Chg.refl _ w3))
    have Hr3 : Hid (Blk (w3.setCells (w.heap.size + 1 + 1) 0 (#[.int .i64 (N : Int), .slice p n c] : Array Value).toList) (w.heap.size + 1 + 1) #[.int .i64 (N : Int), .slice p n c] 27) := Lib.hid (blk_put_all Hr2.out _ rfl)
    have HB3 : Hid (Below w.heap.size w (w3.setCells (w.heap.size + 1 + 1) 0 (#[.int .i64 (N : Int), .slice p n c] : Array Value).toList)) := Lib.hid (below_put (by have := HWL.out; omega) _ _ _ _ HB2.out)
    have HZ3 := kzq HZ2 hch.out.size
    have Hc3 := kcq Hc2 hch (by have := HWL.out; omega)
    have Hm3 := kcq Hm2 hch (by have := HWL.out; omega)
    clear hch Hc2 Hm2 Hr2 HB2 HZ2
    refine wpList_store_mid rfl 27 (.tmp 6) (.tmp 35) rfl (w.heap.size + 1 + 1) 0 #[.int .i64 (N : Int), .slice p n c] rfl rfl HTH.out (infoC2 rfl) (all_oneCell_toArray (by intro u hu; simp at hu; rcases hu with rfl | rfl <;> rfl)) ?_
    generalize (w3.setCells (w.heap.size + 1 + 1) 0 (#[.int .i64 (N : Int), .slice p n c] : Array Value).toList) = W9g at *
    clear HTH
    go_wp2_with fail
    have hfr := Hr3.out
    refine bodyPost_ret (v := .tuple #[.agg #[.int .i64 (N : Int), .slice p n c], .slice none 0 0, .int .i64 140]) (by simp [results, Try.results7, go_sem, hfr.cell 0, hfr.cell 1]) rfl (by rw [HE.out]; exact ⟨p, n, c, none, 0, 0, W9g.heap.size, rfl, HKK.out.1, rfl, HZ3.out, (HRS.out.kept HB3.out).imp (fun b h => .inl h), SaidL.nil_ _ _, HB3.out⟩)
   have HFN : Hid (fn < N) := Lib.hid (by omega)
   have hfI : ¬ (N : Int) ≤ (fn : Int) := by omega
   clear hfN
   have c0 : w3.cell? ⟨w.heap.size + 1, 0, none⟩ = some (.int .i64 15) := by have h := Hm2.out.cell 0; rw [← HKE.out]; exact h
   have HG := Lib.hid (chas_any w3 (N : Int) y.m.y p n c)
   rw [show decide (1 ≤ y.m.y ∧ y.m.y ≤ (n : Int)) = hasB rs y.m.y by unfold hasB; rw [← HKK.out.1]] at HG
   obtain ⟨bh, hbh⟩ : ∃ bh, hasB rs y.m.y = bh := ⟨_, rfl⟩
   rw [hbh] at HG
   have HHS := Lib.hid hbh
   clear hbh
   have a0 : w3.cell? ⟨w.heap.size, 0, none⟩ = some (.int .i64 (N : Int)) := Hc2.out.cell 0
   have a1 : w3.cell? ⟨w.heap.size, 1, none⟩ = some (.slice p n c) := Hc2.out.cell 1
   have m6 : w3.cell? ⟨(w.heap.size + 1), 6, none⟩ = some (.int .i64 y.m.y) := Hm2.out.cell 6
   go_wp2_with fail
   clear a0 a1 m6 hfI
   refine HG.out.mono ?_
   rintro y9 w8 ⟨rfl, hb⟩
   clear HG c0
   have HWW : Hid (W.heap.size ≤ w8.heap.size) := Lib.hid (Nat.le_trans HWW.out hb.size)
   have Hc3 := kbq Hc2 hb
   have Hm3 := kbq Hm2 hb
   have Hr3 := kbq Hr2 hb
   have HB3 := ktq HB2 hb
   have HZ3 := kzq HZ2 hb.size
   clear Hc2 Hm2 Hr2 HB2 HZ2
   clear hb
   cases bh
   ·skip
    have HE : Hid (doC N rs y.m (fn : Int) = (rs, [], 4)) := Lib.hid (by unfold doC; rw [if_neg HFR.out, if_pos (by rw [HKE.out]; simp), if_neg (by have := HFN.out; omega), if_pos HHS.out])
    go_upto_region 9 with fail
    have a0 : w8.cell? ⟨w.heap.size, 0, none⟩ = some (.int .i64 (N : Int)) := Hc3.out.cell 0
    have a1 : w8.cell? ⟨w.heap.size, 1, none⟩ = some (.slice p n c) := Hc3.out.cell 1
    go_wp2_with (with_reducible refine stop_storeT 27 (.tmp 6) (.tmp 47) rfl ?_)
    clear a0 a1
    have HTH : Hid (w8.there (w.heap.size + 1 + 1) 0 2) := Hr3.out.thereAt
    have hch : Hid (Chg (w.heap.size + 1 + 1) w8 (w8.setCells (w.heap.size + 1 + 1) 0 (#[.int .i64 (N : Int), .slice p n c] : Array Value).toList)) := Lib.hid (chg_putL _ _ _ _ _ (Chg.refl _ w8))
    have Hr4 : Hid (Blk (w8.setCells (w.heap.size + 1 + 1) 0 (#[.int .i64 (N : Int), .slice p n c] : Array Value).toList) (w.heap.size + 1 + 1) #[.int .i64 (N : Int), .slice p n c] 27) := Lib.hid (blk_put_all Hr3.out _ rfl)
    have HB4 : Hid (Below w.heap.size w (w8.setCells (w.heap.size + 1 + 1) 0 (#[.int .i64 (N : Int), .slice p n c] : Array Value).toList)) := Lib.hid (below_put (by have := HWL.out; omega) _ _ _ _ HB3.out)
    have HZ4 := kzq HZ3 hch.out.size
    have Hc4 := kcq Hc3 hch (by have := HWL.out; omega)
    have Hm4 := kcq Hm3 hch (by have := HWL.out; omega)
    clear hch Hc3 Hm3 Hr3 HB3 HZ3
    refine wpList_store_mid rfl 27 (.tmp 6) (.tmp 47) rfl (w.heap.size + 1 + 1) 0 #[.int .i64 (N : Int), .slice p n c] rfl rfl HTH.out (infoC2 rfl) (all_oneCell_toArray (by intro u hu; simp at hu; rcases hu with rfl | rfl <;> rfl)) ?_
    generalize (w8.setCells (w.heap.size + 1 + 1) 0 (#[.int .i64 (N : Int), .slice p n c] : Array Value).toList) = W9h at *
    clear HTH
    go_wp2_with fail
    have hfr := Hr4.out
    refine bodyPost_ret (v := .tuple #[.agg #[.int .i64 (N : Int), .slice p n c], .slice none 0 0, .int .i64 4]) (by simp [results, Try.results7, go_sem, hfr.cell 0, hfr.cell 1]) rfl (by rw [HE.out]; exact ⟨p, n, c, none, 0, 0, W9h.heap.size, rfl, HKK.out.1, rfl, HZ4.out, (HRS.out.kept HB4.out).imp (fun b h => .inl h), SaidL.nil_ _ _, HB4.out⟩)
   ·skip
    obtain ⟨A, hA⟩ : ∃ A, queryC rs y.m (fn : Int) = A := ⟨_, rfl⟩
    have HE : Hid (doC N rs y.m (fn : Int) = A) := Lib.hid (by show _ = _; unfold doC; rw [if_neg HFR.out, if_pos (by rw [HKE.out]; simp), if_neg (by have := HFN.out; omega), if_neg (by rw [HHS.out]; decide), if_neg (by rw [HKE.out]; decide), if_neg (by rw [HKE.out]; decide)]; exact hA)
    go_upto_region 10 with fail
    have HGX : Hid (W.heap.size ≤ w8.heap.size) := Lib.hid (by have h1 := HWW.out; exact h1)
    have HG := Lib.hid (cquery_any w8 (fun b => P b ∨ (W.heap.size ≤ b ∧ b < w8.heap.size)) N p n c rs y (fn : Int) ((HRS.out.kept HB3.out).imp (fun b h => .inl h)) (fun b h => h.elim (fun h1 => Nat.lt_of_lt_of_le (HPW.out b h1) HZ3.out) (fun h1 => h1.2)) HKK.out.1 (by have := HKK.out; omega) (of_hasB HHS.out HKK.out.1).1 (of_hasB HHS.out HKK.out.1).2 HNN.out.1 HNN.out.2 (fun r hr => (HOK.out r hr).1))
    unfold CP CPost Msg.v at HG
    rw [hA] at HG
    clear hA
    have a0 : w8.cell? ⟨w.heap.size, 0, none⟩ = some (.int .i64 (N : Int)) := Hc3.out.cell 0
    have a1 : w8.cell? ⟨w.heap.size, 1, none⟩ = some (.slice p n c) := Hc3.out.cell 1
    have m0 : w8.cell? ⟨(w.heap.size + 1), 0, none⟩ = some (.int .i64 y.m.k) := Hm3.out.cell 0
    have m1 : w8.cell? ⟨(w.heap.size + 1), 1, none⟩ = some (.int .i64 y.m.s) := Hm3.out.cell 1
    have m2 : w8.cell? ⟨(w.heap.size + 1), 2, none⟩ = some (.int .i64 y.m.n) := Hm3.out.cell 2
    have m3 : w8.cell? ⟨(w.heap.size + 1), 3, none⟩ = some (.int .i64 y.m.b) := Hm3.out.cell 3
    have m4 : w8.cell? ⟨(w.heap.size + 1), 4, none⟩ = some (.int .i64 y.m.c) := Hm3.out.cell 4
    have m5 : w8.cell? ⟨(w.heap.size + 1), 5, none⟩ = some (.int .i64 y.m.r) := Hm3.out.cell 5
    have m6 : w8.cell? ⟨(w.heap.size + 1), 6, none⟩ = some (.int .i64 y.m.y) := Hm3.out.cell 6
    have m7 : w8.cell? ⟨(w.heap.size + 1), 7, none⟩ = some (.int .i64 y.m.a) := Hm3.out.cell 7
    have m8 : w8.cell? ⟨(w.heap.size + 1), 8, none⟩ = some (.bool y.m.t) := Hm3.out.cell 8
    have m9 : w8.cell? ⟨(w.heap.size + 1), 9, none⟩ = some (.slice y.pl y.m.ls.length y.cl) := Hm3.out.cell 9
    have m10 : w8.cell? ⟨(w.heap.size + 1), 10, none⟩ = some (.slice y.pn y.m.ns.length y.cn) := Hm3.out.cell 10
    go_wp2_with fail
    clear a0 a1 m0 m1 m2 m3 m4 m5 m6 m7 m8 m9 m10
    refine HG.out.mono ?_
    rintro y9 w5 ⟨p3, n3, c3, pv3, nv3, cv3, B3, rfl, hn3, hnv3, hB3, hq3, hs3, hb⟩
    clear HG
    have HN3 := Lib.hid (And.intro hn3 hnv3)
    have HBB : Hid (w8.heap.size ≤ B3) := Lib.hid hB3
    have HQQ := Lib.hid hq3
    have HSS := Lib.hid hs3
    clear hn3 hnv3 hB3 hq3 hs3
    have Hc4 := kbq Hc3 hb
    have Hm4 := kbq Hm3 hb
    have Hr4 := kbq Hr3 hb
    have HB4 := ktq HB3 hb
    have HZ4 := kzq HZ3 hb.size
    clear Hc3 Hm3 Hr3 HB3 HZ3
    clear hb
    obtain ⟨rs3, out3, e3⟩ := A
    go_wp2_with (with_reducible refine stop_storeT 27 (.tmp 6) (.tmp 53) rfl ?_)
    have HTH : Hid (w5.there (w.heap.size + 1 + 1) 0 2) := Hr4.out.thereAt
    have hch : Hid (Chg (w.heap.size + 1 + 1) w5 (w5.setCells (w.heap.size + 1 + 1) 0 (#[.int .i64 (N : Int), .slice p3 n3 c3] : Array Value).toList)) := Lib.hid (chg_putL _ _ _ _ _ (Chg.refl _ w5))
    have Hr5 : Hid (Blk (w5.setCells (w.heap.size + 1 + 1) 0 (#[.int .i64 (N : Int), .slice p3 n3 c3] : Array Value).toList) (w.heap.size + 1 + 1) #[.int .i64 (N : Int), .slice p3 n3 c3] 27) := Lib.hid (blk_put_all Hr4.out _ rfl)
    have HB5 : Hid (Below w.heap.size w (w5.setCells (w.heap.size + 1 + 1) 0 (#[.int .i64 (N : Int), .slice p3 n3 c3] : Array Value).toList)) := Lib.hid (below_put (by have := HWL.out; omega) _ _ _ _ HB4.out)
    have HZ5 := kzq HZ4 hch.out.size
    have Hc5 := kcq Hc4 hch (by have := HWL.out; omega)
    have Hm5 := kcq Hm4 hch (by have := HWL.out; omega)
    have HST := Lib.hid (HSS.out.chgS hch.out (by have := HBB.out; have := HWL.out; have := HGX.out; omega))
    have HQR := Lib.hid ((HQQ.out.imp (Q := fun b => b ≠ w.heap.size + 1 + 1 ∧ (P b ∨ (w.heap.size ≤ b ∧ b < B3))) (fun b h => by
     have h5 := HBB.out
     have h6 := HWL.out
     have h7 := HGX.out
     rcases h with (h1 | h1) | h1
     ·have := HPW.out _ h1
      exact ⟨by omega, .inl h1⟩
     ·exact ⟨by omega, .inr (by omega)⟩
     ·exact ⟨by omega, .inr (by omega)⟩)).keepP (KeepP.of_chg hch.out (by rintro ⟨h, _⟩; exact h rfl)))
    clear HSS HQQ
    clear hch Hc4 Hm4 Hr4 HB4 HZ4
    refine wpList_store_mid rfl 27 (.tmp 6) (.tmp 53) rfl (w.heap.size + 1 + 1) 0 #[.int .i64 (N : Int), .slice p3 n3 c3] rfl rfl HTH.out (infoC2 rfl) (all_oneCell_toArray (by intro u hu; simp at hu; rcases hu with rfl | rfl <;> rfl)) ?_
    generalize (w5.setCells (w.heap.size + 1 + 1) 0 (#[.int .i64 (N : Int), .slice p3 n3 c3] : Array Value).toList) = W9d at *
    clear HTH
    go_wp2_with fail
    have hfr := Hr5.out
    refine bodyPost_ret (v := .tuple #[.agg #[.int .i64 (N : Int), .slice p3 n3 c3], .slice pv3 nv3 cv3, .int .i64 e3]) (by simp [results, Try.results7, go_sem, hfr.cell 0, hfr.cell 1]) rfl (by rw [HE.out]; exact ⟨p3, n3, c3, pv3, nv3, cv3, B3, rfl, HN3.out.1, HN3.out.2, by have := HBB.out; have := HWL.out; have := HGX.out; omega, HQR.out.imp (fun b h => h.2), HST.out, HB5.out⟩)
  have hk15 := hk
  clear hk
  have HKN : Hid (¬ (y.m.k = 11 ∨ y.m.k = 13 ∨ y.m.k = 15)) := Lib.hid (by rintro (h | h | h); exact hk11 h; exact hk13 h; exact hk15 h)
  have HG := Lib.hid (byE_none W y.m.k hk11 hk13 hk15)
  have c0 : W.cell? ⟨(w.heap.size + 1), 0, none⟩ = some (.int .i64 y.m.k) := Hm0.out.cell 0
  go_wp2_with fail
  refine HG.out.mono ?_
  rintro y9 w1 ⟨rfl, hb⟩
  clear HG c0
  have Hc1 := kbq Hc0 hb
  have Hm1 := kbq Hm0 hb
  have Hr1 := kbq Hr0 hb
  have HB1 := ktq HB0 hb
  have HZ1 := kzq HZ0 hb.size
  clear Hc0 Hm0 Hr0 HB0 HZ0
  clear hb
  clear hk11 hk13 hk15
  have HE : Hid (doC N rs y.m fro = (rs, [], 110)) := Lib.hid (by unfold doC; rw [if_neg HFR.out, if_neg HKN.out])
  go_upto_region 5 with fail
  clear hfb hfn
  have a0 : w1.cell? ⟨w.heap.size, 0, none⟩ = some (.int .i64 (N : Int)) := Hc1.out.cell 0
  have a1 : w1.cell? ⟨w.heap.size, 1, none⟩ = some (.slice p n c) := Hc1.out.cell 1
  go_wp2_with (with_reducible refine stop_storeT 27 (.tmp 6) (.tmp 21) rfl ?_)
  clear a0 a1
  have HTH : Hid (w1.there (w.heap.size + 1 + 1) 0 2) := Hr1.out.thereAt
  have hch : Hid (Chg (w.heap.size + 1 + 1) w1 (w1.setCells (w.heap.size + 1 + 1) 0 (#[.int .i64 (N : Int), .slice p n c] : Array Value).toList)) := Lib.hid (chg_putL _ _ _ _ _ (Chg.refl _ w1))
  have Hr2 : Hid (Blk (w1.setCells (w.heap.size + 1 + 1) 0 (#[.int .i64 (N : Int), .slice p n c] : Array Value).toList) (w.heap.size + 1 + 1) #[.int .i64 (N : Int), .slice p n c] 27) := Lib.hid (blk_put_all Hr1.out _ rfl)
  have HB2 : Hid (Below w.heap.size w (w1.setCells (w.heap.size + 1 + 1) 0 (#[.int .i64 (N : Int), .slice p n c] : Array Value).toList)) := Lib.hid (below_put (by have := HWL.out; omega) _ _ _ _ HB1.out)
  have HZ2 := kzq HZ1 hch.out.size
  have Hc2 := kcq Hc1 hch (by have := HWL.out; omega)
  have Hm2 := kcq Hm1 hch (by have := HWL.out; omega)
  clear hch Hc1 Hm1 Hr1 HB1 HZ1
  refine wpList_store_mid rfl 27 (.tmp 6) (.tmp 21) rfl (w.heap.size + 1 + 1) 0 #[.int .i64 (N : Int), .slice p n c] rfl rfl HTH.out (infoC2 rfl) (all_oneCell_toArray (by intro u hu; simp at hu; rcases hu with rfl | rfl <;> rfl)) ?_
  generalize (w1.setCells (w.heap.size + 1 + 1) 0 (#[.int .i64 (N : Int), .slice p n c] : Array Value).toList) = W9z at *
  clear HTH
  go_wp2_with fail
  have hfr := Hr2.out
  refine bodyPost_ret (v := .tuple #[.agg #[.int .i64 (N : Int), .slice p n c], .slice none 0 0, .int .i64 110]) (by simp [results, Try.results7, go_sem, hfr.cell 0, hfr.cell 1]) rfl (by rw [HE.out]; exact ⟨p, n, c, none, 0, 0, W9z.heap.size, rfl, HKK.out.1, rfl, HZ2.out, (HRS.out.kept HB2.out).imp (fun b h => .inl h), SaidL.nil_ _ _, HB2.out⟩)
end Go.Proofs.Yteogdfpkcoodlaa
namespace Go.Proofs.Yteogdfpkcoodlaa
open Go.RowKit
set_option linter.unusedSimpArgs false
/-- What all have said, of which the first k lists are copies. -/
def GetR (P : Nat → Prop) (B : Nat) (W : World) (g L c : Nat) (hs : List Hd) (k : Nat) (wr : World) : Prop := ∃ zs : List HdX, OwnT encH wr B 80 (.slice (some ⟨g, 0, none⟩) L c) zs ∧ zs.map HdX.h = hs ∧ (∀ i (h : i < zs.length), (i < k → (zs[i]).In (fun b => B ≤ b ∧ b ≠ g) wr) ∧ (k ≤ i → (zs[i]).In P wr)) ∧ Below B W wr
def noRun : RunX := ⟨⟨0, 0, [], [], []⟩, none, 0, none, 0, none, 0⟩
def GetP (w' : World) (base : Nat) (rs : List Rn) (k : Int) (x : RunX) (b : Bool) : Prop := (b = true → x.r = rnAt rs k ∧ x.In (fun b => base ≤ b) w' ∧ Fre w' x.pl x.r.ls.length) ∧ (b = false → x = noRun)
set_option linter.unusedSimpArgs false in
set_option maxHeartbeats 4000000 in
set_option maxRecDepth 100000 in
theorem cget_any (w : World) (P : Nat → Prop) (N : Nat) (k : Int) (p : Option Addr) (n c : Nat) (rs : List Rn) (hrs : RsR P w (.slice p n c) rs) (hpw : ∀ b, P b → b < w.heap.size) (hn : n = rs.length) (hN1 : 1 ≤ N) (hN8 : N ≤ 8) (hlen : ∀ r ∈ rs, r.hs.length = N) (hsz : ∀ r ∈ rs, (∀ h ∈ r.hs, h.ls.length * 32 ≤ 140737488355000) ∧ r.ls.length * 32 ≤ 140737488355000 ∧ r.ns.length * 8 ≤ 140737488355000) (hnl : n ≤ 2000) :
  Calls Try.prog 11 #[.agg #[.int .i64 (N : Int), .slice p n c], .int .i64 k] w fun e w' => ∃ x : RunX, e = .returned (.tuple #[x.v, .bool (decide (1 ≤ k ∧ k ≤ (n : Int)))]) ∧ GetP w' w.heap.size rs k x (decide (1 ≤ k ∧ k ≤ (n : Int))) ∧ Below w.heap.size w w' := by
 obtain ⟨xs, hr, hat, hin, hm⟩ := hrs
 have HNX0 : Hid (xs.length = n) := Lib.hid (by rw [hn, ← hm, List.length_map])
 have HPW := Lib.hid hpw
 have HNQ : Hid (n = rs.length) := Lib.hid hn
 have HR0 := Lib.hid hr
 have HIN := Lib.hid hin
 have HM := Lib.hid hm
 have HLN := Lib.hid hlen
 have HSZ0 := Lib.hid hsz
 have HNN : Hid (1 ≤ N ∧ N ≤ 8) := Lib.hid ⟨hN1, hN8⟩
 have HNL0 : Hid (n ≤ 2000) := Lib.hid hnl
 obtain ⟨bh, hbh⟩ : ∃ bh, decide (1 ≤ k ∧ k ≤ (n : Int)) = bh := ⟨_, rfl⟩
 rw [hbh]
 have HHS := Lib.hid hbh
 clear hn hr hat hin hm hlen hsz hN1 hN8 hnl hpw hbh
 have HB0 : Hid (Below w.heap.size w ((w.alloc (.cells #[.int .i64 (N : Int), .slice p n c] 27)).alloc (.cells #[.int .i64 0, .int .i64 0, .slice none 0 0, .slice none 0 0, .slice none 0 0] 56))) := Lib.hid (((oneB w _).alloc (by simp <;> omega) _))
 have Hc0 : Hid (Blk ((w.alloc (.cells #[.int .i64 (N : Int), .slice p n c] 27)).alloc (.cells #[.int .i64 0, .int .i64 0, .slice none 0 0, .slice none 0 0, .slice none 0 0] 56)) w.heap.size #[.int .i64 (N : Int), .slice p n c] 27) := Lib.hid ((Blk.new w #[.int .i64 (N : Int), .slice p n c] 27).alloc _)
 have Hr0 : Hid (Blk ((w.alloc (.cells #[.int .i64 (N : Int), .slice p n c] 27)).alloc (.cells #[.int .i64 0, .int .i64 0, .slice none 0 0, .slice none 0 0, .slice none 0 0] 56)) (w.heap.size + 1) #[.int .i64 0, .int .i64 0, .slice none 0 0, .slice none 0 0, .slice none 0 0] 56) := Lib.hid (Blk.new' (w.alloc (.cells #[.int .i64 (N : Int), .slice p n c] 27)) #[.int .i64 0, .int .i64 0, .slice none 0 0, .slice none 0 0, .slice none 0 0] 56 (by simp))
 have HZ0 : Hid (w.heap.size ≤ ((w.alloc (.cells #[.int .i64 (N : Int), .slice p n c] 27)).alloc (.cells #[.int .i64 0, .int .i64 0, .slice none 0 0, .slice none 0 0, .slice none 0 0] 56)).heap.size) := Lib.hid HB0.out.size
 go_enter Try.func11, Try.ntmps11
 go_upto_region 1 with fail
 generalize ((w.alloc (.cells #[.int .i64 (N : Int), .slice p n c] 27)).alloc (.cells #[.int .i64 0, .int .i64 0, .slice none 0 0, .slice none 0 0, .slice none 0 0] 56)) = W at *
 have HWL : Hid (w.heap.size + 1 < W.heap.size) := Lib.hid Hr0.out.lt
 have HG := Lib.hid (chas_any W (N : Int) k p n c)
 rw [HHS.out] at HG
 have a0 : W.cell? ⟨w.heap.size, 0, none⟩ = some (.int .i64 (N : Int)) := Hc0.out.cell 0
 have a1 : W.cell? ⟨w.heap.size, 1, none⟩ = some (.slice p n c) := Hc0.out.cell 1
 go_wp2_with fail
 clear a0 a1
 refine HG.out.mono ?_
 rintro y9 w1 ⟨rfl, hb⟩
 clear HG
 have HW1 : Hid (W.heap.size ≤ w1.heap.size) := Lib.hid hb.size
 have Hc1 := kbq Hc0 hb
 have Hr1 := kbq Hr0 hb
 have HB1 := ktq HB0 hb
 have HZ1 := kzq HZ0 hb.size
 clear Hc0 Hr0 HB0 HZ0
 clear hb
 cases bh
 ·skip
  go_upto_region 2 with fail
  go_wp2_with (with_reducible refine stop_storeT 56 (.tmp 4) (.tmp 13) rfl ?_)
  have HTH : Hid (w1.there (w.heap.size + 1) 0 5) := Hr1.out.thereAt
  have hch : Hid (Chg (w.heap.size + 1) w1 (w1.setCells (w.heap.size + 1) 0 (#[.int .i64 0, .int .i64 0, .slice none 0 0, .slice none 0 0, .slice none 0 0] : Array Value).toList)) := Lib.hid (chg_putL _ _ _ _ _ (Chg.refl _ w1))
  have Hr2 : Hid (Blk (w1.setCells (w.heap.size + 1) 0 (#[.int .i64 0, .int .i64 0, .slice none 0 0, .slice none 0 0, .slice none 0 0] : Array Value).toList) (w.heap.size + 1) #[.int .i64 0, .int .i64 0, .slice none 0 0, .slice none 0 0, .slice none 0 0] 56) := Lib.hid (blk_put_all Hr1.out _ rfl)
  have HB2 : Hid (Below w.heap.size w (w1.setCells (w.heap.size + 1) 0 (#[.int .i64 0, .int .i64 0, .slice none 0 0, .slice none 0 0, .slice none 0 0] : Array Value).toList)) := Lib.hid (below_put (by have := HWL.out; omega) _ _ _ _ HB1.out)
  have HZ2 := kzq HZ1 hch.out.size
  have Hc2 := kcq Hc1 hch (by have := HWL.out; omega)
  clear hch Hc1 Hr1 HB1 HZ1
  refine wpList_store_mid rfl 56 (.tmp 4) (.tmp 13) rfl (w.heap.size + 1) 0 #[.int .i64 0, .int .i64 0, .slice none 0 0, .slice none 0 0, .slice none 0 0] rfl rfl HTH.out (infoR5 rfl) (all_oneCell_toArray (by intro u hu; simp at hu; rcases hu with rfl | rfl | rfl | rfl | rfl <;> rfl)) ?_
  generalize (w1.setCells (w.heap.size + 1) 0 (#[.int .i64 0, .int .i64 0, .slice none 0 0, .slice none 0 0, .slice none 0 0] : Array Value).toList) = W9 at *
  clear HTH
  go_wp2_with fail
  have hfr := Hr2.out
  refine bodyPost_ret (v := .tuple #[.agg #[.int .i64 0, .int .i64 0, .slice none 0 0, .slice none 0 0, .slice none 0 0], .bool false]) (by simp [results, Try.results11, go_sem, hfr.cell 0, hfr.cell 1, hfr.cell 2, hfr.cell 3, hfr.cell 4]) rfl ⟨noRun, rfl, ⟨(fun h => by cases h), (fun _ => rfl)⟩, HB2.out⟩
 ·skip
  have hk1 : 1 ≤ k ∧ k ≤ (n : Int) := of_decide_eq_true HHS.out
  obtain ⟨kn, hk⟩ : ∃ kn : Nat, k = (kn : Int) + 1 := ⟨(k - 1).toNat, by omega⟩
  subst hk
  have hnx : xs.length = n := HNX0.out
  have hr := HR0.out
  have hin := HIN.out
  have hm := HM.out
  have hlen := HLN.out
  have hsz := HSZ0.out
  have hnl := HNL0.out
  have hkn : kn < xs.length := by omega
  obtain ⟨x, hx⟩ : ∃ x, xs[kn] = x := ⟨_, rfl⟩
  have HXI : Hid (x.In P w) := Lib.hid (hin x (by rw [← hx]; exact List.getElem_mem hkn))
  have HXR : Hid (rnAt rs ((kn : Int) + 1) = x.r) := Lib.hid (by unfold rnAt; rw [Int.add_sub_cancel, Int.toNat_natCast, ← hm, List.getElem?_map, List.getElem?_eq_getElem hkn, hx]; rfl)
  have HXL : Hid (x.r.hs.length = N) := Lib.hid (hlen x.r (by rw [← hm]; exact List.mem_map_of_mem (by rw [← hx]; exact List.getElem_mem hkn)))
  have HSZ : Hid ((∀ h ∈ x.r.hs, h.ls.length * 32 ≤ 140737488355000) ∧ x.r.ls.length * 32 ≤ 140737488355000 ∧ x.r.ns.length * 8 ≤ 140737488355000) := Lib.hid (hsz x.r (by rw [← hm]; exact List.mem_map_of_mem (by rw [← hx]; exact List.getElem_mem hkn)))
  obtain ⟨b, o, hp, hbl, hcs⟩ := (hr.kept HB1.out).at_ kn hkn
  rw [hx] at hcs
  subst hp
  have hcap : xs.length ≤ c := hr.cap
  have hkI : (kn : Int) < (n : Int) := by omega
  have hkC : (kn : Int) < (c : Int) := by omega
  have hw1 : wrap64 (kn : Int) = (kn : Int) := by unfold wrap64; omega
  clear hr hin hm hnx hk1 hx hcap hbl hlen hsz hkn hnl HHS HR0 HIN HM HLN HSZ0 HNL0 HNX0
  have a1 : w1.cell? ⟨w.heap.size, 1, none⟩ = some (.slice (some ⟨b, o, none⟩) n c) := Hc1.out.cell 1
  have x0 : w1.cell? ⟨b, o + kn * 5, none⟩ = some (.int .i64 x.r.cu) := hcs 0 (by decide)
  have x1 : w1.cell? ⟨b, o + kn * 5 + 1, none⟩ = some (.int .i64 x.r.st) := hcs 1 (by decide)
  have x2 : w1.cell? ⟨b, o + kn * 5 + 2, none⟩ = some (.slice x.pf x.r.hs.length x.cf) := hcs 2 (by decide)
  have x3 : w1.cell? ⟨b, o + kn * 5 + 3, none⟩ = some (.slice x.pl x.r.ls.length x.cl) := hcs 3 (by decide)
  have x4 : w1.cell? ⟨b, o + kn * 5 + 4, none⟩ = some (.slice x.pn x.r.ns.length x.cn) := hcs 4 (by decide)
  clear hcs
  have hba := oneB w1 (.cells #[.int .i64 x.r.cu, .int .i64 x.r.st, .slice x.pf x.r.hs.length x.cf, .slice x.pl x.r.ls.length x.cl, .slice x.pn x.r.ns.length x.cn] 56)
  have Hc2 := kbq Hc1 hba
  have Hr2 := kbq Hr1 hba
  have Hx2 := Lib.hid (Blk.new w1 #[.int .i64 x.r.cu, .int .i64 x.r.st, .slice x.pf x.r.hs.length x.cf, .slice x.pl x.r.ls.length x.cl, .slice x.pn x.r.ns.length x.cn] 56)
  have HB2 := Lib.hid (HB1.out.alloc HB1.out.size (.cells #[.int .i64 x.r.cu, .int .i64 x.r.st, .slice x.pf x.r.hs.length x.cf, .slice x.pl x.r.ls.length x.cl, .slice x.pn x.r.ns.length x.cn] 56))
  have HZ2 := kzq HZ1 hba.size
  have HGgx : Hid (w.heap.size ≤ w1.heap.size) := Lib.hid HB1.out.size
  clear hba Hc1 Hr1 HB1 HZ1
  go_upto_region 4 with fail
  clear a1 x0 x1 x2 x3 x4 hkI hkC hw1
  generalize (w1.alloc (.cells #[.int .i64 x.r.cu, .int .i64 x.r.st, .slice x.pf x.r.hs.length x.cf, .slice x.pl x.r.ls.length x.cl, .slice x.pn x.r.ns.length x.cn] 56)) = W2 at *
  generalize hggx : w1.heap.size = gx at *
  clear hggx
  obtain ⟨ys, hy1, _, hy2, hy3⟩ := HXI.out.hs
  have HYR := Lib.hid hy1
  have HYI := Lib.hid hy2
  have HYM := Lib.hid hy3
  have HYL : Hid (ys.length = x.r.hs.length) := Lib.hid (by rw [← hy3, List.length_map])
  clear hy1 hy2 hy3
  have HG := Lib.hid (cloneH_any W2 (.slice x.pf x.r.hs.length x.cf) ys (HYR.out.kept HB2.out) (by have := HYL.out; have := HXL.out; have := HNN.out; omega))
  have x2 : W2.cell? ⟨gx, 2, none⟩ = some (.slice x.pf x.r.hs.length x.cf) := Hx2.out.cell 2
  go_wp2_with fail
  clear x2
  refine HG.out.mono ?_
  rintro y9 w3 ⟨v3, rfl, ho, hb⟩
  clear HG
  obtain ⟨p3, c3, hv3⟩ := ho.form
  rw [HYL.out] at hv3
  subst hv3
  obtain ⟨g, cur, hp3, hgb, hblk, hnc, hmx, hsz, htk, hll⟩ := ho.lies (by have := HXL.out; have := HNN.out; omega)
  subst hp3
  have HGB : Hid (W2.heap.size ≤ g ∧ g < w3.heap.size ∧ x.r.hs.length ≤ c3) := Lib.hid ⟨hgb, hblk.lt, hnc⟩
  have HGX2 : Hid (gx < W2.heap.size) := Lib.hid Hx2.out.lt
  have HO := Lib.hid ho
  clear ho hgb hblk hnc hmx hsz htk hll
  have Hc3 := kbq Hc2 hb
  have Hr3 := kbq Hr2 hb
  have Hx3 := kbq Hx2 hb
  have HB3 := ktq HB2 hb
  have HZ3 := kzq HZ2 hb.size
  clear Hc2 Hr2 Hx2 HB2 HZ2
  clear hb
  have z2 : w3.cell? ⟨gx, 2, none⟩ = some (.slice x.pf x.r.hs.length x.cf) := Hx3.out.cell 2
  have f2 := Hx3.out.free 2
  go_upto_region 5 with fail
  clear z2 f2
  have hch := Lib.hid ((Chg.refl gx w3).set 2 (.slice (some ⟨g, 0, none⟩) x.r.hs.length c3))
  have Hx4 : Hid (Blk _ gx #[.int .i64 x.r.cu, .int .i64 x.r.st, .slice (some ⟨g, 0, none⟩) x.r.hs.length c3, .slice x.pl x.r.ls.length x.cl, .slice x.pn x.r.ns.length x.cn] 56) := Lib.hid (Hx3.out.set 2 (.slice (some ⟨g, 0, none⟩) x.r.hs.length c3))
  have HB4 := ksq HB3 hch (by show w.heap.size ≤ gx; have := HWL.out; have := HW1.out; have := HGX2.out; have := HGB.out; omega)
  have HZ4 := kzq HZ3 hch.out.size
  have Hc4 := kcq Hc3 hch (by have := HWL.out; have := HW1.out; have := HGX2.out; have := HGB.out; omega)
  have Hr4 := kcq Hr3 hch (by have := HWL.out; have := HW1.out; have := HGX2.out; have := HGB.out; omega)
  have HO := Lib.hid (HO.out.stay (fun b hb => hch.out.2 b (HO.out.lt b hb) (by have h1 := HO.out.block_ge b hb; have := HGX2.out; omega)))
  clear hch Hc3 Hr3 Hx3 HB3 HZ3
  generalize (w3.setCell ⟨gx, 2, none⟩ (.slice (some ⟨g, 0, none⟩) x.r.hs.length c3)) = W4 at *
  have HGW : Hid (g < W4.heap.size ∧ w.heap.size < W4.heap.size) := Lib.hid ⟨HO.out.lt g rfl, by have := Hr4.out.lt; omega⟩
  have HREL : Hid (GetR P W2.heap.size W4 g x.r.hs.length c3 x.r.hs 0 W4) := Lib.hid ⟨ys, HO.out, HYM.out, fun i hi => ⟨fun h => by omega, fun _ => ((HYI.out _ (List.getElem_mem hi)).kept HB4.out)⟩, Below.refl _ _⟩
  have HBW4 : Hid (Below w.heap.size w W4) := Lib.hid HB4.out
  have x2 : W4.cell? ⟨gx, 2, none⟩ = some (.slice (some ⟨g, 0, none⟩) x.r.hs.length c3) := Hx4.out.cell 2
  go_wp2_with fail
  clear x2
  have HLL : Hid (x.r.hs.length ≤ 8) := Lib.hid (by have := HXL.out; have := HNN.out; omega)
  have HLC : Hid (x.r.hs.length ≤ c3) := Lib.hid HGB.out.2.2
  have HSH : Hid (∀ h ∈ x.r.hs, h.ls.length * 32 ≤ 140737488355000) := Lib.hid HSZ.out.1
  have HXB := Lib.hid Hx4.out
  have HCB := Lib.hid Hc4.out
  have HRB := Lib.hid Hr4.out
  have HBB := Lib.hid HB4.out
  have HRL : Hid (Blk W4 gx #[.int .i64 x.r.cu, .int .i64 x.r.st, .slice (some ⟨g, 0, none⟩) x.r.hs.length c3, .slice x.pl x.r.ls.length x.cl, .slice x.pn x.r.ns.length x.cn] 56 ∧ Blk W4 (w.heap.size + 1) #[.int .i64 0, .int .i64 0, .slice none 0 0, .slice none 0 0, .slice none 0 0] 56 ∧ GetR P W2.heap.size W4 g x.r.hs.length c3 x.r.hs 0 W4) := Lib.hid ⟨HXB.out, HRB.out, HREL.out⟩
  clear Hx4 Hc4 Hr4 HB4 HZ4 HXB HCB HRB HREL HO
  generalize hL : x.r.hs.length = L at *
  have HLQ := Lib.hid hL
  clear hL
  go_loopw [27] (fun i wr => ∃ k : Nat, k ≤ L ∧ i = .int .i64 k ∧ Hid (Blk wr gx #[.int .i64 x.r.cu, .int .i64 x.r.st, .slice (some ⟨g, 0, none⟩) L c3, .slice x.pl x.r.ls.length x.cl, .slice x.pn x.r.ns.length x.cn] 56 ∧ Blk wr (w.heap.size + 1) #[.int .i64 0, .int .i64 0, .slice none 0 0, .slice none 0 0, .slice none 0 0] 56 ∧ GetR P W2.heap.size W4 g L c3 x.r.hs k wr)) (fun i _ => L - (intOf i).toNat)
  case atStart => exact ⟨0, by omega, rfl, HRL⟩
  case round =>
   clear HRL
   obtain ⟨q, hq, rfl, HK⟩ := hrel
   have hq9 : q + 1 ≤ 9 := by have := HLL.out; omega
   by_cases hlt : q < L
   ·have hltI : (q : Int) < (L : Int) := by omega
    have hqC : (q : Int) < (c3 : Int) := by have := HLC.out; omega
    obtain ⟨zs, hz1, hz2, hz3, hz4⟩ := HK.out.2.2
    have hzl : zs.length = L := by rw [← HLQ.out, ← hz2, List.length_map]
    have hqz : q < zs.length := by omega
    have HV1 := Lib.hid hz1
    have HV2 := Lib.hid hz2
    have HV3 := Lib.hid hz3
    have HV4 := Lib.hid hz4
    have HQZ := Lib.hid hqz
    have HZI : Hid ((zs[q]'HQZ.out).In P wr) := Lib.hid ((hz3 q hqz).2 (Nat.le_refl q))
    have HZM : Hid ((zs[q]'HQZ.out).h ∈ x.r.hs) := Lib.hid (by rw [← hz2]; exact List.mem_map_of_mem (List.getElem_mem hqz))
    have hc0 := hz1.read q 0 hqz (by decide)
    have hc1 := hz1.read q 1 hqz (by decide)
    have hc2 := hz1.read q 2 hqz (by decide)
    obtain ⟨z, hz⟩ : ∃ z, zs[q]'HQZ.out = z := ⟨_, rfl⟩
    rw [hz] at hc0 hc1 hc2 HZI HZM
    have HZE := Lib.hid hz
    clear hz1 hz2 hz3 hz4 hzl hqz hz
    have z0 : wr.cell? ⟨g, q * 3, none⟩ = some (.bool z.h.o) := hc0.1
    have z1 : wr.cell? ⟨g, q * 3 + 1, none⟩ = some (.bool z.h.t) := hc1.1
    have z2 : wr.cell? ⟨g, q * 3 + 2, none⟩ = some (.slice z.p z.h.ls.length z.c) := hc2.1
    clear hc0 hc1 hc2
    have HB0 := Lib.hid (Below.refl wr.heap.size wr)
    have HZ0 : Hid (wr.heap.size ≤ wr.heap.size) := Lib.hid (Nat.le_refl _)
    have Hx0 := Lib.hid HK.out.1
    have Hr0 := Lib.hid HK.out.2.1
    have HGQ : Hid (g < wr.heap.size ∧ gx < g ∧ w.heap.size + 1 < gx) := Lib.hid ⟨HV1.out.lt g rfl, by have := HGB.out; have := HGX2.out; omega, by have := HWL.out; have := HW1.out; omega⟩
    have hba := oneB wr (.cells #[.bool z.h.o, .bool z.h.t, .slice z.p z.h.ls.length z.c] 80)
    have Hx1 := kbq Hx0 hba
    have Hr1 := kbq Hr0 hba
    have Ho1 := Lib.hid (Blk.new wr #[.bool z.h.o, .bool z.h.t, .slice z.p z.h.ls.length z.c] 80)
    have HB1 := Lib.hid (HB0.out.alloc HB0.out.size (.cells #[.bool z.h.o, .bool z.h.t, .slice z.p z.h.ls.length z.c] 80))
    have HZ1 := kzq HZ0 hba.size
    have HGgo : Hid (wr.heap.size ≤ wr.heap.size) := Lib.hid HB0.out.size
    clear hba Hx0 Hr0 HB0 HZ0
    go_upto_region 8 with fail
    clear z0 z1 z2
    generalize (wr.alloc (.cells #[.bool z.h.o, .bool z.h.t, .slice z.p z.h.ls.length z.c] 80)) = W5 at *
    have hbd := (Below.refl W5.heap.size W5).drew
    have Hx2 := kbq Hx1 hbd
    have Hr2 := kbq Hr1 hbd
    have Ho2 := kbq Ho1 hbd
    have HB2 := ktq HB1 hbd
    have HZ2 := kzq HZ1 hbd.size
    clear Hx1 Hr1 Ho1 HB1 HZ1
    refine wp_region_held_drew (S := fun w' => w'.cell? ⟨gx, 0, none⟩ = some (.int .i64 x.r.cu) ∧ w'.cell? ⟨gx, 1, none⟩ = some (.int .i64 x.r.st) ∧ w'.cell? ⟨gx, 2, none⟩ = some (.slice (some ⟨g, 0, none⟩) L c3) ∧ w'.cell? ⟨gx, 3, none⟩ = some (.slice x.pl x.r.ls.length x.cl) ∧ w'.cell? ⟨gx, 4, none⟩ = some (.slice x.pn x.r.ns.length x.cn) ∧ w'.cell? ⟨wr.heap.size, 0, none⟩ = some (.bool z.h.o) ∧ w'.cell? ⟨wr.heap.size, 1, none⟩ = some (.bool z.h.t) ∧ w'.cell? ⟨wr.heap.size, 2, none⟩ = some (.slice z.p z.h.ls.length z.c)) (by kernel_rfl) ⟨Hx2.out.cell 0, Hx2.out.cell 1, Hx2.out.cell 2, Hx2.out.cell 3, Hx2.out.cell 4, Ho2.out.cell 0, Ho2.out.cell 1, Ho2.out.cell 2⟩ (fun hS0 => ?_)
    generalize W5.drew = WD at *
    clear hbd
    refine tkq 0 ?_
    refine tkq 1 ?_
    refine tkq 2 ?_
    refine tkq 3 ?_
    refine tkq 4 ?_
    refine rdq 5 (fun K hK => ?_)
    have HWDD : Hid (wr.heap.size < WD.heap.size) := Lib.hid Ho2.out.lt
    have HG := Lib.hid (cloneN_any WD (.slice z.p z.h.ls.length z.c) z.h.ls (HZI.out.kept HB2.out).1 (HSH.out z.h HZM.out))
    go_simp
    go_at_call 23
    refine HG.out.mono ?_
    rintro y9 w6 ⟨v6, rfl, ho, hb⟩
    clear HG
    have HNL := Lib.hid ho
    have HWD6 : Hid (wr.heap.size < WD.heap.size) := Lib.hid HWDD.out
    clear ho
    obtain ⟨p6, c6, hv6⟩ := HNL.out.form
    obtain ⟨l6, hl6⟩ : ∃ l6, z.h.ls.length = l6 := ⟨_, rfl⟩
    rw [hl6] at hv6
    subst hv6
    have HL6 := Lib.hid hl6
    clear hl6
    have Hx3 := kbq Hx2 hb
    have Hr3 := kbq Hr2 hb
    have Ho3 := kbq Ho2 hb
    have HB3 := ktq HB2 hb
    have HZ3 := kzq HZ2 hb.size
    clear Hx2 Hr2 Ho2 HB2 HZ2
    clear hb hS0
    try go_wp2_with fail
    refine hK.out _ _ ⟨Hx3.out.cell 0, Hx3.out.cell 1, Hx3.out.cell 2, Hx3.out.cell 3, Hx3.out.cell 4, Ho3.out.cell 0, Ho3.out.cell 1, Ho3.out.cell 2⟩ (fun hS0 => ?_)
    clear hK K
    try simp only [Act.put, List.getElem_toArray, List.getElem_cons_succ, List.getElem_cons_zero, List.setIfInBounds_toArray, List.set_cons_zero, List.set_cons_succ]
    refine tkq 6 ?_
    refine tkq 7 ?_
    refine rdq 8 (fun K hK => ?_)
    have z9 : w6.cell? ⟨g, q * 3 + 2, none⟩ = some (.slice z.p z.h.ls.length z.c) := by
     have h1 := ((HV1.out.later HB3.out).read q 2 HQZ.out (by decide)).1
     rw [HZE.out] at h1
     exact h1
    have f9 : w6.frozen? ⟨g, q * 3 + 2, none⟩ = false := ((HV1.out.later HB3.out).read q 2 HQZ.out (by decide)).2
    go_simp
    clear z9 f9
    have hch := Lib.hid ((Chg.refl g w6).set (q * 3 + 2) (.slice p6 l6 c6))
    have HX2 := kcq Hx3 hch (by have := HGQ.out; omega)
    have HR2 := kcq Hr3 hch (by have := HGQ.out; omega)
    have HO2 : Hid (Blk (w6.setCell ⟨g, q * 3 + 2, none⟩ (.slice p6 l6 c6)) wr.heap.size #[.bool z.h.o, .bool z.h.t, .slice z.p z.h.ls.length z.c] 80) := kcq Ho3 hch (by have := HGQ.out; omega)
    have HNX : Hid (Blk (w6.setCell ⟨g, q * 3 + 2, none⟩ (.slice p6 l6 c6)) gx #[.int .i64 x.r.cu, .int .i64 x.r.st, .slice (some ⟨g, 0, none⟩) L c3, .slice x.pl x.r.ls.length x.cl, .slice x.pn x.r.ns.length x.cn] 56 ∧ Blk (w6.setCell ⟨g, q * 3 + 2, none⟩ (.slice p6 l6 c6)) (w.heap.size + 1) #[.int .i64 0, .int .i64 0, .slice none 0 0, .slice none 0 0, .slice none 0 0] 56 ∧ GetR P W2.heap.size W4 g L c3 x.r.hs (q + 1) (w6.setCell ⟨g, q * 3 + 2, none⟩ (.slice p6 l6 c6))) := Lib.hid (by
     refine ⟨HX2.out, HR2.out, zs.set q ⟨z.h, p6, c6⟩, (HV1.out.later HB3.out).cell1 q 2 HQZ.out (by decide) ⟨z.h, p6, c6⟩ (.slice p6 l6 c6) (by rw [HZE.out]; show [Value.bool z.h.o, .bool z.h.t, .slice p6 z.h.ls.length c6] = _; rw [HL6.out]; rfl), by rw [List.map_set, HV2.out]; show x.r.hs.set q z.h = _; rw [show z.h = x.r.hs[q]'(by have h1 := congrArg List.length HV2.out; rw [List.length_map] at h1; rw [← h1]; exact HQZ.out) by rw [← HZE.out]; have := HV2.out; simp only [← this, List.getElem_map]]; exact List.set_getElem_self _, fun i hi => ?_, ?_⟩
     ·rw [List.length_set] at hi
      have hgp : ¬ P g := fun h => by have := HPW.out g h; have := HGQ.out; omega
      by_cases hiq : i = q
      ·have hqi := hiq.symm
       subst hqi
       refine ⟨fun _ => ?_, fun h => by omega⟩
       rw [List.getElem_set_self]
       have hkn : KeepP (fun b => W2.heap.size ≤ b ∧ b ≠ g) w6 (w6.setCell ⟨g, q * 3 + 2, none⟩ (.slice p6 l6 c6)) := KeepP.of_chg hch.out (fun h => h.2 rfl)
       have h1 : (⟨z.h, p6, c6⟩ : HdX).In (fun b => W2.heap.size ≤ b ∧ b ≠ g) w6 := by
        refine ⟨?_, ?_⟩
        ·show TRow encN w6 (.slice p6 z.h.ls.length c6) z.h.ls
         rw [HL6.out]; exact HNL.out.row
        ·show At _ (.slice p6 z.h.ls.length c6) z.h.ls.length
         have h4 := HNL.out.at_lt
         rw [HL6.out] at h4 ⊢
         exact h4.imp (fun b h => ⟨by have := HWD6.out; have := HGQ.out; have := HGB.out; omega, by have := HWD6.out; have := HGQ.out; omega⟩)
       exact h1.keepP hkn
      ·have hne : (zs.set q ⟨z.h, p6, c6⟩)[i]'(by rw [List.length_set]; exact hi) = zs[i] := List.getElem_set_ne (Ne.symm hiq) _
       rw [hne]
       have h2 := HV3.out i hi
       refine ⟨fun h => ?_, fun h => ?_⟩
       ·exact ((h2.1 (by omega)).kept HB3.out).keepP (KeepP.of_chg hch.out (fun h => h.2 rfl))
       ·exact ((h2.2 (by omega)).kept HB3.out).keepP (KeepP.of_chg hch.out hgp)
     ·exact (HV4.out.trans (HB3.out.mono (by have := HGQ.out; have := HGB.out; omega))).trans (hch.out.below (by have := HGB.out; omega) (by have := HGQ.out; have := HGB.out; have := HB3.out.size; omega)))
    have hS9 : (w6.setCell ⟨g, q * 3 + 2, none⟩ (.slice p6 l6 c6)).cell? ⟨gx, 0, none⟩ = some (.int .i64 x.r.cu) ∧ (w6.setCell ⟨g, q * 3 + 2, none⟩ (.slice p6 l6 c6)).cell? ⟨gx, 1, none⟩ = some (.int .i64 x.r.st) ∧ (w6.setCell ⟨g, q * 3 + 2, none⟩ (.slice p6 l6 c6)).cell? ⟨gx, 2, none⟩ = some (.slice (some ⟨g, 0, none⟩) L c3) ∧ (w6.setCell ⟨g, q * 3 + 2, none⟩ (.slice p6 l6 c6)).cell? ⟨gx, 3, none⟩ = some (.slice x.pl x.r.ls.length x.cl) ∧ (w6.setCell ⟨g, q * 3 + 2, none⟩ (.slice p6 l6 c6)).cell? ⟨gx, 4, none⟩ = some (.slice x.pn x.r.ns.length x.cn) ∧ (w6.setCell ⟨g, q * 3 + 2, none⟩ (.slice p6 l6 c6)).cell? ⟨wr.heap.size, 0, none⟩ = some (.bool z.h.o) ∧ (w6.setCell ⟨g, q * 3 + 2, none⟩ (.slice p6 l6 c6)).cell? ⟨wr.heap.size, 1, none⟩ = some (.bool z.h.t) ∧ (w6.setCell ⟨g, q * 3 + 2, none⟩ (.slice p6 l6 c6)).cell? ⟨wr.heap.size, 2, none⟩ = some (.slice z.p z.h.ls.length z.c) := ⟨HX2.out.cell 0, HX2.out.cell 1, HX2.out.cell 2, HX2.out.cell 3, HX2.out.cell 4, HO2.out.cell 0, HO2.out.cell 1, HO2.out.cell 2⟩
    clear hch hS0 HX2 HR2 HO2 Hx3 Hr3 Ho3 HB3 HZ3 HV1 HV2 HV3 HV4 HZI HZM HZE HNL HK
    generalize (w6.setCell ⟨g, q * 3 + 2, none⟩ (.slice p6 l6 c6)) = W7 at *
    refine hK.out _ _ hS9 (fun hS0 => ?_)
    clear hK K hS9
    try simp only [Act.put, List.getElem_toArray, List.getElem_cons_succ, List.getElem_cons_zero, List.setIfInBounds_toArray, List.set_cons_zero, List.set_cons_succ]
    refine wpAnyH_done (by kernel_rfl) ?_ _
    clear hS0
    clear hltI hqC
    go_wp2_with fail
    go_roundw
    case rel => exact ⟨q + 1, by omega, by go_num, HNX⟩
    case measure => simp [intOf]; omega
   ·skip
    have hltI : ¬ (q : Int) < (L : Int) := by omega
    obtain rfl : q = L := by omega
    obtain ⟨zs, hz1, hz2, hz3, hz4⟩ := HK.out.2.2
    have HV1 := Lib.hid hz1
    have HV2 := Lib.hid hz2
    have HV3 : Hid (∀ z ∈ zs, z.In (fun b => W2.heap.size ≤ b ∧ b ≠ g) wr) := Lib.hid (fun z hz => by
     obtain ⟨i, hi, rfl⟩ := List.mem_iff_getElem.1 hz
     exact (hz3 i hi).1 (by have h1 := congrArg List.length hz2; rw [List.length_map, HLQ.out] at h1; omega))
    have HV4 := Lib.hid hz4
    have Hx60 := Lib.hid HK.out.1
    have Hr60 := Lib.hid HK.out.2.1
    have HB60 : Hid (Below w.heap.size w wr) := Lib.hid (HBW4.out.trans (hz4.mono (by have := HGX2.out; have := HWL.out; have := HW1.out; omega)))
    have HZ60 : Hid (w.heap.size ≤ wr.heap.size) := Lib.hid HB60.out.size
    clear hz1 hz2 hz3 hz4 HK hq hq9
    go_upto_region 10 with fail
    clear hltI
    have hbd := (Below.refl wr.heap.size wr).drew
    have Hx61 := kbq Hx60 hbd
    have Hr61 := kbq Hr60 hbd
    have HB61 := ktq HB60 hbd
    have HZ61 := kzq HZ60 hbd.size
    clear Hx60 Hr60 HB60 HZ60
    have hS1 : True := trivial
    have HV1 := Lib.hid (HV1.out.later hbd)
    have HV3 : Hid (∀ z ∈ zs, z.In (fun b => W2.heap.size ≤ b ∧ b ≠ g) _) := Lib.hid (fun z hz => (HV3.out z hz).kept hbd)
    have HGE : Hid (g < wr.drew.heap.size ∧ W2.heap.size ≤ wr.drew.heap.size) := Lib.hid ⟨HV1.out.lt g rfl, by have h1 := HV1.out.lt g rfl; have := HGB.out; omega⟩
    refine wp_region_held_drew (S := fun w' => True) (by kernel_rfl) hS1 (fun hS0 => ?_)
    clear hS1
    generalize wr.drew = WE at *
    clear hbd
    refine tkq 0 ?_
    refine tkq 3 ?_
    refine wpAnyH_ready (rs := [1, 4]) (by kernel_rfl) (by simp) ?_
    refine AllReadyH.cons rfl (fun K hK => ?_) (AllReadyH.cons rfl (fun K hK => ?_) AllReadyH.nil)
    ·skip
     have u3 : WE.cell? ⟨gx, 3, none⟩ = some (.slice x.pl x.r.ls.length x.cl) := Hx61.out.cell 3
     go_simp
     clear u3 hS0
     refine hK.out _ _ trivial (fun hS0 => ?_)
     clear hK K
     try simp only [Act.put, List.getElem_toArray, List.getElem_cons_succ, List.getElem_cons_zero, List.setIfInBounds_toArray, List.set_cons_zero, List.set_cons_succ]
     refine wpAnyH_ready (rs := [2, 4]) (by kernel_rfl) (by simp) ?_
     refine AllReadyH.cons rfl (fun K hK => ?_) (AllReadyH.cons rfl (fun K hK => ?_) AllReadyH.nil)
     ·skip
      have HG := Lib.hid (cloneN_any WE (.slice x.pl x.r.ls.length x.cl) x.r.ls (HXI.out.kept HB61.out).ls HSZ.out.2.1)
      go_simp
      go_at_call 23
      refine HG.out.mono ?_
      rintro y9 w7 ⟨v7, rfl, ho, hb⟩
      clear HG
      have HW7 : Hid (WE.heap.size ≤ w7.heap.size) := Lib.hid hb.size
      have HV1 := Lib.hid (HV1.out.later hb)
      have HV3 : Hid (∀ z ∈ zs, z.In (fun b => W2.heap.size ≤ b ∧ b ≠ g) _) := Lib.hid (fun z hz => (HV3.out z hz).kept hb)
      have HNL := Lib.hid ho
      clear ho
      obtain ⟨p7, c7, hv7⟩ := HNL.out.form
      obtain ⟨l7, hl7⟩ : ∃ l7, x.r.ls.length = l7 := ⟨_, rfl⟩
      rw [hl7] at hv7
      subst hv7
      have HL7 := Lib.hid hl7
      clear hl7
      have Hx62 := kbq Hx61 hb
      have Hr62 := kbq Hr61 hb
      have HB62 := ktq HB61 hb
      have HZ62 := kzq HZ61 hb.size
      clear Hx61 Hr61 HB61 HZ61
      clear hb hS0
      try go_wp2_with fail
      refine hK.out _ _ trivial (fun hS0 => ?_)
      clear hK K
      try simp only [Act.put, List.getElem_toArray, List.getElem_cons_succ, List.getElem_cons_zero, List.setIfInBounds_toArray, List.set_cons_zero, List.set_cons_succ]
      refine rdq 4 (fun K hK => ?_)
      have u4 : w7.cell? ⟨gx, 4, none⟩ = some (.slice x.pn x.r.ns.length x.cn) := Hx62.out.cell 4
      go_simp
      clear u4 hS0
      refine hK.out _ _ trivial (fun hS0 => ?_)
      clear hK K
      try simp only [Act.put, List.getElem_toArray, List.getElem_cons_succ, List.getElem_cons_zero, List.setIfInBounds_toArray, List.set_cons_zero, List.set_cons_succ]
      refine tkq 6 ?_
      refine rdq 5 (fun K hK => ?_)
      have HG := Lib.hid (clone64_any w7 (.slice x.pn x.r.ns.length x.cn) x.r.ns (HXI.out.kept HB62.out).ns HSZ.out.2.2)
      go_simp
      go_at_call 24
      refine HG.out.mono ?_
      rintro y9 w8 ⟨v8, rfl, ho, hb⟩
      clear HG
      have HV1 := Lib.hid (HV1.out.later hb)
      have HV3 : Hid (∀ z ∈ zs, z.In (fun b => W2.heap.size ≤ b ∧ b ≠ g) _) := Lib.hid (fun z hz => (HV3.out z hz).kept hb)
      have HNL := Lib.hid (HNL.out.later hb)
      have HNN8 := Lib.hid ho
      clear ho
      obtain ⟨p8, c8, hv8⟩ := HNN8.out.form
      obtain ⟨l8, hl8⟩ : ∃ l8, x.r.ns.length = l8 := ⟨_, rfl⟩
      rw [hl8] at hv8
      subst hv8
      have HL8 := Lib.hid hl8
      clear hl8
      have Hx63 := kbq Hx62 hb
      have Hr63 := kbq Hr62 hb
      have HB63 := ktq HB62 hb
      have HZ63 := kzq HZ62 hb.size
      clear Hx62 Hr62 HB62 HZ62
      clear hb hS0
      try go_wp2_with fail
      refine hK.out _ _ trivial (fun hS0 => ?_)
      clear hK K
      try simp only [Act.put, List.getElem_toArray, List.getElem_cons_succ, List.getElem_cons_zero, List.setIfInBounds_toArray, List.set_cons_zero, List.set_cons_succ]
      refine rdq 7 (fun K hK => ?_)
      have z0 : w8.cell? ⟨gx, 0, none⟩ = some (.int .i64 x.r.cu) := Hx63.out.cell 0
      have z1 : w8.cell? ⟨gx, 1, none⟩ = some (.int .i64 x.r.st) := Hx63.out.cell 1
      have z2 : w8.cell? ⟨gx, 2, none⟩ = some (.slice (some ⟨g, 0, none⟩) q c3) := Hx63.out.cell 2
      have z3 : w8.cell? ⟨gx, 3, none⟩ = some (.slice x.pl x.r.ls.length x.cl) := Hx63.out.cell 3
      have z4 : w8.cell? ⟨gx, 4, none⟩ = some (.slice x.pn x.r.ns.length x.cn) := Hx63.out.cell 4
      have f0 := Hx63.out.free 0
      have f1 := Hx63.out.free 1
      have f2 := Hx63.out.free 2
      have f3 := Hx63.out.free 3
      have f4 := Hx63.out.free 4
      go_simp
      clear z0 f0 z1 f1 z2 f2 z3 f3 z4 f4
      have hch := Lib.hid ((Chg.refl gx w8).set 3 (.slice p7 l7 c7))
      have Hx64 : Hid (Blk _ gx #[.int .i64 x.r.cu, .int .i64 x.r.st, .slice (some ⟨g, 0, none⟩) q c3, .slice p7 l7 c7, .slice x.pn x.r.ns.length x.cn] 56) := Lib.hid (Hx63.out.set 3 (.slice p7 l7 c7))
      have HB64 := ksq HB63 hch (by show w.heap.size ≤ gx; have := HWL.out; have := HW1.out; have := HGX2.out; omega)
      have HZ64 := kzq HZ63 hch.out.size
      have Hr64 := kcq Hr63 hch (by have := HWL.out; have := HW1.out; have := HGX2.out; omega)
      have HV3 : Hid (∀ z ∈ zs, z.In (fun b => W2.heap.size ≤ b ∧ b ≠ g) _) := Lib.hid (fun z hz => (HV3.out z hz).keepP (KeepP.of_chg hch.out (fun h => by have := HGX2.out; omega)))
      have HV1 := Lib.hid (HV1.out.stay (fun b hb => hch.out.2 b (HV1.out.lt b hb) (by have h1 := HV1.out.block_ge b hb; have := HGX2.out; omega)))
      have HNL := Lib.hid (HNL.out.stay (fun b hb => hch.out.2 b (HNL.out.lt b hb) (by have h1 := HNL.out.block_ge b hb; have := HGE.out; have := HGX2.out; omega)))
      have HNN8 := Lib.hid (HNN8.out.stayV (fun b hb => hch.out.2 b (HNN8.out.lt b hb) (by have h1 := HNN8.out.block_ge b hb; have := HW7.out; have := HGE.out; have := HGX2.out; omega)))
      clear hch hS0 Hx63 Hr63 HB63 HZ63
      generalize (w8.setCell ⟨gx, 3, none⟩ (.slice p7 l7 c7)) = WG at *
      refine hK.out _ _ (trivial) (fun hS0 => ?_)
      clear hK K
      try simp only [Act.put, List.getElem_toArray, List.getElem_cons_succ, List.getElem_cons_zero, List.setIfInBounds_toArray, List.set_cons_zero, List.set_cons_succ]
      refine tkq 8 ?_
      refine rdq 9 (fun K hK => ?_)
      have z0 : WG.cell? ⟨gx, 0, none⟩ = some (.int .i64 x.r.cu) := Hx64.out.cell 0
      have z1 : WG.cell? ⟨gx, 1, none⟩ = some (.int .i64 x.r.st) := Hx64.out.cell 1
      have z2 : WG.cell? ⟨gx, 2, none⟩ = some (.slice (some ⟨g, 0, none⟩) q c3) := Hx64.out.cell 2
      have z3 : WG.cell? ⟨gx, 3, none⟩ = some (.slice p7 l7 c7) := Hx64.out.cell 3
      have z4 : WG.cell? ⟨gx, 4, none⟩ = some (.slice x.pn x.r.ns.length x.cn) := Hx64.out.cell 4
      have f0 := Hx64.out.free 0
      have f1 := Hx64.out.free 1
      have f2 := Hx64.out.free 2
      have f3 := Hx64.out.free 3
      have f4 := Hx64.out.free 4
      go_simp
      clear z0 f0 z1 f1 z2 f2 z3 f3 z4 f4
      have hch := Lib.hid ((Chg.refl gx WG).set 4 (.slice p8 l8 c8))
      have Hx65 : Hid (Blk _ gx #[.int .i64 x.r.cu, .int .i64 x.r.st, .slice (some ⟨g, 0, none⟩) q c3, .slice p7 l7 c7, .slice p8 l8 c8] 56) := Lib.hid (Hx64.out.set 4 (.slice p8 l8 c8))
      have HB65 := ksq HB64 hch (by show w.heap.size ≤ gx; have := HWL.out; have := HW1.out; have := HGX2.out; omega)
      have HZ65 := kzq HZ64 hch.out.size
      have Hr65 := kcq Hr64 hch (by have := HWL.out; have := HW1.out; have := HGX2.out; omega)
      have HV3 : Hid (∀ z ∈ zs, z.In (fun b => W2.heap.size ≤ b ∧ b ≠ g) _) := Lib.hid (fun z hz => (HV3.out z hz).keepP (KeepP.of_chg hch.out (fun h => by have := HGX2.out; omega)))
      have HV1 := Lib.hid (HV1.out.stay (fun b hb => hch.out.2 b (HV1.out.lt b hb) (by have h1 := HV1.out.block_ge b hb; have := HGX2.out; omega)))
      have HNL := Lib.hid (HNL.out.stay (fun b hb => hch.out.2 b (HNL.out.lt b hb) (by have h1 := HNL.out.block_ge b hb; have := HGE.out; have := HGX2.out; omega)))
      have HNN8 := Lib.hid (HNN8.out.stayV (fun b hb => hch.out.2 b (HNN8.out.lt b hb) (by have h1 := HNN8.out.block_ge b hb; have := HW7.out; have := HGE.out; have := HGX2.out; omega)))
      clear hch hS0 Hx64 Hr64 HB64 HZ64
      generalize (WG.setCell ⟨gx, 4, none⟩ (.slice p8 l8 c8)) = WH at *
      refine hK.out _ _ (trivial) (fun hS0 => ?_)
      clear hK K
      try simp only [Act.put, List.getElem_toArray, List.getElem_cons_succ, List.getElem_cons_zero, List.setIfInBounds_toArray, List.set_cons_zero, List.set_cons_succ]
      refine wpAnyH_done (by kernel_rfl) ?_ _
      clear hS0
      have x0 : WH.cell? ⟨gx, 0, none⟩ = some (.int .i64 x.r.cu) := Hx65.out.cell 0
      have x1 : WH.cell? ⟨gx, 1, none⟩ = some (.int .i64 x.r.st) := Hx65.out.cell 1
      have x2 : WH.cell? ⟨gx, 2, none⟩ = some (.slice (some ⟨g, 0, none⟩) q c3) := Hx65.out.cell 2
      have x3 : WH.cell? ⟨gx, 3, none⟩ = some (.slice p7 l7 c7) := Hx65.out.cell 3
      have x4 : WH.cell? ⟨gx, 4, none⟩ = some (.slice p8 l8 c8) := Hx65.out.cell 4
      go_wp2_with (with_reducible refine stop_storeT 56 (.tmp 4) (.tmp 49) rfl ?_)
      clear x0 x1 x2 x3 x4
      have HTH : Hid (WH.there (w.heap.size + 1) 0 5) := Hr65.out.thereAt
      have hch : Hid (Chg (w.heap.size + 1) WH (WH.setCells (w.heap.size + 1) 0 (#[.int .i64 x.r.cu, .int .i64 x.r.st, .slice (some ⟨g, 0, none⟩) q c3, .slice p7 l7 c7, .slice p8 l8 c8] : Array Value).toList)) := Lib.hid (chg_putL _ _ _ _ _ (Chg.refl _ WH))
      have Hr66 : Hid (Blk (WH.setCells (w.heap.size + 1) 0 (#[.int .i64 x.r.cu, .int .i64 x.r.st, .slice (some ⟨g, 0, none⟩) q c3, .slice p7 l7 c7, .slice p8 l8 c8] : Array Value).toList) (w.heap.size + 1) #[.int .i64 x.r.cu, .int .i64 x.r.st, .slice (some ⟨g, 0, none⟩) q c3, .slice p7 l7 c7, .slice p8 l8 c8] 56) := Lib.hid (blk_put_all Hr65.out _ rfl)
      have HB66 : Hid (Below w.heap.size w (WH.setCells (w.heap.size + 1) 0 (#[.int .i64 x.r.cu, .int .i64 x.r.st, .slice (some ⟨g, 0, none⟩) q c3, .slice p7 l7 c7, .slice p8 l8 c8] : Array Value).toList)) := Lib.hid (below_put (by have := HWL.out; have := HW1.out; have := HGX2.out; omega) _ _ _ _ HB65.out)
      have HZ66 := kzq HZ65 hch.out.size
      have Hx66 := kcq Hx65 hch (by have := HWL.out; have := HW1.out; have := HGX2.out; omega)
      have HV3 : Hid (∀ z ∈ zs, z.In (fun b => W2.heap.size ≤ b ∧ b ≠ g) _) := Lib.hid (fun z hz => (HV3.out z hz).keepP (KeepP.of_chg hch.out (fun h => by have := HGX2.out; have := HWL.out; have := HW1.out; omega)))
      have HV1 := Lib.hid (HV1.out.stay (fun b hb => hch.out.2 b (HV1.out.lt b hb) (by have h1 := HV1.out.block_ge b hb; have := HGX2.out; have := HWL.out; have := HW1.out; omega)))
      have HNL := Lib.hid (HNL.out.stay (fun b hb => hch.out.2 b (HNL.out.lt b hb) (by have h1 := HNL.out.block_ge b hb; have := HGE.out; have := HGX2.out; have := HWL.out; have := HW1.out; omega)))
      have HNN8 := Lib.hid (HNN8.out.stayV (fun b hb => hch.out.2 b (HNN8.out.lt b hb) (by have h1 := HNN8.out.block_ge b hb; have := HW7.out; have := HGE.out; have := HGX2.out; have := HWL.out; have := HW1.out; omega)))
      clear hch Hx65 Hr65 HB65 HZ65
      refine wpList_store_mid rfl 56 (.tmp 4) (.tmp 49) rfl (w.heap.size + 1) 0 #[.int .i64 x.r.cu, .int .i64 x.r.st, .slice (some ⟨g, 0, none⟩) q c3, .slice p7 l7 c7, .slice p8 l8 c8] rfl rfl HTH.out (infoR5 rfl) (all_oneCell_toArray (by intro u hu; simp at hu; rcases hu with rfl | rfl | rfl | rfl | rfl <;> rfl)) ?_
      generalize (WH.setCells (w.heap.size + 1) 0 (#[.int .i64 x.r.cu, .int .i64 x.r.st, .slice (some ⟨g, 0, none⟩) q c3, .slice p7 l7 c7, .slice p8 l8 c8] : Array Value).toList) = WI at *
      clear HTH
      go_wp2_with fail
      have hfr := Hr66.out
      refine bodyPost_ret (v := .tuple #[.agg #[.int .i64 x.r.cu, .int .i64 x.r.st, .slice (some ⟨g, 0, none⟩) q c3, .slice p7 l7 c7, .slice p8 l8 c8], .bool true]) (by simp [results, Try.results11, go_sem, hfr.cell 0, hfr.cell 1, hfr.cell 2, hfr.cell 3, hfr.cell 4]) rfl ?_
      refine ⟨(⟨x.r, some ⟨g, 0, none⟩, c3, p7, c7, p8, c8⟩ : RunX), by rw [RunX.v_mk, HLQ.out, HL7.out, HL8.out], ⟨fun _ => ⟨HXR.out.symm, ⟨?_, ?_, ?_, ?_, ?_⟩, by rw [HL7.out]; have h4 := HNL.out.fre; rw [HL7.out] at h4; exact h4⟩, (fun h => by cases h)⟩, HB66.out⟩
      ·show HsR _ _ (.slice (some ⟨g, 0, none⟩) x.r.hs.length c3) x.r.hs
       rw [HLQ.out]
       refine ⟨zs, HV1.out.row, HV1.out.at_lt.imp (fun b h => by have := HGX2.out; have := HWL.out; have := HW1.out; omega), fun z hz => (HV3.out z hz).imp (fun b h => by have := HGX2.out; have := HWL.out; have := HW1.out; omega), HV2.out⟩
      ·show TRow encN _ (.slice p7 x.r.ls.length c7) x.r.ls
       rw [HL7.out]; exact HNL.out.row
      ·show At _ (.slice p7 x.r.ls.length c7) x.r.ls.length
       have h4 := HNL.out.at_lt
       rw [HL7.out] at h4 ⊢
       exact h4.imp (fun b h => by have := HGE.out; have := HGX2.out; have := HWL.out; have := HW1.out; omega)
      ·show Row .i64 _ (.slice p8 x.r.ns.length c8) x.r.ns
       rw [HL8.out]; exact HNN8.out.row
      ·show At _ (.slice p8 x.r.ns.length c8) x.r.ns.length
       have h4 := HNN8.out.at_lt
       rw [HL8.out] at h4 ⊢
       exact h4.imp (fun b h => by have := HW7.out; have := HGE.out; have := HGX2.out; have := HWL.out; have := HW1.out; omega)
     ·skip
      have u4 : WE.cell? ⟨gx, 4, none⟩ = some (.slice x.pn x.r.ns.length x.cn) := Hx61.out.cell 4
      go_simp
      clear u4 hS0
      refine hK.out _ _ trivial (fun hS0 => ?_)
      clear hK K
      try simp only [Act.put, List.getElem_toArray, List.getElem_cons_succ, List.getElem_cons_zero, List.setIfInBounds_toArray, List.set_cons_zero, List.set_cons_succ]
      refine rdq 2 (fun K hK => ?_)
      have HG := Lib.hid (cloneN_any WE (.slice x.pl x.r.ls.length x.cl) x.r.ls (HXI.out.kept HB61.out).ls HSZ.out.2.1)
      go_simp
      go_at_call 23
      refine HG.out.mono ?_
      rintro y9 w7 ⟨v7, rfl, ho, hb⟩
      clear HG
      have HW7 : Hid (WE.heap.size ≤ w7.heap.size) := Lib.hid hb.size
      have HV1 := Lib.hid (HV1.out.later hb)
      have HV3 : Hid (∀ z ∈ zs, z.In (fun b => W2.heap.size ≤ b ∧ b ≠ g) _) := Lib.hid (fun z hz => (HV3.out z hz).kept hb)
      have HNL := Lib.hid ho
      clear ho
      obtain ⟨p7, c7, hv7⟩ := HNL.out.form
      obtain ⟨l7, hl7⟩ : ∃ l7, x.r.ls.length = l7 := ⟨_, rfl⟩
      rw [hl7] at hv7
      subst hv7
      have HL7 := Lib.hid hl7
      clear hl7
      have Hx62 := kbq Hx61 hb
      have Hr62 := kbq Hr61 hb
      have HB62 := ktq HB61 hb
      have HZ62 := kzq HZ61 hb.size
      clear Hx61 Hr61 HB61 HZ61
      clear hb hS0
      try go_wp2_with fail
      refine hK.out _ _ trivial (fun hS0 => ?_)
      clear hK K
      try simp only [Act.put, List.getElem_toArray, List.getElem_cons_succ, List.getElem_cons_zero, List.setIfInBounds_toArray, List.set_cons_zero, List.set_cons_succ]
      refine tkq 6 ?_
      refine rdq 5 (fun K hK => ?_)
      have HG := Lib.hid (clone64_any w7 (.slice x.pn x.r.ns.length x.cn) x.r.ns (HXI.out.kept HB62.out).ns HSZ.out.2.2)
      go_simp
      go_at_call 24
      refine HG.out.mono ?_
      rintro y9 w8 ⟨v8, rfl, ho, hb⟩
      clear HG
      have HV1 := Lib.hid (HV1.out.later hb)
      have HV3 : Hid (∀ z ∈ zs, z.In (fun b => W2.heap.size ≤ b ∧ b ≠ g) _) := Lib.hid (fun z hz => (HV3.out z hz).kept hb)
      have HNL := Lib.hid (HNL.out.later hb)
      have HNN8 := Lib.hid ho
      clear ho
      obtain ⟨p8, c8, hv8⟩ := HNN8.out.form
      obtain ⟨l8, hl8⟩ : ∃ l8, x.r.ns.length = l8 := ⟨_, rfl⟩
      rw [hl8] at hv8
      subst hv8
      have HL8 := Lib.hid hl8
      clear hl8
      have Hx63 := kbq Hx62 hb
      have Hr63 := kbq Hr62 hb
      have HB63 := ktq HB62 hb
      have HZ63 := kzq HZ62 hb.size
      clear Hx62 Hr62 HB62 HZ62
      clear hb hS0
      try go_wp2_with fail
      refine hK.out _ _ trivial (fun hS0 => ?_)
      clear hK K
      try simp only [Act.put, List.getElem_toArray, List.getElem_cons_succ, List.getElem_cons_zero, List.setIfInBounds_toArray, List.set_cons_zero, List.set_cons_succ]
      refine rdq 7 (fun K hK => ?_)
      have z0 : w8.cell? ⟨gx, 0, none⟩ = some (.int .i64 x.r.cu) := Hx63.out.cell 0
      have z1 : w8.cell? ⟨gx, 1, none⟩ = some (.int .i64 x.r.st) := Hx63.out.cell 1
      have z2 : w8.cell? ⟨gx, 2, none⟩ = some (.slice (some ⟨g, 0, none⟩) q c3) := Hx63.out.cell 2
      have z3 : w8.cell? ⟨gx, 3, none⟩ = some (.slice x.pl x.r.ls.length x.cl) := Hx63.out.cell 3
      have z4 : w8.cell? ⟨gx, 4, none⟩ = some (.slice x.pn x.r.ns.length x.cn) := Hx63.out.cell 4
      have f0 := Hx63.out.free 0
      have f1 := Hx63.out.free 1
      have f2 := Hx63.out.free 2
      have f3 := Hx63.out.free 3
      have f4 := Hx63.out.free 4
      go_simp
      clear z0 f0 z1 f1 z2 f2 z3 f3 z4 f4
      have hch := Lib.hid ((Chg.refl gx w8).set 3 (.slice p7 l7 c7))
      have Hx64 : Hid (Blk _ gx #[.int .i64 x.r.cu, .int .i64 x.r.st, .slice (some ⟨g, 0, none⟩) q c3, .slice p7 l7 c7, .slice x.pn x.r.ns.length x.cn] 56) := Lib.hid (Hx63.out.set 3 (.slice p7 l7 c7))
      have HB64 := ksq HB63 hch (by show w.heap.size ≤ gx; have := HWL.out; have := HW1.out; have := HGX2.out; omega)
      have HZ64 := kzq HZ63 hch.out.size
      have Hr64 := kcq Hr63 hch (by have := HWL.out; have := HW1.out; have := HGX2.out; omega)
      have HV3 : Hid (∀ z ∈ zs, z.In (fun b => W2.heap.size ≤ b ∧ b ≠ g) _) := Lib.hid (fun z hz => (HV3.out z hz).keepP (KeepP.of_chg hch.out (fun h => by have := HGX2.out; omega)))
      have HV1 := Lib.hid (HV1.out.stay (fun b hb => hch.out.2 b (HV1.out.lt b hb) (by have h1 := HV1.out.block_ge b hb; have := HGX2.out; omega)))
      have HNL := Lib.hid (HNL.out.stay (fun b hb => hch.out.2 b (HNL.out.lt b hb) (by have h1 := HNL.out.block_ge b hb; have := HGE.out; have := HGX2.out; omega)))
      have HNN8 := Lib.hid (HNN8.out.stayV (fun b hb => hch.out.2 b (HNN8.out.lt b hb) (by have h1 := HNN8.out.block_ge b hb; have := HW7.out; have := HGE.out; have := HGX2.out; omega)))
      clear hch hS0 Hx63 Hr63 HB63 HZ63
      generalize (w8.setCell ⟨gx, 3, none⟩ (.slice p7 l7 c7)) = WG at *
      refine hK.out _ _ (trivial) (fun hS0 => ?_)
      clear hK K
      try simp only [Act.put, List.getElem_toArray, List.getElem_cons_succ, List.getElem_cons_zero, List.setIfInBounds_toArray, List.set_cons_zero, List.set_cons_succ]
      refine tkq 8 ?_
      refine rdq 9 (fun K hK => ?_)
      have z0 : WG.cell? ⟨gx, 0, none⟩ = some (.int .i64 x.r.cu) := Hx64.out.cell 0
      have z1 : WG.cell? ⟨gx, 1, none⟩ = some (.int .i64 x.r.st) := Hx64.out.cell 1
      have z2 : WG.cell? ⟨gx, 2, none⟩ = some (.slice (some ⟨g, 0, none⟩) q c3) := Hx64.out.cell 2
      have z3 : WG.cell? ⟨gx, 3, none⟩ = some (.slice p7 l7 c7) := Hx64.out.cell 3
      have z4 : WG.cell? ⟨gx, 4, none⟩ = some (.slice x.pn x.r.ns.length x.cn) := Hx64.out.cell 4
      have f0 := Hx64.out.free 0
      have f1 := Hx64.out.free 1
      have f2 := Hx64.out.free 2
      have f3 := Hx64.out.free 3
      have f4 := Hx64.out.free 4
      go_simp
      clear z0 f0 z1 f1 z2 f2 z3 f3 z4 f4
      have hch := Lib.hid ((Chg.refl gx WG).set 4 (.slice p8 l8 c8))
      have Hx65 : Hid (Blk _ gx #[.int .i64 x.r.cu, .int .i64 x.r.st, .slice (some ⟨g, 0, none⟩) q c3, .slice p7 l7 c7, .slice p8 l8 c8] 56) := Lib.hid (Hx64.out.set 4 (.slice p8 l8 c8))
      have HB65 := ksq HB64 hch (by show w.heap.size ≤ gx; have := HWL.out; have := HW1.out; have := HGX2.out; omega)
      have HZ65 := kzq HZ64 hch.out.size
      have Hr65 := kcq Hr64 hch (by have := HWL.out; have := HW1.out; have := HGX2.out; omega)
      have HV3 : Hid (∀ z ∈ zs, z.In (fun b => W2.heap.size ≤ b ∧ b ≠ g) _) := Lib.hid (fun z hz => (HV3.out z hz).keepP (KeepP.of_chg hch.out (fun h => by have := HGX2.out; omega)))
      have HV1 := Lib.hid (HV1.out.stay (fun b hb => hch.out.2 b (HV1.out.lt b hb) (by have h1 := HV1.out.block_ge b hb; have := HGX2.out; omega)))
      have HNL := Lib.hid (HNL.out.stay (fun b hb => hch.out.2 b (HNL.out.lt b hb) (by have h1 := HNL.out.block_ge b hb; have := HGE.out; have := HGX2.out; omega)))
      have HNN8 := Lib.hid (HNN8.out.stayV (fun b hb => hch.out.2 b (HNN8.out.lt b hb) (by have h1 := HNN8.out.block_ge b hb; have := HW7.out; have := HGE.out; have := HGX2.out; omega)))
      clear hch hS0 Hx64 Hr64 HB64 HZ64
      generalize (WG.setCell ⟨gx, 4, none⟩ (.slice p8 l8 c8)) = WH at *
      refine hK.out _ _ (trivial) (fun hS0 => ?_)
      clear hK K
      try simp only [Act.put, List.getElem_toArray, List.getElem_cons_succ, List.getElem_cons_zero, List.setIfInBounds_toArray, List.set_cons_zero, List.set_cons_succ]
      refine wpAnyH_done (by kernel_rfl) ?_ _
      clear hS0
      have x0 : WH.cell? ⟨gx, 0, none⟩ = some (.int .i64 x.r.cu) := Hx65.out.cell 0
      have x1 : WH.cell? ⟨gx, 1, none⟩ = some (.int .i64 x.r.st) := Hx65.out.cell 1
      have x2 : WH.cell? ⟨gx, 2, none⟩ = some (.slice (some ⟨g, 0, none⟩) q c3) := Hx65.out.cell 2
      have x3 : WH.cell? ⟨gx, 3, none⟩ = some (.slice p7 l7 c7) := Hx65.out.cell 3
      have x4 : WH.cell? ⟨gx, 4, none⟩ = some (.slice p8 l8 c8) := Hx65.out.cell 4
      go_wp2_with (with_reducible refine stop_storeT 56 (.tmp 4) (.tmp 49) rfl ?_)
      clear x0 x1 x2 x3 x4
      have HTH : Hid (WH.there (w.heap.size + 1) 0 5) := Hr65.out.thereAt
      have hch : Hid (Chg (w.heap.size + 1) WH (WH.setCells (w.heap.size + 1) 0 (#[.int .i64 x.r.cu, .int .i64 x.r.st, .slice (some ⟨g, 0, none⟩) q c3, .slice p7 l7 c7, .slice p8 l8 c8] : Array Value).toList)) := Lib.hid (chg_putL _ _ _ _ _ (Chg.refl _ WH))
      have Hr66 : Hid (Blk (WH.setCells (w.heap.size + 1) 0 (#[.int .i64 x.r.cu, .int .i64 x.r.st, .slice (some ⟨g, 0, none⟩) q c3, .slice p7 l7 c7, .slice p8 l8 c8] : Array Value).toList) (w.heap.size + 1) #[.int .i64 x.r.cu, .int .i64 x.r.st, .slice (some ⟨g, 0, none⟩) q c3, .slice p7 l7 c7, .slice p8 l8 c8] 56) := Lib.hid (blk_put_all Hr65.out _ rfl)
      have HB66 : Hid (Below w.heap.size w (WH.setCells (w.heap.size + 1) 0 (#[.int .i64 x.r.cu, .int .i64 x.r.st, .slice (some ⟨g, 0, none⟩) q c3, .slice p7 l7 c7, .slice p8 l8 c8] : Array Value).toList)) := Lib.hid (below_put (by have := HWL.out; have := HW1.out; have := HGX2.out; omega) _ _ _ _ HB65.out)
      have HZ66 := kzq HZ65 hch.out.size
      have Hx66 := kcq Hx65 hch (by have := HWL.out; have := HW1.out; have := HGX2.out; omega)
      have HV3 : Hid (∀ z ∈ zs, z.In (fun b => W2.heap.size ≤ b ∧ b ≠ g) _) := Lib.hid (fun z hz => (HV3.out z hz).keepP (KeepP.of_chg hch.out (fun h => by have := HGX2.out; have := HWL.out; have := HW1.out; omega)))
      have HV1 := Lib.hid (HV1.out.stay (fun b hb => hch.out.2 b (HV1.out.lt b hb) (by have h1 := HV1.out.block_ge b hb; have := HGX2.out; have := HWL.out; have := HW1.out; omega)))
      have HNL := Lib.hid (HNL.out.stay (fun b hb => hch.out.2 b (HNL.out.lt b hb) (by have h1 := HNL.out.block_ge b hb; have := HGE.out; have := HGX2.out; have := HWL.out; have := HW1.out; omega)))
      have HNN8 := Lib.hid (HNN8.out.stayV (fun b hb => hch.out.2 b (HNN8.out.lt b hb) (by have h1 := HNN8.out.block_ge b hb; have := HW7.out; have := HGE.out; have := HGX2.out; have := HWL.out; have := HW1.out; omega)))
      clear hch Hx65 Hr65 HB65 HZ65
      refine wpList_store_mid rfl 56 (.tmp 4) (.tmp 49) rfl (w.heap.size + 1) 0 #[.int .i64 x.r.cu, .int .i64 x.r.st, .slice (some ⟨g, 0, none⟩) q c3, .slice p7 l7 c7, .slice p8 l8 c8] rfl rfl HTH.out (infoR5 rfl) (all_oneCell_toArray (by intro u hu; simp at hu; rcases hu with rfl | rfl | rfl | rfl | rfl <;> rfl)) ?_
      generalize (WH.setCells (w.heap.size + 1) 0 (#[.int .i64 x.r.cu, .int .i64 x.r.st, .slice (some ⟨g, 0, none⟩) q c3, .slice p7 l7 c7, .slice p8 l8 c8] : Array Value).toList) = WI at *
      clear HTH
      go_wp2_with fail
      have hfr := Hr66.out
      refine bodyPost_ret (v := .tuple #[.agg #[.int .i64 x.r.cu, .int .i64 x.r.st, .slice (some ⟨g, 0, none⟩) q c3, .slice p7 l7 c7, .slice p8 l8 c8], .bool true]) (by simp [results, Try.results11, go_sem, hfr.cell 0, hfr.cell 1, hfr.cell 2, hfr.cell 3, hfr.cell 4]) rfl ?_
      refine ⟨(⟨x.r, some ⟨g, 0, none⟩, c3, p7, c7, p8, c8⟩ : RunX), by rw [RunX.v_mk, HLQ.out, HL7.out, HL8.out], ⟨fun _ => ⟨HXR.out.symm, ⟨?_, ?_, ?_, ?_, ?_⟩, by rw [HL7.out]; have h4 := HNL.out.fre; rw [HL7.out] at h4; exact h4⟩, (fun h => by cases h)⟩, HB66.out⟩
      ·show HsR _ _ (.slice (some ⟨g, 0, none⟩) x.r.hs.length c3) x.r.hs
       rw [HLQ.out]
       refine ⟨zs, HV1.out.row, HV1.out.at_lt.imp (fun b h => by have := HGX2.out; have := HWL.out; have := HW1.out; omega), fun z hz => (HV3.out z hz).imp (fun b h => by have := HGX2.out; have := HWL.out; have := HW1.out; omega), HV2.out⟩
      ·show TRow encN _ (.slice p7 x.r.ls.length c7) x.r.ls
       rw [HL7.out]; exact HNL.out.row
      ·show At _ (.slice p7 x.r.ls.length c7) x.r.ls.length
       have h4 := HNL.out.at_lt
       rw [HL7.out] at h4 ⊢
       exact h4.imp (fun b h => by have := HGE.out; have := HGX2.out; have := HWL.out; have := HW1.out; omega)
      ·show Row .i64 _ (.slice p8 x.r.ns.length c8) x.r.ns
       rw [HL8.out]; exact HNN8.out.row
      ·show At _ (.slice p8 x.r.ns.length c8) x.r.ns.length
       have h4 := HNN8.out.at_lt
       rw [HL8.out] at h4 ⊢
       exact h4.imp (fun b h => by have := HW7.out; have := HGE.out; have := HGX2.out; have := HWL.out; have := HW1.out; omega)
    ·skip
     have u4 : WE.cell? ⟨gx, 4, none⟩ = some (.slice x.pn x.r.ns.length x.cn) := Hx61.out.cell 4
     go_simp
     clear u4 hS0
     refine hK.out _ _ trivial (fun hS0 => ?_)
     clear hK K
     try simp only [Act.put, List.getElem_toArray, List.getElem_cons_succ, List.getElem_cons_zero, List.setIfInBounds_toArray, List.set_cons_zero, List.set_cons_succ]
     refine rdq 1 (fun K hK => ?_)
     have u3 : WE.cell? ⟨gx, 3, none⟩ = some (.slice x.pl x.r.ls.length x.cl) := Hx61.out.cell 3
     go_simp
     clear u3 hS0
     refine hK.out _ _ trivial (fun hS0 => ?_)
     clear hK K
     try simp only [Act.put, List.getElem_toArray, List.getElem_cons_succ, List.getElem_cons_zero, List.setIfInBounds_toArray, List.set_cons_zero, List.set_cons_succ]
     refine rdq 2 (fun K hK => ?_)
     have HG := Lib.hid (cloneN_any WE (.slice x.pl x.r.ls.length x.cl) x.r.ls (HXI.out.kept HB61.out).ls HSZ.out.2.1)
     go_simp
     go_at_call 23
     refine HG.out.mono ?_
     rintro y9 w7 ⟨v7, rfl, ho, hb⟩
     clear HG
     have HW7 : Hid (WE.heap.size ≤ w7.heap.size) := Lib.hid hb.size
     have HV1 := Lib.hid (HV1.out.later hb)
     have HV3 : Hid (∀ z ∈ zs, z.In (fun b => W2.heap.size ≤ b ∧ b ≠ g) _) := Lib.hid (fun z hz => (HV3.out z hz).kept hb)
     have HNL := Lib.hid ho
     clear ho
     obtain ⟨p7, c7, hv7⟩ := HNL.out.form
     obtain ⟨l7, hl7⟩ : ∃ l7, x.r.ls.length = l7 := ⟨_, rfl⟩
     rw [hl7] at hv7
     subst hv7
     have HL7 := Lib.hid hl7
     clear hl7
     have Hx62 := kbq Hx61 hb
     have Hr62 := kbq Hr61 hb
     have HB62 := ktq HB61 hb
     have HZ62 := kzq HZ61 hb.size
     clear Hx61 Hr61 HB61 HZ61
     clear hb hS0
     try go_wp2_with fail
     refine hK.out _ _ trivial (fun hS0 => ?_)
     clear hK K
     try simp only [Act.put, List.getElem_toArray, List.getElem_cons_succ, List.getElem_cons_zero, List.setIfInBounds_toArray, List.set_cons_zero, List.set_cons_succ]
     refine tkq 6 ?_
     refine rdq 5 (fun K hK => ?_)
     have HG := Lib.hid (clone64_any w7 (.slice x.pn x.r.ns.length x.cn) x.r.ns (HXI.out.kept HB62.out).ns HSZ.out.2.2)
     go_simp
     go_at_call 24
     refine HG.out.mono ?_
     rintro y9 w8 ⟨v8, rfl, ho, hb⟩
     clear HG
     have HV1 := Lib.hid (HV1.out.later hb)
     have HV3 : Hid (∀ z ∈ zs, z.In (fun b => W2.heap.size ≤ b ∧ b ≠ g) _) := Lib.hid (fun z hz => (HV3.out z hz).kept hb)
     have HNL := Lib.hid (HNL.out.later hb)
     have HNN8 := Lib.hid ho
     clear ho
     obtain ⟨p8, c8, hv8⟩ := HNN8.out.form
     obtain ⟨l8, hl8⟩ : ∃ l8, x.r.ns.length = l8 := ⟨_, rfl⟩
     rw [hl8] at hv8
     subst hv8
     have HL8 := Lib.hid hl8
     clear hl8
     have Hx63 := kbq Hx62 hb
     have Hr63 := kbq Hr62 hb
     have HB63 := ktq HB62 hb
     have HZ63 := kzq HZ62 hb.size
     clear Hx62 Hr62 HB62 HZ62
     clear hb hS0
     try go_wp2_with fail
     refine hK.out _ _ trivial (fun hS0 => ?_)
     clear hK K
     try simp only [Act.put, List.getElem_toArray, List.getElem_cons_succ, List.getElem_cons_zero, List.setIfInBounds_toArray, List.set_cons_zero, List.set_cons_succ]
     refine rdq 7 (fun K hK => ?_)
     have z0 : w8.cell? ⟨gx, 0, none⟩ = some (.int .i64 x.r.cu) := Hx63.out.cell 0
     have z1 : w8.cell? ⟨gx, 1, none⟩ = some (.int .i64 x.r.st) := Hx63.out.cell 1
     have z2 : w8.cell? ⟨gx, 2, none⟩ = some (.slice (some ⟨g, 0, none⟩) q c3) := Hx63.out.cell 2
     have z3 : w8.cell? ⟨gx, 3, none⟩ = some (.slice x.pl x.r.ls.length x.cl) := Hx63.out.cell 3
     have z4 : w8.cell? ⟨gx, 4, none⟩ = some (.slice x.pn x.r.ns.length x.cn) := Hx63.out.cell 4
     have f0 := Hx63.out.free 0
     have f1 := Hx63.out.free 1
     have f2 := Hx63.out.free 2
     have f3 := Hx63.out.free 3
     have f4 := Hx63.out.free 4
     go_simp
     clear z0 f0 z1 f1 z2 f2 z3 f3 z4 f4
     have hch := Lib.hid ((Chg.refl gx w8).set 3 (.slice p7 l7 c7))
     have Hx64 : Hid (Blk _ gx #[.int .i64 x.r.cu, .int .i64 x.r.st, .slice (some ⟨g, 0, none⟩) q c3, .slice p7 l7 c7, .slice x.pn x.r.ns.length x.cn] 56) := Lib.hid (Hx63.out.set 3 (.slice p7 l7 c7))
     have HB64 := ksq HB63 hch (by show w.heap.size ≤ gx; have := HWL.out; have := HW1.out; have := HGX2.out; omega)
     have HZ64 := kzq HZ63 hch.out.size
     have Hr64 := kcq Hr63 hch (by have := HWL.out; have := HW1.out; have := HGX2.out; omega)
     have HV3 : Hid (∀ z ∈ zs, z.In (fun b => W2.heap.size ≤ b ∧ b ≠ g) _) := Lib.hid (fun z hz => (HV3.out z hz).keepP (KeepP.of_chg hch.out (fun h => by have := HGX2.out; omega)))
     have HV1 := Lib.hid (HV1.out.stay (fun b hb => hch.out.2 b (HV1.out.lt b hb) (by have h1 := HV1.out.block_ge b hb; have := HGX2.out; omega)))
     have HNL := Lib.hid (HNL.out.stay (fun b hb => hch.out.2 b (HNL.out.lt b hb) (by have h1 := HNL.out.block_ge b hb; have := HGE.out; have := HGX2.out; omega)))
     have HNN8 := Lib.hid (HNN8.out.stayV (fun b hb => hch.out.2 b (HNN8.out.lt b hb) (by have h1 := HNN8.out.block_ge b hb; have := HW7.out; have := HGE.out; have := HGX2.out; omega)))
     clear hch hS0 Hx63 Hr63 HB63 HZ63
     generalize (w8.setCell ⟨gx, 3, none⟩ (.slice p7 l7 c7)) = WG at *
     refine hK.out _ _ (trivial) (fun hS0 => ?_)
     clear hK K
     try simp only [Act.put, List.getElem_toArray, List.getElem_cons_succ, List.getElem_cons_zero, List.setIfInBounds_toArray, List.set_cons_zero, List.set_cons_succ]
     refine tkq 8 ?_
     refine rdq 9 (fun K hK => ?_)
     have z0 : WG.cell? ⟨gx, 0, none⟩ = some (.int .i64 x.r.cu) := Hx64.out.cell 0
     have z1 : WG.cell? ⟨gx, 1, none⟩ = some (.int .i64 x.r.st) := Hx64.out.cell 1
     have z2 : WG.cell? ⟨gx, 2, none⟩ = some (.slice (some ⟨g, 0, none⟩) q c3) := Hx64.out.cell 2
     have z3 : WG.cell? ⟨gx, 3, none⟩ = some (.slice p7 l7 c7) := Hx64.out.cell 3
     have z4 : WG.cell? ⟨gx, 4, none⟩ = some (.slice x.pn x.r.ns.length x.cn) := Hx64.out.cell 4
     have f0 := Hx64.out.free 0
     have f1 := Hx64.out.free 1
     have f2 := Hx64.out.free 2
     have f3 := Hx64.out.free 3
     have f4 := Hx64.out.free 4
     go_simp
     clear z0 f0 z1 f1 z2 f2 z3 f3 z4 f4
     have hch := Lib.hid ((Chg.refl gx WG).set 4 (.slice p8 l8 c8))
     have Hx65 : Hid (Blk _ gx #[.int .i64 x.r.cu, .int .i64 x.r.st, .slice (some ⟨g, 0, none⟩) q c3, .slice p7 l7 c7, .slice p8 l8 c8] 56) := Lib.hid (Hx64.out.set 4 (.slice p8 l8 c8))
     have HB65 := ksq HB64 hch (by show w.heap.size ≤ gx; have := HWL.out; have := HW1.out; have := HGX2.out; omega)
     have HZ65 := kzq HZ64 hch.out.size
     have Hr65 := kcq Hr64 hch (by have := HWL.out; have := HW1.out; have := HGX2.out; omega)
     have HV3 : Hid (∀ z ∈ zs, z.In (fun b => W2.heap.size ≤ b ∧ b ≠ g) _) := Lib.hid (fun z hz => (HV3.out z hz).keepP (KeepP.of_chg hch.out (fun h => by have := HGX2.out; omega)))
     have HV1 := Lib.hid (HV1.out.stay (fun b hb => hch.out.2 b (HV1.out.lt b hb) (by have h1 := HV1.out.block_ge b hb; have := HGX2.out; omega)))
     have HNL := Lib.hid (HNL.out.stay (fun b hb => hch.out.2 b (HNL.out.lt b hb) (by have h1 := HNL.out.block_ge b hb; have := HGE.out; have := HGX2.out; omega)))
     have HNN8 := Lib.hid (HNN8.out.stayV (fun b hb => hch.out.2 b (HNN8.out.lt b hb) (by have h1 := HNN8.out.block_ge b hb; have := HW7.out; have := HGE.out; have := HGX2.out; omega)))
     clear hch hS0 Hx64 Hr64 HB64 HZ64
     generalize (WG.setCell ⟨gx, 4, none⟩ (.slice p8 l8 c8)) = WH at *
     refine hK.out _ _ (trivial) (fun hS0 => ?_)
     clear hK K
     try simp only [Act.put, List.getElem_toArray, List.getElem_cons_succ, List.getElem_cons_zero, List.setIfInBounds_toArray, List.set_cons_zero, List.set_cons_succ]
     refine wpAnyH_done (by kernel_rfl) ?_ _
     clear hS0
     have x0 : WH.cell? ⟨gx, 0, none⟩ = some (.int .i64 x.r.cu) := Hx65.out.cell 0
     have x1 : WH.cell? ⟨gx, 1, none⟩ = some (.int .i64 x.r.st) := Hx65.out.cell 1
     have x2 : WH.cell? ⟨gx, 2, none⟩ = some (.slice (some ⟨g, 0, none⟩) q c3) := Hx65.out.cell 2
     have x3 : WH.cell? ⟨gx, 3, none⟩ = some (.slice p7 l7 c7) := Hx65.out.cell 3
     have x4 : WH.cell? ⟨gx, 4, none⟩ = some (.slice p8 l8 c8) := Hx65.out.cell 4
     go_wp2_with (with_reducible refine stop_storeT 56 (.tmp 4) (.tmp 49) rfl ?_)
     clear x0 x1 x2 x3 x4
     have HTH : Hid (WH.there (w.heap.size + 1) 0 5) := Hr65.out.thereAt
     have hch : Hid (Chg (w.heap.size + 1) WH (WH.setCells (w.heap.size + 1) 0 (#[.int .i64 x.r.cu, .int .i64 x.r.st, .slice (some ⟨g, 0, none⟩) q c3, .slice p7 l7 c7, .slice p8 l8 c8] : Array Value).toList)) := Lib.hid (chg_putL _ _ _ _ _ (Chg.refl _ WH))
     have Hr66 : Hid (Blk (WH.setCells (w.heap.size + 1) 0 (#[.int .i64 x.r.cu, .int .i64 x.r.st, .slice (some ⟨g, 0, none⟩) q c3, .slice p7 l7 c7, .slice p8 l8 c8] : Array Value).toList) (w.heap.size + 1) #[.int .i64 x.r.cu, .int .i64 x.r.st, .slice (some ⟨g, 0, none⟩) q c3, .slice p7 l7 c7, .slice p8 l8 c8] 56) := Lib.hid (blk_put_all Hr65.out _ rfl)
     have HB66 : Hid (Below w.heap.size w (WH.setCells (w.heap.size + 1) 0 (#[.int .i64 x.r.cu, .int .i64 x.r.st, .slice (some ⟨g, 0, none⟩) q c3, .slice p7 l7 c7, .slice p8 l8 c8] : Array Value).toList)) := Lib.hid (below_put (by have := HWL.out; have := HW1.out; have := HGX2.out; omega) _ _ _ _ HB65.out)
     have HZ66 := kzq HZ65 hch.out.size
     have Hx66 := kcq Hx65 hch (by have := HWL.out; have := HW1.out; have := HGX2.out; omega)
     have HV3 : Hid (∀ z ∈ zs, z.In (fun b => W2.heap.size ≤ b ∧ b ≠ g) _) := Lib.hid (fun z hz => (HV3.out z hz).keepP (KeepP.of_chg hch.out (fun h => by have := HGX2.out; have := HWL.out; have := HW1.out; omega)))
     have HV1 := Lib.hid (HV1.out.stay (fun b hb => hch.out.2 b (HV1.out.lt b hb) (by have h1 := HV1.out.block_ge b hb; have := HGX2.out; have := HWL.out; have := HW1.out; omega)))
     have HNL := Lib.hid (HNL.out.stay (fun b hb => hch.out.2 b (HNL.out.lt b hb) (by have h1 := HNL.out.block_ge b hb; have := HGE.out; have := HGX2.out; have := HWL.out; have := HW1.out; omega)))
     have HNN8 := Lib.hid (HNN8.out.stayV (fun b hb => hch.out.2 b (HNN8.out.lt b hb) (by have h1 := HNN8.out.block_ge b hb; have := HW7.out; have := HGE.out; have := HGX2.out; have := HWL.out; have := HW1.out; omega)))
     clear hch Hx65 Hr65 HB65 HZ65
     refine wpList_store_mid rfl 56 (.tmp 4) (.tmp 49) rfl (w.heap.size + 1) 0 #[.int .i64 x.r.cu, .int .i64 x.r.st, .slice (some ⟨g, 0, none⟩) q c3, .slice p7 l7 c7, .slice p8 l8 c8] rfl rfl HTH.out (infoR5 rfl) (all_oneCell_toArray (by intro u hu; simp at hu; rcases hu with rfl | rfl | rfl | rfl | rfl <;> rfl)) ?_
     generalize (WH.setCells (w.heap.size + 1) 0 (#[.int .i64 x.r.cu, .int .i64 x.r.st, .slice (some ⟨g, 0, none⟩) q c3, .slice p7 l7 c7, .slice p8 l8 c8] : Array Value).toList) = WI at *
     clear HTH
     go_wp2_with fail
     have hfr := Hr66.out
     refine bodyPost_ret (v := .tuple #[.agg #[.int .i64 x.r.cu, .int .i64 x.r.st, .slice (some ⟨g, 0, none⟩) q c3, .slice p7 l7 c7, .slice p8 l8 c8], .bool true]) (by simp [results, Try.results11, go_sem, hfr.cell 0, hfr.cell 1, hfr.cell 2, hfr.cell 3, hfr.cell 4]) rfl ?_
     refine ⟨(⟨x.r, some ⟨g, 0, none⟩, c3, p7, c7, p8, c8⟩ : RunX), by rw [RunX.v_mk, HLQ.out, HL7.out, HL8.out], ⟨fun _ => ⟨HXR.out.symm, ⟨?_, ?_, ?_, ?_, ?_⟩, by rw [HL7.out]; have h4 := HNL.out.fre; rw [HL7.out] at h4; exact h4⟩, (fun h => by cases h)⟩, HB66.out⟩
     ·show HsR _ _ (.slice (some ⟨g, 0, none⟩) x.r.hs.length c3) x.r.hs
      rw [HLQ.out]
      refine ⟨zs, HV1.out.row, HV1.out.at_lt.imp (fun b h => by have := HGX2.out; have := HWL.out; have := HW1.out; omega), fun z hz => (HV3.out z hz).imp (fun b h => by have := HGX2.out; have := HWL.out; have := HW1.out; omega), HV2.out⟩
     ·show TRow encN _ (.slice p7 x.r.ls.length c7) x.r.ls
      rw [HL7.out]; exact HNL.out.row
     ·show At _ (.slice p7 x.r.ls.length c7) x.r.ls.length
      have h4 := HNL.out.at_lt
      rw [HL7.out] at h4 ⊢
      exact h4.imp (fun b h => by have := HGE.out; have := HGX2.out; have := HWL.out; have := HW1.out; omega)
     ·show Row .i64 _ (.slice p8 x.r.ns.length c8) x.r.ns
      rw [HL8.out]; exact HNN8.out.row
     ·show At _ (.slice p8 x.r.ns.length c8) x.r.ns.length
      have h4 := HNN8.out.at_lt
      rw [HL8.out] at h4 ⊢
      exact h4.imp (fun b h => by have := HW7.out; have := HGE.out; have := HGX2.out; have := HWL.out; have := HW1.out; omega)
end Go.Proofs.Yteogdfpkcoodlaa
namespace Go.Proofs.Yteogdfpkcoodlaa
open Go.RowKit
set_option linter.unusedSimpArgs false
/-- The numbers of the first k cycles that are open. -/
def waitC (rs : List Rn) (k : Nat) : List Int := ((List.range k).filter (fun i => openB (rs.getD i ⟨0, 0, [], [], []⟩))).map (fun (i : Nat) => (i : Int) + 1)
theorem waitC_succ (rs : List Rn) (k : Nat) : waitC rs (k + 1) = waitC rs k ++ (if openB (rs.getD k ⟨0, 0, [], [], []⟩) = true then [(k : Int) + 1] else []) := by
 unfold waitC
 rw [List.range_succ, List.filter_append, List.map_append, List.filter_cons, List.filter_nil]
 split <;> rfl
theorem waitC_len (rs : List Rn) (k : Nat) : (waitC rs k).length ≤ k := by
 unfold waitC
 rw [List.length_map]
 have := List.length_filter_le (fun i => openB (rs.getD i ⟨0, 0, [], [], []⟩)) (List.range k)
 rwa [List.length_range] at this
theorem eltInC : Elt Try.prog 65 3 .i64 8 := by
 have ht := Try.underlying65
 have h : (Try.prog.info? 3).map (fun i => (i.zero, i.size, i.bytes)) = some (some (.int .i64 0), 1, 8) := by kernel_rfl
 cases hi : Try.prog.info? 3 with
 | none => rw [hi] at h; cases h
 | some i =>
  rw [hi] at h
  simp only [Option.map_some, Option.some.injEq, Prod.mk.injEq] at h
  exact ⟨i, ht, hi, h.1, h.2.1, h.2.2⟩
set_option linter.unusedSimpArgs false in
set_option maxHeartbeats 4000000 in
set_option maxRecDepth 100000 in
theorem cwaits_any (w : World) (P : Nat → Prop) (N : Nat) (p : Option Addr) (n c : Nat) (rs : List Rn) (hrs : RsR P w (.slice p n c) rs) (hn : n = rs.length) (hl : n ≤ 2000) :
  Calls Try.prog 13 #[.agg #[.int .i64 (N : Int), .slice p n c]] w fun e w' => ∃ p' c', e = .returned (.slice p' (waitC rs n).length c') ∧ Row .i64 w' (.slice p' (waitC rs n).length c') (waitC rs n) ∧ Below w.heap.size w w' := by
 obtain ⟨xs, hr, _, hin, hm⟩ := hrs
 have HR := Lib.hid hr
 have HXM := Lib.hid hm
 have HXL : Hid (xs.length = n ∧ n ≤ 2000) := Lib.hid ⟨by rw [hn, ← hm, List.length_map], hl⟩
 clear hr hin hm hn hl
 have HB0 : Hid (Below w.heap.size w (w.alloc (.cells #[.int .i64 (N : Int), .slice p n c] 27))) := Lib.hid ((oneB w _))
 have Hc0 : Hid (Blk (w.alloc (.cells #[.int .i64 (N : Int), .slice p n c] 27)) w.heap.size #[.int .i64 (N : Int), .slice p n c] 27) := Lib.hid (Blk.new w #[.int .i64 (N : Int), .slice p n c] 27)
 have HZ0 : Hid (w.heap.size ≤ (w.alloc (.cells #[.int .i64 (N : Int), .slice p n c] 27)).heap.size) := Lib.hid HB0.out.size
 go_enter Try.func13, Try.ntmps13
 go_upto_region 2 with fail
 generalize (w.alloc (.cells #[.int .i64 (N : Int), .slice p n c] 27)) = W at *
 have HRW := Lib.hid (HR.out.kept HB0.out)
 have HREL : Hid (Own .i64 W W.heap.size 3 (.slice none 0 0) (waitC rs 0) ∧ Below W.heap.size W W) := Lib.hid ⟨Own.nil_ _ _ _ _, Below.refl _ _⟩
 have a1 : W.cell? ⟨w.heap.size, 1, none⟩ = some (.slice p n c) := Hc0.out.cell 1
 go_wp2_with fail
 clear a1
 go_loopw [3, 9] (fun v i wr => ∃ k : Nat, k ≤ n ∧ i = .int .i64 k ∧ Hid (Own .i64 wr W.heap.size 3 v (waitC rs k) ∧ Below W.heap.size W wr)) (fun _ i _ => n - (intOf i).toNat)
 case atStart => exact ⟨0, by omega, rfl, HREL⟩
 case round =>
  clear HREL
  obtain ⟨k, hk, rfl, HK⟩ := hrel
  obtain ⟨pz, cz, hvz⟩ := HK.out.1.form
  have HLZ : Hid ((waitC rs k).length ≤ k) := Lib.hid (waitC_len rs k)
  generalize hmz : (waitC rs k).length = mz at *
  subst hvz
  have HMZ := Lib.hid hmz
  clear hmz
  by_cases hlt : k < n
  ·have hkl : k < xs.length := by have := HXL.out; omega
   have hltI : (k : Int) < (n : Int) := by omega
   have hk9 : k + 1 ≤ 2001 := by have := HXL.out; omega
   have HWT := Lib.hid (waitC_succ rs k)
   have hgx : rs.getD k ⟨0, 0, [], [], []⟩ = (xs[k]).r := by rw [← HXM.out, List.getD_eq_getElem?_getD, List.getElem?_map, List.getElem?_eq_getElem hkl]; rfl
   rw [hgx] at HWT
   clear hgx
   obtain ⟨b, o, rfl, hbl, hcs⟩ := (HRW.out.kept HK.out.2).at_ k hkl
   generalize xs[k] = x at *
   have c0 : wr.cell? ⟨b, o + k * 5, none⟩ = some (.int .i64 x.r.cu) := hcs 0 (by decide)
   have c1 : wr.cell? ⟨b, o + k * 5 + 1, none⟩ = some (.int .i64 x.r.st) := hcs 1 (by decide)
   have c2 : wr.cell? ⟨b, o + k * 5 + 2, none⟩ = some (.slice x.pf x.r.hs.length x.cf) := hcs 2 (by decide)
   have c3 : wr.cell? ⟨b, o + k * 5 + 3, none⟩ = some (.slice x.pl x.r.ls.length x.cl) := hcs 3 (by decide)
   have c4 : wr.cell? ⟨b, o + k * 5 + 4, none⟩ = some (.slice x.pn x.r.ns.length x.cn) := hcs 4 (by decide)
   have HB0 := Lib.hid (Below.refl wr.heap.size wr)
   have HZ0 : Hid (wr.heap.size ≤ wr.heap.size) := Lib.hid (Nat.le_refl _)
   clear hcs hbl
   have hba := oneB wr (.cells #[.int .i64 x.r.cu, .int .i64 x.r.st, .slice x.pf x.r.hs.length x.cf, .slice x.pl x.r.ls.length x.cl, .slice x.pn x.r.ns.length x.cn] 56)
   have Hx1 := Lib.hid (Blk.new wr #[.int .i64 x.r.cu, .int .i64 x.r.st, .slice x.pf x.r.hs.length x.cf, .slice x.pl x.r.ls.length x.cl, .slice x.pn x.r.ns.length x.cn] 56)
   have HB1 := Lib.hid (HB0.out.alloc HB0.out.size (.cells #[.int .i64 x.r.cu, .int .i64 x.r.st, .slice x.pf x.r.hs.length x.cf, .slice x.pl x.r.ls.length x.cl, .slice x.pn x.r.ns.length x.cn] 56))
   have HZ1 := kzq HZ0 hba.size
   have HGgx : Hid (wr.heap.size ≤ wr.heap.size) := Lib.hid HB0.out.size
   clear hba HB0 HZ0
   go_upto_region 5 with fail
   clear c0 c1 c2 c3 c4 hltI
   generalize (wr.alloc (.cells #[.int .i64 x.r.cu, .int .i64 x.r.st, .slice x.pf x.r.hs.length x.cf, .slice x.pl x.r.ls.length x.cl, .slice x.pn x.r.ns.length x.cn] 56)) = W2 at *
   have HG := Lib.hid (copen_any W2 x)
   unfold RunX.v at HG
   have c0 : W2.cell? ⟨wr.heap.size, 0, none⟩ = some (.int .i64 x.r.cu) := Hx1.out.cell 0
   have c1 : W2.cell? ⟨wr.heap.size, 1, none⟩ = some (.int .i64 x.r.st) := Hx1.out.cell 1
   have c2 : W2.cell? ⟨wr.heap.size, 2, none⟩ = some (.slice x.pf x.r.hs.length x.cf) := Hx1.out.cell 2
   have c3 : W2.cell? ⟨wr.heap.size, 3, none⟩ = some (.slice x.pl x.r.ls.length x.cl) := Hx1.out.cell 3
   have c4 : W2.cell? ⟨wr.heap.size, 4, none⟩ = some (.slice x.pn x.r.ns.length x.cn) := Hx1.out.cell 4
   go_wp2_with fail
   clear c0 c1 c2 c3 c4
   refine HG.out.mono ?_
   rintro y9 w3 ⟨rfl, hb⟩
   clear HG
   have Hx2 := kbq Hx1 hb
   have HB2 := ktq HB1 hb
   have HZ2 := kzq HZ1 hb.size
   clear Hx1 HB1 HZ1
   clear hb
   obtain ⟨bo, hbo⟩ : ∃ bo, openB x.r = bo := ⟨_, rfl⟩
   rw [hbo] at HWT ⊢
   clear hbo
   cases bo
   ·have HNX : Hid (Own .i64 w3 W.heap.size 3 (.slice pz mz cz) (waitC rs (k + 1)) ∧ Below W.heap.size W w3) := Lib.hid ⟨by rw [HWT.out]; simpa using HK.out.1.later HB2.out, HK.out.2.trans (HB2.out.mono HK.out.2.size)⟩
    clear HWT
    go_wp2_with fail
    go_roundw
    case rel => exact ⟨k + 1, by omega, by go_num, HNX⟩
    case measure => simp [intOf]; omega
   ·have hw1 : wrap64 ((k : Int) + 1) = (k : Int) + 1 := by unfold wrap64; omega
    have HO3 := Lib.hid (HK.out.1.later HB2.out)
    have HWS : Hid (W.heap.size ≤ w3.heap.size) := Lib.hid (by have := HK.out.2.size; have := HB2.out.size; omega)
    go_wp2_with (at_builtin; with_reducible refine stop_appendT (.tmp 16) (.tmp 19) 65 rfl ?_)
    refine wpList_append_row rfl (.tmp 16) (.tmp 19) 65 rfl 3 .i64 8 W.heap.size eltInC (.slice pz mz cz) (.slice (some ⟨w3.heap.size, 0, none⟩) 1 1) (waitC rs k) [(k : Int) + 1] rfl rfl (HO3.out.alloc (.cells #[.int .i64 ((k : Int) + 1)] 3)) ⟨some ⟨w3.heap.size, 0, none⟩, 1, rfl, Nat.le_refl _, .inr ⟨w3.heap.size, 0, rfl, fun i hi => ?_⟩⟩ (by rw [HMZ.out]; have := HLZ.out; simp; omega) (by rw [HMZ.out]; have := HLZ.out; simp; omega) (by have := HWS.out; have := (oneB w3 (.cells #[.int .i64 ((k : Int) + 1)] 3)).size; omega) (waitC rs k ++ [(k : Int) + 1]) (mz + 1) rfl (by rw [List.length_append, HMZ.out]; rfl) ?_
    ·obtain rfl : i = 0 := by simp at hi; omega
     exact (Blk.new w3 #[.int .i64 ((k : Int) + 1)] 3).cell 0
    intro p9 c9 w9 ho9 hb9
    have HNX : Hid (Own .i64 w9 W.heap.size 3 (.slice p9 (mz + 1) c9) (waitC rs (k + 1)) ∧ Below W.heap.size W w9) := Lib.hid ⟨by rw [HWT.out]; exact ho9, ((HK.out.2.trans (HB2.out.mono HK.out.2.size)).trans ((oneB w3 (.cells #[.int .i64 ((k : Int) + 1)] 3)).mono HWS.out)).trans hb9⟩
    clear ho9 hb9 HWT
    go_wp2_with fail
    go_roundw
    case rel => exact ⟨k + 1, by omega, by go_num, HNX⟩
    case measure => simp [intOf]; omega
  ·have hltI : ¬ (k : Int) < (n : Int) := by omega
   obtain rfl : k = n := by omega
   go_wp2_with fail
   go_ret
   exact ⟨pz, cz, by rw [HMZ.out]; rfl, by rw [HMZ.out]; exact HK.out.1.row, HB0.out.trans (HK.out.2.mono HB0.out.size)⟩
end Go.Proofs.Yteogdfpkcoodlaa
namespace Go.Proofs.Yteogdfpkcoodlaa
open Go.RowKit
def NotIn (gs : List Nat) (b : Nat) : Prop := b ∉ gs
theorem notIn_self {gs : List Nat} {g : Nat} (h : g ∈ gs) : ¬ NotIn gs g := fun hn => hn h
/-- A row in blocks of Q. -/
def RwN {α : Type} (e : Enc α) (Q : Nat → Prop) (w : World) (v : Value) (xs : List α) : Prop := TRow e w v xs ∧ At Q v xs.length
section
variable {α : Type} {e : Enc α} {Q : Nat → Prop} {w w' : World} {v : Value} {xs : List α}
theorem RwN.kept (h : RwN e Q w v xs) (hb : Below w.heap.size w w') : RwN e Q w' v xs := ⟨h.1.kept hb, h.2⟩
theorem RwN.chg {g : Nat} (h : RwN e Q w v xs) (hc : Chg g w w') (hg : ¬ Q g) : RwN e Q w' v xs := ⟨h.1.keepP h.2 (KeepP.of_chg hc hg), h.2⟩
theorem RwN.nil_ (e : Enc α) (Q : Nat → Prop) (w : World) : RwN e Q w (.slice none 0 0) [] := ⟨TRow.nil_ e w, fun _ _ _ _ h => by cases h⟩
theorem RwN.lt (h : RwN e Q w v xs) : At (fun b => b < w.heap.size ∧ Q b) v xs.length := by
 rintro b o n c rfl hn
 exact ⟨h.1.lt_ hn, h.2 b o n c rfl hn⟩
theorem RwN.imp {R : Nat → Prop} (h : RwN e Q w v xs) (hq : ∀ b, b < w.heap.size → Q b → R b) : RwN e R w v xs := by
 refine ⟨h.1, ?_⟩
 rintro b o n c rfl hn
 have h2 := h.lt b o n c rfl hn
 exact hq b h2.1 h2.2
theorem OwnT.rwN {base : Nat} {ty : TypeId} (h : OwnT e w base ty v xs) (hq : ∀ b, base ≤ b → Q b) : RwN e Q w v xs := ⟨h.row, by
 rintro b o n c rfl hn
 exact hq b (h.block_ge b rfl)⟩
end
end Go.Proofs.Yteogdfpkcoodlaa
namespace Go.Proofs.Yteogdfpkcoodlaa
open Go.RowKit
set_option linter.unusedSimpArgs false
/-- Each cycle knows of each entity; offers fit; what is reckoned is of a size. -/
def LOk (N : Nat) (rs : List Rn) : Prop := COk N rs ∧ ∀ r ∈ rs, r.ls.length ≤ 480 ∧ r.ns.length ≤ 8
theorem rec_size {N : Nat} {r : Rn} (h8 : N ≤ 8) (hf : ∀ h ∈ r.hs, fitE (N : Int) h.ls = 0 ∧ h.ls.length ≤ 60) : (r.rec_ N).ls.length ≤ 480 ∧ (r.rec_ N).ns.length ≤ 8 := by
 unfold Rn.rec_
 dsimp only
 have h1 := bothL_len (r.hs.map Hd.ls) (fun o ho => by obtain ⟨h, hh, rfl⟩ := List.mem_map.1 ho; exact (hf h hh).2) N
 rw [netsL_len]
 omega
theorem LOk.set {N : Nat} {rs : List Rn} (h : LOk N rs) (i : Nat) (q : Rn) (h1 : q.hs.length = N) (h2 : ∀ h ∈ q.hs, fitE (N : Int) h.ls = 0 ∧ h.ls.length ≤ 60) (h3 : q.ls.length ≤ 480 ∧ q.ns.length ≤ 8) : LOk N (rs.set i q) := by
 refine ⟨fun r hr => ?_, fun r hr => ?_⟩
 ·rcases List.mem_or_eq_of_mem_set hr with h' | h'
  ·exact h.1 r h'
  ·subst h'; exact ⟨h1, h2⟩
 ·rcases List.mem_or_eq_of_mem_set hr with h' | h'
  ·exact h.2 r h'
  ·subst h'; exact h3
theorem rnAt_mem {rs : List Rn} {k : Int} (h : hasB rs k = true) : rnAt rs k ∈ rs := by
 have h1 := of_hasB h rfl
 have hlt : (k - 1).toNat < rs.length := by omega
 unfold rnAt
 rw [List.getElem?_eq_getElem hlt]
 exact List.getElem_mem hlt
theorem set_at_out {α : Type} (l : List α) (i : Nat) (x : α) (h : ¬ i < l.length) : l.set i x = l := List.set_eq_of_length_le (by omega)
theorem do_ok {N : Nat} {rs : List Rn} (h : LOk N rs) (h8 : N ≤ 8) (m : Msg) (hm : m.ls.length ≤ 60) (fro : Int) : LOk N (doC N rs m fro).1 ∧ rs.length ≤ (doC N rs m fro).1.length ∧ (doC N rs m fro).1.length ≤ rs.length + 1 := by
 have hto : ∀ r ∈ rs, ∀ st, LOk N (rs.set (m.y - 1).toNat (r.to st)) := fun r hr st => h.set _ _ (h.1 r hr).1 (h.1 r hr).2 (h.2 r hr)
 have hsame : LOk N rs ∧ rs.length ≤ rs.length ∧ rs.length ≤ rs.length + 1 := ⟨h, Nat.le_refl _, Nat.le_succ _⟩
 have hst : ∀ q, LOk N (rs.set (m.y - 1).toNat q) → LOk N (rs.set (m.y - 1).toNat q) ∧ rs.length ≤ (rs.set (m.y - 1).toNat q).length ∧ (rs.set (m.y - 1).toNat q).length ≤ rs.length + 1 := fun q hq => ⟨hq, by rw [List.length_set]; exact Nat.le_refl _, by rw [List.length_set]; exact Nat.le_succ _⟩
 unfold doC
 split
 ·split
  ·unfold startC
   split
   ·exact hsame
   ·split
    ·exact hsame
    ·refine ⟨⟨fun r hr => ?_, fun r hr => ?_⟩, by simp, by simp⟩
     ·rcases List.mem_append.1 hr with h' | h'
      ·exact h.1 r h'
      ·obtain rfl := List.mem_singleton.1 h'
       exact ⟨by unfold rn0; simp, fun q hq => by
        have := (List.mem_replicate.1 hq).2
        subst this
        exact ⟨rfl, by decide⟩⟩
     ·rcases List.mem_append.1 hr with h' | h'
      ·exact h.2 r h'
      ·obtain rfl := List.mem_singleton.1 h'
       exact ⟨by show 0 ≤ 480; decide, by show 0 ≤ 8; decide⟩
  ·split
   ·split
    ·next hh =>
     unfold dueC
     split
     ·exact hst _ (hto _ (rnAt_mem hh) 4)
     ·exact hsame
    ·exact hsame
   ·exact hsame
 ·split
  ·split
   ·exact hsame
   ·split
    ·exact hsame
    ·next hh =>
     have hh : hasB rs m.y = true := by simpa using hh
     have hr := rnAt_mem hh
     have hszr := h.2 _ hr
     split
     ·unfold offerC
      split
      ·exact hsame
      ·split
       ·exact hsame
       ·split
        ·exact hsame
        ·split
         ·exact hsame
         ·next hfe =>
          have hfe : fitE (N : Int) m.ls = 0 := Classical.byContradiction hfe
          have h1 : ((rnAt rs m.y).offer fro.toNat m.ls).hs.length = N := by unfold Rn.offer; rw [List.length_set]; exact (h.1 _ hr).1
          have h2 : ∀ q ∈ ((rnAt rs m.y).offer fro.toNat m.ls).hs, fitE (N : Int) q.ls = 0 ∧ q.ls.length ≤ 60 := fun q hq => by
           rcases List.mem_or_eq_of_mem_set hq with h' | h'
           ·exact (h.1 _ hr).2 q h'
           ·subst h'; exact ⟨hfe, hm⟩
          split
          ·exact hst _ (h.set _ _ h1 h2 (hszr))
          ·exact hst _ (h.set _ _ h1 h2 (rec_size h8 h2))
     ·split
      ·unfold voteC
       have h1 : ((rnAt rs m.y).vote fro.toNat).hs.length = N := by unfold Rn.vote; rw [List.length_set]; exact (h.1 _ hr).1
       have h2 : ∀ q ∈ ((rnAt rs m.y).vote fro.toNat).hs, fitE (N : Int) q.ls = 0 ∧ q.ls.length ≤ 60 := fun q hq => by
        rcases List.mem_or_eq_of_mem_set hq with h' | h'
        ·exact (h.1 _ hr).2 q h'
        ·subst h'
         show fitE (N : Int) ((rnAt rs m.y).hs.getD fro.toNat hd0).ls = 0 ∧ _
         by_cases hj : fro.toNat < (rnAt rs m.y).hs.length
         ·rw [List.getD_eq_getElem?_getD, List.getElem?_eq_getElem hj]
          exact (h.1 _ hr).2 _ (List.getElem_mem hj)
         ·rw [List.getD_eq_getElem?_getD, List.getElem?_eq_none (by omega)]
          exact ⟨rfl, by decide⟩
       split
       ·exact hsame
       ·split
        ·exact hsame
        ·split
         ·exact hst _ (h.set _ _ h1 h2 (hszr))
         ·split
          ·exact hst _ (h.set _ _ h1 h2 (hszr))
          ·exact hst _ (h.set _ _ h1 h2 (hszr))
      ·unfold queryC
       split
       ·exact hsame
       ·exact hsame
  ·exact hsame
theorem RsR.chg {Q : Nat → Prop} {w w' : World} {v : Value} {rs : List Rn} {g : Nat} (h : RsR Q w v rs) (hc : Chg g w w') (hg : ¬ Q g) : RsR Q w' v rs := h.keepP (KeepP.of_chg hc hg)
/-- The coordinator's cycles, in blocks of Q. -/
structure Ct (Q : Nat → Prop) (w : World) (N : Nat) (p : Option Addr) (n c : Nat) (xs : List Rn) : Prop where
 rs : RsR Q w (.slice p n c) xs
 n : n = xs.length
 ok : LOk N xs
theorem Ct.kept {Q : Nat → Prop} {w w' : World} {N : Nat} {p : Option Addr} {n c : Nat} {rs : List Rn} (h : Ct Q w N p n c rs) (hb : Below w.heap.size w w') : Ct Q w' N p n c rs := ⟨h.rs.kept hb, h.n, h.ok⟩
theorem Ct.chg {Q : Nat → Prop} {w w' : World} {N : Nat} {p : Option Addr} {n c : Nat} {rs : List Rn} {g : Nat} (h : Ct Q w N p n c rs) (hc : Chg g w w') (hg : ¬ Q g) : Ct Q w' N p n c rs := ⟨h.rs.chg hc hg, h.n, h.ok⟩
theorem Ct.nil_ (Q : Nat → Prop) (w : World) (N : Nat) : Ct Q w N none 0 0 [] := ⟨RsR.nil_ _ _, rfl, ⟨(fun _ h => nomatch h), (fun _ h => nomatch h)⟩⟩
/-- What is said, in blocks of Q. -/
def SdR (Q : Nat → Prop) (w : World) (v : Value) (l : List (Int × Msg)) : Prop := ∃ xs : List SdX, RwN encS Q w v xs ∧ (∀ z ∈ xs, z.x.InP Q w) ∧ xs.map (fun z => (z.tw, z.x.m)) = l
theorem SdR.kept {Q : Nat → Prop} {w w' : World} {v : Value} {l : List (Int × Msg)} (h : SdR Q w v l) (hb : Below w.heap.size w w') : SdR Q w' v l := by
 obtain ⟨xs, h1, h2, h3⟩ := h
 exact ⟨xs, h1.kept hb, fun z hz => (h2 z hz).kept hb, h3⟩
theorem SdR.chg {Q : Nat → Prop} {w w' : World} {v : Value} {l : List (Int × Msg)} {g : Nat} (h : SdR Q w v l) (hc : Chg g w w') (hg : ¬ Q g) : SdR Q w' v l := by
 obtain ⟨xs, h1, h2, h3⟩ := h
 exact ⟨xs, h1.chg hc hg, fun z hz => (h2 z hz).keepP (KeepP.of_chg hc hg), h3⟩
/-- The cells of one thing that is said. -/
def SdAt (Q : Nat → Prop) (b o i : Nat) (z : SdX) (w : World) : Prop := (Q b ∧ b < w.heap.size ∧ ∀ q, q < 12 → w.cell? ⟨b, o + i * 12 + q, none⟩ = (SdX.cells z)[q]?) ∧ z.x.InP Q w
theorem SdAt.kept {Q : Nat → Prop} {b o i : Nat} {z : SdX} {w w' : World} (h : SdAt Q b o i z w) (hb : Below w.heap.size w w') : SdAt Q b o i z w' :=
 ⟨⟨h.1.1, Nat.lt_of_lt_of_le h.1.2.1 hb.size, fun q hq => (hb.cell (p := ⟨b, _, none⟩) h.1.2.1).trans (h.1.2.2 q hq)⟩, h.2.kept hb⟩
theorem SdAt.chg {Q : Nat → Prop} {b o i g : Nat} {z : SdX} {w w' : World} (h : SdAt Q b o i z w) (hc : Chg g w w') (hg : ¬ Q g) : SdAt Q b o i z w' :=
 ⟨⟨h.1.1, Nat.lt_of_lt_of_le h.1.2.1 hc.size, fun q hq => (hc.cell (a := ⟨b, _, none⟩) h.1.2.1 (fun e => hg (e ▸ h.1.1))).trans (h.1.2.2 q hq)⟩, h.2.keepP (KeepP.of_chg hc hg)⟩
theorem SdR.at_ {Q : Nat → Prop} {w : World} {p : Option Addr} {n c : Nat} {l : List (Int × Msg)} (h : SdR Q w (.slice p n c) l) (hl : 0 < l.length) : ∃ b o, p = some ⟨b, o, none⟩ ∧ ∀ i (hi : i < l.length), ∃ z : SdX, z.tw = l[i].1 ∧ z.x.m = l[i].2 ∧ SdAt Q b o i z w := by
 obtain ⟨xs, h1, h2, rfl⟩ := h
 rw [List.length_map] at hl
 obtain ⟨b, o, e1, hb, _⟩ := h1.1.at_ 0 hl
 subst e1
 refine ⟨b, o, rfl, fun i hi => ?_⟩
 rw [List.length_map] at hi
 obtain ⟨b2, o2, e2, _, hc⟩ := h1.1.at_ i hi
 cases e2
 exact ⟨xs[i], by rw [List.getElem_map], by rw [List.getElem_map], ⟨h1.2 b o n c rfl hl, hb, hc⟩, h2 _ (List.getElem_mem hi)⟩
theorem SaidL.sdR {Q : Nat → Prop} {w : World} {B : Nat} {v : Value} {l : List (Int × Msg)} (h : SaidL w B v l) (hq : ∀ b, B ≤ b → Q b) : SdR Q w v l := by
 obtain ⟨xs, h1, h2, h3⟩ := h
 exact ⟨xs, h1.rwN hq, fun z hz => (h2 z hz).i.mono (fun b _ h => hq b h.1), h3⟩
theorem cdo_q (w : World) (Q : Nat → Prop) (N : Nat) (NI : Int) (hNI : NI = (N : Int)) (p : Option Addr) (n c : Nat) (rs : List Rn) (y : MsgX) (fro : Int) (h : Ct Q w N p n c rs) (hq : ∀ b, w.heap.size ≤ b → Q b) (hl : n ≤ 1000) (hN1 : 1 ≤ N) (hN8 : N ≤ 8) (Pm : Nat → Prop) (hy : y.InP Pm w) (hyl : y.m.ls.length ≤ 60) (rs2 : List Rn) (out : List (Int × Msg)) (err : Int) (hA : doC N rs y.m fro = (rs2, out, err)) :
  Calls Try.prog 7 #[.agg #[.int .i64 NI, .slice p n c], y.m.v (.slice y.pl y.m.ls.length y.cl) (.slice y.pn y.m.ns.length y.cn), .int .i64 fro] w fun a w' =>
   Below w.heap.size w w' ∧ ∃ p2 n2 c2 pv nv cv, a = .returned (.tuple #[.agg #[.int .i64 NI, .slice p2 n2 c2], .slice pv nv cv, .int .i64 err]) ∧ Ct Q w' N p2 n2 c2 rs2 ∧ nv = out.length ∧ SdR Q w' (.slice pv nv cv) out := by
 subst hNI
 have ho := do_ok h.ok hN8 y.m hyl fro
 refine (cdo_any w (fun b => Q b ∧ b < w.heap.size) N p n c rs y fro h.rs.lt (fun b hb => hb.2) h.n hl hN1 hN8 h.ok.1 Pm hy hyl).mono ?_
 rintro a w' ⟨p2, n2, c2, pv, nv, cv, B, rfl, hn2, hnv, hB, hr, hs, hb⟩
 rw [hA] at hn2 hnv hr hs ho
 rw [hA]
 exact ⟨hb, p2, n2, c2, pv, nv, cv, rfl, ⟨hr.imp (fun b hb => hb.elim And.left (fun h => hq b h.1)), hn2, ho.1⟩, hnv, hs.sdR (fun b hb => hq b (Nat.le_trans hB hb))⟩
theorem cget_q (w : World) (Q : Nat → Prop) (N : Nat) (NI : Int) (hNI : NI = (N : Int)) (k : Int) (p : Option Addr) (n c : Nat) (rs : List Rn) (h : Ct Q w N p n c rs) (hl : n ≤ 2000) (hN1 : 1 ≤ N) (hN8 : N ≤ 8) (b : Bool) (hB : hasB rs k = b) :
  Calls Try.prog 11 #[.agg #[.int .i64 NI, .slice p n c], .int .i64 k] w fun a w' => Below w.heap.size w w' ∧ ∃ x : RunX, a = .returned (.tuple #[x.v, .bool b]) ∧ GetP w' w.heap.size rs k x b := by
 subst hNI
 have hb : decide (1 ≤ k ∧ k ≤ (n : Int)) = b := by rw [← hB]; unfold hasB; rw [← h.n]
 have h1 := cget_any w (fun b => Q b ∧ b < w.heap.size) N k p n c rs h.rs.lt (fun b hb => hb.2) h.n hN1 hN8 (fun r hr => (h.ok.1 r hr).1) (fun r hr => ⟨fun q hq => by have := ((h.ok.1 r hr).2 q hq).2; omega, by have := (h.ok.2 r hr).1; omega, by have := (h.ok.2 r hr).2; omega⟩) hl
 rw [hb] at h1
 refine h1.mono ?_
 rintro a w' ⟨x, rfl, hg, hbl⟩
 exact ⟨hbl, x, rfl, hg⟩
theorem cwaits_q (w : World) (Q : Nat → Prop) (N : Nat) (NI : Int) (hNI : NI = (N : Int)) (p : Option Addr) (n c : Nat) (rs : List Rn) (h : Ct Q w N p n c rs) (hl : n ≤ 2000) (L : List Int) (hL : waitC rs n = L) :
  Calls Try.prog 13 #[.agg #[.int .i64 NI, .slice p n c]] w fun a w' => Below w.heap.size w w' ∧ ∃ p' n' c', a = .returned (.slice p' n' c') ∧ n' = L.length ∧ Row .i64 w' (.slice p' n' c') L := by
 subst hNI
 subst hL
 refine (cwaits_any w Q N p n c rs h.rs h.n hl).mono ?_
 rintro a w' ⟨p', c', rfl, hr, hb⟩
 exact ⟨hb, p', _, c', rfl, rfl, hr⟩
end Go.Proofs.Yteogdfpkcoodlaa
namespace Go.Proofs.Yteogdfpkcoodlaa
open Go.RowKit
set_option linter.unusedSimpArgs false
/-- A cycle of the document, with where its lists lie. -/
structure DrX where
 cu : Int
 st : Int
 o : Nat → Bool
 t : Nat → Bool
 L : Nat → List Lin
 p : Nat → Option Addr
 c : Nat → Nat
 ls : List Lin
 pl : Option Addr
 cl : Nat
 ns : List Int
 pn : Option Addr
 cn : Nat
def DrX.cells (x : DrX) : List Value := [.int .i64 x.cu, .int .i64 x.st, .bool (x.o 0), .bool (x.o 1), .bool (x.o 2), .bool (x.o 3), .bool (x.o 4), .bool (x.o 5), .bool (x.o 6), .bool (x.o 7), .bool (x.t 0), .bool (x.t 1), .bool (x.t 2), .bool (x.t 3), .bool (x.t 4), .bool (x.t 5), .bool (x.t 6), .bool (x.t 7), .slice (x.p 0) (x.L 0).length (x.c 0), .slice (x.p 1) (x.L 1).length (x.c 1), .slice (x.p 2) (x.L 2).length (x.c 2), .slice (x.p 3) (x.L 3).length (x.c 3), .slice (x.p 4) (x.L 4).length (x.c 4), .slice (x.p 5) (x.L 5).length (x.c 5), .slice (x.p 6) (x.L 6).length (x.c 6), .slice (x.p 7) (x.L 7).length (x.c 7), .slice x.pl x.ls.length x.cl, .slice x.pn x.ns.length x.cn]
def DrX.arr (x : DrX) : Array Value := (DrX.cells x).toArray
def DrX.v (x : DrX) : Value := .agg x.arr
theorem DrX.one (y : DrX) : ∀ u ∈ DrX.cells y, u.oneCell' = true := by
 intro u hu
 simp only [DrX.cells, List.mem_cons, List.not_mem_nil, or_false] at hu
 rcases hu with rfl | rfl | rfl | rfl | rfl | rfl | rfl | rfl | rfl | rfl | rfl | rfl | rfl | rfl | rfl | rfl | rfl | rfl | rfl | rfl | rfl | rfl | rfl | rfl | rfl | rfl | rfl | rfl <;> rfl
def encD : Enc DrX := ⟨28, DrX.cells, by decide, fun _ => rfl, DrX.one⟩
theorem DrX.all_one (x : DrX) : x.arr.all (·.oneCell') = true := all_oneCell_toArray (DrX.one x)
structure DrX.In (P : Nat → Prop) (w : World) (x : DrX) : Prop where
 of : ∀ i, i < 8 → TRow encN w (.slice (x.p i) (x.L i).length (x.c i)) (x.L i)
 oa : ∀ i, i < 8 → At P (.slice (x.p i) (x.L i).length (x.c i)) (x.L i).length
 ls : TRow encN w (.slice x.pl x.ls.length x.cl) x.ls
 al : At P (.slice x.pl x.ls.length x.cl) x.ls.length
 ns : Row .i64 w (.slice x.pn x.ns.length x.cn) x.ns
 an : At P (.slice x.pn x.ns.length x.cn) x.ns.length
theorem DrX.In.kept {P : Nat → Prop} {w w' : World} {x : DrX} (h : x.In P w) (hb : Below w.heap.size w w') : x.In P w' := ⟨fun i hi => (h.of i hi).kept hb, h.oa, h.ls.kept hb, h.al, h.ns.kept hb, h.an⟩
theorem DrX.In.keepP {P : Nat → Prop} {w w' : World} {x : DrX} (h : x.In P w) (hk : KeepP P w w') : x.In P w' := ⟨fun i hi => (h.of i hi).keepP (h.oa i hi) hk, h.oa, h.ls.keepP h.al hk, h.al, h.ns.keepP h.an hk, h.an⟩
theorem DrX.In.imp {P Q : Nat → Prop} {w : World} {x : DrX} (h : x.In P w) (hq : ∀ b, P b → Q b) : x.In Q w := ⟨h.of, fun i hi => (h.oa i hi).imp hq, h.ls, h.al.imp hq, h.ns, h.an.imp hq⟩
theorem DrX.In.lt {P : Nat → Prop} {w : World} {x : DrX} (h : x.In P w) : x.In (fun b => P b ∧ b < w.heap.size) w := ⟨h.of, fun i hi => (h.oa i hi).ltT (h.of i hi), h.ls, h.al.ltT h.ls, h.ns, h.an.ltR h.ns⟩
/-- What a cycle is, whatever the words. -/
def DrX.rn (N : Nat) (x : DrX) : Rn := ⟨x.cu, x.st, (List.range N).map (fun i => ⟨x.o i, x.t i, x.L i⟩), x.ls, x.ns⟩
theorem DrX.hs_len (N : Nat) (x : DrX) : (x.rn N).hs.length = N := by unfold DrX.rn; simp
theorem DrX.hs_at {N : Nat} {x : DrX} {i : Nat} (hi : i < N) : (x.rn N).hs.getD i hd0 = ⟨x.o i, x.t i, x.L i⟩ := by
 unfold DrX.rn
 rw [List.getD_eq_getElem?_getD, List.getElem?_eq_getElem (by simp; exact hi)]
 simp
/-- A list of cycles of the document, in blocks of P. -/
def DsR (P : Nat → Prop) (N : Nat) (w : World) (v : Value) (rs : List Rn) : Prop := ∃ xs : List DrX, TRow encD w v xs ∧ At P v xs.length ∧ (∀ x ∈ xs, x.In P w) ∧ xs.map (DrX.rn N) = rs
theorem DsR.kept {P : Nat → Prop} {N : Nat} {w w' : World} {v : Value} {rs : List Rn} (h : DsR P N w v rs) (hb : Below w.heap.size w w') : DsR P N w' v rs := by
 obtain ⟨xs, h1, h2, h3, h4⟩ := h
 exact ⟨xs, h1.kept hb, h2, fun x hx => (h3 x hx).kept hb, h4⟩
theorem DsR.keepP {P : Nat → Prop} {N : Nat} {w w' : World} {v : Value} {rs : List Rn} (h : DsR P N w v rs) (hk : KeepP P w w') : DsR P N w' v rs := by
 obtain ⟨xs, h1, h2, h3, h4⟩ := h
 exact ⟨xs, h1.keepP h2 hk, h2, fun x hx => (h3 x hx).keepP hk, h4⟩
theorem DsR.imp {P Q : Nat → Prop} {N : Nat} {w : World} {v : Value} {rs : List Rn} (h : DsR P N w v rs) (hq : ∀ b, P b → Q b) : DsR Q N w v rs := by
 obtain ⟨xs, h1, h2, h3, h4⟩ := h
 exact ⟨xs, h1, h2.imp hq, fun x hx => (h3 x hx).imp hq, h4⟩
theorem DsR.lt {P : Nat → Prop} {N : Nat} {w : World} {v : Value} {rs : List Rn} (h : DsR P N w v rs) : DsR (fun b => P b ∧ b < w.heap.size) N w v rs := by
 obtain ⟨xs, h1, h2, h3, h4⟩ := h
 exact ⟨xs, h1, h2.ltT h1, fun x hx => (h3 x hx).lt, h4⟩
theorem DsR.chg {Q : Nat → Prop} {N : Nat} {w w' : World} {v : Value} {rs : List Rn} {g : Nat} (h : DsR Q N w v rs) (hc : Chg g w w') (hg : ¬ Q g) : DsR Q N w' v rs := h.keepP (KeepP.of_chg hc hg)
theorem DsR.nil_ (P : Nat → Prop) (N : Nat) (w : World) : DsR P N w (.slice none 0 0) [] := ⟨[], TRow.nil_ _ _, At.nil_ _ _, (fun _ h => by cases h), rfl⟩
theorem DsR.shape {P : Nat → Prop} {N : Nat} {w : World} {v : Value} {rs : List Rn} (h : DsR P N w v rs) : ∃ p c, v = .slice p rs.length c := by
 obtain ⟨xs, h1, _, _, rfl⟩ := h
 obtain ⟨p, c, rfl⟩ := h1.shape
 exact ⟨p, c, by rw [List.length_map]⟩
def DrX.to (x : DrX) (st : Int) : DrX := { x with st := st }
theorem DrX.In.to {P : Nat → Prop} {w : World} {x : DrX} (h : x.In P w) (st : Int) : (x.to st).In P w := ⟨h.of, h.oa, h.ls, h.al, h.ns, h.an⟩
theorem DrX.rn_to (N : Nat) (x : DrX) (st : Int) : (x.to st).rn N = (x.rn N).to st := rfl
theorem DrX.arr_to (x : DrX) (st : Int) : x.arr.setIfInBounds 1 (.int .i64 st) = (x.to st).arr := rfl
/-- What the document's coordinator answers. -/
def DPost (w : World) (P : Nat → Prop) (N : Nat) (rs : List Rn) (out : List (Int × Msg)) (err : Int) : Ending → World → Prop := fun e w' => ∃ (p : Option Addr) (n c : Nat) (pv : Option Addr) (nv cv : Nat), e = .returned (.tuple #[.agg #[.int .i64 (N : Int), .slice p n c], .slice pv nv cv, .int .i64 err]) ∧ n = rs.length ∧ nv = out.length ∧ DsR (fun b => P b ∨ w.heap.size ≤ b) N w' (.slice p n c) rs ∧ SdR (fun b => P b ∨ w.heap.size ≤ b) w' (.slice pv nv cv) out ∧ Below w.heap.size w w'
def DP (w : World) (P : Nat → Prop) (N : Nat) (a : CAns) : Ending → World → Prop := DPost w P N a.1 a.2.1 a.2.2
theorem SdR.nil_ (Q : Nat → Prop) (w : World) : SdR Q w (.slice none 0 0) [] := ⟨[], RwN.nil_ _ _ _, (fun _ h => nomatch h), rfl⟩
theorem SdR.imp {Q R : Nat → Prop} {w : World} {v : Value} {l : List (Int × Msg)} (h : SdR Q w v l) (hq : ∀ b, Q b → R b) : SdR R w v l := by
 obtain ⟨xs, h1, h2, h3⟩ := h
 exact ⟨xs, h1.imp (fun b _ h => hq b h), fun z hz => (h2 z hz).mono (fun b _ h => hq b h), h3⟩
theorem SdR.ltB {Q : Nat → Prop} {w : World} {v : Value} {l : List (Int × Msg)} (h : SdR Q w v l) : SdR (fun b => Q b ∧ b < w.heap.size) w v l := by
 obtain ⟨xs, h1, h2, h3⟩ := h
 exact ⟨xs, ⟨h1.1, h1.lt.imp (fun _ h => ⟨h.2, h.1⟩)⟩, fun z hz => ⟨(h2 z hz).ls, (h2 z hz).ns, ((h2 z hz).al.ltT (h2 z hz).ls), ((h2 z hz).an.ltR (h2 z hz).ns), (h2 z hz).sz⟩, h3⟩
def zeroVD : Value := .agg #[.int .i64 0, .int .i64 0, .bool false, .bool false, .bool false, .bool false, .bool false, .bool false, .bool false, .bool false, .bool false, .bool false, .bool false, .bool false, .bool false, .bool false, .bool false, .bool false, .slice none 0 0, .slice none 0 0, .slice none 0 0, .slice none 0 0, .slice none 0 0, .slice none 0 0, .slice none 0 0, .slice none 0 0, .slice none 0 0, .slice none 0 0]
theorem eltD : EltT encD Try.prog 28 76 zeroVD 272 := eltT_mk Try.underlying28 (by kernel_rfl)
theorem eltS14 : EltT encS Try.prog 43 48 zeroVS 128 := eltT_mk Try.underlying43 (by kernel_rfl)
theorem infoD28L {n : Nat} (h : n = 28) : (Try.prog.info? 76).map (·.size) = some n := by
 rw [h]
 kernel_rfl
theorem infoD28 {cs : Array Value} (h : cs.size = 28) : (Try.prog.info? 76).map (·.size) = some cs.size := by
 rw [h]
 kernel_rfl
/-- A cycle is loaded at once, whatever is in it. -/
theorem ldAt {w : World} {b o : Nat} {x : DrX} (h : ∀ t, t < 28 → w.cell? ⟨b, o + t, none⟩ = (DrX.cells x)[t]?) : (Instr.loadAt 76 (.pointer (some ⟨b, o, none⟩))).run Try.prog w = .ok (.agg x.arr) w :=
 run_loadAt_mid w b o 76 (DrX.cells x) _ (fun j v hv => by
  have hj : j < 28 := (List.getElem?_eq_some_iff.1 hv).1
  exact (h j hj).trans hv) Try.underlying76 rfl (infoD28L rfl)
theorem ldD {w : World} {g : Nat} {x : DrX} (h : Blk w g x.arr 76) : (Instr.loadAt 76 (.pointer (some ⟨g, 0, none⟩))).run Try.prog w = .ok (.agg x.arr) w :=
 ldAt (fun t ht => by rw [Nat.zero_add, h.cell t]; exact (List.getElem?_toArray ..))
theorem stop_loadT {P : Program} {ops : Array Oper} {rest : List Oper} {o : Oper} {a : Act} {w : World} {Q : Exit → Act → World → Prop} (ty : TypeId) (x : Operand) (_ : o.op = .load ty x) (h : Hid (wpList P ops Q (o :: rest) a w)) : wpList P ops Q (o :: rest) a w := h
/-- The operation, in a plain region. -/
theorem wpList_loadD {ops : Array Oper} {rest : List Oper} {op : Oper} {a : Act} {w : World} {Q : Exit → Act → World → Prop} (hgd : op.guard = none) (y : Operand) (ho : op.op = .load 76 y)
  (b o : Nat) (hx : a.eval y = .pointer (some ⟨b, o, none⟩)) (x : DrX) (hc : ∀ t, t < 28 → w.cell? ⟨b, o + t, none⟩ = (DrX.cells x)[t]?)
  (h : wpList Try.prog ops Q rest (a.put op.dst (.agg x.arr)) w) : wpList Try.prog ops Q (op :: rest) a w :=
 wpList_load_mid hgd 76 y ho b o hx (DrX.cells x) _ (fun j v hv => by
  have hj : j < 28 := (List.getElem?_eq_some_iff.1 hv).1
  exact (hc j hj).trans hv) Try.underlying76 rfl (infoD28L rfl) h
theorem yieldsIf_loadD {ops : Array Oper} {S : World → Prop} {op : Oper} {a : Act} (hw : Region.wanted op (yielded ops a.tmps) = true) (y : Operand) (ho : op.op = .load 76 y) (b o : Nat) (hx : a.eval y = .pointer (some ⟨b, o, none⟩)) (x : DrX)
  (hS : ∀ w, S w → ∀ t, t < 28 → w.cell? ⟨b, o + t, none⟩ = (DrX.cells x)[t]?) : YieldsIf Try.prog ops S op (.agg x.arr) a :=
 yieldsIf_load_mid hw 76 y ho b o hx (DrX.cells x) _ (fun w h j v hv => by
  have hj : j < 28 := (List.getElem?_eq_some_iff.1 hv).1
  exact (hS w h j hj).trans hv) Try.underlying76 rfl (infoD28L rfl)
theorem dcell {w : World} {g : Nat} {x : DrX} (h : Blk w g x.arr 76) : ∀ t, t < 28 → w.cell? ⟨g, 0 + t, none⟩ = (DrX.cells x)[t]? := fun t _ => by rw [Nat.zero_add, h.cell t]; exact (List.getElem?_toArray ..)
theorem infoDC {cs : Array Value} (h : cs.size = 2) : (Try.prog.info? 30).map (·.size) = some cs.size := by
 rw [h]
 kernel_rfl
/-- What is said to all, with the lists of one message. -/
def allX (k : Nat) (y : MsgX) : List SdX := (List.range k).map (fun (i : Nat) => ⟨(i : Int), y⟩)
theorem allX_succ (k : Nat) (y : MsgX) : allX (k + 1) y = allX k y ++ [⟨(k : Int), y⟩] := by
 unfold allX
 rw [List.range_succ, List.map_append]
 rfl
theorem allX_len (k : Nat) (y : MsgX) : (allX k y).length = k := by unfold allX; simp
theorem allX_map (k : Nat) (y : MsgX) : (allX k y).map (fun z => (z.tw, z.x.m)) = toAllL k y.m := by
 unfold allX toAllL
 rw [List.map_map]
 rfl
theorem allX_sd {Q R : Nat → Prop} {w : World} {base k n c : Nat} {p : Option Addr} {y : MsgX} {ty : TypeId} (h : OwnT encS w base ty (.slice p n c) (allX k y)) (hy : y.InP Q w) (hq : ∀ b, Q b → R b) (hb : ∀ b, base ≤ b → R b) : SdR R w (.slice p n c) (toAllL k y.m) :=
 ⟨allX k y, h.rwN hb, fun z hz => by
  unfold allX at hz
  obtain ⟨i, _, rfl⟩ := List.mem_map.1 hz
  exact hy.mono (fun b _ h => hq b h), allX_map k y⟩
set_option linter.unusedSimpArgs false in
set_option maxHeartbeats 4000000 in
set_option maxRecDepth 100000 in
theorem dall_any (w : World) (N : Nat) (y : MsgX) (P : Nat → Prop) (h8 : N ≤ 8) (hy : y.InP P w) :
  Calls Try.prog 34 #[.int .i64 (N : Int), y.m.v (.slice y.pl y.m.ls.length y.cl) (.slice y.pn y.m.ns.length y.cn)] w fun e w' => ∃ p' c', e = .returned (.slice p' N c') ∧ SdR (fun b => P b ∨ w.heap.size ≤ b) w' (.slice p' N c') (toAllL N y.m) ∧ Below w.heap.size w w' := by
 have HY := Lib.hid hy
 have HNN : Hid (N ≤ 8) := Lib.hid h8
 clear hy h8
 unfold Msg.v
 have HB0 : Hid (Below w.heap.size w (w.alloc (.cells #[.int .i64 y.m.k, .int .i64 y.m.s, .int .i64 y.m.n, .int .i64 y.m.b, .int .i64 y.m.c, .int .i64 y.m.r, .int .i64 y.m.y, .int .i64 y.m.a, .bool y.m.t, .slice y.pl y.m.ls.length y.cl, .slice y.pn y.m.ns.length y.cn] 36))) := Lib.hid ((oneB w _))
 have Hm0 : Hid (Blk (w.alloc (.cells #[.int .i64 y.m.k, .int .i64 y.m.s, .int .i64 y.m.n, .int .i64 y.m.b, .int .i64 y.m.c, .int .i64 y.m.r, .int .i64 y.m.y, .int .i64 y.m.a, .bool y.m.t, .slice y.pl y.m.ls.length y.cl, .slice y.pn y.m.ns.length y.cn] 36)) w.heap.size #[.int .i64 y.m.k, .int .i64 y.m.s, .int .i64 y.m.n, .int .i64 y.m.b, .int .i64 y.m.c, .int .i64 y.m.r, .int .i64 y.m.y, .int .i64 y.m.a, .bool y.m.t, .slice y.pl y.m.ls.length y.cl, .slice y.pn y.m.ns.length y.cn] 36) := Lib.hid (Blk.new w #[.int .i64 y.m.k, .int .i64 y.m.s, .int .i64 y.m.n, .int .i64 y.m.b, .int .i64 y.m.c, .int .i64 y.m.r, .int .i64 y.m.y, .int .i64 y.m.a, .bool y.m.t, .slice y.pl y.m.ls.length y.cl, .slice y.pn y.m.ns.length y.cn] 36)
 have HZ0 : Hid (w.heap.size ≤ (w.alloc (.cells #[.int .i64 y.m.k, .int .i64 y.m.s, .int .i64 y.m.n, .int .i64 y.m.b, .int .i64 y.m.c, .int .i64 y.m.r, .int .i64 y.m.y, .int .i64 y.m.a, .bool y.m.t, .slice y.pl y.m.ls.length y.cl, .slice y.pn y.m.ns.length y.cn] 36)).heap.size) := Lib.hid HB0.out.size
 go_enter Try.func34, Try.ntmps34
 go_upto_region 1 with fail
 generalize (w.alloc (.cells #[.int .i64 y.m.k, .int .i64 y.m.s, .int .i64 y.m.n, .int .i64 y.m.b, .int .i64 y.m.c, .int .i64 y.m.r, .int .i64 y.m.y, .int .i64 y.m.a, .bool y.m.t, .slice y.pl y.m.ls.length y.cl, .slice y.pn y.m.ns.length y.cn] 36)) = W at *
 have HWL : Hid (w.heap.size < W.heap.size) := Lib.hid Hm0.out.lt
 have HREL : Hid (OwnT encS W W.heap.size 48 (.slice none 0 0) (allX 0 y) ∧ Below W.heap.size W W) := Lib.hid ⟨OwnT.nil_ _ _ _ _, Below.refl _ _⟩
 go_wp2_with fail
 go_loopw [5, 6] (fun v i wr => ∃ k : Nat, k ≤ N ∧ i = .int .i64 k ∧ Hid (OwnT encS wr W.heap.size 48 v (allX k y) ∧ Below W.heap.size W wr)) (fun _ i _ => N - (intOf i).toNat)
 case atStart => exact ⟨0, by omega, rfl, HREL⟩
 case round =>
  clear HREL
  obtain ⟨k, hk, rfl, HK⟩ := hrel
  have hk9 : k + 1 ≤ 9 := by have := HNN.out; omega
  obtain ⟨pz, cz, hvz⟩ := HK.out.1.form
  rw [allX_len] at hvz
  subst hvz
  by_cases hlt : k < N
  ·have hltI : (k : Int) < (N : Int) := by omega
   have Hm1 := Lib.hid (Hm0.out.below HK.out.2 Hm0.out.lt)
   have c0 : wr.cell? ⟨w.heap.size, 0, none⟩ = some (.int .i64 y.m.k) := Hm1.out.cell 0
   have c1 : wr.cell? ⟨w.heap.size, 1, none⟩ = some (.int .i64 y.m.s) := Hm1.out.cell 1
   have c2 : wr.cell? ⟨w.heap.size, 2, none⟩ = some (.int .i64 y.m.n) := Hm1.out.cell 2
   have c3 : wr.cell? ⟨w.heap.size, 3, none⟩ = some (.int .i64 y.m.b) := Hm1.out.cell 3
   have c4 : wr.cell? ⟨w.heap.size, 4, none⟩ = some (.int .i64 y.m.c) := Hm1.out.cell 4
   have c5 : wr.cell? ⟨w.heap.size, 5, none⟩ = some (.int .i64 y.m.r) := Hm1.out.cell 5
   have c6 : wr.cell? ⟨w.heap.size, 6, none⟩ = some (.int .i64 y.m.y) := Hm1.out.cell 6
   have c7 : wr.cell? ⟨w.heap.size, 7, none⟩ = some (.int .i64 y.m.a) := Hm1.out.cell 7
   have c8 : wr.cell? ⟨w.heap.size, 8, none⟩ = some (.bool y.m.t) := Hm1.out.cell 8
   have c9 : wr.cell? ⟨w.heap.size, 9, none⟩ = some (.slice y.pl y.m.ls.length y.cl) := Hm1.out.cell 9
   have c10 : wr.cell? ⟨w.heap.size, 10, none⟩ = some (.slice y.pn y.m.ns.length y.cn) := Hm1.out.cell 10
   go_wp2_with (at_builtin; with_reducible refine stop_appendT (.tmp 12) (.tmp 16) 43 rfl ?_)
   clear c0 c1 c2 c3 c4 c5 c6 c7 c8 c9 c10 hltI
   refine wpList_append_t rfl (.tmp 12) (.tmp 16) 43 rfl 48 zeroVS 128 W.heap.size eltS14 rfl (by decide) (.slice pz k cz) (.slice (some ⟨wr.heap.size, 0, none⟩) 1 1) (allX k y) [(⟨(k : Int), y⟩ : SdX)] rfl rfl (HK.out.1.later (oneB wr _)) (TRow.one_ encS (⟨(k : Int), y⟩ : SdX) (Blk.new wr #[.int .i64 (k : Int), .int .i64 y.m.k, .int .i64 y.m.s, .int .i64 y.m.n, .int .i64 y.m.b, .int .i64 y.m.c, .int .i64 y.m.r, .int .i64 y.m.y, .int .i64 y.m.a, .bool y.m.t, .slice y.pl y.m.ls.length y.cl, .slice y.pn y.m.ns.length y.cn] 48) rfl (Nat.le_refl 1)) (by rw [allX_len]; have := HNN.out; simp; omega) (by have h1 := HK.out.2.size; have h2 := (oneB wr (.cells #[.int .i64 (k : Int), .int .i64 y.m.k, .int .i64 y.m.s, .int .i64 y.m.n, .int .i64 y.m.b, .int .i64 y.m.c, .int .i64 y.m.r, .int .i64 y.m.y, .int .i64 y.m.a, .bool y.m.t, .slice y.pl y.m.ls.length y.cl, .slice y.pn y.m.ns.length y.cn] 48)).size; omega) (allX (k + 1) y) (k + 1) (allX_succ k y).symm (allX_len _ _) ?_
   intro p1 c1 w1 ho _ hbw
   have HNX : Hid (OwnT encS w1 W.heap.size 48 (.slice p1 (k + 1) c1) (allX (k + 1) y) ∧ Below W.heap.size W w1) := Lib.hid ⟨ho, (HK.out.2.trans ((oneB wr (.cells #[.int .i64 (k : Int), .int .i64 y.m.k, .int .i64 y.m.s, .int .i64 y.m.n, .int .i64 y.m.b, .int .i64 y.m.c, .int .i64 y.m.r, .int .i64 y.m.y, .int .i64 y.m.a, .bool y.m.t, .slice y.pl y.m.ls.length y.cl, .slice y.pn y.m.ns.length y.cn] 48)).mono HK.out.2.size)).trans hbw⟩
   clear ho hbw HK Hm1
   go_wp2_with fail
   go_roundw
   case rel => exact ⟨k + 1, by omega, by go_num, HNX⟩
   case measure => simp [intOf]; omega
  ·have hltI : ¬ (k : Int) < (N : Int) := by omega
   obtain rfl : k = N := by omega
   have HE := Lib.hid HK.out
   go_wp2_with fail
   go_ret
   exact ⟨_, _, rfl, allX_sd HE.out.1 ((HY.out.kept HB0.out).kept HE.out.2) (fun b h => .inl h) (fun b h => .inr (by have := HB0.out.size; omega)), HB0.out.trans (HE.out.2.mono HB0.out.size)⟩
set_option linter.unusedSimpArgs false in
set_option maxHeartbeats 4000000 in
set_option maxRecDepth 100000 in
theorem dwith_any (w : World) (P : Nat → Prop) (N : Nat) (k : Int) (p : Option Addr) (n c : Nat) (rs : List Rn) (x : DrX) (hrs : DsR P N w (.slice p n c) rs) (hn : n = rs.length) (hl : n ≤ 2000) (hk1 : 1 ≤ k) (hk2 : k ≤ n) (hx : x.In P w) :
  Calls Try.prog 36 #[.agg #[.int .i64 (N : Int), .slice p n c], .int .i64 k, x.v] w fun e w' => ∃ p' c', e = .returned (.agg #[.int .i64 (N : Int), .slice p' n c']) ∧ DsR (fun b => P b ∨ w.heap.size ≤ b) N w' (.slice p' n c') (rs.set (k - 1).toNat (x.rn N)) ∧ Below w.heap.size w w' := by
 obtain ⟨xs, hr, hat, hin, hm⟩ := hrs
 have hnx : xs.length = n := by rw [hn, ← hm, List.length_map]
 obtain ⟨kn, hk⟩ : ∃ kn : Nat, k = (kn : Int) + 1 := ⟨(k - 1).toNat, by omega⟩
 subst hk
 have hkn : kn < n := by omega
 have HM := Lib.hid hm
 have HIN := Lib.hid hin
 have HNX := Lib.hid hnx
 have HKN := Lib.hid hkn
 have HR := Lib.hid hr
 have HN1 : Hid (n ≤ 2000) := Lib.hid hl
 have HXI := Lib.hid hx
 have hw1 : wrap64 (kn : Int) = (kn : Int) := by unfold wrap64; omega
 clear hr hat hin hm hn hl hx hk1 hk2 hnx
 unfold DrX.v
 have HB0 : Hid (Below w.heap.size w (((w.alloc (.cells #[.int .i64 (N : Int), .slice p n c] 30)).alloc (.cells x.arr 76)).alloc (.cells #[.int .i64 0, .slice none 0 0] 30))) := Lib.hid ((((oneB w _).alloc (by simp <;> omega) _).alloc (by simp <;> omega) _))
 have Hc0 : Hid (Blk (((w.alloc (.cells #[.int .i64 (N : Int), .slice p n c] 30)).alloc (.cells x.arr 76)).alloc (.cells #[.int .i64 0, .slice none 0 0] 30)) w.heap.size #[.int .i64 (N : Int), .slice p n c] 30) := Lib.hid (((Blk.new w #[.int .i64 (N : Int), .slice p n c] 30).alloc _).alloc _)
 have Hx0 : Hid (Blk (((w.alloc (.cells #[.int .i64 (N : Int), .slice p n c] 30)).alloc (.cells x.arr 76)).alloc (.cells #[.int .i64 0, .slice none 0 0] 30)) (w.heap.size + 1) x.arr 76) := Lib.hid ((Blk.new' (w.alloc (.cells #[.int .i64 (N : Int), .slice p n c] 30)) x.arr 76 (by simp)).alloc _)
 have Hr0 : Hid (Blk (((w.alloc (.cells #[.int .i64 (N : Int), .slice p n c] 30)).alloc (.cells x.arr 76)).alloc (.cells #[.int .i64 0, .slice none 0 0] 30)) (w.heap.size + 1 + 1) #[.int .i64 0, .slice none 0 0] 30) := Lib.hid (Blk.new' ((w.alloc (.cells #[.int .i64 (N : Int), .slice p n c] 30)).alloc (.cells x.arr 76)) #[.int .i64 0, .slice none 0 0] 30 (by simp))
 have HZ0 : Hid (w.heap.size ≤ (((w.alloc (.cells #[.int .i64 (N : Int), .slice p n c] 30)).alloc (.cells x.arr 76)).alloc (.cells #[.int .i64 0, .slice none 0 0] 30)).heap.size) := Lib.hid HB0.out.size
 go_enter Try.func36, Try.ntmps36
 go_upto_region 1 with fail
 generalize (((w.alloc (.cells #[.int .i64 (N : Int), .slice p n c] 30)).alloc (.cells x.arr 76)).alloc (.cells #[.int .i64 0, .slice none 0 0] 30)) = W at *
 have HWL : Hid (w.heap.size + 1 + 1 < W.heap.size) := Lib.hid Hr0.out.lt
 have HOE := Lib.hid (OwnT.madeE encD W W.heap.size 76 (Nat.le_refl _))
 have HBE := Lib.hid (oneB W (.cells #[] 76))
 have HRW := Lib.hid ((HR.out.kept HB0.out).kept HBE.out)
 have a1 : (W.alloc (.cells #[] 76)).cell? ⟨w.heap.size, 1, none⟩ = some (.slice p n c) := (Hc0.out.below HBE.out Hc0.out.lt).cell 1
 go_wp2_with (at_builtin; with_reducible refine stop_appendT (.tmp 8) (.tmp 10) 28 rfl ?_)
 clear a1
 refine wpList_append_t rfl (.tmp 8) (.tmp 10) 28 rfl 76 zeroVD 272 W.heap.size eltD rfl (by decide) (.slice (some ⟨W.heap.size, 0, none⟩) 0 0) (.slice p n c) [] xs rfl rfl HOE.out HRW.out (by have := HNX.out; have := HN1.out; simp; omega) HBE.out.size xs n (List.nil_append _) HNX.out ?_
 intro p1 c1 w1 ho _ hbw
 have HO := Lib.hid ho
 have hb : Below W.heap.size W w1 := HBE.out.trans hbw
 clear ho hbw HOE HBE HRW
 have Hc1 := kbq Hc0 hb
 have Hx1 := kbq Hx0 hb
 have Hr1 := kbq Hr0 hb
 have HB1 := ktq HB0 hb
 have HZ1 := kzq HZ0 hb.size
 clear Hc0 Hx0 Hr0 HB0 HZ0
 clear hb
 obtain ⟨g, cur, hp1, hgb, hblk, hnc, hmx, hsz, htk, hll⟩ := HO.out.lies (show 0 < n by have := HKN.out; omega)
 subst hp1
 have HGB : Hid (W.heap.size ≤ g) := Lib.hid hgb
 have HTH := Lib.hid (HO.out.there kn 28 (by have := HKN.out; show kn * 28 + 28 ≤ c1 * 28; omega) (by have := HKN.out; omega))
 have HCC : Hid (n ≤ c1) := Lib.hid hnc
 clear hgb hblk hnc hmx hsz htk hll
 have hkI : (kn : Int) < (n : Int) := by have := HKN.out; omega
 have hkC : (kn : Int) < (c1 : Int) := by have := HKN.out; have := HCC.out; omega
 go_wp2_with (with_reducible refine stop_loadT 76 (.tmp 5) rfl ?_)
 refine wpList_loadD rfl (.tmp 5) rfl (w.heap.size + 1) 0 rfl x (dcell Hx1.out) ?_
 go_wp2_with (with_reducible refine stop_storeT 76 (.tmp 16) (.tmp 15) rfl ?_)
 have hgl := HWL.out
 have hch : Hid (Chg g w1 (w1.setCells g (kn * 28) x.arr.toList)) := Lib.hid (chg_putL _ _ _ _ _ (Chg.refl _ w1))
 have HO3 : Hid (OwnT encD (w1.setCells g (kn * 28) x.arr.toList) W.heap.size 76 (.slice (some ⟨g, 0, none⟩) n c1) (xs.set kn x)) := Lib.hid (HO.out.put kn HKN.out x)
 have HB2 : Hid (Below w.heap.size w (w1.setCells g (kn * 28) x.arr.toList)) := Lib.hid (below_put (by have := HGB.out; omega) _ _ _ _ HB1.out)
 have HZ2 : Hid (w.heap.size ≤ (w1.setCells g (kn * 28) x.arr.toList).heap.size) := Lib.hid HB2.out.size
 have Hc2 := kcq Hc1 hch (by have := HGB.out; omega)
 have Hx2 := kcq Hx1 hch (by have := HGB.out; omega)
 have Hr2 := kcq Hr1 hch (by have := HGB.out; omega)
 clear hgl hch HO Hc1 Hx1 Hr1 HB1 HZ1
 refine wpList_store_mid rfl 76 (.tmp 16) (.tmp 15) rfl g (kn * 28) x.arr rfl rfl HTH.out (infoD28 rfl) x.all_one ?_
 generalize (w1.setCells g (kn * 28) x.arr.toList) = W3 at *
 clear HTH hkI hkC
 go_upto_region 3 with fail
 have z1 : W3.cell? ⟨w.heap.size, 1, none⟩ = some (.slice p n c) := Hc2.out.cell 1
 have f1 := Hc2.out.free 1
 go_upto_region 4 with fail
 clear z1 f1
 have hch := Lib.hid ((Chg.refl w.heap.size W3).set 1 (.slice (some ⟨g, 0, none⟩) n c1))
 have Hc3 : Hid (Blk _ w.heap.size #[.int .i64 (N : Int), .slice (some ⟨g, 0, none⟩) n c1] 30) := Lib.hid (Hc2.out.set 1 (.slice (some ⟨g, 0, none⟩) n c1))
 have HB3 := ksq HB2 hch (Nat.le_refl _)
 have HZ3 : Hid (w.heap.size ≤ (W3.setCell ⟨w.heap.size, 1, none⟩ (.slice (some ⟨g, 0, none⟩) n c1)).heap.size) := Lib.hid HB3.out.size
 have Hx3 := kcq Hx2 hch (by omega)
 have Hr3 := kcq Hr2 hch (by omega)
 have HO4 := Lib.hid (HO3.out.stay (fun g hg => hch.out.2 g (HO3.out.lt g hg) (by have h1 := HO3.out.block_ge g hg; have := HWL.out; omega)))
 clear hch HO3 Hc2 Hx2 Hr2 HB2 HZ2
 generalize (W3.setCell ⟨w.heap.size, 1, none⟩ (.slice (some ⟨g, 0, none⟩) n c1)) = W4 at *
 have a0 : W4.cell? ⟨w.heap.size, 0, none⟩ = some (.int .i64 (N : Int)) := Hc3.out.cell 0
 have a1 : W4.cell? ⟨w.heap.size, 1, none⟩ = some (.slice (some ⟨g, 0, none⟩) n c1) := Hc3.out.cell 1
 go_wp2_with (with_reducible refine stop_storeT 30 (.tmp 6) (.tmp 19) rfl ?_)
 clear a0 a1
 have HTH : Hid (W4.there (w.heap.size + 1 + 1) 0 2) := Hr3.out.thereAt
 have hch : Hid (Chg (w.heap.size + 1 + 1) W4 (W4.setCells (w.heap.size + 1 + 1) 0 (#[.int .i64 (N : Int), .slice (some ⟨g, 0, none⟩) n c1] : Array Value).toList)) := Lib.hid (chg_putL _ _ _ _ _ (Chg.refl _ W4))
 have Hr4 : Hid (Blk (W4.setCells (w.heap.size + 1 + 1) 0 (#[.int .i64 (N : Int), .slice (some ⟨g, 0, none⟩) n c1] : Array Value).toList) (w.heap.size + 1 + 1) #[.int .i64 (N : Int), .slice (some ⟨g, 0, none⟩) n c1] 30) := Lib.hid (blk_put_all Hr3.out _ rfl)
 have HB4 : Hid (Below w.heap.size w (W4.setCells (w.heap.size + 1 + 1) 0 (#[.int .i64 (N : Int), .slice (some ⟨g, 0, none⟩) n c1] : Array Value).toList)) := Lib.hid (below_put (by omega) _ _ _ _ HB3.out)
 have HZ4 := kzq HZ3 hch.out.size
 have Hc4 := kcq Hc3 hch (by omega)
 have Hx4 := kcq Hx3 hch (by omega)
 have HO5 := Lib.hid (HO4.out.stay (fun g hg => hch.out.2 g (HO4.out.lt g hg) (by have h1 := HO4.out.block_ge g hg; have := HWL.out; omega)))
 clear HO4 hch Hc3 Hx3 Hr3 HB3 HZ3
 refine wpList_store_mid rfl 30 (.tmp 6) (.tmp 19) rfl (w.heap.size + 1 + 1) 0 #[.int .i64 (N : Int), .slice (some ⟨g, 0, none⟩) n c1] rfl rfl HTH.out (infoDC rfl) (all_oneCell_toArray (by intro u hu; simp at hu; rcases hu with rfl | rfl <;> rfl)) ?_
 generalize (W4.setCells (w.heap.size + 1 + 1) 0 (#[.int .i64 (N : Int), .slice (some ⟨g, 0, none⟩) n c1] : Array Value).toList) = W5 at *
 clear HTH
 go_wp2_with fail
 have hfr := Hr4.out
 refine bodyPost_ret (v := .agg #[.int .i64 (N : Int), .slice (some ⟨g, 0, none⟩) n c1]) (by simp [results, Try.results36, go_sem, hfr.cell 0, hfr.cell 1]) rfl ?_
 refine ⟨_, _, rfl, ⟨xs.set kn x, HO5.out.row, ?_, ?_, ?_⟩, HB4.out⟩
 ·refine HO5.out.at_P (fun b hb => .inr ?_)
  have := HWL.out
  omega
 ·intro y hy
  rcases List.mem_or_eq_of_mem_set hy with h | h
  ·exact ((HIN.out y h).kept HB4.out).imp (fun b h => .inl h)
  ·subst h; exact (HXI.out.kept HB4.out).imp (fun b h => .inl h)
 ·rw [List.map_set, HM.out, Int.add_sub_cancel, Int.toNat_natCast]
end Go.Proofs.Yteogdfpkcoodlaa
