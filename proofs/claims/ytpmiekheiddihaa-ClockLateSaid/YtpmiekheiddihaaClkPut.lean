/- (*Clock).put by contract. -/
import Derived.Test.YtpmiekheiddihaaClkA
namespace Go.Proofs.Ytpmiekheiddihaa
open Go.RowKit Go.Maps
set_option linter.unusedSimpArgs false in
set_option maxHeartbeats 4000000 in
set_option maxRecDepth 100000 in
theorem cput_any (P : Nat → Prop) (w : World) (gc gm : Nat) (now : Int) (k : Nat) (p : Option Addr) (c : Nat) (hs ds : List Du) (nm : ByteArray) (t : Int) (h : Clk P w gc gm now k p c hs ds) (hnm : dofU ds nm = none) (hsz : nm.size ≤ 281474976710656) (hn : ds.length ≤ 50000) (hk : k ≤ 1000000) (hP : ∀ x, w.heap.size ≤ x → P x) :
    Calls Try.prog 22 #[.pointer (some ⟨gc, 0, none⟩), .string nm, .int .i64 t] w fun e w' => e = .returned (.tuple #[]) ∧ ∃ b p' c' hs', Clk P w' gc gm now (k + 1) p' c' hs' (ds ++ [⟨b, nm, t, (k : Int) + 1⟩]) ∧ ChgP P w w' := by
  have HH := Lib.hid h
  have hk1 : wrap64 ((k : Int) + 1) = (k : Int) + 1 := IntWalk.wrap64_in _ (by omega)
  have HN : Hid (ds.length ≤ 50000 ∧ k ≤ 1000000 ∧ dofU ds nm = none ∧ nm.size ≤ 281474976710656) := Lib.hid ⟨hn, hk, hnm, hsz⟩
  have HP := Lib.hid hP
  have k1 : w.cell? ⟨gc, 1, none⟩ = some (.int .i64 k) := h.cl.blk.cell 1
  have f1 := h.cl.blk.free 1
  have HC1 : Hid (ClX (InQ P gc gm) (w.setCell ⟨gc, 1, none⟩ (.int .i64 ((k : Int) + 1))) gc now ((k : Int) + 1) (.map (some gm)) p ds.length c hs) := Lib.hid ⟨h.cl.hp.stay (fun b _ hq => Below.heap_setCell _ _ _ b (fun e => hq.2.1 e)), h.cl.blk.set 1 _, h.cl.nq⟩
  have HG1 : Hid (Chg gc w (w.setCell ⟨gc, 1, none⟩ (.int .i64 ((k : Int) + 1)))) := Lib.hid ((Chg.refl _ _).set 1 _)
  have HM1 : Hid (MpN gm k (dofU ds) (w.setCell ⟨gc, 1, none⟩ (.int .i64 ((k : Int) + 1)))) := Lib.hid (h.mp.chg HG1.out h.ne)
  clear h hP hn hk hnm hsz
  go_enter Try.func22, Try.ntmps22
  go_upto_region 1 with fail
  try simp only [hk1]
  clear k1 f1 hk1
  generalize w.setCell ⟨gc, 1, none⟩ (.int .i64 ((k : Int) + 1)) = W1 at *
  go_wp2_with fail
  refine (sclone_any nm W1 HN.out.2.2.2).mono ?_
  rintro y9 w2 ⟨rfl, hb2⟩
  have HC2 := Lib.hid (HC1.out.kept hb2)
  have HM2 := Lib.hid (HM1.out.kept hb2)
  have HS2 : Hid (w.heap.size ≤ w2.heap.size) := Lib.hid (Nat.le_trans HG1.out.size hb2.size)
  have HG2 : Hid (ChgP P w w2) := Lib.hid ((ChgP.of_chg HG1.out HH.out.gin).trans (ChgP.of_below hb2))
  have k1 : w2.cell? ⟨gc, 1, none⟩ = some (.int .i64 ((k : Int) + 1)) := HC2.out.blk.cell 1
  clear hb2 HC1 HM1 HG1
  go_upto_region 3 with fail
  have hbA := oneB w2 (.cells #[.string nm, .int .i64 t, .int .i64 ((k : Int) + 1), .int .i64 0] 65)
  have HC3 := Lib.hid (HC2.out.kept hbA)
  have HM3 := Lib.hid (HM2.out.kept hbA)
  have HD3 := Lib.hid (Blk.new w2 #[.string nm, .int .i64 t, .int .i64 ((k : Int) + 1), .int .i64 0] 65)
  have HG3 := Lib.hid (HG2.out.trans (ChgP.of_below hbA))
  have HS3 : Hid (w.heap.size ≤ w2.heap.size ∧ w2.heap.size < (w2.alloc (.cells #[.string nm, .int .i64 t, .int .i64 ((k : Int) + 1), .int .i64 0] 65)).heap.size) := Lib.hid ⟨HS2.out, HD3.out.lt⟩
  have HLT : Hid (gc < w2.heap.size ∧ gm < w2.heap.size ∧ (∀ e ∈ hs, e.b ≠ w2.heap.size) ∧ (Value.slice p ds.length c).ownBlock ≠ some w2.heap.size) := Lib.hid ⟨HC2.out.blk.lt, HM2.out.lt, fun e he => Nat.ne_of_lt (HC2.out.hp.lt e he), fun e => Nat.lt_irrefl _ (HC2.out.hp.own.lt _ e)⟩
  clear k1 hbA HC2 HM2 HG2 HS2
  generalize w2.alloc (.cells #[.string nm, .int .i64 t, .int .i64 ((k : Int) + 1), .int .i64 0] 65) = W3 at *
  generalize w2.heap.size = b at *
  have HNW : Hid (∀ x, b ≤ x → (InQ P gc gm) x) := Lib.hid (fun x hx => ⟨HP.out x (by have := HS3.out; omega), by have := HLT.out; omega, by have := HLT.out; omega⟩)
  have HPU := Lib.hid (hpush_any (InQ P gc gm) W3 gc now ((k : Int) + 1) (.map (some gm)) p ds.length c hs ⟨b, nm, t, (k : Int) + 1⟩ 0 HC3.out HH.out.ok HD3.out (HNW.out b (Nat.le_refl _)) HLT.out.2.2.1 HLT.out.2.2.2 (fun x hx => HNW.out x (by have := HS3.out; omega)) (by have := HN.out; omega))
  clear HC3 HD3
  generalize hln : ds.length = n at *
  have HLN := Lib.hid hln
  clear hln
  go_wp2_with fail
  refine HPU.out.mono ?_
  rintro y9 w4 ⟨rfl, p4, c4, a, ha, hoa, hpa, hca⟩
  have HA := Lib.hid ha
  have HOA := Lib.hid hoa
  have HPA := Lib.hid hpa
  have HG4 := Lib.hid (HG3.out.trans (hca.imp (Q := P) (fun x _ hx => hx.elim (fun h => h.1) (fun e => e ▸ HH.out.gin))))
  have HM4 := Lib.hid (HM3.out.block (hca.2 gm HM3.out.lt (fun hx => hx.elim (fun h => h.2.2 rfl) (fun h => HH.out.ne h))))
  clear ha hoa hpa hca HPU HG3 HM3
  obtain ⟨w5, hrun, hmp, hch⟩ := HM4.out.put (s := nm) (by have := HN.out.2.2.2; unfold maxLen; omega) (by have := HN.out; unfold maxLen; omega) b
  have HMP := Lib.hid hmp
  have HCH := Lib.hid hch
  have k3 : w4.cell? ⟨gc, 3, none⟩ = some (.map (some gm)) := HA.out.blk.cell 3
  clear hmp hch
  go_wp2_with fail
  go_end0
  have h := HH.out
  have hfr := dof_none.1 HN.out.2.2.1
  have hl2 : (ds ++ [(⟨b, nm, t, (k : Int) + 1⟩ : Du)]).length = n + 1 := by rw [List.length_append, HLN.out]; rfl
  refine ⟨rfl, b, p4, c4, a, ⟨?_, by rw [hl2]; exact HOA.out, HPA.out.trans (h.pm.append_right _), HMP.out.congr (fun s _ => (dof_append ds ⟨b, nm, t, (k : Int) + 1⟩ hfr s).symm), h.gin, h.min, h.ne, ?_, fun e he => ?_, ?_, fun e he => ?_⟩, HG4.out.trans (ChgP.of_chg HCH.out h.min)⟩
  · rw [hl2]
    have hc := HA.out
    exact ⟨hc.hp.stay (fun b hb hp => HCH.out.2 b hb hp.2.2), by have := hc.blk.chg HCH.out (fun e => h.ne e.symm); simpa using this, hc.nq⟩
  · rw [List.pairwise_append]
    refine ⟨h.srt, List.pairwise_singleton _ _, fun x hx y hy => ?_⟩
    rw [List.mem_singleton.1 hy]
    have := h.top x hx
    show x.s < (k : Int) + 1
    omega
  · rcases List.mem_append.1 he with h1 | h1
    · have := h.top e h1
      show e.s ≤ ((k + 1 : Nat) : Int)
      omega
    · rw [List.mem_singleton.1 h1]
      show (k : Int) + 1 ≤ ((k + 1 : Nat) : Int)
      omega
  · unfold NamesU
    rw [List.pairwise_append]
    exact ⟨h.nd, List.pairwise_singleton _ _, fun x hx y hy => by rw [List.mem_singleton.1 hy]; exact hfr x hx⟩
  · rcases List.mem_append.1 he with h1 | h1
    · exact h.sz e h1
    · rw [List.mem_singleton.1 h1]
      have := HN.out.2.2.2
      show nm.size ≤ maxLen
      unfold maxLen
      omega
end Go.Proofs.Ytpmiekheiddihaa
