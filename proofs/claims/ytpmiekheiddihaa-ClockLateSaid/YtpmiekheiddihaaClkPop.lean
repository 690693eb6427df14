/- dues.Pop, dues.Push by contract. -/
import Derived.Test.YtpmiekheiddihaaClkUp
namespace Go.Proofs.Ytpmiekheiddihaa
open Go.RowKit
theorem ta_due (a : Addr) (w : World) (t : TypeId) : (Instr.typeAssert (.iface 61 (.pointer (some a))) t 61 false).run Try.prog w = .ok (.pointer (some a)) w := by kernel_rfl
theorem stop_appendU {P : Program} {ops : Array Oper} {rest : List Oper} {o : Oper} {a : Act} {w : World} {Q : Exit → Act → World → Prop} (s x : Operand) (t : TypeId)
    (_ : o.op = .call { callee := .builtin .append, args := #[s, x], argTypes := #[t, t] }) (h : Hid (wpList P ops Q (o :: rest) a w)) : wpList P ops Q (o :: rest) a w := h
theorem wpList_append_u {α : Type} {e : Enc α} {P : Program} {w : World} {ops : Array Oper} {rest : List Oper} {o : Oper} {a : Act} {Q : Exit → Act → World → Prop} (hgd : o.guard = none) (s x : Operand) (t : TypeId)
    (ho : o.op = .call { callee := .builtin .append, args := #[s, x], argTypes := #[t, t] })
    (ty : TypeId) (z : Value) (bytes base : Nat) (he : EltT e P t ty z bytes) (hzs : z.cells.size = e.k) (hb8 : bytes ≤ 1000) (v y : Value) (xs ys : List α) (hs : a.eval s = v) (hx : a.eval x = y) (hown : OwnT e w base ty v xs) (hrow : TRow e w y ys)
    (h63 : xs.length + ys.length ≤ 1000000) (hbase : base ≤ w.heap.size) (L : List α) (N : Nat) (hL : xs ++ ys = L) (hN : L.length = N)
    (h : ∀ p' c' w', OwnT e w' base ty (.slice p' N c') L → w.grownBy w' v.ownBlock → ((Value.slice p' N c').ownBlock = v.ownBlock ∨ (Value.slice p' N c').ownBlock = some w.heap.size) → wpList P ops Q rest (a.put o.dst (.slice p' N c')) w') : wpList P ops Q (o :: rest) a w := by
  subst hL
  subst hN
  refine wpList_plain hgd fun K hK => ?_
  obtain ⟨v', w', hrun, h1, h2, h3⟩ := run_append_t w t o.type ty z bytes base he hzs hb8 v y xs ys hown hrow h63 hbase
  unfold Oper.wp
  obtain ⟨p', c', rfl⟩ := h1.form
  simp [execOp, ho, resolve, invoke, builtin, hs, hx, hrun, Result.andThen]
  exact hK _ _ (by simpa using h p' c' w' h1 h2 h3)
set_option linter.unusedSimpArgs false in
set_option maxHeartbeats 4000000 in
set_option maxRecDepth 100000 in
theorem dpop_any (Q : Nat → Prop) (w : World) (gc : Nat) (now sets : Int) (mv : Value) (p : Option Addr) (m n c : Nat) (a : List Du) (d : Du) (h : ClX Q w gc now sets mv p n c (a ++ [d])) (hm : n = m + 1) (hn : n ≤ 1000000) :
    Calls Try.prog 52 #[.pointer (some ⟨gc, 2, none⟩)] w fun e w' => e = .returned (.iface 61 (.pointer (some ⟨d.b, 0, none⟩))) ∧ ClX Q w' gc now sets mv p m c a ∧ Blk w' d.b (d.cells m) 65 ∧ ChgP (fun b => Q b ∨ b = gc) w w' := by
  have hl : a.length = m := by have := h.hp.len; rw [List.length_append, List.length_singleton] at this; omega
  have hml : m < (a ++ [d]).length := by rw [List.length_append, List.length_singleton]; omega
  have hget : (a ++ [d])[m]'hml = d := by subst hl; simp
  obtain ⟨g, rfl, hgl, hQg, hgd, hc⟩ := h.hp.where_ (by omega)
  have hcm := hc m hml
  have had := h.hp.at_ m hml
  rw [hget] at hcm had
  have fm := own_free h.hp.own m (by omega)
  have hggc : g ≠ gc := fun e => h.nq (e ▸ hQg)
  have hW : Hid (OwnT encU (w.setCell ⟨g, m, none⟩ (.pointer none)) 0 61 (.slice (some ⟨g, 0, none⟩) m c) a) := by
    have h1 := h.hp.own.cutAt m (by omega) (by omega) [.pointer none]
    have e : m * encU.k = m := Nat.mul_one m
    rw [e] at h1
    have e2 : (a ++ [d]).take m = a := by subst hl; simp
    rw [e2] at h1
    exact Lib.hid h1
  have hB : Hid (Blk (w.setCell ⟨g, m, none⟩ (.pointer none)) gc #[.int .i64 now, .int .i64 sets, .slice (some ⟨g, 0, none⟩) n c, mv] 59) := Lib.hid (h.blk.setOther (a := ⟨g, m, none⟩) hggc _)
  have HAT : Hid (∀ k (hk : k < (a ++ [d]).length), Blk (w.setCell ⟨g, m, none⟩ (.pointer none)) ((a ++ [d])[k]).b (((a ++ [d])[k]).cells k) 65) := Lib.hid (fun k hk => (h.hp.at_ k hk).setOther (a := ⟨g, m, none⟩) (hgd _ (List.getElem_mem hk)) _)
  have HC : Hid (Chg g w (w.setCell ⟨g, m, none⟩ (.pointer none))) := Lib.hid ((Chg.refl _ _).set m _)
  have k2 : w.cell? ⟨gc, 2, none⟩ = some (.slice (some ⟨g, 0, none⟩) n c) := h.blk.cell 2
  have f2 := h.blk.free 2
  have hcap := h.hp.own.row.cap
  have HP := Lib.hid h
  have HF : Hid (a.length = m ∧ n = m + 1 ∧ g ≠ gc ∧ Q g ∧ (a ++ [d]).length ≤ c) := Lib.hid ⟨hl, hm, hggc, hQg, hcap⟩
  have HD : Hid ((a ++ [d])[m]'hml = d) := Lib.hid hget
  have e1 : wrap64 ((n : Int) - 1) = (m : Int) := by rw [IntWalk.wrap64_in _ (by omega)]; omega
  have hmn : (m : Int) < (n : Int) := by omega
  have hmn2 : m < n := by omega
  have hmc : m ≤ c := by rw [List.length_append, List.length_singleton] at hcap; omega
  have hmcI : (m : Int) ≤ (c : Int) := by omega
  clear hc hgd had hget hcap hl hm hn h
  go_enter Try.func52, Try.ntmps52
  go_upto_region 4 with fail
  simp only [e1]
  clear k2 f2 hcm fm e1
  generalize w.setCell ⟨g, m, none⟩ (.pointer none) = W1 at *
  have k2 : W1.cell? ⟨gc, 2, none⟩ = some (.slice (some ⟨g, 0, none⟩) n c) := hB.out.cell 2
  have f2 := hB.out.free 2
  go_wp2_with fail
  go_ret
  have hg2 : Chg gc W1 (W1.setCell ⟨gc, 2, none⟩ (.slice (some ⟨g, 0, none⟩) m c)) := (Chg.refl _ _).set 2 _
  have hP := HP.out
  have hkl : ∀ k, k < a.length → k < (a ++ [d]).length := fun k hk => by rw [List.length_append]; omega
  have hk2 : ∀ k (hk : k < a.length), (a ++ [d])[k]'(hkl k hk) = a[k] := fun k hk => by rw [List.getElem_append_left hk]
  have hdgc : ∀ e ∈ a ++ [d], e.b ≠ gc := fun e he h => hP.nq (h ▸ hP.hp.inP e he)
  have hnd := List.pairwise_append.1 hP.hp.nd
  refine ⟨rfl, ⟨⟨hW.out.stay (fun s hs => ?_), HF.out.1, fun k hk => ?_, fun s hs => ?_, fun e he => hP.hp.inP e (List.mem_append_left _ he), fun e he => hP.hp.ne e (List.mem_append_left _ he), hnd.1⟩, hB.out.set 2 _, hP.nq⟩, ?_, ((ChgP.of_chg HC.out (.inl HF.out.2.2.2.1)).trans (ChgP.of_chg hg2 (.inr rfl)))⟩
  · obtain rfl : g = s := by simpa [Value.ownBlock] using hs
    exact Below.heap_setCell _ _ _ g (fun e => HF.out.2.2.1 e)
  · have h1 := HAT.out k (hkl k hk)
    rw [hk2 k hk] at h1
    exact h1.setOther (a := ⟨gc, 2, none⟩) (fun e => hdgc _ (List.mem_append_left _ (List.getElem_mem hk)) e.symm) _
  · obtain rfl : g = s := by simpa [Value.ownBlock] using hs
    exact HF.out.2.2.2.1
  · have h1 := HAT.out m hml
    rw [HD.out] at h1
    exact h1.setOther (a := ⟨gc, 2, none⟩) (fun e => hdgc d (by simp) e.symm) _
theorem Hp.stayE {P : Nat → Prop} {w w' : World} {p : Option Addr} {n c : Nat} {hs : List Du} (h : Hp P w p n c hs) (h1 : ∀ s, (Value.slice p n c).ownBlock = some s → w'.heap[s]? = w.heap[s]?) (h2 : ∀ e ∈ hs, w'.heap[e.b]? = w.heap[e.b]?) : Hp P w' p n c hs :=
  ⟨h.own.stay h1, h.len, fun i hi => (h2 _ (List.getElem_mem hi)).trans (h.at_ i hi), h.row, h.inP, h.ne, h.nd⟩
set_option linter.unusedSimpArgs false in
set_option maxHeartbeats 4000000 in
set_option maxRecDepth 100000 in
theorem dpush_any (Q : Nat → Prop) (w : World) (gc : Nat) (now sets : Int) (mv : Value) (p : Option Addr) (n c : Nat) (hs : List Du) (d : Du) (z : Int) (h : ClX Q w gc now sets mv p n c hs) (hd : Blk w d.b (d.cells z) 65) (hQd : Q d.b) (hne : ∀ e ∈ hs, e.b ≠ d.b) (hno : (Value.slice p n c).ownBlock ≠ some d.b) (hQ : ∀ x, w.heap.size ≤ x → Q x) (hn : n ≤ 100000) :
    Calls Try.prog 53 #[.pointer (some ⟨gc, 2, none⟩), .iface 61 (.pointer (some ⟨d.b, 0, none⟩))] w fun e w' => e = .returned (.tuple #[]) ∧ ∃ p' c', ClX Q w' gc now sets mv p' (n + 1) c' (hs ++ [d]) ∧ ChgP (fun b => Q b ∨ b = gc) w w' := by
  have hQgc := h.nq
  have hdg : d.b ≠ gc := fun e => h.nq (e ▸ hQd)
  have hC1 : Hid (ClX Q (w.setCell ⟨d.b, 3, none⟩ (.int .i64 (n : Int))) gc now sets mv p n c hs) := Lib.hid ⟨h.hp.stayE (fun s hs' => Below.heap_setCell _ _ _ s (fun e => hno (by rw [hs']; exact congrArg some e))) (fun e he => Below.heap_setCell _ _ _ e.b (hne e he)), h.blk.setOther (a := ⟨d.b, 3, none⟩) hdg _, h.nq⟩
  have hD1 : Hid (Blk (w.setCell ⟨d.b, 3, none⟩ (.int .i64 (n : Int))) d.b (d.cells n) 65) := Lib.hid (hd.set 3 _)
  have hG1 : Hid (Chg d.b w (w.setCell ⟨d.b, 3, none⟩ (.int .i64 (n : Int)))) := Lib.hid ((Chg.refl _ _).set 3 _)
  have k2 : w.cell? ⟨gc, 2, none⟩ = some (.slice p n c) := h.blk.cell 2
  have k3 : w.cell? ⟨d.b, 3, none⟩ = some (.int .i64 z) := hd.cell 3
  have f3 := hd.free 3
  have HN : Hid (hs.length = n ∧ n ≤ 100000 ∧ d.b ≠ gc ∧ Q d.b ∧ w.heap.size ≤ (w.setCell ⟨d.b, 3, none⟩ (.int .i64 (n : Int))).heap.size) := Lib.hid ⟨h.hp.len, hn, hdg, hQd, hG1.out.size⟩
  have HNE : Hid ((∀ e ∈ hs, e.b ≠ d.b) ∧ (Value.slice p n c).ownBlock ≠ some d.b ∧ ¬ Q gc ∧ ∀ x, w.heap.size ≤ x → Q x) := Lib.hid ⟨hne, hno, hQgc, hQ⟩
  clear h hd hne hno hdg hQ hQgc
  have hta := fun w => ta_due ⟨d.b, 0, none⟩ w
  go_enter Try.func53, Try.ntmps53
  go_upto_region 2 with fail
  clear k2 k3 f3 hta
  generalize w.setCell ⟨d.b, 3, none⟩ (.int .i64 (n : Int)) = W1 at *
  have k2 : W1.cell? ⟨gc, 2, none⟩ = some (.slice p n c) := hC1.out.blk.cell 2
  have HO : Hid (OwnT encU (W1.alloc (.cells #[.pointer (some ⟨d.b, 0, none⟩)] 61)) 0 61 (.slice p n c) hs) := Lib.hid (hC1.out.hp.own.later (oneB _ _))
  go_wp2_with (at_builtin; with_reducible refine stop_appendU (.tmp 17) (.tmp 19) 57 rfl ?_)
  refine wpList_append_u rfl (.tmp 17) (.tmp 19) 57 rfl 61 (.pointer none) 8 0 eltU rfl (by decide) (.slice p n c) (.slice (some ⟨W1.heap.size, 0, none⟩) 1 1) hs [d] rfl rfl HO.out (TRow.one_ encU d (Blk.new W1 #[.pointer (some ⟨d.b, 0, none⟩)] 61) rfl (Nat.le_refl _)) (by have := HN.out; simp; omega) (Nat.zero_le _) (hs ++ [d]) (n + 1) rfl (by rw [List.length_append, HN.out.1]; rfl) ?_
  intro p9 c9 w9 ho9 hg9 hor9
  have hlt1 : ∀ x, x < W1.heap.size → x < (W1.alloc (.cells #[.pointer (some ⟨d.b, 0, none⟩)] 61)).heap.size := fun x hx => by simp; omega
  have hsz9 : W1.heap.size ≤ w9.heap.size := by have := hg9.size; simp at this; omega
  have hcl := hC1.out
  have st : ∀ x, x < W1.heap.size → (Value.slice p n c).ownBlock ≠ some x → w9.heap[x]? = W1.heap[x]? := fun x hx hne => (hg9.block x (hlt1 x hx) (fun e => hne e.symm)).trans ((oneB W1 (.cells #[.pointer (some ⟨d.b, 0, none⟩)] 61)).block x hx)
  have HB9 : Hid (Blk w9 gc #[.int .i64 now, .int .i64 sets, .slice p n c, mv] 59) := Lib.hid ((st gc hcl.blk.lt (fun e => hcl.nq (hcl.hp.row gc e))).trans hcl.blk)
  have HD9 : Hid (Blk w9 d.b (d.cells n) 65) := Lib.hid ((st d.b hD1.out.lt HNE.out.2.1).trans hD1.out)
  have HA9 : Hid (∀ k (hk : k < hs.length), Blk w9 hs[k].b (hs[k].cells k) 65) := Lib.hid (fun k hk => (st _ (hcl.hp.at_ k hk).lt (hcl.hp.ne _ (List.getElem_mem hk))).trans (hcl.hp.at_ k hk))
  have HO9 := Lib.hid ho9
  have HR9 : Hid (∀ s, (Value.slice p9 (n + 1) c9).ownBlock = some s → Q s ∧ s ≠ gc ∧ s ≠ d.b ∧ ∀ e ∈ hs, e.b ≠ s) := Lib.hid (fun s hs' => by
    rcases hor9 with h1 | h1
    · rw [h1] at hs'
      exact ⟨hcl.hp.row s hs', fun e => hcl.nq (e ▸ hcl.hp.row s hs'), fun e => HNE.out.2.1 (by rw [hs', e]), fun e he h2 => hcl.hp.ne e he (by rw [hs', h2])⟩
    · rw [h1] at hs'
      have hs2 : (W1.alloc (.cells #[.pointer (some ⟨d.b, 0, none⟩)] 61)).heap.size = s := by simpa using hs'
      have hs3 : W1.heap.size < s := by rw [← hs2]; simp
      exact ⟨HNE.out.2.2.2 s (by have := HN.out; omega), fun e => by have := hcl.blk.lt; omega, fun e => by have := hD1.out.lt; omega, fun e he h2 => by have := hcl.hp.lt e he; omega⟩)
  have HP9 : Hid (ChgP (fun b => Q b ∨ b = gc) W1 w9) := by
    refine Lib.hid ⟨(oneB W1 (.cells #[.pointer (some ⟨d.b, 0, none⟩)] 61)).mono (Nat.zero_le _) |>.grown hg9 (Nat.zero_le _) (fun _ _ => Nat.zero_le _), fun x hx hn => st x hx (fun e => hn (.inl (hcl.hp.row x e)))⟩
  clear ho9 hg9 hor9 hlt1 hsz9 hcl st HO k2
  have k2 : w9.cell? ⟨gc, 2, none⟩ = some (.slice p n c) := HB9.out.cell 2
  have f2 := HB9.out.free 2
  go_wp2_with fail
  go_end0
  have hg2 : Chg gc w9 (w9.setCell ⟨gc, 2, none⟩ (.slice p9 (n + 1) c9)) := (Chg.refl _ _).set 2 _
  have hcl := hC1.out
  have hmem : ∀ e ∈ hs ++ [d], Q e.b := fun e he => by
    rcases List.mem_append.1 he with h1 | h1
    · exact hcl.hp.inP e h1
    · rw [List.mem_singleton.1 h1]; exact HN.out.2.2.2.1
  refine ⟨rfl, p9, c9, ⟨⟨HO9.out.stay (fun s hs' => Below.heap_setCell _ _ _ s (fun e => (HR9.out s hs').2.1 e)), by rw [List.length_append, HN.out.1]; rfl, fun k hk => ?_, fun s hs' => (HR9.out s hs').1, hmem, fun e he h1 => ?_, ?_⟩, HB9.out.set 2 _, hcl.nq⟩, ((ChgP.of_chg hG1.out (.inl HN.out.2.2.2.1)).trans HP9.out).trans (ChgP.of_chg hg2 (.inr rfl))⟩
  · have hgc : ∀ e ∈ hs ++ [d], gc ≠ e.b := fun e he h1 => hcl.nq (h1 ▸ hmem e he)
    refine Blk.setOther (a := ⟨gc, 2, none⟩) ?_ (hgc _ (List.getElem_mem hk)) _
    by_cases hk2 : k < hs.length
    · rw [List.getElem_append_left hk2]
      exact HA9.out k hk2
    · obtain rfl : k = hs.length := by rw [List.length_append, List.length_singleton] at hk; omega
      have e1 : (hs ++ [d])[hs.length]'hk = d := by simp
      rw [e1, HN.out.1]
      exact HD9.out
  · rcases List.mem_append.1 he with h2 | h2
    · exact (HR9.out e.b h1).2.2.2 e h2 rfl
    · rw [List.mem_singleton.1 h2] at h1
      exact (HR9.out d.b h1).2.2.1 rfl
  · rw [List.pairwise_append]
    exact ⟨hcl.hp.nd, List.pairwise_singleton _ _, fun x hx y hy => by rw [List.mem_singleton.1 hy]; exact HNE.out.1 x hx⟩
end Go.Proofs.Ytpmiekheiddihaa
