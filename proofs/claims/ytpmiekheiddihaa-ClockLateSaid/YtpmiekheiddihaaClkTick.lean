/- (*Clock).Tick by contract. -/
import Derived.Test.YtpmiekheiddihaaClkSet
namespace Go.Proofs.Ytpmiekheiddihaa
open Go.RowKit Go.Maps
def encT : Enc ByteArray := ⟨1, fun s => [.string s], by decide, fun _ => rfl, by intro x u hu; simp at hu; subst hu; rfl⟩
theorem eltS : EltT encT Try.prog 37 9 (.string ByteArray.empty) 16 := eltT_mk Try.underlying37 (by kernel_rfl)
def dueB (T : Int) (d : Du) : Bool := decide (d.t ≤ T)
def dueL (T : Int) (ds : List Du) : List Du := ds.filter (dueB T)
def restL (T : Int) (ds : List Du) : List Du := ds.filter (fun d => !dueB T d)
def tickN (now : Int) : Int := if now = 1099511627776 then now else now + 1
def tickL (now : Int) (ds : List Du) : List ByteArray := if now = 1099511627776 then [] else (dueL (now + 1) ds).map (·.nm)
def tickD (now : Int) (ds : List Du) : List Du := if now = 1099511627776 then ds else restL (now + 1) ds
theorem tick_one {T : Int} {L hs : List Du} (hs0 : L.Pairwise (fun d e => d.s < e.s)) (hn : NamesU L) (hT : ∀ d ∈ L, T ≤ d.t) (hp : hs.Perm L) (hl : ∀ e ∈ L, lessU e (HU hs 0) = false) (h0 : HU hs 0 ∈ L) (hd : (HU hs 0).t ≤ T) :
    dueL T L = HU hs 0 :: dueL T (dropU L (HU hs 0).nm) ∧ restL T (dropU L (HU hs 0).nm) = restL T L := by
  have _ := hp
  generalize HU hs 0 = d0 at *
  obtain ⟨A, B, h1, h2⟩ := drop_parts hn h0
  have hdue : dueB T d0 = true := decide_eq_true hd
  have hA : dueL T A = [] := by
    unfold dueL
    rw [List.filter_eq_nil_iff]
    intro e he h3
    have heL : e ∈ L := by rw [h1]; simp [he]
    have h4 := hl e heL
    rw [lessU_not] at h4
    have h5 := hT e heL
    have h6 : e.t ≤ T := of_decide_eq_true h3
    rw [h1, List.pairwise_append] at hs0
    have h7 := hs0.2.2 e he d0 (by simp)
    have h8 := hT d0 h0
    omega
  rw [h2]
  conv => lhs; lhs; rw [h1]
  refine ⟨?_, ?_⟩
  · unfold dueL at *
    rw [List.filter_append, List.filter_append, hA, List.nil_append, List.nil_append, List.filter_cons, if_pos hdue]
  · conv => rhs; rw [h1]
    unfold restL
    rw [List.filter_append, List.filter_append, List.filter_cons, if_neg (by rw [hdue]; decide)]
theorem tick_end {T : Int} {L : List Du} (h : ∀ e ∈ L, T < e.t) : dueL T L = [] ∧ restL T L = L := by
  unfold dueL restL dueB
  refine ⟨List.filter_eq_nil_iff.2 (fun e he h2 => ?_), List.filter_eq_self.2 (fun e he => ?_)⟩
  · have := h e he
    have := of_decide_eq_true h2
    omega
  · have := h e he
    simp
    omega
/-- How long what is due is, as the clock's own block tells. -/
noncomputable def lenC (w : World) (gc : Nat) : Nat := match w.cell? ⟨gc, 2, none⟩ with
  | some (.slice _ n _) => n
  | _ => 0
theorem lenC_eq {P : Nat → Prop} {w : World} {gc gm : Nat} {now : Int} {k : Nat} {p : Option Addr} {c : Nat} {hs ds : List Du} (h : Clk P w gc gm now k p c hs ds) : lenC w gc = ds.length := by
  have h1 : w.cell? ⟨gc, 2, none⟩ = some (.slice p ds.length c) := h.cl.blk.cell 2
  unfold lenC
  rw [h1]
structure TRel (P : Nat → Prop) (w : World) (gc : Nat) (now : Int) (k : Nat) (ds : List Du) (v : Value) (NL : List ByteArray) (L : List Du) (wr : World) : Prop where
  own : OwnT encT wr w.heap.size 9 v NL
  eqn : NL ++ (dueL (now + 1) L).map (·.nm) = (dueL (now + 1) ds).map (·.nm)
  rest : restL (now + 1) L = restL (now + 1) ds
  ck : Ck (fun b => P b ∧ v.ownBlock ≠ some b) wr gc (now + 1) k L
  ch : ChgP P w wr
  tim : ∀ d ∈ L, now + 1 ≤ d.t
  len : L.length ≤ ds.length
  sum : NL.length + L.length ≤ ds.length
set_option linter.unusedSimpArgs false in
set_option maxHeartbeats 4000000 in
set_option maxRecDepth 100000 in
theorem ctick_any (P : Nat → Prop) (w : World) (gc : Nat) (now : Int) (k : Nat) (ds : List Du) (h : Ck P w gc now k ds) (ht : ∀ d ∈ ds, now < d.t) (hnow : 0 ≤ now ∧ now ≤ 1099511627776) (hn : ds.length ≤ 50000) :
    Calls Try.prog 15 #[.pointer (some ⟨gc, 0, none⟩)] w fun e w' => ∃ v, e = .returned v ∧ OwnT encT w' w.heap.size 9 v (tickL now ds) ∧ Ck (fun b => P b ∧ v.ownBlock ≠ some b) w' gc (tickN now) k (tickD now ds) ∧ ChgP P w w' := by
  by_cases hmx : now = 1099511627776
  · have e1 : tickL now ds = [] := if_pos hmx
    have e2 : tickN now = now := if_pos hmx
    have e3 : tickD now ds = ds := if_pos hmx
    rw [e1, e2, e3]
    have HH := Lib.hid h
    obtain ⟨gm, p, c, hs, h⟩ := h
    have k0 : w.cell? ⟨gc, 0, none⟩ = some (.int .i64 1099511627776) := by rw [← hmx]; exact h.cl.blk.cell 0
    clear h e1 e2 e3 hmx ht hnow
    go_enter Try.func15, Try.ntmps15
    go_wp2_with fail
    go_ret
    exact ⟨_, rfl, OwnT.nil_ _ _ _ _, HH.out.mono (fun b _ hp => ⟨hp, fun e => by cases e⟩), ChgP.refl _ _⟩
  have HTL : Hid (tickL now ds = (dueL (now + 1) ds).map (·.nm) ∧ tickN now = now + 1 ∧ tickD now ds = restL (now + 1) ds) := Lib.hid ⟨if_neg hmx, if_neg hmx, if_neg hmx⟩
  have hmx2 : (now == 1099511627776) = false := by simpa using hmx
  have e1 : wrap64 (now + 1) = now + 1 := IntWalk.wrap64_in _ (by omega)
  have HN : Hid (0 ≤ now ∧ now < 1099511627776 ∧ ds.length ≤ 50000) := Lib.hid ⟨hnow.1, by omega, hn⟩
  obtain ⟨gm, p, c, hs, h⟩ := h
  have k0 : w.cell? ⟨gc, 0, none⟩ = some (.int .i64 now) := h.cl.blk.cell 0
  have f0 := h.cl.blk.free 0
  have hch : Chg gc w (w.setCell ⟨gc, 0, none⟩ (.int .i64 (now + 1))) := (Chg.refl _ _).set 0 _
  have hck : Ck P (w.setCell ⟨gc, 0, none⟩ (.int .i64 (now + 1))) gc (now + 1) k ds := ⟨gm, p, c, hs, ⟨h.cl.hp.stay (fun b _ hq => Below.heap_setCell _ _ _ b (fun e => hq.2.1 e)), h.cl.blk.set 0 _, h.cl.nq⟩, h.ok, h.pm, h.mp.chg hch h.ne, h.gin, h.min, h.ne, h.srt, h.top, h.nd, h.sz⟩
  have HREL : Hid (TRel P w gc now k ds (.slice none 0 0) ([] : List ByteArray) ds (w.setCell ⟨gc, 0, none⟩ (.int .i64 (now + 1)))) := Lib.hid ⟨OwnT.nil_ _ _ _ _, rfl, rfl, hck.mono (fun b _ hp => ⟨hp, fun e => by cases e⟩), ChgP.of_chg hch h.gin, fun d hd => by have := ht d hd; omega, Nat.le_refl _, by simp⟩
  have HGS : Hid (w.heap.size ≤ (w.setCell ⟨gc, 0, none⟩ (.int .i64 (now + 1))).heap.size) := Lib.hid hch.size
  clear h hck hch ht hn hmx hnow
  go_enter Try.func15, Try.ntmps15
  go_upto_region 4 with fail
  try simp only [e1]
  clear k0 f0 e1 hmx2
  generalize w.setCell ⟨gc, 0, none⟩ (.int .i64 (now + 1)) = W1 at *
  go_wp2_with fail
  go_loopw [3] (fun v wr => ∃ NL L, Hid (TRel P w gc now k ds (v) NL L wr)) (fun _ wr => lenC wr gc)
  case atStart => exact ⟨[], ds, HREL⟩
  case round =>
    obtain ⟨NL, L, HJ⟩ := hrel
    clear HREL
    obtain ⟨pv, cv, hv⟩ := HJ.out.own.form
    generalize hmm : NL.length = m at hv
    subst hv
    obtain ⟨gm, p, c, hs, h⟩ := HJ.out.ck
    have HH := Lib.hid h
    have HM : Hid (NL.length = m ∧ m + L.length ≤ 50000) := Lib.hid ⟨hmm, by have := HJ.out.sum; have := HN.out; omega⟩
    clear hmm
    by_cases hL : L = []
    case pos =>
      have hend := tick_end (T := now + 1) (L := L) (by rw [hL]; intro e he; cases he)
      have HFE : Hid (NL = (dueL (now + 1) ds).map (·.nm) ∧ L = restL (now + 1) ds) := Lib.hid ⟨by have := HJ.out.eqn; rw [hend.1] at this; simpa using this, by rw [← HJ.out.rest, hend.2]⟩
      have HFO : Hid (OwnT encT wr w.heap.size 9 (.slice pv m cv) NL) := Lib.hid HJ.out.own
      have HFC : Hid (Ck (fun b => P b ∧ (Value.slice pv m cv).ownBlock ≠ some b) wr gc (now + 1) k L) := Lib.hid HJ.out.ck
      have HFG : Hid (ChgP P w wr) := Lib.hid HJ.out.ch
      have hS1 : wr.drew.cell? ⟨gc, 2, none⟩ = some (.slice p 0 c) := by
        have h1 := h.cl.blk.cell 2
        rw [hL] at h1
        exact h1
      clear h hL hend HJ HH
      go_upto_region 5 with fail
      refine wp_region_held_drew (S := fun w' => w'.cell? ⟨gc, 2, none⟩ = some (.slice p 0 c)) (by kernel_rfl) hS1 (fun hS0 => ?_)
      clear hS1
      refine wpAnyH_take (i := 0) (v := ?_) rfl (by kernel_rfl) (by kernel_rfl) (by kernel_rfl) (fun _ _ _ h => h) (Or.inl ⟨by kernel_rfl, ?_⟩) (by first | assumption | trivial) ?_
      rotate_left
      · intro w hSw
        try dsimp only at hSw
        first | (go_simp; done) | (go_simp; with_reducible rfl)
      try simp only [Act.put, List.getElem_toArray, List.getElem_cons_succ, List.getElem_cons_zero, List.setIfInBounds_toArray, List.set_cons_zero, List.set_cons_succ]
      refine wpAnyH_take (i := 1) (v := ?_) rfl (by kernel_rfl) (by kernel_rfl) (by kernel_rfl) (fun _ _ _ h => h) (Or.inl ⟨by kernel_rfl, ?_⟩) (by first | assumption | trivial) ?_
      rotate_left
      · intro w hSw
        try dsimp only at hSw
        first | (go_simp; done) | (go_simp; with_reducible rfl)
      try simp only [Act.put, List.getElem_toArray, List.getElem_cons_succ, List.getElem_cons_zero, List.setIfInBounds_toArray, List.set_cons_zero, List.set_cons_succ]
      refine wpAnyH_take (i := 2) (v := ?_) rfl (by kernel_rfl) (by kernel_rfl) (by kernel_rfl) (fun _ _ _ h => h) (Or.inl ⟨by kernel_rfl, ?_⟩) (by first | assumption | trivial) ?_
      rotate_left
      · intro w hSw
        try dsimp only at hSw
        first | (go_simp; done) | (go_simp; with_reducible rfl)
      try simp only [Act.put, List.getElem_toArray, List.getElem_cons_succ, List.getElem_cons_zero, List.setIfInBounds_toArray, List.set_cons_zero, List.set_cons_succ]
      refine wpAnyH_take (i := 3) (v := ?_) rfl (by kernel_rfl) (by kernel_rfl) (by kernel_rfl) (fun _ _ _ h => h) (Or.inl ⟨by kernel_rfl, ?_⟩) (by first | assumption | trivial) ?_
      rotate_left
      · intro w hSw
        try dsimp only at hSw
        first | (go_simp; done) | (go_simp; with_reducible rfl)
      try simp only [Act.put, List.getElem_toArray, List.getElem_cons_succ, List.getElem_cons_zero, List.setIfInBounds_toArray, List.set_cons_zero, List.set_cons_succ]
      refine wpAnyH_take (i := 4) (v := ?_) rfl (by kernel_rfl) (by kernel_rfl) (by kernel_rfl) (fun _ _ _ h => h) (Or.inl ⟨by kernel_rfl, ?_⟩) (by first | assumption | trivial) ?_
      rotate_left
      · intro w hSw
        try dsimp only at hSw
        first | (go_simp; done) | (go_simp; with_reducible rfl)
      try simp only [Act.put, List.getElem_toArray, List.getElem_cons_succ, List.getElem_cons_zero, List.setIfInBounds_toArray, List.set_cons_zero, List.set_cons_succ]
      refine wpAnyH_take (i := 5) (v := ?_) rfl (by kernel_rfl) (by kernel_rfl) (by kernel_rfl) (fun _ _ _ h => h) (Or.inl ⟨by kernel_rfl, ?_⟩) (by first | assumption | trivial) ?_
      rotate_left
      · intro w hSw
        try dsimp only at hSw
        first | (go_simp; done) | (go_simp; with_reducible rfl)
      try simp only [Act.put, List.getElem_toArray, List.getElem_cons_succ, List.getElem_cons_zero, List.setIfInBounds_toArray, List.set_cons_zero, List.set_cons_succ]
      refine wpAnyH_take (i := 6) (v := ?_) rfl (by kernel_rfl) (by kernel_rfl) (by kernel_rfl) (fun _ _ _ h => h) (Or.inl ⟨by kernel_rfl, ?_⟩) (by first | assumption | trivial) ?_
      rotate_left
      · intro w hSw
        try dsimp only at hSw
        first | (go_simp; done) | (go_simp; with_reducible rfl)
      try simp only [Act.put, List.getElem_toArray, List.getElem_cons_succ, List.getElem_cons_zero, List.setIfInBounds_toArray, List.set_cons_zero, List.set_cons_succ]
      refine wpAnyH_take (i := 7) (v := undef) rfl (by kernel_rfl) (by kernel_rfl) (by kernel_rfl) (fun _ _ _ h => h) (Or.inr ⟨by kernel_rfl, rfl⟩) (by first | assumption | trivial) ?_
      try simp only [Act.put, List.getElem_toArray, List.getElem_cons_succ, List.getElem_cons_zero, List.setIfInBounds_toArray, List.set_cons_zero, List.set_cons_succ]
      refine wpAnyH_take (i := 8) (v := undef) rfl (by kernel_rfl) (by kernel_rfl) (by kernel_rfl) (fun _ _ _ h => h) (Or.inr ⟨by kernel_rfl, rfl⟩) (by first | assumption | trivial) ?_
      try simp only [Act.put, List.getElem_toArray, List.getElem_cons_succ, List.getElem_cons_zero, List.setIfInBounds_toArray, List.set_cons_zero, List.set_cons_succ]
      refine wpAnyH_take (i := 9) (v := undef) rfl (by kernel_rfl) (by kernel_rfl) (by kernel_rfl) (fun _ _ _ h => h) (Or.inr ⟨by kernel_rfl, rfl⟩) (by first | assumption | trivial) ?_
      try simp only [Act.put, List.getElem_toArray, List.getElem_cons_succ, List.getElem_cons_zero, List.setIfInBounds_toArray, List.set_cons_zero, List.set_cons_succ]
      refine wpAnyH_take (i := 10) (v := undef) rfl (by kernel_rfl) (by kernel_rfl) (by kernel_rfl) (fun _ _ _ h => h) (Or.inr ⟨by kernel_rfl, rfl⟩) (by first | assumption | trivial) ?_
      try simp only [Act.put, List.getElem_toArray, List.getElem_cons_succ, List.getElem_cons_zero, List.setIfInBounds_toArray, List.set_cons_zero, List.set_cons_succ]
      refine wpAnyH_take (i := 11) (v := undef) rfl (by kernel_rfl) (by kernel_rfl) (by kernel_rfl) (fun _ _ _ h => h) (Or.inr ⟨by kernel_rfl, rfl⟩) (by first | assumption | trivial) ?_
      try simp only [Act.put, List.getElem_toArray, List.getElem_cons_succ, List.getElem_cons_zero, List.setIfInBounds_toArray, List.set_cons_zero, List.set_cons_succ]
      refine wpAnyH_take (i := 12) (v := undef) rfl (by kernel_rfl) (by kernel_rfl) (by kernel_rfl) (fun _ _ _ h => h) (Or.inr ⟨by kernel_rfl, rfl⟩) (by first | assumption | trivial) ?_
      try simp only [Act.put, List.getElem_toArray, List.getElem_cons_succ, List.getElem_cons_zero, List.setIfInBounds_toArray, List.set_cons_zero, List.set_cons_succ]
      refine wpAnyH_take (i := 13) (v := undef) rfl (by kernel_rfl) (by kernel_rfl) (by kernel_rfl) (fun _ _ _ h => h) (Or.inr ⟨by kernel_rfl, rfl⟩) (by first | assumption | trivial) ?_
      try simp only [Act.put, List.getElem_toArray, List.getElem_cons_succ, List.getElem_cons_zero, List.setIfInBounds_toArray, List.set_cons_zero, List.set_cons_succ]
      refine wpAnyH_take (i := 14) (v := undef) rfl (by kernel_rfl) (by kernel_rfl) (by kernel_rfl) (fun _ _ _ h => h) (Or.inr ⟨by kernel_rfl, rfl⟩) (by first | assumption | trivial) ?_
      try simp only [Act.put, List.getElem_toArray, List.getElem_cons_succ, List.getElem_cons_zero, List.setIfInBounds_toArray, List.set_cons_zero, List.set_cons_succ]
      refine wpAnyH_take (i := 15) (v := undef) rfl (by kernel_rfl) (by kernel_rfl) (by kernel_rfl) (fun _ _ _ h => h) (Or.inr ⟨by kernel_rfl, rfl⟩) (by first | assumption | trivial) ?_
      try simp only [Act.put, List.getElem_toArray, List.getElem_cons_succ, List.getElem_cons_zero, List.setIfInBounds_toArray, List.set_cons_zero, List.set_cons_succ]
      refine wpAnyH_take (i := 16) (v := undef) rfl (by kernel_rfl) (by kernel_rfl) (by kernel_rfl) (fun _ _ _ h => h) (Or.inr ⟨by kernel_rfl, rfl⟩) (by first | assumption | trivial) ?_
      try simp only [Act.put, List.getElem_toArray, List.getElem_cons_succ, List.getElem_cons_zero, List.setIfInBounds_toArray, List.set_cons_zero, List.set_cons_succ]
      refine wpAnyH_take (i := 17) (v := undef) rfl (by kernel_rfl) (by kernel_rfl) (by kernel_rfl) (fun _ _ _ h => h) (Or.inr ⟨by kernel_rfl, rfl⟩) (by first | assumption | trivial) ?_
      try simp only [Act.put, List.getElem_toArray, List.getElem_cons_succ, List.getElem_cons_zero, List.setIfInBounds_toArray, List.set_cons_zero, List.set_cons_succ]
      refine wpAnyH_take (i := 18) (v := undef) rfl (by kernel_rfl) (by kernel_rfl) (by kernel_rfl) (fun _ _ _ h => h) (Or.inr ⟨by kernel_rfl, rfl⟩) (by first | assumption | trivial) ?_
      try simp only [Act.put, List.getElem_toArray, List.getElem_cons_succ, List.getElem_cons_zero, List.setIfInBounds_toArray, List.set_cons_zero, List.set_cons_succ]
      refine wpAnyH_take (i := 19) (v := undef) rfl (by kernel_rfl) (by kernel_rfl) (by kernel_rfl) (fun _ _ _ h => h) (Or.inr ⟨by kernel_rfl, rfl⟩) (by first | assumption | trivial) ?_
      try simp only [Act.put, List.getElem_toArray, List.getElem_cons_succ, List.getElem_cons_zero, List.setIfInBounds_toArray, List.set_cons_zero, List.set_cons_succ]
      refine wpAnyH_take (i := 20) (v := undef) rfl (by kernel_rfl) (by kernel_rfl) (by kernel_rfl) (fun _ _ _ h => h) (Or.inr ⟨by kernel_rfl, rfl⟩) (by first | assumption | trivial) ?_
      try simp only [Act.put, List.getElem_toArray, List.getElem_cons_succ, List.getElem_cons_zero, List.setIfInBounds_toArray, List.set_cons_zero, List.set_cons_succ]
      refine wpAnyH_take (i := 21) (v := ?_) rfl (by kernel_rfl) (by kernel_rfl) (by kernel_rfl) (fun _ _ _ h => h) (Or.inl ⟨by kernel_rfl, ?_⟩) (by first | assumption | trivial) ?_
      rotate_left
      · intro w hSw
        try dsimp only at hSw
        first | (go_simp; done) | (go_simp; with_reducible rfl)
      try simp only [Act.put, List.getElem_toArray, List.getElem_cons_succ, List.getElem_cons_zero, List.setIfInBounds_toArray, List.set_cons_zero, List.set_cons_succ]
      refine wpAnyH_done (by kernel_rfl) ?_ _
      clear hS0
      have HFO2 : Hid (OwnT encT wr.drew w.heap.size 9 (.slice pv m cv) NL) := Lib.hid HFO.out
      have HFC2 : Hid (Ck (fun b => P b ∧ (Value.slice pv m cv).ownBlock ≠ some b) wr.drew gc (now + 1) k L) := Lib.hid (HFC.out.kept (Below.refl _ wr).drew)
      have HFG2 : Hid (ChgP P w wr.drew) := Lib.hid (HFG.out.trans (ChgP.of_below (Below.refl _ wr).drew))
      go_wp2_with fail
      go_ret
      exact ⟨_, rfl, (by rw [HTL.out.1, ← HFE.out.1]; exact HFO2.out), (by rw [HTL.out.2.1, HTL.out.2.2, ← HFE.out.2]; exact HFC2.out), HFG2.out⟩
    case neg =>
      have hLn : 0 < L.length := List.length_pos_iff.2 hL
      have hhl : hs.length = L.length := h.cl.hp.len
      have h0l : 0 < hs.length := by omega
      obtain ⟨g, rfl, -, -, -, hc⟩ := h.cl.hp.where_ hLn
      have hc0 := hc 0 h0l
      have ha0 := h.cl.hp.at_ 0 h0l
      have hle : ∀ e ∈ L, lessU e (HU hs 0) = false := fun e he => by
        obtain ⟨i, hi, rfl⟩ := List.mem_iff_getElem.1 (h.pm.mem_iff.2 he)
        rw [← HU_at hi]
        exact least (by rw [hhl]; exact h.ok) i hi
      have h0m : HU hs 0 ∈ L := by rw [HU_at h0l]; exact h.pm.mem_iff.1 (List.getElem_mem h0l)
      have hdn : (HU hs 0).t ≤ now + 1 → dueL (now + 1) L = HU hs 0 :: dueL (now + 1) (dropU L (HU hs 0).nm) ∧ restL (now + 1) (dropU L (HU hs 0).nm) = restL (now + 1) L := fun hx => tick_one h.srt h.nd HJ.out.tim h.pm hle h0m hx
      rw [← HU_at h0l] at hc0 ha0
      have HLE := Lib.hid hle
      have HDN := Lib.hid hdn
      have HM0 := Lib.hid h0m
      have k0 := h.cl.blk.cell 0
      have k2 := h.cl.blk.cell 2
      have hln0 : Hid (0 < L.length) := Lib.hid hLn
      clear h hL hle hdn h0m hc hhl h0l hLn
      generalize HU hs 0 = d0 at *
      generalize hnn : L.length = n at k2
      have HNL := Lib.hid hnn
      have hnp : (0 : Int) < (n : Int) := by have := hln0.out; omega
      have hnp2 : 0 < n := by have := hln0.out; omega
      have hS1 : wr.drew.cell? ⟨gc, 2, none⟩ = some (.slice (some ⟨g, 0, none⟩) n c) ∧ wr.drew.cell? ⟨g, 0, none⟩ = some (.pointer (some ⟨d0.b, 0, none⟩)) ∧ wr.drew.cell? ⟨d0.b, 1, none⟩ = some (.int .i64 d0.t) ∧ wr.drew.cell? ⟨gc, 0, none⟩ = some (.int .i64 (now + 1)) := ⟨k2, hc0, ha0.cell 1, k0⟩
      have HS1 := Lib.hid hS1
      have HA0 := Lib.hid ha0
      clear ha0 k0 k2 hc0 hnn
      by_cases hdt : d0.t ≤ now + 1
      · have HT1 := Lib.hid hdt
        go_upto_region 5 with fail
        refine wp_region_held_drew (S := fun w' => w'.cell? ⟨gc, 2, none⟩ = some (.slice (some ⟨g, 0, none⟩) n c) ∧ w'.cell? ⟨g, 0, none⟩ = some (.pointer (some ⟨d0.b, 0, none⟩)) ∧ w'.cell? ⟨d0.b, 1, none⟩ = some (.int .i64 d0.t) ∧ w'.cell? ⟨gc, 0, none⟩ = some (.int .i64 (now + 1))) (by kernel_rfl) hS1 (fun hS0 => ?_)
        clear hS1
        refine wpAnyH_take (i := 0) (v := ?_) rfl (by kernel_rfl) (by kernel_rfl) (by kernel_rfl) (fun _ _ _ h => h) (Or.inl ⟨by kernel_rfl, ?_⟩) (by first | assumption | trivial) ?_
        rotate_left
        · intro w hSw
          try dsimp only at hSw
          first | (go_simp; done) | (go_simp; with_reducible rfl)
        try simp only [Act.put, List.getElem_toArray, List.getElem_cons_succ, List.getElem_cons_zero, List.setIfInBounds_toArray, List.set_cons_zero, List.set_cons_succ]
        refine wpAnyH_take (i := 1) (v := ?_) rfl (by kernel_rfl) (by kernel_rfl) (by kernel_rfl) (fun _ _ _ h => h) (Or.inl ⟨by kernel_rfl, ?_⟩) (by first | assumption | trivial) ?_
        rotate_left
        · intro w hSw
          try dsimp only at hSw
          first | (go_simp; done) | (go_simp; with_reducible rfl)
        try simp only [Act.put, List.getElem_toArray, List.getElem_cons_succ, List.getElem_cons_zero, List.setIfInBounds_toArray, List.set_cons_zero, List.set_cons_succ]
        refine wpAnyH_take (i := 2) (v := ?_) rfl (by kernel_rfl) (by kernel_rfl) (by kernel_rfl) (fun _ _ _ h => h) (Or.inl ⟨by kernel_rfl, ?_⟩) (by first | assumption | trivial) ?_
        rotate_left
        · intro w hSw
          try dsimp only at hSw
          first | (go_simp; done) | (go_simp; with_reducible rfl)
        try simp only [Act.put, List.getElem_toArray, List.getElem_cons_succ, List.getElem_cons_zero, List.setIfInBounds_toArray, List.set_cons_zero, List.set_cons_succ]
        refine wpAnyH_take (i := 3) (v := ?_) rfl (by kernel_rfl) (by kernel_rfl) (by kernel_rfl) (fun _ _ _ h => h) (Or.inl ⟨by kernel_rfl, ?_⟩) (by first | assumption | trivial) ?_
        rotate_left
        · intro w hSw
          try dsimp only at hSw
          first | (go_simp; done) | (go_simp; with_reducible rfl)
        try simp only [Act.put, List.getElem_toArray, List.getElem_cons_succ, List.getElem_cons_zero, List.setIfInBounds_toArray, List.set_cons_zero, List.set_cons_succ]
        refine wpAnyH_take (i := 4) (v := ?_) rfl (by kernel_rfl) (by kernel_rfl) (by kernel_rfl) (fun _ _ _ h => h) (Or.inl ⟨by kernel_rfl, ?_⟩) (by first | assumption | trivial) ?_
        rotate_left
        · intro w hSw
          try dsimp only at hSw
          first | (go_simp; done) | (go_simp; with_reducible rfl)
        try simp only [Act.put, List.getElem_toArray, List.getElem_cons_succ, List.getElem_cons_zero, List.setIfInBounds_toArray, List.set_cons_zero, List.set_cons_succ]
        refine wpAnyH_take (i := 5) (v := ?_) rfl (by kernel_rfl) (by kernel_rfl) (by kernel_rfl) (fun _ _ _ h => h) (Or.inl ⟨by kernel_rfl, ?_⟩) (by first | assumption | trivial) ?_
        rotate_left
        · intro w hSw
          try dsimp only at hSw
          first | (go_simp; done) | (go_simp; with_reducible rfl)
        try simp only [Act.put, List.getElem_toArray, List.getElem_cons_succ, List.getElem_cons_zero, List.setIfInBounds_toArray, List.set_cons_zero, List.set_cons_succ]
        refine wpAnyH_take (i := 6) (v := ?_) rfl (by kernel_rfl) (by kernel_rfl) (by kernel_rfl) (fun _ _ _ h => h) (Or.inl ⟨by kernel_rfl, ?_⟩) (by first | assumption | trivial) ?_
        rotate_left
        · intro w hSw
          try dsimp only at hSw
          first | (go_simp; done) | (go_simp; with_reducible rfl)
        try simp only [Act.put, List.getElem_toArray, List.getElem_cons_succ, List.getElem_cons_zero, List.setIfInBounds_toArray, List.set_cons_zero, List.set_cons_succ]
        refine wpAnyH_take (i := 7) (v := ?_) rfl (by kernel_rfl) (by kernel_rfl) (by kernel_rfl) (fun _ _ _ h => h) (Or.inl ⟨by kernel_rfl, ?_⟩) (by first | assumption | trivial) ?_
        rotate_left
        · intro w hSw
          try dsimp only at hSw
          first | (go_simp; done) | (go_simp; with_reducible rfl)
        try simp only [Act.put, List.getElem_toArray, List.getElem_cons_succ, List.getElem_cons_zero, List.setIfInBounds_toArray, List.set_cons_zero, List.set_cons_succ]
        refine wpAnyH_take (i := 8) (v := ?_) rfl (by kernel_rfl) (by kernel_rfl) (by kernel_rfl) (fun _ _ _ h => h) (Or.inl ⟨by kernel_rfl, ?_⟩) (by first | assumption | trivial) ?_
        rotate_left
        · intro w hSw
          try dsimp only at hSw
          first | (go_simp; done) | (go_simp; with_reducible rfl)
        try simp only [Act.put, List.getElem_toArray, List.getElem_cons_succ, List.getElem_cons_zero, List.setIfInBounds_toArray, List.set_cons_zero, List.set_cons_succ]
        refine wpAnyH_take (i := 9) (v := ?_) rfl (by kernel_rfl) (by kernel_rfl) (by kernel_rfl) (fun _ _ _ h => h) (Or.inl ⟨by kernel_rfl, ?_⟩) (by first | assumption | trivial) ?_
        rotate_left
        · intro w hSw
          try dsimp only at hSw
          first | (go_simp; done) | (go_simp; with_reducible rfl)
        try simp only [Act.put, List.getElem_toArray, List.getElem_cons_succ, List.getElem_cons_zero, List.setIfInBounds_toArray, List.set_cons_zero, List.set_cons_succ]
        refine wpAnyH_take (i := 10) (v := ?_) rfl (by kernel_rfl) (by kernel_rfl) (by kernel_rfl) (fun _ _ _ h => h) (Or.inl ⟨by kernel_rfl, ?_⟩) (by first | assumption | trivial) ?_
        rotate_left
        · intro w hSw
          try dsimp only at hSw
          first | (go_simp; done) | (go_simp; with_reducible rfl)
        try simp only [Act.put, List.getElem_toArray, List.getElem_cons_succ, List.getElem_cons_zero, List.setIfInBounds_toArray, List.set_cons_zero, List.set_cons_succ]
        refine wpAnyH_take (i := 11) (v := ?_) rfl (by kernel_rfl) (by kernel_rfl) (by kernel_rfl) (fun _ _ _ h => h) (Or.inl ⟨by kernel_rfl, ?_⟩) (by first | assumption | trivial) ?_
        rotate_left
        · intro w hSw
          try dsimp only at hSw
          first | (go_simp; done) | (go_simp; with_reducible rfl)
        try simp only [Act.put, List.getElem_toArray, List.getElem_cons_succ, List.getElem_cons_zero, List.setIfInBounds_toArray, List.set_cons_zero, List.set_cons_succ]
        refine wpAnyH_take (i := 12) (v := ?_) rfl (by kernel_rfl) (by kernel_rfl) (by kernel_rfl) (fun _ _ _ h => h) (Or.inl ⟨by kernel_rfl, ?_⟩) (by first | assumption | trivial) ?_
        rotate_left
        · intro w hSw
          try dsimp only at hSw
          first | (go_simp; done) | (go_simp; with_reducible rfl)
        try simp only [Act.put, List.getElem_toArray, List.getElem_cons_succ, List.getElem_cons_zero, List.setIfInBounds_toArray, List.set_cons_zero, List.set_cons_succ]
        refine wpAnyH_take (i := 13) (v := ?_) rfl (by kernel_rfl) (by kernel_rfl) (by kernel_rfl) (fun _ _ _ h => h) (Or.inl ⟨by kernel_rfl, ?_⟩) (by first | assumption | trivial) ?_
        rotate_left
        · intro w hSw
          try dsimp only at hSw
          first | (go_simp; done) | (go_simp; with_reducible rfl)
        try simp only [Act.put, List.getElem_toArray, List.getElem_cons_succ, List.getElem_cons_zero, List.setIfInBounds_toArray, List.set_cons_zero, List.set_cons_succ]
        refine wpAnyH_take (i := 14) (v := ?_) rfl (by kernel_rfl) (by kernel_rfl) (by kernel_rfl) (fun _ _ _ h => h) (Or.inl ⟨by kernel_rfl, ?_⟩) (by first | assumption | trivial) ?_
        rotate_left
        · intro w hSw
          try dsimp only at hSw
          first | (go_simp; done) | (go_simp; with_reducible rfl)
        try simp only [Act.put, List.getElem_toArray, List.getElem_cons_succ, List.getElem_cons_zero, List.setIfInBounds_toArray, List.set_cons_zero, List.set_cons_succ]
        refine wpAnyH_take (i := 15) (v := ?_) rfl (by kernel_rfl) (by kernel_rfl) (by kernel_rfl) (fun _ _ _ h => h) (Or.inl ⟨by kernel_rfl, ?_⟩) (by first | assumption | trivial) ?_
        rotate_left
        · intro w hSw
          try dsimp only at hSw
          first | (go_simp; done) | (go_simp; with_reducible rfl)
        try simp only [Act.put, List.getElem_toArray, List.getElem_cons_succ, List.getElem_cons_zero, List.setIfInBounds_toArray, List.set_cons_zero, List.set_cons_succ]
        refine wpAnyH_take (i := 16) (v := ?_) rfl (by kernel_rfl) (by kernel_rfl) (by kernel_rfl) (fun _ _ _ h => h) (Or.inl ⟨by kernel_rfl, ?_⟩) (by first | assumption | trivial) ?_
        rotate_left
        · intro w hSw
          try dsimp only at hSw
          first | (go_simp; done) | (go_simp; with_reducible rfl)
        try simp only [Act.put, List.getElem_toArray, List.getElem_cons_succ, List.getElem_cons_zero, List.setIfInBounds_toArray, List.set_cons_zero, List.set_cons_succ]
        refine wpAnyH_take (i := 17) (v := ?_) rfl (by kernel_rfl) (by kernel_rfl) (by kernel_rfl) (fun _ _ _ h => h) (Or.inl ⟨by kernel_rfl, ?_⟩) (by first | assumption | trivial) ?_
        rotate_left
        · intro w hSw
          try dsimp only at hSw
          first | (go_simp; done) | (go_simp; with_reducible rfl)
        try simp only [Act.put, List.getElem_toArray, List.getElem_cons_succ, List.getElem_cons_zero, List.setIfInBounds_toArray, List.set_cons_zero, List.set_cons_succ]
        refine wpAnyH_take (i := 18) (v := ?_) rfl (by kernel_rfl) (by kernel_rfl) (by kernel_rfl) (fun _ _ _ h => h) (Or.inl ⟨by kernel_rfl, ?_⟩) (by first | assumption | trivial) ?_
        rotate_left
        · intro w hSw
          try dsimp only at hSw
          first | (go_simp; done) | (go_simp; with_reducible rfl)
        try simp only [Act.put, List.getElem_toArray, List.getElem_cons_succ, List.getElem_cons_zero, List.setIfInBounds_toArray, List.set_cons_zero, List.set_cons_succ]
        refine wpAnyH_take (i := 19) (v := ?_) rfl (by kernel_rfl) (by kernel_rfl) (by kernel_rfl) (fun _ _ _ h => h) (Or.inl ⟨by kernel_rfl, ?_⟩) (by first | assumption | trivial) ?_
        rotate_left
        · intro w hSw
          try dsimp only at hSw
          first | (go_simp; done) | (go_simp; with_reducible rfl)
        try simp only [Act.put, List.getElem_toArray, List.getElem_cons_succ, List.getElem_cons_zero, List.setIfInBounds_toArray, List.set_cons_zero, List.set_cons_succ]
        refine wpAnyH_take (i := 20) (v := ?_) rfl (by kernel_rfl) (by kernel_rfl) (by kernel_rfl) (fun _ _ _ h => h) (Or.inl ⟨by kernel_rfl, ?_⟩) (by first | assumption | trivial) ?_
        rotate_left
        · intro w hSw
          try dsimp only at hSw
          first | (go_simp; done) | (go_simp; with_reducible rfl)
        try simp only [Act.put, List.getElem_toArray, List.getElem_cons_succ, List.getElem_cons_zero, List.setIfInBounds_toArray, List.set_cons_zero, List.set_cons_succ]
        refine wpAnyH_take (i := 21) (v := ?_) rfl (by kernel_rfl) (by kernel_rfl) (by kernel_rfl) (fun _ _ _ h => h) (Or.inl ⟨by kernel_rfl, ?_⟩) (by first | assumption | trivial) ?_
        rotate_left
        · intro w hSw
          try dsimp only at hSw
          first | (go_simp; done) | (go_simp; with_reducible rfl)
        try simp only [Act.put, List.getElem_toArray, List.getElem_cons_succ, List.getElem_cons_zero, List.setIfInBounds_toArray, List.set_cons_zero, List.set_cons_succ]
        refine wpAnyH_done (by kernel_rfl) ?_ _
        clear hS0
        have q0 : wr.drew.cell? ⟨g, 0, none⟩ = some (.pointer (some ⟨d0.b, 0, none⟩)) := HS1.out.2.1
        have q2 : wr.drew.cell? ⟨gc, 2, none⟩ = some (.slice (some ⟨g, 0, none⟩) n c) := HS1.out.1
        have hkd : Clk (fun b => P b ∧ (Value.slice pv m cv).ownBlock ≠ some b) wr.drew gc gm (now + 1) k (some ⟨g, 0, none⟩) c hs L := HH.out.stay (fun b hb _ => rfl)
        have HTK := Lib.hid (ctake_any (fun b => P b ∧ (Value.slice pv m cv).ownBlock ≠ some b) wr.drew gc gm (now + 1) k (some ⟨g, 0, none⟩) c hs L d0 hkd HM0.out (by have := HM.out; omega))
        have HO1 : Hid (OwnT encT wr.drew w.heap.size 9 (.slice pv m cv) NL) := Lib.hid HJ.out.own
        have HSZ : Hid (w.heap.size ≤ wr.heap.size) := Lib.hid HJ.out.ch.size
        have HGW : Hid (ChgP P w wr.drew) := Lib.hid (HJ.out.ch.trans (ChgP.of_below (Below.refl _ wr).drew))
        have HJ2 := Lib.hid (And.intro HJ.out.eqn (And.intro HJ.out.rest (And.intro HJ.out.tim (And.intro HJ.out.len HJ.out.sum))))
        have HLC : Hid (lenC wr gc = L.length) := Lib.hid (lenC_eq HH.out)
        have HSD : Hid (wr.heap.size = wr.drew.heap.size) := Lib.hid rfl
        have HDL := Lib.hid (drop_len HH.out.nd HM0.out)
        clear hkd HS1 HH HJ hdt HA0
        generalize wr.drew = W5 at *
        go_wp2_with fail
        refine HTK.out.mono ?_
        rintro y9 w1 ⟨rfl, a, ha, hca⟩
        have HA := Lib.hid ha
        have HO2 := Lib.hid (HO1.out.stay (fun s hs' => hca.2 s (HO1.out.lt s hs') (fun hp => hp.2 hs')))
        have HG2 := Lib.hid (HGW.out.trans (hca.imp (fun _ _ hp => hp.1)))
        have HS2 : Hid (w.heap.size ≤ w1.heap.size) := Lib.hid HG2.out.size
        have HO3 : Hid (OwnT encT (w1.alloc (.cells #[.string d0.nm] 9)) w.heap.size 9 (.slice pv m cv) NL) := Lib.hid (HO2.out.later (oneB _ _))
        clear ha hca q0 q2 HTK HO1 HGW
        go_wp2_with (at_builtin; with_reducible refine stop_appendU (.tmp 38) (.tmp 47) 37 rfl ?_)
        refine wpList_append_u rfl (.tmp 38) (.tmp 47) 37 rfl 9 (.string ByteArray.empty) 16 w.heap.size eltS rfl (by decide) (.slice pv m cv) (.slice (some ⟨w1.heap.size, 0, none⟩) 1 1) NL [d0.nm] rfl rfl HO3.out (TRow.one_ encT d0.nm (Blk.new w1 #[.string d0.nm] 9) rfl (Nat.le_refl _)) (by have := HM.out; simp; omega) (by have := HS2.out; simp; omega) (NL ++ [d0.nm]) (m + 1) rfl (by rw [List.length_append, HM.out.1]; rfl) ?_
        intro p9 c9 w9 ho9 hg9 hor9
        have hck3 : Ck (fun b => P b ∧ (Value.slice pv m cv).ownBlock ≠ some b) (w1.alloc (.cells #[.string d0.nm] 9)) gc (now + 1) k (dropU L d0.nm) := ⟨gm, _, _, _, HA.out.stay (fun b hb _ => (oneB w1 _).block b hb)⟩
        have hck4 : Ck (fun b => P b ∧ (Value.slice pv m cv).ownBlock ≠ some b ∧ (Value.slice p9 (m + 1) c9).ownBlock ≠ some b) (w1.alloc (.cells #[.string d0.nm] 9)) gc (now + 1) k (dropU L d0.nm) := hck3.mono (fun b hb hp => ⟨hp.1, hp.2, fun e => by
          rcases hor9 with h1 | h1
          · rw [h1] at e; exact hp.2 e
          · rw [h1] at e
            have : (w1.alloc (.cells #[.string d0.nm] 9)).heap.size = b := by simpa using e
            omega⟩)
        have hck5 : Ck (fun b => P b ∧ Value.ownBlock (.slice p9 (m + 1) c9) ≠ some b) w9 gc (now + 1) k (dropU L d0.nm) := (hck4.stay (fun b hb hp => hg9.block b hb (fun e => hp.2.1 e.symm))).mono (fun b _ hp => ⟨hp.1, hp.2.2⟩)
        have hgr : ChgP P w w9 := by
          have hv2 : w1.heap.size ≤ (w1.alloc (.cells #[.string d0.nm] 9)).heap.size := by simp
          refine ⟨(HG2.out.1.trans ((oneB w1 _).mono (Nat.zero_le _))).trans ((Below.refl 0 _).grown hg9 (Nat.zero_le _) (fun _ _ => Nat.zero_le _)), fun b hb hp => ?_⟩
          have hb1 : b < w1.heap.size := Nat.lt_of_lt_of_le hb HS2.out
          exact ((hg9.block b (Nat.lt_of_lt_of_le hb1 hv2) (fun e => by have := HO3.out.block_ge b e.symm; omega)).trans ((oneB w1 _).block b hb1)).trans (HG2.out.2 b hb hp)
        have HX : Hid (TRel P w gc now k ds (.slice p9 (m + 1) c9) (NL ++ [d0.nm]) (dropU L d0.nm) w9) := by
          have hd := HDN.out HT1.out
          refine Lib.hid ⟨ho9, ?_, by rw [hd.2]; exact HJ2.out.2.1, hck5, hgr, fun d hd2 => HJ2.out.2.2.1 d (List.mem_filter.1 hd2).1, by have := HJ2.out.2.2.2.1; have := HDL.out; omega, by rw [List.length_append, List.length_singleton]; have := HJ2.out.2.2.2.2; have := HDL.out; omega⟩
          rw [← HJ2.out.1, hd.1]
          simp
        have HLN : Hid (lenC w9 gc = (dropU L d0.nm).length) := Lib.hid (by obtain ⟨gm2, p2, c2, hs2, h4⟩ := hck5; exact lenC_eq h4)
        clear ho9 hg9 hor9 hck3 hck4 hck5 hgr
        go_wp2_with fail
        go_roundw
        case rel => exact ⟨_, _, HX⟩
        case measure => rw [HLN.out, HLC.out]; have := HDL.out; omega
      · have hdt2 : now + 1 < d0.t := by omega
        have hend := tick_end (T := now + 1) (L := L) (fun e he => by have := HLE.out e he; rw [lessU_not] at this; omega)
        have HFE : Hid (NL = (dueL (now + 1) ds).map (·.nm) ∧ L = restL (now + 1) ds) := Lib.hid ⟨by have := HJ.out.eqn; rw [hend.1] at this; simpa using this, by rw [← HJ.out.rest, hend.2]⟩
        have HFO : Hid (OwnT encT wr.drew w.heap.size 9 (.slice pv m cv) NL) := Lib.hid HJ.out.own
        have HFC : Hid (Ck (fun b => P b ∧ (Value.slice pv m cv).ownBlock ≠ some b) wr.drew gc (now + 1) k L) := Lib.hid (HJ.out.ck.kept (Below.refl _ wr).drew)
        have HFG : Hid (ChgP P w wr.drew) := Lib.hid (HJ.out.ch.trans (ChgP.of_below (Below.refl _ wr).drew))
        clear hend HJ HH hdt HLE HDN HM0 HS1
        go_upto_region 5 with fail
        refine wp_region_held_drew (S := fun w' => w'.cell? ⟨gc, 2, none⟩ = some (.slice (some ⟨g, 0, none⟩) n c) ∧ w'.cell? ⟨g, 0, none⟩ = some (.pointer (some ⟨d0.b, 0, none⟩)) ∧ w'.cell? ⟨d0.b, 1, none⟩ = some (.int .i64 d0.t) ∧ w'.cell? ⟨gc, 0, none⟩ = some (.int .i64 (now + 1))) (by kernel_rfl) hS1 (fun hS0 => ?_)
        clear hS1
        refine wpAnyH_take (i := 0) (v := ?_) rfl (by kernel_rfl) (by kernel_rfl) (by kernel_rfl) (fun _ _ _ h => h) (Or.inl ⟨by kernel_rfl, ?_⟩) (by first | assumption | trivial) ?_
        rotate_left
        · intro w hSw
          try dsimp only at hSw
          first | (go_simp; done) | (go_simp; with_reducible rfl)
        try simp only [Act.put, List.getElem_toArray, List.getElem_cons_succ, List.getElem_cons_zero, List.setIfInBounds_toArray, List.set_cons_zero, List.set_cons_succ]
        refine wpAnyH_take (i := 1) (v := ?_) rfl (by kernel_rfl) (by kernel_rfl) (by kernel_rfl) (fun _ _ _ h => h) (Or.inl ⟨by kernel_rfl, ?_⟩) (by first | assumption | trivial) ?_
        rotate_left
        · intro w hSw
          try dsimp only at hSw
          first | (go_simp; done) | (go_simp; with_reducible rfl)
        try simp only [Act.put, List.getElem_toArray, List.getElem_cons_succ, List.getElem_cons_zero, List.setIfInBounds_toArray, List.set_cons_zero, List.set_cons_succ]
        refine wpAnyH_take (i := 2) (v := ?_) rfl (by kernel_rfl) (by kernel_rfl) (by kernel_rfl) (fun _ _ _ h => h) (Or.inl ⟨by kernel_rfl, ?_⟩) (by first | assumption | trivial) ?_
        rotate_left
        · intro w hSw
          try dsimp only at hSw
          first | (go_simp; done) | (go_simp; with_reducible rfl)
        try simp only [Act.put, List.getElem_toArray, List.getElem_cons_succ, List.getElem_cons_zero, List.setIfInBounds_toArray, List.set_cons_zero, List.set_cons_succ]
        refine wpAnyH_take (i := 3) (v := ?_) rfl (by kernel_rfl) (by kernel_rfl) (by kernel_rfl) (fun _ _ _ h => h) (Or.inl ⟨by kernel_rfl, ?_⟩) (by first | assumption | trivial) ?_
        rotate_left
        · intro w hSw
          try dsimp only at hSw
          first | (go_simp; done) | (go_simp; with_reducible rfl)
        try simp only [Act.put, List.getElem_toArray, List.getElem_cons_succ, List.getElem_cons_zero, List.setIfInBounds_toArray, List.set_cons_zero, List.set_cons_succ]
        refine wpAnyH_take (i := 4) (v := ?_) rfl (by kernel_rfl) (by kernel_rfl) (by kernel_rfl) (fun _ _ _ h => h) (Or.inl ⟨by kernel_rfl, ?_⟩) (by first | assumption | trivial) ?_
        rotate_left
        · intro w hSw
          try dsimp only at hSw
          first | (go_simp; done) | (go_simp; with_reducible rfl)
        try simp only [Act.put, List.getElem_toArray, List.getElem_cons_succ, List.getElem_cons_zero, List.setIfInBounds_toArray, List.set_cons_zero, List.set_cons_succ]
        refine wpAnyH_take (i := 5) (v := ?_) rfl (by kernel_rfl) (by kernel_rfl) (by kernel_rfl) (fun _ _ _ h => h) (Or.inl ⟨by kernel_rfl, ?_⟩) (by first | assumption | trivial) ?_
        rotate_left
        · intro w hSw
          try dsimp only at hSw
          first | (go_simp; done) | (go_simp; with_reducible rfl)
        try simp only [Act.put, List.getElem_toArray, List.getElem_cons_succ, List.getElem_cons_zero, List.setIfInBounds_toArray, List.set_cons_zero, List.set_cons_succ]
        refine wpAnyH_take (i := 6) (v := ?_) rfl (by kernel_rfl) (by kernel_rfl) (by kernel_rfl) (fun _ _ _ h => h) (Or.inl ⟨by kernel_rfl, ?_⟩) (by first | assumption | trivial) ?_
        rotate_left
        · intro w hSw
          try dsimp only at hSw
          first | (go_simp; done) | (go_simp; with_reducible rfl)
        try simp only [Act.put, List.getElem_toArray, List.getElem_cons_succ, List.getElem_cons_zero, List.setIfInBounds_toArray, List.set_cons_zero, List.set_cons_succ]
        refine wpAnyH_take (i := 7) (v := ?_) rfl (by kernel_rfl) (by kernel_rfl) (by kernel_rfl) (fun _ _ _ h => h) (Or.inl ⟨by kernel_rfl, ?_⟩) (by first | assumption | trivial) ?_
        rotate_left
        · intro w hSw
          try dsimp only at hSw
          first | (go_simp; done) | (go_simp; with_reducible rfl)
        try simp only [Act.put, List.getElem_toArray, List.getElem_cons_succ, List.getElem_cons_zero, List.setIfInBounds_toArray, List.set_cons_zero, List.set_cons_succ]
        refine wpAnyH_take (i := 8) (v := ?_) rfl (by kernel_rfl) (by kernel_rfl) (by kernel_rfl) (fun _ _ _ h => h) (Or.inl ⟨by kernel_rfl, ?_⟩) (by first | assumption | trivial) ?_
        rotate_left
        · intro w hSw
          try dsimp only at hSw
          first | (go_simp; done) | (go_simp; with_reducible rfl)
        try simp only [Act.put, List.getElem_toArray, List.getElem_cons_succ, List.getElem_cons_zero, List.setIfInBounds_toArray, List.set_cons_zero, List.set_cons_succ]
        refine wpAnyH_take (i := 9) (v := ?_) rfl (by kernel_rfl) (by kernel_rfl) (by kernel_rfl) (fun _ _ _ h => h) (Or.inl ⟨by kernel_rfl, ?_⟩) (by first | assumption | trivial) ?_
        rotate_left
        · intro w hSw
          try dsimp only at hSw
          first | (go_simp; done) | (go_simp; with_reducible rfl)
        try simp only [Act.put, List.getElem_toArray, List.getElem_cons_succ, List.getElem_cons_zero, List.setIfInBounds_toArray, List.set_cons_zero, List.set_cons_succ]
        refine wpAnyH_take (i := 10) (v := ?_) rfl (by kernel_rfl) (by kernel_rfl) (by kernel_rfl) (fun _ _ _ h => h) (Or.inl ⟨by kernel_rfl, ?_⟩) (by first | assumption | trivial) ?_
        rotate_left
        · intro w hSw
          try dsimp only at hSw
          first | (go_simp; done) | (go_simp; with_reducible rfl)
        try simp only [Act.put, List.getElem_toArray, List.getElem_cons_succ, List.getElem_cons_zero, List.setIfInBounds_toArray, List.set_cons_zero, List.set_cons_succ]
        refine wpAnyH_take (i := 11) (v := ?_) rfl (by kernel_rfl) (by kernel_rfl) (by kernel_rfl) (fun _ _ _ h => h) (Or.inl ⟨by kernel_rfl, ?_⟩) (by first | assumption | trivial) ?_
        rotate_left
        · intro w hSw
          try dsimp only at hSw
          first | (go_simp; done) | (go_simp; with_reducible rfl)
        try simp only [Act.put, List.getElem_toArray, List.getElem_cons_succ, List.getElem_cons_zero, List.setIfInBounds_toArray, List.set_cons_zero, List.set_cons_succ]
        refine wpAnyH_take (i := 12) (v := ?_) rfl (by kernel_rfl) (by kernel_rfl) (by kernel_rfl) (fun _ _ _ h => h) (Or.inl ⟨by kernel_rfl, ?_⟩) (by first | assumption | trivial) ?_
        rotate_left
        · intro w hSw
          try dsimp only at hSw
          first | (go_simp; done) | (go_simp; with_reducible rfl)
        try simp only [Act.put, List.getElem_toArray, List.getElem_cons_succ, List.getElem_cons_zero, List.setIfInBounds_toArray, List.set_cons_zero, List.set_cons_succ]
        refine wpAnyH_take (i := 13) (v := ?_) rfl (by kernel_rfl) (by kernel_rfl) (by kernel_rfl) (fun _ _ _ h => h) (Or.inl ⟨by kernel_rfl, ?_⟩) (by first | assumption | trivial) ?_
        rotate_left
        · intro w hSw
          try dsimp only at hSw
          first | (go_simp; done) | (go_simp; with_reducible rfl)
        try simp only [Act.put, List.getElem_toArray, List.getElem_cons_succ, List.getElem_cons_zero, List.setIfInBounds_toArray, List.set_cons_zero, List.set_cons_succ]
        refine wpAnyH_take (i := 14) (v := ?_) rfl (by kernel_rfl) (by kernel_rfl) (by kernel_rfl) (fun _ _ _ h => h) (Or.inl ⟨by kernel_rfl, ?_⟩) (by first | assumption | trivial) ?_
        rotate_left
        · intro w hSw
          try dsimp only at hSw
          first | (go_simp; done) | (go_simp; with_reducible rfl)
        try simp only [Act.put, List.getElem_toArray, List.getElem_cons_succ, List.getElem_cons_zero, List.setIfInBounds_toArray, List.set_cons_zero, List.set_cons_succ]
        refine wpAnyH_take (i := 15) (v := ?_) rfl (by kernel_rfl) (by kernel_rfl) (by kernel_rfl) (fun _ _ _ h => h) (Or.inl ⟨by kernel_rfl, ?_⟩) (by first | assumption | trivial) ?_
        rotate_left
        · intro w hSw
          try dsimp only at hSw
          first | (go_simp; done) | (go_simp; with_reducible rfl)
        try simp only [Act.put, List.getElem_toArray, List.getElem_cons_succ, List.getElem_cons_zero, List.setIfInBounds_toArray, List.set_cons_zero, List.set_cons_succ]
        refine wpAnyH_take (i := 16) (v := ?_) rfl (by kernel_rfl) (by kernel_rfl) (by kernel_rfl) (fun _ _ _ h => h) (Or.inl ⟨by kernel_rfl, ?_⟩) (by first | assumption | trivial) ?_
        rotate_left
        · intro w hSw
          try dsimp only at hSw
          first | (go_simp; done) | (go_simp; with_reducible rfl)
        try simp only [Act.put, List.getElem_toArray, List.getElem_cons_succ, List.getElem_cons_zero, List.setIfInBounds_toArray, List.set_cons_zero, List.set_cons_succ]
        refine wpAnyH_take (i := 17) (v := ?_) rfl (by kernel_rfl) (by kernel_rfl) (by kernel_rfl) (fun _ _ _ h => h) (Or.inl ⟨by kernel_rfl, ?_⟩) (by first | assumption | trivial) ?_
        rotate_left
        · intro w hSw
          try dsimp only at hSw
          first | (go_simp; done) | (go_simp; with_reducible rfl)
        try simp only [Act.put, List.getElem_toArray, List.getElem_cons_succ, List.getElem_cons_zero, List.setIfInBounds_toArray, List.set_cons_zero, List.set_cons_succ]
        refine wpAnyH_take (i := 18) (v := ?_) rfl (by kernel_rfl) (by kernel_rfl) (by kernel_rfl) (fun _ _ _ h => h) (Or.inl ⟨by kernel_rfl, ?_⟩) (by first | assumption | trivial) ?_
        rotate_left
        · intro w hSw
          try dsimp only at hSw
          first | (go_simp; done) | (go_simp; with_reducible rfl)
        try simp only [Act.put, List.getElem_toArray, List.getElem_cons_succ, List.getElem_cons_zero, List.setIfInBounds_toArray, List.set_cons_zero, List.set_cons_succ]
        refine wpAnyH_take (i := 19) (v := ?_) rfl (by kernel_rfl) (by kernel_rfl) (by kernel_rfl) (fun _ _ _ h => h) (Or.inl ⟨by kernel_rfl, ?_⟩) (by first | assumption | trivial) ?_
        rotate_left
        · intro w hSw
          try dsimp only at hSw
          first | (go_simp; done) | (go_simp; with_reducible rfl)
        try simp only [Act.put, List.getElem_toArray, List.getElem_cons_succ, List.getElem_cons_zero, List.setIfInBounds_toArray, List.set_cons_zero, List.set_cons_succ]
        refine wpAnyH_take (i := 20) (v := ?_) rfl (by kernel_rfl) (by kernel_rfl) (by kernel_rfl) (fun _ _ _ h => h) (Or.inl ⟨by kernel_rfl, ?_⟩) (by first | assumption | trivial) ?_
        rotate_left
        · intro w hSw
          try dsimp only at hSw
          first | (go_simp; done) | (go_simp; with_reducible rfl)
        try simp only [Act.put, List.getElem_toArray, List.getElem_cons_succ, List.getElem_cons_zero, List.setIfInBounds_toArray, List.set_cons_zero, List.set_cons_succ]
        refine wpAnyH_take (i := 21) (v := ?_) rfl (by kernel_rfl) (by kernel_rfl) (by kernel_rfl) (fun _ _ _ h => h) (Or.inl ⟨by kernel_rfl, ?_⟩) (by first | assumption | trivial) ?_
        rotate_left
        · intro w hSw
          try dsimp only at hSw
          first | (go_simp; done) | (go_simp; with_reducible rfl)
        try simp only [Act.put, List.getElem_toArray, List.getElem_cons_succ, List.getElem_cons_zero, List.setIfInBounds_toArray, List.set_cons_zero, List.set_cons_succ]
        refine wpAnyH_done (by kernel_rfl) ?_ _
        clear hS0
        go_wp2_with fail
        go_ret
        exact ⟨_, rfl, (by rw [HTL.out.1, ← HFE.out.1]; exact HFO.out), (by rw [HTL.out.2.1, HTL.out.2.2, ← HFE.out.2]; exact HFC.out), HFG.out⟩
end Go.Proofs.Ytpmiekheiddihaa
