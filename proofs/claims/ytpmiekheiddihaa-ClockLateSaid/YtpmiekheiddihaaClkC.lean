/- A clock: its data. -/
import Derived.Test.YtpmiekheiddihaaClkMap
namespace Go.Proofs.Ytpmiekheiddihaa
open Go.RowKit Go.Maps
def dofU (ds : List Du) (s : ByteArray) : Option Nat := (ds.find? (fun d => decide (d.nm = s))).map (·.b)
/-- Without a name. -/
def dropU (ds : List Du) (s : ByteArray) : List Du := ds.filter (fun d => decide (d.nm ≠ s))
def NamesU (ds : List Du) : Prop := ds.Pairwise (fun d e => d.nm ≠ e.nm)
theorem dof_none {ds : List Du} {s : ByteArray} : dofU ds s = none ↔ ∀ d ∈ ds, d.nm ≠ s := by
  unfold dofU
  rw [Option.map_eq_none_iff, List.find?_eq_none]
  constructor
  · intro h d hd e
    exact h d hd (decide_eq_true e)
  · intro h d hd e
    exact h d hd (of_decide_eq_true e)
theorem dof_some {ds : List Du} {s : ByteArray} {b : Nat} (h : dofU ds s = some b) : ∃ d ∈ ds, d.nm = s ∧ d.b = b := by
  unfold dofU at h
  rw [Option.map_eq_some_iff] at h
  obtain ⟨d, h1, h2⟩ := h
  exact ⟨d, List.mem_of_find?_eq_some h1, by have h3 := List.find?_some h1; simpa using h3, h2⟩
theorem dof_mem {ds : List Du} (hn : NamesU ds) {d : Du} (hd : d ∈ ds) : dofU ds d.nm = some d.b := by
  cases h : dofU ds d.nm with
  | none => exact absurd rfl (dof_none.1 h d hd)
  | some b =>
    obtain ⟨e, he, h1, h2⟩ := dof_some h
    by_cases hde : d = e
    · rw [hde, h2]
    · exfalso
      obtain ⟨A, B, rfl⟩ := List.append_of_mem hd
      unfold NamesU at hn
      rw [List.pairwise_append] at hn
      have h3 := List.pairwise_cons.1 hn.2.1
      rcases List.mem_append.1 he with h4 | h4
      · exact hn.2.2 e h4 d (by simp) h1
      · rcases List.mem_cons.1 h4 with h5 | h5
        · exact hde h5.symm
        · exact h3.1 e h5 h1.symm
theorem dof_drop (ds : List Du) (s t : ByteArray) : dofU (dropU ds s) t = if t = s then none else dofU ds t := by
  by_cases h : t = s
  · rw [if_pos h, dof_none]
    intro d hd e
    have := of_decide_eq_true (List.mem_filter.1 hd).2
    exact this (e.trans h)
  · rw [if_neg h]
    unfold dofU dropU
    congr 1
    rw [List.find?_filter]
    congr 1
    funext d
    by_cases h2 : d.nm = t
    · have h3 : d.nm ≠ s := fun e => h (h2.symm.trans e)
      simp [h2]
      exact fun e => h e
    · simp [h2]
theorem dof_append (ds : List Du) (d : Du) (hn : ∀ e ∈ ds, e.nm ≠ d.nm) (t : ByteArray) : dofU (ds ++ [d]) t = if t = d.nm then some d.b else dofU ds t := by
  unfold dofU
  rw [List.find?_append]
  by_cases h : t = d.nm
  · rw [if_pos h]
    have : ds.find? (fun e => decide (e.nm = t)) = none := by
      rw [List.find?_eq_none]
      intro e he h2
      exact hn e he ((of_decide_eq_true h2).trans h)
    rw [this, h]
    simp
  · rw [if_neg h]
    have : [d].find? (fun e => decide (e.nm = t)) = none := by
      rw [List.find?_eq_none]
      intro e he h2
      rw [List.mem_singleton.1 he] at h2
      exact h (of_decide_eq_true h2).symm
    rw [this, Option.or_none]
theorem drop_parts {ds : List Du} (hn : NamesU ds) {d : Du} (hd : d ∈ ds) : ∃ A B, ds = A ++ d :: B ∧ dropU ds d.nm = A ++ B := by
  obtain ⟨A, B, rfl⟩ := List.append_of_mem hd
  refine ⟨A, B, rfl, ?_⟩
  unfold NamesU at hn
  rw [List.pairwise_append] at hn
  have h3 := List.pairwise_cons.1 hn.2.1
  unfold dropU
  rw [List.filter_append, List.filter_cons, if_neg (by simp), List.filter_eq_self.2, List.filter_eq_self.2]
  · intro e he
    exact decide_eq_true (fun h => h3.1 e he h.symm)
  · intro e he
    exact decide_eq_true (fun h => hn.2.2 e he d (by simp) h)
theorem drop_len {ds : List Du} (hn : NamesU ds) {d : Du} (hd : d ∈ ds) : (dropU ds d.nm).length + 1 = ds.length := by
  obtain ⟨A, B, h1, h2⟩ := drop_parts hn hd
  rw [h2]
  conv => rhs; rw [h1]
  simp
  omega
theorem drop_perm {ds hs a : List Du} (hn : NamesU ds) {d : Du} (hd : d ∈ ds) (hp : hs.Perm ds) (ha : (a ++ [d]).Perm hs) : a.Perm (dropU ds d.nm) := by
  obtain ⟨A, B, h1, h2⟩ := drop_parts hn hd
  rw [h2]
  have h3 : (a ++ [d]).Perm ((A ++ B) ++ [d]) := by
    refine (ha.trans hp).trans ?_
    conv => lhs; rw [h1]
    refine List.perm_middle.trans ?_
    exact (List.perm_append_comm (l₁ := [d]) (l₂ := A ++ B))
  exact (List.perm_append_right_iff [d]).1 h3
theorem drop_self {ds : List Du} {s : ByteArray} (h : dofU ds s = none) : dropU ds s = ds := List.filter_eq_self.2 (fun d hd => decide_eq_true (dof_none.1 h d hd))
/-- The blocks of what is due. -/
def InQ (P : Nat → Prop) (gc gm : Nat) (b : Nat) : Prop := P b ∧ b ≠ gc ∧ b ≠ gm
/-- A clock: its own block gc, its map's gm, what is due as a heap (hs), and in the order in which it was set (ds). -/
structure Clk (P : Nat → Prop) (w : World) (gc gm : Nat) (now : Int) (k : Nat) (p : Option Addr) (c : Nat) (hs ds : List Du) : Prop where
  cl : ClX (InQ P gc gm) w gc now k (.map (some gm)) p ds.length c hs
  ok : HOk hs ds.length
  pm : hs.Perm ds
  mp : MpN gm k (dofU ds) w
  gin : P gc
  min : P gm
  ne : gm ≠ gc
  srt : ds.Pairwise (fun d e => d.s < e.s)
  top : ∀ d ∈ ds, d.s ≤ k
  nd : NamesU ds
  sz : ∀ d ∈ ds, d.nm.size ≤ maxLen
def Ck (P : Nat → Prop) (w : World) (gc : Nat) (now : Int) (k : Nat) (ds : List Du) : Prop := ∃ gm p c hs, Clk P w gc gm now k p c hs ds
theorem Clk.stay {P : Nat → Prop} {w w' : World} {gc gm : Nat} {now : Int} {k : Nat} {p : Option Addr} {c : Nat} {hs ds : List Du} (h : Clk P w gc gm now k p c hs ds) (hk : ∀ b, b < w.heap.size → P b → w'.heap[b]? = w.heap[b]?) : Clk P w' gc gm now k p c hs ds :=
  ⟨⟨h.cl.hp.stay (fun b hb hp => hk b hb hp.1), (hk gc h.cl.blk.lt h.gin).trans h.cl.blk, h.cl.nq⟩, h.ok, h.pm, h.mp.block (hk gm h.mp.lt h.min), h.gin, h.min, h.ne, h.srt, h.top, h.nd, h.sz⟩
theorem Clk.mono {P Q : Nat → Prop} {w : World} {gc gm : Nat} {now : Int} {k : Nat} {p : Option Addr} {c : Nat} {hs ds : List Du} (h : Clk P w gc gm now k p c hs ds) (hq : ∀ b, b < w.heap.size → P b → Q b) : Clk Q w gc gm now k p c hs ds :=
  ⟨⟨h.cl.hp.mono (fun b hb hp => ⟨hq b hb hp.1, hp.2⟩), h.cl.blk, fun hx => h.cl.nq ⟨h.gin, hx.2⟩⟩, h.ok, h.pm, h.mp, hq gc h.cl.blk.lt h.gin, hq gm h.mp.lt h.min, h.ne, h.srt, h.top, h.nd, h.sz⟩
theorem Ck.stay {P : Nat → Prop} {w w' : World} {gc : Nat} {now : Int} {k : Nat} {ds : List Du} (h : Ck P w gc now k ds) (hk : ∀ b, b < w.heap.size → P b → w'.heap[b]? = w.heap[b]?) : Ck P w' gc now k ds := by
  obtain ⟨gm, p, c, hs, h⟩ := h
  exact ⟨gm, p, c, hs, h.stay hk⟩
theorem Ck.kept {P : Nat → Prop} {w w' : World} {gc : Nat} {now : Int} {k : Nat} {ds : List Du} (h : Ck P w gc now k ds) (hb : Below w.heap.size w w') : Ck P w' gc now k ds := h.stay (fun b hb' _ => hb.block b hb')
theorem Ck.mono {P Q : Nat → Prop} {w : World} {gc : Nat} {now : Int} {k : Nat} {ds : List Du} (h : Ck P w gc now k ds) (hq : ∀ b, b < w.heap.size → P b → Q b) : Ck Q w gc now k ds := by
  obtain ⟨gm, p, c, hs, h⟩ := h
  exact ⟨gm, p, c, hs, h.mono hq⟩
theorem Ck.lt {P : Nat → Prop} {w : World} {gc : Nat} {now : Int} {k : Nat} {ds : List Du} (h : Ck P w gc now k ds) : gc < w.heap.size := by
  obtain ⟨gm, p, c, hs, h⟩ := h
  exact h.cl.blk.lt
theorem Ck.nd {P : Nat → Prop} {w : World} {gc : Nat} {now : Int} {k : Nat} {ds : List Du} (h : Ck P w gc now k ds) : NamesU ds := by
  obtain ⟨gm, p, c, hs, h⟩ := h
  exact h.nd
end Go.Proofs.Ytpmiekheiddihaa
