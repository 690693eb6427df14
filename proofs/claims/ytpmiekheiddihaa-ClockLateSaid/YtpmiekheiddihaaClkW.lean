/- A law's state: the clock, and the document's clock in a block of the law's. -/
import Derived.Test.YtpmiekheiddihaaRClkTick
import Derived.Deep.CutRange
namespace Go.Proofs.Ytpmiekheiddihaa
open Go.RowKit Go.Maps
theorem infoO {cs : Array Value} (h : cs.size = 3) : (Try.prog.info? 30).map (·.size) = some cs.size := by
  rw [h]
  kernel_rfl
/-- A block is made and filled. -/
theorem laid_new (w : World) (Z cs : Array Value) (T : TypeId) (hs : Z.size = cs.size) :
    Below w.heap.size w ((w.alloc (.cells Z T)).setCells w.heap.size 0 cs.toList) ∧ Blk ((w.alloc (.cells Z T)).setCells w.heap.size 0 cs.toList) w.heap.size cs T ∧ w.heap.size < ((w.alloc (.cells Z T)).setCells w.heap.size 0 cs.toList).heap.size := by
  have hB : Blk ((w.alloc (.cells Z T)).setCells w.heap.size 0 cs.toList) w.heap.size cs T := blk_put_all (Blk.new w Z T) cs hs
  exact ⟨below_put (Nat.le_refl _) _ _ _ _ (oneB w _), hB, hB.lt⟩
structure PW (w cur : World) (L : List Nat) (gc gd : Nat) (nowc : Int) (kk : Nat) (dsc : List Du) (nowd : Int) (v : Value) (dsd : List Du) : Prop where
  lc : LC w L cur gc nowc kk dsc
  row : OwnT encL cur w.heap.size 45 v dsd
  blk : Blk cur gd #[.int .i64 nowd, v] 28
  gin : gd ∈ L
  lb : w.heap.size ≤ gd
  rin : ∀ g, v.ownBlock = some g → g ∈ L
  ne : v.ownBlock ≠ some gd
section
variable {w cur cur' : World} {L : List Nat} {gc gd : Nat} {nowc nowd : Int} {kk : Nat} {dsc dsd : List Du} {v : Value}
theorem PW.kept (h : PW w cur L gc gd nowc kk dsc nowd v dsd) (hb : Below cur.heap.size cur cur') : PW w cur' L gc gd nowc kk dsc nowd v dsd :=
  ⟨h.lc.kept hb, h.row.later hb, h.blk.below hb h.blk.lt, h.gin, h.lb, h.rin, h.ne⟩
theorem PW.own (h : PW w cur L gc gd nowc kk dsc nowd v dsd) (hb : Below cur.heap.size cur cur') (x : Nat) (h1 : cur.heap.size ≤ x) (h2 : x < cur'.heap.size) : PW w cur' (x :: L) gc gd nowc kk dsc nowd v dsd :=
  ⟨h.lc.own hb x h1 h2, h.row.later hb, h.blk.below hb h.blk.lt, List.mem_cons_of_mem _ h.gin, h.lb, fun g e => List.mem_cons_of_mem _ (h.rin g e), h.ne⟩
theorem PW.ownV (h : PW w cur L gc gd nowc kk dsc nowd v dsd) (hb : Below cur.heap.size cur cur') (u : Value) (hu : ∀ g, u.ownBlock = some g → cur.heap.size ≤ g ∧ g < cur'.heap.size) : ∃ L', (∀ x ∈ L, x ∈ L') ∧ (∀ g, u.ownBlock = some g → g ∈ L') ∧ PW w cur' L' gc gd nowc kk dsc nowd v dsd := by
  cases hx : u.ownBlock with
  | none => exact ⟨L, fun _ h => h, fun g e => by (cases e), h.kept hb⟩
  | some x => exact ⟨x :: L, fun _ h => List.mem_cons_of_mem _ h, fun g e => by cases e; exact List.mem_cons_self, h.own hb x (hu x hx).1 (hu x hx).2⟩
theorem PW.doc (h : PW w cur L gc gd nowc kk dsc nowd v dsd) (hc : Chg gd cur cur') {nowd' : Int} {v' : Value} {dsd' : List Du} (hB : Blk cur' gd #[.int .i64 nowd', v'] 28) (hr : OwnT encL cur w.heap.size 45 v' dsd') (hin : ∀ g, v'.ownBlock = some g → g ∈ L) (hne : v'.ownBlock ≠ some gd) : PW w cur' L gc gd nowc kk dsc nowd' v' dsd' :=
  ⟨h.lc.stay (hc.below h.lb h.lc.below.size) (fun b hb hn _ => hc.2 b hb (fun e => hn (e ▸ h.gin))), hr.stay (fun g e => hc.2 g (hr.lt g e) (fun e2 => hne (e2 ▸ e))), hB, h.gin, h.lb, hin, hne⟩
theorem PW.prog (h : PW w cur L gc gd nowc kk dsc nowd v dsd) (hs : Stay L cur cur') {nowc' : Int} {kk' : Nat} {dsc' : List Du} (hl : LC w L cur' gc nowc' kk' dsc') : PW w cur' L gc gd nowc' kk' dsc' nowd v dsd :=
  ⟨hl, h.row.stay (fun g e => hs g (h.rin g e)), (hs gd h.gin).trans h.blk, h.gin, h.lb, h.rin, h.ne⟩
theorem PW.as (h : PW w cur L gc gd nowc kk dsc nowd v dsd) {ds' : List Du} (hr : OwnT encL cur w.heap.size 45 v ds') : PW w cur L gc gd nowc kk dsc nowd v ds' :=
  ⟨h.lc, hr, h.blk, h.gin, h.lb, h.rin, h.ne⟩
theorem PW.mem (h : PW w cur L gc gd nowc kk dsc nowd v dsd) {x : Nat} (hx : x ∈ L) : x < cur.heap.size := h.lc.lt x hx
end
theorem Blk.st {L : List Nat} {w w' : World} {b : Nat} {cs : Array Value} {t : TypeId} (h : Blk w b cs t) (hs : Stay L w w') (hb : b ∈ L) : Blk w' b cs t := (hs b hb).trans h
theorem when_at {ds : List Du} {s : ByteArray} {k : Nat} (hn : NamesU ds) (hk : k < ds.length) (h : ds[k].nm = s) : whenU ds s = some ds[k].t := by
  have h1 := dof_mem hn (List.getElem_mem hk)
  unfold whenU
  cases hf : ds.find? (fun d => decide (d.nm = s)) with
  | none =>
    rw [List.find?_eq_none] at hf
    exact absurd (decide_eq_true h) (hf _ (List.getElem_mem hk))
  | some d =>
    have hd := List.mem_of_find?_eq_some hf
    have hs : d.nm = s := by have h3 := List.find?_some hf; simpa using h3
    obtain ⟨j, hj, rfl⟩ := List.getElem_of_mem hd
    have : j = k := by
      rcases Nat.lt_trichotomy j k with h4 | h4 | h4
      · exact absurd (hs.trans h.symm) (List.pairwise_iff_getElem.1 hn j k hj hk h4)
      · exact h4
      · exact absurd (h.trans hs.symm) (List.pairwise_iff_getElem.1 hn k j hk hj h4)
    subst this
    rfl
theorem when_no {ds : List Du} {s : ByteArray} (h : dofU ds s = none) : whenU ds s = none := by
  unfold whenU
  rw [Option.map_eq_none_iff, List.find?_eq_none]
  intro d hd e
  exact dof_none.1 h d hd (of_decide_eq_true e)
theorem LC.when_any {w : World} {L : List Nat} {W : World} {gc : Nat} {now : Int} {k : Nat} {ds : List Du} (h : LC w L W gc now k ds) (s : ByteArray) (hs : s.size ≤ maxLen) : Calls Try.prog 16 #[.pointer (some ⟨gc, 0, none⟩), .string s] W fun e w' => e = .returned (.tuple #[.int .i64 ((whenU ds s).getD 0), .bool (whenU ds s).isSome]) ∧ w' = W := cwhen_any _ W gc now k ds s h.ck hs
end Go.Proofs.Ytpmiekheiddihaa
