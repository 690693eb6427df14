/- A law's map of times by name. -/
import Derived.Test.YtpmiekheiddihaaClkR
import Derived.Test.YtpmiekheiddihaaClkW
import Derived.Maps.OwnSet
import Derived.Maps.RangeWalk
namespace Go.Proofs.Ytpmiekheiddihaa
open Go.RowKit Go.Maps
set_option linter.unusedSimpArgs false
theorem zeroIn (w : World) : (zeroValue 3).run Try.prog w = .ok (.int .i64 0) w := by kernel_rfl
/-- D leads from each name of ds to its time. -/
structure MpD (D : DataW Unit) (ds : List Du) : Prop where
  has : ∀ s : ByteArray, s.size ≤ maxLen → Maps.has D (kS s) = (dofU ds s).isSome
  val : ∀ d ∈ ds, ∀ zd, D.atKey (kS d.nm) zd = .lit (.int .i64 d.t)
  len : Maps.size D = ds.length
theorem MpD.nil_ : MpD (.map []) [] := ⟨fun _ _ => rfl, fun d hd => by (cases hd), rfl⟩
theorem MpD.put {D : DataW Unit} {ds : List Du} (h : MpD D ds) (ht : Maps.Tidy D) (hm : Maps.IsMap D) (hn : NamesU ds) {s : ByteArray} (hs : s.size ≤ maxLen) (b : Nat) (t z : Int) : MpD (D.put (kS s) (.lit (.int .i64 t))) (dropU ds s ++ [⟨b, s, t, z⟩]) := by
  have hno : ∀ e ∈ dropU ds s, e.nm ≠ s := fun e he => of_decide_eq_true (List.mem_filter.1 he).2
  refine ⟨fun s' hs' => ?_, fun d hd zd => ?_, ?_⟩
  · rw [dof_append _ _ hno]
    by_cases e : s' = s
    · subst e
      rw [Maps.has_put_same hm (by constructor), if_pos rfl]; rfl
    · rw [Maps.has_put_other (kS_ne e), if_neg e, dof_drop, if_neg e]; exact h.has s' hs'
  · rcases List.mem_append.1 hd with h1 | h1
    · rw [Maps.atKey_put_other (kS_ne (hno d h1))]; exact h.val d (List.mem_filter.1 h1).1 zd
    · rw [List.mem_singleton.1 h1]; exact Maps.atKey_put_same hm (by constructor) _ _
  · rw [Maps.size_put ht, h.has s hs, h.len, List.length_append, List.length_singleton]
    cases hf : dofU ds s with
    | none => rw [drop_self hf]; rfl
    | some b =>
      obtain ⟨e, he, rfl, _⟩ := dof_some hf
      have := drop_len hn he
      show ds.length = _
      omega
theorem MpD.del {D : DataW Unit} {ds : List Du} (h : MpD D ds) (ht : Maps.Tidy D) (hn : NamesU ds) {s : ByteArray} (hs : s.size ≤ maxLen) : MpD (D.del (kS s)) (dropU ds s) := by
  refine ⟨fun s' hs' => ?_, fun d hd zd => ?_, ?_⟩
  · rw [dof_drop]
    by_cases e : s' = s
    · subst e
      rw [Maps.has_del_same, if_pos rfl]; rfl
    · rw [Maps.has_del_other (kS_ne e), if_neg e]; exact h.has s' hs'
  · rw [Maps.atKey_del_other (kS_ne (of_decide_eq_true (List.mem_filter.1 hd).2))]; exact h.val d (List.mem_filter.1 hd).1 zd
  · have h1 := Maps.size_del (k := kS s) ht
    rw [h.has s hs, h.len] at h1
    cases hf : dofU ds s with
    | none => rw [hf] at h1; rw [drop_self hf]; simpa using h1
    | some b =>
      rw [hf] at h1
      obtain ⟨e, he, rfl, _⟩ := dof_some hf
      have := drop_len hn he
      simp at h1
      omega
/-- Block b is such a map, of at most n entries. -/
def MpL (b n : Nat) (ds : List Du) (w : World) : Prop := ∃ D : DataW Unit, w.ownsMap Try.prog 9 (plainElem Try.prog 3) b n D ∧ MpD D ds
theorem MpL.block {b n : Nat} {ds : List Du} {w w' : World} (h : MpL b n ds w) (hb : w'.heap[b]? = w.heap[b]?) : MpL b n ds w' := by
  obtain ⟨D, ⟨es, clock, h1, h2⟩, h3⟩ := h
  exact ⟨D, ⟨es, clock, hb.trans h1, h2⟩, h3⟩
theorem MpL.lt {b n : Nat} {ds : List Du} {w : World} (h : MpL b n ds w) : b < w.heap.size := by
  obtain ⟨D, h1, _⟩ := h
  exact h1.lt
theorem MpL.mono {b n n' : Nat} {ds : List Du} {w : World} (h : MpL b n ds w) (hn : n ≤ n') : MpL b n' ds w := by
  obtain ⟨D, h1, h3⟩ := h
  exact ⟨D, h1.mono hn, h3⟩
theorem MpL.made (w : World) : MpL w.heap.size 0 [] (w.alloc (.map #[] 0)) := ⟨.map [], World.ownsMap_made _ _ _ _, MpD.nil_⟩
theorem turned_chg {b : Nat} {w w' : World} (ht : w.mapTurned w' b) : Chg b w w' :=
  ⟨Below.grown (Below.refl _ _) ht.grown (Nat.zero_le _) (fun _ _ => Nat.zero_le _), fun i hi hne => ht.grown.block i hi (by intro e; cases e; exact hne rfl)⟩
theorem MpL.put {b n : Nat} {ds : List Du} {w : World} (h : MpL b n ds w) (hn : NamesU ds) (hb : n < maxLen) {s : ByteArray} (hs : s.size ≤ maxLen) {t : Int} (ht : (Lit.int .i64 t).wf = true) : ∃ w', (Instr.mapUpdate 53 (.map (some b)) (.string s) (.int .i64 t)).run Try.prog w = .ok () w' ∧ (∀ g z, MpL b (n + 1) (dropU ds s ++ [⟨g, s, t, z⟩]) w') ∧ Chg b w w' := by
  obtain ⟨D, h1, h2⟩ := h
  obtain ⟨w', hrun, h3, hg⟩ := h1.store lawS Try.underlying53 hb (keyS hs) (plainElem_int Try.underlying3 ht)
  exact ⟨w', hrun, fun g z => ⟨_, h3, h2.put (h1.tidy lawS) h1.isMap hn hs g t z⟩, turned_chg hg⟩
theorem MpL.drop {b n : Nat} {ds : List Du} {w : World} (h : MpL b n ds w) (hn : NamesU ds) {s : ByteArray} (hs : s.size ≤ maxLen) (ty : TypeId) : ∃ w', (Builtin.delete_ #[53, 9] ty #[.map (some b), .string s]).run Try.prog w = .ok (.tuple #[]) w' ∧ MpL b n (dropU ds s) w' ∧ Chg b w w' := by
  obtain ⟨D, h1, h2⟩ := h
  obtain ⟨w', hrun, h3, hg⟩ := h1.drop lawS Try.underlying53 (keyS hs) ty
  exact ⟨w', hrun, ⟨_, h3, h2.del (h1.tidy lawS) hn hs⟩, turned_chg hg⟩
theorem MpL.len {b n : Nat} {ds : List Du} {w : World} (h : MpL b n ds w) (ty : TypeId) : (Builtin.len_ #[53] ty #[.map (some b)]).run Try.prog w = .ok (.int .i64 ds.length) w := by
  obtain ⟨D, h1, h2⟩ := h
  rw [h1.len Try.underlying53 ty, h2.len]
theorem MpL.look {b n : Nat} {ds : List Du} {w : World} (h : MpL b n ds w) {d : Du} (hd : d ∈ ds) (hs : d.nm.size ≤ maxLen) : (Instr.lookup 53 (.map (some b)) (.string d.nm) true).run Try.prog w = .ok (.tuple #[.int .i64 d.t, .bool true]) w := by
  obtain ⟨D, h1, h2⟩ := h
  have h5 : dofU ds d.nm ≠ none := fun e => dof_none.1 e d hd rfl
  obtain ⟨v, ps, hrun, hv⟩ := h1.look_ok lawS Try.underlying53 (zeroIn w) (plainElem_int Try.underlying3 (by decide)) (keyS hs)
  rw [h2.val d hd] at hv
  obtain ⟨c, rfl, hc, _⟩ := plainElem_int_inv Try.underlying3 hv
  cases (congrArg Prod.fst hc)
  rw [h2.has d.nm hs] at hrun
  cases hf : dofU ds d.nm with
  | none => exact absurd hf h5
  | some b => rw [hf] at hrun; exact hrun
/-- What is left of ds when the first j of the names l are gone. -/
def lftJ (ds : List Du) (l : List ByteArray) (j : Nat) : List Du := ds.filter (fun d => decide (∀ x ∈ l.take j, d.nm ≠ x))
theorem lft_zero (ds : List Du) (l : List ByteArray) : lftJ ds l 0 = ds := List.filter_eq_self.2 (fun d _ => by simp)
theorem lft_step (ds : List Du) (l : List ByteArray) (j : Nat) (h : j < l.length) : dropU (lftJ ds l j) l[j] = lftJ ds l (j + 1) := by
  unfold dropU lftJ
  rw [List.filter_filter, List.take_succ_eq_append_getElem h]
  refine List.filter_congr (fun d _ => ?_)
  rw [Bool.eq_iff_iff, Bool.and_eq_true, decide_eq_true_iff, decide_eq_true_iff, decide_eq_true_iff]
  constructor
  · rintro ⟨h1, h2⟩ x hx
    rcases List.mem_append.1 hx with h3 | h3
    · exact h2 x h3
    · rw [List.mem_singleton.1 h3]; exact h1
  · intro h1
    exact ⟨h1 _ (List.mem_append_right _ (List.mem_singleton.2 rfl)), fun x hx => h1 x (List.mem_append_left _ hx)⟩
theorem due_inj {ds : List Du} (hn : NamesU ds) {d e : Du} (hd : d ∈ ds) (he : e ∈ ds) (h : d.nm = e.nm) : d = e := by
  obtain ⟨i, hi, rfl⟩ := List.getElem_of_mem hd
  obtain ⟨j, hj, rfl⟩ := List.getElem_of_mem he
  rcases Nat.lt_trichotomy i j with h4 | h4 | h4
  · exact absurd h (List.pairwise_iff_getElem.1 hn i j hi hj h4)
  · subst h4; rfl
  · exact absurd h.symm (List.pairwise_iff_getElem.1 hn j i hj hi h4)
theorem late_round {now : Int} {ds : List Du} (hn : NamesU ds) (ht : ∀ d ∈ ds, now < d.t) (j : Nat) (hj : j < (tickL now ds).length) : ∃ d ∈ lftJ ds (tickL now ds) j, d.nm = (tickL now ds)[j] ∧ d.t = tickN now := by
  by_cases hm : now = 1099511627776
  · exfalso
    have e : tickL now ds = [] := if_pos hm
    rw [e] at hj
    exact absurd hj (by simp)
  · have e1 : tickL now ds = (dueL (now + 1) ds).map (·.nm) := if_neg hm
    have e2 : tickN now = now + 1 := if_neg hm
    have hj' : j < (dueL (now + 1) ds).length := by rw [e1, List.length_map] at hj; exact hj
    have hd := List.getElem_mem hj'
    have hd1 := List.mem_filter.1 hd
    refine ⟨(dueL (now + 1) ds)[j], List.mem_filter.2 ⟨hd1.1, decide_eq_true ?_⟩, by simp only [e1, List.getElem_map], ?_⟩
    · rw [e1, ← List.map_take]
      intro x hx hxe
      obtain ⟨e, he, hee⟩ := List.mem_map.1 hx
      obtain ⟨i, hi, rfl⟩ := List.getElem_of_mem he
      rw [List.length_take] at hi
      rw [List.getElem_take] at hee
      have hp : NamesU (dueL (now + 1) ds) := hn.sublist List.filter_sublist
      exact List.pairwise_iff_getElem.1 hp i j (by omega) hj' (by omega) (hee.trans hxe.symm)
    · have h1 := ht _ hd1.1
      have h2 : (dueL (now + 1) ds)[j].t ≤ now + 1 := of_decide_eq_true hd1.2
      omega
theorem late_end {now : Int} {ds : List Du} (hn : NamesU ds) (j : Nat) (hj : (tickL now ds).length ≤ j) : lftJ ds (tickL now ds) j = tickD now ds := by
  unfold lftJ
  rw [List.take_of_length_le hj]
  by_cases hm : now = 1099511627776
  · have e : tickL now ds = [] := if_pos hm
    have e2 : tickD now ds = ds := if_pos hm
    rw [e, e2]
    exact List.filter_eq_self.2 (fun d _ => by simp)
  · have e1 : tickL now ds = (dueL (now + 1) ds).map (·.nm) := if_neg hm
    have e2 : tickD now ds = restL (now + 1) ds := if_neg hm
    rw [e1, e2]
    unfold restL
    refine List.filter_congr (fun d hd => ?_)
    cases hb : dueB (now + 1) d with
    | true =>
      have h1 : d.nm ∈ (dueL (now + 1) ds).map (·.nm) := List.mem_map_of_mem (f := fun d : Du => d.nm) (List.mem_filter.2 ⟨hd, hb⟩)
      exact decide_eq_false (fun h => h _ h1 rfl)
    | false =>
      refine decide_eq_true (fun x hx e => ?_)
      obtain ⟨e', he, hee⟩ := List.mem_map.1 hx
      have h1 := List.mem_filter.1 he
      rw [due_inj hn h1.1 hd (hee.trans e.symm)] at h1
      rw [hb] at h1
      exact absurd h1.2 (by decide)
/-- A law's state: the clock, and the map in a block of the law's. -/
structure LW (w cur : World) (L : List Nat) (gc gm : Nat) (now : Int) (kk : Nat) (ds : List Du) (n : Nat) (dm : List Du) : Prop where
  lc : LC w L cur gc now kk ds
  mp : MpL gm n dm cur
  gin : gm ∈ L
  lb : w.heap.size ≤ gm
section
variable {w cur cur' : World} {L : List Nat} {gc gm : Nat} {now : Int} {kk n : Nat} {ds dm : List Du}
theorem LW.kept (h : LW w cur L gc gm now kk ds n dm) (hb : Below cur.heap.size cur cur') : LW w cur' L gc gm now kk ds n dm := ⟨h.lc.kept hb, h.mp.block (hb.block gm h.mp.lt), h.gin, h.lb⟩
theorem LW.own (h : LW w cur L gc gm now kk ds n dm) (hb : Below cur.heap.size cur cur') (x : Nat) (h1 : cur.heap.size ≤ x) (h2 : x < cur'.heap.size) : LW w cur' (x :: L) gc gm now kk ds n dm := ⟨h.lc.own hb x h1 h2, h.mp.block (hb.block gm h.mp.lt), List.mem_cons_of_mem _ h.gin, h.lb⟩
theorem LW.prog (h : LW w cur L gc gm now kk ds n dm) (hs : Stay L cur cur') {now' : Int} {kk' : Nat} {ds' : List Du} (hl : LC w L cur' gc now' kk' ds') : LW w cur' L gc gm now' kk' ds' n dm := ⟨hl, h.mp.block (hs gm h.gin), h.gin, h.lb⟩
theorem LW.map (h : LW w cur L gc gm now kk ds n dm) (hc : Chg gm cur cur') {n' : Nat} {dm' : List Du} (hm : MpL gm n' dm' cur') : LW w cur' L gc gm now kk ds n' dm' :=
  ⟨h.lc.stay (hc.below h.lb h.lc.below.size) (fun b hb hn _ => hc.2 b hb (fun e => hn (e ▸ h.gin))), hm, h.gin, h.lb⟩
theorem LW.iter (h : LW w cur L gc gm now kk ds n dm) {gr : Nat} (hg : cur.grownBy cur' (some gr)) (hgr : gr ∈ L) (hlb : w.heap.size ≤ gr) (hne : gr ≠ gm) : LW w cur' L gc gm now kk ds n dm :=
  have hb : ∀ b, b < cur.heap.size → b ≠ gr → cur'.heap[b]? = cur.heap[b]? := fun b h1 h2 => hg.block b h1 (fun e => by cases e; exact h2 rfl)
  ⟨h.lc.stay (Below.grown (Below.refl _ _) hg h.lc.below.size (fun _ e => by cases e; exact hlb)) (fun b h1 h2 _ => hb b h1 (fun e => h2 (e ▸ hgr))), h.mp.block (hb gm h.mp.lt (fun e => hne e.symm)), h.gin, h.lb⟩
end
theorem Ck.szs {P : Nat → Prop} {w : World} {gc : Nat} {now : Int} {k : Nat} {ds : List Du} (h : Ck P w gc now k ds) : ∀ d ∈ ds, d.nm.size ≤ maxLen := by
  obtain ⟨gm, p, c, hs, h⟩ := h
  exact h.sz
theorem invKS (key : Value) (kl : Lit) (h : keyOf Try.prog 9 key = some kl) : ∃ x, key = Value.string x := by
  obtain ⟨s, e, _⟩ := Go.WideMaps.string_of_keyOf Try.underlying9 h
  exact ⟨s, e⟩
theorem invVI (v : Value) (y : DataW Unit × List MemPlace) (h : plainElem Try.prog 3 v = some y) : ∃ c : Int, v = Value.int .i64 c := by
  obtain ⟨c, e, _⟩ := plainElem_int_inv Try.underlying3 h
  exact ⟨c, e⟩
theorem entry_ks {s : ByteArray} {kl : Lit} (h : keyOf Try.prog 9 (.string s) = some kl) : kl = kS s ∧ s.size ≤ maxLen := by
  obtain ⟨s', e, rfl, hs⟩ := Go.WideMaps.string_of_keyOf Try.underlying9 h
  cases e
  exact ⟨rfl, hs⟩
theorem entry_vi {c : Int} {y : DataW Unit × List MemPlace} (h : plainElem Try.prog 3 (.int .i64 c) = some y) : y.1 = .lit (.int .i64 c) := by
  obtain ⟨c', e, rfl, _⟩ := plainElem_int_inv Try.underlying3 h
  cases e
  rfl
/-- What the map has is due, at the time that it has. -/
theorem MpD.due {D : DataW Unit} {ds : List Du} (h : MpD D ds) {s : ByteArray} (hs : s.size ≤ maxLen) (hh : Maps.has D (kS s) = true) {c : Int} (hv : ∀ zd, D.atKey (kS s) zd = .lit (.int .i64 c)) : ∃ d ∈ ds, d.nm = s ∧ d.t = c := by
  rw [h.has s hs] at hh
  cases hf : dofU ds s with
  | none => rw [hf] at hh; cases hh
  | some b =>
    obtain ⟨d, hd, rfl, _⟩ := dof_some hf
    have h1 := h.val d hd (.lit (.int .i64 0))
    rw [hv] at h1
    cases h1
    exact ⟨d, hd, rfl, rfl⟩
theorem when_of {ds : List Du} (hn : NamesU ds) {d : Du} (hd : d ∈ ds) : whenU ds d.nm = some d.t := by
  obtain ⟨k, hk, rfl⟩ := List.getElem_of_mem hd
  exact when_at hn hk rfl
end Go.Proofs.Ytpmiekheiddihaa
