/- Slices of puts: append to a slice of the call's own. -/
import Derived.Test.YtaooiejgigicoaaSumM
namespace Go.Proofs.Ytaooiejgigicoaa
open Go.RowKit
theorem elt_put : EltP Try.prog 22 46 := eltP_mk Try.underlying22 (by kernel_rfl)
theorem ownP_empty (w : World) (e : TypeId) {b : Nat} (hb : b = w.heap.size) : OwnP (w.alloc (.cells #[] e)) b e (.slice (some ⟨b, 0, none⟩) 0 0) [] := by
  subst hb
  exact ⟨by simp [cellsOf], .inr ⟨w.heap.size, 0, #[], rfl, Nat.le_refl _, heap_alloc_new w _, Nat.le_refl _, Nat.zero_le _, rfl, by simp [cellsOf]⟩⟩
/-- Where the order is open. -/
theorem step_append_pos {P : Program} {w : World} {ops : Array Oper} {o : Oper} {a : Act} {K : Act → World → Prop} {Q : Exit → Act → World → Prop} {E : Prop} (hgd : o.guard = none) (s x : Operand) (t : TypeId)
    (ho : o.op = .call { callee := .builtin .append, args := #[s, x], argTypes := #[t, t] })
    (e : TypeId) (base : Nat) (he : EltP P t e) (v y : Value) (ps qs : List Pos) (hs : a.eval s = v) (hx : a.eval x = y) (hown : OwnP w base e v ps) (hrow : PRow w y qs)
    (h63 : ps.length + qs.length ≤ 1000000) (hbase : base ≤ w.heap.size) (L : List Pos) (N : Nat) (hL : ps ++ qs = L) (hN : L.length = N)
    (h : ∀ p' c' w', OwnP w' base e (.slice p' N c') L → Below base w w' → K (a.put o.dst (.slice p' N c')) w') :
    if Region.wanted o (yielded ops a.tmps) = true then Oper.wp P o a w K Q else E := by
  subst hL
  subst hN
  have hw : Region.wanted o (yielded ops a.tmps) = true := by simp [Region.wanted, hgd]
  rw [if_pos hw]
  obtain ⟨v', w', hrun, h1, h2⟩ := run_append_pos w t o.type e base he v y ps qs hown hrow h63 hbase
  have hk : K (a.put o.dst v') w' := by
    obtain ⟨p', c', rfl⟩ := h1.form
    exact h p' c' w' h1 h2
  unfold Oper.wp
  simp [execOp, ho, resolve, invoke, builtin, hs, hx, hrun, Result.andThen]
  exact hk
theorem stop_append {P : Program} {ops : Array Oper} {rest : List Oper} {o : Oper} {a : Act} {w : World} {Q : Exit → Act → World → Prop} (s x : Operand) (t : TypeId)
    (_ : o.op = .call { callee := .builtin .append, args := #[s, x], argTypes := #[t, t] }) (h : Hid (wpList P ops Q (o :: rest) a w)) : wpList P ops Q (o :: rest) a w := h
/-- In a statement whose order is open: a slice of the law's own, and two blocks that may be there already. -/
def ORel (w : World) (e : TypeId) (L : List Pos) (v : Value) (bA : Option Nat) (A : Array Value) (tA : TypeId) (bB : Option Nat) (B : Array Value) (tB : TypeId) (wr : World) : Prop :=
  Below w.heap.size w wr ∧ OwnP wr w.heap.size e v L ∧ (∀ b, bA = some b → Blk wr b A tA ∧ w.heap.size ≤ b ∧ ∀ g, v.ownBlock = some g → g ≠ b) ∧ (∀ b, bB = some b → Blk wr b B tB ∧ w.heap.size ≤ b ∧ ∀ g, v.ownBlock = some g → g ≠ b) ∧ (∀ a b, bA = some a → bB = some b → a ≠ b)
theorem ORel.start (w : World) (e : TypeId) (A : Array Value) (tA : TypeId) (B : Array Value) (tB : TypeId) : ORel w e [] (.slice none 0 0) none A tA none B tB w.drew :=
  ⟨(Below.refl _ w).drew, OwnP.nil_ _ _ _, (fun _ h => by cases h), (fun _ h => by cases h), fun _ _ h => by cases h⟩
theorem ORel.kept {w wr w' : World} {e : TypeId} {L : List Pos} {v : Value} {bA bB : Option Nat} {A B : Array Value} {tA tB : TypeId} (h : ORel w e L v bA A tA bB B tB wr) (hb : Below wr.heap.size wr w') : ORel w e L v bA A tA bB B tB w' := by
  obtain ⟨h1, h2, h3, h4, h5⟩ := h
  exact ⟨h1.trans (hb.mono h1.size), h2.later hb, fun b hB => ⟨(h3 b hB).1.below hb (h3 b hB).1.lt, (h3 b hB).2⟩, fun b hB => ⟨(h4 b hB).1.below hb (h4 b hB).1.lt, (h4 b hB).2⟩, h5⟩
theorem ORel.allocA {w wr : World} {e : TypeId} {L : List Pos} {v : Value} {bB : Option Nat} {A B : Array Value} {tA tB : TypeId} (h : ORel w e L v none A tA bB B tB wr) : ORel w e L v (some wr.heap.size) A tA bB B tB (wr.alloc (.cells A tA)) := by
  obtain ⟨h1, h2, _, h4, _⟩ := h.kept (oneB wr (.cells A tA))
  refine ⟨h1, h2, fun b hb => ?_, h4, fun a b ha hb => ?_⟩
  · cases hb
    exact ⟨Blk.new _ _ _, h.1.size, fun g hg => by have := h.2.1.lt g hg; omega⟩
  · cases ha
    have := (h.2.2.2.1 b hb).1.lt
    omega
theorem ORel.allocB {w wr : World} {e : TypeId} {L : List Pos} {v : Value} {bA : Option Nat} {A B : Array Value} {tA tB : TypeId} (h : ORel w e L v bA A tA none B tB wr) : ORel w e L v bA A tA (some wr.heap.size) B tB (wr.alloc (.cells B tB)) := by
  obtain ⟨h1, h2, h3, _, _⟩ := h.kept (oneB wr (.cells B tB))
  refine ⟨h1, h2, h3, fun b hb => ?_, fun a b ha hb => ?_⟩
  · cases hb
    exact ⟨Blk.new _ _ _, h.1.size, fun g hg => by have := h.2.1.lt g hg; omega⟩
  · cases hb
    have := (h.2.2.1 a ha).1.lt
    omega
theorem ORel.build {w wr : World} {e : TypeId} {v : Value} {bA bB : Option Nat} {A B : Array Value} {tA tB : TypeId} (h : ORel w e [] v bA A tA bB B tB wr) : ORel w e [] (.slice (some ⟨wr.heap.size, 0, none⟩) 0 0) bA A tA bB B tB (wr.alloc (.cells #[] e)) := by
  obtain ⟨h1, _, h3, h4, h5⟩ := h.kept (oneB wr (.cells #[] e))
  refine ⟨h1, (ownP_empty wr e rfl).less h.1.size, fun b hb => ⟨(h3 b hb).1, (h3 b hb).2.1, fun g hg => ?_⟩, fun b hb => ⟨(h4 b hb).1, (h4 b hb).2.1, fun g hg => ?_⟩, h5⟩
  · have he : wr.heap.size = g := Option.some.inj hg
    have := (h.2.2.1 b hb).1.lt
    omega
  · have he : wr.heap.size = g := Option.some.inj hg
    have := (h.2.2.2.1 b hb).1.lt
    omega
theorem ORel.append {w wr w' : World} {e : TypeId} {L L' : List Pos} {v v' : Value} {bA bB : Option Nat} {A B : Array Value} {tA tB : TypeId} (h : ORel w e L v bA A tA bB B tB wr) (ho : OwnP w' w.heap.size e v' L') (hg : wr.grownBy w' v.ownBlock) (hl : v'.ownBlock = v.ownBlock ∨ v'.ownBlock = some wr.heap.size) : ORel w e L' v' bA A tA bB B tB w' := by
  obtain ⟨h1, h2, h3, h4, h5⟩ := h
  refine ⟨h1.grown hg h1.size (fun g hg' => h2.block_ge g hg'), ho, fun b hb => ?_, fun b hb => ?_, h5⟩
  · obtain ⟨i1, i2, i3⟩ := h3 b hb
    refine ⟨i1.grown hg (fun he => i3 b he.symm rfl), i2, fun g hg' => ?_⟩
    rcases hl with hl | hl
    · exact i3 g (hl ▸ hg')
    · rw [hl] at hg'; cases hg'; have := i1.lt; omega
  · obtain ⟨i1, i2, i3⟩ := h4 b hb
    refine ⟨i1.grown hg (fun he => i3 b he.symm rfl), i2, fun g hg' => ?_⟩
    rcases hl with hl | hl
    · exact i3 g (hl ▸ hg')
    · rw [hl] at hg'; cases hg'; have := i1.lt; omega
theorem run_append_posG {P : Program} (w : World) (t ty e : TypeId) (base : Nat) (he : EltP P t e) (v y : Value) (ps qs : List Pos) (hown : OwnP w base e v ps) (hrow : PRow w y qs)
    (h63 : ps.length + qs.length ≤ 1000000) (hbase : base ≤ w.heap.size) :
    ∃ v' w', (Builtin.append_ #[t, t] ty #[v, y]).run P w = .ok v' w' ∧ OwnP w' base e v' (ps ++ qs) ∧ w.grownBy w' v.ownBlock ∧ (v'.ownBlock = v.ownBlock ∨ v'.ownBlock = some w.heap.size) := by
  obtain ⟨i, ht, hi, hz, hs, hby⟩ := he
  obtain ⟨p, c, rfl, hc, hr⟩ := id hrow
  cases p with
  | some ad =>
    obtain ⟨v', w', hrun, hown', hg, hl⟩ := run_append_own_at (P := P) w base t ty e i zeroP 3 24 ht hi hz hs hby rfl (by decide) v ps.length (cellsOf ps) hown ad qs.length c (cellsOf qs) (cellsOf_length qs) hrow.newsAt (cellsOf_onecell qs) (by unfold maxLen; omega) (by omega) hbase
    refine ⟨v', w', hrun, ?_, hg, hl.2⟩
    unfold OwnP
    rw [cellsOf_app, List.length_append]
    exact hown'
  | none =>
    have hy : qs = [] := by
      rcases hr with h | ⟨b, o, h, _⟩
      · exact h
      · cases h
    subst hy
    refine ⟨v, w, ?_, by simpa using hown, World.grownBy.refl _ _, .inl rfl⟩
    rcases hown.2 with ⟨rfl, h0⟩ | ⟨g, cap, cur, rfl, _, _, hnc, _⟩
    · simp [Builtin.append_, run_underlying ht, sizeOf, typeInfo, hi, Builtin.lenOf, Builtin.firstCells]
    · simp [Builtin.append_, run_underlying ht, sizeOf, typeInfo, hi, Builtin.lenOf, Builtin.firstCells, hnc, storeCells]
/-- Where the order is open: and the blocks that may be there. -/
theorem step_append_o {P : Program} {w wr : World} {ops : Array Oper} {o : Oper} {a : Act} {K : Act → World → Prop} {Q : Exit → Act → World → Prop} {E : Prop} (hgd : o.guard = none) (s x : Operand) (t : TypeId)
    (ho : o.op = .call { callee := .builtin .append, args := #[s, x], argTypes := #[t, t] })
    (e : TypeId) (he : EltP P t e) (v y : Value) (ps qs : List Pos) (hs : a.eval s = v) (hx : a.eval x = y) {bA bB : Option Nat} {A B : Array Value} {tA tB : TypeId} (hR : ORel w e ps v bA A tA bB B tB wr) (hrow : PRow wr y qs)
    (h63 : ps.length + qs.length ≤ 1000000) (L : List Pos) (N : Nat) (hL : ps ++ qs = L) (hN : L.length = N)
    (h : ∀ p' c' w', ORel w e L (.slice p' N c') bA A tA bB B tB w' → K (a.put o.dst (.slice p' N c')) w') :
    if Region.wanted o (yielded ops a.tmps) = true then Oper.wp P o a wr K Q else E := by
  subst hL
  subst hN
  have hw : Region.wanted o (yielded ops a.tmps) = true := by simp [Region.wanted, hgd]
  rw [if_pos hw]
  obtain ⟨v', w', hrun, h1, h2, h3⟩ := run_append_posG wr t o.type e w.heap.size he v y ps qs hR.2.1 hrow h63 hR.1.size
  have hk : K (a.put o.dst v') w' := by
    obtain ⟨p', c', rfl⟩ := h1.form
    exact h p' c' w' (hR.append h1 h2 h3)
  unfold Oper.wp
  simp [execOp, ho, resolve, invoke, builtin, hs, hx, hrun, Result.andThen]
  exact hk
end Go.Proofs.Ytaooiejgigicoaa
