/- WalSure's state: appends to its two slices. -/
import Derived.Test.YtjbhcdmeeakdcaaWal2
namespace Go.Proofs.Ytjbhcdmeeakdcaa
open Go.RowKit
section
variable {G : Nat → Prop} {w wr : World} {B gl n : Nat} {d : DSt} {v u : Value} {A C : List (List Int)}
theorem WS2.gnv (h : WS2 G w B gl d n v A u C wr) {g : Nat} (hg : G g) : v.ownBlock ≠ some g ∧ u.ownBlock ≠ some g := by
  obtain ⟨h1, h2, h3, P, p1, p2, p3, p4, p5, p6, p7, p8, p9⟩ := h
  exact (p9 g hg).2.2
theorem WS2.glt (h : WS2 G w B gl d n v A u C wr) {g : Nat} (hg : G g) : g < wr.heap.size := by
  obtain ⟨h1, h2, h3, P, p1, p2, p3, p4, p5, p6, p7, p8, p9⟩ := h
  exact p2.lt_P g (p9 g hg).1
theorem core_pushA (h : WS2 G w B gl d n v A u C wr) (ty : TypeId) (ys : List Int) (ad : Addr) (hcell : wr.cell? ad = some (.string (strOfNums ys))) (hC : A.length ≤ 1000) :
    ∃ v' w', (Builtin.append_ #[33, 33] ty #[v, .slice (some ad) 1 1]).run Try.prog wr = .ok v' w' ∧ WS2 G w B gl d n v' (A ++ [ys]) u C w' ∧ wr.heap.size ≤ w'.heap.size ∧ ∀ k, v.ownBlock ≠ some k → k < wr.heap.size → w'.heap[k]? = wr.heap[k]? := by
  obtain ⟨h1, h2, h3, P, p1, p2, p3, p4, p5, p6, p7, p8, p9⟩ := h
  have hBw : B ≤ wr.heap.size := Nat.le_of_lt p2.dk.lt
  obtain ⟨v', w', hrun, ho, hg, hor⟩ := run_append_val (P := Try.prog) wr 33 ty 9 (.string ⟨#[]⟩) 16 B eltStrW rfl (by decide) v (A.map strS) (.string (strOfNums ys)) rfl ad hcell p4 (by rw [List.length_map]; omega) hBw
  have hbB : Below B wr w' := (Below.refl B wr).grown hg hBw (fun g hg' => p4.block_ge g hg')
  have hs : wr.heap.size ≤ w'.heap.size := hbB.size
  have hvl := p4.lt
  have hul := p5.lt
  have hgl := p3.lt
  have hnew : ∀ g, v'.ownBlock = some g → v.ownBlock = some g ∨ (g = wr.heap.size ∧ g < w'.heap.size) := fun g e => by
    rcases hor with e2 | e2
    · exact .inl (e2 ▸ e)
    · rw [e2] at e
      have := ho.lt wr.heap.size e2
      cases e
      exact .inr ⟨rfl, this⟩
  refine ⟨v', w', hrun, ⟨h1, h2, h3.trans (hbB.mono h1), _, .inl p1, p2.grown hg (fun k hk => (p6 k hk).1) hs, (hg.block gl hgl (fun e => (p6 gl e.symm).2 rfl)).trans p3, ?_, ?_, ?_, ?_, ?_, ?_⟩, hs, fun k hk hl => hg.block k hl (fun e => hk e.symm)⟩
  · rw [List.map_append]; exact ho
  · exact p5.stay (fun g e => hg.block g (hul g e) (fun e2 => p8 g e2.symm e))
  · intro g e
    rcases hnew g e with e | ⟨e, e3⟩
    · exact ⟨.inl (p6 g e).1, (p6 g e).2⟩
    · exact ⟨.inr ⟨by omega, e3⟩, by omega⟩
  · exact fun g e => ⟨.inl (p7 g e).1, (p7 g e).2⟩
  · intro g e e2
    rcases hnew g e with e | ⟨e, _⟩
    · exact p8 g e e2
    · have := hul g e2; omega
  · intro g hG
    obtain ⟨q1, q2, q3, q4⟩ := p9 g hG
    refine ⟨.inl q1, q2, fun e => ?_, q4⟩
    rcases hnew g e with e | ⟨e, _⟩
    · exact q3 e
    · have := p2.lt_P g q1; omega
/-- In its order. -/
theorem w2_pushA {ops : Array Oper} {rest : List Oper} {o : Oper} {a : Act} {Q : Exit → Act → World → Prop} (h : WS2 G w B gl d n v A u C wr) (hgd : o.guard = none) (s x : Operand)
    (ho : o.op = .call { callee := .builtin .append, args := #[s, x], argTypes := #[33, 33] }) (ys : List Int) (b : Nat) (hb : b = wr.heap.size) (hs : a.eval s = v) (hx : a.eval x = .slice (some ⟨b, 0, none⟩) 1 1) (hC : A.length ≤ 1000) (N : Nat) (hN : A.length + 1 = N)
    (hk : ∀ p' c' w', WS2 G w B gl d n (.slice p' N c') (A ++ [ys]) u C w' → (∀ k, v.ownBlock ≠ some k → k < wr.heap.size → w'.heap[k]? = wr.heap[k]?) → wpList Try.prog ops Q rest (a.put o.dst (.slice p' N c')) w') : wpList Try.prog ops Q (o :: rest) a (wr.alloc (.cells #[.string (strOfNums ys)] 9)) := by
  subst hb
  have ha := h.kept (oneB wr (.cells #[.string (strOfNums ys)] 9))
  obtain ⟨v', w', hrun, h2, h3, h4⟩ := core_pushA ha o.type ys ⟨wr.heap.size, 0, none⟩ (Blk.new wr #[.string (strOfNums ys)] 9 |>.cell 0) hC
  refine wpList_plain hgd fun K hK => ?_
  unfold Oper.wp
  simp [execOp, ho, resolve, invoke, builtin, hs, hx, hrun, Result.andThen]
  obtain ⟨p', c', hv⟩ := h2.formA
  rw [List.length_append, List.length_singleton, hN] at hv
  subst hv
  exact hK _ _ (hk p' c' w' h2 (fun k hv hl => (h4 k hv (by simp; omega)).trans ((oneB wr _).block k hl)))
theorem core_pushC (h : WS2 G w B gl d n v A u C wr) (ty : TypeId) (ys : List Int) (ad : Addr) (hcell : wr.cell? ad = some (.string (strOfNums ys))) (hC : C.length ≤ 1000) :
    ∃ v' w', (Builtin.append_ #[33, 33] ty #[u, .slice (some ad) 1 1]).run Try.prog wr = .ok v' w' ∧ WS2 G w B gl d n v A v' (C ++ [ys]) w' ∧ wr.heap.size ≤ w'.heap.size ∧ ∀ k, u.ownBlock ≠ some k → k < wr.heap.size → w'.heap[k]? = wr.heap[k]? := by
  obtain ⟨h1, h2, h3, P, p1, p2, p3, p4, p5, p6, p7, p8, p9⟩ := h
  have hBw : B ≤ wr.heap.size := Nat.le_of_lt p2.dk.lt
  obtain ⟨v', w', hrun, ho, hg, hor⟩ := run_append_val (P := Try.prog) wr 33 ty 9 (.string ⟨#[]⟩) 16 B eltStrW rfl (by decide) u (C.map strS) (.string (strOfNums ys)) rfl ad hcell p5 (by rw [List.length_map]; omega) hBw
  have hbB : Below B wr w' := (Below.refl B wr).grown hg hBw (fun g hg' => p5.block_ge g hg')
  have hs : wr.heap.size ≤ w'.heap.size := hbB.size
  have hvl := p4.lt
  have hul := p5.lt
  have hgl := p3.lt
  have hnew : ∀ g, v'.ownBlock = some g → u.ownBlock = some g ∨ (g = wr.heap.size ∧ g < w'.heap.size) := fun g e => by
    rcases hor with e2 | e2
    · exact .inl (e2 ▸ e)
    · rw [e2] at e
      have := ho.lt wr.heap.size e2
      cases e
      exact .inr ⟨rfl, this⟩
  refine ⟨v', w', hrun, ⟨h1, h2, h3.trans (hbB.mono h1), _, .inl p1, p2.grown hg (fun k hk => (p7 k hk).1) hs, (hg.block gl hgl (fun e => (p7 gl e.symm).2 rfl)).trans p3, ?_, ?_, ?_, ?_, ?_, ?_⟩, hs, fun k hk hl => hg.block k hl (fun e => hk e.symm)⟩
  · exact p4.stay (fun g e => hg.block g (hvl g e) (fun e2 => p8 g e e2.symm))
  · rw [List.map_append]; exact ho
  · exact fun g e => ⟨.inl (p6 g e).1, (p6 g e).2⟩
  · intro g e
    rcases hnew g e with e | ⟨e, e3⟩
    · exact ⟨.inl (p7 g e).1, (p7 g e).2⟩
    · exact ⟨.inr ⟨by omega, e3⟩, by omega⟩
  · intro g e e2
    rcases hnew g e2 with e2 | ⟨e2, _⟩
    · exact p8 g e e2
    · have := hvl g e; omega
  · intro g hG
    obtain ⟨q1, q2, q3, q4⟩ := p9 g hG
    refine ⟨.inl q1, q2, q3, fun e => ?_⟩
    rcases hnew g e with e | ⟨e, _⟩
    · exact q4 e
    · have := p2.lt_P g q1; omega
/-- In its order. -/
theorem w2_pushC {ops : Array Oper} {rest : List Oper} {o : Oper} {a : Act} {Q : Exit → Act → World → Prop} (h : WS2 G w B gl d n v A u C wr) (hgd : o.guard = none) (s x : Operand)
    (ho : o.op = .call { callee := .builtin .append, args := #[s, x], argTypes := #[33, 33] }) (ys : List Int) (b : Nat) (hb : b = wr.heap.size) (hs : a.eval s = u) (hx : a.eval x = .slice (some ⟨b, 0, none⟩) 1 1) (hC : C.length ≤ 1000) (N : Nat) (hN : C.length + 1 = N)
    (hk : ∀ p' c' w', WS2 G w B gl d n v A (.slice p' N c') (C ++ [ys]) w' → (∀ k, u.ownBlock ≠ some k → k < wr.heap.size → w'.heap[k]? = wr.heap[k]?) → wpList Try.prog ops Q rest (a.put o.dst (.slice p' N c')) w') : wpList Try.prog ops Q (o :: rest) a (wr.alloc (.cells #[.string (strOfNums ys)] 9)) := by
  subst hb
  have ha := h.kept (oneB wr (.cells #[.string (strOfNums ys)] 9))
  obtain ⟨v', w', hrun, h2, h3, h4⟩ := core_pushC ha o.type ys ⟨wr.heap.size, 0, none⟩ (Blk.new wr #[.string (strOfNums ys)] 9 |>.cell 0) hC
  refine wpList_plain hgd fun K hK => ?_
  unfold Oper.wp
  simp [execOp, ho, resolve, invoke, builtin, hs, hx, hrun, Result.andThen]
  obtain ⟨p', c', hv⟩ := h2.formC
  rw [List.length_append, List.length_singleton, hN] at hv
  subst hv
  exact hK _ _ (hk p' c' w' h2 (fun k hv hl => (h4 k hv (by simp; omega)).trans ((oneB wr _).block k hl)))
theorem core_cat (h : WS2 G w B gl d n v A u C wr) (ty : TypeId) (hC : A.length + C.length ≤ 1000) :
    ∃ v' w', (Builtin.append_ #[33, 33] ty #[v, u]).run Try.prog wr = .ok v' w' ∧ WS2 G w B gl d n v' (A ++ C) (.slice none 0 0) [] w' ∧ wr.heap.size ≤ w'.heap.size ∧ ∀ k, v.ownBlock ≠ some k → k < wr.heap.size → w'.heap[k]? = wr.heap[k]? := by
  obtain ⟨h1, h2, h3, P, p1, p2, p3, p4, p5, p6, p7, p8, p9⟩ := h
  have hBw : B ≤ wr.heap.size := Nat.le_of_lt p2.dk.lt
  obtain ⟨v', w', hrun, ho, hg, hor⟩ := run_append_vals (P := Try.prog) wr 33 ty 9 (.string ⟨#[]⟩) 16 B B eltStrW rfl (by decide) v u (A.map strS) (C.map strS) (by intro x hx; obtain ⟨y, _, rfl⟩ := List.mem_map.1 hx; rfl) p4 p5 (by rw [List.length_map, List.length_map]; omega) hBw
  have hbB : Below B wr w' := (Below.refl B wr).grown hg hBw (fun g hg' => p4.block_ge g hg')
  have hs : wr.heap.size ≤ w'.heap.size := hbB.size
  have hgl := p3.lt
  have hnew : ∀ g, v'.ownBlock = some g → v.ownBlock = some g ∨ (g = wr.heap.size ∧ g < w'.heap.size) := fun g e => by
    rcases hor with e2 | e2
    · exact .inl (e2 ▸ e)
    · rw [e2] at e
      have := ho.lt wr.heap.size e2
      cases e
      exact .inr ⟨rfl, this⟩
  refine ⟨v', w', hrun, ⟨h1, h2, h3.trans (hbB.mono h1), _, .inl p1, p2.grown hg (fun k hk => (p6 k hk).1) hs, (hg.block gl hgl (fun e => (p6 gl e.symm).2 rfl)).trans p3, ?_, OwnV.nil_ _ _ _, ?_, (fun g e => by cases e), (fun g e e2 => by cases e2), ?_⟩, hs, fun k hk hl => hg.block k hl (fun e => hk e.symm)⟩
  · rw [List.map_append]; exact ho
  · intro g e
    rcases hnew g e with e | ⟨e, e3⟩
    · exact ⟨.inl (p6 g e).1, (p6 g e).2⟩
    · exact ⟨.inr ⟨by omega, e3⟩, by omega⟩
  · intro g hG
    obtain ⟨q1, q2, q3, q4⟩ := p9 g hG
    refine ⟨.inl q1, q2, fun e => ?_, fun e => by cases e⟩
    rcases hnew g e with e | ⟨e, _⟩
    · exact q3 e
    · have := p2.lt_P g q1; omega
theorem w2_cat {ops : Array Oper} {rest : List Oper} {o : Oper} {a : Act} {Q : Exit → Act → World → Prop} (h : WS2 G w B gl d n v A u C wr) (hgd : o.guard = none) (s x : Operand)
    (ho : o.op = .call { callee := .builtin .append, args := #[s, x], argTypes := #[33, 33] }) (hs : a.eval s = v) (hx : a.eval x = u) (hC : A.length + C.length ≤ 1000) (N : Nat) (hN : A.length + C.length = N)
    (hk : ∀ p' c' w', WS2 G w B gl d n (.slice p' N c') (A ++ C) (.slice none 0 0) [] w' → wr.heap.size ≤ w'.heap.size → (∀ k, v.ownBlock ≠ some k → k < wr.heap.size → w'.heap[k]? = wr.heap[k]?) → wpList Try.prog ops Q rest (a.put o.dst (.slice p' N c')) w') : wpList Try.prog ops Q (o :: rest) a wr := by
  obtain ⟨v', w', hrun, h2, h3, h4⟩ := core_cat h o.type hC
  refine wpList_plain hgd fun K hK => ?_
  unfold Oper.wp
  simp [execOp, ho, resolve, invoke, builtin, hs, hx, hrun, Result.andThen]
  obtain ⟨p', c', hv⟩ := h2.formA
  rw [List.length_append, hN] at hv
  subst hv
  exact hK _ _ (hk p' c' w' h2 h3 h4)
/-- In an open order. -/
theorem s2_cat {ops : Array Oper} {o : Oper} {a : Act} {K : Act → World → Prop} {Q : Exit → Act → World → Prop} {E : Prop} (h : WS2 G w B gl d n v A u C wr) (hgd : o.guard = none) (s x : Operand)
    (ho : o.op = .call { callee := .builtin .append, args := #[s, x], argTypes := #[33, 33] }) (hs : a.eval s = v) (hx : a.eval x = u) (hC : A.length + C.length ≤ 1000) (N : Nat) (hN : A.length + C.length = N)
    (hk : ∀ p' c' w', WS2 G w B gl d n (.slice p' N c') (A ++ C) (.slice none 0 0) [] w' → wr.heap.size ≤ w'.heap.size → (∀ k, v.ownBlock ≠ some k → k < wr.heap.size → w'.heap[k]? = wr.heap[k]?) → K (a.put o.dst (.slice p' N c')) w') :
    if Region.wanted o (yielded ops a.tmps) = true then Oper.wp Try.prog o a wr K Q else E := by
  have hw : Region.wanted o (yielded ops a.tmps) = true := by simp [Region.wanted, hgd]
  rw [if_pos hw]
  obtain ⟨v', w', hrun, h2, h3, h4⟩ := core_cat h o.type hC
  obtain ⟨p', c', hv⟩ := h2.formA
  rw [List.length_append, hN] at hv
  have hk2 : K (a.put o.dst v') w' := by subst hv; exact hk p' c' w' h2 h3 h4
  unfold Oper.wp
  simp [execOp, ho, resolve, invoke, builtin, hs, hx, hrun, Result.andThen]
  exact hk2
theorem s2_pushA {ops : Array Oper} {o : Oper} {a : Act} {K : Act → World → Prop} {Q : Exit → Act → World → Prop} {E : Prop} (h : WS2 G w B gl d n v A u C wr) (hgd : o.guard = none) (s x : Operand)
    (ho : o.op = .call { callee := .builtin .append, args := #[s, x], argTypes := #[33, 33] }) (ys : List Int) (b : Nat) (hcell : wr.cell? ⟨b, 0, none⟩ = some (.string (strOfNums ys))) (hs : a.eval s = v) (hx : a.eval x = .slice (some ⟨b, 0, none⟩) 1 1) (hC : A.length ≤ 1000) (N : Nat) (hN : A.length + 1 = N)
    (hk : ∀ p' c' w', WS2 G w B gl d n (.slice p' N c') (A ++ [ys]) u C w' → (∀ k, v.ownBlock ≠ some k → k < wr.heap.size → w'.heap[k]? = wr.heap[k]?) → K (a.put o.dst (.slice p' N c')) w') :
    if Region.wanted o (yielded ops a.tmps) = true then Oper.wp Try.prog o a wr K Q else E := by
  have hw : Region.wanted o (yielded ops a.tmps) = true := by simp [Region.wanted, hgd]
  rw [if_pos hw]
  obtain ⟨v', w', hrun, h2, _, h4⟩ := core_pushA h o.type ys ⟨b, 0, none⟩ hcell hC
  obtain ⟨p', c', hv⟩ := h2.formA
  rw [List.length_append, List.length_singleton, hN] at hv
  have hk2 : K (a.put o.dst v') w' := by subst hv; exact hk p' c' w' h2 h4
  unfold Oper.wp
  simp [execOp, ho, resolve, invoke, builtin, hs, hx, hrun, Result.andThen]
  exact hk2
end
end Go.Proofs.Ytjbhcdmeeakdcaa
