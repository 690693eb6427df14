/- A law's state: its log renewed; one string more where an operation is guarded. -/
import Derived.Test.YtjbhcdmeeakdcaaWalState
import Derived.BigFrame
namespace Go.Proofs.Ytjbhcdmeeakdcaa
open Go.RowKit
theorem recsL_leq {dss : List (List Int)} {m : Nat} (h : ∀ d ∈ dss, d.length ≤ m) : (recsL dss).length ≤ (8 + m) * dss.length := by
  induction dss with
  | nil => simp [recsL]
  | cons d ds ih =>
    have i := ih (fun x hx => h x (by simp [hx]))
    have h1 := h d (by simp)
    rw [recsL_cons, List.length_append, recL_length, List.length_cons, Nat.mul_succ]
    omega
theorem ws_renew {w wr : World} {B gl n : Nat} {d : DSt} {v : Value} {ess : List (List Int)} (h : WS w B gl d n v ess wr) (u : Value) (dss : List (List Int)) (ho : ∀ d ∈ dss, Oct d) (hm : dss.length ≤ 1000) (hbig : ∀ d ∈ dss, d.length ≤ 100000000) (hr : RowSS wr u dss) :
    Calls Try.prog 17 #[.pointer (some ⟨gl, 0, none⟩), u] wr fun x w' => x = .returned (.int .i64 (renLE d dss)) ∧ WS w B gl (renLD d dss) (if renewLE d dss = 0 then dss.length else n) v ess w' := by
  obtain ⟨h1, h2, h3, P, p1, p2, p3, p4, p5⟩ := h
  refine (wrenew_any P wr B B gl n d u dss p2 p1 p3 h2 ho hm hbig hr).mono ?_
  rintro x w' ⟨e1, e2, e3, e4⟩
  exact ⟨e1, h1, h2, h3.trans (e4.1.mono h1), P, p1, e2, e3, p4.belowP p5 e4, p5⟩
theorem WS.vlt {w wr : World} {B gl n : Nat} {d : DSt} {v : Value} {ess : List (List Int)} (h : WS w B gl d n v ess wr) : ∀ g, v.ownBlock = some g → g < wr.heap.size := by
  obtain ⟨h1, h2, h3, P, p1, p2, p3, p4, p5⟩ := h
  exact p4.lt
theorem wpList_append_valW {P : Program} {w : World} {ops : Array Oper} {rest : List Oper} {o : Oper} {a : Act} {Q : Exit → Act → World → Prop} (hw : Region.wanted o (yielded ops a.tmps) = true) (s x : Operand) (t : TypeId)
    (ho : o.op = .call { callee := .builtin .append, args := #[s, x], argTypes := #[t, t] })
    (e e2 : TypeId) (z : Value) (bytes base : Nat) (he : EltV P t e z bytes) (hz1 : z.cells.size = 1) (hb8 : bytes ≤ 64) (v : Value) (vs : List Value) (u : Value) (hu : u.oneCell' = true) (b : Nat) (hb : b = w.heap.size) (hs : a.eval s = v) (hx : a.eval x = .slice (some ⟨b, 0, none⟩) 1 1) (hown : OwnV w base e v vs)
    (h63 : vs.length ≤ 1000000) (hbase : base ≤ w.heap.size)
    (h : ∀ v' w', OwnV w' base e v' (vs ++ [u]) → (w.alloc (.cells #[u] e2)).grownBy w' v.ownBlock → (v'.ownBlock = v.ownBlock ∨ v'.ownBlock = some (w.heap.size + 1)) → Below base w w' → wpList P ops Q rest (a.put o.dst v') w') :
    wpList P ops Q (o :: rest) a (w.alloc (.cells #[u] e2)) := by
  subst hb
  refine BigFrame.wpList_want hw fun K hK => ?_
  obtain ⟨v', w', hrun, h1, h2, h3⟩ := run_append_val (P := P) (w.alloc (.cells #[u] e2)) t o.type e z bytes base he hz1 hb8 v vs u hu ⟨w.heap.size, 0, none⟩ (Blk.new w #[u] e2 |>.cell 0) (hown.alloc _) h63 (by simp; omega)
  unfold Oper.wp
  simp [execOp, ho, resolve, invoke, builtin, hs, hx, hrun, Result.andThen]
  refine hK _ _ (h v' w' h1 h2 ?_ (((Below.refl _ _).alloc hbase _).grown h2 (by simp; omega) (fun g hg' => hown.block_ge g hg')))
  rcases h3 with h3 | h3
  · exact .inl h3
  · exact .inr (by rw [h3]; simp)
/-- One string more, in an operation that is wanted. -/
theorem ws_appendW {ops : Array Oper} {rest : List Oper} {o : Oper} {a : Act} {Q : Exit → Act → World → Prop} {w wr : World} {B gl n : Nat} {d : DSt} {v : Value} {ess : List (List Int)} (h : WS w B gl d n v ess wr) (hgd : Region.wanted o (yielded ops a.tmps) = true) (s x : Operand)
    (ho : o.op = .call { callee := .builtin .append, args := #[s, x], argTypes := #[33, 33] }) (ys : List Int) (st : ByteArray) (hst : strOfNums ys = st) (b : Nat) (hb : b = wr.heap.size) (hs : a.eval s = v) (hx : a.eval x = .slice (some ⟨b, 0, none⟩) 1 1) (h63 : ess.length ≤ 1000000) (N : Nat) (hN : ess.length + 1 = N)
    (hk : ∀ p' c' w', WS w B gl d n (.slice p' N c') (ess ++ [ys]) w' → wr.heap.size ≤ w'.heap.size → (∀ k, v.ownBlock ≠ some k → k < wr.heap.size → w'.heap[k]? = wr.heap[k]?) → wpList Try.prog ops Q rest (a.put o.dst (.slice p' N c')) w') : wpList Try.prog ops Q (o :: rest) a (wr.alloc (.cells #[.string st] 9)) := by
  subst hst
  obtain ⟨h1, h2, h3, P, p1, p2, p3, p4, p5⟩ := h
  have hBw : B ≤ wr.heap.size := Nat.le_of_lt p2.dk.lt
  refine wpList_append_valW hgd s x 33 ho 9 9 (.string ⟨#[]⟩) 16 B eltStrW rfl (by decide) v (ess.map strS) (.string (strOfNums ys)) rfl b hb hs hx p4 (by rw [List.length_map]; exact h63) hBw ?_
  intro v' w' ho' hg' hor' hb'
  have hlen : (ess.map strS ++ [Value.string (strOfNums ys)]).length = N := by rw [List.length_append, List.length_map, ← hN]; rfl
  have hv : ∃ p' c', v' = .slice p' N c' := by
    obtain ⟨p', c', e⟩ := ho'.form
    rw [hlen] at e
    exact ⟨p', c', e⟩
  obtain ⟨p', c', rfl⟩ := hv
  have hvl := p4.lt
  have hs' : (wr.alloc (.cells #[.string (strOfNums ys)] 9)).heap.size ≤ w'.heap.size := ((Below.refl 0 _).grown hg' (Nat.zero_le _) (fun _ _ => Nat.zero_le _)).size
  have hD := (p2.kept (oneB wr (.cells #[.string (strOfNums ys)] 9))).grown hg' (fun k hk => (p5 k hk).1) hs'
  have hL : LogB w' gl B n := (hg'.block gl (by have := p3.lt; simp; omega) (fun e => (p5 gl e.symm).2 rfl)).trans (p3.kept (oneB wr _))
  refine hk p' c' w' ⟨h1, h2, h3.trans (hb'.mono h1), _, .inl p1, hD, hL, ?_, ?_⟩ (Nat.le_trans (oneB wr _).size hs') (fun k hv hl => (hg'.block k (by simp; omega) (fun e => hv e.symm)).trans ((oneB wr _).block k hl))
  · rw [List.map_append]; exact ho'
  · intro g hg
    rcases hor' with e | e
    · rw [e] at hg
      exact ⟨.inl (p5 g hg).1, (p5 g hg).2⟩
    · rw [e] at hg
      cases hg
      have hgl := p3.lt
      have hlt := ho'.lt (wr.heap.size + 1) e
      exact ⟨.inr ⟨by simp, hlt⟩, by omega⟩
end Go.Proofs.Ytjbhcdmeeakdcaa
