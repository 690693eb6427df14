/- slices.Delete of one of a slice of addresses by contract. -/
import Derived.Test.YtfdehnfcoojljaaNetData
import Derived.Deep.AppendSrc
namespace Go.Proofs.Ytfdehnfcoojljaa
open Go.RowKit
set_option linter.unusedSimpArgs false
theorem flatA (xs : List Nat) : xs.flatMap encA.E = xs.map (fun b => Value.pointer (some ⟨b, 0, none⟩)) := by
  induction xs with
  | nil => rfl
  | cons x xs ih => rw [List.flatMap_cons, ih]; rfl
/-- One is taken out: what stands behind it moves on, the last place is written with anything. -/
theorem OwnT.del {w : World} {base n c g : Nat} {ty : TypeId} {aa : List Nat} (h : OwnT encA w base ty (.slice (some ⟨g, 0, none⟩) n c) aa) (i : Nat) (hi : i < n) (vs : List Value) : OwnT encA ((w.setCells g i ((aa.drop (i + 1)).flatMap encA.E)).setCells g (n - 1) vs) base ty (.slice (some ⟨g, 0, none⟩) (n - 1) c) (aa.eraseIdx i) := by
  obtain ⟨g', cur, e1, hb, hg, hnc, hm, hs, ht, hl⟩ := h.lies (by omega)
  cases e1
  have hk : encA.k = 1 := rfl
  rw [hk, Nat.mul_one] at hs ht
  rw [flatA] at ht
  have hdl : ((aa.drop (i + 1)).flatMap encA.E).length = n - (i + 1) := by rw [flatA, List.length_map, List.length_drop, hl]
  obtain ⟨Z1, z1, z2, z3⟩ := blk_put ((aa.drop (i + 1)).flatMap encA.E) i cur w hg
  obtain ⟨Z2, y1, y2, y3⟩ := blk_put vs (n - 1) Z1 _ z1
  refine OwnT.mk' (by rw [List.length_eraseIdx, if_pos (by omega)]; omega) hb y1 (by omega) hm (by rw [y2, z2, hs, hk, Nat.mul_one]) ?_
  rw [hk, Nat.mul_one, flatA]
  apply List.ext_getElem?
  intro j
  rw [List.getElem?_take]
  by_cases hj : j < n - 1
  · rw [if_pos hj, Array.getElem?_toList, (y3 j).1 (.inl hj), List.getElem?_map, List.getElem?_eraseIdx]
    have hcur : ∀ q, q < n → cur[q]? = (aa[q]?).map (fun b => Value.pointer (some ⟨b, 0, none⟩)) := by
      intro q hq
      have h1 := congrArg (fun l => l[q]?) ht
      simp only [List.getElem?_take] at h1
      rw [if_pos hq, Array.getElem?_toList, List.getElem?_map] at h1
      exact h1
    by_cases hji : j < i
    · rw [if_pos hji, (z3 j).1 (.inl hji)]
      exact hcur j (by omega)
    · rw [if_neg hji, (z3 j).2 (by omega) (by rw [hdl]; omega) (by rw [hs]; omega), flatA, List.getElem?_map, List.getElem?_drop, show i + 1 + (j - i) = j + 1 by omega]
  · rw [if_neg hj]
    symm
    apply List.getElem?_eq_none
    rw [List.length_map, List.length_eraseIdx, if_pos (by omega)]
    omega
theorem infoA : ∃ i, Try.prog.info? 55 = some i ∧ i.zero = some (.pointer none) ∧ i.size = 1 ∧ i.bytes = 8 := by
  obtain ⟨i, _, h1, h2, h3, h4⟩ := eltA
  exact ⟨i, h1, h2, h3, h4⟩
theorem zeroA_run (w : World) : (zeroValue 55).run Try.prog w = .ok (.pointer none) w := by
  obtain ⟨i, hi, hz, _⟩ := infoA
  simp [zeroValue, typeInfo, hi, hz]
/-- An append that has room, of a part of the slice's own block. -/
theorem wpList_append_in {P : Program} {w : World} {ops : Array Oper} {rest : List Oper} {o : Oper} {a : Act} {Q : Exit → Act → World → Prop} (hgd : o.guard = none) (s x : Operand) (t : TypeId)
    (ho : o.op = .call { callee := .builtin .append, args := #[s, x], argTypes := #[t, t] }) (e : TypeId) (i : TypeInfo) (ht : P.underlying t = some (.slice e)) (hi : P.info? e = some i) (b sLen sCap : Nat) (A : Addr) (n c : Nat) (news : List Value)
    (hs : a.eval s = .slice (some ⟨b, 0, none⟩) sLen sCap) (hx : a.eval x = .slice (some A) n c) (hl : news.length = n * i.size) (hnews : ∀ j u, news[j]? = some u → w.cell? (A.add j) = some u) (h1 : ∀ u ∈ news, u.oneCell' = true)
    (hroom : sLen + n ≤ sCap) (hth : w.there b (sLen * i.size) news.length)
    (h : wpList P ops Q rest (a.put o.dst (.slice (some ⟨b, 0, none⟩) (sLen + n) sCap)) (w.setCells b (sLen * i.size) news)) : wpList P ops Q (o :: rest) a w := by
  refine wpList_plain hgd fun K hK => ?_
  have hrun := run_append_room_src (P := P) w t t o.type e i ht hi b 0 sLen sCap (.slice (some A) n c) n news (Src.ofSlice w ht A n c news hl hnews h1) hroom (fun j hj => by rw [Nat.zero_add]; exact (hth j hj).1) (fun j hj => by rw [Nat.zero_add]; exact (hth j hj).2)
  unfold Oper.wp
  rw [Nat.zero_add] at hrun
  simp [execOp, ho, resolve, invoke, builtin, hs, hx, hrun, Result.andThen]
  exact hK _ _ h
/-- The same where the order is open. -/
theorem step_append_in {P : Program} {w : World} {ops : Array Oper} {o : Oper} {a : Act} {K : Act → World → Prop} {Q : Exit → Act → World → Prop} {E : Prop} (hgd : o.guard = none) (s x : Operand) (t : TypeId)
    (ho : o.op = .call { callee := .builtin .append, args := #[s, x], argTypes := #[t, t] }) (e : TypeId) (i : TypeInfo) (ht : P.underlying t = some (.slice e)) (hi : P.info? e = some i) (b sLen sCap : Nat) (A : Addr) (n c : Nat) (news : List Value)
    (hs : a.eval s = .slice (some ⟨b, 0, none⟩) sLen sCap) (hx : a.eval x = .slice (some A) n c) (hl : news.length = n * i.size) (hnews : ∀ j u, news[j]? = some u → w.cell? (A.add j) = some u) (h1 : ∀ u ∈ news, u.oneCell' = true)
    (hroom : sLen + n ≤ sCap) (hth : w.there b (sLen * i.size) news.length)
    (h : K (a.put o.dst (.slice (some ⟨b, 0, none⟩) (sLen + n) sCap)) (w.setCells b (sLen * i.size) news)) :
    if Region.wanted o (yielded ops a.tmps) = true then Oper.wp P o a w K Q else E := by
  have hw : Region.wanted o (yielded ops a.tmps) = true := by simp [Region.wanted, hgd]
  rw [if_pos hw]
  have hrun := run_append_room_src (P := P) w t t o.type e i ht hi b 0 sLen sCap (.slice (some A) n c) n news (Src.ofSlice w ht A n c news hl hnews h1) hroom (fun j hj => by rw [Nat.zero_add]; exact (hth j hj).1) (fun j hj => by rw [Nat.zero_add]; exact (hth j hj).2)
  unfold Oper.wp
  rw [Nat.zero_add] at hrun
  simp [execOp, ho, resolve, invoke, builtin, hs, hx, hrun, Result.andThen]
  exact h
/-- An append onto the call's own slice of structs, where the order is open. -/
theorem step_append_tg {α : Type} {enc : Enc α} {P : Program} {w : World} {ops : Array Oper} {o : Oper} {a : Act} {K : Act → World → Prop} {Q : Exit → Act → World → Prop} {E : Prop} (hgd : o.guard = none) (s x : Operand) (t : TypeId)
    (ho : o.op = .call { callee := .builtin .append, args := #[s, x], argTypes := #[t, t] })
    (ty : TypeId) (z : Value) (bytes base : Nat) (he : EltT enc P t ty z bytes) (hzs : z.cells.size = enc.k) (v y : Value) (xs ys : List α) (hs : a.eval s = v) (hx : a.eval x = y) (hown : OwnT enc w base ty v xs) (hrow : TRow enc w y ys)
    (h63 : xs.length + ys.length ≤ 140737488355328) (hbytes : (xs.length + ys.length) * bytes ≤ 140737488355328) (hbase : base ≤ w.heap.size) (L : List α) (N : Nat) (hL : xs ++ ys = L) (hN : L.length = N)
    (h : ∀ p' c' w', OwnT enc w' base ty (.slice p' N c') L → w.grownBy w' v.ownBlock → ((Value.slice p' N c').ownBlock = v.ownBlock ∨ (Value.slice p' N c').ownBlock = some w.heap.size) → Below base w w' → K (a.put o.dst (.slice p' N c')) w') :
    if Region.wanted o (yielded ops a.tmps) = true then Oper.wp P o a w K Q else E := by
  subst hL
  subst hN
  have hw : Region.wanted o (yielded ops a.tmps) = true := by simp [Region.wanted, hgd]
  rw [if_pos hw]
  obtain ⟨v', w', hrun, h1, h2, h3⟩ := run_append_tb w t o.type ty z bytes base he hzs v y xs ys hown hrow h63 hbytes hbase
  unfold Oper.wp
  obtain ⟨p', c', rfl⟩ := h1.form
  simp [execOp, ho, resolve, invoke, builtin, hs, hx, hrun, Result.andThen]
  have key := h p' c' w' h1 h2 h3 ((Below.refl _ _).grown h2 hbase (fun g hg' => hown.block_ge g hg'))
  rw [List.length_append] at key
  exact key
end Go.Proofs.Ytfdehnfcoojljaa
