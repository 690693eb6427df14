/- Slices of structs of one kind: each element some cells, as an encoding tells; the call's own slices of them; append. -/
import Derived.Test.YtbpfbebebppleaaMem
import Derived.Test.YtbpfbebebppleaaApp
import Derived.Lib.AppendZeros
namespace Go.Proofs.Ytbpfbebebppleaa
open Go.RowKit
/-- How an element lies in cells. -/
structure Enc (α : Type) where
  k : Nat
  E : α → List Value
  pos : 0 < k
  len : ∀ x, (E x).length = k
  one : ∀ x, ∀ u ∈ E x, u.oneCell' = true
def TRow {α : Type} (e : Enc α) (w : World) (v : Value) (xs : List α) : Prop :=
  ∃ p c, v = .slice p xs.length c ∧ xs.length ≤ c ∧ (xs = [] ∨ ∃ b o, p = some ⟨b, o, none⟩ ∧ b < w.heap.size ∧ ∀ i (h : i < xs.length) t, t < e.k → w.cell? ⟨b, o + i * e.k + t, none⟩ = (e.E xs[i])[t]?)
section
variable {α : Type} {e : Enc α}
theorem TRow.shape {w : World} {v : Value} {xs : List α} (h : TRow e w v xs) : ∃ p c, v = .slice p xs.length c := by obtain ⟨p, c, e, _⟩ := h; exact ⟨p, c, e⟩
theorem TRow.kept {w w' : World} {v : Value} {xs : List α} (h : TRow e w v xs) (hb : Below w.heap.size w w') : TRow e w' v xs := by
  obtain ⟨p, c, rfl, hc, h⟩ := h
  refine ⟨p, c, rfl, hc, ?_⟩
  rcases h with h | ⟨b, o, rfl, hlt, h⟩
  · exact .inl h
  · exact .inr ⟨b, o, rfl, Nat.lt_of_lt_of_le hlt hb.size, fun i hi t ht => (hb.cell (p := ⟨b, _, none⟩) hlt).trans (h i hi t ht)⟩
theorem TRow.nil_ (e : Enc α) (w : World) : TRow e w (.slice none 0 0) [] := ⟨none, 0, rfl, Nat.le_refl _, .inl rfl⟩
theorem TRow.cap {w : World} {p : Option Addr} {n c : Nat} {xs : List α} (h : TRow e w (.slice p n c) xs) : xs.length ≤ c := by
  obtain ⟨p', c', e1, hc, _⟩ := h
  cases e1
  exact hc
theorem TRow.at_ {w : World} {p : Option Addr} {n c : Nat} {xs : List α} (h : TRow e w (.slice p n c) xs) (i : Nat) (hi : i < xs.length) : ∃ b o, p = some ⟨b, o, none⟩ ∧ b < w.heap.size ∧ ∀ t, t < e.k → w.cell? ⟨b, o + i * e.k + t, none⟩ = (e.E xs[i])[t]? := by
  obtain ⟨p', c', e1, _, h⟩ := h
  cases e1
  rcases h with h | ⟨b, o, hp, hlt, h⟩
  · subst h; simp at hi
  · exact ⟨b, o, hp, hlt, h i hi⟩
/-- A part of it. -/
theorem TRow.take {w : World} {p : Option Addr} {n c : Nat} {xs : List α} (h : TRow e w (.slice p n c) xs) (m : Nat) (hm : m ≤ xs.length) : TRow e w (.slice p m c) (xs.take m) := by
  obtain ⟨p', c', e1, hc, h⟩ := h
  cases e1
  have hl : (xs.take m).length = m := by rw [List.length_take]; omega
  refine ⟨p, c, by rw [hl], by omega, ?_⟩
  rcases h with h | ⟨b, o, hp, hlt, h⟩
  · left; rw [h]; simp
  · refine .inr ⟨b, o, hp, hlt, fun i hi t ht => ?_⟩
    rw [List.getElem_take]
    exact h i (by omega) t ht
theorem TRow.tail {w : World} {p P : Option Addr} {n c c' N : Nat} {xs : List α} (h : TRow e w (.slice p n c) xs) (m : Nat) (hm : m ≤ xs.length) (hN : N = xs.length - m) (hc : N ≤ c') (hP : ∀ b o, p = some ⟨b, o, none⟩ → m < xs.length → P = some ⟨b, o + m * e.k, none⟩) : TRow e w (.slice P N c') (xs.drop m) := by
  have hl : (xs.drop m).length = xs.length - m := List.length_drop
  subst hN
  refine ⟨P, c', by rw [hl], by omega, ?_⟩
  by_cases hlt : m < xs.length
  · right
    obtain ⟨b, o, rfl, hb, _⟩ := h.at_ m hlt
    refine ⟨b, _, hP b o rfl hlt, hb, fun i hi t ht => ?_⟩
    obtain ⟨b2, o2, e2, _, hx⟩ := h.at_ (m + i) (by omega)
    cases e2
    rw [List.getElem_drop, show o + m * e.k + i * e.k + t = o + (m + i) * e.k + t by rw [Nat.add_mul]; omega]
    exact hx t ht
  · left
    exact List.drop_of_length_le (by omega)
def OwnT (e : Enc α) (w : World) (base : Nat) (ty : TypeId) (v : Value) (xs : List α) : Prop := w.ownsRow base ty e.k v xs.length (xs.flatMap e.E)
theorem flat_length (e : Enc α) (xs : List α) : (xs.flatMap e.E).length = xs.length * e.k := by
  induction xs with
  | nil => simp
  | cons x xs ih => rw [List.flatMap_cons, List.length_append, ih, e.len, List.length_cons, Nat.add_mul]; omega
theorem flat_get (e : Enc α) : ∀ (xs : List α) (i t : Nat) (hi : i < xs.length), t < e.k → (xs.flatMap e.E)[i * e.k + t]? = (e.E xs[i])[t]?
  | x :: xs, 0, t, _, ht => by
    rw [List.flatMap_cons, Nat.zero_mul, Nat.zero_add, List.getElem?_append_left (by rw [e.len]; exact ht)]
    rfl
  | x :: xs, i + 1, t, hi, ht => by
    have := flat_get e xs i t (by simpa using hi) ht
    rw [List.flatMap_cons, List.getElem?_append_right (by rw [e.len, Nat.add_mul]; omega), e.len, show (i + 1) * e.k + t - e.k = i * e.k + t by rw [Nat.add_mul]; omega, this]
    rfl
theorem flat_one (e : Enc α) (xs : List α) : ∀ u ∈ xs.flatMap e.E, u.oneCell' = true := by
  intro u hu
  obtain ⟨x, _, hx⟩ := List.mem_flatMap.1 hu
  exact e.one x u hx
theorem OwnT.form {w : World} {base : Nat} {ty : TypeId} {v : Value} {xs : List α} (h : OwnT e w base ty v xs) : ∃ p c, v = .slice p xs.length c := by
  obtain ⟨_, h⟩ := h
  rcases h with ⟨rfl, h0⟩ | ⟨g, cap, cur, rfl, _⟩
  · exact ⟨none, 0, by rw [h0]⟩
  · exact ⟨_, _, rfl⟩
theorem OwnT.nil_ (e : Enc α) (w : World) (base : Nat) (ty : TypeId) : OwnT e w base ty (.slice none 0 0) [] := ⟨by simp, .inl ⟨rfl, rfl⟩⟩
theorem OwnT.block_ge {w : World} {base : Nat} {ty : TypeId} {v : Value} {xs : List α} (h : OwnT e w base ty v xs) : ∀ g, v.ownBlock = some g → base ≤ g := by
  intro g hg
  rcases h.2 with ⟨rfl, _⟩ | ⟨g', cap, cur, rfl, hb, _⟩
  · cases hg
  · cases hg; exact hb
theorem OwnT.lt {w : World} {base : Nat} {ty : TypeId} {v : Value} {xs : List α} (h : OwnT e w base ty v xs) : ∀ g, v.ownBlock = some g → g < w.heap.size := fun g hg => (World.ownsRow.lt h g hg).2
theorem OwnT.stay {w w' : World} {base : Nat} {ty : TypeId} {v : Value} {xs : List α} (h : OwnT e w base ty v xs) (hk : ∀ g, v.ownBlock = some g → w'.heap[g]? = w.heap[g]?) : OwnT e w' base ty v xs := by
  refine ⟨h.1, ?_⟩
  rcases h.2 with h | ⟨g, cap, cur, rfl, hbg, hg, hr⟩
  · exact .inl h
  · exact .inr ⟨g, cap, cur, rfl, hbg, (hk g rfl).trans hg, hr⟩
theorem OwnT.later {w w' : World} {base : Nat} {ty : TypeId} {v : Value} {xs : List α} (h : OwnT e w base ty v xs) (hb : Below w.heap.size w w') : OwnT e w' base ty v xs := h.stay (fun g hg => hb.block g (h.lt g hg))
theorem OwnT.less {w : World} {base base' : Nat} {ty : TypeId} {v : Value} {xs : List α} (h : OwnT e w base ty v xs) (hb : base' ≤ base) : OwnT e w base' ty v xs := by
  refine ⟨h.1, ?_⟩
  rcases h.2 with h | ⟨g, cap, cur, rfl, hbg, hg, hr⟩
  · exact .inl h
  · exact .inr ⟨g, cap, cur, rfl, Nat.le_trans hb hbg, hg, hr⟩
theorem OwnT.row {w : World} {base : Nat} {ty : TypeId} {v : Value} {xs : List α} (h : OwnT e w base ty v xs) : TRow e w v xs := by
  obtain ⟨hl, h⟩ := h
  rcases h with ⟨rfl, h0⟩ | ⟨g, cap, cur, rfl, _, hg, hn, _, _, ht⟩
  · have : xs = [] := List.length_eq_zero_iff.mp h0
    subst this
    exact TRow.nil_ e w
  · refine ⟨_, cap, rfl, hn, .inr ⟨g, 0, rfl, lt_of_block hg, fun i hi t ht3 => ?_⟩⟩
    have hlt : i * e.k + t < xs.length * e.k := Nat.lt_of_lt_of_le (show i * e.k + t < (i + 1) * e.k by rw [Nat.add_mul]; omega) (Nat.mul_le_mul_right _ hi)
    rw [Nat.zero_add, cell_of_row w g _ cur ty (0, 0) hg]
    have h1 := congrArg (fun l => l[i * e.k + t]?) ht
    simp only [List.getElem?_take] at h1
    rw [if_pos hlt, flat_get e xs i t hi ht3] at h1
    simpa using h1
theorem TRow.newsAt {w : World} {a : Addr} {n c : Nat} {xs : List α} (h : TRow e w (.slice (some a) n c) xs) : ∀ (j : Nat) (u : Value), (xs.flatMap e.E)[j]? = some u → w.cell? (a.add j) = some u := by
  intro j u hj
  have hk := e.pos
  have hjl : j < xs.length * e.k := by
    rcases Nat.lt_or_ge j (xs.length * e.k) with h | h
    · exact h
    · rw [List.getElem?_eq_none (by rw [flat_length]; exact h)] at hj; cases hj
  have hi : j / e.k < xs.length := (Nat.div_lt_iff_lt_mul hk).2 hjl
  have hm : j % e.k < e.k := Nat.mod_lt _ hk
  obtain ⟨b, o, e1, _, hx⟩ := h.at_ (j / e.k) hi
  cases e1
  have e3 : j / e.k * e.k + j % e.k = j := by rw [Nat.mul_comm]; exact Nat.div_add_mod j e.k
  have hj2 := flat_get e xs (j / e.k) (j % e.k) hi hm
  rw [e3, hj] at hj2
  rw [addAt, hj2, ← hx _ hm, Nat.add_assoc, e3]
/-- The cells of one element, in a block. -/
theorem TRow.one_ (e : Enc α) {w : World} {b c : Nat} {cs : Array Value} {ty : TypeId} (x : α) (hB : Blk w b cs ty) (hcs : cs.toList = e.E x) (hc : 1 ≤ c) : TRow e w (.slice (some ⟨b, 0, none⟩) 1 c) [x] := by
  refine ⟨_, c, rfl, hc, .inr ⟨b, 0, rfl, hB.lt, fun i hi t ht => ?_⟩⟩
  have h0 : i = 0 := by simp at hi; exact hi
  subst h0
  rw [Nat.zero_mul, Nat.zero_add, hB.cell, ← Array.getElem?_toList, hcs]
  rfl
def EltT (e : Enc α) (P : Program) (t ty : TypeId) (z : Value) (bytes : Nat) : Prop := ∃ i, P.underlying t = some (.slice ty) ∧ P.info? ty = some i ∧ i.zero = some z ∧ i.size = e.k ∧ i.bytes = bytes
theorem eltT_mk {e : Enc α} {P : Program} {t ty : TypeId} {z : Value} {bytes : Nat} (ht : P.underlying t = some (.slice ty)) (h : (P.info? ty).map (fun i => (i.zero, i.size, i.bytes)) = some (some z, e.k, bytes)) : EltT e P t ty z bytes := by
  cases hi : P.info? ty with
  | none => rw [hi] at h; cases h
  | some i =>
    rw [hi] at h
    simp only [Option.map_some, Option.some.injEq, Prod.mk.injEq] at h
    exact ⟨i, ht, hi, h.1, h.2.1, h.2.2⟩
theorem run_append_t {P : Program} (w : World) (t r ty : TypeId) (z : Value) (bytes base : Nat) (he : EltT e P t ty z bytes) (hzs : z.cells.size = e.k) (hb8 : bytes ≤ 1000) (v y : Value) (xs ys : List α) (hown : OwnT e w base ty v xs) (hrow : TRow e w y ys)
    (h63 : xs.length + ys.length ≤ 1000000) (hbase : base ≤ w.heap.size) :
    ∃ v' w', (Builtin.append_ #[t, t] r #[v, y]).run P w = .ok v' w' ∧ OwnT e w' base ty v' (xs ++ ys) ∧ w.grownBy w' v.ownBlock ∧ (v'.ownBlock = v.ownBlock ∨ v'.ownBlock = some w.heap.size) := by
  obtain ⟨i, ht, hi, hz, hs, hby⟩ := he
  obtain ⟨p, c, rfl, hc, hr⟩ := id hrow
  have hbytes : (xs.length + ys.length) * bytes ≤ 140737488355328 := by
    have : (xs.length + ys.length) * bytes ≤ 1000000 * 1000 := Nat.mul_le_mul h63 hb8
    omega
  cases p with
  | some ad =>
    obtain ⟨v', w', hrun, hown', hg, _, hor⟩ := run_append_own_at (P := P) w base t r ty i z e.k bytes ht hi hz hs hby hzs e.pos v xs.length (xs.flatMap e.E) hown ad ys.length c (ys.flatMap e.E) (flat_length e ys) hrow.newsAt (flat_one e ys) (by unfold maxLen; omega) hbytes hbase
    refine ⟨v', w', hrun, ?_, hg, hor⟩
    unfold OwnT
    rw [List.flatMap_append, List.length_append]
    exact hown'
  | none =>
    have hy : ys = [] := by
      rcases hr with h | ⟨b, o, h, _⟩
      · exact h
      · cases h
    subst hy
    refine ⟨v, w, ?_, by simpa using hown, World.grownBy.refl _ _, .inl rfl⟩
    rcases hown.2 with ⟨rfl, h0⟩ | ⟨g, cap, cur, rfl, _, _, hnc, _⟩
    · simp [Builtin.append_, run_underlying ht, sizeOf, typeInfo, hi, Builtin.lenOf, Builtin.firstCells]
    · simp [Builtin.append_, run_underlying ht, sizeOf, typeInfo, hi, Builtin.lenOf, Builtin.firstCells, hnc, storeCells]
/-- In a plain region. -/
theorem wpList_append_t {P : Program} {w : World} {ops : Array Oper} {rest : List Oper} {o : Oper} {a : Act} {Q : Exit → Act → World → Prop} (hgd : o.guard = none) (s x : Operand) (t : TypeId)
    (ho : o.op = .call { callee := .builtin .append, args := #[s, x], argTypes := #[t, t] })
    (ty : TypeId) (z : Value) (bytes base : Nat) (he : EltT e P t ty z bytes) (hzs : z.cells.size = e.k) (hb8 : bytes ≤ 1000) (v y : Value) (xs ys : List α) (hs : a.eval s = v) (hx : a.eval x = y) (hown : OwnT e w base ty v xs) (hrow : TRow e w y ys)
    (h63 : xs.length + ys.length ≤ 1000000) (hbase : base ≤ w.heap.size) (L : List α) (N : Nat) (hL : xs ++ ys = L) (hN : L.length = N)
    (h : ∀ p' c' w', OwnT e w' base ty (.slice p' N c') L → w.grownBy w' v.ownBlock → Below base w w' → wpList P ops Q rest (a.put o.dst (.slice p' N c')) w') : wpList P ops Q (o :: rest) a w := by
  subst hL
  subst hN
  refine wpList_plain hgd fun K hK => ?_
  obtain ⟨v', w', hrun, h1, h2, _⟩ := run_append_t w t o.type ty z bytes base he hzs hb8 v y xs ys hown hrow h63 hbase
  unfold Oper.wp
  obtain ⟨p', c', rfl⟩ := h1.form
  simp [execOp, ho, resolve, invoke, builtin, hs, hx, hrun, Result.andThen]
  exact hK _ _ (by simpa using h p' c' w' h1 h2 ((Below.refl _ _).grown h2 hbase (fun g hg' => hown.block_ge g hg')))
/-- Slices in a slice: each the address of a row. -/
def RowsT (e : Enc α) (w : World) (b o : Nat) (vs : List Value) (xss : List (List α)) : Prop :=
  vs.length = xss.length ∧ ∀ i, i < xss.length → w.cell? ⟨b, o + i, none⟩ = some (vs.getD i undef) ∧ TRow e w (vs.getD i undef) (xss.getD i [])
theorem RowsT.two {w : World} {b : Nat} {cs : Array Value} {ty : TypeId} {v1 v2 : Value} {x1 x2 : List α} (hB : Blk w b cs ty) (hcs : cs = #[v1, v2]) (h1 : TRow e w v1 x1) (h2 : TRow e w v2 x2) : RowsT e w b 0 [v1, v2] [x1, x2] := by
  subst hcs
  refine ⟨rfl, fun i hi => ?_⟩
  match i, hi with
  | 0, _ => exact ⟨hB.cell 0, h1⟩
  | 1, _ => exact ⟨hB.cell 1, h2⟩
theorem RowsT.three {w : World} {b : Nat} {cs : Array Value} {ty : TypeId} {v1 v2 v3 : Value} {x1 x2 x3 : List α} (hB : Blk w b cs ty) (hcs : cs = #[v1, v2, v3]) (h1 : TRow e w v1 x1) (h2 : TRow e w v2 x2) (h3 : TRow e w v3 x3) : RowsT e w b 0 [v1, v2, v3] [x1, x2, x3] := by
  subst hcs
  refine ⟨rfl, fun i hi => ?_⟩
  match i, hi with
  | 0, _ => exact ⟨hB.cell 0, h1⟩
  | 1, _ => exact ⟨hB.cell 1, h2⟩
  | 2, _ => exact ⟨hB.cell 2, h3⟩
def catT (xss : List (List α)) (k : Nat) : List α := (xss.take k).flatten
theorem catT_succ (xss : List (List α)) (k : Nat) (h : k < xss.length) : catT xss k ++ xss.getD k [] = catT xss (k + 1) := by
  unfold catT
  rw [List.take_succ_eq_append_getElem h, List.flatten_append, List.getD_eq_getElem?_getD, List.getElem?_eq_getElem h]; simp
theorem catT_len (xss : List (List α)) (k : Nat) (h : k < xss.length) : (catT xss (k + 1)).length = (catT xss k).length + (xss.getD k []).length := by rw [← catT_succ xss k h, List.length_append]
theorem catT_le (xss : List (List α)) (k : Nat) : (catT xss k).length ≤ xss.flatten.length := by
  unfold catT
  have : xss.flatten = (xss.take k).flatten ++ (xss.drop k).flatten := by rw [← List.flatten_append, List.take_append_drop]
  rw [this, List.length_append]; omega
def CatRelT (e : Enc α) (ty : TypeId) (w : World) (xss : List (List α)) (k : Nat) (v : Value) (wr : World) : Prop := OwnT e wr w.heap.size ty v (catT xss k) ∧ Below w.heap.size w wr
end
end Go.Proofs.Ytbpfbebebppleaa
