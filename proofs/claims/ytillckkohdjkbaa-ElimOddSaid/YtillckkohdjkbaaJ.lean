/- One item more at one of two books: what they then say of each other. Maps keyed by an item's name. Items read: with the ranges of their names. From what a reading tells of an item by value, of an item's ID, and of a slice of pairs of numbers, to numbers. ElimOdd: the walk. -/
import Derived.Test.YtillckkohdjkbaaTwo
import Derived.Test.YtillckkohdjkbaaItemPure
import Derived.Test.YtillckkohdjkbaaChg
import Derived.Maps.OwnSet
import Derived.DeepKeys4
import Derived.WalkArith
import Derived.Test.YtillckkohdjkbaaLiftT
import Derived.Test.YtillckkohdjkbaaBookCmp
import Derived.Test.YtillckkohdjkbaaLift8
import Derived.ChangeSlices
import Derived.ChangeArms
import Derived.Deep.SlicePairs
import Derived.Deep.CutBlock
namespace Go.Proofs.Ytillckkohdjkbaa
open Go.RowKit
def ltL (x : Itm) (X : List Itm) : List Itm := X.filter (fun z => decide (ordP (posI z) (posI x) < 0))
def gtL (x : Itm) (X : List Itm) : List Itm := X.filter (fun z => decide (0 < ordP (posI z) (posI x)))
def Apart (x : Itm) (X : List Itm) : Prop := ∀ z ∈ X, ordP (posI z) (posI x) ≠ 0
theorem ordP_flip {p q r : Pos} (h1 : 0 < ordP p r) (h2 : ordP p q < 0) : 0 < ordP q r := by
  rw [ordP_lt] at h2
  rw [ordP_gt] at h1 ⊢
  omega
/-- Nothing of its name among them: those ahead and those behind are all. -/
theorem lt_gt {x : Itm} : ∀ {X : List Itm}, SortedP (X.map posI) → Apart x X → ltL x X ++ gtL x X = X
  | [], _, _ => rfl
  | z :: X, hs, ha => by
    have hs' : SortedP (X.map posI) := (List.pairwise_cons.1 hs).2
    have hz := (List.pairwise_cons.1 hs).1
    have ih := lt_gt (x := x) hs' (fun y hy => ha y (by simp [hy]))
    have h0 := ha z (by simp)
    unfold ltL gtL at *
    rw [List.filter_cons, List.filter_cons]
    by_cases h1 : ordP (posI z) (posI x) < 0
    · rw [if_pos (by simpa using h1), if_neg (by simp; omega), List.cons_append, ih]
    · have h2 : 0 < ordP (posI z) (posI x) := by omega
      rw [if_neg (by simpa using h1), if_pos (by simpa using h2)]
      have e : X.filter (fun z => decide (ordP (posI z) (posI x) < 0)) = [] := by
        rw [List.filter_eq_nil_iff]
        intro y hy
        have h3 := ordP_flip h2 (hz (posI y) (List.mem_map_of_mem hy))
        simp
        omega
      have e2 : X.filter (fun z => decide (0 < ordP (posI z) (posI x))) = X := by
        rw [e, List.nil_append] at ih
        exact ih
      rw [e, e2, List.nil_append]
theorem ins_parts (X : List Itm) (x : Itm) : insX X x = ltL x X ++ [x] ++ gtL x X := rfl
theorem filter_swap (p q : Itm → Bool) (X : List Itm) : (X.filter q).filter p = (X.filter p).filter q := by
  rw [List.filter_filter, List.filter_filter]
  exact List.filter_congr (fun z _ => by rw [Bool.and_comm])
theorem ins_filter (p : Itm → Bool) (X : List Itm) (x : Itm) : (insX X x).filter p = ltL x (X.filter p) ++ (if p x then [x] else []) ++ gtL x (X.filter p) := by
  rw [ins_parts, List.filter_append, List.filter_append]
  unfold ltL gtL
  rw [filter_swap, filter_swap p _ X]
  congr 2
  cases h : p x <;> simp [h]
theorem sorted_filter {X : List Itm} (p : Itm → Bool) (h : SortedP (X.map posI)) : SortedP ((X.filter p).map posI) := List.Pairwise.sublist ((List.filter_sublist).map posI) h
theorem apart_filter {x : Itm} {X : List Itm} (p : Itm → Bool) (h : Apart x X) : Apart x (X.filter p) := fun z hz => h z (List.mem_filter.1 hz).1
/-- What a book has of one kind, one item more (of no name that is there): as it was, or with that item. -/
theorem put_filter {me : Int} {p : Itm → Bool} {X : List Itm} {x : Itm} (hs : SortedP (X.map posI)) (ha : Apart x X) (hp : p x = true → chkI x = 0 → (x.s = me ∨ x.b = me)) : (putX me X x).filter p = if p x ∧ chkI x = 0 then ltL x (X.filter p) ++ [x] ++ gtL x (X.filter p) else X.filter p := by
  unfold putX
  by_cases h1 : chkI x = 0 ∧ (x.s = me ∨ x.b = me)
  · rw [if_pos h1, ins_filter]
    by_cases h2 : p x = true
    · rw [if_pos h2, if_pos ⟨h2, h1.1⟩]
    · rw [if_neg h2, if_neg (fun h => h2 h.1), List.append_nil]
      exact lt_gt (sorted_filter p hs) (apart_filter p ha)
  · rw [if_neg h1, if_neg (fun h => h1 ⟨h.2, hp h.1 h.2⟩)]
theorem fold_mem {me : Int} : ∀ {l X : List Itm} {z : Itm}, z ∈ foldX me X l → z ∈ X ∨ z ∈ l
  | [], _, _, h => .inl h
  | x :: l, X, z, h => by
    have h : z ∈ foldX me (putX me X x) l := h
    rcases fold_mem h with h1 | h1
    · unfold putX at h1
      split at h1
      · rcases ins_mem h1 with rfl | h2
        · exact .inr (by simp)
        · exact .inl h2
      · exact .inl h1
    · exact .inr (by simp [h1])
/-- No two of the items have one name. -/
def Names (l : List Itm) : Prop := l.Pairwise (fun x y => ordP (posI x) (posI y) ≠ 0)
theorem ord_sym {x y : Itm} (h : ordP (posI x) (posI y) ≠ 0) : ordP (posI y) (posI x) ≠ 0 := by
  intro e
  rw [ordP_eq] at e
  exact h (ordP_eq.2 ⟨e.1.symm, e.2.symm⟩)
/-- Two books that are filled from one list: of one kind that both take, they have the same. -/
theorem fold_same {m1 m2 : Int} {p : Itm → Bool} (hp1 : ∀ x, p x = true → (x.s = m1 ∨ x.b = m1)) (hp2 : ∀ x, p x = true → (x.s = m2 ∨ x.b = m2)) :
    ∀ (l X Y : List Itm), GoodB m1 X → GoodB m2 Y → Names l → (∀ x ∈ l, Apart x X ∧ Apart x Y) → X.filter p = Y.filter p → (foldX m1 X l).filter p = (foldX m2 Y l).filter p
  | [], _, _, _, _, _, _, h => h
  | x :: l, X, Y, hX, hY, hn, ha, h => by
    obtain ⟨n1, n2⟩ := List.pairwise_cons.1 hn
    have a0 := ha x (by simp)
    show (foldX m1 (putX m1 X x) l).filter p = (foldX m2 (putX m2 Y x) l).filter p
    refine fold_same hp1 hp2 l _ _ (putX_good hX) (putX_good hY) n2 (fun y hy => ?_) ?_
    · have a1 := ha y (by simp [hy])
      have one : ∀ {me : Int} {Z : List Itm}, Apart y Z → Apart y (putX me Z x) := fun {me Z} hz u hu => by
        unfold putX at hu
        split at hu
        · rcases ins_mem hu with rfl | hu
          · exact n1 y hy
          · exact hz u hu
        · exact hz u hu
      exact ⟨one a1.1, one a1.2⟩
    · rw [put_filter hX.1 a0.1 (fun h _ => hp1 x h), put_filter hY.1 a0.2 (fun h _ => hp2 x h), h]
theorem sold_parties {s b c : Int} {x : Itm} (h : soldB s b c x = true) : x.s = s ∧ x.b = b := by
  unfold soldB at h
  simp at h
  omega
theorem amtS_app (A B : List Itm) : amtS (A ++ B) = amtS A + amtS B := by unfold amtS; rw [List.map_append, List.sum_append]
/-- All of ElimOdd, by numbers. -/
theorem odd_pure {la : List Itm} {x : Itm} (hn : Names la) (hx : Apart x la) (hs : x.s = 0) (hb : x.b = 1) (ht : x.t = 3) (hc : chkI x = 0) (V W : List Itm) (hV : V = foldX 0 [] la) (hW : W = foldX 1 [] la) :
    (alikeB 0 1 x.c (putX 0 V x) W = false ∧ amtS (soldL 0 1 x.c (putX 0 V x)) = amtS (soldL 0 1 x.c W) + x.a) ∧ soldL 0 1 x.c (putX 0 V x) = soldL 0 1 x.c (putX 1 W x) := by
  have gV : GoodB 0 V := hV ▸ foldX_good (goodB_nil 0)
  have gW : GoodB 1 W := hW ▸ foldX_good (goodB_nil 1)
  have p1 : ∀ y : Itm, soldB 0 1 x.c y = true → (y.s = 0 ∨ y.b = 0) := fun y h => .inl (sold_parties h).1
  have p2 : ∀ y : Itm, soldB 0 1 x.c y = true → (y.s = 1 ∨ y.b = 1) := fun y h => .inr (sold_parties h).2
  have hVW : V.filter (soldB 0 1 x.c) = W.filter (soldB 0 1 x.c) := by
    rw [hV, hW]
    exact fold_same p1 p2 la [] [] (goodB_nil 0) (goodB_nil 1) hn (fun _ _ => ⟨(fun _ h => by cases h), (fun _ h => by cases h)⟩) rfl
  have aV : Apart x V := fun z hz => by
    rw [hV] at hz
    rcases fold_mem hz with h | h
    · cases h
    · exact hx z h
  have aW : Apart x W := fun z hz => by
    rw [hW] at hz
    rcases fold_mem hz with h | h
    · cases h
    · exact hx z h
  have hpx : soldB 0 1 x.c x = true := by unfold soldB; simp [hs, hb, ht]
  have e1 := put_filter (me := 0) (p := soldB 0 1 x.c) gV.1 aV (fun h _ => p1 x h)
  have e2 := put_filter (me := 1) (p := soldB 0 1 x.c) gW.1 aW (fun h _ => p2 x h)
  rw [if_pos ⟨hpx, hc⟩] at e1 e2
  have e3 := lt_gt (x := x) (sorted_filter (soldB 0 1 x.c) gW.1) (apart_filter (soldB 0 1 x.c) aW)
  have s1 : soldL 0 1 x.c (putX 0 V x) = (ltL x (W.filter (soldB 0 1 x.c))).map unC ++ [unC x] ++ (gtL x (W.filter (soldB 0 1 x.c))).map unC := by
    unfold soldL
    rw [e1, hVW]
    simp
  have s2 : soldL 0 1 x.c W = (ltL x (W.filter (soldB 0 1 x.c))).map unC ++ (gtL x (W.filter (soldB 0 1 x.c))).map unC := by
    unfold soldL
    rw [← List.map_append, e3]
  refine ⟨⟨?_, ?_⟩, ?_⟩
  · unfold alikeB
    rw [decide_eq_false_iff_not]
    intro h
    have := congrArg List.length h
    rw [s1, s2] at this
    simp at this
  · rw [s1, s2]
    simp only [amtS_app]
    show _ + amtS [unC x] + _ = _
    have : amtS [unC x] = x.a := by unfold amtS unC; simp
    omega
  · unfold soldL
    rw [e1, e2, hVW]
end Go.Proofs.Ytillckkohdjkbaa
namespace Go.Proofs.Ytillckkohdjkbaa
open Go.RowKit Go.Maps
set_option linter.unusedSimpArgs false
theorem nmLaid : laidOutB Try.prog = true := by kernel_rfl
theorem nmWide : (match Try.prog.underlying 37 with | some (.array _ _) | some (.struct _) => true | _ => false) = true := by rw [Try.underlying37]
set_option maxRecDepth 100000 in
theorem nmLaw : Keyed Try.prog 37 := Keyed.of_law (deep_law_laid nmLaid (m := 2) (by omega) (of_decide_eq_true (by kernel_rfl)) (by kernel_rfl) nmWide)
def nmV (s n : Int) : Value := .agg #[.int .i64 s, .int .i64 n]
def nmK (s n : Int) : Lit := .string (keyBytes [.int .i64 s, .int .i64 n])
theorem nmKey {s n : Int} (hs : F64 s) (hn : F64 n) : keyOf Try.prog 37 (nmV s n) = some (nmK s n) := by
  have w1 : (Lit.int .i64 s).wf = true := WalkArith.wf_i64 hs
  have w2 : (Lit.int .i64 n).wf = true := WalkArith.wf_i64 hn
  have hk : Try.prog.keyType 37 = true := by kernel_rfl
  have hc : Try.prog.cellsOf 37 = 2 := by kernel_rfl
  have hc1 : Try.prog.cellsOf 3 = 1 := by kernel_rfl
  obtain ⟨m, hm⟩ : ∃ m, Try.prog.types.size = m + 1 := ⟨Try.prog.types.size - 1, by kernel_rfl⟩
  have hf : (nmV s n).formed Try.prog 37 = true := by simp [nmV, Value.formed, Try.underlying37, hc]
  unfold keyOf
  rw [Try.underlying37]
  dsimp only
  rw [hk, hf, hm]
  simp [nmV, nmK, Value.cells, Program.keyLits, Try.underlying37, Try.underlying3, hc, hc1, w1, w2]
theorem nmK_ne {s n s' n' : Int} (hs : F64 s) (hn : F64 n) (hs' : F64 s') (hn' : F64 n') (h : ¬ (s' = s ∧ n' = n)) : nmK s' n' ≠ nmK s n := by
  intro e
  have h1 := nmKey hs' hn'
  rw [e] at h1
  have := nmLaw.inj h1 (nmKey hs hn)
  unfold nmV at this
  simp at this
  exact h this
theorem zeroB (w : World) : (zeroValue 4).run Try.prog w = .ok (.bool false) w := by kernel_rfl
theorem boolInv {P : Program} {e : TypeId} (he : P.underlying e = some .bool) {v : Value} {z : DataW Unit × List MemPlace} (h : plainElem P e v = some z) : ∃ x, v = .bool x ∧ z = (.lit (.bool x), []) := by
  unfold plainElem at h
  rw [he] at h
  cases v <;> simp at h
  subst h
  exact ⟨_, rfl, rfl⟩
/-- Block b is a map of at most n names, that has d s n at each. -/
def MpK (b n : Nat) (d : Int → Int → Bool) (w : World) : Prop := ∃ D : DataW Unit, w.ownsMap Try.prog 37 (plainElem Try.prog 4) b n D ∧ Maps.IsMap D ∧ ∀ s m : Int, F64 s → F64 m → D.atKey (nmK s m) (.lit (.bool false)) = .lit (.bool (d s m))
theorem MpK.block {b n : Nat} {d : Int → Int → Bool} {w w' : World} (h : MpK b n d w) (hb : w'.heap[b]? = w.heap[b]?) : MpK b n d w' := by
  obtain ⟨D, ⟨es, clock, h1, h2⟩, h3⟩ := h
  exact ⟨D, ⟨es, clock, hb.trans h1, h2⟩, h3⟩
theorem MpK.lt {b n : Nat} {d : Int → Int → Bool} {w : World} (h : MpK b n d w) : b < w.heap.size := by
  obtain ⟨D, h1, _⟩ := h
  exact h1.lt
theorem MpK.kept {b n : Nat} {d : Int → Int → Bool} {w w' : World} (h : MpK b n d w) (hb : Below w.heap.size w w') : MpK b n d w' := h.block (hb.block b h.lt)
theorem MpK.chg {b n : Nat} {d : Int → Int → Bool} {w w' : World} {g : Nat} (h : MpK b n d w) (hc : Chg g w w') (hg : b ≠ g) : MpK b n d w' := h.block (hc.2 b h.lt hg)
theorem MpK.made (w : World) : MpK w.heap.size 0 (fun _ _ => false) (w.alloc (.map #[] 0)) := ⟨.map [], World.ownsMap_made _ _ _ _, (World.ownsMap_made (H := Unit) w Try.prog 37 (plainElem Try.prog 4)).isMap, fun _ _ _ _ => rfl⟩
theorem MpK.look {b n : Nat} {d : Int → Int → Bool} {w : World} (h : MpK b n d w) {s m : Int} (hs : F64 s) (hm : F64 m) : (Instr.lookup 43 (.map (some b)) (.agg #[.int .i64 s, .int .i64 m]) false).run Try.prog w = .ok (.bool (d s m)) w := by
  obtain ⟨D, h1, _, h2⟩ := h
  obtain ⟨v, ps, hrun, hv⟩ := h1.lookup nmLaw Try.underlying43 (zeroB w) (plainElem_bool Try.underlying4 false) (nmKey hs hm)
  obtain ⟨x, rfl, hx⟩ := boolInv Try.underlying4 hv
  have hx := congrArg Prod.fst hx
  dsimp only at hx
  rw [h2 s m hs hm] at hx
  cases hx
  exact hrun
/-- A name is put in. -/
theorem MpK.put {b n : Nat} {d : Int → Int → Bool} {w : World} (h : MpK b n d w) {s m : Int} (hs : F64 s) (hm : F64 m) (hn : n < maxLen) (v : Bool) : ∃ w', (Instr.mapUpdate 43 (.map (some b)) (.agg #[.int .i64 s, .int .i64 m]) (.bool v)).run Try.prog w = .ok () w' ∧ MpK b (n + 1) (fun s' m' => if s' = s ∧ m' = m then v else d s' m') w' ∧ Chg b w w' := by
  obtain ⟨D, h1, h0, h2⟩ := h
  obtain ⟨w', hrun, h3, hg⟩ := h1.update nmLaw Try.underlying43 hn (nmKey hs hm) (plainElem_bool Try.underlying4 v)
  refine ⟨w', hrun, ⟨_, h3, h3.isMap, fun s' m' hs' hm' => ?_⟩, ⟨Below.grown (Below.refl _ _) hg (Nat.zero_le _) (fun _ _ => Nat.zero_le _), fun i hi hne => hg.block i hi (by intro e; cases e; exact hne rfl)⟩⟩
  by_cases e : s' = s ∧ m' = m
  · obtain ⟨rfl, rfl⟩ := e
    rw [Maps.atKey_put_same h0 (by constructor)]
    simp
  · rw [Maps.atKey_put_other (nmK_ne hs hm hs' hm' e)]
    simp only [if_neg e]
    exact h2 s' m' hs' hm'
end Go.Proofs.Ytillckkohdjkbaa
namespace Go.Proofs.Ytillckkohdjkbaa
open Go.ChangeShapes Go.WideShapes Go.ChangeAt Go.RowKit
theorem item_readR {H : Type} {enc : TypeId × Value → H} {P : Program} {w : World} {base : Nat} {held : Bool} {t : TypeId} {g f0 f1 f2 f3 f4 f5 f6 f7 : Field}
    (ht : P.underlying t = some (.struct #[g, f2, f3, f4, f5, f6, f7])) (hg : P.underlying g.type = some (.struct #[f0, f1]))
    (og : g.offset = 0) (o0 : f0.offset = 0) (o1 : f1.offset = 1) (o2 : f2.offset = 2) (o3 : f3.offset = 3) (o4 : f4.offset = 4) (o5 : f5.offset = 5) (o6 : f6.offset = 6) (o7 : f7.offset = 7)
    (u0 : P.underlying f0.type = some (.int .i64)) (u1 : P.underlying f1.type = some (.int .i64)) (u2 : P.underlying f2.type = some (.int .i64)) (u3 : P.underlying f3.type = some (.int .i64)) (u4 : P.underlying f4.type = some (.int .i64)) (u5 : P.underlying f5.type = some (.int .i64)) (u6 : P.underlying f6.type = some (.int .i64)) (u7 : P.underlying f7.type = some (.int .i64))
    (cc : P.cellsOf g.type = 2 ∧ P.cellsOf f0.type = 1 ∧ P.cellsOf f1.type = 1 ∧ P.cellsOf f2.type = 1 ∧ P.cellsOf f3.type = 1 ∧ P.cellsOf f4.type = 1 ∧ P.cellsOf f5.type = 1 ∧ P.cellsOf f6.type = 1 ∧ P.cellsOf f7.type = 1)
    (fuel : Nat) (cs : List Value) (y : DataW H × List MemPlace) (hl : cs.length = 8) (hf : DataW.trod enc P w base (fun _ => true) held fuel t cs = some y) : ∃ x : Itm, cs = x.cells ∧ x.Fit := by
  obtain ⟨cg, c0, c1, c2, c3, c4, c5, c6, c7⟩ := cc
  match cs, hl with
  | [v0, v1, v2, v3, v4, v5, v6, v7], _ =>
    obtain ⟨xs, k, hk, hxy, _, hxl, hf⟩ := DataW.trod_struct ht hf
    match xs, hxl with
    | [yg, y2, y3, y4, y5, y6, y7], _ =>
      have gg := hf 0 g rfl
      have g2 := hf 1 f2 rfl
      have g3 := hf 2 f3 rfl
      have g4 := hf 3 f4 rfl
      have g5 := hf 4 f5 rfl
      have g6 := hf 5 f6 rfl
      have g7 := hf 6 f7 rfl
      simp [og, o2, o3, o4, o5, o6, o7, cg, c2, c3, c4, c5, c6, c7] at gg g2 g3 g4 g5 g6 g7
      obtain ⟨xs', k', hk', hxy', _, hxl', hf'⟩ := DataW.trod_struct hg gg
      match xs', hxl' with
      | [y0, y1], _ =>
        have g0 := hf' 0 f0 rfl
        have g1 := hf' 1 f1 rfl
        simp [o0, o1, c0, c1] at g0 g1
        obtain ⟨z0, q0, _, w0⟩ := DataW.trod_int u0 g0
        obtain ⟨z1, q1, _, w1⟩ := DataW.trod_int u1 g1
        obtain ⟨z2, q2, _, w2⟩ := DataW.trod_int u2 g2
        obtain ⟨z3, q3, _, w3⟩ := DataW.trod_int u3 g3
        obtain ⟨z4, q4, _, w4⟩ := DataW.trod_int u4 g4
        obtain ⟨z5, q5, _, w5⟩ := DataW.trod_int u5 g5
        obtain ⟨z6, q6, _, w6⟩ := DataW.trod_int u6 g6
        obtain ⟨z7, q7, _, w7⟩ := DataW.trod_int u7 g7
        simp at q0 q1 q2 q3 q4 q5 q6 q7
        subst q0 q1 q2 q3 q4 q5 q6 q7
        exact ⟨⟨z0, z1, z2, z3, z4, z5, z6, z7⟩, rfl, bounds_i64 w0, bounds_i64 w1, bounds_i64 w2, bounds_i64 w3, bounds_i64 w4, bounds_i64 w5, bounds_i64 w6, bounds_i64 w7⟩
end Go.Proofs.Ytillckkohdjkbaa
namespace Go.Proofs.Ytillckkohdjkbaa
open Go.ChangeShapes Go.WideShapes Go.ChangeAt Go.RowKit
theorem addTo (b o j : Nat) : (⟨b, o, none⟩ : Addr).add j = ⟨b, o + j, none⟩ := by
  unfold Addr.add; split <;> simp_all
theorem item_of_open {H : Type} {enc : TypeId × Value → H} {P : Program} {w : World} {base : Nat} {held : Bool} {t : TypeId} {g f0 f1 f2 f3 f4 f5 f6 f7 : Field} {r : Reach} {b0 : Nat} {v : Value} {d : DataW H} {pl : List MemPlace}
    (ht : P.underlying t = some (.struct #[g, f2, f3, f4, f5, f6, f7])) (hg : P.underlying g.type = some (.struct #[f0, f1])) (ct : P.cellsOf t = 8)
    (og : g.offset = 0) (o0 : f0.offset = 0) (o1 : f1.offset = 1) (o2 : f2.offset = 2) (o3 : f3.offset = 3) (o4 : f4.offset = 4) (o5 : f5.offset = 5) (o6 : f6.offset = 6) (o7 : f7.offset = 7)
    (u0 : P.underlying f0.type = some (.int .i64)) (u1 : P.underlying f1.type = some (.int .i64)) (u2 : P.underlying f2.type = some (.int .i64)) (u3 : P.underlying f3.type = some (.int .i64)) (u4 : P.underlying f4.type = some (.int .i64)) (u5 : P.underlying f5.type = some (.int .i64)) (u6 : P.underlying f6.type = some (.int .i64)) (u7 : P.underlying f7.type = some (.int .i64))
    (cc : P.cellsOf g.type = 2 ∧ P.cellsOf f0.type = 1 ∧ P.cellsOf f1.type = 1 ∧ P.cellsOf f2.type = 1 ∧ P.cellsOf f3.type = 1 ∧ P.cellsOf f4.type = 1 ∧ P.cellsOf f5.type = 1 ∧ P.cellsOf f6.type = 1 ∧ P.cellsOf f7.type = 1)
    (hv : Value.okWide P w r b0 t v) (h : DataW.Trod enc P w base (fun _ => true) held t v d pl) : ∃ x : Itm, v = x.v ∧ x.Fit := by
  obtain ⟨cg, c0, c1, c2, c3, c4, c5, c6, c7⟩ := cc
  obtain ⟨cs, rfl, hsz⟩ := okWide_struct ht hv
  obtain ⟨l⟩ := cs
  match l, hsz.trans ct with
  | [v0, v1, v2, v3, v4, v5, v6, v7], _ =>
    obtain ⟨fuel, hf⟩ := h
    have hf' : DataW.trod enc P w base (fun _ => true) held fuel t [v0, v1, v2, v3, v4, v5, v6, v7] = some (d, pl) := by simpa [Value.cells] using hf
    obtain ⟨xs, k, hk, hxy, _, hxl, hf⟩ := DataW.trod_struct ht hf'
    match xs, hxl with
    | [yg, y2, y3, y4, y5, y6, y7], _ =>
      have gg := hf 0 g rfl
      have g2 := hf 1 f2 rfl
      have g3 := hf 2 f3 rfl
      have g4 := hf 3 f4 rfl
      have g5 := hf 4 f5 rfl
      have g6 := hf 5 f6 rfl
      have g7 := hf 6 f7 rfl
      simp [og, o2, o3, o4, o5, o6, o7, cg, c2, c3, c4, c5, c6, c7] at gg g2 g3 g4 g5 g6 g7
      obtain ⟨xs', k', hk', hxy', _, hxl', hf'⟩ := DataW.trod_struct hg gg
      match xs', hxl' with
      | [y0, y1], _ =>
        have g0 := hf' 0 f0 rfl
        have g1 := hf' 1 f1 rfl
        simp [o0, o1, c0, c1] at g0 g1
        obtain ⟨z0, q0, _, w0⟩ := DataW.trod_int u0 g0
        obtain ⟨z1, q1, _, w1⟩ := DataW.trod_int u1 g1
        obtain ⟨z2, q2, _, w2⟩ := DataW.trod_int u2 g2
        obtain ⟨z3, q3, _, w3⟩ := DataW.trod_int u3 g3
        obtain ⟨z4, q4, _, w4⟩ := DataW.trod_int u4 g4
        obtain ⟨z5, q5, _, w5⟩ := DataW.trod_int u5 g5
        obtain ⟨z6, q6, _, w6⟩ := DataW.trod_int u6 g6
        obtain ⟨z7, q7, _, w7⟩ := DataW.trod_int u7 g7
        simp at q0 q1 q2 q3 q4 q5 q6 q7
        subst q0 q1 q2 q3 q4 q5 q6 q7
        exact ⟨⟨z0, z1, z2, z3, z4, z5, z6, z7⟩, rfl, bounds_i64 w0, bounds_i64 w1, bounds_i64 w2, bounds_i64 w3, bounds_i64 w4, bounds_i64 w5, bounds_i64 w6, bounds_i64 w7⟩
/-- A slice of n pairs of numbers. -/
def TwoRow (w : World) (v : Value) (n : Nat) (f : Nat → Int × Int) : Prop :=
  (∀ i, F64 (f i).1 ∧ F64 (f i).2) ∧ ∃ p c, v = .slice p n c ∧ n ≤ c ∧ (n = 0 ∨ ∃ b o, p = some ⟨b, o, none⟩ ∧ b < w.heap.size ∧ ∀ i, i < n → w.cell? ⟨b, o + i * 2, none⟩ = some (.int .i64 (f i).1) ∧ w.cell? ⟨b, o + i * 2 + 1, none⟩ = some (.int .i64 (f i).2))
theorem TwoRow.kept {w w' : World} {v : Value} {n : Nat} {f : Nat → Int × Int} (h : TwoRow w v n f) (hb : Below w.heap.size w w') : TwoRow w' v n f := by
  obtain ⟨hf, p, c, rfl, hc, h⟩ := h
  refine ⟨hf, p, c, rfl, hc, ?_⟩
  rcases h with h | ⟨b, o, rfl, hl, h⟩
  · exact .inl h
  · refine .inr ⟨b, o, rfl, by have := hb.size; omega, fun i hi => ?_⟩
    rw [hb.cell (p := ⟨b, o + i * 2, none⟩) hl, hb.cell (p := ⟨b, o + i * 2 + 1, none⟩) hl]
    exact h i hi
theorem ints2_of_read {H : Type} {enc : TypeId × Value → H} {P : Program} {w : World} {base : Nat} {held : Bool} {t e : TypeId} {fuel : Nat} {c0 c1 : Value} {x : DataW H × List MemPlace}
    (ht : P.underlying t = some (.array 2 e)) (he : P.underlying e = some (.int .i64)) (ce : P.cellsOf e = 1)
    (h' : DataW.trod enc P w base (fun _ => true) held fuel t [c0, c1] = some x) : ∃ a b, c0 = .int .i64 a ∧ c1 = .int .i64 b ∧ F64 a ∧ F64 b := by
  cases fuel with
  | zero => simp [DataW.trod] at h'
  | succ n =>
    unfold DataW.trod at h'
    rw [ht] at h'
    have r2 : List.range 2 = [0, 1] := rfl
    simp [r2, ce] at h'
    obtain ⟨_, h'⟩ := h'
    cases h0 : DataW.trod enc P w base (fun _ => true) held n e [c0] with
    | none => simp [h0] at h'
    | some y0 =>
      cases h1 : DataW.trod enc P w base (fun _ => true) held n e [c1] with
      | none => simp [h0, h1] at h'
      | some y1 =>
        obtain ⟨z0, q0, _, w0⟩ := DataW.trod_int he h0
        obtain ⟨z1, q1, _, w1⟩ := DataW.trod_int he h1
        simp at q0 q1
        exact ⟨z0, z1, q0, q1, bounds_i64 w0, bounds_i64 w1⟩
theorem twos_of_open {H : Type} {enc : TypeId × Value → H} {P : Program} {w : World} {base : Nat} {held : Bool} {t e q : TypeId} {fuel : Nat} {a : Option Addr} {len cap : Nat} {x : DataW H × List MemPlace}
    (ht : P.underlying t = some (.slice e)) (he : P.underlying e = some (.array 2 q)) (hq : P.underlying q = some (.int .i64)) (ce : P.cellsOf e = 2) (cq : P.cellsOf q = 1)
    (h : DataW.trod enc P w base (fun _ => true) held fuel t (Value.slice a len cap).cells.toList = some x) : ∃ f, TwoRow w (.slice a len cap) len f := by
  have h' : DataW.trod enc P w base (fun _ => true) held fuel t [.slice a len cap] = some x := by simpa [Value.cells] using h
  rcases Go.Deep.open_slice ht h' with ⟨hcs, _⟩ | ⟨a', len', cap', m, n, D, Pl, hcs, hb, hl, hm, hmm, rfl, hx⟩
  · simp at hcs
    obtain ⟨rfl, rfl, rfl⟩ := hcs
    exact ⟨fun _ => (0, 0), (fun _ => by show F64 0 ∧ F64 0; unfold F64; decide), none, 0, rfl, Nat.le_refl _, .inl rfl⟩
  · simp at hcs
    obtain ⟨rfl, rfl, rfl⟩ := hcs
    have hlm : len ≤ m := by rw [hmm]; split <;> omega
    have each : ∀ i, i < m → ∃ y : Int × Int, (F64 y.1 ∧ F64 y.2) ∧ w.cell? (a'.add (i * 2)) = some (.int .i64 y.1) ∧ w.cell? (a'.add (i * 2 + 1)) = some (.int .i64 y.2) := by
      intro i hi
      obtain ⟨cs', h1, h2⟩ := hx i hi
      rw [ce] at h1
      obtain ⟨_, hlen, hcell⟩ := World.cells?_some h1
      match cs', hlen with
      | [v0, v1], _ =>
        obtain ⟨z0, z1, rfl, rfl, w0, w1⟩ := ints2_of_read he hq cq h2
        have e0 := hcell 0 (by omega)
        have e1 := hcell 1 (by omega)
        rw [Go.Deep.add_add] at e0 e1
        exact ⟨(z0, z1), ⟨w0, w1⟩, by simpa using e0, by simpa using e1⟩
    obtain ⟨q, hq⟩ := Go.Deep.choose_lt each
    refine ⟨fun i => if i < m then q i else (0, 0), fun i => ?_, some a', cap, rfl, hl, ?_⟩
    · by_cases hi : i < m
      · simp only [if_pos hi]; exact (hq i hi).1
      · simp only [if_neg hi]; show F64 0 ∧ F64 0; unfold F64; decide
    · by_cases h0 : len = 0
      · exact .inl h0
      · right
        obtain ⟨b, off, spot⟩ := a'
        have h00 := (hq 0 (by omega)).2.1
        have hspot : spot = none := by simpa [Addr.add] using World.cell?_spot h00
        subst hspot
        refine ⟨b, off, rfl, ?_, fun i hi => ?_⟩
        · rw [addTo] at h00
          exact World.block_lt_of_cell? w _ h00
        · obtain ⟨_, r0, r1⟩ := hq i (by omega)
          rw [addTo] at r0 r1
          have hi' : i < m := by omega
          simp only [if_pos hi']
          exact ⟨by simpa using r0, by simpa [Nat.add_assoc] using r1⟩
end Go.Proofs.Ytillckkohdjkbaa
namespace Go.Proofs.Ytillckkohdjkbaa
open Go.RowKit
/-- The names that were seen: x's, and those of a list. -/
def seenB (x : Itm) (l : List Itm) (s n : Int) : Bool := (s == x.s && n == x.n) || l.any (fun y => s == y.s && n == y.n)
theorem seen_start (x : Itm) : (fun s' m' : Int => if s' = x.s ∧ m' = x.n then true else (fun _ _ : Int => false) s' m') = seenB x [] := by
  funext s' m'
  unfold seenB
  by_cases h : s' = x.s ∧ m' = x.n
  · rw [if_pos h]; simp [h]
  · rw [if_neg h]
    simp only [List.any_nil, Bool.or_false]
    symm
    rw [Bool.and_eq_false_iff]
    by_cases h1 : s' = x.s
    · right; simpa using fun e => h ⟨h1, e⟩
    · left; simpa using h1
theorem seen_step (x y : Itm) (l : List Itm) : (fun s' m' : Int => if s' = y.s ∧ m' = y.n then true else seenB x l s' m') = seenB x (l ++ [y]) := by
  funext s' m'
  unfold seenB
  rw [List.any_append, List.any_cons, List.any_nil, Bool.or_false]
  by_cases h : s' = y.s ∧ m' = y.n
  · rw [if_pos h]; simp [h]
  · rw [if_neg h]
    have e : (s' == y.s && m' == y.n) = false := by
      rw [Bool.and_eq_false_iff]
      by_cases h1 : s' = y.s
      · right; simpa using fun e => h ⟨h1, e⟩
      · left; simpa using h1
    rw [e, Bool.or_false]
theorem seen_no {x y : Itm} {l : List Itm} (h : seenB x l y.s y.n = false) : ordP (posI y) (posI x) ≠ 0 ∧ ∀ z ∈ l, ordP (posI z) (posI y) ≠ 0 := by
  unfold seenB at h
  rw [Bool.or_eq_false_iff] at h
  refine ⟨fun e => ?_, fun z hz e => ?_⟩
  · rw [ordP_eq] at e
    obtain ⟨e1, e2⟩ := e
    have e1 : y.s = x.s := e1
    have e2 : y.n = x.n := e2
    rw [e1, e2] at h
    simp at h
  · have h2 := List.any_eq_false.1 h.2 z hz
    rw [ordP_eq] at e
    obtain ⟨e1, e2⟩ := e
    have e1 : z.s = y.s := e1
    have e2 : z.n = y.n := e2
    rw [e1, e2] at h2
    simp at h2
theorem names_step {x y : Itm} {l : List Itm} (h : seenB x l y.s y.n = false) (hn : Names l ∧ Apart x l) : Names (l ++ [y]) ∧ Apart x (l ++ [y]) := by
  obtain ⟨h1, h2⟩ := seen_no h
  refine ⟨?_, fun z hz => ?_⟩
  · unfold Names
    rw [List.pairwise_append]
    exact ⟨hn.1, List.pairwise_singleton _ _, fun a ha b hb => by rw [List.mem_singleton.1 hb]; exact h2 a ha⟩
  · rcases List.mem_append.1 hz with h3 | h3
    · exact hn.2 z h3
    · rw [List.mem_singleton.1 h3]; exact h1
theorem putE_both {x : Itm} (h0 : x.s = 0) (h1 : x.b = 1) : putE 0 x = chkI x ∧ putE 1 x = chkI x := by
  have h2 : x.s = 0 ∨ x.b = 0 := .inl h0
  have h3 : x.s = 1 ∨ x.b = 1 := .inr h1
  unfold putE
  rw [if_pos h2, if_pos h3]
  by_cases h : chkI x = 0
  · rw [if_pos h, h]; exact ⟨rfl, rfl⟩
  · rw [if_neg h]; exact ⟨rfl, rfl⟩
theorem even_odd {cur : Int} {pm pb : Option Addr} {nm cm nb cb : Nat} {M Y : List Itm} (h : alikeB 0 1 cur M Y = false) : evenB cur [bkA pm nm cm M, bkB pb nb cb Y] = false := by
  have e : ∀ x y : Bk, evenB cur [x, y] = pairOk cur y x := fun x y => by simp [evenB, List.range_succ]
  rw [e]
  show (decide ((1 : Int) = 0) || (alikeB 1 0 cur Y M && alikeB 0 1 cur M Y)) = false
  rw [h, Bool.and_false]
  rfl
set_option linter.unusedSimpArgs false in
set_option maxHeartbeats 8000000 in
set_option maxRecDepth 100000 in
theorem eodd_walk (va : Value) (la : List Itm) (x : Itm) (w : World) (ha : TRow encI w va la) (hf : ∀ y ∈ la, y.Fit) (hx : x.Fit) :
    Calls Try.prog 4 #[va, x.v] w fun e w' => e = .returned (.bool true) ∧ Below w.heap.size w w' := by
  obtain ⟨p1, c1, rfl⟩ := ha.shape
  have HK := Lib.hid (fun W => holds15_any W)
  have HR := Lib.hid ha
  have HF := Lib.hid hf
  have HX := Lib.hid hx
  have HS : Hid (w.heap.size = w.heap.size) := Lib.hid rfl
  have HB0 : Hid (Below w.heap.size w (w.alloc (.cells #[.int .i64 x.s, .int .i64 x.n, .int .i64 x.b, .int .i64 x.c, .int .i64 x.a, .int .i64 x.r, .int .i64 x.t, .int .i64 x.y] 39))) := Lib.hid ((oneB w _))
  have Hx0 : Hid (Blk (w.alloc (.cells #[.int .i64 x.s, .int .i64 x.n, .int .i64 x.b, .int .i64 x.c, .int .i64 x.a, .int .i64 x.r, .int .i64 x.t, .int .i64 x.y] 39)) w.heap.size #[.int .i64 x.s, .int .i64 x.n, .int .i64 x.b, .int .i64 x.c, .int .i64 x.a, .int .i64 x.r, .int .i64 x.t, .int .i64 x.y] 39) := Lib.hid (Blk.new w #[.int .i64 x.s, .int .i64 x.n, .int .i64 x.b, .int .i64 x.c, .int .i64 x.a, .int .i64 x.r, .int .i64 x.t, .int .i64 x.y] 39)
  have HZ0 : Hid (w.heap.size ≤ (w.alloc (.cells #[.int .i64 x.s, .int .i64 x.n, .int .i64 x.b, .int .i64 x.c, .int .i64 x.a, .int .i64 x.r, .int .i64 x.t, .int .i64 x.y] 39)).heap.size) := Lib.hid HB0.out.size
  clear ha hf hx HS
  generalize hl : la.length = n1 at *
  have HL := Lib.hid hl
  clear hl
  unfold Itm.v
  have hmm := @run_makeMap Try.prog
  go_enter Try.func4, Try.ntmps4
  go_wp2_with fail
  generalize (w.alloc (.cells #[.int .i64 x.s, .int .i64 x.n, .int .i64 x.b, .int .i64 x.c, .int .i64 x.a, .int .i64 x.r, .int .i64 x.t, .int .i64 x.y] 39)) = W at *
  refine (HK.out W).mono ?_
  rintro y9 w1 ⟨rfl, hb⟩
  have Hx1 := Lib.hid (Hx0.out.below hb Hx0.out.lt)
  have HB1 := Lib.hid (HB0.out.trans (hb.mono HB0.out.size))
  have HZ1 : Hid (w.heap.size ≤ w1.heap.size) := Lib.hid (Nat.le_trans HZ0.out hb.size)
  clear Hx0 HB0 HZ0
  clear hb HK
  have a0 : w1.cell? ⟨w.heap.size, 0, none⟩ = some (.int .i64 x.s) := Hx1.out.cell 0
  have a1 : w1.cell? ⟨w.heap.size, 1, none⟩ = some (.int .i64 x.n) := Hx1.out.cell 1
  have a2 : w1.cell? ⟨w.heap.size, 2, none⟩ = some (.int .i64 x.b) := Hx1.out.cell 2
  have a6 : w1.cell? ⟨w.heap.size, 6, none⟩ = some (.int .i64 x.t) := Hx1.out.cell 6
  by_cases hl1 : 20 < n1
  · have hlI : (20 : Int) < (n1 : Int) := by omega
    clear hl1
    go_wp2_with fail
    go_ret
    exact ⟨rfl, HB1.out⟩
  have HN : Hid (n1 ≤ 20) := Lib.hid (by omega)
  have hlI : (n1 : Int) ≤ 20 := by omega
  clear hl1
  by_cases hxs : x.s = 0
  case neg =>
    have e1 : (x.s != 0) = true := by simpa using hxs
    clear hxs
    go_wp2_with fail
    go_ret
    exact ⟨rfl, HB1.out⟩
  by_cases hxb : x.b = 1
  case neg =>
    have e1 : (x.s != 0) = false := by simpa using hxs
    have e2 : (x.b != 1) = true := by simpa using hxb
    clear hxs hxb
    go_wp2_with fail
    go_ret
    exact ⟨rfl, HB1.out⟩
  by_cases hxt : x.t = 3
  case neg =>
    have e1 : (x.s != 0) = false := by simpa using hxs
    have e2 : (x.b != 1) = false := by simpa using hxb
    have e3 : (x.t != 3) = true := by simpa using hxt
    clear hxs hxb hxt
    go_wp2_with fail
    go_ret
    exact ⟨rfl, HB1.out⟩
  have HXX : Hid (x.s = 0 ∧ x.b = 1 ∧ x.t = 3) := Lib.hid ⟨hxs, hxb, hxt⟩
  have e1 : (x.s != 0) = false := by simpa using hxs
  have e2 : (x.b != 1) = false := by simpa using hxb
  have e3 : (x.t != 3) = false := by simpa using hxt
  clear hxs hxb hxt
  obtain ⟨w2, hrun, hmp, hch⟩ := (MpK.made w1).put HX.out.1 HX.out.2.1 (by unfold maxLen; omega) true
  have b0 : (w1.alloc (.map #[] 0)).cell? ⟨w.heap.size, 0, none⟩ = some (.int .i64 x.s) := (Hx1.out.alloc _).cell 0
  have b1 : (w1.alloc (.map #[] 0)).cell? ⟨w.heap.size, 1, none⟩ = some (.int .i64 x.n) := (Hx1.out.alloc _).cell 1
  rw [seen_start] at hmp
  have HMP := Lib.hid hmp
  have hne : w.heap.size ≠ w1.heap.size := Nat.ne_of_lt Hx1.out.lt
  have Hx2 := Lib.hid ((Hx1.out.alloc (.map #[] 0)).chg hch hne)
  have HB2 : Hid (Below w.heap.size w w2) := Lib.hid ((HB1.out.alloc HB1.out.size (.map #[] 0)).trans (hch.below HB1.out.size (HB1.out.alloc HB1.out.size (.map #[] 0)).size))
  have HGM : Hid (w.heap.size < w1.heap.size) := Lib.hid Hx1.out.lt
  clear hne hch hmp Hx1 HB1 HZ1
  go_upto_region 6 with fail
  clear hrun b0 b1 a0 a1 a2 a6 hmm
  generalize w1.heap.size = gm at *
  have HREL : Hid (Blk w2 w.heap.size #[.int .i64 x.s, .int .i64 x.n, .int .i64 x.b, .int .i64 x.c, .int .i64 x.a, .int .i64 x.r, .int .i64 x.t, .int .i64 x.y] 39 ∧ MpK gm (0 + 1) (seenB x (la.take 0)) w2 ∧ Below w.heap.size w w2 ∧ (Names (la.take 0) ∧ Apart x (la.take 0))) := Lib.hid ⟨Hx2.out, HMP.out, HB2.out, List.Pairwise.nil, fun _ h => by cases h⟩
  clear Hx2 HMP HB2
  go_wp2_with fail
  go_loopw [46] (fun i wr => ∃ k : Nat, k ≤ n1 ∧ i = .int .i64 k ∧ Hid (Blk wr w.heap.size #[.int .i64 x.s, .int .i64 x.n, .int .i64 x.b, .int .i64 x.c, .int .i64 x.a, .int .i64 x.r, .int .i64 x.t, .int .i64 x.y] 39 ∧ MpK gm (k + 1) (seenB x (la.take k)) wr ∧ Below w.heap.size w wr ∧ (Names (la.take k) ∧ Apart x (la.take k)))) (fun i _ => n1 - (intOf i).toNat)
  case atStart => exact ⟨0, by omega, rfl, HREL⟩
  case round =>
    obtain ⟨k, hk, rfl, HJ⟩ := hrel
    clear HREL
    by_cases hlt : k < n1
    · have hkl : k < la.length := by rw [HL.out]; exact hlt
      have hltI : (k : Int) < (n1 : Int) := by omega
      have HYF : Hid (la[k].Fit) := Lib.hid (HF.out _ (List.getElem_mem hkl))
      have HTK : Hid (la.take (k + 1) = la.take k ++ [la[k]]) := Lib.hid (List.take_succ_eq_append_getElem hkl)
      obtain ⟨b2, o2, rfl, hb2l, hcs⟩ := (HR.out.kept HJ.out.2.2.1).at_ k hkl
      generalize la[k] = y at *
      have c0 : wr.cell? ⟨b2, o2 + k * 8, none⟩ = some (.int .i64 y.s) := hcs 0 (by decide)
      have c1 : wr.cell? ⟨b2, o2 + k * 8 + 1, none⟩ = some (.int .i64 y.n) := hcs 1 (by decide)
      have c2 : wr.cell? ⟨b2, o2 + k * 8 + 2, none⟩ = some (.int .i64 y.b) := hcs 2 (by decide)
      have c3 : wr.cell? ⟨b2, o2 + k * 8 + 3, none⟩ = some (.int .i64 y.c) := hcs 3 (by decide)
      have c4 : wr.cell? ⟨b2, o2 + k * 8 + 4, none⟩ = some (.int .i64 y.a) := hcs 4 (by decide)
      have c5 : wr.cell? ⟨b2, o2 + k * 8 + 5, none⟩ = some (.int .i64 y.r) := hcs 5 (by decide)
      have c6 : wr.cell? ⟨b2, o2 + k * 8 + 6, none⟩ = some (.int .i64 y.t) := hcs 6 (by decide)
      have c7 : wr.cell? ⟨b2, o2 + k * 8 + 7, none⟩ = some (.int .i64 y.y) := hcs 7 (by decide)
      have HA : Hid (Blk (wr.alloc (.cells #[.int .i64 y.s, .int .i64 y.n, .int .i64 y.b, .int .i64 y.c, .int .i64 y.a, .int .i64 y.r, .int .i64 y.t, .int .i64 y.y] 39)) w.heap.size #[.int .i64 x.s, .int .i64 x.n, .int .i64 x.b, .int .i64 x.c, .int .i64 x.a, .int .i64 x.r, .int .i64 x.t, .int .i64 x.y] 39) := Lib.hid (HJ.out.1.alloc _)
      have HY : Hid (Blk (wr.alloc (.cells #[.int .i64 y.s, .int .i64 y.n, .int .i64 y.b, .int .i64 y.c, .int .i64 y.a, .int .i64 y.r, .int .i64 y.t, .int .i64 y.y] 39)) wr.heap.size #[.int .i64 y.s, .int .i64 y.n, .int .i64 y.b, .int .i64 y.c, .int .i64 y.a, .int .i64 y.r, .int .i64 y.t, .int .i64 y.y] 39) := Lib.hid (Blk.new wr _ _)
      have HM : Hid (MpK gm (k + 1) (seenB x (la.take k)) (wr.alloc (.cells #[.int .i64 y.s, .int .i64 y.n, .int .i64 y.b, .int .i64 y.c, .int .i64 y.a, .int .i64 y.r, .int .i64 y.t, .int .i64 y.y] 39))) := Lib.hid (HJ.out.2.1.kept (oneB wr _))
      have HB := Lib.hid (HJ.out.2.2.1.alloc HJ.out.2.2.1.size (.cells #[.int .i64 y.s, .int .i64 y.n, .int .i64 y.b, .int .i64 y.c, .int .i64 y.a, .int .i64 y.r, .int .i64 y.t, .int .i64 y.y] 39))
      have HNM := Lib.hid HJ.out.2.2.2
      have HGW : Hid (gm ≠ wr.heap.size ∧ w.heap.size ≠ gm) := Lib.hid ⟨Nat.ne_of_lt HJ.out.2.1.lt, Nat.ne_of_lt HGM.out⟩
      clear hcs HJ
      go_upto_region 9 with fail
      generalize wr.alloc (.cells #[.int .i64 y.s, .int .i64 y.n, .int .i64 y.b, .int .i64 y.c, .int .i64 y.a, .int .i64 y.r, .int .i64 y.t, .int .i64 y.y] 39) = W5 at *
      generalize wr.heap.size = gy at *
      clear c0 c1 c2 c3 c4 c5 c6 c7
      have hlook := HM.out.look HYF.out.1 HYF.out.2.1
      have y0 : W5.cell? ⟨gy, 0, none⟩ = some (.int .i64 y.s) := HY.out.cell 0
      have y1 : W5.cell? ⟨gy, 1, none⟩ = some (.int .i64 y.n) := HY.out.cell 1
      cases hd : seenB x (la.take k) y.s y.n
      case true =>
        rw [hd] at hlook
        clear hd
        go_wp2_with fail
        go_ret
        exact ⟨rfl, HB.out⟩
      case false =>
        rw [hd] at hlook
        obtain ⟨w6, hrun, hmp, hch⟩ := HM.out.put HYF.out.1 HYF.out.2.1 (by unfold maxLen; omega) true
        rw [seen_step, ← HTK.out] at hmp
        have hn2 := names_step hd HNM.out
        rw [← HTK.out] at hn2
        have HNX : Hid (Blk w6 w.heap.size #[.int .i64 x.s, .int .i64 x.n, .int .i64 x.b, .int .i64 x.c, .int .i64 x.a, .int .i64 x.r, .int .i64 x.t, .int .i64 x.y] 39 ∧ MpK gm (k + 1 + 1) (seenB x (la.take (k + 1))) w6 ∧ Below w.heap.size w w6 ∧ (Names (la.take (k + 1)) ∧ Apart x (la.take (k + 1)))) := Lib.hid ⟨HA.out.chg hch HGW.out.2, hmp, HB.out.trans (hch.below (Nat.le_of_lt HGM.out) HB.out.size), hn2⟩
        clear hd hn2 hmp hch HA HY HM HB HNM HGW HYF HTK
        go_wp2_with fail
        go_roundw
        case rel => exact ⟨k + 1, by omega, by go_num, HNX⟩
        case measure => simp [intOf]; omega
    · have hle : (n1 : Int) ≤ (k : Int) := by omega
      have hkn : k = la.length := by rw [HL.out]; omega
      have hK := HJ.out
      rw [hkn, List.take_length] at hK
      have Hx3 := Lib.hid hK.1
      have HB3 := Lib.hid hK.2.2.1
      have HNM := Lib.hid hK.2.2.2
      have HZ3 : Hid (w.heap.size ≤ wr.heap.size) := Lib.hid hK.2.2.1.size
      clear HJ hK hkn
      go_upto_region 13 with fail
      obtain ⟨E, hE⟩ : ∃ E, chkI x = E := ⟨_, rfl⟩
      have HE := Lib.hid hE
      clear hE
      have HPE := Lib.hid (putE_both HXX.out.1 HXX.out.2.1)
      rw [HE.out] at HPE
      have HG := Lib.hid (two_any wr _ _ la la (HR.out.kept HB3.out) (HR.out.kept HB3.out) (by have := HL.out; have := HN.out; omega) (by have := HL.out; have := HN.out; omega))
      unfold bookV at HG
      go_wp2_with fail
      refine HG.out.mono ?_
      rintro y9 w4 ⟨pa, na, ca, pb, nb, cb, rfl, hrv, hlv, hrw, hlw, hb, -, -⟩
      clear HG
      have Hx4 := Lib.hid (Hx3.out.below hb Hx3.out.lt)
      have HB4 := Lib.hid (HB3.out.trans (hb.mono HB3.out.size))
      have HZ4 : Hid (w.heap.size ≤ w4.heap.size) := Lib.hid (Nat.le_trans HZ3.out hb.size)
      clear Hx3 HB3 HZ3
      clear hb
      have QV4 := Lib.hid hrv
      have QU4 := Lib.hid hrw
      have HLV := Lib.hid hlv
      have HLU := Lib.hid hlw
      clear hrv hlv hrw hlw
      have HGV : Hid (GoodB 0 (foldX 0 [] la)) := Lib.hid (foldX_good (goodB_nil 0))
      have HGU : Hid (GoodB 1 (foldX 1 [] la)) := Lib.hid (foldX_good (goodB_nil 1))
      have HNV : Hid ((foldX 0 [] la).length ≤ 20) := Lib.hid (by have := foldX_len (l := la) (goodB_nil 0); rw [List.length_nil] at this; have := HL.out; have := HN.out; omega)
      have HNU : Hid ((foldX 1 [] la).length ≤ 20) := Lib.hid (by have := foldX_len (l := la) (goodB_nil 1); rw [List.length_nil] at this; have := HL.out; have := HN.out; omega)
      have HOP := Lib.hid (fun hc => odd_pure HNM.out.1 HNM.out.2 HXX.out.1 HXX.out.2.1 HXX.out.2.2 hc _ _ rfl rfl)
      generalize foldX 0 [] la = V at *
      generalize foldX 1 [] la = U at *
      go_upto_region 14 with fail
      have hba : Below w4.heap.size w4 ((w4.alloc (.cells #[.int .i64 0, .slice pa na ca, .slice none 0 0] 26)).alloc (.cells #[.int .i64 1, .slice pb nb cb, .slice none 0 0] 26)) := (oneB w4 _).alloc (by simp) _
      have Hx5 := Lib.hid (Hx4.out.below hba Hx4.out.lt)
      have QV5 := Lib.hid (QV4.out.kept hba)
      have QU5 := Lib.hid (QU4.out.kept hba)
      have Hv5 : Hid (Blk ((w4.alloc (.cells #[.int .i64 0, .slice pa na ca, .slice none 0 0] 26)).alloc (.cells #[.int .i64 1, .slice pb nb cb, .slice none 0 0] 26)) w4.heap.size #[.int .i64 0, .slice pa na ca, .slice none 0 0] 26) := Lib.hid ((Blk.new w4 #[.int .i64 0, .slice pa na ca, .slice none 0 0] 26).alloc _)
      have Hu5 : Hid (Blk ((w4.alloc (.cells #[.int .i64 0, .slice pa na ca, .slice none 0 0] 26)).alloc (.cells #[.int .i64 1, .slice pb nb cb, .slice none 0 0] 26)) (w4.heap.size + 1) #[.int .i64 1, .slice pb nb cb, .slice none 0 0] 26) := Lib.hid (Blk.new' _ _ _ (by simp))
      have HB5 := Lib.hid (HB4.out.trans (hba.mono HB4.out.size))
      have HZ5 : Hid (w.heap.size ≤ ((w4.alloc (.cells #[.int .i64 0, .slice pa na ca, .slice none 0 0] 26)).alloc (.cells #[.int .i64 1, .slice pb nb cb, .slice none 0 0] 26)).heap.size) := Lib.hid HB5.out.size
      clear hba Hx4 QV4 QU4 HB4 HZ4
      generalize ((w4.alloc (.cells #[.int .i64 0, .slice pa na ca, .slice none 0 0] 26)).alloc (.cells #[.int .i64 1, .slice pb nb cb, .slice none 0 0] 26)) = W5 at *
      generalize w4.heap.size = ga at *
      have HG := Lib.hid (put_any W5 0 pa none na ca 0 0 x V QV5.out HLV.out HGV.out.1 (by have := HNV.out; have := HLV.out; omega))
      rw [HPE.out.1] at HG
      unfold bookV Itm.v at HG
      have a0 : W5.cell? ⟨ga, 0, none⟩ = some (.int .i64 0) := Hv5.out.cell 0
      have a1 : W5.cell? ⟨ga, 1, none⟩ = some (.slice pa na ca) := Hv5.out.cell 1
      have a2 : W5.cell? ⟨ga, 2, none⟩ = some (.slice none 0 0) := Hv5.out.cell 2
      have b0 : W5.cell? ⟨w.heap.size, 0, none⟩ = some (.int .i64 x.s) := Hx5.out.cell 0
      have b1 : W5.cell? ⟨w.heap.size, 1, none⟩ = some (.int .i64 x.n) := Hx5.out.cell 1
      have b2 : W5.cell? ⟨w.heap.size, 2, none⟩ = some (.int .i64 x.b) := Hx5.out.cell 2
      have b3 : W5.cell? ⟨w.heap.size, 3, none⟩ = some (.int .i64 x.c) := Hx5.out.cell 3
      have b4 : W5.cell? ⟨w.heap.size, 4, none⟩ = some (.int .i64 x.a) := Hx5.out.cell 4
      have b5 : W5.cell? ⟨w.heap.size, 5, none⟩ = some (.int .i64 x.r) := Hx5.out.cell 5
      have b6 : W5.cell? ⟨w.heap.size, 6, none⟩ = some (.int .i64 x.t) := Hx5.out.cell 6
      have b7 : W5.cell? ⟨w.heap.size, 7, none⟩ = some (.int .i64 x.y) := Hx5.out.cell 7
      go_wp2_with fail
      clear a0 a1 a2 b0 b1 b2 b3 b4 b5 b6 b7
      refine HG.out.mono ?_
      rintro y9 w6 ⟨pm, nm, cm, rfl, hrm, hlm, hb, -⟩
      clear HG
      have Hx6 := Lib.hid (Hx5.out.below hb Hx5.out.lt)
      have Hv6 := Lib.hid (Hv5.out.below hb Hv5.out.lt)
      have Hu6 := Lib.hid (Hu5.out.below hb Hu5.out.lt)
      have QV6 := Lib.hid (QV5.out.kept hb)
      have QU6 := Lib.hid (QU5.out.kept hb)
      have HB6 := Lib.hid (HB5.out.trans (hb.mono HB5.out.size))
      have HZ6 : Hid (w.heap.size ≤ w6.heap.size) := Lib.hid (Nat.le_trans HZ5.out hb.size)
      clear Hx5 Hv5 Hu5 QV5 QU5 HB5 HZ5
      clear hb
      have QM6 := Lib.hid hrm
      have HLM := Lib.hid hlm
      clear hrm hlm
      have hba := oneB w6 (.cells #[.int .i64 0, .slice pm nm cm, .slice none 0 0] 26)
      have Hx7 := Lib.hid (Hx6.out.below hba Hx6.out.lt)
      have Hv7 := Lib.hid (Hv6.out.below hba Hv6.out.lt)
      have Hu7 := Lib.hid (Hu6.out.below hba Hu6.out.lt)
      have QV7 := Lib.hid (QV6.out.kept hba)
      have QU7 := Lib.hid (QU6.out.kept hba)
      have QM7 := Lib.hid (QM6.out.kept hba)
      have Hm7 := Lib.hid (Blk.new w6 #[.int .i64 0, .slice pm nm cm, .slice none 0 0] 26)
      have HB7 := Lib.hid (HB6.out.alloc HB6.out.size (.cells #[.int .i64 0, .slice pm nm cm, .slice none 0 0] 26))
      have HZ7 : Hid (w.heap.size ≤ (w6.alloc (.cells #[.int .i64 0, .slice pm nm cm, .slice none 0 0] 26)).heap.size) := Lib.hid (Nat.le_trans HZ6.out hba.size)
      have HGgm2 : Hid (w.heap.size ≤ w6.heap.size) := Lib.hid HB6.out.size
      clear hba Hx6 Hv6 Hu6 QV6 QU6 QM6 HB6 HZ6
      go_upto_region 15 with fail
      generalize (w6.alloc (.cells #[.int .i64 0, .slice pm nm cm, .slice none 0 0] 26)) = W7 at *
      generalize hggm2 : w6.heap.size = gm2 at *
      clear hggm2
      have HG := Lib.hid (put_any W7 1 pb none nb cb 0 0 x U QU7.out HLU.out HGU.out.1 (by have := HNU.out; have := HLU.out; omega))
      rw [HPE.out.2] at HG
      unfold bookV Itm.v at HG
      have a0 : W7.cell? ⟨(ga + 1), 0, none⟩ = some (.int .i64 1) := Hu7.out.cell 0
      have a1 : W7.cell? ⟨(ga + 1), 1, none⟩ = some (.slice pb nb cb) := Hu7.out.cell 1
      have a2 : W7.cell? ⟨(ga + 1), 2, none⟩ = some (.slice none 0 0) := Hu7.out.cell 2
      have b0 : W7.cell? ⟨w.heap.size, 0, none⟩ = some (.int .i64 x.s) := Hx7.out.cell 0
      have b1 : W7.cell? ⟨w.heap.size, 1, none⟩ = some (.int .i64 x.n) := Hx7.out.cell 1
      have b2 : W7.cell? ⟨w.heap.size, 2, none⟩ = some (.int .i64 x.b) := Hx7.out.cell 2
      have b3 : W7.cell? ⟨w.heap.size, 3, none⟩ = some (.int .i64 x.c) := Hx7.out.cell 3
      have b4 : W7.cell? ⟨w.heap.size, 4, none⟩ = some (.int .i64 x.a) := Hx7.out.cell 4
      have b5 : W7.cell? ⟨w.heap.size, 5, none⟩ = some (.int .i64 x.r) := Hx7.out.cell 5
      have b6 : W7.cell? ⟨w.heap.size, 6, none⟩ = some (.int .i64 x.t) := Hx7.out.cell 6
      have b7 : W7.cell? ⟨w.heap.size, 7, none⟩ = some (.int .i64 x.y) := Hx7.out.cell 7
      go_wp2_with fail
      clear a0 a1 a2 b0 b1 b2 b3 b4 b5 b6 b7
      refine HG.out.mono ?_
      rintro y9 w8 ⟨pn, nn, cn, rfl, hrn, hln, hb, -⟩
      clear HG
      have Hx8 := Lib.hid (Hx7.out.below hb Hx7.out.lt)
      have Hv8 := Lib.hid (Hv7.out.below hb Hv7.out.lt)
      have Hu8 := Lib.hid (Hu7.out.below hb Hu7.out.lt)
      have Hm8 := Lib.hid (Hm7.out.below hb Hm7.out.lt)
      have QV8 := Lib.hid (QV7.out.kept hb)
      have QU8 := Lib.hid (QU7.out.kept hb)
      have QM8 := Lib.hid (QM7.out.kept hb)
      have HB8 := Lib.hid (HB7.out.trans (hb.mono HB7.out.size))
      have HZ8 : Hid (w.heap.size ≤ w8.heap.size) := Lib.hid (Nat.le_trans HZ7.out hb.size)
      clear Hx7 Hv7 Hu7 Hm7 QV7 QU7 QM7 HB7 HZ7
      clear hb
      have QN8 := Lib.hid hrn
      have HLN := Lib.hid hln
      clear hrn hln
      have hba := oneB w8 (.cells #[.int .i64 1, .slice pn nn cn, .slice none 0 0] 26)
      have Hx9 := Lib.hid (Hx8.out.below hba Hx8.out.lt)
      have Hv9 := Lib.hid (Hv8.out.below hba Hv8.out.lt)
      have Hu9 := Lib.hid (Hu8.out.below hba Hu8.out.lt)
      have Hm9 := Lib.hid (Hm8.out.below hba Hm8.out.lt)
      have QV9 := Lib.hid (QV8.out.kept hba)
      have QU9 := Lib.hid (QU8.out.kept hba)
      have QM9 := Lib.hid (QM8.out.kept hba)
      have QN9 := Lib.hid (QN8.out.kept hba)
      have Hn9 := Lib.hid (Blk.new w8 #[.int .i64 1, .slice pn nn cn, .slice none 0 0] 26)
      have HB9 := Lib.hid (HB8.out.alloc HB8.out.size (.cells #[.int .i64 1, .slice pn nn cn, .slice none 0 0] 26))
      have HZ9 : Hid (w.heap.size ≤ (w8.alloc (.cells #[.int .i64 1, .slice pn nn cn, .slice none 0 0] 26)).heap.size) := Lib.hid (Nat.le_trans HZ8.out hba.size)
      have HGgn2 : Hid (w.heap.size ≤ w8.heap.size) := Lib.hid HB8.out.size
      clear hba Hx8 Hv8 Hu8 Hm8 QV8 QU8 QM8 QN8 HB8 HZ8
      go_upto_region 16 with fail
      generalize (w8.alloc (.cells #[.int .i64 1, .slice pn nn cn, .slice none 0 0] 26)) = W9 at *
      generalize hggn2 : w8.heap.size = gn2 at *
      clear hggn2
      by_cases hE0 : E = 0
      case neg =>
        have e1 : (E != 0) = true := by simpa using hE0
        clear hE0
        go_wp2_with fail
        go_ret
        exact ⟨rfl, HB9.out⟩
      have hop := HOP.out (HE.out.trans hE0)
      have e1 : (E != 0) = false := by simpa using hE0
      have HCK : Hid (chkI x = 0) := Lib.hid (HE.out.trans hE0)
      clear hE0 HOP
      have HGM2 : Hid (GoodB 0 (putX 0 V x)) := Lib.hid (putX_good HGV.out)
      have HGN2 : Hid (GoodB 1 (putX 1 U x)) := Lib.hid (putX_good HGU.out)
      have HNM2 : Hid ((putX 0 V x).length ≤ 21) := Lib.hid (by have := putX_len (x := x) HGV.out; have := HNV.out; omega)
      have HNN2 : Hid ((putX 1 U x).length ≤ 21) := Lib.hid (by have := putX_len (x := x) HGU.out; have := HNU.out; omega)
      have HAL := Lib.hid hop.1.1
      have HAM := Lib.hid hop.1.2
      have HSD := Lib.hid hop.2
      clear hop
      go_upto_region 18 with fail
      clear e1
      have HG := Lib.hid (look_any W9 0 1 x.c pm none pb none nm cm 0 0 nb cb 0 0 (putX 0 V x) U QM9.out QU9.out HLM.out.symm HLU.out (by have := HNM2.out; omega) (by have := HNU.out; omega) (goodB_ok HGM2.out) (goodB_ok HGU.out))
      unfold lookV pairV bookV at HG
      rw [HAL.out, HAM.out] at HG
      have HBS := Lib.hid (amts_small (soldL_ok (s := 0) (b := 1) (c := x.c) (goodB_ok HGU.out)) (by have := soldL_len 0 1 x.c U; have := HNU.out; omega))
      generalize amtS (soldL 0 1 x.c U) = B1 at *
      have a0 : W9.cell? ⟨gm2, 0, none⟩ = some (.int .i64 0) := Hm9.out.cell 0
      have a1 : W9.cell? ⟨gm2, 1, none⟩ = some (.slice pm nm cm) := Hm9.out.cell 1
      have a2 : W9.cell? ⟨gm2, 2, none⟩ = some (.slice none 0 0) := Hm9.out.cell 2
      have b0 : W9.cell? ⟨(ga + 1), 0, none⟩ = some (.int .i64 1) := Hu9.out.cell 0
      have b1 : W9.cell? ⟨(ga + 1), 1, none⟩ = some (.slice pb nb cb) := Hu9.out.cell 1
      have b2 : W9.cell? ⟨(ga + 1), 2, none⟩ = some (.slice none 0 0) := Hu9.out.cell 2
      have c3 : W9.cell? ⟨w.heap.size, 3, none⟩ = some (.int .i64 x.c) := Hx9.out.cell 3
      go_wp2_with fail
      clear a0 a1 a2 b0 b1 b2 c3
      refine HG.out.mono ?_
      rintro y9 w10 ⟨rfl, hb⟩
      clear HG
      have Hx10 := Lib.hid (Hx9.out.below hb Hx9.out.lt)
      have Hv10 := Lib.hid (Hv9.out.below hb Hv9.out.lt)
      have Hu10 := Lib.hid (Hu9.out.below hb Hu9.out.lt)
      have Hm10 := Lib.hid (Hm9.out.below hb Hm9.out.lt)
      have Hn10 := Lib.hid (Hn9.out.below hb Hn9.out.lt)
      have QV10 := Lib.hid (QV9.out.kept hb)
      have QU10 := Lib.hid (QU9.out.kept hb)
      have QM10 := Lib.hid (QM9.out.kept hb)
      have QN10 := Lib.hid (QN9.out.kept hb)
      have HB10 := Lib.hid (HB9.out.trans (hb.mono HB9.out.size))
      have HZ10 : Hid (w.heap.size ≤ w10.heap.size) := Lib.hid (Nat.le_trans HZ9.out hb.size)
      clear Hx9 Hv9 Hu9 Hm9 Hn9 QV9 QU9 QM9 QN9 HB9 HZ9
      clear hb
      have hba := oneB w10 (.cells #[.int .i64 0, .int .i64 1, .int .i64 (B1 + x.a), .int .i64 B1, .bool false] 30)
      have Hx11 := Lib.hid (Hx10.out.below hba Hx10.out.lt)
      have Hv11 := Lib.hid (Hv10.out.below hba Hv10.out.lt)
      have Hu11 := Lib.hid (Hu10.out.below hba Hu10.out.lt)
      have Hm11 := Lib.hid (Hm10.out.below hba Hm10.out.lt)
      have Hn11 := Lib.hid (Hn10.out.below hba Hn10.out.lt)
      have QV11 := Lib.hid (QV10.out.kept hba)
      have QU11 := Lib.hid (QU10.out.kept hba)
      have QM11 := Lib.hid (QM10.out.kept hba)
      have QN11 := Lib.hid (QN10.out.kept hba)
      have Hp11 := Lib.hid (Blk.new w10 #[.int .i64 0, .int .i64 1, .int .i64 (B1 + x.a), .int .i64 B1, .bool false] 30)
      have HB11 := Lib.hid (HB10.out.alloc HB10.out.size (.cells #[.int .i64 0, .int .i64 1, .int .i64 (B1 + x.a), .int .i64 B1, .bool false] 30))
      have HZ11 : Hid (w.heap.size ≤ (w10.alloc (.cells #[.int .i64 0, .int .i64 1, .int .i64 (B1 + x.a), .int .i64 B1, .bool false] 30)).heap.size) := Lib.hid (Nat.le_trans HZ10.out hba.size)
      have HGgp : Hid (w.heap.size ≤ w10.heap.size) := Lib.hid HB10.out.size
      clear hba Hx10 Hv10 Hu10 Hm10 Hn10 QV10 QU10 QM10 QN10 HB10 HZ10
      go_upto_region 19 with fail
      generalize (w10.alloc (.cells #[.int .i64 0, .int .i64 1, .int .i64 (B1 + x.a), .int .i64 B1, .bool false] 30)) = W11 at *
      generalize hggp : w10.heap.size = gp at *
      clear hggp
      have HG := Lib.hid (look_any W11 0 1 x.c pm none pn none nm cm 0 0 nn cn 0 0 (putX 0 V x) (putX 1 U x) QM11.out QN11.out HLM.out.symm HLN.out.symm (by have := HNM2.out; omega) (by have := HNN2.out; omega) (goodB_ok HGM2.out) (goodB_ok HGN2.out))
      unfold lookV pairV bookV at HG
      rw [show alikeB 0 1 x.c (putX 0 V x) (putX 1 U x) = true from decide_eq_true HSD.out, ← HSD.out, HAM.out] at HG
      have a0 : W11.cell? ⟨gm2, 0, none⟩ = some (.int .i64 0) := Hm11.out.cell 0
      have a1 : W11.cell? ⟨gm2, 1, none⟩ = some (.slice pm nm cm) := Hm11.out.cell 1
      have a2 : W11.cell? ⟨gm2, 2, none⟩ = some (.slice none 0 0) := Hm11.out.cell 2
      have b0 : W11.cell? ⟨gn2, 0, none⟩ = some (.int .i64 1) := Hn11.out.cell 0
      have b1 : W11.cell? ⟨gn2, 1, none⟩ = some (.slice pn nn cn) := Hn11.out.cell 1
      have b2 : W11.cell? ⟨gn2, 2, none⟩ = some (.slice none 0 0) := Hn11.out.cell 2
      have c3 : W11.cell? ⟨w.heap.size, 3, none⟩ = some (.int .i64 x.c) := Hx11.out.cell 3
      go_wp2_with fail
      clear a0 a1 a2 b0 b1 b2 c3
      refine HG.out.mono ?_
      rintro y9 w12 ⟨rfl, hb⟩
      clear HG
      have Hx12 := Lib.hid (Hx11.out.below hb Hx11.out.lt)
      have Hv12 := Lib.hid (Hv11.out.below hb Hv11.out.lt)
      have Hu12 := Lib.hid (Hu11.out.below hb Hu11.out.lt)
      have Hm12 := Lib.hid (Hm11.out.below hb Hm11.out.lt)
      have Hn12 := Lib.hid (Hn11.out.below hb Hn11.out.lt)
      have Hp12 := Lib.hid (Hp11.out.below hb Hp11.out.lt)
      have QV12 := Lib.hid (QV11.out.kept hb)
      have QU12 := Lib.hid (QU11.out.kept hb)
      have QM12 := Lib.hid (QM11.out.kept hb)
      have QN12 := Lib.hid (QN11.out.kept hb)
      have HB12 := Lib.hid (HB11.out.trans (hb.mono HB11.out.size))
      have HZ12 : Hid (w.heap.size ≤ w12.heap.size) := Lib.hid (Nat.le_trans HZ11.out hb.size)
      clear Hx11 Hv11 Hu11 Hm11 Hn11 Hp11 QV11 QU11 QM11 QN11 HB11 HZ11
      clear hb
      have hba := oneB w12 (.cells #[.int .i64 0, .int .i64 1, .int .i64 (B1 + x.a), .int .i64 (B1 + x.a), .bool true] 30)
      have Hx13 := Lib.hid (Hx12.out.below hba Hx12.out.lt)
      have Hv13 := Lib.hid (Hv12.out.below hba Hv12.out.lt)
      have Hu13 := Lib.hid (Hu12.out.below hba Hu12.out.lt)
      have Hm13 := Lib.hid (Hm12.out.below hba Hm12.out.lt)
      have Hn13 := Lib.hid (Hn12.out.below hba Hn12.out.lt)
      have Hp13 := Lib.hid (Hp12.out.below hba Hp12.out.lt)
      have QV13 := Lib.hid (QV12.out.kept hba)
      have QU13 := Lib.hid (QU12.out.kept hba)
      have QM13 := Lib.hid (QM12.out.kept hba)
      have QN13 := Lib.hid (QN12.out.kept hba)
      have Hq13 := Lib.hid (Blk.new w12 #[.int .i64 0, .int .i64 1, .int .i64 (B1 + x.a), .int .i64 (B1 + x.a), .bool true] 30)
      have HB13 := Lib.hid (HB12.out.alloc HB12.out.size (.cells #[.int .i64 0, .int .i64 1, .int .i64 (B1 + x.a), .int .i64 (B1 + x.a), .bool true] 30))
      have HZ13 : Hid (w.heap.size ≤ (w12.alloc (.cells #[.int .i64 0, .int .i64 1, .int .i64 (B1 + x.a), .int .i64 (B1 + x.a), .bool true] 30)).heap.size) := Lib.hid (Nat.le_trans HZ12.out hba.size)
      have HGgq : Hid (w.heap.size ≤ w12.heap.size) := Lib.hid HB12.out.size
      clear hba Hx12 Hv12 Hu12 Hm12 Hn12 Hp12 QV12 QU12 QM12 QN12 HB12 HZ12
      go_upto_region 20 with fail
      generalize (w12.alloc (.cells #[.int .i64 0, .int .i64 1, .int .i64 (B1 + x.a), .int .i64 (B1 + x.a), .bool true] 30)) = W13 at *
      generalize hggq : w12.heap.size = gq at *
      clear hggq
      have HIN : Hid (∀ b ∈ [bkA pm nm cm (putX 0 V x), bkB pb nb cb U], b.In (W13.alloc (.cells #[.int .i64 0, .slice pm nm cm, .slice none 0 0, .int .i64 1, .slice pb nb cb, .slice none 0 0] 26))) := Lib.hid (two_in (QM13.out.kept (oneB _ _)) (QU13.out.kept (oneB _ _)) HLM.out.symm HLU.out HGM2.out HGU.out (by have := HNM2.out; omega) (by have := HNU.out; omega))
      have HG := Lib.hid (even_any (W13.alloc (.cells #[.int .i64 0, .slice pm nm cm, .slice none 0 0, .int .i64 1, .slice pb nb cb, .slice none 0 0] 26)) x.c _ _ (two_row (putX 0 V x) U (Blk.new W13 #[.int .i64 0, .slice pm nm cm, .slice none 0 0, .int .i64 1, .slice pb nb cb, .slice none 0 0] 26)) HIN.out (by simp))
      rw [even_odd HAL.out] at HG
      have hsub : IntKind.i64.wrap (B1 + x.a - B1) = x.a := by
        have h : B1 + x.a - B1 = x.a := by omega
        rw [h]
        exact IntWalk.i64_in _ HX.out.2.2.2.2.1
      have a0 : W13.cell? ⟨gp, 0, none⟩ = some (.int .i64 0) := Hp13.out.cell 0
      have a1 : W13.cell? ⟨gp, 1, none⟩ = some (.int .i64 1) := Hp13.out.cell 1
      have a2 : W13.cell? ⟨gp, 2, none⟩ = some (.int .i64 (B1 + x.a)) := Hp13.out.cell 2
      have a3 : W13.cell? ⟨gp, 3, none⟩ = some (.int .i64 B1) := Hp13.out.cell 3
      have a4 : W13.cell? ⟨gp, 4, none⟩ = some (.bool false) := Hp13.out.cell 4
      have b0 : W13.cell? ⟨gq, 0, none⟩ = some (.int .i64 0) := Hq13.out.cell 0
      have b1 : W13.cell? ⟨gq, 1, none⟩ = some (.int .i64 1) := Hq13.out.cell 1
      have b2 : W13.cell? ⟨gq, 2, none⟩ = some (.int .i64 (B1 + x.a)) := Hq13.out.cell 2
      have b3 : W13.cell? ⟨gq, 3, none⟩ = some (.int .i64 (B1 + x.a)) := Hq13.out.cell 3
      have b4 : W13.cell? ⟨gq, 4, none⟩ = some (.bool true) := Hq13.out.cell 4
      have c0 : W13.cell? ⟨w.heap.size, 0, none⟩ = some (.int .i64 x.s) := Hx13.out.cell 0
      have c1 : W13.cell? ⟨w.heap.size, 1, none⟩ = some (.int .i64 x.n) := Hx13.out.cell 1
      have c2 : W13.cell? ⟨w.heap.size, 2, none⟩ = some (.int .i64 x.b) := Hx13.out.cell 2
      have c3 : W13.cell? ⟨w.heap.size, 3, none⟩ = some (.int .i64 x.c) := Hx13.out.cell 3
      have c4 : W13.cell? ⟨w.heap.size, 4, none⟩ = some (.int .i64 x.a) := Hx13.out.cell 4
      have c5 : W13.cell? ⟨w.heap.size, 5, none⟩ = some (.int .i64 x.r) := Hx13.out.cell 5
      have c6 : W13.cell? ⟨w.heap.size, 6, none⟩ = some (.int .i64 x.t) := Hx13.out.cell 6
      have c7 : W13.cell? ⟨w.heap.size, 7, none⟩ = some (.int .i64 x.y) := Hx13.out.cell 7
      have d0 : W13.cell? ⟨gm2, 0, none⟩ = some (.int .i64 0) := Hm13.out.cell 0
      have d1 : W13.cell? ⟨gm2, 1, none⟩ = some (.slice pm nm cm) := Hm13.out.cell 1
      have d2 : W13.cell? ⟨gm2, 2, none⟩ = some (.slice none 0 0) := Hm13.out.cell 2
      have e0 : W13.cell? ⟨(ga + 1), 0, none⟩ = some (.int .i64 1) := Hu13.out.cell 0
      have e1 : W13.cell? ⟨(ga + 1), 1, none⟩ = some (.slice pb nb cb) := Hu13.out.cell 1
      have e2 : W13.cell? ⟨(ga + 1), 2, none⟩ = some (.slice none 0 0) := Hu13.out.cell 2
      clear HAL HAM HSD HIN
      go_wp2_with fail
      refine HG.out.mono ?_
      rintro y9 w14 ⟨rfl, hb⟩
      have HB14 := Lib.hid ((HB13.out.alloc HB13.out.size (.cells #[.int .i64 0, .slice pm nm cm, .slice none 0 0, .int .i64 1, .slice pb nb cb, .slice none 0 0] 26)).trans (hb.mono (Nat.le_trans HB13.out.size (by simp))))
      clear hb
      go_wp2_with fail
      go_ret
      exact ⟨rfl, HB14.out⟩
end Go.Proofs.Ytillckkohdjkbaa
