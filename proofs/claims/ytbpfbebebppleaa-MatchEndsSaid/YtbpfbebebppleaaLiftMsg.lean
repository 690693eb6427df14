/- From what a reading tells of a message by value, of its lists, and of a slice of messages, to models and rows. -/
import Derived.Test.YtbpfbebebppleaaMsgData
import Derived.Test.YtbpfbebebppleaaLiftLin
import Derived.Test.YtbpfbebebppleaaLift8
import Derived.ChangeSlices
import Derived.ChangeArms
namespace Go.Proofs.Ytbpfbebebppleaa
open Go.ChangeShapes Go.WideShapes Go.ChangeAt Go.RowKit
section
variable {H : Type} {enc : TypeId × Value → H} {P : Program} {w : World} {base : Nat} {held : Bool}
theorem nets_of_read {e q : TypeId} {fuel : Nat} {c : Value} {y : DataW H × List MemPlace}
    (he : P.underlying e = some (.slice q)) (hq : P.underlying q = some (.int .i64)) (cq : P.cellsOf q = 1) (h : DataW.trod enc P w base (fun _ => true) held fuel e [c] = some y) : ∃ zs, All64 zs ∧ Row .i64 w c zs := by
  rcases open_ints he hq cq h with ⟨hcs, _⟩ | ⟨x, l, cap, zs, hcs, _, hl, _, hz, _, hcell, hwz⟩
  · simp at hcs
    subst hcs
    exact ⟨[], (fun _ h => by cases h), none, 0, rfl, Nat.le_refl _, .inl rfl⟩
  · simp at hcs
    subst hcs
    obtain ⟨ys, h1, h2⟩ := row_of_open x zs (by simpa using hz) hl hcell hwz
    exact ⟨ys, h2, h1⟩
/-- A message as it lies in cells, with where its lists lie. -/
structure MsgX where
  m : Msg
  pl : Option Addr
  cl : Nat
  pn : Option Addr
  cn : Nat
def MsgX.vl (x : MsgX) : Value := .slice x.pl x.m.ls.length x.cl
def MsgX.vn (x : MsgX) : Value := .slice x.pn x.m.ns.length x.cn
def MsgX.cells (x : MsgX) : List Value := x.m.cells x.vl x.vn
def encM : Enc MsgX := ⟨11, MsgX.cells, by decide, fun _ => rfl, by intro x u hu; simp [MsgX.cells, Msg.cells, MsgX.vl, MsgX.vn] at hu; rcases hu with rfl | rfl | rfl | rfl | rfl | rfl | rfl | rfl | rfl | rfl | rfl <;> rfl⟩
structure MsgX.In (w : World) (x : MsgX) : Prop where
  ls : TRow encN w x.vl x.m.ls
  ns : Row .i64 w x.vn x.m.ns
  fit : x.m.Fit
theorem MsgX.In.kept {w w' : World} {x : MsgX} (h : x.In w) (hb : Below w.heap.size w w') : x.In w' := ⟨h.ls.kept hb, h.ns.kept hb, h.fit⟩
theorem msg_read {t sl tl sn q : TypeId} {fk g f0 f1 f2 f3 f4 f5 f6 f7 f8 f9 : Field}
    (ht : P.underlying t = some (.struct #[fk, g, f2, f3, f4, f5, f6, f7, f8, f9])) (hg : P.underlying g.type = some (.struct #[f0, f1]))
    (ok : fk.offset = 0) (og : g.offset = 1) (o0 : f0.offset = 0) (o1 : f1.offset = 1) (o2 : f2.offset = 3) (o3 : f3.offset = 4) (o4 : f4.offset = 5) (o5 : f5.offset = 6) (o6 : f6.offset = 7) (o7 : f7.offset = 8) (o8 : f8.offset = 9) (o9 : f9.offset = 10)
    (uk : P.underlying fk.type = some (.int .i64)) (u0 : P.underlying f0.type = some (.int .i64)) (u1 : P.underlying f1.type = some (.int .i64)) (u2 : P.underlying f2.type = some (.int .i64)) (u3 : P.underlying f3.type = some (.int .i64)) (u4 : P.underlying f4.type = some (.int .i64)) (u5 : P.underlying f5.type = some (.int .i64)) (u6 : P.underlying f6.type = some (.int .i64)) (u7 : P.underlying f7.type = some .bool)
    (t8 : f8.type = sl) (t9 : f9.type = sn) (hs : P.underlying sl = some (.slice tl)) (ct : P.cellsOf tl = 4)
    (rd : ∀ (fuel : Nat) (cs : List Value) (y : DataW H × List MemPlace), cs.length = 4 → DataW.trod enc P w base (fun _ => true) held fuel tl cs = some y → ∃ x : Lin, cs = x.cells ∧ x.Fit)
    (hn : P.underlying sn = some (.slice q)) (hq : P.underlying q = some (.int .i64)) (cq : P.cellsOf q = 1)
    (cc : P.cellsOf fk.type = 1 ∧ P.cellsOf g.type = 2 ∧ P.cellsOf f0.type = 1 ∧ P.cellsOf f1.type = 1 ∧ P.cellsOf f2.type = 1 ∧ P.cellsOf f3.type = 1 ∧ P.cellsOf f4.type = 1 ∧ P.cellsOf f5.type = 1 ∧ P.cellsOf f6.type = 1 ∧ P.cellsOf f7.type = 1 ∧ P.cellsOf sl = 1 ∧ P.cellsOf sn = 1)
    (fuel : Nat) (cs : List Value) (y : DataW H × List MemPlace) (hl : cs.length = 11) (hf : DataW.trod enc P w base (fun _ => true) held fuel t cs = some y) : ∃ x : MsgX, cs = x.cells ∧ x.In w := by
  obtain ⟨ck, cg, c0, c1, c2, c3, c4, c5, c6, c7, c8, c9⟩ := cc
  match cs, hl with
  | [vk, v0, v1, v2, v3, v4, v5, v6, v7, v8, v9], _ =>
    obtain ⟨xs, k, hk, hxy, _, hxl, hf⟩ := DataW.trod_struct ht hf
    match xs, hxl with
    | [yk, yg, y2, y3, y4, y5, y6, y7, y8, y9], _ =>
      have gk := hf 0 fk rfl
      have gg := hf 1 g rfl
      have g2 := hf 2 f2 rfl
      have g3 := hf 3 f3 rfl
      have g4 := hf 4 f4 rfl
      have g5 := hf 5 f5 rfl
      have g6 := hf 6 f6 rfl
      have g7 := hf 7 f7 rfl
      have g8 := hf 8 f8 rfl
      have g9 := hf 9 f9 rfl
      subst t8 t9
      simp [ok, og, o2, o3, o4, o5, o6, o7, o8, o9, ck, cg, c2, c3, c4, c5, c6, c7, c8, c9] at gk gg g2 g3 g4 g5 g6 g7 g8 g9
      obtain ⟨xs', k', hk', hxy', _, hxl', hf'⟩ := DataW.trod_struct hg gg
      match xs', hxl' with
      | [y0, y1], _ =>
        have g0 := hf' 0 f0 rfl
        have g1 := hf' 1 f1 rfl
        simp [o0, o1, c0, c1] at g0 g1
        obtain ⟨zk, qk, _, wk⟩ := DataW.trod_int uk gk
        obtain ⟨z0, q0, _, w0⟩ := DataW.trod_int u0 g0
        obtain ⟨z1, q1, _, w1⟩ := DataW.trod_int u1 g1
        obtain ⟨z2, q2, _, w2⟩ := DataW.trod_int u2 g2
        obtain ⟨z3, q3, _, w3⟩ := DataW.trod_int u3 g3
        obtain ⟨z4, q4, _, w4⟩ := DataW.trod_int u4 g4
        obtain ⟨z5, q5, _, w5⟩ := DataW.trod_int u5 g5
        obtain ⟨z6, q6, _, w6⟩ := DataW.trod_int u6 g6
        obtain ⟨z7, q7, _⟩ := DataW.trod_bool u7 g7
        obtain ⟨L, rL, fL⟩ := lines_of_read hs ct rd g8
        obtain ⟨N, fN, rN⟩ := nets_of_read hn hq cq g9
        simp at qk q0 q1 q2 q3 q4 q5 q6 q7
        subst qk q0 q1 q2 q3 q4 q5 q6 q7
        obtain ⟨pl, cl, rfl⟩ := rL.shape
        obtain ⟨pn, cn, rfl⟩ := rN.shape
        exact ⟨⟨⟨zk, z0, z1, z2, z3, z4, z5, z6, z7, L, N⟩, pl, cl, pn, cn⟩, rfl, rL, rN, ⟨bounds_i64 wk, bounds_i64 w0, bounds_i64 w1, bounds_i64 w2, bounds_i64 w3, bounds_i64 w4, bounds_i64 w5, bounds_i64 w6⟩, fL, fN⟩
theorem msg_of_open {t : TypeId} {fs : Array Field} {r : Reach} {b0 : Nat} {v : Value} {d : DataW H} {pl : List MemPlace}
    (ht : P.underlying t = some (.struct fs)) (ct : P.cellsOf t = 11)
    (rd : ∀ (fuel : Nat) (cs : List Value) (y : DataW H × List MemPlace), cs.length = 11 → DataW.trod enc P w base (fun _ => true) held fuel t cs = some y → ∃ x : MsgX, cs = x.cells ∧ x.In w)
    (hv : Value.okWide P w r b0 t v) (h : DataW.Trod enc P w base (fun _ => true) held t v d pl) : ∃ x : MsgX, v = x.m.v x.vl x.vn ∧ x.In w := by
  obtain ⟨cs, rfl, hsz⟩ := okWide_struct ht hv
  obtain ⟨fuel, hf⟩ := h
  obtain ⟨l⟩ := cs
  have hf' : DataW.trod enc P w base (fun _ => true) held fuel t l = some (d, pl) := by simpa [Value.cells] using hf
  obtain ⟨x, hx, hin⟩ := rd fuel l _ (by simpa using hsz.trans ct) hf'
  subst hx
  exact ⟨x, rfl, hin⟩
end
end Go.Proofs.Ytbpfbebebppleaa
