/- NetPlays: the state of its loops. -/
import Derived.Test.YtfdehnfcoojljaaNetIn
import Derived.Test.YtfdehnfcoojljaaLiftOpK
namespace Go.Proofs.Ytfdehnfcoojljaa
open Go.RowKit
set_option linter.unusedSimpArgs false
/-- The net, and the packets that it should have. -/
structure PSt (W : World) (g : Nat) (zs : List PkX) (v : Value) (wr : World) : Prop where
  net : Net W.heap.size (fun b => v.ownBlock = some b) wr g (zs.map PkX.pk)
  own : OwnT encK wr W.heap.size 38 v zs
  rows : ∀ z ∈ zs, z.x.InP (fun b => b < W.heap.size) W
  low : Below W.heap.size W wr
theorem PSt.kept {W : World} {g : Nat} {zs : List PkX} {v : Value} {wr w' : World} (h : PSt W g zs v wr) (hb : Below wr.heap.size wr w') : PSt W g zs v w' := ⟨h.net.kept hb, h.own.later hb, h.rows, h.low.trans (hb.mono h.low.size)⟩
theorem Net.grown {B : Nat} {L : Nat → Prop} {w w' : World} {g : Nat} {ks : List Pk} {r : Option Nat} (h : Net B L w g ks) (hg : w.grownBy w' r) (hr : ∀ b, r = some b → L b) : Net B L w' g ks := by
  obtain ⟨P, h, h2⟩ := h
  have hs : w.heap.size ≤ w'.heap.size := hg.size
  exact ⟨P, h.keepP (KeepP.of_grown hg hs (fun b hb e => (h2 b hb).2.2 (hr b e.symm))), fun b hb => ⟨(h2 b hb).1, by have := (h2 b hb).2.1; omega, (h2 b hb).2.2⟩⟩
/-- More is put behind the packets that it should have. -/
theorem PSt.more {W : World} {g : Nat} {zs ys : List PkX} {ks : List Pk} {v v' : Value} {w w' : World} (hn : Net W.heap.size (fun b => v.ownBlock = some b) w g ks) (hv : ∀ z ∈ zs ++ ys, z.x.InP (fun b => b < W.heap.size) W) (hlow : Below W.heap.size W w) (hk : ks = (zs ++ ys).map PkX.pk)
    (ho : OwnT encK w' W.heap.size 38 v' (zs ++ ys)) (hg : w.grownBy w' v.ownBlock) (hor : v'.ownBlock = v.ownBlock ∨ v'.ownBlock = some w.heap.size) (hb : Below W.heap.size w w') : PSt W g (zs ++ ys) v' w' := by
  subst hk
  have h1 := (hn.ext (L' := fun b => v.ownBlock = some b ∨ b = w.heap.size) (fun b hb h => h.elim id (fun e => by omega))).grown hg (fun b hb => .inl hb)
  exact ⟨h1.ext (fun b hb h => hor.elim (fun e => .inl (e ▸ h)) (fun e => .inr (by rw [e] at h; cases h; rfl))), ho, hv, hlow.trans hb⟩
theorem stop_op {P : Program} {ops : Array Oper} {rest : List Oper} {o : Oper} {a : Act} {w : World} {Q : Exit → Act → World → Prop} (q : Op) (_ : o.op = q) (h : Hid (wpList P ops Q (o :: rest) a w)) : wpList P ops Q (o :: rest) a w := h
theorem wpList_build {P : Program} {w w' : World} {ops : Array Oper} {rest : List Oper} {o : Oper} {a : Act} {Q : Exit → Act → World → Prop} (hgd : o.guard = none) (t : TypeId) (x : Operand) (ho : o.op = .buildSlice t 1 #[(0, x)]) (v0 v : Value) (hx : a.eval x = v0)
    (hrun : (Instr.buildSlice t 1 #[(0, v0)]).run P w = .ok v w') (h : wpList P ops Q rest (a.put o.dst v) w') : wpList P ops Q (o :: rest) a w := by
  refine wpList_plain hgd fun K hK => ?_
  unfold Oper.wp
  simp [execOp, ho, hx, hrun, Result.andThen]
  exact hK _ _ h
theorem bs_pk (y : PkX) (w : World) : (Instr.buildSlice 27 1 #[(0, .agg #[.int .i64 y.f, .int .i64 y.t, .int .i64 y.n, .int .i64 y.h, .int .i64 y.x.m.k, .int .i64 y.x.m.s, .int .i64 y.x.m.n, .int .i64 y.x.m.b, .int .i64 y.x.m.c, .int .i64 y.x.m.r, .int .i64 y.x.m.y, .int .i64 y.x.m.a, .bool y.x.m.t, .slice y.x.pl y.x.m.ls.length y.x.cl, .slice y.x.pn y.x.m.ns.length y.x.cn])]).run Try.prog w = .ok (.slice (some ⟨w.heap.size, 0, none⟩) 1 1) (w.alloc (.cells #[.int .i64 y.f, .int .i64 y.t, .int .i64 y.n, .int .i64 y.h, .int .i64 y.x.m.k, .int .i64 y.x.m.s, .int .i64 y.x.m.n, .int .i64 y.x.m.b, .int .i64 y.x.m.c, .int .i64 y.x.m.r, .int .i64 y.x.m.y, .int .i64 y.x.m.a, .bool y.x.m.t, .slice y.x.pl y.x.m.ls.length y.x.cl, .slice y.x.pn y.x.m.ns.length y.x.cn] 38)) := by
  go_simp
theorem fit_j {N t : Nat} (h : N ≤ 51 * t) (ht : t ≤ 60) : N ≤ 3060 := by omega
end Go.Proofs.Ytfdehnfcoojljaa
