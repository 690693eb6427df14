/- Packets as values; append that tells which block is the new one. -/
import Derived.Test.YtfdehnfcoojljaaAtP
namespace Go.Proofs.Ytfdehnfcoojljaa
open Go.RowKit
set_option linter.unusedSimpArgs false
structure Pk where
  f : Int
  t : Int
  n : Int
  h : Int
  m : Msg
structure PkX where
  f : Int
  t : Int
  n : Int
  h : Int
  x : MsgX
def PkX.pk (y : PkX) : Pk := ⟨y.f, y.t, y.n, y.h, y.x.m⟩
def PkX.cells (y : PkX) : List Value := .int .i64 y.f :: .int .i64 y.t :: .int .i64 y.n :: .int .i64 y.h :: y.x.cells
def encK : Enc PkX := ⟨15, PkX.cells, by decide, fun _ => rfl, by
  intro y u hu
  simp only [PkX.cells, List.mem_cons] at hu
  rcases hu with rfl | rfl | rfl | rfl | hu
  · rfl
  · rfl
  · rfl
  · rfl
  · exact encM.one y.x u hu⟩
def msgZ : Msg := ⟨0, 0, 0, 0, 0, 0, 0, 0, false, [], []⟩
def msgZX : MsgX := ⟨msgZ, none, 0, none, 0⟩
def zeroVK : Value := .agg #[.int .i64 0, .int .i64 0, .int .i64 0, .int .i64 0, .int .i64 0, .int .i64 0, .int .i64 0, .int .i64 0, .int .i64 0, .int .i64 0, .int .i64 0, .int .i64 0, .bool false, .slice none 0 0, .slice none 0 0]
theorem eltK : EltT encK Try.prog 27 38 zeroVK 152 := eltT_mk Try.underlying27 (by kernel_rfl)
theorem infoK : (Try.prog.info? 38).map (·.size) = some 15 := by kernel_rfl
def PkRow (P : Nat → Prop) (w : World) (v : Value) (ks : List Pk) : Prop := ∃ ys : List PkX, TRow encK w v ys ∧ At P v ys.length ∧ (∀ y ∈ ys, y.x.InP P w) ∧ ys.map PkX.pk = ks
theorem PkRow.kept {P : Nat → Prop} {w w' : World} {v : Value} {ks : List Pk} (h : PkRow P w v ks) (hb : Below w.heap.size w w') : PkRow P w' v ks := by
  obtain ⟨ys, h1, h2, h3, h4⟩ := h
  exact ⟨ys, h1.kept hb, h2, fun y hy => (h3 y hy).kept hb, h4⟩
theorem PkRow.keepP {P : Nat → Prop} {w w' : World} {v : Value} {ks : List Pk} (h : PkRow P w v ks) (hk : KeepP P w w') : PkRow P w' v ks := by
  obtain ⟨ys, h1, h2, h3, h4⟩ := h
  exact ⟨ys, h1.keepP h2 hk, h2, fun y hy => (h3 y hy).keepP hk, h4⟩
theorem PkRow.shape {P : Nat → Prop} {w : World} {v : Value} {ks : List Pk} (h : PkRow P w v ks) : ∃ p c, v = .slice p ks.length c := by
  obtain ⟨ys, h1, _, _, rfl⟩ := h
  obtain ⟨p, c, rfl⟩ := h1.shape
  exact ⟨p, c, by rw [List.length_map]⟩
section
variable {α : Type} {e : Enc α}
theorem wpList_append_tg {P : Program} {w : World} {ops : Array Oper} {rest : List Oper} {o : Oper} {a : Act} {Q : Exit → Act → World → Prop} (hgd : o.guard = none) (s x : Operand) (t : TypeId)
    (ho : o.op = .call { callee := .builtin .append, args := #[s, x], argTypes := #[t, t] })
    (ty : TypeId) (z : Value) (bytes base : Nat) (he : EltT e P t ty z bytes) (hzs : z.cells.size = e.k) (v y : Value) (xs ys : List α) (hs : a.eval s = v) (hx : a.eval x = y) (hown : OwnT e w base ty v xs) (hrow : TRow e w y ys)
    (h63 : xs.length + ys.length ≤ 140737488355328) (hbytes : (xs.length + ys.length) * bytes ≤ 140737488355328) (hbase : base ≤ w.heap.size) (L : List α) (N : Nat) (hL : xs ++ ys = L) (hN : L.length = N)
    (h : ∀ p' c' w', OwnT e w' base ty (.slice p' N c') L → w.grownBy w' v.ownBlock → ((Value.slice p' N c').ownBlock = v.ownBlock ∨ (Value.slice p' N c').ownBlock = some w.heap.size) → Below base w w' → wpList P ops Q rest (a.put o.dst (.slice p' N c')) w') : wpList P ops Q (o :: rest) a w := by
  subst hL
  subst hN
  refine wpList_plain hgd fun K hK => ?_
  obtain ⟨v', w', hrun, h1, h2, h3⟩ := run_append_tb w t o.type ty z bytes base he hzs v y xs ys hown hrow h63 hbytes hbase
  unfold Oper.wp
  obtain ⟨p', c', rfl⟩ := h1.form
  simp [execOp, ho, resolve, invoke, builtin, hs, hx, hrun, Result.andThen]
  exact hK _ _ (by simpa using h p' c' w' h1 h2 h3 ((Below.refl _ _).grown h2 hbase (fun g hg' => hown.block_ge g hg')))
end
theorem OwnT.at_lt {α : Type} {e : Enc α} {w : World} {base : Nat} {ty : TypeId} {v : Value} {xs : List α} (h : OwnT e w base ty v xs) : At (fun b => base ≤ b ∧ b < w.heap.size) v xs.length := by
  rintro b o n c rfl hn
  exact ⟨h.block_ge b rfl, h.lt b rfl⟩
theorem Own.at_lt {k : IntKind} {w : World} {base : Nat} {ty : TypeId} {v : Value} {xs : List Int} (h : Own k w base ty v xs) : At (fun b => base ≤ b ∧ b < w.heap.size) v xs.length := by
  rintro b o n c rfl hn
  exact ⟨h.block_ge b rfl, h.lt b rfl⟩
theorem At.imp {P Q : Nat → Prop} {v : Value} {n : Nat} (h : At P v n) (hq : ∀ b, P b → Q b) : At Q v n := fun b o m c e hn => hq b (h b o m c e hn)
theorem KeepP.weak {P Q : Nat → Prop} {w w' : World} (h : KeepP P w w') (hq : ∀ b, Q b → P b) : KeepP Q w w' := ⟨h.1, fun b hb hp => h.2 b hb (hq b hp)⟩
theorem KeepP.of_grown {P : Nat → Prop} {w w' : World} {r : Option Nat} (h : w.grownBy w' r) (hs : w.heap.size ≤ w'.heap.size) (hr : ∀ b, P b → some b ≠ r) : KeepP P w w' := ⟨hs, fun b hb hp => h.block b hb (hr b hp)⟩
/-- A message stored behind the four numbers of a packet. -/
theorem blk_msg {w : World} {b : Nat} {t : TypeId} (a0 a1 a2 a3 : Value) (old new : List Value) (ho : old.length = 11) (hn : new.length = 11) (h : Blk w b (a0 :: a1 :: a2 :: a3 :: old).toArray t) : Blk (w.setCells b 4 new) b (a0 :: a1 :: a2 :: a3 :: new).toArray t := by
  obtain ⟨Z, hZ, hs, hj⟩ := blk_put new 4 _ w h
  have : Z = (a0 :: a1 :: a2 :: a3 :: new).toArray := by
    apply Array.ext_getElem?
    intro j
    by_cases h4 : j < 4
    · rw [(hj j).1 (.inl h4)]
      match j, h4 with
      | 0, _ => rfl
      | 1, _ => rfl
      | 2, _ => rfl
      | 3, _ => rfl
    · obtain ⟨i, rfl⟩ : ∃ i, j = i + 4 := ⟨j - 4, by omega⟩
      by_cases hi : i < 11
      · rw [(hj (i + 4)).2 (by omega) (by omega) (by simp [ho]; omega)]
        simp
      · rw [(hj (i + 4)).1 (.inr (by omega))]
        simp [ho, hn, hi]
  rw [← this]
  exact hZ
theorem there_msg {w : World} {b : Nat} {t : TypeId} {cs : Array Value} (h : Blk w b cs t) (hs : cs.size = 15) : w.there b 4 11 := fun j hj => by
  refine ⟨?_, h.free _⟩
  rw [h.cell (4 + j), Array.getElem?_eq_getElem (by omega)]
  rfl
end Go.Proofs.Ytfdehnfcoojljaa
