/- Sessions as values: what was said to each, how much of each was heard. -/
import Derived.Test.YtfdailohpaiccaaLiftMsg
import Derived.Test.YtfdailohpaiccaaTRow3
import Derived.Test.YtfdailohpaiccaaChg
namespace Go.Proofs.Ytfdailohpaiccaa
open Go.RowKit
/-- A session as it lies in cells. -/
structure PeerX where
  p : Option Addr
  n : Nat
  c : Nat
  h : Int
def PeerX.cells (x : PeerX) : List Value := [.slice x.p x.n x.c, .int .i64 x.h]
def encP : Enc PeerX := ⟨2, PeerX.cells, by decide, fun _ => rfl, by intro x u hu; simp [PeerX.cells] at hu; rcases hu with rfl | rfl <;> rfl⟩
/-- A message's lists fit into the reach of memory. -/
def Msg.Sz (m : Msg) : Prop := m.ls.length * 32 ≤ 140737488351232 ∧ m.ns.length * 8 ≤ 140737488351232
/-- The block in which a slice lies is one of P, unless it is empty. -/
def At (P : Nat → Prop) (v : Value) (len : Nat) : Prop := ∀ b o n c, v = .slice (some ⟨b, o, none⟩) n c → 0 < len → P b
theorem At.nil_ (P : Nat → Prop) (v : Value) : At P v 0 := fun _ _ _ _ _ h => absurd h (Nat.lt_irrefl 0)
/-- Of P's blocks none is another one. -/
def KeepP (P : Nat → Prop) (w w' : World) : Prop := w.heap.size ≤ w'.heap.size ∧ ∀ b, b < w.heap.size → P b → w'.heap[b]? = w.heap[b]?
theorem KeepP.refl (P : Nat → Prop) (w : World) : KeepP P w w := ⟨Nat.le_refl _, fun _ _ _ => rfl⟩
theorem KeepP.of_below {P : Nat → Prop} {w w' : World} (h : Below w.heap.size w w') : KeepP P w w' := ⟨h.size, fun b hb _ => h.block b hb⟩
theorem KeepP.of_chg {P : Nat → Prop} {g : Nat} {w w' : World} (h : Chg g w w') (hg : ¬ P g) : KeepP P w w' := ⟨h.size, fun b hb hp => h.2 b hb (fun e => hg (e ▸ hp))⟩
theorem KeepP.trans {P : Nat → Prop} {w a b : World} (h : KeepP P w a) (k : KeepP P a b) : KeepP P w b := ⟨Nat.le_trans h.1 k.1, fun i hi hp => (k.2 i (Nat.lt_of_lt_of_le hi h.1) hp).trans (h.2 i hi hp)⟩
theorem TRow.lt_ {α : Type} {e : Enc α} {w : World} {b o : Nat} {n c : Nat} {xs : List α} (h : TRow e w (.slice (some ⟨b, o, none⟩) n c) xs) (hn : 0 < xs.length) : b < w.heap.size := by
  obtain ⟨b', o', e1, hb, _⟩ := h.at_ 0 hn
  cases e1
  exact hb
theorem Row.lt_ {k : IntKind} {w : World} {b o : Nat} {n c : Nat} {xs : List Int} (h : Row k w (.slice (some ⟨b, o, none⟩) n c) xs) (hn : 0 < xs.length) : b < w.heap.size := by
  obtain ⟨p', c', e1, _, h⟩ := h
  cases e1
  rcases h with h | ⟨b', o', hp, h⟩
  · subst h; simp at hn
  · cases hp
    exact World.block_lt_of_cell? w _ (h 0 hn)
theorem TRow.keepP {α : Type} {e : Enc α} {P : Nat → Prop} {w w' : World} {v : Value} {xs : List α} (h : TRow e w v xs) (ha : At P v xs.length) (hk : KeepP P w w') : TRow e w' v xs := by
  obtain ⟨p, c, rfl, hc, h⟩ := h
  refine ⟨p, c, rfl, hc, ?_⟩
  rcases h with h | ⟨b, o, rfl, hlt, h⟩
  · exact .inl h
  · by_cases hn : 0 < xs.length
    · have hb := hk.2 b hlt (ha b o _ _ rfl hn)
      exact .inr ⟨b, o, rfl, Nat.lt_of_lt_of_le hlt hk.1, fun i hi t ht => (World.cell?_of_block (a := ⟨b, _, none⟩) hb).trans (h i hi t ht)⟩
    · exact .inl (List.length_eq_zero_iff.1 (by omega))
theorem Row.keepP {k : IntKind} {P : Nat → Prop} {w w' : World} {v : Value} {xs : List Int} (h : Row k w v xs) (ha : At P v xs.length) (hk : KeepP P w w') : Row k w' v xs := by
  have h0 := h
  obtain ⟨p, c, rfl, hc, h⟩ := h
  refine ⟨p, c, rfl, hc, ?_⟩
  rcases h with h | ⟨b, o, rfl, h⟩
  · exact .inl h
  · by_cases hn : 0 < xs.length
    · have hb := hk.2 b (h0.lt_ hn) (ha b o _ _ rfl hn)
      exact .inr ⟨b, o, rfl, fun i hi => (World.cell?_of_block (a := ⟨b, _, none⟩) hb).trans (h i hi)⟩
    · exact .inl (List.length_eq_zero_iff.1 (by omega))
theorem OwnT.at_P {α : Type} {e : Enc α} {P : Nat → Prop} {w : World} {base : Nat} {ty : TypeId} {v : Value} {xs : List α} (h : OwnT e w base ty v xs) (hP : ∀ b, base ≤ b → P b) : At P v xs.length := by
  rintro b o n c rfl hn
  obtain ⟨_, h2⟩ := h
  rcases h2 with ⟨h2, _⟩ | ⟨g, cap, cur, h2, hb, _⟩
  · cases h2
  · cases h2
    exact hP _ hb
theorem Own.at_P {k : IntKind} {P : Nat → Prop} {w : World} {base : Nat} {ty : TypeId} {v : Value} {xs : List Int} (h : Own k w base ty v xs) (hP : ∀ b, base ≤ b → P b) : At P v xs.length := by
  rintro b o n c rfl hn
  obtain ⟨_, h2⟩ := h
  rcases h2 with ⟨h2, _⟩ | ⟨g, cap, cur, h2, hb, _⟩
  · cases h2
  · cases h2
    exact hP _ hb
/-- A message whose lists lie in P. -/
structure MsgX.InP (P : Nat → Prop) (w : World) (x : MsgX) : Prop where
  ls : TRow encN w x.vl x.m.ls
  ns : Row .i64 w x.vn x.m.ns
  al : At P x.vl x.m.ls.length
  an : At P x.vn x.m.ns.length
  sz : x.m.Sz
theorem MsgX.InP.kept {P : Nat → Prop} {w w' : World} {x : MsgX} (h : x.InP P w) (hb : Below w.heap.size w w') : x.InP P w' := ⟨h.ls.kept hb, h.ns.kept hb, h.al, h.an, h.sz⟩
theorem MsgX.InP.keepP {P : Nat → Prop} {w w' : World} {x : MsgX} (h : x.InP P w) (hk : KeepP P w w') : x.InP P w' := ⟨h.ls.keepP h.al hk, h.ns.keepP h.an hk, h.al, h.an, h.sz⟩
theorem MsgX.InP.mono {P Q : Nat → Prop} {w : World} {x : MsgX} (h : x.InP P w) (hq : ∀ b, b < w.heap.size → P b → Q b) : x.InP Q w :=
  ⟨h.ls, h.ns, fun b o n c e hn => hq b (by have h2 := h.ls; rw [e] at h2; exact h2.lt_ hn) (h.al b o n c e hn), fun b o n c e hn => hq b (by have h2 := h.ns; rw [e] at h2; exact h2.lt_ hn) (h.an b o n c e hn), h.sz⟩
/-- A slice of messages. -/
def MRow (P : Nat → Prop) (w : World) (v : Value) (ms : List Msg) : Prop := ∃ xs : List MsgX, TRow encM w v xs ∧ At P v xs.length ∧ (∀ x ∈ xs, x.InP P w) ∧ xs.map MsgX.m = ms
theorem MRow.kept {P : Nat → Prop} {w w' : World} {v : Value} {ms : List Msg} (h : MRow P w v ms) (hb : Below w.heap.size w w') : MRow P w' v ms := by
  obtain ⟨xs, h1, h2, h3, h4⟩ := h
  exact ⟨xs, h1.kept hb, h2, fun x hx => (h3 x hx).kept hb, h4⟩
theorem MRow.keepP {P : Nat → Prop} {w w' : World} {v : Value} {ms : List Msg} (h : MRow P w v ms) (hk : KeepP P w w') : MRow P w' v ms := by
  obtain ⟨xs, h1, h2, h3, h4⟩ := h
  exact ⟨xs, h1.keepP h2 hk, h2, fun x hx => (h3 x hx).keepP hk, h4⟩
theorem MRow.mono {P Q : Nat → Prop} {w : World} {v : Value} {ms : List Msg} (h : MRow P w v ms) (hq : ∀ b, b < w.heap.size → P b → Q b) : MRow Q w v ms := by
  obtain ⟨xs, h1, h2, h3, h4⟩ := h
  exact ⟨xs, h1, fun b o n c e hn => hq b (by have h2 := h1; rw [e] at h2; exact h2.lt_ hn) (h2 b o n c e hn), fun x hx => (h3 x hx).mono hq, h4⟩
theorem MRow.nil_ (P : Nat → Prop) (w : World) : MRow P w (.slice none 0 0) [] := ⟨[], TRow.nil_ _ _, At.nil_ _ _, (fun _ h => by cases h), rfl⟩
theorem MRow.shape {P : Nat → Prop} {w : World} {v : Value} {ms : List Msg} (h : MRow P w v ms) : ∃ p c, v = .slice p ms.length c := by
  obtain ⟨xs, h1, _, _, rfl⟩ := h
  obtain ⟨p, c, rfl⟩ := h1.shape
  exact ⟨p, c, by rw [List.length_map]⟩
/-- What was said to one, how much of it was heard. -/
abbrev Pe := List Msg × Int
def PeOk (P : Nat → Prop) (w : World) (x : PeerX) (q : Pe) : Prop := x.h = q.2 ∧ x.n = q.1.length ∧ MRow P w (.slice x.p x.n x.c) q.1
theorem PeOk.kept {P : Nat → Prop} {w w' : World} {x : PeerX} {q : Pe} (h : PeOk P w x q) (hb : Below w.heap.size w w') : PeOk P w' x q := ⟨h.1, h.2.1, h.2.2.kept hb⟩
theorem PeOk.keepP {P : Nat → Prop} {w w' : World} {x : PeerX} {q : Pe} (h : PeOk P w x q) (hk : KeepP P w w') : PeOk P w' x q := ⟨h.1, h.2.1, h.2.2.keepP hk⟩
theorem PeOk.mono {P Q : Nat → Prop} {w : World} {x : PeerX} {q : Pe} (h : PeOk P w x q) (hq : ∀ b, b < w.heap.size → P b → Q b) : PeOk Q w x q := ⟨h.1, h.2.1, h.2.2.mono hq⟩
/-- A slice of sessions. -/
def PeRow (P : Nat → Prop) (w : World) (v : Value) (qs : List Pe) : Prop := ∃ xs : List PeerX, TRow encP w v xs ∧ At P v xs.length ∧ xs.length = qs.length ∧ ∀ i (h : i < xs.length) (h' : i < qs.length), PeOk P w xs[i] qs[i]
theorem PeRow.kept {P : Nat → Prop} {w w' : World} {v : Value} {qs : List Pe} (h : PeRow P w v qs) (hb : Below w.heap.size w w') : PeRow P w' v qs := by
  obtain ⟨xs, h1, h2, h3, h4⟩ := h
  exact ⟨xs, h1.kept hb, h2, h3, fun i hi hi' => (h4 i hi hi').kept hb⟩
theorem PeRow.keepP {P : Nat → Prop} {w w' : World} {v : Value} {qs : List Pe} (h : PeRow P w v qs) (hk : KeepP P w w') : PeRow P w' v qs := by
  obtain ⟨xs, h1, h2, h3, h4⟩ := h
  exact ⟨xs, h1.keepP h2 hk, h2, h3, fun i hi hi' => (h4 i hi hi').keepP hk⟩
theorem PeRow.mono {P Q : Nat → Prop} {w : World} {v : Value} {qs : List Pe} (h : PeRow P w v qs) (hq : ∀ b, b < w.heap.size → P b → Q b) : PeRow Q w v qs := by
  obtain ⟨xs, h1, h2, h3, h4⟩ := h
  exact ⟨xs, h1, fun b o n c e hn => hq b (by have h2 := h1; rw [e] at h2; exact h2.lt_ hn) (h2 b o n c e hn), h3, fun i hi hi' => (h4 i hi hi').mono hq⟩
theorem PeRow.shape {P : Nat → Prop} {w : World} {v : Value} {qs : List Pe} (h : PeRow P w v qs) : ∃ p c, v = .slice p qs.length c := by
  obtain ⟨xs, h1, _, h2, _⟩ := h
  obtain ⟨p, c, rfl⟩ := h1.shape
  exact ⟨p, c, by rw [h2]⟩
def zeroVM : Value := .agg #[.int .i64 0, .int .i64 0, .int .i64 0, .int .i64 0, .int .i64 0, .int .i64 0, .int .i64 0, .int .i64 0, .bool false, .slice none 0 0, .slice none 0 0]
theorem eltM : EltT encM Try.prog 22 36 zeroVM 120 := eltT_mk Try.underlying22 (by kernel_rfl)
theorem elt_cloneN_any : EltT encN Try.prog 33 61 (.agg #[.int .i64 0, .int .i64 0, .int .i64 0, .int .i64 0]) 32 := eltT_mk Try.underlying33 (by kernel_rfl)
theorem elt_cloneP_any : EltT encP Try.prog 25 46 (.agg #[.slice none 0 0, .int .i64 0]) 32 := eltT_mk Try.underlying25 (by kernel_rfl)
theorem elt_mkM {P : Program} {t e : TypeId} {k : IntKind} {bytes : Nat} (ht : P.underlying t = some (.slice e)) (h : (P.info? e).map (fun i => (i.zero, i.size, i.bytes)) = some (some (.int k 0), 1, bytes)) : Elt P t e k bytes := by
  cases hi : P.info? e with
  | none => rw [hi] at h; cases h
  | some i =>
    rw [hi] at h
    simp at h
    exact ⟨i, ht, hi, h.1, h.2.1, h.2.2⟩
theorem elt64M : Elt Try.prog 34 2 .i64 8 := elt_mkM Try.underlying34 (by kernel_rfl)
end Go.Proofs.Ytfdailohpaiccaa
