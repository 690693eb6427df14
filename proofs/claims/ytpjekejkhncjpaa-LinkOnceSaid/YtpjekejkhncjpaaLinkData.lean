/- Sessions as values: what was said to each, how much of each was heard. -/
import Derived.Test.YtpjekejkhncjpaaAtP
namespace Go.Proofs.Ytpjekejkhncjpaa
open Go.RowKit
/-- A session as it lies in cells. -/
structure PeerX where
  p : Option Addr
  n : Nat
  c : Nat
  h : Int
def PeerX.cells (x : PeerX) : List Value := [.slice x.p x.n x.c, .int .i64 x.h]
def encP : Enc PeerX := ⟨2, PeerX.cells, by decide, fun _ => rfl, by intro x u hu; simp [PeerX.cells] at hu; rcases hu with rfl | rfl <;> rfl⟩
/-- A slice of messages. -/
def MRow (P : Nat → Prop) (w : World) (v : Value) (ms : List Msg) : Prop := ∃ xs : List MsgX, TRow encM w v xs ∧ At P v xs.length ∧ (∀ x ∈ xs, x.InP P w) ∧ xs.map MsgX.m = ms
theorem MRow.kept {P : Nat → Prop} {w w' : World} {v : Value} {ms : List Msg} (h : MRow P w v ms) (hb : Below w.heap.size w w') : MRow P w' v ms := by
  obtain ⟨xs, h1, h2, h3, h4⟩ := h
  exact ⟨xs, h1.kept hb, h2, fun x hx => (h3 x hx).kept hb, h4⟩
theorem MRow.keepP {P : Nat → Prop} {w w' : World} {v : Value} {ms : List Msg} (h : MRow P w v ms) (hk : KeepP P w w') : MRow P w' v ms := by
  obtain ⟨xs, h1, h2, h3, h4⟩ := h
  exact ⟨xs, h1.keepP h2 hk, h2, fun x hx => (h3 x hx).keepP hk, h4⟩
theorem MRow.mono {P Q : Nat → Prop} {w : World} {v : Value} {ms : List Msg} (h : MRow P w v ms) (hq : ∀ b, b < w.heap.size → P b → Q b) : MRow Q w v ms := by
  obtain ⟨xs, h1, h2, h3, h4⟩ := h
  exact ⟨xs, h1, fun b o n c e hn => hq b (by have h2 := h1; rw [e] at h2; exact h2.lt_ hn) (h2 b o n c e hn), fun x hx => (h3 x hx).mono hq, h4⟩
theorem MRow.nil_ (P : Nat → Prop) (w : World) : MRow P w (.slice none 0 0) [] := ⟨[], TRow.nil_ _ _, At.nil_ _ _, (fun _ h => by cases h), rfl⟩
theorem MRow.shape {P : Nat → Prop} {w : World} {v : Value} {ms : List Msg} (h : MRow P w v ms) : ∃ p c, v = .slice p ms.length c := by
  obtain ⟨xs, h1, _, _, rfl⟩ := h
  obtain ⟨p, c, rfl⟩ := h1.shape
  exact ⟨p, c, by rw [List.length_map]⟩
/-- What was said to one, how much of it was heard. -/
abbrev Pe := List Msg × Int
def PeOk (P : Nat → Prop) (w : World) (x : PeerX) (q : Pe) : Prop := x.h = q.2 ∧ x.n = q.1.length ∧ MRow P w (.slice x.p x.n x.c) q.1
theorem PeOk.kept {P : Nat → Prop} {w w' : World} {x : PeerX} {q : Pe} (h : PeOk P w x q) (hb : Below w.heap.size w w') : PeOk P w' x q := ⟨h.1, h.2.1, h.2.2.kept hb⟩
theorem PeOk.keepP {P : Nat → Prop} {w w' : World} {x : PeerX} {q : Pe} (h : PeOk P w x q) (hk : KeepP P w w') : PeOk P w' x q := ⟨h.1, h.2.1, h.2.2.keepP hk⟩
theorem PeOk.mono {P Q : Nat → Prop} {w : World} {x : PeerX} {q : Pe} (h : PeOk P w x q) (hq : ∀ b, b < w.heap.size → P b → Q b) : PeOk Q w x q := ⟨h.1, h.2.1, h.2.2.mono hq⟩
/-- A slice of sessions. -/
def PeRow (P : Nat → Prop) (w : World) (v : Value) (qs : List Pe) : Prop := ∃ xs : List PeerX, TRow encP w v xs ∧ At P v xs.length ∧ xs.length = qs.length ∧ ∀ i (h : i < xs.length) (h' : i < qs.length), PeOk P w xs[i] qs[i]
theorem PeRow.kept {P : Nat → Prop} {w w' : World} {v : Value} {qs : List Pe} (h : PeRow P w v qs) (hb : Below w.heap.size w w') : PeRow P w' v qs := by
  obtain ⟨xs, h1, h2, h3, h4⟩ := h
  exact ⟨xs, h1.kept hb, h2, h3, fun i hi hi' => (h4 i hi hi').kept hb⟩
theorem PeRow.keepP {P : Nat → Prop} {w w' : World} {v : Value} {qs : List Pe} (h : PeRow P w v qs) (hk : KeepP P w w') : PeRow P w' v qs := by
  obtain ⟨xs, h1, h2, h3, h4⟩ := h
  exact ⟨xs, h1.keepP h2 hk, h2, h3, fun i hi hi' => (h4 i hi hi').keepP hk⟩
theorem PeRow.mono {P Q : Nat → Prop} {w : World} {v : Value} {qs : List Pe} (h : PeRow P w v qs) (hq : ∀ b, b < w.heap.size → P b → Q b) : PeRow Q w v qs := by
  obtain ⟨xs, h1, h2, h3, h4⟩ := h
  exact ⟨xs, h1, fun b o n c e hn => hq b (by have h2 := h1; rw [e] at h2; exact h2.lt_ hn) (h2 b o n c e hn), h3, fun i hi hi' => (h4 i hi hi').mono hq⟩
theorem PeRow.shape {P : Nat → Prop} {w : World} {v : Value} {qs : List Pe} (h : PeRow P w v qs) : ∃ p c, v = .slice p qs.length c := by
  obtain ⟨xs, h1, _, h2, _⟩ := h
  obtain ⟨p, c, rfl⟩ := h1.shape
  exact ⟨p, c, by rw [h2]⟩
def zeroVM : Value := .agg #[.int .i64 0, .int .i64 0, .int .i64 0, .int .i64 0, .int .i64 0, .int .i64 0, .int .i64 0, .int .i64 0, .bool false, .slice none 0 0, .slice none 0 0]
theorem eltM : EltT encM Try.prog 22 36 zeroVM 120 := eltT_mk Try.underlying22 (by kernel_rfl)
theorem elt_cloneP_any : EltT encP Try.prog 25 46 (.agg #[.slice none 0 0, .int .i64 0]) 32 := eltT_mk Try.underlying25 (by kernel_rfl)
end Go.Proofs.Ytpjekejkhncjpaa
