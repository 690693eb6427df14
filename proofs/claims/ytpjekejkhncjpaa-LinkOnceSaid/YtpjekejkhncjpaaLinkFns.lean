/- link.New, other, with, Next, Hear by contract. -/
import Derived.Test.YtpjekejkhncjpaaLinkOwn
namespace Go.Proofs.Ytpjekejkhncjpaa
open Go.RowKit
set_option linter.unusedSimpArgs false
/-- A node's sessions, as they are handed on. -/
def Lnk (P : Nat → Prop) (w : World) (v : Value) (me : Int) (qs : List Pe) : Prop := ∃ p c, v = .agg #[.int .i64 me, .slice p qs.length c] ∧ PeRow P w (.slice p qs.length c) qs
theorem Lnk.kept {P : Nat → Prop} {w w' : World} {v : Value} {me : Int} {qs : List Pe} (h : Lnk P w v me qs) (hb : Below w.heap.size w w') : Lnk P w' v me qs := by
  obtain ⟨p, c, rfl, h⟩ := h
  exact ⟨p, c, rfl, h.kept hb⟩
theorem Lnk.keepP {P : Nat → Prop} {w w' : World} {v : Value} {me : Int} {qs : List Pe} (h : Lnk P w v me qs) (hk : KeepP P w w') : Lnk P w' v me qs := by
  obtain ⟨p, c, rfl, h⟩ := h
  exact ⟨p, c, rfl, h.keepP hk⟩
theorem Lnk.mono {P Q : Nat → Prop} {w : World} {v : Value} {me : Int} {qs : List Pe} (h : Lnk P w v me qs) (hq : ∀ b, b < w.heap.size → P b → Q b) : Lnk Q w v me qs := by
  obtain ⟨p, c, rfl, h⟩ := h
  exact ⟨p, c, rfl, h.mono hq⟩
/-- Is there another node of that number? -/
def okP (me : Int) (n : Nat) (i : Int) : Bool := decide (0 ≤ i) && (decide (i < (n : Int)) && !decide (i = me))
theorem okP_iff {me : Int} {n : Nat} {i : Int} : okP me n i = true ↔ 0 ≤ i ∧ i < (n : Int) ∧ i ≠ me := by simp [okP]
def peAt (me : Int) (qs : List Pe) (i : Int) : Pe := if okP me qs.length i then qs.getD i.toNat ([], 0) else ([], 0)
set_option maxHeartbeats 4000000 in
set_option maxRecDepth 100000 in
theorem other_any (P : Nat → Prop) (me i : Int) (p : Option Addr) (n c : Nat) (qs : List Pe) (w : World) (hn : n = qs.length) (hr : PeRow P w (.slice p n c) qs) :
    Calls Try.prog 12 #[.agg #[.int .i64 me, .slice p n c], .int .i64 i] w fun e w' => ∃ x : PeerX, e = .returned (.tuple #[.agg #[.slice x.p x.n x.c, .int .i64 x.h], .bool (okP me qs.length i)]) ∧ PeOk P w' x (peAt me qs i) ∧ Below w.heap.size w w' := by
  have HB := Lib.hid ((oneB w (.cells #[.int .i64 me, .slice p n c] 27)).trans ((oneB (w.alloc (.cells #[.int .i64 me, .slice p n c] 27)) (.cells #[.slice none 0 0, .int .i64 0] 46)).mono (by simp)))
  have HNO : Hid (∀ w', PeOk P w' ⟨none, 0, 0, 0⟩ ([], 0)) := fun w' => ⟨rfl, rfl, MRow.nil_ _ _⟩
  by_cases h : okP me qs.length i = true
  · rw [h]
    obtain ⟨h0, h1, h2⟩ := okP_iff.1 h
    obtain ⟨j, rfl⟩ := Int.eq_ofNat_of_zero_le h0
    have hj : j < qs.length := by omega
    have hP : peAt me qs j = qs[j] := by unfold peAt; rw [if_pos h]; simp [hj]
    rw [hP]
    obtain ⟨xs, hx, _, hl, ho⟩ := hr
    obtain ⟨b, o, rfl, hb, hc⟩ := hx.at_ j (by omega)
    have HO := Lib.hid (ho j (by omega) hj)
    generalize xs[j] = x at *
    have c0 : w.cell? ⟨b, o + j * 2, none⟩ = some (.slice x.p x.n x.c) := hc 0 (by decide)
    have c1 : w.cell? ⟨b, o + j * 2 + 1, none⟩ = some (.int .i64 x.h) := hc 1 (by decide)
    have hjn : (j : Int) < (n : Int) := by omega
    have hjn' : j < n := by omega
    have e2 : ((j : Int) != me) = true := by simpa using h2
    have e3 : ((j : Int) == me) = false := by simpa using h2
    clear h h1 hP hc hx hl ho hn
    generalize qs[j] = q at *
    clear hj
    go_enter Try.func12, Try.ntmps12
    go_wp2_with fail
    have hf := Blk.new' (w.alloc (.cells #[.int .i64 me, .slice (some ⟨b, o, none⟩) n c] 27)) #[.slice x.p x.n x.c, .int .i64 x.h] 46 (b := w.heap.size + 1) (by simp)
    refine bodyPost_ret (v := .tuple #[.agg #[.slice x.p x.n x.c, .int .i64 x.h], .bool true]) (by simp [results, Try.results12, go_sem, hf.cell 0, hf.cell 1]) rfl ⟨x, rfl, HO.out.kept ((oneB w _).trans ((oneB _ _).mono (by simp))), ?_⟩
    exact (oneB w _).trans ((oneB _ _).mono (by simp))
  · have h' : okP me qs.length i = false := by simpa using h
    rw [h']
    have hP : peAt me qs i = ([], 0) := by unfold peAt; rw [if_neg h]
    rw [hP]
    have hd : i < 0 ∨ (0 ≤ i ∧ (n : Int) ≤ i) ∨ (0 ≤ i ∧ i < (n : Int) ∧ i = me) := by
      have : ¬ (0 ≤ i ∧ i < (qs.length : Int) ∧ i ≠ me) := fun hh => h (okP_iff.2 hh)
      omega
    clear h h' hP hr
    rcases hd with h1 | ⟨h1, h2⟩ | ⟨h1, h2, h3⟩
    · have h1' : ¬ 0 ≤ i := by omega
      go_enter Try.func12, Try.ntmps12
      go_wp2_with fail
      have hf := Blk.new' (w.alloc (.cells #[.int .i64 me, .slice p qs.length c] 27)) #[.slice none 0 0, .int .i64 0] 46 (b := w.heap.size + 1) (by simp)
      refine bodyPost_ret (v := .tuple #[.agg #[.slice none 0 0, .int .i64 0], .bool false]) (by simp [results, Try.results12, go_sem, hf.cell 0, hf.cell 1]) rfl ⟨⟨none, 0, 0, 0⟩, rfl, HNO.out _, ?_⟩
      exact (oneB w _).trans ((oneB _ _).mono (by simp))
    · have h2' : ¬ i < (n : Int) := by omega
      go_enter Try.func12, Try.ntmps12
      go_wp2_with fail
      have hf := Blk.new' (w.alloc (.cells #[.int .i64 me, .slice p qs.length c] 27)) #[.slice none 0 0, .int .i64 0] 46 (b := w.heap.size + 1) (by simp)
      refine bodyPost_ret (v := .tuple #[.agg #[.slice none 0 0, .int .i64 0], .bool false]) (by simp [results, Try.results12, go_sem, hf.cell 0, hf.cell 1]) rfl ⟨⟨none, 0, 0, 0⟩, rfl, HNO.out _, ?_⟩
      exact (oneB w _).trans ((oneB _ _).mono (by simp))
    · subst h3
      go_enter Try.func12, Try.ntmps12
      go_wp2_with fail
      have hf := Blk.new' (w.alloc (.cells #[.int .i64 i, .slice p qs.length c] 27)) #[.slice none 0 0, .int .i64 0] 46 (b := w.heap.size + 1) (by simp)
      refine bodyPost_ret (v := .tuple #[.agg #[.slice none 0 0, .int .i64 0], .bool false]) (by simp [results, Try.results12, go_sem, hf.cell 0, hf.cell 1]) rfl ⟨⟨none, 0, 0, 0⟩, rfl, HNO.out _, ?_⟩
      exact (oneB w _).trans ((oneB _ _).mono (by simp))
end Go.Proofs.Ytpjekejkhncjpaa
