/- A net in a law: its blocks are new ones, and none of the law's own. -/
import Derived.Test.YtfdehnfcoojljaaNetTake
import Derived.Test.YtfdehnfcoojljaaNetTakeN
import Derived.Test.YtfdehnfcoojljaaNetSend
namespace Go.Proofs.Ytfdehnfcoojljaa
open Go.RowKit
set_option linter.unusedSimpArgs false
/-- A net of which all blocks are new ones, from B on, and none is one of L. -/
def Net (B : Nat) (L : Nat → Prop) (w : World) (g : Nat) (ks : List Pk) : Prop := ∃ P, Fly P w g ks ∧ ∀ b, P b → B ≤ b ∧ b < w.heap.size ∧ ¬ L b
theorem Net.max {B : Nat} {L : Nat → Prop} {w : World} {g : Nat} {ks : List Pk} (h : Net B L w g ks) : ks.length ≤ 8192 := by obtain ⟨P, h, _⟩ := h; exact h.max
theorem Net.ge {B : Nat} {L : Nat → Prop} {w : World} {g : Nat} {ks : List Pk} (h : Net B L w g ks) : B ≤ w.heap.size := by obtain ⟨P, h, h2⟩ := h; have := h2 g h.inP; omega
theorem Net.kept {B : Nat} {L : Nat → Prop} {w w' : World} {g : Nat} {ks : List Pk} (h : Net B L w g ks) (hb : Below w.heap.size w w') : Net B L w' g ks := by
  obtain ⟨P, h, h2⟩ := h
  have := hb.size
  exact ⟨P, h.kept hb, fun b hb => ⟨(h2 b hb).1, by have := (h2 b hb).2.1; omega, (h2 b hb).2.2⟩⟩
theorem Net.ext {B : Nat} {L L' : Nat → Prop} {w : World} {g : Nat} {ks : List Pk} (h : Net B L w g ks) (hl : ∀ b, b < w.heap.size → L' b → L b) : Net B L' w g ks := by
  obtain ⟨P, h, h2⟩ := h
  exact ⟨P, h, fun b hb => ⟨(h2 b hb).1, (h2 b hb).2.1, fun hn => (h2 b hb).2.2 (hl b (h2 b hb).2.1 hn)⟩⟩
/-- One of the law's own blocks is another one. -/
theorem Net.chg {B gx : Nat} {L : Nat → Prop} {w w' : World} {g : Nat} {ks : List Pk} (h : Net B L w g ks) (hc : Chg gx w w') (hg : L gx ∨ gx < B) : Net B L w' g ks := by
  obtain ⟨P, h, h2⟩ := h
  have := hc.size
  exact ⟨P, h.keepP (KeepP.of_chg hc (fun hp => hg.elim (h2 _ hp).2.2 (fun hlt => by have := (h2 _ hp).1; omega))), fun b hb => ⟨(h2 b hb).1, by have := (h2 b hb).2.1; omega, (h2 b hb).2.2⟩⟩
theorem Net.zero (B : Nat) (L : Nat → Prop) (w : World) (hB : B ≤ w.heap.size) (hL : ¬ L w.heap.size) : Net B L (w.alloc (.cells #[.slice none 0 0] 26)) w.heap.size [] :=
  ⟨fun b => b = w.heap.size, Fly.zero _ (Blk.new w _ _) rfl, fun b hb => by subst hb; exact ⟨hB, by simp, hL⟩⟩
theorem net_send {B : Nat} {L Q : Nat → Prop} {g : Nat} {ks ls : List Pk} (w : World) (v : Value) (h : Net B L w g ks) (hr : PkRow Q w v ls) (hQ : ∀ b, Q b → b < B ∨ L b) (hL : ∀ b, L b → b < w.heap.size) : Calls Try.prog 9 #[.pointer (some ⟨g, 0, none⟩), v] w fun e w' => e = .returned (.int .i64 (min ls.length (8192 - ks.length) : Nat)) ∧ Net B L w' g (ks ++ ls.take (8192 - ks.length)) ∧ Below B w w' ∧ KeepP L w w' := by
  have hB := h.ge
  obtain ⟨P, h, h2⟩ := h
  refine (send_any w v h hr (fun b hq hp => (hQ b hq).elim (fun h => by have := (h2 b hp).1; omega) (h2 b hp).2.2)).mono ?_
  rintro e w' ⟨rfl, h3, h4⟩
  refine ⟨rfl, ⟨_, h3, ?_⟩, h4.below (fun b hp => (h2 b hp).1) hB, h4.keep (fun b hl hp => (h2 b hp).2.2 hl)⟩
  intro b hb
  have hs := h4.size
  rcases hb with hb | hb
  · have h5 := h2 b hb
    exact ⟨h5.1, by omega, h5.2.2⟩
  · exact ⟨by omega, hb.2, fun hl => by have := hL b hl; omega⟩
theorem net_twice {B : Nat} {L : Nat → Prop} {g : Nat} {ks : List Pk} (w : World) (i : Nat) (h : Net B L w g ks) (hi : i < ks.length) (hm : ks.length < 8192) (hL : ∀ b, L b → b < w.heap.size) : Calls Try.prog 12 #[.pointer (some ⟨g, 0, none⟩), .int .i64 i] w fun e w' => e = .returned (.int .i64 0) ∧ Net B L w' g (ks ++ [ks[i]]) ∧ Below B w w' ∧ KeepP L w w' := by
  have hB := h.ge
  obtain ⟨P, h, h2⟩ := h
  refine (twice_ok w i h hi hm).mono ?_
  rintro e w' ⟨rfl, h3, h4⟩
  refine ⟨rfl, ⟨_, h3, ?_⟩, h4.below (fun b hp => (h2 b hp).1) hB, h4.keep (fun b hl hp => (h2 b hp).2.2 hl)⟩
  intro b hb
  have hs := h4.size
  rcases hb with hb | hb
  · have h5 := h2 b hb
    exact ⟨h5.1, by omega, h5.2.2⟩
  · exact ⟨by omega, hb.2, fun hl => by have := hL b hl; omega⟩
theorem net_twice_no {B : Nat} {L : Nat → Prop} {g : Nat} {ks : List Pk} (w : World) (i : Int) (h : Net B L w g ks) (hi : ¬ (0 ≤ i ∧ i < (ks.length : Int))) : Calls Try.prog 12 #[.pointer (some ⟨g, 0, none⟩), .int .i64 i] w fun e w' => e = .returned (.int .i64 4) ∧ w' = w := by
  obtain ⟨P, h, _⟩ := h
  exact twice_no w i h hi
theorem net_twice_full {B : Nat} {L : Nat → Prop} {g : Nat} {ks : List Pk} (w : World) (i : Nat) (h : Net B L w g ks) (hi : i < ks.length) (hm : 8192 ≤ ks.length) : Calls Try.prog 12 #[.pointer (some ⟨g, 0, none⟩), .int .i64 i] w fun e w' => e = .returned (.int .i64 3) ∧ w' = w := by
  obtain ⟨P, h, _⟩ := h
  exact twice_full w i h hi hm
theorem net_len {B : Nat} {L : Nat → Prop} {g : Nat} {ks : List Pk} (w : World) (h : Net B L w g ks) : Calls Try.prog 14 #[.pointer (some ⟨g, 0, none⟩)] w fun e w' => e = .returned (.int .i64 ks.length) ∧ w' = w := by
  obtain ⟨P, h, _⟩ := h
  exact len_any w h
theorem net_look {B : Nat} {L : Nat → Prop} {g : Nat} {ks : List Pk} (w : World) (i : Nat) (h : Net B L w g ks) (hi : i < ks.length) : Calls Try.prog 13 #[.pointer (some ⟨g, 0, none⟩), .int .i64 i] w fun e w' => ∃ z : PkX, e = .returned (.tuple #[z.v, .int .i64 0]) ∧ z.pk = ks[i] ∧ z.x.InP (fun b => w.heap.size ≤ b ∧ b < w'.heap.size) w' ∧ Below w.heap.size w w' := by
  obtain ⟨P, h, _⟩ := h
  exact look_ok w i h hi
theorem net_look_own {B : Nat} {L : Nat → Prop} {g : Nat} {ks : List Pk} (w : World) (i : Nat) (h : Net B L w g ks) (hi : i < ks.length) : Calls Try.prog 13 #[.pointer (some ⟨g, 0, none⟩), .int .i64 i] w fun e w' => ∃ z : PkX, e = .returned (.tuple #[z.v, .int .i64 0]) ∧ z.pk = ks[i] ∧ (z.x.InP (fun b => w.heap.size ≤ b ∧ b < w'.heap.size) w' ∧ OwnT encN w' w.heap.size 48 z.x.vl z.x.m.ls) ∧ Below w.heap.size w w' := by
  obtain ⟨P, h, _⟩ := h
  exact look_own w i h hi
theorem net_look_no {B : Nat} {L : Nat → Prop} {g : Nat} {ks : List Pk} (w : World) (i : Int) (h : Net B L w g ks) (hi : ¬ (0 ≤ i ∧ i < (ks.length : Int))) : Calls Try.prog 13 #[.pointer (some ⟨g, 0, none⟩), .int .i64 i] w fun e w' => e = .returned (.tuple #[zeroVK, .int .i64 4]) ∧ Below w.heap.size w w' := by
  obtain ⟨P, h, _⟩ := h
  exact look_no w i h hi
theorem net_take {B : Nat} {L : Nat → Prop} {g : Nat} {ks : List Pk} (w : World) (i : Nat) (h : Net B L w g ks) (hi : i < ks.length) : Calls Try.prog 10 #[.pointer (some ⟨g, 0, none⟩), .int .i64 i] w fun e w' => ∃ z : PkX, e = .returned (.tuple #[z.v, .int .i64 0]) ∧ z.pk = ks[i] ∧ z.x.InP (fun b => w.heap.size ≤ b ∧ b < w'.heap.size) w' ∧ Net B L w' g (ks.eraseIdx i) ∧ Below B w w' ∧ KeepP L w w' := by
  have hB := h.ge
  obtain ⟨P, h, h2⟩ := h
  refine (take_ok w i h hi).mono ?_
  rintro e w' ⟨z, rfl, hz1, hz2, h3, h4⟩
  have hs := h4.size
  exact ⟨z, rfl, hz1, hz2, ⟨P, h3, fun b hb => ⟨(h2 b hb).1, by have := (h2 b hb).2.1; omega, (h2 b hb).2.2⟩⟩, h4.below (fun b hp => (h2 b hp).1) hB, h4.keep (fun b hl hp => (h2 b hp).2.2 hl)⟩
theorem net_take_no {B : Nat} {L : Nat → Prop} {g : Nat} {ks : List Pk} (w : World) (i : Int) (h : Net B L w g ks) (hi : ¬ (0 ≤ i ∧ i < (ks.length : Int))) : Calls Try.prog 10 #[.pointer (some ⟨g, 0, none⟩), .int .i64 i] w fun e w' => e = .returned (.tuple #[zeroVK, .int .i64 4]) ∧ Below w.heap.size w w' := by
  obtain ⟨P, h, _⟩ := h
  exact take_no w i h hi
end Go.Proofs.Ytfdehnfcoojljaa
