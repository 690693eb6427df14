/- A packet more on its way, one less: what the blocks hold. -/
import Derived.Test.YtfdehnfcoojljaaNetOwn
import Derived.Test.YtfdehnfcoojljaaNetDelW
namespace Go.Proofs.Ytfdehnfcoojljaa
open Go.RowKit
set_option linter.unusedSimpArgs false
theorem FlyX.push {P : Nat → Prop} {w w' : World} {g : Nat} {ks : List Pk} {p p' : Option Addr} {n c c' b : Nat} {aa : List Nat} {k : Pk} (h : FlyX P w g ks p n c aa) (ho : OwnT encA w' 0 55 (.slice p' (n + 1) c') (aa ++ [b])) (hg : w.grownBy w' (Value.slice p n c).ownBlock)
    (hor : (Value.slice p' (n + 1) c').ownBlock = (Value.slice p n c).ownBlock ∨ (Value.slice p' (n + 1) c').ownBlock = some w.heap.size) (hb : PkAt (InF P g (.slice p n c)) w b k) (hP : P w.heap.size) (hm : n + 1 ≤ 8192) :
    FlyX P (w'.setCell ⟨g, 0, none⟩ (.slice p' (n + 1) c')) g (ks ++ [k]) p' (n + 1) c' (aa ++ [b]) := by
  have hgl := h.blk.lt
  have hsz : w.heap.size ≤ w'.heap.size := hg.size
  have hne : some g ≠ (Value.slice p n c).ownBlock := fun e => (h.sown g e.symm).2 rfl
  have hblk := h.blk.grown hg hne
  have hC : Chg g w' (w'.setCell ⟨g, 0, none⟩ (.slice p' (n + 1) c')) := (Chg.refl _ w').set 0 _
  have hs' : ∀ s, (Value.slice p' (n + 1) c').ownBlock = some s → P s ∧ s ≠ g := by
    intro s hs
    rcases hor with h1 | h1
    · exact h.sown s (h1 ▸ hs)
    · rw [h1] at hs
      cases hs
      exact ⟨hP, by omega⟩
  have hmv : ∀ {a : Nat} {q : Pk}, PkAt (InF P g (.slice p n c)) w a q → PkAt (InF P g (.slice p' (n + 1) c')) (w'.setCell ⟨g, 0, none⟩ (.slice p' (n + 1) c')) a q := by
    intro a q hq
    have h1 := hq.mono (Q := fun b => InF P g (.slice p n c) b ∧ (Value.slice p' (n + 1) c').ownBlock ≠ some b) (fun b hb hp => ⟨hp, by
      intro e
      rcases hor with h2 | h2
      · exact hp.2.2 (h2 ▸ e)
      · rw [h2] at e
        cases e
        exact Nat.lt_irrefl _ hb⟩)
    have h2 := h1.keepP (KeepP.of_grown hg hsz (fun b hb e => hb.1.2.2 e.symm))
    have h3 := h2.keepP (KeepP.of_chg hC (fun hb => hb.1.2.1 rfl))
    exact h3.mono (fun b _ hb => ⟨hb.1.1, hb.1.2.1, hb.2⟩)
  refine ⟨hblk.set 0 _, ho.stay (fun s hs => hC.2 s (ho.lt s hs) (hs' s hs).2), by rw [List.length_append, List.length_append, h.len]; rfl, h.inP, hs', hm, fun i hi hi' => ?_⟩
  rw [List.length_append, List.length_singleton] at hi hi'
  by_cases hlt : i < aa.length
  · rw [List.getElem_append_left hlt, List.getElem_append_left (by rw [← h.len]; exact hlt)]
    exact hmv (h.at_ i hlt (by rw [← h.len]; exact hlt))
  · have hl := h.len
    rw [List.getElem_append_right (by omega), List.getElem_append_right (by omega)]
    simp only [List.getElem_singleton]
    exact hmv hb
theorem FlyX.pop {P : Nat → Prop} {w w' : World} {g s : Nat} {ks : List Pk} {n c i : Nat} {aa : List Nat} (h : FlyX P w g ks (some ⟨s, 0, none⟩) n c aa) (ho : OwnT encA w' 0 55 (.slice (some ⟨s, 0, none⟩) (n - 1) c) (aa.eraseIdx i)) (hc : Chg s w w') (hi : i < ks.length) :
    FlyX P (w'.setCell ⟨g, 0, none⟩ (.slice (some ⟨s, 0, none⟩) (n - 1) c)) g (ks.eraseIdx i) (some ⟨s, 0, none⟩) (n - 1) c (aa.eraseIdx i) := by
  have hs := h.sown s rfl
  have hblk := h.blk.chg hc (Ne.symm hs.2)
  have hC : Chg g w' (w'.setCell ⟨g, 0, none⟩ (.slice (some ⟨s, 0, none⟩) (n - 1) c)) := (Chg.refl _ w').set 0 _
  have hmv : ∀ {a : Nat} {q : Pk}, PkAt (InF P g (.slice (some ⟨s, 0, none⟩) n c)) w a q → PkAt (InF P g (.slice (some ⟨s, 0, none⟩) (n - 1) c)) (w'.setCell ⟨g, 0, none⟩ (.slice (some ⟨s, 0, none⟩) (n - 1) c)) a q := by
    intro a q hq
    exact ((hq.keepP (KeepP.of_chg hc (fun hb => hb.2.2 rfl))).keepP (KeepP.of_chg hC (fun hb => hb.2.1 rfl))).mono (fun b _ hb => hb)
  have hl := h.len
  refine ⟨hblk.set 0 _, ho.stay (fun b hb => by cases hb; exact hC.2 s (ho.lt s rfl) hs.2), by rw [List.length_eraseIdx, List.length_eraseIdx, hl], h.inP, (fun b hb => by cases hb; exact hs), (by have := h.max; omega), fun j hj hj' => ?_⟩
  rw [List.getElem_eraseIdx, List.getElem_eraseIdx]
  rw [List.length_eraseIdx] at hj hj'
  split
  · exact hmv (h.at_ j (by omega) (by omega))
  · exact hmv (h.at_ (j + 1) (by split at hj <;> omega) (by split at hj' <;> omega))
end Go.Proofs.Ytfdehnfcoojljaa
