/- What opening, writing, syncing does to a disk that is up and on which no crash is due. -/
import Derived.Test.YtjbhcdmeeakdcaaWalRenew
namespace Go.Proofs.Ytjbhcdmeeakdcaa
open Go.RowKit
theorem frE_take {l : List Int} (ho : Oct l) (h : frE l = 0) {t : Nat} (ht : (frN l).toNat ≤ t) : frE (l.take t) = 0 ∧ frD (l.take t) = frD l ∧ frN (l.take t) = frN l := by
  obtain ⟨h1, h2, h3, h4, h5, h6, h7⟩ := frE_ok ho h
  have ht8 : 8 + num4 l ≤ t := by omega
  have e1 : num4 (l.take t) = num4 l := by rw [← num4_take (l.take t), List.take_take, show min 4 t = 4 by omega, num4_take]
  have e2 : num4 ((l.take t).drop 4) = num4 (l.drop 4) := by
    rw [List.drop_take, ← num4_take ((l.drop 4).take (t - 4)), List.take_take, show min 4 (t - 4) = 4 by omega, num4_take]
  have e3 : datL (l.take t) = datL l := by
    unfold datL
    rw [e1, List.drop_take, List.take_take, show min (num4 l).toNat (t - 8) = (num4 l).toNat by omega]
  have e4 : (l.take t).length = min t l.length := List.length_take
  have hE : frE (l.take t) = 0 := by
    unfold frE at h ⊢
    rw [e1, e2, e3, e4]
    rw [if_neg (by omega), if_neg (by omega), if_neg (by omega)] at h
    rw [if_neg (by omega), if_neg (by omega), if_neg (by omega)]
    exact h
  refine ⟨hE, ?_, ?_⟩
  · unfold frD; rw [if_pos hE, if_pos h, e3]
  · unfold frN; rw [if_pos hE, if_pos h, e1]
/-- The bytes that are records scan as all bytes do. -/
theorem sc_take {l : List Int} (ho : Oct l) : scD (l.take (scN l)) = scD l ∧ scN (l.take (scN l)) = scN l := by
  suffices h : ∀ n (l : List Int), l.length ≤ n → Oct l → scD (l.take (scN l)) = scD l ∧ scN (l.take (scN l)) = scN l from h l.length l (Nat.le_refl _) ho
  intro n
  induction n with
  | zero =>
    intro l hl _
    have h := sc_short (l := l) (by omega)
    rw [h.2, List.take_zero, h.1]
    exact sc_short (by simp)
  | succ n ih =>
    intro l hl ho
    by_cases he : frE l = 0
    · have hk := frE_ok ho he
      have h := sc_yes ho he
      have hi := ih (l.drop (frN l).toNat) (by rw [List.length_drop]; omega) (ho.drop _)
      have ht : (frN l).toNat ≤ scN l := by omega
      obtain ⟨a1, a2, a3⟩ := frE_take ho he ht
      have h' := sc_yes (ho.take (scN l)) a1
      rw [a3, a2, List.drop_take, show scN l - (frN l).toNat = scN (l.drop (frN l).toNat) by omega] at h'
      rw [h'.1, h'.2, hi.1, hi.2]
      exact ⟨h.1.symm, h.2.symm⟩
    · have h := sc_no he
      rw [h.2, List.take_zero, h.1]
      exact sc_short (by simp)
theorem scD_le {l : List Int} (ho : Oct l) : (scD l).length ≤ l.length := by
  suffices h : ∀ n (l : List Int), l.length ≤ n → Oct l → (scD l).length ≤ l.length from h l.length l (Nat.le_refl _) ho
  intro n
  induction n with
  | zero =>
    intro l hl _
    have h := sc_short (l := l) (by omega)
    rw [h.1]; simp
  | succ n ih =>
    intro l hl ho
    by_cases he : frE l = 0
    · have hk := frE_ok ho he
      have hi := ih (l.drop (frN l).toNat) (by rw [List.length_drop]; omega) (ho.drop _)
      rw [List.length_drop] at hi
      rw [(sc_yes ho he).1, List.length_cons]
      omega
    · rw [(sc_no he).1]; simp
/-- Up, and no crash is due. -/
def DSt.Calm (d : DSt) : Prop := d.dn = false ∧ d.left = -1
theorem calm_all {d : DSt} (hok : d.Ok) : d.all.length ≤ d.room := by
  have h := all_length d
  obtain ⟨_, _, _, _, _, _, _, _, hf⟩ := hok
  unfold DSt.free at hf
  omega
theorem calm_sync {d : DSt} (h : d.Calm) : d.syncE = 0 ∧ d.syncD = ⟨d.room, d.all, [], false, false, -1⟩ := by
  obtain ⟨h1, h2⟩ := h
  have hn : ¬ d.dn = true := by rw [h1]; decide
  refine ⟨if_neg hn, ?_⟩
  have e : d.syncD = d.settleD := if_neg hn
  rw [e]
  unfold DSt.settleD
  rw [h1, h2]
theorem spend_calm (n : Nat) : spendE (-1) n = false ∧ spendL (-1) n = -1 ∧ spendN (-1) n = n := by
  have h : spendE (-1) n = false := by unfold spendE; exact decide_eq_false (by omega)
  refine ⟨h, by unfold spendL; rfl, ?_⟩
  unfold spendN
  rw [h]; rfl
theorem calm_renew {d : DSt} (h : d.Calm) {zs : List Int} (hr : zs.length ≤ d.room) : d.renewE zs.length = 0 ∧ d.renewD zs = ⟨d.room, d.S, zs, true, false, -1⟩ := by
  obtain ⟨h1, h2⟩ := h
  have hn : ¬ d.dn = true := by rw [h1]; decide
  have hs := spend_calm zs.length
  constructor
  · unfold DSt.renewE
    rw [if_neg hn, if_neg (by omega), h2, hs.1]; rfl
  · unfold DSt.renewD
    rw [if_neg (by intro h; rcases h with h | h; exact hn h; omega), h2, hs.1, if_neg (by decide), hs.2.1, h1]
theorem calm_write {d : DSt} (h : d.Calm) {zs : List Int} (hr : ¬ d.free < zs.length) : d.writeE zs.length = 0 ∧ d.writeD zs = ⟨d.room, d.S, d.R ++ zs, d.nw, false, -1⟩ := by
  obtain ⟨h1, h2⟩ := h
  have hn : ¬ d.dn = true := by rw [h1]; decide
  have hs := spend_calm zs.length
  constructor
  · unfold DSt.writeE
    rw [if_neg hn, if_neg hr, h2, hs.1]; rfl
  · unfold DSt.writeD
    rw [if_neg (by intro h; rcases h with h | h; exact hn h; exact hr h), h2, hs.1, hs.2.1, hs.2.2, List.take_length]
theorem calm_full {d : DSt} (h : d.Calm) {zs : List Int} (hr : d.free < zs.length) : d.writeE zs.length = 3 ∧ d.writeD zs = d := by
  obtain ⟨h1, h2⟩ := h
  have hn : ¬ d.dn = true := by rw [h1]; decide
  constructor
  · unfold DSt.writeE
    rw [if_neg hn, if_pos hr]
  · unfold DSt.writeD
    rw [if_pos (.inr hr)]
/-- Opened: what are records is kept, for sure. -/
theorem calm_open {d : DSt} (h : d.Calm) (hok : d.Ok) : openE d = 0 ∧ openD d = ⟨d.room, d.all.take (scN d.all), [], false, false, -1⟩ := by
  have hn : ¬ d.dn = true := by rw [h.1]; decide
  have hal := calm_all hok
  have hsl := scN_le (all_oct hok)
  have h1 : op1E d = 0 ∧ (op1D d).Calm ∧ (op1D d).room = d.room ∧ (op1D d).all = d.all.take (scN d.all) := by
    unfold op1E op1D opK
    by_cases hlt : scN d.all < d.all.length
    · have hlk : (d.all.take (scN d.all)).length = scN d.all := by rw [List.length_take]; omega
      have hr := calm_renew h (zs := d.all.take (scN d.all)) (by rw [hlk]; omega)
      rw [hlk] at hr
      rw [if_pos hlt, if_pos hlt, hr.1, hr.2]
      exact ⟨rfl, ⟨rfl, rfl⟩, rfl, by simp [DSt.all, DSt.ahead]⟩
    · rw [if_neg hlt, if_neg hlt]
      refine ⟨rfl, h, rfl, ?_⟩
      rw [show scN d.all = d.all.length by omega, List.take_length]
  have hs := calm_sync h1.2.1
  unfold openE openD
  rw [if_neg hn, if_neg hn, if_pos h1.1, if_pos h1.1, hs.1, hs.2, h1.2.2.1, h1.2.2.2]
  exact ⟨rfl, rfl⟩
theorem rowFarB {w w' : World} {v : Value} {zs : List Int} (h : Row .u8 w v zs) (hb : Below w.heap.size w w') (g : Nat) (hg : w.heap.size ≤ g) : ∃ g0, g0 ≠ g ∧ RowAt .u8 w' g0 v zs := by
  obtain ⟨p, c, rfl, hc, h⟩ := h
  rcases h with h | ⟨b, o, rfl, h⟩
  · exact ⟨g + 1, by omega, p, c, rfl, hc, .inl h⟩
  · by_cases h0 : zs = []
    · exact ⟨g + 1, by omega, _, c, rfl, hc, .inl h0⟩
    · have hl : 0 < zs.length := List.length_pos_iff.2 h0
      have hbl := World.block_lt_of_cell? w _ (h 0 hl)
      refine ⟨b, by dsimp only at hbl; omega, _, c, rfl, hc, .inr ⟨o, rfl, fun i hi => (hb.cell (p := ⟨b, o + i, none⟩) hbl).trans (h i hi)⟩⟩
theorem own_belowP {P : Nat → Prop} {k : IntKind} {w w' : World} {base B : Nat} {e : TypeId} {v : Value} {zs : List Int} (h : Own k w base e v zs) (hP : ∀ b, base ≤ b → b < w.heap.size → P b) (hb : BelowP P B w w') : Own k w' base e v zs := by
  refine ⟨h.1, ?_⟩
  have hl := h.lt
  rcases h.2 with h | ⟨g, cap, cur, hv, hbg, hg, hr⟩
  · exact .inl h
  · have hgl : g < w.heap.size := hl g (by rw [hv]; rfl)
    exact .inr ⟨g, cap, cur, hv, hbg, (hb.2 g (hP g hbg hgl) hgl).trans hg, hr⟩
theorem rowTake {k : IntKind} {w : World} {n c : Nat} {p : Option Addr} {zs : List Int} (h : Row k w (.slice p n c) zs) (m : Nat) (hm : m ≤ zs.length) : Row k w (.slice p m c) (zs.take m) := by
  obtain ⟨p', c', e, hc, h⟩ := h
  cases e
  have hl : (zs.take m).length = m := by rw [List.length_take]; omega
  refine ⟨p, c, by rw [hl], by omega, ?_⟩
  rcases h with h | ⟨b, o, hp, h⟩
  · left; rw [h]; simp
  · refine .inr ⟨b, o, hp, fun i hi => ?_⟩
    rw [hl] at hi
    rw [h i (by omega), List.getD_eq_getElem?_getD, List.getD_eq_getElem?_getD, List.getElem?_take, if_pos hi]
end Go.Proofs.Ytjbhcdmeeakdcaa
