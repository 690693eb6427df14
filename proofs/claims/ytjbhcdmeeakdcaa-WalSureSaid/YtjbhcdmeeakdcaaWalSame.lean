/- contralaw07.same by contract: records and strings. -/
import Derived.Test.YtjbhcdmeeakdcaaLogs
import Derived.Deep.RegionHeld3
namespace Go.Proofs.Ytjbhcdmeeakdcaa
open Go.RowKit
/-- A slice of strings. -/
def StrR (w : World) (v : Value) (ess : List (List Int)) : Prop :=
  ∃ p c, v = .slice p ess.length c ∧ ess.length ≤ c ∧ (ess = [] ∨ ∃ b o, p = some ⟨b, o, none⟩ ∧ ∀ i, i < ess.length → w.cell? ⟨b, o + i, none⟩ = some (.string (strOfNums (ess.getD i []))))
theorem StrR.shape {w : World} {v : Value} {ess : List (List Int)} (h : StrR w v ess) : ∃ p c, v = .slice p ess.length c := by obtain ⟨p, c, e, _⟩ := h; exact ⟨p, c, e⟩
theorem StrR.kept {w w' : World} {v : Value} {ess : List (List Int)} (h : StrR w v ess) (hb : Below w.heap.size w w') : StrR w' v ess := by
  obtain ⟨p, c, rfl, hc, h⟩ := h
  refine ⟨p, c, rfl, hc, ?_⟩
  rcases h with h | ⟨b, o, rfl, h⟩
  · exact .inl h
  · exact .inr ⟨b, o, rfl, fun i hi => (hb.cell (p := ⟨b, o + i, none⟩) (World.block_lt_of_cell? w _ (h i hi))).trans (h i hi)⟩
theorem StrR.at_ {w : World} {p : Option Addr} {n c : Nat} {ess : List (List Int)} (h : StrR w (.slice p n c) ess) (i : Nat) (hi : i < ess.length) : ∃ b o, p = some ⟨b, o, none⟩ ∧ w.cell? ⟨b, o + i, none⟩ = some (.string (strOfNums (ess.getD i []))) := by
  obtain ⟨p', c', e, _, h⟩ := h
  cases e
  rcases h with h | ⟨b, o, hp, h⟩
  · rw [h] at hi; simp at hi
  · exact ⟨b, o, hp, h i hi⟩
theorem OwnV.strR {w : World} {base : Nat} {e : TypeId} {v : Value} {ess : List (List Int)} (h : OwnV w base e v (ess.map (fun d => Value.string (strOfNums d)))) : StrR w v ess := by
  have hl : (ess.map (fun d => Value.string (strOfNums d))).length = ess.length := List.length_map _
  obtain ⟨p, c, rfl⟩ := h.form
  rw [hl] at h ⊢
  by_cases h0 : ess.length = 0
  · have hn : ess = [] := List.length_eq_zero_iff.1 h0
    subst hn
    exact ⟨p, c, rfl, Nat.zero_le _, .inl rfl⟩
  · obtain ⟨g, rfl⟩ := h.some_ (by omega)
    refine ⟨_, c, rfl, ?_, .inr ⟨g, 0, rfl, fun i hi => ?_⟩⟩
    · rcases h.2 with ⟨hv, hl2⟩ | ⟨g, cap, cur, hv, _, _, hn, _⟩
      · rw [hl] at hl2; omega
      · have e := Value.slice.inj hv
        omega
    · rw [Nat.zero_add, (h.cell i hi).2, List.getD_eq_getElem?_getD, List.getD_eq_getElem?_getD, List.getElem?_map, List.getElem?_eq_getElem hi]
      rfl
set_option linter.unusedSimpArgs false in
set_option maxHeartbeats 8000000 in
set_option maxRecDepth 100000 in
theorem wsame_any (w : World) (a b : Value) (dss : List (List Int)) (ha : RowSS w a dss) (hb : StrR w b dss) (hm : dss.length ≤ 100000) :
    Calls Try.prog 23 #[a, b] w fun x w' => x = .returned (.bool true) ∧ Below w.heap.size w w' := by
  obtain ⟨pa, ca, rfl⟩ := ha.shape
  obtain ⟨pb, cb, rfl⟩ := hb.shape
  have HA := Lib.hid ha
  have HS := Lib.hid hb
  clear ha hb
  generalize hn : dss.length = n at *
  have HN := Lib.hid hn
  clear hn
  go_enter Try.func23, Try.ntmps23
  go_wp2_with fail
  go_loopw [5, 13] (fun _ i wr => ∃ k : Nat, k ≤ n ∧ i = .int .i64 k ∧ Hid (Below w.heap.size w wr)) (fun _ i _ => n - (intOf i).toNat)
  case atStart => exact ⟨0, by omega, rfl, (Below.refl _ _ : Below w.heap.size w w)⟩
  case round =>
    obtain ⟨k, hk, rfl, HK⟩ := hrel
    by_cases hlt : k < n
    · have hkl : k < dss.length := by rw [HN.out]; exact hlt
      have hltI : (k : Int) < (n : Int) := by omega
      obtain ⟨b1, o1, q, dd, rfl, hc1, hrow⟩ := (HA.out.kept HK.out.drew).at_ k hkl
      obtain ⟨b2, o2, rfl, hc2⟩ := (HS.out.kept HK.out.drew).at_ k hkl
      have K8 := conv_row (P := Try.prog) wr.drew 34 9 5 Try.underlying34 Try.underlying5 Try.underlying9 _ _ hrow
      generalize dss.getD k [] = ys at *
      have hk0 : (0 : Int) ≤ (k : Int) := by omega
      clear hrow
      go_wp2_with fail
      refine wp_region_held_drew (S := fun w' => w' = wr.drew) (by kernel_rfl) rfl (fun hS0 => ?_)
      refine wpAnyH_take (i := 0) (v := ?_) rfl (by kernel_rfl) (by kernel_rfl) (by kernel_rfl) (fun _ _ _ h => h) (Or.inl ⟨by kernel_rfl, ?_⟩) (by first | assumption | trivial) ?_
      rotate_left
      · intro w hSw
        try dsimp only at hSw
        subst hSw
        first | (go_simp; done) | (go_simp; with_reducible rfl)
      try simp only [Act.put, List.getElem_toArray, List.getElem_cons_succ, List.getElem_cons_zero, List.setIfInBounds_toArray, List.set_cons_zero, List.set_cons_succ]
      refine wpAnyH_take (i := 1) (v := ?_) rfl (by kernel_rfl) (by kernel_rfl) (by kernel_rfl) (fun _ _ _ h => h) (Or.inl ⟨by kernel_rfl, ?_⟩) (by first | assumption | trivial) ?_
      rotate_left
      · intro w hSw
        try dsimp only at hSw
        subst hSw
        first | (go_simp; done) | (go_simp; with_reducible rfl)
      try simp only [Act.put, List.getElem_toArray, List.getElem_cons_succ, List.getElem_cons_zero, List.setIfInBounds_toArray, List.set_cons_zero, List.set_cons_succ]
      refine wpAnyH_take (i := 2) (v := ?_) rfl (by kernel_rfl) (by kernel_rfl) (by kernel_rfl) (fun _ _ _ h => h) (Or.inl ⟨by kernel_rfl, ?_⟩) (by first | assumption | trivial) ?_
      rotate_left
      · intro w hSw
        try dsimp only at hSw
        subst hSw
        first | (go_simp; done) | (go_simp; with_reducible rfl)
      try simp only [Act.put, List.getElem_toArray, List.getElem_cons_succ, List.getElem_cons_zero, List.setIfInBounds_toArray, List.set_cons_zero, List.set_cons_succ]
      refine wpAnyH_take (i := 3) (v := ?_) rfl (by kernel_rfl) (by kernel_rfl) (by kernel_rfl) (fun _ _ _ h => h) (Or.inl ⟨by kernel_rfl, ?_⟩) (by first | assumption | trivial) ?_
      rotate_left
      · intro w hSw
        try dsimp only at hSw
        subst hSw
        first | (go_simp; done) | (go_simp; with_reducible rfl)
      try simp only [Act.put, List.getElem_toArray, List.getElem_cons_succ, List.getElem_cons_zero, List.setIfInBounds_toArray, List.set_cons_zero, List.set_cons_succ]
      refine wpAnyH_take (i := 4) (v := ?_) rfl (by kernel_rfl) (by kernel_rfl) (by kernel_rfl) (fun _ _ _ h => h) (Or.inl ⟨by kernel_rfl, ?_⟩) (by first | assumption | trivial) ?_
      rotate_left
      · intro w hSw
        try dsimp only at hSw
        subst hSw
        first | (go_simp; done) | (go_simp; with_reducible rfl)
      try simp only [Act.put, List.getElem_toArray, List.getElem_cons_succ, List.getElem_cons_zero, List.setIfInBounds_toArray, List.set_cons_zero, List.set_cons_succ]
      refine wpAnyH_take (i := 5) (v := ?_) rfl (by kernel_rfl) (by kernel_rfl) (by kernel_rfl) (fun _ _ _ h => h) (Or.inl ⟨by kernel_rfl, ?_⟩) (by first | assumption | trivial) ?_
      rotate_left
      · intro w hSw
        try dsimp only at hSw
        subst hSw
        first | (go_simp; done) | (go_simp; with_reducible rfl)
      try simp only [Act.put, List.getElem_toArray, List.getElem_cons_succ, List.getElem_cons_zero, List.setIfInBounds_toArray, List.set_cons_zero, List.set_cons_succ]
      refine wpAnyH_take (i := 6) (v := ?_) rfl (by kernel_rfl) (by kernel_rfl) (by kernel_rfl) (fun _ _ _ h => h) (Or.inl ⟨by kernel_rfl, ?_⟩) (by first | assumption | trivial) ?_
      rotate_left
      · intro w hSw
        try dsimp only at hSw
        subst hSw
        first | (go_simp; done) | (go_simp; with_reducible rfl)
      try simp only [Act.put, List.getElem_toArray, List.getElem_cons_succ, List.getElem_cons_zero, List.setIfInBounds_toArray, List.set_cons_zero, List.set_cons_succ]
      refine wpAnyH_take (i := 7) (v := ?_) rfl (by kernel_rfl) (by kernel_rfl) (by kernel_rfl) (fun _ _ _ h => h) (Or.inl ⟨by kernel_rfl, ?_⟩) (by first | assumption | trivial) ?_
      rotate_left
      · intro w hSw
        try dsimp only at hSw
        subst hSw
        first | (go_simp; done) | (go_simp; with_reducible rfl)
      try simp only [Act.put, List.getElem_toArray, List.getElem_cons_succ, List.getElem_cons_zero, List.setIfInBounds_toArray, List.set_cons_zero, List.set_cons_succ]
      refine wpAnyH_take (i := 8) (v := ?_) rfl (by kernel_rfl) (by kernel_rfl) (by kernel_rfl) (fun _ _ _ h => h) (Or.inl ⟨by kernel_rfl, ?_⟩) (by first | assumption | trivial) ?_
      rotate_left
      · intro w hSw
        try dsimp only at hSw
        subst hSw
        first | (go_simp; done) | (go_simp; with_reducible rfl)
      try simp only [Act.put, List.getElem_toArray, List.getElem_cons_succ, List.getElem_cons_zero, List.setIfInBounds_toArray, List.set_cons_zero, List.set_cons_succ]
      refine wpAnyH_take (i := 9) (v := ?_) rfl (by kernel_rfl) (by kernel_rfl) (by kernel_rfl) (fun _ _ _ h => h) (Or.inl ⟨by kernel_rfl, ?_⟩) (by first | assumption | trivial) ?_
      rotate_left
      · intro w hSw
        try dsimp only at hSw
        subst hSw
        first | (go_simp; done) | (go_simp; with_reducible rfl)
      try simp only [Act.put, List.getElem_toArray, List.getElem_cons_succ, List.getElem_cons_zero, List.setIfInBounds_toArray, List.set_cons_zero, List.set_cons_succ]
      refine wpAnyH_done (by kernel_rfl) ?_ _
      have HNX := Lib.hid HK.out.drew
      clear hc1 hc2 K8
      go_wp2_with fail
      go_roundw
      case rel => exact ⟨k + 1, by omega, by go_num, HNX⟩
      case measure => simp [intOf]; omega
    · have hle : (n : Int) ≤ (k : Int) := by omega
      go_wp2_with fail
      go_ret
      exact ⟨rfl, HK.out⟩
end Go.Proofs.Ytjbhcdmeeakdcaa
