/- WalSure: what its loop keeps, without a world. -/
import Derived.Test.YtjbhcdmeeakdcaaWal2A
namespace Go.Proofs.Ytjbhcdmeeakdcaa
open Go.RowKit
theorem OpRowW.kept {w w' : World} {v : Value} {n : Nat} {f : Nat → OpW} (h : OpRowW w v n f) (hb : Below w.heap.size w w') : OpRowW w' v n f := by
  obtain ⟨p, c, h1, h2, h3⟩ := h
  refine ⟨p, c, h1, h2, ?_⟩
  rcases h3 with h3 | ⟨b, o, h4, h5⟩
  · exact .inl h3
  · refine .inr ⟨b, o, h4, fun i hi => ?_⟩
    obtain ⟨e1, e2, e3, ⟨dv, e4, e5⟩, ⟨lv, e6, e7⟩, e8⟩ := h5 i hi
    have mv : ∀ (p : Addr) (x : Value), w.cell? p = some x → w'.cell? p = some x := fun p x h => (hb.cell (World.block_lt_of_cell? w _ h)).trans h
    exact ⟨e1, mv _ _ e2, mv _ _ e3, ⟨dv, mv _ _ e4, e5.kept hb⟩, ⟨lv, mv _ _ e6, e7.kept hb⟩, mv _ _ e8⟩
theorem recsL_app (A C : List (List Int)) : recsL (A ++ C) = recsL A ++ recsL C := by
  induction A with
  | nil => simp [recsL]
  | cons d ds ih => rw [List.cons_append, recsL_cons, recsL_cons, ih, List.append_assoc]
theorem recsL_0 : (recsL []).length = 0 := rfl
theorem recsL_take (C : List (List Int)) (m : Nat) : (recsL (C.take m)).length ≤ (recsL C).length := by
  have h : recsL C = recsL (C.take m) ++ recsL (C.drop m) := by rw [← recsL_app, List.take_append_drop]
  rw [h, List.length_append]; omega
def All7 (k : Nat) (A C : List (List Int)) : Prop := (∀ x ∈ A ++ C, Rec1 16384 x) ∧ A.length + C.length ≤ 10 + k ∧ (recsL A).length + (recsL C).length ≤ 17100 * k
/-- At the loop's head. -/
def Inv7 (rm k : Nat) (d : DSt) (n : Nat) (A C : List (List Int)) : Prop := All7 k A C ∧ ∃ f, d = uD rm (recsL A) (recsL C) f ∧ n = A.length + C.length
/-- Behind an operation. -/
def Mid7 (rm k : Nat) (d : DSt) (n : Nat) (A C : List (List Int)) : Prop := All7 k A C ∧ ((∃ f, d = uD rm (recsL A) (recsL C) f ∧ n = A.length + C.length) ∨ (∃ Y m, d = nD rm (recsL A) Y ∧ m ≤ C.length ∧ scD Y = C.take m ∧ Oct Y ∧ Y.length ≤ (recsL C).length))
theorem All7.one {k : Nat} {A C : List (List Int)} (h : All7 k A C) {x : List Int} (hx : Oct x) (hl : x.length ≤ 16384) : All7 (k + 1) A (C ++ [x]) ∧ All7 (k + 1) (A ++ C ++ [x]) [] := by
  obtain ⟨h1, h2, h3⟩ := h
  have hr : ∀ y ∈ A ++ C ++ [x], Rec1 16384 y := fun y hy => by
    rcases List.mem_append.1 hy with h | h
    · exact h1 y h
    · rw [List.mem_singleton.1 h]; exact ⟨hx, hl⟩
  refine ⟨⟨by rw [← List.append_assoc]; exact hr, by rw [List.length_append, List.length_singleton]; omega, ?_⟩, ⟨by rw [List.append_nil]; exact hr, by rw [List.length_append, List.length_append, List.length_singleton]; simp; omega, ?_⟩⟩
  · rw [recsL_snoc, List.length_append, recL_length]; omega
  · rw [recsL_snoc, recsL_app, List.length_append, List.length_append, recL_length, recsL_0]; omega
theorem All7.up {k : Nat} {A C : List (List Int)} (h : All7 k A C) : All7 (k + 1) A C := by
  obtain ⟨h1, h2, h3⟩ := h
  exact ⟨h1, by omega, by omega⟩
theorem All7.cat {k : Nat} {A C : List (List Int)} (h : All7 k A C) (m : Nat) : All7 k (A ++ C.take m) [] := by
  obtain ⟨h1, h2, h3⟩ := h
  have := recsL_take C m
  refine ⟨fun y hy => ?_, ?_, ?_⟩
  · rw [List.append_nil] at hy
    rcases List.mem_append.1 hy with h | h
    · exact h1 y (List.mem_append_left _ h)
    · exact h1 y (List.mem_append_right _ (List.mem_of_mem_take h))
  · rw [List.length_append, List.length_take]; simp; omega
  · rw [recsL_app, List.length_append, recsL_0]; omega
theorem All7.recC {k : Nat} {A C : List (List Int)} (h : All7 k A C) : ∀ x ∈ C, Rec1 16384 x := fun x hx => h.1 x (List.mem_append_right _ hx)
theorem All7.recA {k : Nat} {A C : List (List Int)} (h : All7 k A C) : ∀ x ∈ A, Rec1 16384 x := fun x hx => h.1 x (List.mem_append_left _ hx)
theorem mid_put {rm k : Nat} {A C : List (List Int)} (h : All7 k A C) {x : List Int} (hx : Oct x) (hl : x.length ≤ 16384) (g : Int) : Mid7 rm (k + 1) (uD rm (recsL A) (recsL C ++ recL x) g) (A.length + C.length + 1) A (C ++ [x]) :=
  ⟨(h.one hx hl).1, .inl ⟨g, by rw [recsL_snoc], by rw [List.length_append, List.length_singleton]; omega⟩⟩
theorem mid_part {rm k n : Nat} {A C : List (List Int)} (h : All7 k A C) {x : List Int} (hx : Oct x) (hl : x.length ≤ 16384) {j : Nat} (hj : j < (recL x).length) : Mid7 rm (k + 1) (nD rm (recsL A) (recsL C ++ (recL x).take j)) n A (C ++ [x]) := by
  have ho := recL_oct hx hl
  refine ⟨(h.one hx hl).1, .inr ⟨_, C.length, rfl, by rw [List.length_append]; omega, ?_, (recsL_oct h.recC).append (ho.take j), ?_⟩⟩
  · rw [(sc_app h.recC (ho.take j)).1, sc_part ⟨hx, hl⟩ hj, List.append_nil, List.take_left']
    rfl
  · rw [recsL_snoc, List.length_append, List.length_append, List.length_take]; omega
theorem mid_same {rm k : Nat} {A C : List (List Int)} (h : All7 k A C) (f : Int) : Mid7 rm (k + 1) (uD rm (recsL A) (recsL C) f) (A.length + C.length) A C := ⟨h.up, .inl ⟨f, rfl, rfl⟩⟩
theorem mid_add {rm k : Nat} {A C : List (List Int)} (h : All7 k A C) {x : List Int} (hx : Oct x) (hl : x.length ≤ 16384) (g : Int) : Mid7 rm (k + 1) (uD rm (recsL A ++ (recsL C ++ recL x)) [] g) (A.length + C.length + 1) (A ++ C ++ [x]) [] :=
  ⟨(h.one hx hl).2, .inl ⟨g, by rw [recsL_snoc, recsL_app, List.append_assoc]; rfl, by simp; omega⟩⟩
theorem mid_sync {rm k : Nat} {A C : List (List Int)} (h : All7 k A C) (f : Int) : Mid7 rm (k + 1) (uD rm (recsL A ++ recsL C) [] f) (A.length + C.length) (A ++ C) [] := by
  have h2 := h.up.cat C.length
  rw [List.take_length] at h2
  exact ⟨h2, .inl ⟨f, by rw [recsL_app]; rfl, by simp⟩⟩
theorem mid_new {rm k : Nat} {l : List (List Int)} (ho : ∀ d ∈ l, Oct d) (hl : l.length ≤ 10) (hs : ∀ d ∈ l, d.length ≤ 500) (g : Int) : Mid7 rm (k + 1) (uD rm (recsL l) [] g) l.length l [] := by
  have hq := recsL_leq hs
  have hq2 : (8 + 500) * l.length ≤ (8 + 500) * 10 := Nat.mul_le_mul_left _ hl
  refine ⟨⟨fun x hx => ?_, by simp; omega, by rw [recsL_0]; omega⟩, .inl ⟨g, rfl, by simp⟩⟩
  rw [List.append_nil] at hx
  exact ⟨ho x hx, Nat.le_trans (hs x hx) (by decide)⟩
theorem mid_ren {rm k n : Nat} {A C : List (List Int)} (h : All7 k A C) : Mid7 rm (k + 1) (nD rm (recsL A) (recsL C)) n A C := by
  have hs := (sc_recs h.recC (more := []) (fun a ha => by cases ha) (by simp)).1
  rw [List.append_nil] at hs
  exact ⟨h.up, .inr ⟨_, C.length, rfl, Nat.le_refl _, by rw [hs, List.take_length], recsL_oct h.recC, Nat.le_refl _⟩⟩
theorem mid_crash {rm k n : Nat} {A C : List (List Int)} (h : All7 k A C) (c : Int) {t : Int} (ht : 0 ≤ t ∧ t < 256) : Mid7 rm (k + 1) (nD rm (recsL A) (tornL (recsL C) (keepN c (recsL C).length) t)) n A C := by
  obtain ⟨m, h1, h2⟩ := sc_torn h.recC (keepN_le c (recsL C).length) ht
  exact ⟨h.up, .inr ⟨_, m, rfl, h1, h2, tornL_oct (recsL_oct h.recC) _ ht, by rw [tornL_length (keepN_le _ _)]; exact keepN_le _ _⟩⟩
/-- Opened behind a crash. -/
theorem mid_open {rm k : Nat} {A C : List (List Int)} {Y : List Int} {m : Nat} (h : All7 k A C) (hm : m ≤ C.length) (hs : scD Y = C.take m) (hY : Oct Y) : scD (recsL A ++ Y) = A ++ C.take m ∧ (A ++ C.take m).length = A.length + m ∧ Inv7 rm k (uD rm (recsL (A ++ C.take m)) [] (-1)) (A ++ C.take m).length (A ++ C.take m) [] := by
  have hl : (A ++ C.take m).length = A.length + m := by rw [List.length_append, List.length_take]; omega
  refine ⟨by rw [(sc_app h.recA hY).1, hs], hl, h.cat m, -1, rfl, by simp⟩
/-- What fits says. -/
theorem fits_each {n : Nat} {f : Nat → OpW} (h : fitsB n f = true) : n ≤ 40 ∧ ∀ i, i < n → (f i).data.length ≤ 17000 ∧ (f i).list.length ≤ 10 ∧ ∀ d ∈ (f i).list, d.length ≤ 500 := by
  unfold fitsB at h
  by_cases hn : 40 < n
  · rw [if_pos hn] at h; cases h
  rw [if_neg hn] at h
  refine ⟨by omega, ?_⟩
  have key : ∀ (os : List OpW) (t : Nat), fitE t os = true → ∀ o ∈ os, o.data.length ≤ 17000 ∧ o.list.length ≤ 10 ∧ ∀ d ∈ o.list, d.length ≤ 500 := by
    intro os
    induction os with
    | nil => intro _ _ o ho; cases ho
    | cons x xs ih =>
      intro t h
      unfold fitE at h
      by_cases h1 : 17000 < x.data.length ∨ 10 < x.list.length
      · rw [if_pos h1] at h; cases h
      · rw [if_neg h1] at h
        cases h2 : inE (t + x.data.length) x.list with
        | none => rw [h2] at h; cases h
        | some u =>
          rw [h2] at h
          by_cases h3 : 40000 < u
          · simp only [h3, if_true] at h; cases h
          · simp only [h3, if_false] at h
            intro o ho
            rcases List.mem_cons.1 ho with e | e
            · subst e; exact ⟨by omega, by omega, (inE_short h2).1⟩
            · exact ih u h o e
  intro i hi
  exact key _ _ h (f i) (List.mem_map.2 ⟨i, List.mem_range.2 hi, rfl⟩)
end Go.Proofs.Ytjbhcdmeeakdcaa
