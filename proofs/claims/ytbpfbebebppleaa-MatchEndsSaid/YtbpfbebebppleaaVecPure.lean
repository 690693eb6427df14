/- Vectors as plain lists of positions. -/
import Derived.Test.YtbpfbebebppleaaCmp
namespace Go.Proofs.Ytbpfbebebppleaa
structure Pos where
  e : Int
  c : Int
  a : Int
def Pos.cells (p : Pos) : List Value := [.int .i64 p.e, .int .i64 p.c, .int .i64 p.a]
def ordP (p q : Pos) : Int := ord2 p.e p.c q.e q.c
def cellsOf (ps : List Pos) : List Value := ps.flatMap Pos.cells
theorem cellsOf_length (ps : List Pos) : (cellsOf ps).length = ps.length * 3 := by
  induction ps with
  | nil => rfl
  | cons p ps ih => simp [cellsOf, Pos.cells] at ih ⊢; omega
theorem cellsOf_app (ps qs : List Pos) : cellsOf (ps ++ qs) = cellsOf ps ++ cellsOf qs := by simp [cellsOf]
theorem ord_cases (a b : Int) : (a < b ∧ ord a b = -1) ∨ (b < a ∧ ord a b = 1) ∨ (a = b ∧ ord a b = 0) := by
  unfold ord
  by_cases h : a < b
  · exact .inl ⟨h, if_pos h⟩
  · by_cases g : b < a
    · exact .inr (.inl ⟨g, by rw [if_neg h, if_pos g]⟩)
    · exact .inr (.inr ⟨by omega, by rw [if_neg h, if_neg g]⟩)
theorem ord2_cases (e c e' c' : Int) : ((e < e' ∨ (e = e' ∧ c < c')) ∧ ord2 e c e' c' = -1) ∨ ((e' < e ∨ (e = e' ∧ c' < c)) ∧ ord2 e c e' c' = 1) ∨ ((e = e' ∧ c = c') ∧ ord2 e c e' c' = 0) := by
  unfold ord2
  rcases ord_cases e e' with ⟨h, g⟩ | ⟨h, g⟩ | ⟨h, g⟩ <;> rcases ord_cases c c' with ⟨h', g'⟩ | ⟨h', g'⟩ | ⟨h', g'⟩ <;> rw [g, g'] <;> split <;> omega
theorem ordP_lt {p q : Pos} : ordP p q < 0 ↔ (p.e < q.e ∨ (p.e = q.e ∧ p.c < q.c)) := by
  unfold ordP; have := ord2_cases p.e p.c q.e q.c; omega
theorem ordP_gt {p q : Pos} : 0 < ordP p q ↔ (q.e < p.e ∨ (p.e = q.e ∧ q.c < p.c)) := by
  unfold ordP; have := ord2_cases p.e p.c q.e q.c; omega
theorem ordP_eq {p q : Pos} : ordP p q = 0 ↔ (p.e = q.e ∧ p.c = q.c) := by
  unfold ordP; have := ord2_cases p.e p.c q.e q.c; omega
/-- A list around a place: what is ahead, what is there, what is behind. -/
structure Around (t : Pos) (ps A mid B : List Pos) : Prop where
  all : ps = A ++ mid ++ B
  ahead : ∀ p ∈ A, ordP p t < 0
  behind : ∀ p ∈ B, 0 < ordP p t
  there : mid = [] ∨ ∃ q, mid = [q] ∧ ordP q t = 0
def SortedP (ps : List Pos) : Prop := ps.Pairwise (fun p q => ordP p q < 0)
theorem around_of_sorted (t : Pos) : ∀ ps, SortedP ps → ∃ A mid B, Around t ps A mid B
  | [], _ => ⟨[], [], [], rfl, (fun _ h => by cases h), (fun _ h => by cases h), .inl rfl⟩
  | p :: ps, h => by
    have h2 := List.pairwise_cons.1 h
    rcases Int.lt_trichotomy (ordP p t) 0 with g | g | g
    · obtain ⟨A, mid, B, ha⟩ := around_of_sorted t ps h2.2
      refine ⟨p :: A, mid, B, by rw [ha.all]; rfl, ?_, ha.behind, ha.there⟩
      intro q hq
      rcases List.mem_cons.1 hq with rfl | hq
      · exact g
      · exact ha.ahead q hq
    · refine ⟨[], [p], ps, rfl, (fun _ h => by cases h), ?_, .inr ⟨p, rfl, g⟩⟩
      intro q hq
      have := h2.1 q hq
      rw [ordP_lt] at this; rw [ordP_eq] at g; rw [ordP_gt]; omega
    · refine ⟨[], [], p :: ps, rfl, (fun _ h => by cases h), ?_, .inl rfl⟩
      intro q hq
      rcases List.mem_cons.1 hq with rfl | hq
      · exact g
      · have := h2.1 q hq
        rw [ordP_lt] at this; rw [ordP_gt] at g ⊢; omega
theorem Around.lt_iff {t : Pos} {ps A mid B : List Pos} (h : Around t ps A mid B) (i : Nat) (hi : i < ps.length) : ordP (ps[i]) t < 0 ↔ i < A.length := by
  obtain ⟨rfl, h1, h2, h3⟩ := h
  constructor
  · intro g
    by_cases hlt : i < A.length
    · exact hlt
    · exfalso
      have hm : (A ++ mid ++ B)[i] ∈ mid ++ B := by
        rw [List.getElem_of_eq (List.append_assoc A mid B) hi, List.getElem_append_right (by omega)]; exact List.getElem_mem _
      rcases List.mem_append.1 hm with hm | hm
      · rcases h3 with rfl | ⟨q, rfl, hq⟩
        · cases hm
        · rw [List.mem_singleton.1 hm, hq] at g; omega
      · have := h2 _ hm; omega
  · intro g
    have : (A ++ mid ++ B)[i] = A[i] := by rw [List.getElem_of_eq (List.append_assoc A mid B) hi, List.getElem_append_left g]
    rw [this]; exact h1 _ (List.getElem_mem _)
theorem Around.le {t : Pos} {ps A mid B : List Pos} (h : Around t ps A mid B) : A.length ≤ ps.length := by rw [h.all]; simp only [List.length_append]; omega
theorem Around.found {t : Pos} {ps A mid B : List Pos} (h : Around t ps A mid B) (hi : A.length < ps.length) : ordP (ps[A.length]) t = 0 ↔ mid ≠ [] := by
  obtain ⟨rfl, h1, h2, h3⟩ := h
  rcases h3 with rfl | ⟨q, rfl, hq⟩
  · simp only [ne_eq, not_true_eq_false, iff_false]
    have hm : (A ++ [] ++ B)[A.length] ∈ B := by
      rw [List.getElem_of_eq (List.append_assoc A [] B) hi, List.getElem_append_right (by omega)]; exact List.getElem_mem _
    have := h2 _ hm; omega
  · simp only [ne_eq, List.cons_ne_self, not_false_eq_true, iff_true]
    have : (A ++ [q] ++ B)[A.length] = q := by
      rw [List.getElem_of_eq (List.append_assoc A [q] B) hi, List.getElem_append_right (by omega)]; simp
    rw [this]; exact hq
theorem Around.notFound {t : Pos} {ps A mid B : List Pos} (h : Around t ps A mid B) (hi : ¬ A.length < ps.length) : mid = [] := by
  rcases h.there with h' | ⟨q, rfl, _⟩
  · exact h'
  · rw [h.all] at hi; simp only [List.length_append, List.length_cons] at hi; omega
/-- What an entity has of a currency, place 8 * entity + currency. -/
def atM (M : List Int) (k : Nat) : Int := M.getD k 0
def pM (M : List Int) (k : Nat) : Option Pos := if atM M k = 0 then none else some ⟨(k / 8 : Nat), (k % 8 : Nat), atM M k⟩
def posOf (M : List Int) : List Pos := (List.range 64).filterMap (pM M)
def preP (M : List Int) (k : Nat) : List Pos := (List.range k).filterMap (pM M)
def midP (M : List Int) (k : Nat) : List Pos := (pM M k).toList
def postP (M : List Int) (k : Nat) : List Pos := (List.range' (k + 1) (63 - k)).filterMap (pM M)
theorem filterMap_same {f g : Nat → Option Pos} : ∀ {l : List Nat}, (∀ j ∈ l, f j = g j) → l.filterMap f = l.filterMap g
  | [], _ => rfl
  | a :: l, h => by rw [List.filterMap_cons, List.filterMap_cons, h a (by simp), filterMap_same (l := l) fun j hj => h j (by simp [hj])]
theorem posOf_split (M : List Int) (k : Nat) (h : k < 64) : posOf M = preP M k ++ midP M k ++ postP M k := by
  have hr : List.range 64 = List.range k ++ [k] ++ List.range' (k + 1) (63 - k) := by
    rw [List.range_eq_range', List.range_eq_range', show (64 : Nat) = k + (1 + (63 - k)) by omega, ← List.range'_append_1, ← List.range'_append_1]
    simp
  unfold posOf preP midP postP
  rw [hr, List.filterMap_append, List.filterMap_append]
  have hp : [k].filterMap (pM M) = (pM M k).toList := by cases hp : pM M k <;> simp [hp]
  rw [hp]
theorem pM_set_other (M : List Int) (k j : Nat) (a : Int) (h : j ≠ k) : pM (M.set k a) j = pM M j := by
  unfold pM atM; rw [List.getD_eq_getElem?_getD, List.getD_eq_getElem?_getD, List.getElem?_set_ne (by omega)]
theorem pre_set (M : List Int) (k : Nat) (a : Int) : preP (M.set k a) k = preP M k := by
  unfold preP
  exact filterMap_same fun j hj => pM_set_other M k j a (by rw [List.mem_range] at hj; omega)
theorem post_set (M : List Int) (k : Nat) (a : Int) : postP (M.set k a) k = postP M k := by
  unfold postP
  exact filterMap_same fun j hj => pM_set_other M k j a (by rw [List.mem_range'_1] at hj; omega)
theorem mid_set (M : List Int) (k : Nat) (a : Int) (h : k < M.length) : midP (M.set k a) k = if a = 0 then [] else [⟨(k / 8 : Nat), (k % 8 : Nat), a⟩] := by
  have e : atM (M.set k a) k = a := by unfold atM; rw [List.getD_eq_getElem?_getD, List.getElem?_set_self h]; rfl
  unfold midP pM
  rw [e]
  split <;> rfl
theorem posOf_set (M : List Int) (k : Nat) (a : Int) (h : k < 64) (hM : M.length = 64) : posOf (M.set k a) = preP M k ++ (if a = 0 then [] else [⟨(k / 8 : Nat), (k % 8 : Nat), a⟩]) ++ postP M k := by
  rw [posOf_split _ k h, pre_set, post_set, mid_set M k a (by omega)]
theorem around_posOf (M : List Int) (k : Nat) (h : k < 64) (a : Int) : Around ⟨(k / 8 : Nat), (k % 8 : Nat), a⟩ (posOf M) (preP M k) (midP M k) (postP M k) := by
  refine ⟨posOf_split M k h, ?_, ?_, ?_⟩
  · intro p hp
    unfold preP at hp
    obtain ⟨j, hj, hp⟩ := List.mem_filterMap.1 hp
    rw [List.mem_range] at hj
    unfold pM at hp
    split at hp
    · cases hp
    · cases hp
      rw [ordP_lt]; dsimp only; omega
  · intro p hp
    unfold postP at hp
    obtain ⟨j, hj, hp⟩ := List.mem_filterMap.1 hp
    rw [List.mem_range'_1] at hj
    unfold pM at hp
    split at hp
    · cases hp
    · cases hp
      rw [ordP_gt]; dsimp only; omega
  · unfold midP pM
    split
    · exact .inl rfl
    · exact .inr ⟨_, rfl, by rw [ordP_eq]; exact ⟨rfl, rfl⟩⟩
theorem posOf_mem {M : List Int} {p : Pos} (h : p ∈ posOf M) : (0 ≤ p.e ∧ p.e < 8) ∧ (0 ≤ p.c ∧ p.c < 8) ∧ p.a = atM M (8 * p.e + p.c).toNat ∧ p.a ≠ 0 := by
  unfold posOf at h
  obtain ⟨j, hj, hp⟩ := List.mem_filterMap.1 h
  rw [List.mem_range] at hj
  unfold pM at hp
  split at hp
  · cases hp
  · rename_i h0
    cases hp
    dsimp only
    refine ⟨by omega, by omega, ?_, h0⟩
    congr 1; omega
theorem posOf_sorted (M : List Int) : SortedP (posOf M) := by
  unfold SortedP posOf
  rw [List.pairwise_filterMap]
  refine List.Pairwise.imp ?_ (List.pairwise_lt_range (n := 64))
  intro i j hij p hp q hq
  unfold pM at hp hq
  split at hp
  · cases hp
  · split at hq
    · cases hq
    · cases hp; cases hq
      rw [ordP_lt]; dsimp only; omega
theorem posOf_length (M : List Int) : (posOf M).length ≤ 64 := by
  unfold posOf
  exact Nat.le_trans (List.length_filterMap_le _ _) (by simp)
theorem mid_val (M : List Int) (k : Nat) : (midP M k = [] ∧ atM M k = 0) ∨ (midP M k = [⟨(k / 8 : Nat), (k % 8 : Nat), atM M k⟩] ∧ atM M k ≠ 0) := by
  unfold midP pM
  split
  · exact .inl ⟨rfl, by assumption⟩
  · exact .inr ⟨rfl, by assumption⟩
end Go.Proofs.Ytbpfbebebppleaa
