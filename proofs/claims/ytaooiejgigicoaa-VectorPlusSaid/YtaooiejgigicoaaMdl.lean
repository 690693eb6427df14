/- Behind a call of contralaw02.play: the vector and the model in blocks of the law's own. -/
import Derived.Test.YtaooiejgigicoaaLiftPut
import Derived.Test.YtaooiejgigicoaaHolds
namespace Go.Proofs.Ytaooiejgigicoaa
open Go.RowKit
theorem stop_store {P : Program} {ops : Array Oper} {rest : List Oper} {o : Oper} {a : Act} {w : World} {Q : Exit → Act → World → Prop} (ty : TypeId) (x y : Operand) (_ : o.op = .store ty x y) (h : Hid (wpList P ops Q (o :: rest) a w)) : wpList P ops Q (o :: rest) a w := h
theorem blk_setCells {b : Nat} {t : TypeId} : ∀ (vs : List Value) (o : Nat) (Z : Array Value) (w : World), Blk w b Z t → ∃ Z' : Array Value, Blk (w.setCells b o vs) b Z' t ∧ Z'.size = Z.size ∧ ∀ j, (j < o ∨ o + vs.length ≤ j → Z'[j]? = Z[j]?) ∧ (∀ (_ : o ≤ j), j < o + vs.length → j < Z.size → Z'[j]? = vs[j - o]?)
  | [], o, Z, w, h => ⟨Z, h, rfl, fun j => ⟨fun _ => rfl, fun h1 h2 _ => by simp at h2; omega⟩⟩
  | v :: r, o, Z, w, h => by
    obtain ⟨Z', h1, h2, h3⟩ := blk_setCells r (o + 1) (Z.setIfInBounds o v) (w.setCell ⟨b, o, none⟩ v) (h.set o v)
    refine ⟨Z', by rw [World.setCells]; exact h1, by rw [h2, Array.size_setIfInBounds], fun j => ⟨fun hj => ?_, fun ho hj hz => ?_⟩⟩
    · rw [(h3 j).1 (by simp at hj; omega), Array.getElem?_setIfInBounds_ne (by simp at hj; omega)]
    · by_cases he : j = o
      · subst he
        rw [(h3 j).1 (.inl (by omega)), Array.getElem?_setIfInBounds_self_of_lt hz]
        simp
      · rw [(h3 j).2 (by omega) (by simp at hj; omega) (by rw [Array.size_setIfInBounds]; exact hz), show j - o = (j - (o + 1)) + 1 by omega, List.getElem?_cons_succ]
theorem blk_store {w : World} {b : Nat} {t : TypeId} {Z : Array Value} (h : Blk w b Z t) (cs : Array Value) (hs : Z.size = cs.size) : Blk (w.setCells b 0 cs.toList) b cs t := by
  obtain ⟨Z', h1, h2, h3⟩ := blk_setCells cs.toList 0 Z w h
  have e : Z' = cs := by
    apply Array.ext_getElem?
    intro j
    by_cases hj : j < cs.size
    · rw [(h3 j).2 (Nat.zero_le _) (by simpa using hj) (by omega)]; simp
    · rw [Array.getElem?_eq_none (by omega), Array.getElem?_eq_none (by omega)]
  rw [← e] at h1 ⊢
  exact h1
/-- Behind play: the vector lies in block b, the model behind it. -/
def PlayW (w w2 : World) (sv : Value) (M : List Int) (X : World) : Prop :=
  Blk X w2.heap.size #[sv] 27 ∧ Blk X (w2.heap.size + 1) (mCells M) 30 ∧ Below w.heap.size w X ∧ PRow X sv (posOf M) ∧ Below w2.heap.size w2 X
theorem playw (w w2 : World) (sv : Value) (M : List Int) (hM : M.length = 64) (hb : Below w.heap.size w w2) (hr : PRow w2 sv (posOf M)) :
    PlayW w w2 sv M (((w2.alloc (.cells #[sv] 27)).alloc (.cells #[.int .i64 0, .int .i64 0, .int .i64 0, .int .i64 0, .int .i64 0, .int .i64 0, .int .i64 0, .int .i64 0, .int .i64 0, .int .i64 0, .int .i64 0, .int .i64 0, .int .i64 0, .int .i64 0, .int .i64 0, .int .i64 0, .int .i64 0, .int .i64 0, .int .i64 0, .int .i64 0, .int .i64 0, .int .i64 0, .int .i64 0, .int .i64 0, .int .i64 0, .int .i64 0, .int .i64 0, .int .i64 0, .int .i64 0, .int .i64 0, .int .i64 0, .int .i64 0, .int .i64 0, .int .i64 0, .int .i64 0, .int .i64 0, .int .i64 0, .int .i64 0, .int .i64 0, .int .i64 0, .int .i64 0, .int .i64 0, .int .i64 0, .int .i64 0, .int .i64 0, .int .i64 0, .int .i64 0, .int .i64 0, .int .i64 0, .int .i64 0, .int .i64 0, .int .i64 0, .int .i64 0, .int .i64 0, .int .i64 0, .int .i64 0, .int .i64 0, .int .i64 0, .int .i64 0, .int .i64 0, .int .i64 0, .int .i64 0, .int .i64 0, .int .i64 0] 30)).setCells (w2.heap.size + 1) 0 (mCells M).toList) := by
  have h0 := (Blk.new w2 #[sv] 27).alloc (.cells #[.int .i64 0, .int .i64 0, .int .i64 0, .int .i64 0, .int .i64 0, .int .i64 0, .int .i64 0, .int .i64 0, .int .i64 0, .int .i64 0, .int .i64 0, .int .i64 0, .int .i64 0, .int .i64 0, .int .i64 0, .int .i64 0, .int .i64 0, .int .i64 0, .int .i64 0, .int .i64 0, .int .i64 0, .int .i64 0, .int .i64 0, .int .i64 0, .int .i64 0, .int .i64 0, .int .i64 0, .int .i64 0, .int .i64 0, .int .i64 0, .int .i64 0, .int .i64 0, .int .i64 0, .int .i64 0, .int .i64 0, .int .i64 0, .int .i64 0, .int .i64 0, .int .i64 0, .int .i64 0, .int .i64 0, .int .i64 0, .int .i64 0, .int .i64 0, .int .i64 0, .int .i64 0, .int .i64 0, .int .i64 0, .int .i64 0, .int .i64 0, .int .i64 0, .int .i64 0, .int .i64 0, .int .i64 0, .int .i64 0, .int .i64 0, .int .i64 0, .int .i64 0, .int .i64 0, .int .i64 0, .int .i64 0, .int .i64 0, .int .i64 0, .int .i64 0] 30)
  have h1 := Blk.new' (w2.alloc (.cells #[sv] 27)) #[.int .i64 0, .int .i64 0, .int .i64 0, .int .i64 0, .int .i64 0, .int .i64 0, .int .i64 0, .int .i64 0, .int .i64 0, .int .i64 0, .int .i64 0, .int .i64 0, .int .i64 0, .int .i64 0, .int .i64 0, .int .i64 0, .int .i64 0, .int .i64 0, .int .i64 0, .int .i64 0, .int .i64 0, .int .i64 0, .int .i64 0, .int .i64 0, .int .i64 0, .int .i64 0, .int .i64 0, .int .i64 0, .int .i64 0, .int .i64 0, .int .i64 0, .int .i64 0, .int .i64 0, .int .i64 0, .int .i64 0, .int .i64 0, .int .i64 0, .int .i64 0, .int .i64 0, .int .i64 0, .int .i64 0, .int .i64 0, .int .i64 0, .int .i64 0, .int .i64 0, .int .i64 0, .int .i64 0, .int .i64 0, .int .i64 0, .int .i64 0, .int .i64 0, .int .i64 0, .int .i64 0, .int .i64 0, .int .i64 0, .int .i64 0, .int .i64 0, .int .i64 0, .int .i64 0, .int .i64 0, .int .i64 0, .int .i64 0, .int .i64 0, .int .i64 0] 30 (b := w2.heap.size + 1) (by simp)
  have hB : Below w2.heap.size w2 ((w2.alloc (.cells #[sv] 27)).alloc (.cells #[.int .i64 0, .int .i64 0, .int .i64 0, .int .i64 0, .int .i64 0, .int .i64 0, .int .i64 0, .int .i64 0, .int .i64 0, .int .i64 0, .int .i64 0, .int .i64 0, .int .i64 0, .int .i64 0, .int .i64 0, .int .i64 0, .int .i64 0, .int .i64 0, .int .i64 0, .int .i64 0, .int .i64 0, .int .i64 0, .int .i64 0, .int .i64 0, .int .i64 0, .int .i64 0, .int .i64 0, .int .i64 0, .int .i64 0, .int .i64 0, .int .i64 0, .int .i64 0, .int .i64 0, .int .i64 0, .int .i64 0, .int .i64 0, .int .i64 0, .int .i64 0, .int .i64 0, .int .i64 0, .int .i64 0, .int .i64 0, .int .i64 0, .int .i64 0, .int .i64 0, .int .i64 0, .int .i64 0, .int .i64 0, .int .i64 0, .int .i64 0, .int .i64 0, .int .i64 0, .int .i64 0, .int .i64 0, .int .i64 0, .int .i64 0, .int .i64 0, .int .i64 0, .int .i64 0, .int .i64 0, .int .i64 0, .int .i64 0, .int .i64 0, .int .i64 0] 30)) := (oneB w2 _).alloc (by simp) _
  have hc := Chg.setCells (w2.heap.size + 1) (mCells M).toList 0 _ _ (Chg.refl (w2.heap.size + 1) ((w2.alloc (.cells #[sv] 27)).alloc (.cells #[.int .i64 0, .int .i64 0, .int .i64 0, .int .i64 0, .int .i64 0, .int .i64 0, .int .i64 0, .int .i64 0, .int .i64 0, .int .i64 0, .int .i64 0, .int .i64 0, .int .i64 0, .int .i64 0, .int .i64 0, .int .i64 0, .int .i64 0, .int .i64 0, .int .i64 0, .int .i64 0, .int .i64 0, .int .i64 0, .int .i64 0, .int .i64 0, .int .i64 0, .int .i64 0, .int .i64 0, .int .i64 0, .int .i64 0, .int .i64 0, .int .i64 0, .int .i64 0, .int .i64 0, .int .i64 0, .int .i64 0, .int .i64 0, .int .i64 0, .int .i64 0, .int .i64 0, .int .i64 0, .int .i64 0, .int .i64 0, .int .i64 0, .int .i64 0, .int .i64 0, .int .i64 0, .int .i64 0, .int .i64 0, .int .i64 0, .int .i64 0, .int .i64 0, .int .i64 0, .int .i64 0, .int .i64 0, .int .i64 0, .int .i64 0, .int .i64 0, .int .i64 0, .int .i64 0, .int .i64 0, .int .i64 0, .int .i64 0, .int .i64 0, .int .i64 0] 30)))
  have hB2 : Below w2.heap.size w2 (((w2.alloc (.cells #[sv] 27)).alloc (.cells #[.int .i64 0, .int .i64 0, .int .i64 0, .int .i64 0, .int .i64 0, .int .i64 0, .int .i64 0, .int .i64 0, .int .i64 0, .int .i64 0, .int .i64 0, .int .i64 0, .int .i64 0, .int .i64 0, .int .i64 0, .int .i64 0, .int .i64 0, .int .i64 0, .int .i64 0, .int .i64 0, .int .i64 0, .int .i64 0, .int .i64 0, .int .i64 0, .int .i64 0, .int .i64 0, .int .i64 0, .int .i64 0, .int .i64 0, .int .i64 0, .int .i64 0, .int .i64 0, .int .i64 0, .int .i64 0, .int .i64 0, .int .i64 0, .int .i64 0, .int .i64 0, .int .i64 0, .int .i64 0, .int .i64 0, .int .i64 0, .int .i64 0, .int .i64 0, .int .i64 0, .int .i64 0, .int .i64 0, .int .i64 0, .int .i64 0, .int .i64 0, .int .i64 0, .int .i64 0, .int .i64 0, .int .i64 0, .int .i64 0, .int .i64 0, .int .i64 0, .int .i64 0, .int .i64 0, .int .i64 0, .int .i64 0, .int .i64 0, .int .i64 0, .int .i64 0] 30)).setCells (w2.heap.size + 1) 0 (mCells M).toList) := hB.trans (hc.below (Nat.le_succ _) hB.size)
  refine ⟨h0.chg hc (by omega), blk_store h1 (mCells M) (by rw [mCells_size, hM]; rfl), hb.trans (hB2.mono hb.size), hr.kept hB2, hB2⟩
theorem zeros_there (w2 : World) (sv : Value) (M : List Int) (hM : M.length = 64) : ((w2.alloc (.cells #[sv] 27)).alloc (.cells #[.int .i64 0, .int .i64 0, .int .i64 0, .int .i64 0, .int .i64 0, .int .i64 0, .int .i64 0, .int .i64 0, .int .i64 0, .int .i64 0, .int .i64 0, .int .i64 0, .int .i64 0, .int .i64 0, .int .i64 0, .int .i64 0, .int .i64 0, .int .i64 0, .int .i64 0, .int .i64 0, .int .i64 0, .int .i64 0, .int .i64 0, .int .i64 0, .int .i64 0, .int .i64 0, .int .i64 0, .int .i64 0, .int .i64 0, .int .i64 0, .int .i64 0, .int .i64 0, .int .i64 0, .int .i64 0, .int .i64 0, .int .i64 0, .int .i64 0, .int .i64 0, .int .i64 0, .int .i64 0, .int .i64 0, .int .i64 0, .int .i64 0, .int .i64 0, .int .i64 0, .int .i64 0, .int .i64 0, .int .i64 0, .int .i64 0, .int .i64 0, .int .i64 0, .int .i64 0, .int .i64 0, .int .i64 0, .int .i64 0, .int .i64 0, .int .i64 0, .int .i64 0, .int .i64 0, .int .i64 0, .int .i64 0, .int .i64 0, .int .i64 0, .int .i64 0] 30)).there (w2.heap.size + 1) 0 (mCells M).size := by
  have h1 := (Blk.new' (w2.alloc (.cells #[sv] 27)) #[.int .i64 0, .int .i64 0, .int .i64 0, .int .i64 0, .int .i64 0, .int .i64 0, .int .i64 0, .int .i64 0, .int .i64 0, .int .i64 0, .int .i64 0, .int .i64 0, .int .i64 0, .int .i64 0, .int .i64 0, .int .i64 0, .int .i64 0, .int .i64 0, .int .i64 0, .int .i64 0, .int .i64 0, .int .i64 0, .int .i64 0, .int .i64 0, .int .i64 0, .int .i64 0, .int .i64 0, .int .i64 0, .int .i64 0, .int .i64 0, .int .i64 0, .int .i64 0, .int .i64 0, .int .i64 0, .int .i64 0, .int .i64 0, .int .i64 0, .int .i64 0, .int .i64 0, .int .i64 0, .int .i64 0, .int .i64 0, .int .i64 0, .int .i64 0, .int .i64 0, .int .i64 0, .int .i64 0, .int .i64 0, .int .i64 0, .int .i64 0, .int .i64 0, .int .i64 0, .int .i64 0, .int .i64 0, .int .i64 0, .int .i64 0, .int .i64 0, .int .i64 0, .int .i64 0, .int .i64 0, .int .i64 0, .int .i64 0, .int .i64 0, .int .i64 0] 30 (b := w2.heap.size + 1) (by simp)).there
  rw [mCells_size, hM]
  exact h1
theorem playM_len (ps : List Pos) : (playM ps).length = 64 := by
  unfold playM
  suffices h : ∀ (ps : List Pos) (M : List Int), M.length = 64 → (ps.foldl stepM M).length = 64 by exact h ps _ (by simp)
  intro ps
  induction ps with
  | nil => exact fun _ h => h
  | cons p ps ih =>
    intro M h
    refine ih _ ?_
    unfold stepM
    repeat' split
    all_goals simpa using h
/-- What is asked outside of the vector's reach is nothing. -/
theorem of_out (w : World) (v : Value) (M : List Int) (e c : Int) (hr : PRow w v (posOf M)) (h : OutEC e c) :
    Calls Try.prog 10 #[vecV v, .int .i64 e, .int .i64 c] w fun x w' => x = .returned (.int .i64 0) ∧ Below w.heap.size w w' := by
  obtain ⟨A, mid, B, hA⟩ := around_of_sorted ⟨e, c, 0⟩ (posOf M) (posOf_sorted M)
  have hm : mid = [] := by
    rcases hA.there with h0 | ⟨q, rfl, hq⟩
    · exact h0
    · exfalso
      have hq2 : q ∈ posOf M := by rw [hA.all]; simp
      have := posOf_mem hq2
      rw [ordP_eq] at hq
      unfold OutEC at h
      dsimp only at hq
      omega
  subst hm
  exact of_any w v (posOf M) A [] B e c hr hA (Nat.le_trans (posOf_length M) (by omega))
theorem of_in (w : World) (v : Value) (M : List Int) (e c : Nat) (hr : PRow w v (posOf M)) (he : e < 8) (hc : c < 8) :
    Calls Try.prog 10 #[vecV v, .int .i64 e, .int .i64 c] w fun x w' => x = .returned (.int .i64 (atM M (e * 8 + c))) ∧ Below w.heap.size w w' := by
  have hA := around_posOf M (8 * e + c) (by omega) 0
  rw [show (8 * e + c) / 8 = e by omega, show (8 * e + c) % 8 = c by omega] at hA
  have h := of_any w v (posOf M) _ _ _ e c hr hA (Nat.le_trans (posOf_length M) (by omega))
  rw [mid_A, show 8 * e + c = e * 8 + c by omega] at h
  exact h
end Go.Proofs.Ytaooiejgigicoaa
