/- (book.Book).Put of any item. -/
import Derived.Test.YtillckkohdjkbaaPutOk
import Derived.Test.YtillckkohdjkbaaInsX
namespace Go.Proofs.Ytillckkohdjkbaa
open Go.RowKit
def putX (me : Int) (X : List Itm) (x : Itm) : List Itm := if chkI x = 0 ∧ (x.s = me ∨ x.b = me) then insX X x else X
def putE (me : Int) (x : Itm) : Int := if chkI x = 0 then (if x.s = me ∨ x.b = me then 0 else 140) else chkI x
def foldX (me : Int) (X l : List Itm) : List Itm := l.foldl (putX me) X
def GoodB (me : Int) (X : List Itm) : Prop := SortedP (X.map posI) ∧ ∀ x ∈ X, chkI x = 0 ∧ (x.s = me ∨ x.b = me)
theorem goodB_nil (me : Int) : GoodB me [] := ⟨List.Pairwise.nil, fun _ h => by cases h⟩
theorem ins_mem {X : List Itm} {x z : Itm} (h : z ∈ insX X x) : z = x ∨ z ∈ X := by
  unfold insX at h
  rcases List.mem_append.1 h with h | h
  · rcases List.mem_append.1 h with h | h
    · exact .inr (List.mem_filter.1 h).1
    · exact .inl (List.mem_singleton.1 h)
  · exact .inr (List.mem_filter.1 h).1
theorem ins_len {X : List Itm} {x : Itm} (hs : SortedP (X.map posI)) : (insX X x).length ≤ X.length + 1 := by
  obtain ⟨A, mid, B, hA⟩ := aroundF_of_sorted posI (posI x) X hs
  exact (ins_around hA).2
theorem putX_good {me : Int} {X : List Itm} {x : Itm} (h : GoodB me X) : GoodB me (putX me X x) := by
  unfold putX
  split
  · rename_i hx
    exact ⟨ins_sorted h.1, fun z hz => (ins_mem hz).elim (fun e => e ▸ hx) (h.2 z)⟩
  · exact h
theorem putX_len {me : Int} {X : List Itm} {x : Itm} (h : GoodB me X) : (putX me X x).length ≤ X.length + 1 := by
  unfold putX
  split
  · exact ins_len h.1
  · omega
theorem foldX_good {me : Int} : ∀ {l X : List Itm}, GoodB me X → GoodB me (foldX me X l)
  | [], _, h => h
  | _ :: l, _, h => foldX_good (l := l) (putX_good h)
theorem foldX_len {me : Int} : ∀ {l X : List Itm}, GoodB me X → (foldX me X l).length ≤ X.length + l.length
  | [], _, _ => Nat.le_refl _
  | x :: l, X, h => by
    have h1 := foldX_len (l := l) (putX_good (x := x) h)
    have h2 := putX_len (x := x) h
    have e : foldX me X (x :: l) = foldX me (putX me X x) l := rfl
    rw [e, List.length_cons]
    omega
theorem foldX_take {me : Int} {X l : List Itm} {k : Nat} (hk : k < l.length) : foldX me X (l.take (k + 1)) = putX me (foldX me X (l.take k)) l[k] := by
  unfold foldX
  rw [List.take_succ_eq_append_getElem hk, List.foldl_append]
  rfl
theorem goodB_ok {me : Int} {X : List Itm} (h : GoodB me X) : ∀ x ∈ X, 1 ≤ x.a ∧ x.a ≤ 1125899906842624 := by
  intro x hx
  obtain ⟨_, h2, _⟩ := chk_ok (h.2 x hx).1
  unfold numsOk at h2
  omega
theorem put_any (w : World) (me : Int) (pi po : Option Addr) (ni ci no co : Nat) (x : Itm) (xs : List Itm) (hr : TRow encI w (.slice pi ni ci) xs) (hl : xs.length = ni) (hs : SortedP (xs.map posI)) (hn : ni < 1024) :
    Calls Try.prog 9 #[bookV me (.slice pi ni ci) (.slice po no co), x.v] w fun e w' => ∃ pi' ni' ci', e = .returned (.tuple #[bookV me (.slice pi' ni' ci') (.slice po no co), .int .i64 (putE me x)]) ∧ TRow encI w' (.slice pi' ni' ci') (putX me xs x) ∧ ni' = (putX me xs x).length ∧ Below w.heap.size w w' ∧ (∀ k, (Value.slice pi' ni' ci').ownBlock = some k → (Value.slice pi ni ci).ownBlock = some k ∨ w.heap.size ≤ k) := by
  by_cases h : chkI x = 0
  · by_cases h1 : x.s = me ∨ x.b = me
    · obtain ⟨A, mid, B, hA⟩ := aroundF_of_sorted posI (posI x) xs hs
      have e1 : putX me xs x = A ++ [x] ++ B := by unfold putX; rw [if_pos ⟨h, h1⟩, (ins_around hA).1]
      have e2 : putE me x = 0 := by unfold putE; rw [if_pos h, if_pos h1]
      rw [e1, e2]
      exact put_ok w me pi po ni ci no co x xs A mid B hr hl hA hn h h1
    · have e1 : putX me xs x = xs := by unfold putX; rw [if_neg (fun h2 => h1 h2.2)]
      have e2 : putE me x = 140 := by unfold putE; rw [if_pos h, if_neg h1]
      rw [e1, e2]
      refine (put_other w me pi po ni ci no co x h (fun e => h1 (.inl e)) (fun e => h1 (.inr e))).mono ?_
      rintro e w' ⟨rfl, hb⟩
      exact ⟨pi, ni, ci, rfl, hr.kept hb, hl.symm, hb, fun k hk => .inl hk⟩
  · have e1 : putX me xs x = xs := by unfold putX; rw [if_neg (fun h2 => h h2.1)]
    have e2 : putE me x = chkI x := by unfold putE; rw [if_neg h]
    rw [e1, e2]
    refine (put_chk w me pi po ni ci no co x h).mono ?_
    rintro e w' ⟨rfl, hb⟩
    exact ⟨pi, ni, ci, rfl, hr.kept hb, hl.symm, hb, fun k hk => .inl hk⟩
end Go.Proofs.Ytillckkohdjkbaa
