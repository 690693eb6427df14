/- MsgReads: the document's reader, told by the program's. -/
import Derived.Test.YtbimbpmdiahhbaaReadTie1
import Derived.Test.YtbimbpmdiahhbaaMsgPure
namespace Go.Proofs.Ytbimbpmdiahhbaa
open Go.RowKit
/-- The document's reader stands where the program's does. -/
def TieR (s : ByteArray) (a : Nat) (r : RS) : Prop := Tie s a r.e r.z
theorem TieR.le {s : ByteArray} {a : Nat} {r : RS} (h : TieR s a r) : a ≤ s.size := h.1
theorem number_tie (s : ByteArray) (a : Nat) (r : RS) (w : World) (h : TieR s a r) :
    Calls Try.prog 28 #[rdV s a r.e] w fun x w' => ∃ a2 : Nat, x = .returned (.tuple #[rdV s a2 r.num.e, .int .i64 r.numV]) ∧ TieR s a2 r.num ∧ Below w.heap.size w w' := by
  obtain ⟨h1, h2, h3⟩ := tie_num h
  refine (refnumber_any s a r.e w (.inr h.1) h.2.1).mono ?_
  rintro x w' ⟨rfl, hb⟩
  refine ⟨docAt ((bytesOf s).drop a) a r.e, ?_, ?_, hb⟩
  · show _ = Ending.returned (.tuple #[rdV s _ (numE r.z r.e), .int .i64 (numV r.z r.e)])
    rw [h1, h2]
  · show Tie s _ (numE r.z r.e) (numR r.z r.e)
    rw [h1]
    exact h3
theorem int_tie (s : ByteArray) (a : Nat) (r : RS) (lo hi : Int) (w : World) (h : TieR s a r) :
    Calls Try.prog 27 #[rdV s a r.e, .int .i64 lo, .int .i64 hi] w fun x w' => ∃ a2 : Nat, x = .returned (.tuple #[rdV s a2 (r.int lo hi).e, .int .i64 (r.intV lo hi)]) ∧ TieR s a2 (r.int lo hi) ∧ Below w.heap.size w w' := by
  obtain ⟨h1, h2, h3⟩ := tie_int h lo hi
  refine (refint_any s a r.e lo hi w (.inr h.1) h.2.1).mono ?_
  rintro x w' ⟨rfl, hb⟩
  refine ⟨docAt ((bytesOf s).drop a) a r.e, ?_, ?_, hb⟩
  · show _ = Ending.returned (.tuple #[rdV s _ (intE r.z r.e lo hi), .int .i64 (intV r.z r.e lo hi)])
    rw [h1, h2]
  · show Tie s _ (intE r.z r.e lo hi) (numR r.z r.e)
    rw [h1]
    exact h3
theorem truth_tie (s : ByteArray) (a : Nat) (r : RS) (w : World) (h : TieR s a r) :
    Calls Try.prog 29 #[rdV s a r.e] w fun x w' => ∃ a2 : Nat, x = .returned (.tuple #[rdV s a2 r.bool.e, .bool r.boolV]) ∧ TieR s a2 r.bool ∧ Below w.heap.size w w' := by
  obtain ⟨h1, h2, h3⟩ := tie_bool h
  refine (reftruth_any s a r.e w (.inr h.1) h.2.1).mono ?_
  rintro x w' ⟨rfl, hb⟩
  refine ⟨dTA ((bytesOf s).drop a) a r.e, ?_, ?_, hb⟩
  · show _ = Ending.returned (.tuple #[rdV s _ (boolE r.z r.e), .bool (boolV r.z r.e)])
    rw [h1, h2]
  · show Tie s _ (boolE r.z r.e) (boolR r.z r.e)
    rw [h1]
    exact h3
theorem end_tie (s : ByteArray) (a : Nat) (r : RS) (w : World) (h : TieR s a r) :
    Calls Try.prog 13 #[rdV s a r.e] w fun x w' => x = .returned (rdV s a (endE r.z r.e)) ∧ Below w.heap.size w w' := by
  obtain ⟨h1, _⟩ := tie_end h
  refine (refend_any s a r.e w).mono ?_
  rintro x w' ⟨rfl, hb⟩
  exact ⟨by rw [h1], hb⟩
/-- Once there is an error it stays. -/
theorem num_stick {r : RS} (h : r.e ≠ 0) : r.num.e = r.e := numE_bad h
theorem int_stick {r : RS} (h : r.e ≠ 0) (a b : Int) : (r.int a b).e = r.e := by
  show intE r.z r.e a b = _
  unfold intE
  rw [numE_bad h]
  split
  · unfold orE; rw [if_neg h]
  · rfl
theorem bool_stick {r : RS} (h : r.e ≠ 0) : r.bool.e = r.e := by
  show boolE r.z r.e = _
  have hT : takeE r.z r.e 1 = r.e := by unfold takeE; rw [if_pos h]
  unfold boolE
  rw [hT, if_neg h]
theorem lin_stick {r : RS} (h : r.e ≠ 0) : r.lin.e = r.e := by
  have h1 : r.nx.e = r.e := int_stick h _ _
  have h2 : r.nx.nx.e = r.e := (int_stick (by rw [h1]; exact h) _ _).trans h1
  have h3 : r.nx.nx.nx.e = r.e := (int_stick (by rw [h2]; exact h) _ _).trans h2
  exact (num_stick (by rw [h3]; exact h)).trans h3
theorem lins_stick {r : RS} (h : r.e ≠ 0) : ∀ n, (r.lins n).e = r.e
  | 0 => rfl
  | n + 1 => by
    have h1 := lins_stick h n
    exact (lin_stick (by rw [h1]; exact h)).trans h1
theorem nets_stick {r : RS} (h : r.e ≠ 0) : ∀ n, (r.nets n).e = r.e
  | 0 => rfl
  | n + 1 => by
    have h1 := nets_stick h n
    exact (num_stick (by rw [h1]; exact h)).trans h1
theorem lins_more {r : RS} {i : Nat} (h : (r.lins i).e ≠ 0) : ∀ d, (r.lins (i + d)).e = (r.lins i).e
  | 0 => rfl
  | d + 1 => by
    have h1 := lins_more h d
    exact (lin_stick (r := r.lins (i + d)) (by rw [h1]; exact h)).trans h1
theorem nets_more {r : RS} {i : Nat} (h : (r.nets i).e ≠ 0) : ∀ d, (r.nets (i + d)).e = (r.nets i).e
  | 0 => rfl
  | d + 1 => by
    have h1 := nets_more h d
    exact (num_stick (r := r.nets (i + d)) (by rw [h1]; exact h)).trans h1
theorem intV_bad {r : RS} (h : r.e ≠ 0) (a b : Int) : r.intV a b = 0 := by
  show intV r.z r.e a b = 0
  have hv : numV r.z r.e = 0 := by unfold numV; rw [numE_bad h, if_neg h]
  unfold intV
  rw [hv]
  split <;> rfl
end Go.Proofs.Ytbimbpmdiahhbaa
