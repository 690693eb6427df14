/- MsgReads: what the document's From reads, in plain words. -/
import Derived.Test.YtbimbpmdiahhbaaMsgTie
import Derived.Test.YtbimbpmdiahhbaaMsgFrom
namespace Go.Proofs.Ytbimbpmdiahhbaa
open Go.RowKit
def F9 (q : RS) : RS := q.num.bool
def F10 (q : RS) : RS := (F9 q).int 0 1024
def fLs (q : RS) : Nat := ((F9 q).intV 0 1024).toNat
def F11 (q : RS) : RS := (F10 q).lins (fLs q)
def F12 (q : RS) : RS := (F11 q).int 0 8
def fNs (q : RS) : Nat := ((F11 q).intV 0 8).toNat
def F13 (q : RS) : RS := (F12 q).nets (fNs q)
theorem fLs_eq (q : RS) : (F9 q).intV 0 1024 = (fLs q : Nat) ∧ fLs q ≤ 1024 := by have := (F9 q).intV_fits (a := 0) (b := 1024) (by decide) (by decide); unfold fLs; omega
theorem fNs_eq (q : RS) : (F11 q).intV 0 8 = (fNs q : Nat) ∧ fNs q ≤ 8 := by have := (F11 q).intV_fits (a := 0) (b := 8) (by decide) (by decide); unfold fNs; omega
/-- The state behind the kind, which must be one. -/
def dst (r : RS) : RS := if badK r = true then ⟨r.nx.z, 110⟩ else r.nx
/-- The state behind so many of the first seven numbers. -/
def dk (r : RS) : Nat → RS
  | 0 => r
  | 1 => dst r
  | k + 2 => (dk r (k + 1)).nx
theorem dk_succ (r : RS) (k : Nat) (hk : 0 < k) : dk r (k + 1) = (dk r k).nx := by
  cases k with
  | zero => omega
  | succ k => rfl
theorem tie_dst {s : ByteArray} {a : Nat} {r : RS} (h : TieR s a r.nx) : TieR s a (dst r) := by
  unfold dst
  split
  · obtain ⟨h1, h2, h3, h4, _⟩ := h
    exact ⟨h1, h2, h3, h4, fun h => by cases h⟩
  · exact h
theorem F13_stick {q : RS} (h : q.e ≠ 0) : (F13 q).e = q.e := by
  have h1 : q.num.e = q.e := num_stick h
  have h2 : (F9 q).e = q.e := (bool_stick (by rw [h1]; exact h)).trans h1
  have h3 : (F10 q).e = q.e := (int_stick (by rw [h2]; exact h) _ _).trans h2
  have h4 : (F11 q).e = q.e := (lins_stick (by rw [h3]; exact h) _).trans h3
  have h5 : (F12 q).e = q.e := (int_stick (by rw [h4]; exact h) _ _).trans h4
  exact (nets_stick (by rw [h5]; exact h) _).trans h5
/-- Where the reading of lines ends early, that is the error of all. -/
theorem F13_lines {q : RS} {i : Nat} (hi : i ≤ fLs q) (h : ((F10 q).lins i).e ≠ 0) : (F13 q).e = ((F10 q).lins i).e := by
  obtain ⟨d, hd⟩ : ∃ d, fLs q = i + d := ⟨fLs q - i, by omega⟩
  have h1 : (F11 q).e = ((F10 q).lins i).e := by unfold F11; rw [hd]; exact lins_more h d
  have h2 : (F12 q).e = (F11 q).e := int_stick (by rw [h1]; exact h) _ _
  have h3 : (F13 q).e = (F12 q).e := nets_stick (by rw [h2, h1]; exact h) _
  rw [h3, h2, h1]
theorem F13_nets {q : RS} {i : Nat} (hi : i ≤ fNs q) (h : ((F12 q).nets i).e ≠ 0) : (F13 q).e = ((F12 q).nets i).e := by
  obtain ⟨d, hd⟩ : ∃ d, fNs q = i + d := ⟨fNs q - i, by omega⟩
  unfold F13
  rw [hd]
  exact nets_more h d
theorem dk_bad {r : RS} (h : badK r = true) : ∀ k, (dk r (k + 1)).e = 110
  | 0 => by show (dst r).e = 110; unfold dst; rw [if_pos h]
  | k + 1 => by
    have h1 := dk_bad h k
    show (dk r (k + 1)).nx.e = 110
    exact (int_stick (by rw [h1]; decide) _ _).trans h1
theorem dk_good {r : RS} (h : badK r = false) : ∀ k, dk r (k + 1) = r.nxs (k + 1)
  | 0 => by
    show dst r = _
    unfold dst
    rw [h]
    rfl
  | k + 1 => by
    show (dk r (k + 1)).nx = _
    rw [dk_good h k]
    rfl
theorem F13_R13 (r : RS) : F13 (R7 r) = R13 r := rfl
/-- What the document's From answers. -/
def FromD (w : World) (s : ByteArray) (r : RS) (x : Ending) (w' : World) : Prop :=
  ∃ (a : Nat) (vl vn : Value), x = .returned (.tuple #[rdV s a (rdE r), (rdM r).v vl vn]) ∧ OwnT encN w' w.heap.size 49 vl (rdM r).ls ∧ Own .i64 w' w.heap.size 2 vn (rdM r).ns ∧ (rdE r = 0 → TieR s a (rdR r)) ∧ Below w.heap.size w w'
/-- The cells of the first numbers. -/
def vD (r : RS) (k i : Nat) : Value := .int .i64 (if i < k then (dk r i).nV else 0)
def csD (r : RS) (k : Nat) : Array Value := #[vD r k 0, vD r k 1, vD r k 2, vD r k 3, vD r k 4, vD r k 5, vD r k 6]
theorem csD_at {r : RS} {k : Nat} (hk : k < 7) : (csD r k)[k]? = some (.int .i64 0) := by
  have h0 : vD r k k = .int .i64 0 := by unfold vD; rw [if_neg (by omega)]
  unfold csD
  match k, hk with
  | 0, _ => exact congrArg some h0
  | 1, _ => exact congrArg some h0
  | 2, _ => exact congrArg some h0
  | 3, _ => exact congrArg some h0
  | 4, _ => exact congrArg some h0
  | 5, _ => exact congrArg some h0
  | 6, _ => exact congrArg some h0
theorem csD_set {r : RS} {k : Nat} (hk : k < 7) : (csD r k).setIfInBounds k (.int .i64 (dk r k).nV) = csD r (k + 1) := by
  match k, hk with
  | 0, _ => rfl
  | 1, _ => rfl
  | 2, _ => rfl
  | 3, _ => rfl
  | 4, _ => rfl
  | 5, _ => rfl
  | 6, _ => rfl
theorem infoRd {cs : Array Value} (h : cs.size = 3) : (Try.prog.info? 44).map (·.size) = some cs.size := by
  rw [h]
  kernel_rfl
theorem badK_of {r : RS} (h : r.nx.e = 0) (hv : ¬ (1 ≤ r.nV ∧ r.nV ≤ 16)) : badK r = true := by
  unfold badK
  rw [show okK r.nV = false from by cases hk : okK r.nV; rfl; exact absurd (okK_iff.1 hk) hv]
  simp [h]
theorem badK_not {r : RS} (h : r.nx.e ≠ 0 ∨ (1 ≤ r.nV ∧ r.nV ≤ 16)) : badK r = false := by
  unfold badK
  rcases h with h | h
  · simp [h]
  · rw [okK_iff.2 h]; simp
end Go.Proofs.Ytbimbpmdiahhbaa
