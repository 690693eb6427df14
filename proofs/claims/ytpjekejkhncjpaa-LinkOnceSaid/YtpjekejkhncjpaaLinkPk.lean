/- What is sent of what was said. -/
import Derived.Test.YtpjekejkhncjpaaLinkFns3
import Derived.Test.YtpjekejkhncjpaaPkData
namespace Go.Proofs.Ytpjekejkhncjpaa
open Go.RowKit
set_option linter.unusedSimpArgs false
/-- Packets with what is said from number k + 1 on. -/
def pkN (me to h : Int) : Nat → List Msg → List Pk
  | _, [] => []
  | k, m :: ms => ⟨me, to, ((k + 1 : Nat) : Int), h, m⟩ :: pkN me to h (k + 1) ms
theorem pkN_append (me to h : Int) (m : Msg) : ∀ (l : List Msg) (k : Nat), pkN me to h k (l ++ [m]) = pkN me to h k l ++ [⟨me, to, ((k + l.length + 1 : Nat) : Int), h, m⟩]
  | [], k => rfl
  | a :: l, k => by
    rw [List.cons_append, pkN, pkN_append me to h m l (k + 1), pkN, List.cons_append, List.length_cons, show k + 1 + l.length + 1 = k + (l.length + 1) + 1 by omega]
theorem pkN_length (me to h : Int) : ∀ (l : List Msg) (k : Nat), (pkN me to h k l).length = l.length
  | [], _ => rfl
  | a :: l, k => by rw [pkN, List.length_cons, pkN_length me to h l (k + 1), List.length_cons]
theorem pkN_get (me to h : Int) : ∀ (l : List Msg) (k i : Nat) (hi : i < l.length), (pkN me to h k l)[i]? = some ⟨me, to, ((k + i + 1 : Nat) : Int), h, l[i]⟩
  | a :: l, k, 0, _ => rfl
  | a :: l, k, i + 1, hi => by
    rw [pkN, List.getElem?_cons_succ, pkN_get me to h l (k + 1) i (by simpa using hi), show k + 1 + i + 1 = k + (i + 1) + 1 by omega]
    rfl
def packs (me to : Int) (q : Pe) (k : Nat) : List Pk := if q.1.length ≤ k then [⟨me, to, 0, q.2, msgZ⟩] else pkN me to q.2 k (q.1.drop k)
end Go.Proofs.Ytpjekejkhncjpaa
