/- A torn end: so many bytes, the last of them exclusive or a turn. -/
import Derived.Test.YtjbhcdmeeakdcaaOct
import Derived.Laws.BitsAllLaws
namespace Go.Proofs.Ytjbhcdmeeakdcaa
theorem getD_take {l : List Int} {i k : Nat} (h : i < k) : (l.take k).getD i 0 = l.getD i 0 := by
  rw [List.getD_eq_getElem?_getD, List.getD_eq_getElem?_getD, List.getElem?_take, if_pos h]
def xorI (x : Int) (t : Int) : Int := ((x.toNat ^^^ t.toNat : Nat) : Int)
def tornL (l : List Int) (cut : Nat) (t : Int) : List Int := if cut = 0 then [] else (l.take cut).set (cut - 1) (xorI (l.getD (cut - 1) 0) t)
theorem tornL_length {l : List Int} {cut : Nat} (h : cut ≤ l.length) (t : Int) : (tornL l cut t).length = cut := by
  unfold tornL; split
  · simp_all
  · rw [List.length_set, List.length_take]; omega
theorem xorI_zero {x : Int} (h : 0 ≤ x) : xorI x 0 = x := by unfold xorI; simp; omega
theorem xorI_in {x t : Int} (hx : 0 ≤ x ∧ x < 256) (ht : 0 ≤ t ∧ t < 256) : 0 ≤ xorI x t ∧ xorI x t < 256 := by
  have : x.toNat ^^^ t.toNat < 256 := Nat.xor_lt_two_pow (n := 8) (by omega) (by omega)
  unfold xorI; omega
theorem tornL_oct {l : List Int} (ho : Oct l) (cut : Nat) {t : Int} (ht : 0 ≤ t ∧ t < 256) : Oct (tornL l cut t) := by
  unfold tornL; split
  · intro a ha; cases ha
  · intro a ha
    rcases List.mem_or_eq_of_mem_set ha with ha | rfl
    · exact ho.take _ a ha
    · exact xorI_in (ho.getD _) ht
theorem xor8_I (x t : Int) (hx : 0 ≤ x ∧ x < 256) (ht : 0 ≤ t ∧ t < 256) : bits .xor .u8 x t = xorI x t := by
  obtain ⟨X, rfl⟩ : ∃ X : Nat, x = X := ⟨x.toNat, by omega⟩
  obtain ⟨T, rfl⟩ : ∃ T : Nat, t = T := ⟨t.toNat, by omega⟩
  unfold xorI
  rw [u8_xor_nat X T (by omega) (by omega)]
  simp
end Go.Proofs.Ytjbhcdmeeakdcaa
