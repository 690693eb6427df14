/- WholeLife: what its loops keep, without a world. -/
import Derived.Test.YtpapcpjkaehhoaaBooks2
import Derived.Test.YtpapcpjkaehhoaaItemNew
namespace Go.Proofs.Ytpapcpjkaehhoaa
open Go.RowKit
/-- What an act does to an item that can be. -/
def ActOk (x y : Itm) (e : Int) : Prop := chkI y = 0 ∧ y.s + y.b = x.s + x.b ∧ (e ≠ 0 → y = x) ∧ (e = 0 → overI x = false) ∧ (-1000 ≤ e ∧ e ≤ 1000)
theorem act_life (x : Itm) (k n : Int) (h : chkI x = 0) (hk : 1 ≤ k ∧ k ≤ 7) : ActOk x (actI x k n).1 (actI x k n).2 := by
  refine ⟨act_ok k n h, ?_, ?_, ?_, ?_⟩
  all_goals
    unfold actI turnI adjI lockI freeI settleI
    try unfold overI
    repeat' split
    all_goals (try simp_all)
    all_goals (try omega)
/-- What is agreed in a currency is the same to both. -/
def agrI (c : Int) (x : Itm) : Bool := x.t == 3 && x.c == c
theorem keep0 {c : Int} {x : Itm} (h : chkI x = 0) (h1 : x.s + x.b = 1) : keepI c 1 x = agrI c x ∧ keepI c 0 x = agrI c x := by
  have hp := (chk_ok h).1
  unfold partsOk at hp
  have hs : (x.s = 0 ∧ x.b = 1) ∨ (x.s = 1 ∧ x.b = 0) := by omega
  unfold keepI dropI outI agrI
  rcases hs with ⟨e1, e2⟩ | ⟨e1, e2⟩ <;> rw [e1, e2] <;> by_cases h3 : x.t = 3 <;> by_cases h4 : x.c = c <;> simp [h3, h4, bne]
theorem filt_same {X : List Itm} (h : GoodX X) (c : Int) : X.filter (keepI c 1) = X.filter (agrI c) ∧ X.filter (keepI c 0) = X.filter (agrI c) :=
  ⟨List.filter_congr (fun x hx => (keep0 (h.2 x hx).1 (h.2 x hx).2).1), List.filter_congr (fun x hx => (keep0 (h.2 x hx).1 (h.2 x hx).2).2)⟩
def sumA (X : List Itm) (c : Int) : Int := ((X.filter (agrI c)).map (amtI 0)).sum
theorem sum_pair : ∀ (Y : List Itm), (∀ x ∈ Y, chkI x = 0 ∧ x.s + x.b = 1) → (Y.map (amtI 1)).sum = -(Y.map (amtI 0)).sum ∧ -1125899906842624 * (Y.length : Int) ≤ (Y.map (amtI 0)).sum ∧ (Y.map (amtI 0)).sum ≤ 1125899906842624 * (Y.length : Int)
  | [], _ => by simp
  | x :: Y, h => by
    obtain ⟨h1, h2, h3⟩ := sum_pair Y (fun z hz => h z (List.mem_cons_of_mem _ hz))
    obtain ⟨hx, hs⟩ := h x (List.mem_cons_self ..)
    have hp := (chk_ok hx).1
    have hq := (chk_ok hx).2.1
    unfold partsOk at hp
    unfold numsOk at hq
    have ha : amtI 1 x = -amtI 0 x ∧ -1125899906842624 ≤ amtI 0 x ∧ amtI 0 x ≤ 1125899906842624 := by
      have hs2 : (x.s = 0 ∧ x.b = 1) ∨ (x.s = 1 ∧ x.b = 0) := by omega
      unfold amtI
      rcases hs2 with ⟨e1, e2⟩ | ⟨e1, e2⟩ <;> rw [e1] <;> simp <;> omega
    simp only [List.map_cons, List.sum_cons, List.length_cons]
    omega
theorem sum_both {X : List Itm} (h : GoodX X) (c : Int) (hl : X.length ≤ 1000) : sumN ((X.filter (keepI c 1)).map (amtI 0)).sum = sumA X c ∧ sumE ((X.filter (keepI c 1)).map (amtI 0)).sum = 0 ∧ sumN ((X.filter (keepI c 0)).map (amtI 1)).sum = -sumA X c ∧ sumE ((X.filter (keepI c 0)).map (amtI 1)).sum = 0 ∧ sumN (- -sumA X c) = sumA X c ∧ sumE (- -sumA X c) = 0 ∧ Fits (sumA X c) ∧ Fits (-sumA X c) := by
  have hf := filt_same h c
  rw [hf.1, hf.2]
  have hY : ∀ x ∈ X.filter (agrI c), chkI x = 0 ∧ x.s + x.b = 1 := fun x hx => h.2 x (List.mem_filter.1 hx).1
  obtain ⟨h1, h2, h3⟩ := sum_pair _ hY
  have hlen : (X.filter (agrI c)).length ≤ X.length := List.length_filter_le _ _
  have hA : Fits (sumA X c) := by unfold Fits sumA; omega
  have hB : Fits (-sumA X c) := by unfold Fits sumA; omega
  rw [h1]
  exact ⟨sumN_yes hA, sumE_yes hA, sumN_yes hB, sumE_yes hB, by rw [Int.neg_neg]; exact sumN_yes hA, by rw [Int.neg_neg]; exact sumE_yes hA, hA, hB⟩
end Go.Proofs.Ytpapcpjkaehhoaa
