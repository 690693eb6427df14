/- Rounds of ticks. -/
import Derived.Test.YtpmiekheiddihaaClkHead
namespace Go.Proofs.Ytpmiekheiddihaa
open Go.RowKit Go.Maps
/-- What is due later than a time. -/
def aftL (T : Int) (ds : List Du) : List Du := ds.filter (fun d => decide (T < d.t))
def atL (T : Int) (ds : List Du) : List Du := ds.filter (fun d => decide (d.t = T))
theorem aft_all {T : Int} {ds : List Du} (h : ∀ d ∈ ds, T < d.t) : aftL T ds = ds := List.filter_eq_self.2 (fun d hd => decide_eq_true (h d hd))
theorem aft_none {T : Int} {ds : List Du} (h : ∀ d ∈ ds, d.t ≤ T) : aftL T ds = [] := List.filter_eq_nil_iff.2 (fun d hd e => by have := h d hd; have := of_decide_eq_true e; omega)
theorem aft_tick {T : Int} {ds : List Du} (hT : T ≠ 1099511627776) : tickD T (aftL T ds) = aftL (T + 1) ds ∧ tickL T (aftL T ds) = (atL (T + 1) ds).map (·.nm) ∧ tickN T = T + 1 := by
  unfold tickD tickL tickN
  rw [if_neg hT, if_neg hT, if_neg hT]
  unfold restL dueL dueB aftL atL
  rw [List.filter_filter, List.filter_filter]
  refine ⟨List.filter_congr (fun d _ => ?_), ?_, rfl⟩
  · by_cases h1 : T + 1 < d.t
    · have h2 : ¬ d.t ≤ T + 1 := by omega
      have h3 : T < d.t := by omega
      simp [h1, h2, h3]
    · have h2 : d.t ≤ T + 1 := by omega
      simp [h1, h2]
  · congr 1
    refine List.filter_congr (fun d _ => ?_)
    by_cases h1 : d.t = T + 1
    · have h2 : d.t ≤ T + 1 := by omega
      have h3 : T < d.t := by omega
      simp only [decide_eq_true h1, decide_eq_true h2, decide_eq_true h3, Bool.and_self]
    · by_cases h2 : T < d.t
      · have h3 : ¬ d.t ≤ T + 1 := by omega
        simp [h1, h3]
      · simp [h1, h2]
def cntS (x : ByteArray) (l : List ByteArray) : Nat := (l.filter (fun s => decide (s = x))).length
theorem cnt_take {x : ByteArray} {l : List ByteArray} {k : Nat} (hk : k < l.length) : cntS x (l.take (k + 1)) = cntS x (l.take k) + if l[k] = x then 1 else 0 := by
  unfold cntS
  rw [List.take_succ_eq_append_getElem hk, List.filter_append, List.length_append]
  congr 1
  by_cases h : l[k] = x
  · rw [if_pos h]; simp [h]
  · rw [if_neg h]; simp [h]
/-- The cells of a slice of strings. -/
theorem OwnT.strs {w : World} {base n c : Nat} {p : Option Addr} {xs : List ByteArray} (h : OwnT encT w base 9 (.slice p n c) xs) (i : Nat) (hi : i < xs.length) : ∃ g, p = some ⟨g, 0, none⟩ ∧ w.cell? ⟨g, i, none⟩ = some (.string xs[i]) := by
  have hn : 0 < n := by
    obtain ⟨p', c', e1⟩ := h.form
    have := (Value.slice.inj e1).2.1
    omega
  obtain ⟨g, cur, rfl, _, _, _⟩ := h.lies hn
  obtain ⟨b, o, e1, _, hx⟩ := h.row.at_ i hi
  obtain ⟨rfl, rfl⟩ : g = b ∧ 0 = o := by simpa using e1
  refine ⟨g, rfl, ?_⟩
  have h0 := hx 0 (by decide)
  simpa [encT] using h0
theorem bs_ne {s x : ByteArray} (h : s ≠ x) : (s == x) = false := by
  cases hs : s == x with
  | false => rfl
  | true =>
    exfalso
    apply h
    cases s with | mk a => cases x with | mk b =>
    have h2 : (a == b) = true := hs
    simpa using h2
theorem bs_self (x : ByteArray) : (x == x) = true := by
  cases x with | mk a =>
  show (a == a) = true
  simp
theorem bl_ne {s x : ByteArray} (h : s ≠ x) : (s.toList == x.toList) = false := by
  have h1 : s.toList ≠ x.toList := fun e => h (by
    rw [ByteArray.toList_eq, ByteArray.toList_eq] at e
    exact ByteArray.ext (Array.toList_inj.1 e))
  simpa using h1
theorem bl_lit {s : ByteArray} {l : List UInt8} (h : s ≠ ⟨l.toArray⟩) : (s.toList == l) = false := by
  have h1 := bl_ne h
  rw [ByteArray.toList_eq (bs := ⟨l.toArray⟩)] at h1
  exact h1
theorem bl_self (x : ByteArray) : (x.toList == x.toList) = true := by simp
theorem set_zero {now : Int} {ds : List Du} {s : ByteArray} {later : Int} (h1 : 1 ≤ later) (h2 : later ≤ 1099511627776 - now) (h3 : ds.length < 4096) : setE now ds s later = 0 := by
  unfold setE
  rw [if_neg (by omega), if_neg (by omega)]
end Go.Proofs.Ytpmiekheiddihaa
