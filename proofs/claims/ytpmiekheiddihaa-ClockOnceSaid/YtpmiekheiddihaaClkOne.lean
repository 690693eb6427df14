/- Names of which each is set once: pure. -/
import Derived.Test.YtpmiekheiddihaaClkNm
namespace Go.Proofs.Ytpmiekheiddihaa
open Go.RowKit Go.Maps
def nmX (i : Nat) : ByteArray := strOfNums [((i % 256 : Nat) : Int), 120]
theorem nmX_data (i : Nat) : (nmX i).data.toList = [UInt8.ofNat (i % 256), 120] := by
  unfold nmX
  rw [strOfNums_data]
  rfl
theorem nmX_inj {i j : Nat} (hi : i < 256) (hj : j < 256) (h : nmX i = nmX j) : i = j := by
  have h1 := congrArg (fun s => s.data.toList.map UInt8.toNat) h
  simp only [nmX_data] at h1
  simp at h1
  omega
theorem nmX_size (i : Nat) : (nmX i).size = 2 := by
  show (nmX i).data.size = 2
  rw [← Array.length_toList, nmX_data]
  rfl
theorem nmX_get (i : Nat) (hi : i < 256) (h : 0 < (nmX i).size) : ((nmX i)[0]'h).toNat = i := by
  have e : (nmX i)[0]'h = (nmX i).data[0]'h := rfl
  rw [e, ← Array.getElem_toList]
  simp only [nmX_data]
  simp
  omega
/-- Those of the first m that are set. -/
def onL (zs : List Int) (m : Nat) : List Nat := (List.range m).filter (fun i => decide (1 ≤ zs.getD i 0 ∧ zs.getD i 0 ≤ 50))
/-- What is due, name and time. -/
def Onc (zs : List Int) (m : Nat) (ds : List Du) : Prop := ds.map (fun d => (d.nm, d.t)) = (onL zs m).map (fun i => (nmX i, zs.getD i 0))
theorem onL_more (zs : List Int) (m : Nat) (h : 1 ≤ zs.getD m 0 ∧ zs.getD m 0 ≤ 50) : onL zs (m + 1) = onL zs m ++ [m] := by
  unfold onL
  rw [List.range_succ, List.filter_append]
  congr 1
  rw [List.filter_cons, if_pos (decide_eq_true h), List.filter_nil]
theorem onL_same (zs : List Int) (m : Nat) (h : ¬ (1 ≤ zs.getD m 0 ∧ zs.getD m 0 ≤ 50)) : onL zs (m + 1) = onL zs m := by
  unfold onL
  rw [List.range_succ, List.filter_append]
  have : [m].filter (fun i => decide (1 ≤ zs.getD i 0 ∧ zs.getD i 0 ≤ 50)) = [] := by
    rw [List.filter_eq_nil_iff]
    intro a ha e
    rw [List.mem_singleton.1 ha] at e
    exact h (of_decide_eq_true e)
  rw [this, List.append_nil]
theorem Onc.len {zs : List Int} {m : Nat} {ds : List Du} (h : Onc zs m ds) : ds.length = (onL zs m).length := by
  have := congrArg List.length h
  simpa using this
theorem Onc.le {zs : List Int} {m : Nat} {ds : List Du} (h : Onc zs m ds) : ds.length ≤ m := by
  rw [h.len]
  exact Nat.le_trans (List.length_filter_le _ _) (by rw [List.length_range]; exact Nat.le_refl _)
theorem Onc.each {zs : List Int} {m : Nat} {ds : List Du} (h : Onc zs m ds) {d : Du} (hd : d ∈ ds) : ∃ i, i ∈ onL zs m ∧ d.nm = nmX i ∧ d.t = zs.getD i 0 := by
  have h1 : (d.nm, d.t) ∈ ds.map (fun d => (d.nm, d.t)) := List.mem_map_of_mem (f := fun d : Du => (d.nm, d.t)) hd
  rw [h] at h1
  obtain ⟨i, hi, e⟩ := List.mem_map.1 h1
  obtain ⟨e1, e2⟩ := Prod.mk.inj e
  exact ⟨i, hi, e1.symm, e2.symm⟩
theorem Onc.no {zs : List Int} {m : Nat} {ds : List Du} (h : Onc zs m ds) (hm : m < 256) : dofU ds (nmX m) = none := by
  rw [dof_none]
  intro d hd e
  obtain ⟨i, hi, e2, _⟩ := h.each hd
  have hi2 := List.mem_range.1 (List.mem_filter.1 hi).1
  have := nmX_inj (by omega) hm (e2.symm.trans e)
  omega
theorem Onc.more {zs : List Int} {m b : Nat} {ds : List Du} {s : Int} (h : Onc zs m ds) (hm : m < 256) (hk : 1 ≤ zs.getD m 0 ∧ zs.getD m 0 ≤ 50) : Onc zs (m + 1) (dropU ds (nmX m) ++ [⟨b, nmX m, 0 + zs.getD m 0, s⟩]) := by
  rw [drop_self (h.no hm)]
  unfold Onc at *
  rw [onL_more zs m hk, List.map_append, h, List.map_append, Int.zero_add]
  rfl
theorem Onc.same {zs : List Int} {m : Nat} {ds : List Du} (h : Onc zs m ds) (hk : ¬ (1 ≤ zs.getD m 0 ∧ zs.getD m 0 ≤ 50)) : Onc zs (m + 1) ds := by
  unfold Onc at *
  rw [onL_same zs m hk, h]
theorem Onc.t {zs : List Int} {m : Nat} {ds : List Du} (h : Onc zs m ds) {d : Du} (hd : d ∈ ds) : 1 ≤ d.t ∧ d.t ≤ 50 := by
  obtain ⟨i, hi, _, e⟩ := h.each hd
  rw [e]
  exact of_decide_eq_true (List.mem_filter.1 hi).2
/-- The places of those that are due at T. -/
def idL (zs : List Int) (m : Nat) (T : Int) : List Nat := (onL zs m).filter (fun i => decide (zs.getD i 0 = T))
theorem Onc.told {zs : List Int} {m : Nat} {ds : List Du} (h : Onc zs m ds) (T : Int) : (atL T ds).map (·.nm) = (idL zs m T).map nmX := by
  have h1 := congrArg (fun l => (l.filter (fun p => decide (p.2 = T))).map Prod.fst) h
  simp only [List.filter_map, List.map_map] at h1
  exact h1
theorem idL_at {zs : List Int} {m : Nat} {T : Int} {i : Nat} (h : i ∈ idL zs m T) : i < m ∧ zs.getD i 0 = T := by
  have h1 := List.mem_filter.1 h
  exact ⟨List.mem_range.1 (List.mem_filter.1 h1.1).1, of_decide_eq_true h1.2⟩
theorem idL_lt (zs : List Int) (m : Nat) (T : Int) : (idL zs m T).Pairwise (· < ·) := by
  refine List.Pairwise.sublist ?_ (List.pairwise_lt_range (n := m))
  exact List.Sublist.trans List.filter_sublist List.filter_sublist
/-- The one told last. -/
def lastI (l : List Nat) (j : Nat) : Int := if j = 0 then -1 else (l.getD (j - 1) 0 : Int)
theorem last_lt {l : List Nat} (h : l.Pairwise (· < ·)) {j : Nat} (hj : j < l.length) : lastI l j < (l[j] : Int) := by
  unfold lastI
  by_cases h0 : j = 0
  · rw [if_pos h0]; omega
  · rw [if_neg h0]
    have h1 := List.pairwise_iff_getElem.1 h (j - 1) j (by omega) hj (by omega)
    rw [List.getD_eq_getElem?_getD, List.getElem?_eq_getElem (by omega)]
    show ((l[j - 1] : Nat) : Int) < _
    omega
theorem last_next {l : List Nat} {j : Nat} (hj : j < l.length) : lastI l (j + 1) = (l[j] : Int) := by
  unfold lastI
  rw [if_neg (by omega), Nat.add_sub_cancel, List.getD_eq_getElem?_getD, List.getElem?_eq_getElem hj]
  rfl
/-- Those due at the next time go. -/
theorem aft_len (T : Int) (ds : List Du) : (aftL T ds).length = (atL (T + 1) ds).length + (aftL (T + 1) ds).length := by
  unfold aftL atL
  induction ds with
  | nil => rfl
  | cons d l ih =>
    rw [List.filter_cons, List.filter_cons, List.filter_cons]
    by_cases h1 : d.t = T + 1
    · rw [if_pos (by simp; omega), if_pos (by simp; omega), if_neg (by simp; omega), List.length_cons, List.length_cons, ih]; omega
    · by_cases h2 : T < d.t
      · rw [if_pos (by simp; omega), if_neg (by simp; omega), if_pos (by simp; omega), List.length_cons, List.length_cons, ih]; omega
      · rw [if_neg (by simp; omega), if_neg (by simp; omega), if_neg (by simp; omega), ih]
theorem Row.plc {k : IntKind} {w : World} {p : Option Addr} {c n : Nat} {zs : List Int} (h : Row k w (.slice p n c) zs) (i : Nat) (hi : i < zs.length) : ∃ b o, p = some ⟨b, o, none⟩ ∧ w.cell? ⟨b, o + i, none⟩ = some (.int k (zs.getD i 0)) := by
  obtain ⟨p', c', e, _, h⟩ := h
  cases e
  rcases h with rfl | ⟨b, o, rfl, h⟩
  · simp at hi
  · exact ⟨b, o, rfl, h i hi⟩
end Go.Proofs.Ytpmiekheiddihaa
