/- Names of two bytes. -/
import Derived.Test.YtpmiekheiddihaaClkR
import Derived.Test.YtpmiekheiddihaaStrRow
namespace Go.Proofs.Ytpmiekheiddihaa
open Go.RowKit Go.Maps
def nmI (i : Nat) : ByteArray := strOfNums [((i % 256 : Nat) : Int), ((i / 256 % 256 : Nat) : Int)]
theorem nmI_data (i : Nat) : (nmI i).data.toList = [UInt8.ofNat (i % 256), UInt8.ofNat (i / 256 % 256)] := by
  unfold nmI
  rw [strOfNums_data]
  rfl
theorem nmI_inj {i j : Nat} (hi : i < 65536) (hj : j < 65536) (h : nmI i = nmI j) : i = j := by
  have h1 := congrArg (fun s => s.data.toList.map UInt8.toNat) h
  simp only [nmI_data] at h1
  simp at h1
  omega
theorem nmI_size (i : Nat) : (nmI i).size = 2 := by
  show (nmI i).data.size = 2
  rw [← Array.length_toList, nmI_data]
  rfl
/-- The row of two bytes that becomes a name. -/
theorem two_conv (w : World) (a b : Int) : (convert 49 9 (.slice (some ⟨w.heap.size, 0, none⟩) 2 2)).run Try.prog (w.alloc (.cells #[.int .u8 a, .int .u8 b] 5)) = .ok (.string (strOfNums [a, b])) (w.alloc (.cells #[.int .u8 a, .int .u8 b] 5)) :=
  conv_row _ _ _ 5 Try.underlying49 Try.underlying5 Try.underlying9 _ [a, b] ⟨some ⟨w.heap.size, 0, none⟩, 2, rfl, Nat.le_refl _, .inr ⟨w.heap.size, 0, rfl, fun i hi => by
    have h := (Blk.new w #[.int .u8 a, .int .u8 b] 5)
    match i, hi with
    | 0, _ => exact h.cell 0
    | 1, _ => exact h.cell 1⟩⟩
theorem u8_mod (i : Nat) : IntKind.u8.wrap (i : Int) = ((i % 256 : Nat) : Int) := by rw [IntKind.wrap_u8]; omega
/-- Names 0 to m - 1 are due. -/
def Nms (ds : List Du) (m : Nat) : Prop := ds.map (·.nm) = (List.range m).map nmI
theorem Nms.len {ds : List Du} {m : Nat} (h : Nms ds m) : ds.length = m := by
  have := congrArg List.length h
  simpa using this
theorem Nms.name {ds : List Du} {m : Nat} (h : Nms ds m) {d : Du} (hd : d ∈ ds) : ∃ j, j < m ∧ d.nm = nmI j := by
  have h1 : d.nm ∈ ds.map (·.nm) := List.mem_map_of_mem hd
  rw [h] at h1
  obtain ⟨j, hj, e⟩ := List.mem_map.1 h1
  exact ⟨j, List.mem_range.1 hj, e.symm⟩
theorem Nms.there {ds : List Du} {m : Nat} (h : Nms ds m) {j : Nat} (hj : j < m) : ∃ d ∈ ds, d.nm = nmI j := by
  have h1 : nmI j ∈ ds.map (·.nm) := by
    rw [h]
    exact List.mem_map_of_mem (List.mem_range.2 hj)
  obtain ⟨d, hd, e⟩ := List.mem_map.1 h1
  exact ⟨d, hd, e⟩
theorem Nms.no {ds : List Du} {m i : Nat} (h : Nms ds m) (hi : m ≤ i) (hi2 : i < 65536) : dofU ds (nmI i) = none := by
  rw [dof_none]
  intro d hd e
  obtain ⟨j, hj, e2⟩ := h.name hd
  have := nmI_inj (by omega) hi2 (e2.symm.trans e)
  omega
theorem Nms.more {ds : List Du} {m b : Nat} {t s : Int} (h : Nms ds m) (hm : m < 65536) : Nms (dropU ds (nmI m) ++ [⟨b, nmI m, t, s⟩]) (m + 1) := by
  rw [drop_self (h.no (Nat.le_refl _) hm)]
  unfold Nms at *
  rw [List.map_append, h, List.range_succ, List.map_append]
  rfl
theorem no_z {ds : List Du} (h : ∀ d ∈ ds, d.nm.size = 2) : dofU ds ⟨#[122]⟩ = none := by
  rw [dof_none]
  intro d hd e
  have h1 := h d hd
  rw [e] at h1
  exact absurd h1 (by decide)
theorem dof_yes {ds : List Du} {s : ByteArray} {d : Du} (hd : d ∈ ds) (e : d.nm = s) : dofU ds s ≠ none := fun h => dof_none.1 h d hd e
/-- 4096 names are due: one that is there is set anew; one more isn't; one less, and it is. -/
theorem full_end {ds : List Du} (hn : NamesU ds) (h : Nms ds 4096) (later : Int) (hl : 1 ≤ later ∧ later ≤ 1000) (b b2 : Nat) (t s t2 s2 : Int) :
    setE 0 ds ⟨#[0, 0]⟩ later = 0 ∧ (∀ ds2, ds2 = dropU ds ⟨#[0, 0]⟩ ++ [⟨b, ⟨#[0, 0]⟩, t, s⟩] → setE 0 ds2 ⟨#[122]⟩ 1 = 3 ∧ dropE ds2 ⟨#[1, 0]⟩ = 0 ∧ setE 0 (dropU ds2 ⟨#[1, 0]⟩) ⟨#[122]⟩ 1 = 0 ∧ (dropU (dropU ds2 ⟨#[1, 0]⟩) ⟨#[122]⟩ ++ [(⟨b2, ⟨#[122]⟩, t2, s2⟩ : Du)]).length = 4096) := by
  have e0 : nmI 0 = ⟨#[0, 0]⟩ := by apply ByteArray.ext; apply Array.toList_inj.1; rw [nmI_data]; rfl
  have e1 : nmI 1 = ⟨#[1, 0]⟩ := by apply ByteArray.ext; apply Array.toList_inj.1; rw [nmI_data]; rfl
  have h01 : (⟨#[0, 0]⟩ : ByteArray) ≠ ⟨#[1, 0]⟩ := by decide
  obtain ⟨d0, hd0, en0⟩ := h.there (j := 0) (by decide)
  obtain ⟨d1, hd1, en1⟩ := h.there (j := 1) (by decide)
  rw [e0] at en0
  rw [e1] at en1
  have hlen := h.len
  have hl0 := drop_len hn hd0
  rw [en0] at hl0
  refine ⟨?_, ?_⟩
  · unfold setE
    rw [if_neg (by omega), if_neg (fun h => dof_yes hd0 en0 h.1)]
  · rintro ds2 rfl
    have hsz : ∀ d ∈ dropU ds ⟨#[0, 0]⟩ ++ [(⟨b, ⟨#[0, 0]⟩, t, s⟩ : Du)], d.nm.size = 2 := fun d hd => by
      rcases List.mem_append.1 hd with h1 | h1
      · obtain ⟨j, _, e⟩ := h.name (List.mem_filter.1 h1).1
        rw [e]; exact nmI_size j
      · rw [List.mem_singleton.1 h1]; rfl
    have hn2 : NamesU (dropU ds ⟨#[0, 0]⟩ ++ [(⟨b, ⟨#[0, 0]⟩, t, s⟩ : Du)]) := by
      unfold NamesU
      rw [List.pairwise_append]
      exact ⟨hn.sublist List.filter_sublist, List.pairwise_singleton _ _, fun x hx y hy => by rw [List.mem_singleton.1 hy]; exact of_decide_eq_true (List.mem_filter.1 hx).2⟩
    have hd1' : d1 ∈ dropU ds ⟨#[0, 0]⟩ ++ [(⟨b, ⟨#[0, 0]⟩, t, s⟩ : Du)] := List.mem_append_left _ (List.mem_filter.2 ⟨hd1, decide_eq_true (by rw [en1]; exact h01.symm)⟩)
    have hl1 := drop_len hn2 hd1'
    rw [en1, List.length_append, List.length_singleton] at hl1
    have hsz3 : ∀ d ∈ dropU (dropU ds ⟨#[0, 0]⟩ ++ [(⟨b, ⟨#[0, 0]⟩, t, s⟩ : Du)]) ⟨#[1, 0]⟩, d.nm.size = 2 := fun d hd => hsz d (List.mem_filter.1 hd).1
    refine ⟨?_, ?_, ?_, ?_⟩
    · unfold setE
      rw [if_neg (by omega), if_pos ⟨no_z hsz, by rw [List.length_append, List.length_singleton]; omega⟩]
    · unfold dropE
      rw [if_neg (dof_yes hd1' en1)]
    · unfold setE
      rw [if_neg (by omega), if_neg (fun h => by omega)]
    · rw [drop_self (no_z hsz3), List.length_append, List.length_singleton]
      omega
end Go.Proofs.Ytpmiekheiddihaa
