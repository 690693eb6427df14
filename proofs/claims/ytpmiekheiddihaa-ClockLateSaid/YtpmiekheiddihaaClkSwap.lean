/- dues.Swap by contract. -/
import Derived.Test.YtpmiekheiddihaaClkLess
namespace Go.Proofs.Ytpmiekheiddihaa
open Go.RowKit
theorem OwnT.drew {α : Type} {e : Enc α} {w : World} {base : Nat} {ty : TypeId} {v : Value} {xs : List α} (h : OwnT e w base ty v xs) : OwnT e w.drew base ty v xs := h
theorem own_set1 {w : World} {base n c g : Nat} {ty : TypeId} {xs : List Du} (h : OwnT encU w base ty (.slice (some ⟨g, 0, none⟩) n c) xs) (i : Nat) (hi : i < n) (d : Du) : OwnT encU (w.setCell ⟨g, i, none⟩ (.pointer (some ⟨d.b, 0, none⟩))) base ty (.slice (some ⟨g, 0, none⟩) n c) (xs.set i d) := by
  have h1 := h.put i hi d
  have e : i * encU.k = i := Nat.mul_one i
  rw [e] at h1
  exact h1
theorem own_free {w : World} {base n c g : Nat} {ty : TypeId} {xs : List Du} (h : OwnT encU w base ty (.slice (some ⟨g, 0, none⟩) n c) xs) (i : Nat) (hn : 0 < n) : w.frozen? ⟨g, i, none⟩ = false := by
  obtain ⟨g', cur, e1, _, hg, _⟩ := h.lies hn
  cases e1
  exact hg.free i
def swapL (hs : List Du) (i j : Nat) (hi : i < hs.length) (hj : j < hs.length) : List Du := (hs.set i hs[j]).set j hs[i]
theorem swap_len (hs : List Du) (i j : Nat) (hi : i < hs.length) (hj : j < hs.length) : (swapL hs i j hi hj).length = hs.length := by unfold swapL; rw [List.length_set, List.length_set]
theorem swap_get {hs : List Du} {i j : Nat} {hi : i < hs.length} {hj : j < hs.length} (_ : i < j) (k : Nat) (hk : k < (swapL hs i j hi hj).length) : (swapL hs i j hi hj)[k] = if k = j then hs[i] else if k = i then hs[j] else hs[k]'(by rw [swap_len] at hk; exact hk) := by
  have hk3 : k < ((hs.set i hs[j]).set j hs[i]).length := hk
  show ((hs.set i hs[j]).set j hs[i])[k]'hk3 = _
  rw [List.getElem_set]
  by_cases h1 : j = k
  · rw [if_pos h1, if_pos h1.symm]
  · rw [if_neg h1, if_neg (fun e => h1 e.symm), List.getElem_set]
    by_cases h2 : i = k
    · rw [if_pos h2, if_pos h2.symm]
    · rw [if_neg h2, if_neg (fun e => h2 e.symm)]
theorem swap_parts {hs : List Du} {i j : Nat} (hi : i < hs.length) (hj : j < hs.length) (hij : i < j) : ∃ A B C, hs = A ++ hs[i] :: (B ++ hs[j] :: C) ∧ swapL hs i j hi hj = A ++ hs[j] :: (B ++ hs[i] :: C) := by
  refine ⟨hs.take i, (hs.drop (i + 1)).take (j - i - 1), hs.drop (j + 1), ?_, ?_⟩
  · apply List.ext_getElem?
    intro k
    rcases Nat.lt_trichotomy k i with h | h | h
    · rw [List.getElem?_append_left (by rw [List.length_take]; omega), List.getElem?_take, if_pos h]
    · subst h
      rw [List.getElem?_append_right (by rw [List.length_take]; omega), List.length_take, show k - min k hs.length = 0 by omega, List.getElem?_cons_zero, List.getElem?_eq_getElem hi]
    · rw [List.getElem?_append_right (by rw [List.length_take]; omega), List.length_take, show k - min i hs.length = (k - i - 1) + 1 by omega, List.getElem?_cons_succ]
      rcases Nat.lt_trichotomy k j with h2 | h2 | h2
      · rw [List.getElem?_append_left (by rw [List.length_take, List.length_drop]; omega), List.getElem?_take, if_pos (by omega), List.getElem?_drop]
        congr 1; omega
      · subst h2
        rw [List.getElem?_append_right (by rw [List.length_take, List.length_drop]; omega), List.length_take, List.length_drop, show k - i - 1 - min (k - i - 1) (hs.length - (i + 1)) = 0 by omega, List.getElem?_cons_zero, List.getElem?_eq_getElem hj]
      · rw [List.getElem?_append_right (by rw [List.length_take, List.length_drop]; omega), List.length_take, List.length_drop, show k - i - 1 - min (j - i - 1) (hs.length - (i + 1)) = (k - j - 1) + 1 by omega, List.getElem?_cons_succ, List.getElem?_drop]
        congr 1; omega
  · apply List.ext_getElem?
    intro k
    unfold swapL
    rcases Nat.lt_trichotomy k i with h | h | h
    · rw [List.getElem?_set_ne (by omega), List.getElem?_set_ne (by omega), List.getElem?_append_left (by rw [List.length_take]; omega), List.getElem?_take, if_pos h]
    · subst h
      rw [List.getElem?_set_ne (by omega), List.getElem?_set_self hi, List.getElem?_append_right (by rw [List.length_take]; omega), List.length_take, show k - min k hs.length = 0 by omega, List.getElem?_cons_zero]
    · rw [List.getElem?_append_right (by rw [List.length_take]; omega), List.length_take, show k - min i hs.length = (k - i - 1) + 1 by omega, List.getElem?_cons_succ]
      rcases Nat.lt_trichotomy k j with h2 | h2 | h2
      · rw [List.getElem?_set_ne (by omega), List.getElem?_set_ne (by omega), List.getElem?_append_left (by rw [List.length_take, List.length_drop]; omega), List.getElem?_take, if_pos (by omega), List.getElem?_drop]
        congr 1; omega
      · subst h2
        rw [List.getElem?_set_self (by rw [List.length_set]; exact hj), List.getElem?_append_right (by rw [List.length_take, List.length_drop]; omega), List.length_take, List.length_drop, show k - i - 1 - min (k - i - 1) (hs.length - (i + 1)) = 0 by omega, List.getElem?_cons_zero]
      · rw [List.getElem?_set_ne (by omega), List.getElem?_set_ne (by omega), List.getElem?_append_right (by rw [List.length_take, List.length_drop]; omega), List.length_take, List.length_drop, show k - i - 1 - min (j - i - 1) (hs.length - (i + 1)) = (k - j - 1) + 1 by omega, List.getElem?_cons_succ, List.getElem?_drop]
        congr 1; omega
theorem swap_perm {hs : List Du} {i j : Nat} (hi : i < hs.length) (hj : j < hs.length) (hij : i < j) : (swapL hs i j hi hj).Perm hs := by
  obtain ⟨A, B, C, h1, h2⟩ := swap_parts hi hj hij
  have e : (hs[j] :: (B ++ hs[i] :: C)).Perm (hs[i] :: (B ++ hs[j] :: C)) := by
    refine ((List.perm_middle (a := hs[i]) (l₁ := B) (l₂ := C)).cons hs[j]).trans ?_
    refine (List.Perm.swap _ _ _).trans ?_
    exact (List.perm_middle (a := hs[j]) (l₁ := B) (l₂ := C)).symm.cons _
  rw [h2]
  exact (e.append_left A).trans (List.Perm.of_eq h1.symm)
/-- What two stores into the row and two into the places leave. -/
theorem swap_same {P : Nat → Prop} {w : World} {g n c : Nat} {hs : List Du} (h : Hp P w (some ⟨g, 0, none⟩) n c hs) {i j : Nat} (hij : i < j) (hi : i < hs.length) (hj : j < hs.length) (hPg : P g) (hgd : ∀ d ∈ hs, g ≠ d.b) :
    hs.length ≤ c ∧ Hp P ((((w.drew.setCell ⟨g, i, none⟩ (.pointer (some ⟨hs[j].b, 0, none⟩))).setCell ⟨g, j, none⟩ (.pointer (some ⟨hs[i].b, 0, none⟩))).drew.setCell ⟨hs[j].b, 3, none⟩ (.int .i64 (i : Int))).setCell ⟨hs[i].b, 3, none⟩ (.int .i64 (j : Int))) (some ⟨g, 0, none⟩) n c (swapL hs i j hi hj) ∧ ChgP P w ((((w.drew.setCell ⟨g, i, none⟩ (.pointer (some ⟨hs[j].b, 0, none⟩))).setCell ⟨g, j, none⟩ (.pointer (some ⟨hs[i].b, 0, none⟩))).drew.setCell ⟨hs[j].b, 3, none⟩ (.int .i64 (i : Int))).setCell ⟨hs[i].b, 3, none⟩ (.int .i64 (j : Int))) := by
  have hin : i < n := by have := h.len; omega
  have hjn : j < n := by have := h.len; omega
  have ho1 := own_set1 h.own.drew i hin hs[j]
  have ho2 := own_set1 ho1 j hjn hs[i]
  have nd := List.pairwise_iff_getElem.1 h.nd
  have hbb : hs[i].b ≠ hs[j].b := nd i j hi hj hij
  have hgi := hgd _ (List.getElem_mem hi)
  have hgj := hgd _ (List.getElem_mem hj)
  have hat : ∀ k (hk : k < hs.length), Blk ((w.drew.setCell ⟨g, i, none⟩ (.pointer (some ⟨hs[j].b, 0, none⟩))).setCell ⟨g, j, none⟩ (.pointer (some ⟨hs[i].b, 0, none⟩))).drew hs[k].b (hs[k].cells k) 65 := fun k hk => by
    have h1 : Blk ((w.drew.setCell ⟨g, i, none⟩ (.pointer (some ⟨hs[j].b, 0, none⟩))).setCell ⟨g, j, none⟩ (.pointer (some ⟨hs[i].b, 0, none⟩))) hs[k].b (hs[k].cells k) 65 := ((show Blk w.drew _ _ _ from h.at_ k hk).setOther (a := ⟨g, i, none⟩) (hgd _ (List.getElem_mem hk)) _).setOther (a := ⟨g, j, none⟩) (hgd _ (List.getElem_mem hk)) _
    exact h1
  have ho3 : OwnT encU ((((w.drew.setCell ⟨g, i, none⟩ (.pointer (some ⟨hs[j].b, 0, none⟩))).setCell ⟨g, j, none⟩ (.pointer (some ⟨hs[i].b, 0, none⟩))).drew.setCell ⟨hs[j].b, 3, none⟩ (.int .i64 (i : Int))).setCell ⟨hs[i].b, 3, none⟩ (.int .i64 (j : Int))) 0 61 (.slice (some ⟨g, 0, none⟩) n c) (swapL hs i j hi hj) := by
    have h1 : OwnT encU ((w.drew.setCell ⟨g, i, none⟩ (.pointer (some ⟨hs[j].b, 0, none⟩))).setCell ⟨g, j, none⟩ (.pointer (some ⟨hs[i].b, 0, none⟩))).drew 0 61 (.slice (some ⟨g, 0, none⟩) n c) (swapL hs i j hi hj) := ho2
    refine h1.stay (fun s hs' => ?_)
    obtain rfl : g = s := by simpa [Value.ownBlock] using hs'
    rw [Below.heap_setCell _ _ _ g (fun e => hgi e), Below.heap_setCell _ _ _ g (fun e => hgj e)]
  have hch : Chg g w ((w.drew.setCell ⟨g, i, none⟩ (.pointer (some ⟨hs[j].b, 0, none⟩))).setCell ⟨g, j, none⟩ (.pointer (some ⟨hs[i].b, 0, none⟩))).drew := ((((Chg.refl g w).drew).set i _).set j _).drew
  have hP1 : ChgP P w ((w.drew.setCell ⟨g, i, none⟩ (.pointer (some ⟨hs[j].b, 0, none⟩))).setCell ⟨g, j, none⟩ (.pointer (some ⟨hs[i].b, 0, none⟩))).drew := ChgP.of_chg hch hPg
  have hP2 : ChgP P ((w.drew.setCell ⟨g, i, none⟩ (.pointer (some ⟨hs[j].b, 0, none⟩))).setCell ⟨g, j, none⟩ (.pointer (some ⟨hs[i].b, 0, none⟩))).drew (((w.drew.setCell ⟨g, i, none⟩ (.pointer (some ⟨hs[j].b, 0, none⟩))).setCell ⟨g, j, none⟩ (.pointer (some ⟨hs[i].b, 0, none⟩))).drew.setCell ⟨hs[j].b, 3, none⟩ (.int .i64 (i : Int))) := ChgP.of_chg ((Chg.refl _ _).set 3 _) (h.inP _ (List.getElem_mem hj))
  have hP3 : ChgP P (((w.drew.setCell ⟨g, i, none⟩ (.pointer (some ⟨hs[j].b, 0, none⟩))).setCell ⟨g, j, none⟩ (.pointer (some ⟨hs[i].b, 0, none⟩))).drew.setCell ⟨hs[j].b, 3, none⟩ (.int .i64 (i : Int))) ((((w.drew.setCell ⟨g, i, none⟩ (.pointer (some ⟨hs[j].b, 0, none⟩))).setCell ⟨g, j, none⟩ (.pointer (some ⟨hs[i].b, 0, none⟩))).drew.setCell ⟨hs[j].b, 3, none⟩ (.int .i64 (i : Int))).setCell ⟨hs[i].b, 3, none⟩ (.int .i64 (j : Int))) := ChgP.of_chg ((Chg.refl _ _).set 3 _) (h.inP _ (List.getElem_mem hi))
  refine ⟨h.own.row.cap, ⟨ho3, by rw [swap_len]; exact h.len, fun k hk => ?_, h.row, fun d hd => h.inP d ((swap_perm hi hj hij).mem_iff.1 hd), fun d hd => h.ne d ((swap_perm hi hj hij).mem_iff.1 hd), ?_⟩, (hP1.trans hP2).trans hP3⟩
  · have hk2 : k < hs.length := by rw [swap_len] at hk; exact hk
    rw [swap_get hij k hk]
    by_cases h1 : k = j
    · rw [if_pos h1]
      subst h1
      exact ((hat i hi).setOther (a := ⟨hs[k].b, 3, none⟩) (fun e => hbb e.symm) _).set 3 _
    · rw [if_neg h1]
      by_cases h2 : k = i
      · rw [if_pos h2]
        subst h2
        exact ((hat j hj).set 3 _).setOther (a := ⟨hs[k].b, 3, none⟩) hbb _
      · rw [if_neg h2]
        have ne : ∀ a b (ha : a < hs.length) (hb : b < hs.length), a ≠ b → hs[a].b ≠ hs[b].b := fun a b ha hb hab => by
          rcases Nat.lt_or_gt_of_ne hab with h3 | h3
          · exact nd a b ha hb h3
          · exact (nd b a hb ha h3).symm
        exact ((hat k hk2).setOther (a := ⟨hs[j].b, 3, none⟩) (ne j k hj hk2 (fun e => h1 e.symm)) _).setOther (a := ⟨hs[i].b, 3, none⟩) (ne i k hi hk2 (fun e => h2 e.symm)) _
  · exact ((swap_perm hi hj hij).pairwise_iff (fun {a b} hab => hab.symm)).2 h.nd
set_option linter.unusedSimpArgs false in
set_option maxHeartbeats 4000000 in
set_option maxRecDepth 100000 in
theorem swap_any {P : Nat → Prop} (w : World) (p : Option Addr) (n c : Nat) (hs : List Du) (h : Hp P w p n c hs) (i j : Nat) (hi : i < hs.length) (hj : j < hs.length) (hij : i < j) :
    Calls Try.prog 48 #[.slice p n c, .int .i64 i, .int .i64 j] w fun e w' => e = .returned (.tuple #[]) ∧ Hp P w' p n c (swapL hs i j hi hj) ∧ ChgP P w w' := by
  have hn : 0 < n := by have := h.len; omega
  obtain ⟨g, rfl, hgl, hPg, hgd, hc⟩ := h.where_ hn
  have hin : (i : Int) < (n : Int) := by have := h.len; omega
  have hjn : (j : Int) < (n : Int) := by have := h.len; omega
  have hin2 : i < n := by have := h.len; omega
  have hjn2 : j < n := by have := h.len; omega
  have HSW := Lib.hid (swap_same h hij hi hj hPg hgd)
  have HO := Lib.hid h.own.drew
  have HDI := Lib.hid (hgd _ (List.getElem_mem hi))
  have HDJ := Lib.hid (hgd _ (List.getElem_mem hj))
  have HAI := Lib.hid (h.at_ i hi)
  have HAJ := Lib.hid (h.at_ j hj)
  have HBB : Hid (hs[i].b ≠ hs[j].b) := Lib.hid (List.pairwise_iff_getElem.1 h.nd i j hi hj hij)
  have HCI := Lib.hid (hc i hi)
  have HCJ := Lib.hid (hc j hj)
  clear hc h hgd
  generalize hs[i] = di at *
  generalize hs[j] = dj at *
  go_enter Try.func48, Try.ntmps48
  go_wp2_with fail
  refine wp_region_held_drew (S := fun _ => True) (by kernel_rfl) trivial (fun hS0 => ?_)
  have k1 : w.drew.cell? ⟨g, i, none⟩ = some (.pointer (some ⟨di.b, 0, none⟩)) := HCI.out
  have k2 : w.drew.cell? ⟨g, j, none⟩ = some (.pointer (some ⟨dj.b, 0, none⟩)) := HCJ.out
  have HWD : Hid (w.drew = w.drew) := Lib.hid rfl
  have HAI1 : Hid (Blk w.drew di.b (di.cells i) 65) := Lib.hid HAI.out
  have HAJ1 : Hid (Blk w.drew dj.b (dj.cells j) 65) := Lib.hid HAJ.out
  have HT : Hid (w.drew.frozen? ⟨g, i, none⟩ = false) := Lib.hid (own_free HO.out i hn)
  generalize hwd : w.drew = W0 at *
  refine wpAnyH_take (i := 0) (v := ?_) rfl (by kernel_rfl) (by kernel_rfl) (by kernel_rfl) (fun _ _ _ h => h) (Or.inl ⟨by kernel_rfl, ?_⟩) (by first | assumption | trivial) ?_
  rotate_left
  · intro w hSw
    try dsimp only at hSw
    first | (go_simp; done) | (go_simp; with_reducible rfl)
  try simp only [Act.put, List.getElem_toArray, List.getElem_cons_succ, List.getElem_cons_zero, List.setIfInBounds_toArray, List.set_cons_zero, List.set_cons_succ]
  refine wpAnyH_take (i := 1) (v := ?_) rfl (by kernel_rfl) (by kernel_rfl) (by kernel_rfl) (fun _ _ _ h => h) (Or.inl ⟨by kernel_rfl, ?_⟩) (by first | assumption | trivial) ?_
  rotate_left
  · intro w hSw
    try dsimp only at hSw
    first | (go_simp; done) | (go_simp; with_reducible rfl)
  try simp only [Act.put, List.getElem_toArray, List.getElem_cons_succ, List.getElem_cons_zero, List.setIfInBounds_toArray, List.set_cons_zero, List.set_cons_succ]
  refine wpAnyH_take (i := 2) (v := ?_) rfl (by kernel_rfl) (by kernel_rfl) (by kernel_rfl) (fun _ _ _ h => h) (Or.inl ⟨by kernel_rfl, ?_⟩) (by first | assumption | trivial) ?_
  rotate_left
  · intro w hSw
    try dsimp only at hSw
    first | (go_simp; done) | (go_simp; with_reducible rfl)
  try simp only [Act.put, List.getElem_toArray, List.getElem_cons_succ, List.getElem_cons_zero, List.setIfInBounds_toArray, List.set_cons_zero, List.set_cons_succ]
  refine wpAnyH_take (i := 3) (v := ?_) rfl (by kernel_rfl) (by kernel_rfl) (by kernel_rfl) (fun _ _ _ h => h) (Or.inl ⟨by kernel_rfl, ?_⟩) (by first | assumption | trivial) ?_
  rotate_left
  · intro w hSw
    try dsimp only at hSw
    first | (go_simp; done) | (go_simp; with_reducible rfl)
  try simp only [Act.put, List.getElem_toArray, List.getElem_cons_succ, List.getElem_cons_zero, List.setIfInBounds_toArray, List.set_cons_zero, List.set_cons_succ]
  refine wpAnyH_take (i := 4) (v := ?_) rfl (by kernel_rfl) (by kernel_rfl) (by kernel_rfl) (fun _ _ _ h => h) (Or.inl ⟨by kernel_rfl, ?_⟩) (by first | assumption | trivial) ?_
  rotate_left
  · intro w hSw
    try dsimp only at hSw
    first | (go_simp; done) | (go_simp; with_reducible rfl)
  try simp only [Act.put, List.getElem_toArray, List.getElem_cons_succ, List.getElem_cons_zero, List.setIfInBounds_toArray, List.set_cons_zero, List.set_cons_succ]
  refine wpAnyH_take (i := 5) (v := ?_) rfl (by kernel_rfl) (by kernel_rfl) (by kernel_rfl) (fun _ _ _ h => h) (Or.inl ⟨by kernel_rfl, ?_⟩) (by first | assumption | trivial) ?_
  rotate_left
  · intro w hSw
    try dsimp only at hSw
    first | (go_simp; done) | (go_simp; with_reducible rfl)
  try simp only [Act.put, List.getElem_toArray, List.getElem_cons_succ, List.getElem_cons_zero, List.setIfInBounds_toArray, List.set_cons_zero, List.set_cons_succ]
  refine wpAnyH_take (i := 6) (v := ?_) rfl (by kernel_rfl) (by kernel_rfl) (by kernel_rfl) (fun _ _ _ h => h) (Or.inl ⟨by kernel_rfl, ?_⟩) (by first | assumption | trivial) ?_
  rotate_left
  · intro w hSw
    try dsimp only at hSw
    first | (go_simp; done) | (go_simp; with_reducible rfl)
  try simp only [Act.put, List.getElem_toArray, List.getElem_cons_succ, List.getElem_cons_zero, List.setIfInBounds_toArray, List.set_cons_zero, List.set_cons_succ]
  refine wpAnyH_take (i := 8) (v := ?_) rfl (by kernel_rfl) (by kernel_rfl) (by kernel_rfl) (fun _ _ _ h => h) (Or.inl ⟨by kernel_rfl, ?_⟩) (by first | assumption | trivial) ?_
  rotate_left
  · intro w hSw
    try dsimp only at hSw
    first | (go_simp; done) | (go_simp; with_reducible rfl)
  try simp only [Act.put, List.getElem_toArray, List.getElem_cons_succ, List.getElem_cons_zero, List.setIfInBounds_toArray, List.set_cons_zero, List.set_cons_succ]
  refine wpAnyH_take (i := 9) (v := ?_) rfl (by kernel_rfl) (by kernel_rfl) (by kernel_rfl) (fun _ _ _ h => h) (Or.inl ⟨by kernel_rfl, ?_⟩) (by first | assumption | trivial) ?_
  rotate_left
  · intro w hSw
    try dsimp only at hSw
    first | (go_simp; done) | (go_simp; with_reducible rfl)
  try simp only [Act.put, List.getElem_toArray, List.getElem_cons_succ, List.getElem_cons_zero, List.setIfInBounds_toArray, List.set_cons_zero, List.set_cons_succ]
  refine wpAnyH_take (i := 10) (v := ?_) rfl (by kernel_rfl) (by kernel_rfl) (by kernel_rfl) (fun _ _ _ h => h) (Or.inl ⟨by kernel_rfl, ?_⟩) (by first | assumption | trivial) ?_
  rotate_left
  · intro w hSw
    try dsimp only at hSw
    first | (go_simp; done) | (go_simp; with_reducible rfl)
  try simp only [Act.put, List.getElem_toArray, List.getElem_cons_succ, List.getElem_cons_zero, List.setIfInBounds_toArray, List.set_cons_zero, List.set_cons_succ]
  refine wpAnyH_ready (rs := [7, 11]) (by kernel_rfl) (by simp) ?_
  refine AllReadyH.cons rfl (fun K hK => ?_) (AllReadyH.cons rfl (fun K hK => ?_) AllReadyH.nil)
  · skip
    go_simp
    refine hK.out _ _ trivial (fun hS => ?_)
    clear hK K
    try simp only [Act.put, List.getElem_toArray, List.getElem_cons_succ, List.getElem_cons_zero, List.setIfInBounds_toArray, List.set_cons_zero, List.set_cons_succ]
    refine wpAnyH_ready (rs := [11]) (by kernel_rfl) (by simp) ?_
    refine AllReadyH.cons rfl (fun K hK => ?_) AllReadyH.nil
    go_simp
    refine hK.out _ _ trivial (fun hS => ?_)
    clear hK K
    try simp only [Act.put, List.getElem_toArray, List.getElem_cons_succ, List.getElem_cons_zero, List.setIfInBounds_toArray, List.set_cons_zero, List.set_cons_succ]
    refine wpAnyH_take (i := 12) (v := ?_) rfl (by kernel_rfl) (by kernel_rfl) (by kernel_rfl) (fun _ _ _ h => h) (Or.inl ⟨by kernel_rfl, ?_⟩) (by first | assumption | trivial) ?_
    rotate_left
    · intro w hSw
      try dsimp only at hSw
      first | (go_simp; done) | (go_simp; with_reducible rfl)
    try simp only [Act.put, List.getElem_toArray, List.getElem_cons_succ, List.getElem_cons_zero, List.setIfInBounds_toArray, List.set_cons_zero, List.set_cons_succ]
    refine wpAnyH_ready (rs := [13]) (by kernel_rfl) (by simp) ?_
    refine AllReadyH.cons rfl (fun K hK => ?_) AllReadyH.nil
    have f1 := HT.out
    go_simp
    have HO1 := Lib.hid (own_set1 HO.out i hin2 dj)
    have k3 : (W0.setCell ⟨g, i, none⟩ (.pointer (some ⟨dj.b, 0, none⟩))).cell? ⟨g, j, none⟩ = some (.pointer (some ⟨dj.b, 0, none⟩)) := by rw [World.cell?_setCell_other _ _ _ _ (by intro e; exact absurd (Addr.mk.inj e).2.1 (by omega))]; exact k2
    have HT1 := Lib.hid (own_free HO1.out j hn)
    have HA1 := Lib.hid (HAI1.out.setOther (a := ⟨g, i, none⟩) HDI.out (.pointer (some ⟨dj.b, 0, none⟩)))
    have HA2 := Lib.hid (HAJ1.out.setOther (a := ⟨g, i, none⟩) HDJ.out (.pointer (some ⟨dj.b, 0, none⟩)))
    clear f1 HT k1 k2 HAI1 HAJ1
    generalize hw1 : W0.setCell ⟨g, i, none⟩ (.pointer (some ⟨dj.b, 0, none⟩)) = W1 at *
    refine hK.out _ _ trivial (fun hS => ?_)
    clear hK K
    try simp only [Act.put, List.getElem_toArray, List.getElem_cons_succ, List.getElem_cons_zero, List.setIfInBounds_toArray, List.set_cons_zero, List.set_cons_succ]
    refine wpAnyH_take (i := 14) (v := ?_) rfl (by kernel_rfl) (by kernel_rfl) (by kernel_rfl) (fun _ _ _ h => h) (Or.inl ⟨by kernel_rfl, ?_⟩) (by first | assumption | trivial) ?_
    rotate_left
    · intro w hSw
      try dsimp only at hSw
      first | (go_simp; done) | (go_simp; with_reducible rfl)
    try simp only [Act.put, List.getElem_toArray, List.getElem_cons_succ, List.getElem_cons_zero, List.setIfInBounds_toArray, List.set_cons_zero, List.set_cons_succ]
    refine wpAnyH_ready (rs := [15]) (by kernel_rfl) (by simp) ?_
    refine AllReadyH.cons rfl (fun K hK => ?_) AllReadyH.nil
    have f1 := HT1.out
    go_simp
    have HO2 := Lib.hid (own_set1 HO1.out j hjn2 di)
    have HA3 := Lib.hid (HA1.out.setOther (a := ⟨g, j, none⟩) HDI.out (.pointer (some ⟨di.b, 0, none⟩)))
    have HA4 := Lib.hid (HA2.out.setOther (a := ⟨g, j, none⟩) HDJ.out (.pointer (some ⟨di.b, 0, none⟩)))
    clear f1 HT1 k3 HA1 HA2
    generalize hw2 : W1.setCell ⟨g, j, none⟩ (.pointer (some ⟨di.b, 0, none⟩)) = W2 at *
    refine hK.out _ _ trivial (fun hS => ?_)
    clear hK K
    try simp only [Act.put, List.getElem_toArray, List.getElem_cons_succ, List.getElem_cons_zero, List.setIfInBounds_toArray, List.set_cons_zero, List.set_cons_succ]
    refine wpAnyH_done (by kernel_rfl) ?_ _
    go_wp2_with fail
    have hr := HO2.out.row
    have l1 : i < ((hs.set i dj).set j di).length := by rw [List.length_set, List.length_set]; exact hi
    have l2 : j < ((hs.set i dj).set j di).length := by rw [List.length_set, List.length_set]; exact hj
    have q1 : W2.cell? ⟨g, i, none⟩ = some (.pointer (some ⟨dj.b, 0, none⟩)) := by
      obtain ⟨b, o, e1, _, hx⟩ := hr.at_ i l1
      obtain ⟨rfl, rfl⟩ : g = b ∧ 0 = o := by simpa using e1
      have h1 := hx 0 (by decide)
      rw [List.getElem_set_ne (by omega), List.getElem_set_self] at h1
      simpa [encU] using h1
    have q2 : W2.cell? ⟨g, j, none⟩ = some (.pointer (some ⟨di.b, 0, none⟩)) := by
      obtain ⟨b, o, e1, _, hx⟩ := hr.at_ j l2
      obtain ⟨rfl, rfl⟩ : g = b ∧ 0 = o := by simpa using e1
      have h1 := hx 0 (by decide)
      rw [List.getElem_set_self] at h1
      simpa [encU] using h1
    clear hr l1 l2
    have hS1 : W2.drew.cell? ⟨g, i, none⟩ = some (.pointer (some ⟨dj.b, 0, none⟩)) ∧ W2.drew.cell? ⟨g, j, none⟩ = some (.pointer (some ⟨di.b, 0, none⟩)) := ⟨q1, q2⟩
    have HA5 : Hid (Blk W2.drew di.b (di.cells i) 65) := Lib.hid HA3.out
    have HA6 : Hid (Blk W2.drew dj.b (dj.cells j) 65) := Lib.hid HA4.out
    refine wp_region_held_drew (S := fun w' => w'.cell? ⟨g, i, none⟩ = some (.pointer (some ⟨dj.b, 0, none⟩)) ∧ w'.cell? ⟨g, j, none⟩ = some (.pointer (some ⟨di.b, 0, none⟩))) (by kernel_rfl) hS1 (fun hS0 => ?_)
    clear hS1 q1 q2
    generalize hw3 : W2.drew = W3 at *
    refine wpAnyH_take (i := 0) (v := ?_) rfl (by kernel_rfl) (by kernel_rfl) (by kernel_rfl) (fun _ _ _ h => h) (Or.inl ⟨by kernel_rfl, ?_⟩) (by first | assumption | trivial) ?_
    rotate_left
    · intro w hSw
      try dsimp only at hSw
      first | (go_simp; done) | (go_simp; with_reducible rfl)
    try simp only [Act.put, List.getElem_toArray, List.getElem_cons_succ, List.getElem_cons_zero, List.setIfInBounds_toArray, List.set_cons_zero, List.set_cons_succ]
    refine wpAnyH_take (i := 1) (v := ?_) rfl (by kernel_rfl) (by kernel_rfl) (by kernel_rfl) (fun _ _ _ h => h) (Or.inl ⟨by kernel_rfl, ?_⟩) (by first | assumption | trivial) ?_
    rotate_left
    · intro w hSw
      try dsimp only at hSw
      first | (go_simp; done) | (go_simp; with_reducible rfl)
    try simp only [Act.put, List.getElem_toArray, List.getElem_cons_succ, List.getElem_cons_zero, List.setIfInBounds_toArray, List.set_cons_zero, List.set_cons_succ]
    refine wpAnyH_take (i := 2) (v := ?_) rfl (by kernel_rfl) (by kernel_rfl) (by kernel_rfl) (fun _ _ _ h => h) (Or.inl ⟨by kernel_rfl, ?_⟩) (by first | assumption | trivial) ?_
    rotate_left
    · intro w hSw
      try dsimp only at hSw
      first | (go_simp; done) | (go_simp; with_reducible rfl)
    try simp only [Act.put, List.getElem_toArray, List.getElem_cons_succ, List.getElem_cons_zero, List.setIfInBounds_toArray, List.set_cons_zero, List.set_cons_succ]
    refine wpAnyH_take (i := 3) (v := ?_) rfl (by kernel_rfl) (by kernel_rfl) (by kernel_rfl) (fun _ _ _ h => h) (Or.inl ⟨by kernel_rfl, ?_⟩) (by first | assumption | trivial) ?_
    rotate_left
    · intro w hSw
      try dsimp only at hSw
      first | (go_simp; done) | (go_simp; with_reducible rfl)
    try simp only [Act.put, List.getElem_toArray, List.getElem_cons_succ, List.getElem_cons_zero, List.setIfInBounds_toArray, List.set_cons_zero, List.set_cons_succ]
    refine wpAnyH_take (i := 4) (v := ?_) rfl (by kernel_rfl) (by kernel_rfl) (by kernel_rfl) (fun _ _ _ h => h) (Or.inl ⟨by kernel_rfl, ?_⟩) (by first | assumption | trivial) ?_
    rotate_left
    · intro w hSw
      try dsimp only at hSw
      first | (go_simp; done) | (go_simp; with_reducible rfl)
    try simp only [Act.put, List.getElem_toArray, List.getElem_cons_succ, List.getElem_cons_zero, List.setIfInBounds_toArray, List.set_cons_zero, List.set_cons_succ]
    refine wpAnyH_take (i := 5) (v := ?_) rfl (by kernel_rfl) (by kernel_rfl) (by kernel_rfl) (fun _ _ _ h => h) (Or.inl ⟨by kernel_rfl, ?_⟩) (by first | assumption | trivial) ?_
    rotate_left
    · intro w hSw
      try dsimp only at hSw
      first | (go_simp; done) | (go_simp; with_reducible rfl)
    try simp only [Act.put, List.getElem_toArray, List.getElem_cons_succ, List.getElem_cons_zero, List.setIfInBounds_toArray, List.set_cons_zero, List.set_cons_succ]
    refine wpAnyH_take (i := 6) (v := ?_) rfl (by kernel_rfl) (by kernel_rfl) (by kernel_rfl) (fun _ _ _ h => h) (Or.inl ⟨by kernel_rfl, ?_⟩) (by first | assumption | trivial) ?_
    rotate_left
    · intro w hSw
      try dsimp only at hSw
      first | (go_simp; done) | (go_simp; with_reducible rfl)
    try simp only [Act.put, List.getElem_toArray, List.getElem_cons_succ, List.getElem_cons_zero, List.setIfInBounds_toArray, List.set_cons_zero, List.set_cons_succ]
    refine wpAnyH_take (i := 7) (v := ?_) rfl (by kernel_rfl) (by kernel_rfl) (by kernel_rfl) (fun _ _ _ h => h) (Or.inl ⟨by kernel_rfl, ?_⟩) (by first | assumption | trivial) ?_
    rotate_left
    · intro w hSw
      try dsimp only at hSw
      first | (go_simp; done) | (go_simp; with_reducible rfl)
    try simp only [Act.put, List.getElem_toArray, List.getElem_cons_succ, List.getElem_cons_zero, List.setIfInBounds_toArray, List.set_cons_zero, List.set_cons_succ]
    refine wpAnyH_take (i := 8) (v := ?_) rfl (by kernel_rfl) (by kernel_rfl) (by kernel_rfl) (fun _ _ _ h => h) (Or.inl ⟨by kernel_rfl, ?_⟩) (by first | assumption | trivial) ?_
    rotate_left
    · intro w hSw
      try dsimp only at hSw
      first | (go_simp; done) | (go_simp; with_reducible rfl)
    try simp only [Act.put, List.getElem_toArray, List.getElem_cons_succ, List.getElem_cons_zero, List.setIfInBounds_toArray, List.set_cons_zero, List.set_cons_succ]
    refine wpAnyH_take (i := 9) (v := ?_) rfl (by kernel_rfl) (by kernel_rfl) (by kernel_rfl) (fun _ _ _ h => h) (Or.inl ⟨by kernel_rfl, ?_⟩) (by first | assumption | trivial) ?_
    rotate_left
    · intro w hSw
      try dsimp only at hSw
      first | (go_simp; done) | (go_simp; with_reducible rfl)
    try simp only [Act.put, List.getElem_toArray, List.getElem_cons_succ, List.getElem_cons_zero, List.setIfInBounds_toArray, List.set_cons_zero, List.set_cons_succ]
    refine wpAnyH_take (i := 10) (v := ?_) rfl (by kernel_rfl) (by kernel_rfl) (by kernel_rfl) (fun _ _ _ h => h) (Or.inl ⟨by kernel_rfl, ?_⟩) (by first | assumption | trivial) ?_
    rotate_left
    · intro w hSw
      try dsimp only at hSw
      first | (go_simp; done) | (go_simp; with_reducible rfl)
    try simp only [Act.put, List.getElem_toArray, List.getElem_cons_succ, List.getElem_cons_zero, List.setIfInBounds_toArray, List.set_cons_zero, List.set_cons_succ]
    refine wpAnyH_take (i := 11) (v := ?_) rfl (by kernel_rfl) (by kernel_rfl) (by kernel_rfl) (fun _ _ _ h => h) (Or.inl ⟨by kernel_rfl, ?_⟩) (by first | assumption | trivial) ?_
    rotate_left
    · intro w hSw
      try dsimp only at hSw
      first | (go_simp; done) | (go_simp; with_reducible rfl)
    try simp only [Act.put, List.getElem_toArray, List.getElem_cons_succ, List.getElem_cons_zero, List.setIfInBounds_toArray, List.set_cons_zero, List.set_cons_succ]
    refine wpAnyH_ready (rs := [12]) (by kernel_rfl) (by simp) ?_
    refine AllReadyH.cons rfl (fun K hK => ?_) AllReadyH.nil
    have z3 : W3.cell? ⟨dj.b, 3, none⟩ = some (.int .i64 j) := HA6.out.cell 3
    have f3 := HA6.out.free 3
    go_simp
    clear z3 f3
    have HA7 := Lib.hid (HA6.out.set 3 (.int .i64 (i : Int)))
    have HA8 := Lib.hid (HA5.out.setOther (a := ⟨dj.b, 3, none⟩) (fun e => HBB.out e.symm) (.int .i64 (i : Int)))
    have hS5 : (W3.setCell ⟨dj.b, 3, none⟩ (.int .i64 (i : Int))).cell? ⟨g, i, none⟩ = some (.pointer (some ⟨dj.b, 0, none⟩)) ∧ (W3.setCell ⟨dj.b, 3, none⟩ (.int .i64 (i : Int))).cell? ⟨g, j, none⟩ = some (.pointer (some ⟨di.b, 0, none⟩)) := ⟨(World.cell?_setCell_other _ _ _ _ (by intro e; exact HDJ.out (Addr.mk.inj e).1.symm)).trans hS0.1, (World.cell?_setCell_other _ _ _ _ (by intro e; exact HDJ.out (Addr.mk.inj e).1.symm)).trans hS0.2⟩
    generalize hw4 : W3.setCell ⟨dj.b, 3, none⟩ (.int .i64 (i : Int)) = W4 at *
    refine hK.out _ _ hS5 (fun hS => ?_)
    clear hK K
    try simp only [Act.put, List.getElem_toArray, List.getElem_cons_succ, List.getElem_cons_zero, List.setIfInBounds_toArray, List.set_cons_zero, List.set_cons_succ]
    refine wpAnyH_take (i := 13) (v := ?_) rfl (by kernel_rfl) (by kernel_rfl) (by kernel_rfl) (fun _ _ _ h => h) (Or.inl ⟨by kernel_rfl, ?_⟩) (by first | assumption | trivial) ?_
    rotate_left
    · intro w hSw
      try dsimp only at hSw
      first | (go_simp; done) | (go_simp; with_reducible rfl)
    try simp only [Act.put, List.getElem_toArray, List.getElem_cons_succ, List.getElem_cons_zero, List.setIfInBounds_toArray, List.set_cons_zero, List.set_cons_succ]
    refine wpAnyH_take (i := 14) (v := ?_) rfl (by kernel_rfl) (by kernel_rfl) (by kernel_rfl) (fun _ _ _ h => h) (Or.inl ⟨by kernel_rfl, ?_⟩) (by first | assumption | trivial) ?_
    rotate_left
    · intro w hSw
      try dsimp only at hSw
      first | (go_simp; done) | (go_simp; with_reducible rfl)
    try simp only [Act.put, List.getElem_toArray, List.getElem_cons_succ, List.getElem_cons_zero, List.setIfInBounds_toArray, List.set_cons_zero, List.set_cons_succ]
    refine wpAnyH_ready (rs := [15]) (by kernel_rfl) (by simp) ?_
    refine AllReadyH.cons rfl (fun K hK => ?_) AllReadyH.nil
    have z3 : W4.cell? ⟨di.b, 3, none⟩ = some (.int .i64 i) := HA8.out.cell 3
    have f3 := HA8.out.free 3
    go_simp
    clear z3 f3
    have hS6 : (W4.setCell ⟨di.b, 3, none⟩ (.int .i64 (j : Int))).cell? ⟨g, i, none⟩ = some (.pointer (some ⟨dj.b, 0, none⟩)) ∧ (W4.setCell ⟨di.b, 3, none⟩ (.int .i64 (j : Int))).cell? ⟨g, j, none⟩ = some (.pointer (some ⟨di.b, 0, none⟩)) := ⟨(World.cell?_setCell_other _ _ _ _ (by intro e; exact HDI.out (Addr.mk.inj e).1.symm)).trans hS5.1, (World.cell?_setCell_other _ _ _ _ (by intro e; exact HDI.out (Addr.mk.inj e).1.symm)).trans hS5.2⟩
    refine hK.out _ _ hS6 (fun hS7 => ?_)
    clear hK K
    try simp only [Act.put, List.getElem_toArray, List.getElem_cons_succ, List.getElem_cons_zero, List.setIfInBounds_toArray, List.set_cons_zero, List.set_cons_succ]
    refine wpAnyH_done (by kernel_rfl) ?_ _
    go_wp2_with fail
    go_end0
    have hfin := HSW.out.2
    exact ⟨rfl, hfin.1, hfin.2⟩
  · skip
    go_simp
    refine hK.out _ _ trivial (fun hS => ?_)
    clear hK K
    try simp only [Act.put, List.getElem_toArray, List.getElem_cons_succ, List.getElem_cons_zero, List.setIfInBounds_toArray, List.set_cons_zero, List.set_cons_succ]
    refine wpAnyH_ready (rs := [7]) (by kernel_rfl) (by simp) ?_
    refine AllReadyH.cons rfl (fun K hK => ?_) AllReadyH.nil
    go_simp
    refine hK.out _ _ trivial (fun hS => ?_)
    clear hK K
    try simp only [Act.put, List.getElem_toArray, List.getElem_cons_succ, List.getElem_cons_zero, List.setIfInBounds_toArray, List.set_cons_zero, List.set_cons_succ]
    refine wpAnyH_take (i := 12) (v := ?_) rfl (by kernel_rfl) (by kernel_rfl) (by kernel_rfl) (fun _ _ _ h => h) (Or.inl ⟨by kernel_rfl, ?_⟩) (by first | assumption | trivial) ?_
    rotate_left
    · intro w hSw
      try dsimp only at hSw
      first | (go_simp; done) | (go_simp; with_reducible rfl)
    try simp only [Act.put, List.getElem_toArray, List.getElem_cons_succ, List.getElem_cons_zero, List.setIfInBounds_toArray, List.set_cons_zero, List.set_cons_succ]
    refine wpAnyH_ready (rs := [13]) (by kernel_rfl) (by simp) ?_
    refine AllReadyH.cons rfl (fun K hK => ?_) AllReadyH.nil
    have f1 := HT.out
    go_simp
    have HO1 := Lib.hid (own_set1 HO.out i hin2 dj)
    have k3 : (W0.setCell ⟨g, i, none⟩ (.pointer (some ⟨dj.b, 0, none⟩))).cell? ⟨g, j, none⟩ = some (.pointer (some ⟨dj.b, 0, none⟩)) := by rw [World.cell?_setCell_other _ _ _ _ (by intro e; exact absurd (Addr.mk.inj e).2.1 (by omega))]; exact k2
    have HT1 := Lib.hid (own_free HO1.out j hn)
    have HA1 := Lib.hid (HAI1.out.setOther (a := ⟨g, i, none⟩) HDI.out (.pointer (some ⟨dj.b, 0, none⟩)))
    have HA2 := Lib.hid (HAJ1.out.setOther (a := ⟨g, i, none⟩) HDJ.out (.pointer (some ⟨dj.b, 0, none⟩)))
    clear f1 HT k1 k2 HAI1 HAJ1
    generalize hw1 : W0.setCell ⟨g, i, none⟩ (.pointer (some ⟨dj.b, 0, none⟩)) = W1 at *
    refine hK.out _ _ trivial (fun hS => ?_)
    clear hK K
    try simp only [Act.put, List.getElem_toArray, List.getElem_cons_succ, List.getElem_cons_zero, List.setIfInBounds_toArray, List.set_cons_zero, List.set_cons_succ]
    refine wpAnyH_take (i := 14) (v := ?_) rfl (by kernel_rfl) (by kernel_rfl) (by kernel_rfl) (fun _ _ _ h => h) (Or.inl ⟨by kernel_rfl, ?_⟩) (by first | assumption | trivial) ?_
    rotate_left
    · intro w hSw
      try dsimp only at hSw
      first | (go_simp; done) | (go_simp; with_reducible rfl)
    try simp only [Act.put, List.getElem_toArray, List.getElem_cons_succ, List.getElem_cons_zero, List.setIfInBounds_toArray, List.set_cons_zero, List.set_cons_succ]
    refine wpAnyH_ready (rs := [15]) (by kernel_rfl) (by simp) ?_
    refine AllReadyH.cons rfl (fun K hK => ?_) AllReadyH.nil
    have f1 := HT1.out
    go_simp
    have HO2 := Lib.hid (own_set1 HO1.out j hjn2 di)
    have HA3 := Lib.hid (HA1.out.setOther (a := ⟨g, j, none⟩) HDI.out (.pointer (some ⟨di.b, 0, none⟩)))
    have HA4 := Lib.hid (HA2.out.setOther (a := ⟨g, j, none⟩) HDJ.out (.pointer (some ⟨di.b, 0, none⟩)))
    clear f1 HT1 k3 HA1 HA2
    generalize hw2 : W1.setCell ⟨g, j, none⟩ (.pointer (some ⟨di.b, 0, none⟩)) = W2 at *
    refine hK.out _ _ trivial (fun hS => ?_)
    clear hK K
    try simp only [Act.put, List.getElem_toArray, List.getElem_cons_succ, List.getElem_cons_zero, List.setIfInBounds_toArray, List.set_cons_zero, List.set_cons_succ]
    refine wpAnyH_done (by kernel_rfl) ?_ _
    go_wp2_with fail
    have hr := HO2.out.row
    have l1 : i < ((hs.set i dj).set j di).length := by rw [List.length_set, List.length_set]; exact hi
    have l2 : j < ((hs.set i dj).set j di).length := by rw [List.length_set, List.length_set]; exact hj
    have q1 : W2.cell? ⟨g, i, none⟩ = some (.pointer (some ⟨dj.b, 0, none⟩)) := by
      obtain ⟨b, o, e1, _, hx⟩ := hr.at_ i l1
      obtain ⟨rfl, rfl⟩ : g = b ∧ 0 = o := by simpa using e1
      have h1 := hx 0 (by decide)
      rw [List.getElem_set_ne (by omega), List.getElem_set_self] at h1
      simpa [encU] using h1
    have q2 : W2.cell? ⟨g, j, none⟩ = some (.pointer (some ⟨di.b, 0, none⟩)) := by
      obtain ⟨b, o, e1, _, hx⟩ := hr.at_ j l2
      obtain ⟨rfl, rfl⟩ : g = b ∧ 0 = o := by simpa using e1
      have h1 := hx 0 (by decide)
      rw [List.getElem_set_self] at h1
      simpa [encU] using h1
    clear hr l1 l2
    have hS1 : W2.drew.cell? ⟨g, i, none⟩ = some (.pointer (some ⟨dj.b, 0, none⟩)) ∧ W2.drew.cell? ⟨g, j, none⟩ = some (.pointer (some ⟨di.b, 0, none⟩)) := ⟨q1, q2⟩
    have HA5 : Hid (Blk W2.drew di.b (di.cells i) 65) := Lib.hid HA3.out
    have HA6 : Hid (Blk W2.drew dj.b (dj.cells j) 65) := Lib.hid HA4.out
    refine wp_region_held_drew (S := fun w' => w'.cell? ⟨g, i, none⟩ = some (.pointer (some ⟨dj.b, 0, none⟩)) ∧ w'.cell? ⟨g, j, none⟩ = some (.pointer (some ⟨di.b, 0, none⟩))) (by kernel_rfl) hS1 (fun hS0 => ?_)
    clear hS1 q1 q2
    generalize hw3 : W2.drew = W3 at *
    refine wpAnyH_take (i := 0) (v := ?_) rfl (by kernel_rfl) (by kernel_rfl) (by kernel_rfl) (fun _ _ _ h => h) (Or.inl ⟨by kernel_rfl, ?_⟩) (by first | assumption | trivial) ?_
    rotate_left
    · intro w hSw
      try dsimp only at hSw
      first | (go_simp; done) | (go_simp; with_reducible rfl)
    try simp only [Act.put, List.getElem_toArray, List.getElem_cons_succ, List.getElem_cons_zero, List.setIfInBounds_toArray, List.set_cons_zero, List.set_cons_succ]
    refine wpAnyH_take (i := 1) (v := ?_) rfl (by kernel_rfl) (by kernel_rfl) (by kernel_rfl) (fun _ _ _ h => h) (Or.inl ⟨by kernel_rfl, ?_⟩) (by first | assumption | trivial) ?_
    rotate_left
    · intro w hSw
      try dsimp only at hSw
      first | (go_simp; done) | (go_simp; with_reducible rfl)
    try simp only [Act.put, List.getElem_toArray, List.getElem_cons_succ, List.getElem_cons_zero, List.setIfInBounds_toArray, List.set_cons_zero, List.set_cons_succ]
    refine wpAnyH_take (i := 2) (v := ?_) rfl (by kernel_rfl) (by kernel_rfl) (by kernel_rfl) (fun _ _ _ h => h) (Or.inl ⟨by kernel_rfl, ?_⟩) (by first | assumption | trivial) ?_
    rotate_left
    · intro w hSw
      try dsimp only at hSw
      first | (go_simp; done) | (go_simp; with_reducible rfl)
    try simp only [Act.put, List.getElem_toArray, List.getElem_cons_succ, List.getElem_cons_zero, List.setIfInBounds_toArray, List.set_cons_zero, List.set_cons_succ]
    refine wpAnyH_take (i := 3) (v := ?_) rfl (by kernel_rfl) (by kernel_rfl) (by kernel_rfl) (fun _ _ _ h => h) (Or.inl ⟨by kernel_rfl, ?_⟩) (by first | assumption | trivial) ?_
    rotate_left
    · intro w hSw
      try dsimp only at hSw
      first | (go_simp; done) | (go_simp; with_reducible rfl)
    try simp only [Act.put, List.getElem_toArray, List.getElem_cons_succ, List.getElem_cons_zero, List.setIfInBounds_toArray, List.set_cons_zero, List.set_cons_succ]
    refine wpAnyH_take (i := 4) (v := ?_) rfl (by kernel_rfl) (by kernel_rfl) (by kernel_rfl) (fun _ _ _ h => h) (Or.inl ⟨by kernel_rfl, ?_⟩) (by first | assumption | trivial) ?_
    rotate_left
    · intro w hSw
      try dsimp only at hSw
      first | (go_simp; done) | (go_simp; with_reducible rfl)
    try simp only [Act.put, List.getElem_toArray, List.getElem_cons_succ, List.getElem_cons_zero, List.setIfInBounds_toArray, List.set_cons_zero, List.set_cons_succ]
    refine wpAnyH_take (i := 5) (v := ?_) rfl (by kernel_rfl) (by kernel_rfl) (by kernel_rfl) (fun _ _ _ h => h) (Or.inl ⟨by kernel_rfl, ?_⟩) (by first | assumption | trivial) ?_
    rotate_left
    · intro w hSw
      try dsimp only at hSw
      first | (go_simp; done) | (go_simp; with_reducible rfl)
    try simp only [Act.put, List.getElem_toArray, List.getElem_cons_succ, List.getElem_cons_zero, List.setIfInBounds_toArray, List.set_cons_zero, List.set_cons_succ]
    refine wpAnyH_take (i := 6) (v := ?_) rfl (by kernel_rfl) (by kernel_rfl) (by kernel_rfl) (fun _ _ _ h => h) (Or.inl ⟨by kernel_rfl, ?_⟩) (by first | assumption | trivial) ?_
    rotate_left
    · intro w hSw
      try dsimp only at hSw
      first | (go_simp; done) | (go_simp; with_reducible rfl)
    try simp only [Act.put, List.getElem_toArray, List.getElem_cons_succ, List.getElem_cons_zero, List.setIfInBounds_toArray, List.set_cons_zero, List.set_cons_succ]
    refine wpAnyH_take (i := 7) (v := ?_) rfl (by kernel_rfl) (by kernel_rfl) (by kernel_rfl) (fun _ _ _ h => h) (Or.inl ⟨by kernel_rfl, ?_⟩) (by first | assumption | trivial) ?_
    rotate_left
    · intro w hSw
      try dsimp only at hSw
      first | (go_simp; done) | (go_simp; with_reducible rfl)
    try simp only [Act.put, List.getElem_toArray, List.getElem_cons_succ, List.getElem_cons_zero, List.setIfInBounds_toArray, List.set_cons_zero, List.set_cons_succ]
    refine wpAnyH_take (i := 8) (v := ?_) rfl (by kernel_rfl) (by kernel_rfl) (by kernel_rfl) (fun _ _ _ h => h) (Or.inl ⟨by kernel_rfl, ?_⟩) (by first | assumption | trivial) ?_
    rotate_left
    · intro w hSw
      try dsimp only at hSw
      first | (go_simp; done) | (go_simp; with_reducible rfl)
    try simp only [Act.put, List.getElem_toArray, List.getElem_cons_succ, List.getElem_cons_zero, List.setIfInBounds_toArray, List.set_cons_zero, List.set_cons_succ]
    refine wpAnyH_take (i := 9) (v := ?_) rfl (by kernel_rfl) (by kernel_rfl) (by kernel_rfl) (fun _ _ _ h => h) (Or.inl ⟨by kernel_rfl, ?_⟩) (by first | assumption | trivial) ?_
    rotate_left
    · intro w hSw
      try dsimp only at hSw
      first | (go_simp; done) | (go_simp; with_reducible rfl)
    try simp only [Act.put, List.getElem_toArray, List.getElem_cons_succ, List.getElem_cons_zero, List.setIfInBounds_toArray, List.set_cons_zero, List.set_cons_succ]
    refine wpAnyH_take (i := 10) (v := ?_) rfl (by kernel_rfl) (by kernel_rfl) (by kernel_rfl) (fun _ _ _ h => h) (Or.inl ⟨by kernel_rfl, ?_⟩) (by first | assumption | trivial) ?_
    rotate_left
    · intro w hSw
      try dsimp only at hSw
      first | (go_simp; done) | (go_simp; with_reducible rfl)
    try simp only [Act.put, List.getElem_toArray, List.getElem_cons_succ, List.getElem_cons_zero, List.setIfInBounds_toArray, List.set_cons_zero, List.set_cons_succ]
    refine wpAnyH_take (i := 11) (v := ?_) rfl (by kernel_rfl) (by kernel_rfl) (by kernel_rfl) (fun _ _ _ h => h) (Or.inl ⟨by kernel_rfl, ?_⟩) (by first | assumption | trivial) ?_
    rotate_left
    · intro w hSw
      try dsimp only at hSw
      first | (go_simp; done) | (go_simp; with_reducible rfl)
    try simp only [Act.put, List.getElem_toArray, List.getElem_cons_succ, List.getElem_cons_zero, List.setIfInBounds_toArray, List.set_cons_zero, List.set_cons_succ]
    refine wpAnyH_ready (rs := [12]) (by kernel_rfl) (by simp) ?_
    refine AllReadyH.cons rfl (fun K hK => ?_) AllReadyH.nil
    have z3 : W3.cell? ⟨dj.b, 3, none⟩ = some (.int .i64 j) := HA6.out.cell 3
    have f3 := HA6.out.free 3
    go_simp
    clear z3 f3
    have HA7 := Lib.hid (HA6.out.set 3 (.int .i64 (i : Int)))
    have HA8 := Lib.hid (HA5.out.setOther (a := ⟨dj.b, 3, none⟩) (fun e => HBB.out e.symm) (.int .i64 (i : Int)))
    have hS5 : (W3.setCell ⟨dj.b, 3, none⟩ (.int .i64 (i : Int))).cell? ⟨g, i, none⟩ = some (.pointer (some ⟨dj.b, 0, none⟩)) ∧ (W3.setCell ⟨dj.b, 3, none⟩ (.int .i64 (i : Int))).cell? ⟨g, j, none⟩ = some (.pointer (some ⟨di.b, 0, none⟩)) := ⟨(World.cell?_setCell_other _ _ _ _ (by intro e; exact HDJ.out (Addr.mk.inj e).1.symm)).trans hS0.1, (World.cell?_setCell_other _ _ _ _ (by intro e; exact HDJ.out (Addr.mk.inj e).1.symm)).trans hS0.2⟩
    generalize hw4 : W3.setCell ⟨dj.b, 3, none⟩ (.int .i64 (i : Int)) = W4 at *
    refine hK.out _ _ hS5 (fun hS => ?_)
    clear hK K
    try simp only [Act.put, List.getElem_toArray, List.getElem_cons_succ, List.getElem_cons_zero, List.setIfInBounds_toArray, List.set_cons_zero, List.set_cons_succ]
    refine wpAnyH_take (i := 13) (v := ?_) rfl (by kernel_rfl) (by kernel_rfl) (by kernel_rfl) (fun _ _ _ h => h) (Or.inl ⟨by kernel_rfl, ?_⟩) (by first | assumption | trivial) ?_
    rotate_left
    · intro w hSw
      try dsimp only at hSw
      first | (go_simp; done) | (go_simp; with_reducible rfl)
    try simp only [Act.put, List.getElem_toArray, List.getElem_cons_succ, List.getElem_cons_zero, List.setIfInBounds_toArray, List.set_cons_zero, List.set_cons_succ]
    refine wpAnyH_take (i := 14) (v := ?_) rfl (by kernel_rfl) (by kernel_rfl) (by kernel_rfl) (fun _ _ _ h => h) (Or.inl ⟨by kernel_rfl, ?_⟩) (by first | assumption | trivial) ?_
    rotate_left
    · intro w hSw
      try dsimp only at hSw
      first | (go_simp; done) | (go_simp; with_reducible rfl)
    try simp only [Act.put, List.getElem_toArray, List.getElem_cons_succ, List.getElem_cons_zero, List.setIfInBounds_toArray, List.set_cons_zero, List.set_cons_succ]
    refine wpAnyH_ready (rs := [15]) (by kernel_rfl) (by simp) ?_
    refine AllReadyH.cons rfl (fun K hK => ?_) AllReadyH.nil
    have z3 : W4.cell? ⟨di.b, 3, none⟩ = some (.int .i64 i) := HA8.out.cell 3
    have f3 := HA8.out.free 3
    go_simp
    clear z3 f3
    have hS6 : (W4.setCell ⟨di.b, 3, none⟩ (.int .i64 (j : Int))).cell? ⟨g, i, none⟩ = some (.pointer (some ⟨dj.b, 0, none⟩)) ∧ (W4.setCell ⟨di.b, 3, none⟩ (.int .i64 (j : Int))).cell? ⟨g, j, none⟩ = some (.pointer (some ⟨di.b, 0, none⟩)) := ⟨(World.cell?_setCell_other _ _ _ _ (by intro e; exact HDI.out (Addr.mk.inj e).1.symm)).trans hS5.1, (World.cell?_setCell_other _ _ _ _ (by intro e; exact HDI.out (Addr.mk.inj e).1.symm)).trans hS5.2⟩
    refine hK.out _ _ hS6 (fun hS7 => ?_)
    clear hK K
    try simp only [Act.put, List.getElem_toArray, List.getElem_cons_succ, List.getElem_cons_zero, List.setIfInBounds_toArray, List.set_cons_zero, List.set_cons_succ]
    refine wpAnyH_done (by kernel_rfl) ?_ _
    go_wp2_with fail
    go_end0
    have hfin := HSW.out.2
    exact ⟨rfl, hfin.1, hfin.2⟩
end Go.Proofs.Ytpmiekheiddihaa
