/- The document's clock (contraref08): the place of a name, and the list without one. -/
import Derived.Test.YtpmiekheiddihaaClkR
namespace Go.Proofs.Ytpmiekheiddihaa
open Go.RowKit Go.Maps
def encL : Enc Du := ⟨2, fun d => [.string d.nm, .int .i64 d.t], by decide, fun _ => rfl, by intro x u hu; simp at hu; rcases hu with rfl | rfl <;> rfl⟩
def zeroL : Value := .agg #[.string ByteArray.empty, .int .i64 0]
theorem eltL : EltT encL Try.prog 26 45 zeroL 24 := eltT_mk Try.underlying26 (by kernel_rfl)
theorem madeL (w : World) (base : Nat) (hb : base ≤ w.heap.size) : OwnT encL (w.alloc (.cells #[] 45)) base 45 (.slice (some ⟨w.heap.size, 0, none⟩) 0 0) [] := ⟨by simp, .inr ⟨w.heap.size, 0, #[], rfl, hb, heap_alloc_new w _, Nat.le_refl _, by decide, by simp, by simp⟩⟩
/-- Where a name stands first, or -1. -/
def AtN (ds : List Du) (s : ByteArray) (r : Int) : Prop := (∃ (k : Nat) (h : k < ds.length), r = k ∧ ds[k].nm = s ∧ ∀ j (hj : j < ds.length), j < k → ds[j].nm ≠ s) ∨ (r = -1 ∧ ∀ d ∈ ds, d.nm ≠ s)
theorem AtN.none_ {ds : List Du} {s : ByteArray} {r : Int} (h : AtN ds s r) (h0 : r < 0) : dofU ds s = none := by
  rcases h with ⟨k, _, rfl, _⟩ | ⟨_, h⟩
  · omega
  · exact dof_none.2 h
theorem AtN.some_ {ds : List Du} {s : ByteArray} {r : Int} (hn : NamesU ds) (h : AtN ds s r) (h0 : 0 ≤ r) : ∃ (k : Nat) (hk : k < ds.length), r = k ∧ ds[k].nm = s ∧ ds.take k ++ ds.drop (k + 1) = dropU ds s ∧ dofU ds s = some ds[k].b := by
  rcases h with ⟨k, hk, rfl, h1, _⟩ | ⟨rfl, _⟩
  · refine ⟨k, hk, rfl, h1, ?_, by rw [← h1]; exact dof_mem hn (List.getElem_mem hk)⟩
    have e1 : ds = ds.take k ++ ds[k] :: ds.drop (k + 1) := by rw [← List.drop_eq_getElem_cons hk, List.take_append_drop]
    generalize ds[k] = d at *
    generalize ds.take k = A at *
    generalize ds.drop (k + 1) = B at *
    rw [e1] at hn ⊢
    unfold NamesU at hn
    rw [List.pairwise_append] at hn
    have h3 := List.pairwise_cons.1 hn.2.1
    unfold dropU
    rw [List.filter_append, List.filter_cons, if_neg (by simp [h1]), List.filter_eq_self.2, List.filter_eq_self.2]
    · intro e he
      exact decide_eq_true (fun h => h3.1 e he (h1.trans h.symm))
    · intro e he
      exact decide_eq_true (fun h => hn.2.2 e he d (by simp) (h.trans h1.symm))
  · omega
set_option linter.unusedSimpArgs false in
set_option maxHeartbeats 4000000 in
set_option maxRecDepth 100000 in
theorem rfind_any (w : World) (now : Int) (p : Option Addr) (n c : Nat) (ds : List Du) (s : ByteArray) (hr : TRow encL w (.slice p n c) ds) (hn : n = ds.length) (hl : ds.length ≤ 100000) :
    Calls Try.prog 17 #[.agg #[.int .i64 now, .slice p n c], .string s] w fun e w' => (∃ r : Int, e = .returned (.int .i64 r) ∧ AtN ds s r) ∧ Below w.heap.size w w' := by
  have HR := Lib.hid hr
  have HL : Hid (ds.length = n) := hn.symm
  have hl2 : n ≤ 100000 := by omega
  have HB : Hid (Below w.heap.size w (w.alloc (.cells #[.int .i64 now, .slice p n c] 28))) := Lib.hid (oneB w _)
  have HD := Lib.hid (Blk.new w #[.int .i64 now, .slice p n c] 28)
  clear hr hn hl
  go_enter Try.func17, Try.ntmps17
  go_upto_region 1 with fail
  generalize w.alloc (.cells #[.int .i64 now, .slice p n c] 28) = W1 at *
  generalize hgd : w.heap.size = gd at *
  have HGX : Hid (w.heap.size = gd) := hgd
  clear hgd
  go_wp2_with fail
  go_loopw [5] (fun i wr => ∃ k : Nat, k ≤ n ∧ i = .int .i64 k ∧ Hid (Below gd w wr ∧ Blk wr gd #[.int .i64 now, .slice p n c] 28 ∧ ∀ j (hj : j < ds.length), j < k → ds[j].nm ≠ s)) (fun i _ => n - (intOf i).toNat)
  case atStart => exact ⟨0, by omega, rfl, ⟨HB.out, HD.out, fun j hj h => by omega⟩⟩
  case round =>
    obtain ⟨k, hk, rfl, HK⟩ := hrel
    have d1 : wr.cell? ⟨gd, 1, none⟩ = some (.slice p n c) := HK.out.2.1.cell 1
    by_cases hlt : k < n
    · have hkl : k < ds.length := by rw [HL.out]; exact hlt
      have hltI : (k : Int) < (n : Int) := by omega
      obtain ⟨b, o, rfl, hbl, hcs⟩ := (HR.out.kept (by rw [HGX.out]; exact HK.out.1)).at_ k hkl
      obtain ⟨q, hq⟩ : ∃ q, ds[k] = q := ⟨_, rfl⟩
      rw [hq] at hcs
      have HQ := Lib.hid hq
      clear hq
      have c0 : wr.cell? ⟨b, o + k * 2, none⟩ = some (.string q.nm) := hcs 0 (by decide)
      clear hcs hbl
      have hkn : k + 1 ≤ 100001 := by omega
      by_cases hc : q.nm = s
      · have hcb : (q.nm.toList == s.toList) = true := by rw [hc]; exact bl_self s
        go_wp2_with fail
        go_ret
        refine ⟨⟨k, rfl, .inl ⟨k, hkl, rfl, by rw [HQ.out]; exact hc, HK.out.2.2⟩⟩, by rw [HGX.out]; exact HK.out.1⟩
      · have hcb : (q.nm.toList == s.toList) = false := bl_ne hc
        go_wp2_with fail
        go_roundw
        case rel => exact ⟨k + 1, by omega, by go_num, ⟨HK.out.1, HK.out.2.1, fun j hj h => by
          by_cases hjk : j = k
          · subst hjk; rw [HQ.out]; exact hc
          · exact HK.out.2.2 j hj (by omega)⟩⟩
        case measure => simp [intOf]; omega
    · have hltI : ¬ (k : Int) < (n : Int) := by omega
      go_wp2_with fail
      go_ret
      refine ⟨⟨-1, rfl, .inr ⟨rfl, fun x hx => ?_⟩⟩, by rw [HGX.out]; exact HK.out.1⟩
      obtain ⟨j, hj, rfl⟩ := List.getElem_of_mem hx
      exact HK.out.2.2 j hj (by have := HL.out; omega)
set_option linter.unusedSimpArgs false in
set_option maxHeartbeats 4000000 in
set_option maxRecDepth 100000 in
theorem rwithout_any (w : World) (p : Option Addr) (n c : Nat) (ds : List Du) (k : Nat) (hr : TRow encL w (.slice p n c) ds) (hn : n = ds.length) (hl : ds.length ≤ 5000) (hk : k < n) :
    Calls Try.prog 20 #[.slice p n c, .int .i64 k] w fun e w' => ∃ v, e = .returned v ∧ OwnT encL w' w.heap.size 45 v (ds.take k ++ ds.drop (k + 1)) ∧ Below w.heap.size w w' := by
  obtain ⟨b, o, rfl, -, -⟩ := hr.at_ k (by omega)
  have hcap := hr.cap
  have HN : Hid (ds.length = n ∧ n ≤ 5000 ∧ k < n) := Lib.hid ⟨hn.symm, by omega, hk⟩
  have HR0 := Lib.hid hr
  have HRW := Lib.hid (hr.kept (oneB w (.cells #[] 45)))
  have HTK := Lib.hid (HRW.out.take k (by omega))
  have HM := Lib.hid (madeL w w.heap.size (Nat.le_refl _))
  have HB0 := Lib.hid (oneB w (.cells #[] 45))
  have hkc : (k : Int) ≤ (c : Int) := by omega
  have hk1c : (k : Int) + 1 ≤ (n : Int) := by omega
  have hnc : n ≤ c := by omega
  have hkc2 : k ≤ c := by omega
  have hk1 : k + 1 ≤ n := by omega
  clear hr hn hl hcap hk
  go_enter Try.func20, Try.ntmps20
  go_wp2_with (at_builtin; with_reducible refine stop_appendU (.tmp 6) (.tmp 9) 26 rfl ?_)
  refine wpList_append_t rfl (.tmp 6) (.tmp 9) 26 rfl 45 zeroL 24 w.heap.size eltL rfl (by decide) (.slice (some ⟨w.heap.size, 0, none⟩) 0 0) (.slice (some ⟨b, o, none⟩) k c) [] (ds.take k) rfl rfl HM.out HTK.out (by rw [List.length_take]; simp; have := HN.out; omega) HB0.out.size (ds.take k) k (List.nil_append _) (by rw [List.length_take]; have := HN.out; omega) ?_
  intro p1 c1 w1 ho _ hbw
  have HO1 := Lib.hid ho
  have HB1 := Lib.hid (HB0.out.trans hbw)
  clear ho hbw HTK HM
  have e1 : wrap64 ((k : Int) + 1) = ((k + 1 : Nat) : Int) := by rw [IntWalk.wrap64_in _ (by have := HN.out; omega)]; omega
  have HK := Lib.hid (HR0.out.kept HB1.out)
  by_cases hck : c = k + 1
  · have hn1 : n = k + 1 := by omega
    subst hn1
    subst hck
    have HTD : Hid (TRow encL w1 (.slice (some ⟨b, o, none⟩) 0 0) (ds.drop (k + 1))) := Lib.hid (HK.out.tail (k + 1) (by have := HN.out; omega) (by have := HN.out; omega) (by omega) (fun b' o' e h => by have := HN.out; omega))
    go_wp2_with (at_builtin; with_reducible refine stop_appendU (.tmp 11) (.tmp 15) 26 rfl ?_)
    refine wpList_append_t rfl (.tmp 11) (.tmp 15) 26 rfl 45 zeroL 24 w.heap.size eltL rfl (by decide) (.slice p1 k c1) (.slice (some ⟨b, o, none⟩) 0 0) (ds.take k) (ds.drop (k + 1)) rfl rfl HO1.out HTD.out (by rw [List.length_take, List.length_drop]; have := HN.out; omega) HB1.out.size (ds.take k ++ ds.drop (k + 1)) k rfl (by rw [List.length_append, List.length_take, List.length_drop]; have := HN.out; omega) ?_
    intro p3 c3 w3 ho _ hbw
    have HO3 := Lib.hid ho
    have HB3 := Lib.hid (HB1.out.trans hbw)
    clear ho hbw HTD HO1
    go_wp2_with fail
    go_ret
    exact ⟨_, rfl, HO3.out, HB3.out⟩
  · have HTD : Hid (TRow encL w1 (.slice (some ⟨b, o + (k + 1) * 2, none⟩) (n - (k + 1)) (c - (k + 1))) (ds.drop (k + 1))) := Lib.hid (HK.out.tail (k + 1) (by have := HN.out; omega) (by have := HN.out; omega) (by omega) (fun b' o' e h => by cases e; rfl))
    go_wp2_with (at_builtin; with_reducible refine stop_appendU (.tmp 11) (.tmp 15) 26 rfl ?_)
    refine wpList_append_t rfl (.tmp 11) (.tmp 15) 26 rfl 45 zeroL 24 w.heap.size eltL rfl (by decide) (.slice p1 k c1) (.slice (some ⟨b, o + (k + 1) * 2, none⟩) (n - (k + 1)) (c - (k + 1))) (ds.take k) (ds.drop (k + 1)) rfl rfl HO1.out HTD.out (by rw [List.length_take, List.length_drop]; have := HN.out; omega) HB1.out.size (ds.take k ++ ds.drop (k + 1)) (n - 1) rfl (by rw [List.length_append, List.length_take, List.length_drop]; have := HN.out; omega) ?_
    intro p3 c3 w3 ho _ hbw
    have HO3 := Lib.hid ho
    have HB3 := Lib.hid (HB1.out.trans hbw)
    clear ho hbw HTD HO1
    go_wp2_with fail
    go_ret
    exact ⟨_, rfl, HO3.out, HB3.out⟩
end Go.Proofs.Ytpmiekheiddihaa
