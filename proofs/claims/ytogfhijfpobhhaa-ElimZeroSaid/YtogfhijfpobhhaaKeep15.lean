/- The closure of ElimOthers by contract: the items that are agreed, in a currency. -/
import Derived.Test.YtogfhijfpobhhaaTwo
namespace Go.Proofs.Ytogfhijfpobhhaa
open Go.RowKit
def keepB (c : Int) (x : Itm) : Bool := x.t == 3 && x.c == c
def keepL (c : Int) (xs : List Itm) : List Itm := xs.filter (keepB c)
theorem keepL_take {c : Int} {xs : List Itm} {k : Nat} (hk : k < xs.length) : keepL c (xs.take (k + 1)) = keepL c (xs.take k) ++ (if keepB c xs[k] then [xs[k]] else []) := by
  unfold keepL
  rw [List.take_succ_eq_append_getElem hk, List.filter_append]
  congr 1
  cases h : keepB c xs[k] <;> simp [h]
theorem keep_sold (s b c : Int) (xs : List Itm) : soldL s b c (keepL c xs) = soldL s b c xs := by
  unfold soldL keepL
  rw [List.filter_filter]
  congr 1
  apply List.filter_congr
  intro x _
  unfold soldB keepB
  cases h1 : x.t == 3 <;> cases h2 : x.c == c <;> simp
theorem keep_good {me c : Int} {xs : List Itm} (h : GoodB me xs) : GoodB me (keepL c xs) :=
  ⟨List.Pairwise.sublist ((List.filter_sublist).map posI) h.1, fun x hx => h.2 x (List.mem_filter.1 hx).1⟩
theorem ins_last {X : List Itm} {x : Itm} (h : ∀ z ∈ X, ordP (posI z) (posI x) < 0) : insX X x = X ++ [x] := by
  unfold insX
  rw [List.filter_eq_self.2 (fun z hz => decide_eq_true (h z hz)), List.filter_eq_nil_iff.2 (fun z hz => by have := h z hz; simp; omega), List.append_nil]
theorem fold_self {me : Int} : ∀ (l P : List Itm), GoodB me (P ++ l) → foldX me P l = P ++ l
  | [], P, _ => by rw [List.append_nil]; rfl
  | x :: l, P, h => by
    have hx := h.2 x (by simp)
    have hs : ∀ z ∈ P, ordP (posI z) (posI x) < 0 := by
      have h1 := h.1
      unfold SortedP at h1
      rw [List.map_append, List.pairwise_append] at h1
      intro z hz
      exact h1.2.2 (posI z) (List.mem_map_of_mem hz) (posI x) (by simp)
    have e : foldX me P (x :: l) = foldX me (putX me P x) l := rfl
    have e2 : putX me P x = P ++ [x] := by unfold putX; rw [if_pos hx, ins_last hs]
    rw [e, e2, fold_self l (P ++ [x]) (by rw [List.append_assoc]; exact h), List.append_assoc]
    rfl
theorem fold_keep {me c : Int} {xs : List Itm} (h : GoodB me xs) : foldX me [] (keepL c xs) = keepL c xs := fold_self _ [] (keep_good h)
set_option linter.unusedSimpArgs false in
set_option maxHeartbeats 8000000 in
set_option maxRecDepth 100000 in
theorem keep_any (w : World) (v : Value) (g0 : Nat) (c : Int) (xs : List Itm) (hr : TRow encI w v xs) (hn : xs.length ≤ 2000) (h0 : w.cell? ⟨g0, 0, none⟩ = some (.int .i64 c)) :
    Calls Try.prog 20 #[v, .pointer (some ⟨g0, 0, none⟩)] w fun e w' => ∃ v', e = .returned v' ∧ OwnT encI w' w.heap.size 39 v' (keepL c xs) ∧ Below w.heap.size w w' := by
  obtain ⟨pv, cv, rfl⟩ := hr.shape
  have HR := Lib.hid hr
  have hg0 := World.block_lt_of_cell? w _ h0
  have HC0 := Lib.hid h0
  clear hr h0
  generalize hl : xs.length = ni at *
  have HL := Lib.hid hl
  clear hl
  have HREL : Hid (OwnT encI w w.heap.size 39 (.slice none 0 0) (keepL c (xs.take 0)) ∧ Below w.heap.size w w) := ⟨OwnT.nil_ _ _ _ _, Below.refl _ _⟩
  go_enter Try.func20, Try.ntmps20
  go_wp2_with fail
  go_loopw [4, 9] (fun v i wr => ∃ k : Nat, k ≤ ni ∧ i = .int .i64 k ∧ Hid (OwnT encI wr w.heap.size 39 v (keepL c (xs.take k)) ∧ Below w.heap.size w wr)) (fun _ i _ => ni - (intOf i).toNat)
  case atStart => exact ⟨0, by omega, rfl, HREL⟩
  case round =>
    obtain ⟨k, hk, rfl, HJ⟩ := hrel
    clear HREL
    by_cases hlt : k < ni
    · have hkl : k < xs.length := by rw [HL.out]; exact hlt
      have hltI : (k : Int) < (ni : Int) := by omega
      have HFS := Lib.hid (keepL_take (c := c) hkl)
      obtain ⟨b2, o2, rfl, hb2l, hcs⟩ := (HR.out.kept HJ.out.2).at_ k hkl
      generalize xs[k] = x at *
      have c0 : wr.cell? ⟨b2, o2 + k * 8, none⟩ = some (.int .i64 x.s) := hcs 0 (by decide)
      have c1 : wr.cell? ⟨b2, o2 + k * 8 + 1, none⟩ = some (.int .i64 x.n) := hcs 1 (by decide)
      have c2 : wr.cell? ⟨b2, o2 + k * 8 + 2, none⟩ = some (.int .i64 x.b) := hcs 2 (by decide)
      have c3 : wr.cell? ⟨b2, o2 + k * 8 + 3, none⟩ = some (.int .i64 x.c) := hcs 3 (by decide)
      have c4 : wr.cell? ⟨b2, o2 + k * 8 + 4, none⟩ = some (.int .i64 x.a) := hcs 4 (by decide)
      have c5 : wr.cell? ⟨b2, o2 + k * 8 + 5, none⟩ = some (.int .i64 x.r) := hcs 5 (by decide)
      have c6 : wr.cell? ⟨b2, o2 + k * 8 + 6, none⟩ = some (.int .i64 x.t) := hcs 6 (by decide)
      have c7 : wr.cell? ⟨b2, o2 + k * 8 + 7, none⟩ = some (.int .i64 x.y) := hcs 7 (by decide)
      obtain ⟨ho1, hw1⟩ := HJ.out
      obtain ⟨pz, cz, hvz⟩ := ho1.form
      have HZL : Hid ((keepL c (xs.take k)).length ≤ 2000) := by
        show _ ≤ _
        have h2 := List.length_filter_le (keepB c) (xs.take k)
        rw [List.length_take] at h2
        unfold keepL
        omega
      generalize hz : keepL c (xs.take k) = zs at *
      generalize hm : zs.length = m at *
      subst hvz
      have HMZ := Lib.hid hm
      have HO := Lib.hid (ho1.later (oneB wr (.cells #[.int .i64 x.s, .int .i64 x.n, .int .i64 x.b, .int .i64 x.c, .int .i64 x.a, .int .i64 x.r, .int .i64 x.t, .int .i64 x.y] 39)))
      have HW := Lib.hid (hw1.trans ((oneB wr (.cells #[.int .i64 x.s, .int .i64 x.n, .int .i64 x.b, .int .i64 x.c, .int .i64 x.a, .int .i64 x.r, .int .i64 x.t, .int .i64 x.y] 39)).mono hw1.size))
      have hm7 : m ≤ 2000 := HZL.out
      have hcur := (HW.out.cell (p := ⟨g0, 0, none⟩) hg0).trans HC0.out
      clear ho1 hw1 HJ hcs hm hz
      by_cases ht : x.t = 3
      · by_cases hc : x.c = c
        · have HSB : Hid (keepB c x = true) := by show _ = _; unfold keepB; simp [ht, hc]
          have e1 : (x.t == 3) = true := by simpa using ht
          have e2 : (x.c == c) = true := by simpa using hc
          clear ht hc
          have HFY : Hid (keepL c (xs.take (k + 1)) = zs ++ [x]) := by show _ = _; rw [HFS.out, HSB.out, if_pos rfl]
          clear HFS HSB
          go_wp2_with (at_builtin; with_reducible refine stop_appendI (.tmp 22) (.tmp 24) 22 rfl ?_)
          refine wpList_append_t rfl (.tmp 22) (.tmp 24) 22 rfl 39 zeroVI 64 w.heap.size eltI rfl (by decide) (.slice pz m cz) (.slice (some ⟨wr.heap.size + 1, 0, none⟩) 1 1) zs [x] rfl rfl (HO.out.later (oneB _ (.cells #[.int .i64 x.s, .int .i64 x.n, .int .i64 x.b, .int .i64 x.c, .int .i64 x.a, .int .i64 x.r, .int .i64 x.t, .int .i64 x.y] 39))) (TRow.one_ encI x (Blk.new' (wr.alloc (.cells #[.int .i64 x.s, .int .i64 x.n, .int .i64 x.b, .int .i64 x.c, .int .i64 x.a, .int .i64 x.r, .int .i64 x.t, .int .i64 x.y] 39)) #[.int .i64 x.s, .int .i64 x.n, .int .i64 x.b, .int .i64 x.c, .int .i64 x.a, .int .i64 x.r, .int .i64 x.t, .int .i64 x.y] 39 (b := wr.heap.size + 1) (by simp)) rfl (Nat.le_refl _)) (by have := HMZ.out; simp; omega) (by have := HW.out.size; simp at this ⊢; omega) (zs ++ [x]) (m + 1) rfl (by rw [List.length_append, HMZ.out]; rfl) ?_
          intro p9 c9 w9 ho9 _ hb9
          have HNX : Hid (OwnT encI w9 w.heap.size 39 (.slice p9 (m + 1) c9) (keepL c (xs.take (k + 1))) ∧ Below w.heap.size w w9) := ⟨by rw [HFY.out]; exact ho9, HW.out.trans (((Below.refl _ _).alloc HW.out.size _).trans hb9)⟩
          clear ho9 hb9
          go_wp2_with fail
          go_roundw
          case rel => exact ⟨k + 1, by omega, by go_num, HNX⟩
          case measure => simp [intOf]; omega
        · have HSB : Hid (keepB c x = false) := by show _ = _; unfold keepB; simp [hc]
          have e1 : (x.t == 3) = true := by simpa using ht
          have e2 : (x.c == c) = false := by simpa using hc
          clear ht hc
          have HNX : Hid (OwnT encI (wr.alloc (.cells #[.int .i64 x.s, .int .i64 x.n, .int .i64 x.b, .int .i64 x.c, .int .i64 x.a, .int .i64 x.r, .int .i64 x.t, .int .i64 x.y] 39)) w.heap.size 39 (.slice pz m cz) (keepL c (xs.take (k + 1))) ∧ Below w.heap.size w (wr.alloc (.cells #[.int .i64 x.s, .int .i64 x.n, .int .i64 x.b, .int .i64 x.c, .int .i64 x.a, .int .i64 x.r, .int .i64 x.t, .int .i64 x.y] 39))) := ⟨by rw [HFS.out, HSB.out, if_neg (by decide), List.append_nil]; exact HO.out, HW.out⟩
          clear HFS HSB
          go_wp2_with fail
          go_roundw
          case rel => exact ⟨k + 1, by omega, by go_num, HNX⟩
          case measure => simp [intOf]; omega
      · have HSB : Hid (keepB c x = false) := by show _ = _; unfold keepB; simp [ht]
        have e1 : (x.t == 3) = false := by simpa using ht
        clear ht
        have HNX : Hid (OwnT encI (wr.alloc (.cells #[.int .i64 x.s, .int .i64 x.n, .int .i64 x.b, .int .i64 x.c, .int .i64 x.a, .int .i64 x.r, .int .i64 x.t, .int .i64 x.y] 39)) w.heap.size 39 (.slice pz m cz) (keepL c (xs.take (k + 1))) ∧ Below w.heap.size w (wr.alloc (.cells #[.int .i64 x.s, .int .i64 x.n, .int .i64 x.b, .int .i64 x.c, .int .i64 x.a, .int .i64 x.r, .int .i64 x.t, .int .i64 x.y] 39))) := ⟨by rw [HFS.out, HSB.out, if_neg (by decide), List.append_nil]; exact HO.out, HW.out⟩
        clear HFS HSB
        go_wp2_with fail
        go_roundw
        case rel => exact ⟨k + 1, by omega, by go_num, HNX⟩
        case measure => simp [intOf]; omega
    · have hle : (ni : Int) ≤ (k : Int) := by omega
      have hkn : k = xs.length := by rw [HL.out]; omega
      have hK := HJ.out
      rw [hkn, List.take_length] at hK
      have HF := Lib.hid hK
      obtain ⟨pa, ca, hva⟩ := HF.out.1.form
      generalize (keepL c xs).length = na at hva
      subst hva
      clear HJ hK hkn
      go_wp2_with fail
      go_ret
      exact ⟨_, rfl, HF.out.1, HF.out.2⟩
/-- A row is not in a block. -/
def NeB (v : Value) (xs : List Itm) (g : Nat) : Prop := xs = [] ∨ ∀ k, v.ownBlock = some k → k ≠ g
theorem TRow.ne_new {w : World} {v : Value} {xs : List Itm} (h : TRow encI w v xs) : NeB v xs w.heap.size := by
  obtain ⟨p, c, rfl, _, h⟩ := h
  rcases h with h | ⟨b, o, rfl, hlt, _⟩
  · exact .inl h
  · right
    intro k hk e
    have e2 : b = k := Option.some.inj hk
    omega
theorem row_st3N {w : World} {v : Value} {xs : List Itm} {g : Nat} (h : TRow encI w v xs) (hn : NeB v xs g) (a b c : Value) : TRow encI (st3 w g a b c) v xs := by
  rcases hn with rfl | hn
  · obtain ⟨p, c', e, hc, _⟩ := h
    exact ⟨p, c', e, hc, .inl rfl⟩
  · exact h.st3 hn a b c
end Go.Proofs.Ytogfhijfpobhhaa
